import PyProof.Rows.All
import Wide.All
import OpenK.AllK
import Wide.FinOn
import PyProof.EqAt
import PyProof.EqKinds
import PyProof.TupleCall
import PyProof.NeKinds
import PyProof.StrLawsTight
import PyProof.ExcClass3
import PyProof.StationsW
import PyProof.ExcBaseAll.ValueError
import PyProof.NsDelKeeps
import PyProof.RulesAs
import PyProof.ExcArgsOwn
import PyProof.ExcAttrAll.ValueError
import PyProof.ZipIter
import PyProof.ListMulRoad
import KE.KDictSum
import PyProof.ListRange
import PyProof.Draws
import PyProof.EnumMake
import PyProof.Rows.Range3
import PyProof.Rows.SortShell
import PyProof.Conv_int_bool
import PyProof.Rows.SetFrom
import PyProof.Rows.SetObj
import PyProof.WalksMore
import KE.IntBitsLaws
import KE.KRevSl
import PyProof.FitsBits
import PyProof.CollectIter
import PyProof.IsRules
import PyProof.AttrMissHeap
import PyProof.WalksS
import KE.KDictOf
import PyProof.PureStr
import PyProof.StrOps2
import PyProof.SliceStr2
import PyProof.StrBlockI
import PyProof.CompFree
import PyProof.Rows.StrSplitJoin
import PyProof.StrCalls6
import PyProof.ConsumeWalk
import PyProof.StrLawsReplace
import PyProof.DictItems
import PyProof.Rows.SortRuns
import KE.KFind
import PyProof.Rows.StrSplitMax
import PyProof.Rows.SortStr
import PySem.Builtin.SetT
import PyProof.FactsAll.tuple_iterator_0
import PyProof.Rows.TupTab
import KE.KSortAsk
import Lean
import PySem.Challenge.RW_shutpairs_k57_whole_all_are_sent
set_option compiler.extract_closed false
local macro_rules | `(tactic| omega)=>`(tactic| first | lia | omega (config:={}))
set_option Elab.async false
set_option linter.all false
set_option maxRecDepth 100000
open List (length_map mem_cons map_cons size_toArray mem_map length_cons mem_cons_of_mem replicate getElem?_map length_append length_take take_length mem_of_getElem? mem_cons_self map_append getElem?_eq_getElem mem_append take_succ_eq_append_getElem mem_append_right all_eq_true mem_range take_of_length_le map_map getD_eq_getElem?_getD append_nil not_mem_nil length_drop mem_filter length find?_cons filter_cons all_map any_cons map_congr_left nodup_cons flatten_cons append_assoc pairwise_cons take_succ drop_eq_getElem_cons getElem_mem count_eq_zero)
open Nat (le_trans le_refl ne_of_lt zero_le lt_of_lt_of_le lt_irrefl le_succ lt_succ_of_lt lt_of_le_of_lt)
open Bool (and_eq_true false_eq_true)
open Option (map_eq_some_iff)
open Int (toNat_natCast le_of_lt)
namespace L2
open PySem PySem.Spec PyProof.Rows
abbrev Key:=Sum Int Str
def keyIs:Key->Value->Bool
 | .inl k,v=>Value.isInt k v
 | .inr x,v=>Value.isStrOf x v
def keyH(w:World):Key->Int
 | .inl k=>hashInt k
 | .inr x=>hashStr w x
theorem y3:∀{k:Key}{v:Value},keyIs k v=true->(∃i t,k=Sum.inl i/\v=Value.int i t)\/(∃x t,k=Sum.inr x/\v=Value.str x t)
 | .inl i,v,h=>by
  obtain⟨t,e⟩:=Value.isInt_shape (k:=i) (v:=v) h;exact .inl ⟨i,t,rfl,e⟩
 | .inr x,v,h=>by
  obtain⟨t,e⟩:=Value.isStrOf_shape (x:=x) (v:=v) h;exact .inr ⟨x,t,rfl,e⟩
theorem keyIs_int(i:Int)(t:Tok):keyIs (.inl i) (.int i t)=true:=by simp[keyIs,Value.isInt]
theorem keyIs_str(x:Str)(t:Tok):keyIs (.inr x) (.str x t)=true:=by simp[keyIs,Value.isStrOf]
theorem key_ll(a b:Int):decide ((Sum.inl a:Key)=Sum.inl b)=(a==b):=by
 by_cases e:a=b
 ·subst e;simp
 ·have h:¬(Sum.inl a:Key)=Sum.inl b:=fun q=>e (Sum.inl.inj q);rw[decide_eq_false h];exact(beq_eq_false_iff_ne.mpr e).symm
theorem key_rr(a b:Str):decide ((Sum.inr a:Key)=Sum.inr b)=decide (a=b):=by
 by_cases e:a=b
 ·subst e;simp
 ·have h:¬(Sum.inr a:Key)=Sum.inr b:=fun q=>e (Sum.inr.inj q);rw[decide_eq_false h,decide_eq_false e]
theorem key_lr(a:Int)(b:Str):decide ((Sum.inl a:Key)=Sum.inr b)=false:=decide_eq_false (fun q=>nomatch q)
theorem key_rl(a:Str)(b:Int):decide ((Sum.inr a:Key)=Sum.inl b)=false:=decide_eq_false (fun q=>nomatch q)
def yw(prog:Program)(w:World):PySem.KeyKind prog w Key where
 is:=keyIs
 hash:=keyH w
 inj:=fun v a b ha hb=>by
  rcases y3 ha with⟨i,t,rfl,rfl⟩|⟨x,t,rfl,rfl⟩
  ·rcases y3 hb with⟨j,u,rfl,e⟩|⟨y,u,rfl,e⟩
   ·injection e with e1 _;rw[e1]
   ·exact nomatch e
  ·rcases y3 hb with⟨j,u,rfl,e⟩|⟨y,u,rfl,e⟩
   ·exact nomatch e
   ·injection e with e1 _;rw[e1]
 byValue:=fun k v h=>by
  rcases y3 h with⟨i,t,rfl,rfl⟩|⟨x,t,rfl,rfl⟩ <;>rfl
 pyHash:=fun hv h=>by
  rcases y3 hv with⟨i,t,rfl,rfl⟩|⟨x,t,rfl,rfl⟩
  ·exact wpAny_pyHash_int h
  ·exact wpAny_pyHash_str h
 eqBool:=fun hu hv h=>by
  rcases y3 hu with⟨i,t,rfl,rfl⟩|⟨x,t,rfl,rfl⟩
  ·rcases y3 hv with⟨j,u,rfl,rfl⟩|⟨y,u,rfl,rfl⟩
   ·rw[key_ll]at h;exact wpAny_eqBool_int h
   ·rw[key_lr]at h;exact SeqAt.EqAt.int_str i t y u _ _ _ _ h
  ·rcases y3 hv with⟨j,u,rfl,rfl⟩|⟨y,u,rfl,rfl⟩
   ·rw[key_rl]at h;exact SeqAt.EqAt.str_int x t j u _ _ _ _ h
   ·rw[key_rr]at h;exact wpAny_eqBool_str h
 «strs»:=fun k x t v h=>by
  rcases y3 h with⟨i,u,rfl,e⟩|⟨y,u,rfl,e⟩
  ·exact nomatch e
  ·injection e with e1 _
   subst e1;cases v <;>rfl
theorem mixKind_int(prog:Program)(w:World)(i:Int)(t:Tok):(yw prog w).is (.inl i) (.int i t)=true:=keyIs_int i t
theorem mixKind_str(prog:Program)(w:World)(x:Str)(t:Tok):(yw prog w).is (.inr x) (.str x t)=true:=keyIs_str x t
inductive V where
 |non|bl (b:Bool)|int (i:Int)|str (x:Str)|byt (b:Array UInt8)|flt (b:UInt64)|ref (a:Addr)|ty (n:String)
 deriving DecidableEq
def RelV:V->Value->Prop
 | .non,u=>u=Value.none
 | .bl b,u=>u=Value.bool b
 | .int i,u=>∃ t,u=Value.int i t
 | .str x,u=>∃ t,u=Value.str x t
 | .byt b,u=>∃ t,u=Value.bytes b t
 | .flt b,u=>∃ t,u=Value.float b t
 | .ref a,u=>u=Value.ref a
 | .ty n,u=>u=Value.type n
abbrev Vals:List V->List Value->Prop:=Paired RelV
theorem Vals.length{xs:List V}{us:List Value}(r:Vals xs us):xs.length=us.length:=Paired.length r
theorem Vals.get:∀{xs:List V}{us:List Value}{i:Nat}{x:V},Vals xs us->xs[i]? =some x-> ∃u,us[i]? =some u/\RelV x u
 | _,_,_,_,.nil,e=>by simp at e
 | _,_,0,_,.cons r _,e=>by simp at e;subst e;exact⟨_,rfl,r⟩
 | _,_,i+1,x,.cons _ t,e=>by
  obtain⟨u,h1,h2⟩:=Vals.get (i:=i) (x:=x) t (by simpa using e);exact⟨u,by simpa using h1,h2⟩
theorem Vals.set{x:V}{u:Value}(r:RelV x u):∀{xs:List V}{us:List Value}(i:Nat),Vals xs us->Vals (xs.set i x) (us.set i u)
 | _,_,_,.nil=>.nil
 | _,_,0,.cons _ t=>.cons r t
 | _,_,i+1,.cons q t=>.cons q (Vals.set r i t)
theorem Vals.append:∀{xs ys:List V}{us ws:List Value},Vals xs us->Vals ys ws->Vals (xs++ys) (us++ws)
 | _,_,_,_,.nil,s=>s
 | _,_,_,_,.cons r t,s=>.cons r (Vals.append t s)
theorem Vals.take:∀{xs:List V}{us:List Value}(n:Nat),Vals xs us->Vals (xs.take n) (us.take n)
 | _,_,0,_=>.nil
 | _,_,_+1,.nil=>.nil
 | _,_,n+1,.cons r t=>.cons r (Vals.take n t)
theorem Vals.drop:∀{xs:List V}{us:List Value}(n:Nat),Vals xs us->Vals (xs.drop n) (us.drop n)
 | _,_,0,r=>r
 | _,_,_+1,.nil=>.nil
 | _,_,n+1,.cons _ t=>Vals.drop n t
def RelO:Option V->Option Value->Prop
 |some v,some u=>RelV v u
 |none,none=>True
 | _,_=>False
def KV{κ:Type}:List (κ×V)->List (κ×Value)->Prop:=Paired fun(p:κ×V)(q:κ×Value)=>p.1=q.1/\RelV p.2 q.2
def kV:Key->V
 | .inl i=>.int i
 | .inr x=>.str x
inductive HO where
  |lst (xs:List V)
  |tup (xs:List V)
  |dK (kvs:List (Key×V))|dT (kvs:List (List Key×V))
  |set (S:Int->Bool) (n:Nat)
  |ins (C dx:Addr) (fs:List (Str×V))
  |own (x:Addr)
  |xd (fs:List (Str×V))
  |met (f x:Addr)
  |rng (lo hi:Int)
  |frz (o:Obj) (u:HO)
  |tbl (ps:Array Value)
  |ext (φ:Heap->Prop)
abbrev Hp:=Addr->Option HO
def upd(H:Hp)(a:Addr)(o:HO):Hp:=fun b=>if b=a then some o else H b
theorem z6{H:Hp}{a:Addr}{o:HO}:upd H a o a=some o:=by unfold upd;rw[if_pos rfl]
theorem zh{H:Hp}{a b:Addr}{o:HO}(h:b≠a):upd H a o b=H b:=by unfold upd;rw[if_neg h]
theorem upd_upd{H:Hp}{a:Addr}{o u:HO}:upd (upd H a o) a u=upd H a u:=by
 funext b;unfold upd;split <;>rfl
theorem ne_of{H:Hp}{a b:Addr}{o u:HO}(h:H a=some o)(h':H b=some u)(d:o≠u):a≠b:=by
 intro e;subst e;rw[h]at h';exact d (Option.some.inj h')
theorem zo{H:Hp}{a b:Addr}{o:HO}(h:H a=some o)(h':H b=none):a≠b:=by
 intro e;subst e;rw[h]at h';cases h'
section
variable(P:Program)(w:World)
def yh(H:Hp)(h:Heap)(a:Addr):HO->Prop
 | .lst xs=>xs.length<=sizeLine/\ ∃(its:List Value)(n:Nat),Vals xs its/\h.get? a=some {cls:=.type "list",data:=.seq its.toArray n}
 | .tup xs=>xs.length<=sizeLine/\ ∃its:List Value,Vals xs its/\IsTup h a its.toArray/\ ∀o,h.get? a=some o->o.dict=none
 | .dK kvs=>kvs.length<=sizeLine/\(a==sysModules)=false/\ ∃vs,KV kvs vs/\h.DictOf (yw P w) a vs
 | .dT kvs=>kvs.length<=sizeLine/\(a==sysModules)=false/\ ∃xs:List (List Key×Addr×Value),
   Paired (fun(p:List Key×V)(q:List Key×Addr×Value)=>p.1=q.1/\H q.2.1=some (.tup (p.1.map kV))/\RelV p.2 q.2.2) kvs xs/\
   ∃o es ep,h.get? a=some o/\o.ExactDict/\o.data= .dict es ep/\es.toList=xs.map (entryOfKey (tupleKind (yw P w)))/\(xs.map (·.1)).Nodup
 | .set S n=>h.SetOf (intKind P w) a S n
 | .ins C dx fs=>H dx=some (.own a)/\fs.length<=1000/\dx≠a/\h.get? a=some (W.instObj C dx)/\
   ∃mA,h.Ns1 dx mA/\(∀f,RelO (fs.lookup f) (mA f))/\PySem.Within mA (fs.map (·.1))
 | .own _=>∃ o,h.get? a=some o
 | .xd fs=>∃ mA,h.Ns1 a mA/\ ∀f,RelO (fs.lookup f) (mA f)
 | .rng lo hi=>∃ t u v,h.get? a=some {cls:=.type "range",data:=.fields #[.int lo t,.int hi u,.int 1 v]}
 | .frz o u=>h.get? a=some o/\yh H h a u
 | .tbl ps=>h.get? a=some {cls:=.none,data:=.fields ps}
 | .met f x=>h.get? a=some (W.methodObj (.ref f) (.ref x))
 | .ext φ=>φ h/\(∃o,h.get? a=some o)/\ ∀h1 h2:Heap,φ h1->(∀o,h1.get? a=some o->h2.get? a=some o)-> φ h2
theorem tup_nodict{h:Heap}{its:Array Value}:∀o,(h.push {cls:=.type "tuple",data:=.seq its}).get? h.objs.size=some o->o.dict=none:=by
 intro o e;rw[Heap.get?_push_size _ rfl]at e;cases e;rfl
def HOk(H:Hp)(h:Heap):Prop:=∀ a o,H a=some o->yh P w H h a o
end
section
variable{P:Program}{w:World}{H H':Hp}{h h':Heap}{a:Addr}{o:HO}
theorem yh.lt(x:yh P w H h a o):a<h.objs.size:=by
 cases o with
 |lst xs=>obtain⟨_,_,_,_,e⟩:=x;exact Heap.lt_size e
 |tup xs=>obtain⟨_,_,_,p,_⟩:=x;exact p.lt
 |dK kvs=>obtain⟨_,_,_,_,o,_,_,e,_⟩:=x;exact Heap.lt_size e
 |dT kvs=>obtain⟨_,_,_,_,o,_,_,e,_⟩:=x;exact Heap.lt_size e
 |set S n=>obtain⟨o,_,_,_,e,_⟩:=x;exact Heap.lt_size e
 |ins C dx fs=>obtain⟨_,_,_,e,_⟩:=x;exact Heap.lt_size e
 |own y=>obtain⟨_,e⟩:=x;exact Heap.lt_size e
 |xd fs=>obtain⟨_,⟨_,_,_,e,_⟩,_⟩:=x;exact Heap.lt_size e
 |rng lo hi=>obtain⟨_,_,_,e⟩:=x;exact Heap.lt_size e
 |frz ob u=>obtain⟨e,_⟩:=x;exact Heap.lt_size e
 |tbl ps=>exact Heap.lt_size (show h.get? a=some _ from x)
 |met f y=>exact Heap.lt_size (show h.get? a=some _ from x)
 |ext φ=>obtain⟨_,⟨_,e⟩,_⟩:=x;exact Heap.lt_size e
theorem Paired.mapP{α β:Type}{F G:α-> β->Prop}:∀{l₁:List α}{l₂:List β},Paired F l₁ l₂->(∀a b,F a b->G a b)->Paired G l₁ l₂
 | _,_,.nil,_=>.nil
 | _,_,.cons r t,f=>.cons (f _ _ r) (Paired.mapP t f)
theorem yh.stay(x:yh P w H h a o)(k:∀b u,(b=a\/H b=some (.own a))->h.get? b=some u->h'.get? b=some u)(ho:∀b,H b=some (.own a)->H' b=some (.own a))(ht:∀b xs,H b=some (.tup xs)->H' b=some (.tup xs)):yh P w H' h' a o:=by
 induction o with
 |lst xs=>obtain⟨z,its,n,r,e⟩:=x;exact⟨z,its,n,r,k _ _ (.inl rfl) e⟩
 |tup xs =>
  obtain⟨z,its,r,⟨ob,e,c⟩,nd⟩:=x;have e':=k _ _ (.inl rfl) e;exact⟨z,its,r,⟨ob,e',c⟩,fun o q=>by rw[e']at q;cases q;exact nd ob e⟩
 |dK kvs=>obtain⟨z,y,vs,r,ob,es,ep,e,c⟩:=x;exact⟨z,y,vs,r,ob,es,ep,k _ _ (.inl rfl) e,c⟩
 |dT kvs =>
  obtain⟨z,y,xs,r,ob,es,ep,e,c⟩:=x;exact⟨z,y,xs,Paired.mapP r fun p q z=>⟨z.1,ht _ _ z.2.1,z.2.2⟩,ob,es,ep,k _ _ (.inl rfl) e,c⟩
 |set S n=>obtain⟨ob,es,ep,t,e,c⟩:=x;exact⟨ob,es,ep,t,k _ _ (.inl rfl) e,c⟩
 |ins C dx fs =>
  obtain⟨d,z,ne,e,mA,⟨od,es,ep,e2,c⟩,r⟩:=x;exact⟨ho _ d,z,ne,k _ _ (.inl rfl) e,mA,⟨od,es,ep,k _ _ (.inr d) e2,c⟩,r⟩
 |own y=>obtain⟨ob,e⟩:=x;exact⟨ob,k _ _ (.inl rfl) e⟩
 |xd fs=>obtain⟨mA,⟨od,es,ep,e,c⟩,r⟩:=x;exact⟨mA,⟨od,es,ep,k _ _ (.inl rfl) e,c⟩,r⟩
 |rng lo hi=>obtain⟨t,u,v,e⟩:=x;exact⟨t,u,v,k _ _ (.inl rfl) e⟩
 |frz ob u ih=>obtain⟨e,q⟩:=x;exact⟨k _ _ (.inl rfl) e,ih q⟩
 |tbl ps =>
  have e:h.get? a=some {cls:=.none,data:=.fields ps}:=x;show h'.get? a=some {cls:=.none,data:=.fields ps};exact k a _ (.inl rfl) e
 |met f y =>
  have e:h.get? a=some (W.methodObj (.ref f) (.ref y)):=x;show h'.get? a=some (W.methodObj (.ref f) (.ref y));exact k a _ (.inl rfl) e
 |ext φ=>obtain⟨p,⟨o,e⟩,st⟩:=x;exact⟨st _ _ p fun o q=>k _ _ (.inl rfl) q,⟨o,k _ _ (.inl rfl) e⟩,st⟩
theorem HOk.lt(x:HOk P w H h)(e:H a=some o):a<h.objs.size:=(x a o e).lt
theorem HOk.fresh(x:HOk P w H h)(e:h.objs.size<=a):H a=none:=by
 cases q:H a with
 |none=>rfl
 |some u=>exact absurd (lt_of_lt_of_le (x.lt q) e) (lt_irrefl _)
theorem HOk.kept(x:HOk P w H h)(k:∀b u,h.get? b=some u->h'.get? b=some u):HOk P w H h':=fun a o e =>
 (x a o e).stay (fun b u _ q=>k b u q) (fun _ q=>q) fun _ _ q=>q
theorem HOk.laid(x:HOk P w H h)(k:∀b u,h.get? b=some u->h'.get? b=some u)(hp:h.objs.size<=a)(new:yh P w (upd H a o) h' a o):HOk P w (upd H a o) h':=fun b u e=>by
 have hn:=x.fresh hp;by_cases hb:b=a
 ·subst hb;rw[z6]at e;cases e;exact new
 ·rw[zh hb]at e;exact(x b u e).stay (fun c v _ q=>k c v q) (fun c q=>by rw[zh (zo q hn)];exact q) fun c xs q=>by rw[zh (zo q hn)];exact q
end
def Rd(H:Hp)(a:Addr)(u:HO):Prop:=H a=some u\/ ∃o,H a=some (.frz o u)
theorem Rd.ok{P:Program}{w:World}{H:Hp}{h:Heap}{a:Addr}{u:HO}(r:Rd H a u)(x:HOk P w H h):yh P w H h a u:=by
 rcases r with r|⟨o,r⟩
 ·exact x a u r
 ·obtain⟨_,q⟩:=x a _ r;exact q
def Mut:Option HO->Prop
 |some (.lst _)=>True
 |some (.dK _)=>True
 |some (.dT _)=>True
 |some (.set _ _)=>True
 |some (.ins _ _ _)=>True
 |some (.ext _)=>True
 | _=>False
section
variable{P:Program}{w:World}{H:Hp}{h h':Heap}{x e:Addr}{o':HO}
theorem HOk.write(ok:HOk P w H h)(mu:Mut (H x))(he:e=x\/H e=some (.own x))(k:∀b u,b≠e->h.get? b=some u->h'.get? b=some u)(heo:∃u,h'.get? e=some u)(new:yh P w (upd H x o') h' x o'):HOk P w (upd H x o') h':=fun b u q=>by
 have nown:∀c y,H c=some (.own y)->c≠x:=fun c y r z=>by subst z;rw[r]at mu;exact mu
 have ntup:∀c xs,H c=some (.tup xs)->c≠x:=fun c xs r z=>by subst z;rw[r]at mu;exact mu
 by_cases hb:b=x
 ·subst hb;rw[z6]at q;cases q;exact new
 ·rw[zh hb]at q;by_cases hbe:b=e
  ·have q':H b=some (.own x):=by
    rcases he with z|z
    ·exact absurd (hbe.trans z) hb
    ·rw[hbe];exact z
   rw[q]at q';cases q';obtain⟨v,hv⟩:=heo;exact⟨v,by rw[hbe];exact hv⟩
  ·refine(ok b u q).stay (fun c v hc r=>k c v ?_ r) (fun c r=>by rw[zh (nown c b r)];exact r) fun c xs r=>by rw[zh (ntup c xs r)];exact r
   rcases hc with rfl|hc
   ·exact hbe
   ·rintro rfl;rcases he with z|z
    ·exact nown c b hc z
    ·rw[hc]at z;cases z;exact hb rfl
end
structure Un(fs ex:List Addr)(H H':Hp)(h h':Heap):Prop where
 keep:∀b o,h.get? b=some o->H b=none->b∉fs->b∉ex->h'.get? b=some o
 slot:∀b o,h.get? b=some o->H b=none->b∈fs->b∉ex-> ∃sl,h'.get? b=some {o with slots:=sl}
 free:∀b o,h.get? b=some o->H b=none->b∉ex->H' b=none
 there:∀b o,h.get? b=some o->b∉ex-> ∃o',h'.get? b=some o'
 tups:∀b xs,H b=some (.tup xs)->H' b=some (.tup xs)
 frzs:∀b o u,H b=some (.frz o u)->H' b=some (.frz o u)
 tbls:∀b ps,H b=some (.tbl ps)-> ∃more,H' b=some (.tbl (ps++more))
section
variable{fs fs' ex ex':List Addr}{H H1 H2:Hp}{h h1 h2 h':Heap}{a x e:Addr}{o:HO}
theorem Un.any(u:Un fs ex H H1 h h1){b:Addr}{ob:Obj}(q:h.get? b=some ob)(n:H b=none)(hx:b∉ex):∃sl,h1.get? b=some {ob with slots:=sl}:=by
 by_cases hb:b∈fs
 ·exact u.slot b ob q n hb hx
 ·exact⟨ob.slots,u.keep b ob q n hb hx⟩
theorem Un.kept(k:∀b u,h.get? b=some u->h'.get? b=some u):Un fs ex H H h h' :=
 ⟨fun b ob q _ _ _=>k b ob q,fun b ob q _ _ _=>⟨ob.slots,k b ob q⟩,fun _ _ _ n _=>n,fun b ob q _=>⟨ob,k b ob q⟩,fun _ _ q=>q,fun _ _ _ q=>q,fun _ ps q=>⟨#[],by rw[q];simp⟩⟩
theorem Un.refl:Un fs ex H H h h:=Un.kept fun _ _ q=>q
theorem Un.laid(k:∀b u,h.get? b=some u->h'.get? b=some u)(hp:h.objs.size<=a)(hn:H a=none):Un fs ex H (upd H a o) h h' where
 keep:=fun b u q _ _ _=>k b u q
 slot:=fun b u q _ _ _=>⟨u.slots,k b u q⟩
 free:=fun b u q n _=>by rw[zh (ne_of_lt (lt_of_lt_of_le (Heap.lt_size q) hp))];exact n
 there:=fun b u q _=>⟨u,k b u q⟩
 tups:=fun b xs q=>by rw[zh (zo q hn)];exact q
 frzs:=fun b u xs q=>by rw[zh (zo q hn)];exact q
 tbls:=fun b ps q=>⟨#[],by rw[zh (zo q hn),q];simp⟩
theorem Un.write(mu:Mut (H x))(he:e=x\/H e=some (.own x))(k:∀b u,b≠e->h.get? b=some u->h'.get? b=some u)(heo:∃u,h'.get? e=some u):Un fs ex H (upd H x o) h h':=by
 have hx:∀b,H b=none->b≠x:=fun b n z=>by subst z;rw[n]at mu;exact mu
 have hb:∀b,H b=none->b≠e:=fun b n z=>by
  subst z;rcases he with r|r
  ·exact hx b n r
  ·rw[n]at r;cases r
 have hm:∀b u,H b=some u-> ¬Mut (some u)->b≠x:=fun b u q nm z=>by subst z;rw[q]at mu;exact nm mu
 refine⟨fun b u q n _ _=>k b u (hb b n) q,fun b u q n _ _=>⟨u.slots,k b u (hb b n) q⟩,fun b u q n _=>by rw[zh (hx b n)];exact n,fun b u q _=>?_,
  fun b xs q=>by rw[zh (hm b _ q fun z=>z)];exact q,fun b u xs q=>by rw[zh (hm b _ q fun z=>z)];exact q,fun b ps q=>⟨#[],by rw[zh (hm b _ q fun z=>z),q];simp⟩⟩
 by_cases hbe:b=e
 ·subst hbe;exact heo
 ·exact⟨u,k b u hbe q⟩
end
def trk(h:Heap)(H:Hp):List Addr:=(List.range h.objs.size).filter fun a=>(H a).isSome
def hidT(h:Heap)(H:Hp):Heap:=W.hideAll h (trk h H)
theorem hidT_size(h:Heap)(H:Hp):(hidT h H).objs.size=h.objs.size:=W.hideAll_size _ _
theorem hidT_get{h:Heap}{H:Hp}{b:Addr}{o:Obj}(e:h.get? b=some o)(n:H b=none):(hidT h H).get? b=some o :=
 W.hideAll_get _ e fun hm=>by
  have q:(H b).isSome=true:=(mem_filter.mp hm).2;rw[n]at q;simp at q
theorem of_hidT{h:Heap}{H:Hp}{b:Addr}{o:Obj}(e:(hidT h H).get? b=some o):h.get? b=some o/\H b=none:=by
 have e':h.get? b=some o:=W.of_hideAll (trk h H) e;refine⟨e',?_⟩;cases q:H b with
 |none=>rfl
 |some x =>
  have hm:b∈trk h H:=mem_filter.mpr ⟨mem_range.mpr (Heap.lt_size e'),by simp[q]⟩;have z:(hidT h H).get? b=none:=W.hideAll_none (trk h H) hm;rw[z]at e;cases e
def allNews(g h:Heap)(L:Addr):List (Addr×Obj):=(List.range h.objs.size).filterMap fun a=>if a=L\/(g.get? a).isSome=true then none else(h.get? a).map fun o=>(a,o)
def rest(g h:Heap)(L d:Addr):List (Addr×Obj):=(allNews g h L).filter fun p=>decide (p.1≠d)
structure Mod(K:W.Frag)(mg:Str->Option Value)(base:Heap):Prop where
 kin:K.In base
 glob:base.Ns mainGlobals mg
 blt:∃mb,base.Ns builtinsNs mb/\ ∀x:Str,x≠"__name__"->mb x=bootBuiltins x
 nolimit:base.NoLimit
structure Cx where
 prog:Program
 w:World
 K:W.Frag
 mg:Str->Option Value
 base:Heap
 A:Around
 N:List Str
 s₀:Shared
 H₀:Hp
 env:Env
 outer:List Env
 stack:List Env
 ex:List Addr
 fn:Str->Bool
 calm:Bool
 pn:List (Addr×Obj)
 xe:Value->Shared->Prop
def frs(l:List Env):List Addr:=l.filterMap (·.frame)
abbrev Cx.fs(X:Cx):List Addr:=frs X.outer
def Vis(sc:Scope)(x:Str):Prop:=sc.names.lookup x=some .local\/sc.names.lookup x=some .cell\/sc.names.lookup x=some .free
def Loc(sc:Scope)(x:Str):Prop:=sc.names.lookup x=some .local\/sc.names.lookup x=some .cell
def Look(env:Env)(h:Heap)(m:Str->Option Value)(x:Str)(u:Value):Prop :=
 (env.kindOf x=some .local/\m x=some u)\/((env.kindOf x=some .cell\/env.kindOf x=some .free)/\ ∃c,env.cells.lookup x=some c/\h.IsCell c (some u))
structure Cx.Ok(X:Cx):Prop where
 mod:Mod X.K X.mg X.base
 kind:X.env.scope.kind= .function
 glob:X.env.globals=mainGlobals
 blt:X.env.builtins=builtinsNs
 above:X.s₀.heap.objs.size<=X.env.locals
 inj:∀x y c,X.env.cells.lookup x=some c->X.env.cells.lookup y=some c->x=y
 has:∀x,(X.env.kindOf x=some .cell\/X.env.kindOf x=some .free)-> ∃c,X.env.cells.lookup x=some c
 cab:∀x c,X.fn x=true->X.env.cells.lookup x=some c->X.s₀.heap.objs.size<=c
 hd:X.calm=true->X.A.handled=none
 frames:X.A.frames=some X.stack
 stk:X.stack=X.outer\/(X.stack=X.env::X.outer/\X.env.frame=some X.env.locals)
 exf:∀b∈X.ex,b≠X.env.locals/\ ∀x c,X.env.cells.lookup x=some c->c≠b
 bs:∀b o,X.base.get? b=some o->X.s₀.heap.get? b=some o/\X.H₀ b=none
 bsz:X.base.objs.size<=X.s₀.heap.objs.size
 noex:∀b o,X.base.get? b=some o->b∉X.ex
 exfs:∀b∈X.ex,b∉X.fs
 funs:X.s₀.heap.FunFrames X.base X.outer
 frf:∀b∈X.fs,X.H₀ b=none
structure Inv(X:Cx)(pins:List (Addr×Obj))(σ:List (Option V))(H:Hp)(s:Shared):Prop where
 ok:X.Ok
 os:s.os=X.s₀.os
 bare:AllBare s.gens
 base:Un X.fs X.ex X.H₀ H X.s₀.heap s.heap
 loc:∃m,s.heap.Ns X.env.locals m/\ ∀(i:Nat)(x:Str)(v:V),X.N[i]? =some x-> σ[i]? =some (some v)->Vis X.env.scope x-> ∃u,RelV v u/\Look X.env s.heap m x u
 cell:∀x c,X.env.cells.lookup x=some c-> ∃v,s.heap.IsCell c v
 free:H X.env.locals=none
 freeC:∀x c,X.env.cells.lookup x=some c->H c=none
 pin:∀p∈X.pn++pins,s.heap.get? p.1=some p.2/\H p.1=none/\p.1≠X.env.locals/\p.1∉X.fs/\ ∀v,p.2.data≠ .cell v
 hok:HOk X.prog X.w H s.heap
 len:σ.length=X.N.length
section
variable{X:Cx}{pins:List (Addr×Obj)}{σ:List (Option V)}{H H':Hp}{s:Shared}{h':Heap}
theorem Cx.Ok.nofr(ok:X.Ok){b:Addr}{o:Obj}(e:X.base.get? b=some o):b∉X.fs:=fun hb=>by
 have:=(ok.funs.mem hb).1;rw[e]at this;cases this
theorem Inv.bs(I:Inv X pins σ H s):∀b o,X.base.get? b=some o->s.heap.get? b=some o/\H b=none:=fun b o e =>
 ⟨I.base.keep b o (I.ok.bs b o e).1 (I.ok.bs b o e).2 (I.ok.nofr e) (I.ok.noex b o e),I.base.free b o (I.ok.bs b o e).1 (I.ok.bs b o e).2 (I.ok.noex b o e)⟩
theorem Inv.bk(I:Inv X pins σ H s):∀b o,X.base.get? b=some o->s.heap.get? b=some o:=fun b o e=>(I.bs b o e).1
theorem Inv.mod(I:Inv X pins σ H s):Mod X.K X.mg X.base:=I.ok.mod
theorem Inv.kIn(I:Inv X pins σ H s):X.K.In s.heap:=I.ok.mod.kin.keeps I.bk
theorem Inv.lt(I:Inv X pins σ H s):X.env.locals<s.heap.objs.size:=let⟨_,hn,_⟩:=I.loc;hn.lt
theorem Inv.sz(I:Inv X pins σ H s):X.s₀.heap.objs.size<=s.heap.objs.size:=le_trans I.ok.above (Nat.le_of_lt I.lt)
theorem Inv.nofs(I:Inv X pins σ H s){a:Addr}(h:s.heap.objs.size<=a):a∉X.fs:=fun hb=>by
 obtain⟨_,o,ho,_⟩:=I.ok.funs.mem hb;exact absurd (lt_of_lt_of_le (Heap.lt_size ho) (le_trans I.sz h)) (lt_irrefl _)
theorem Inv.cne(I:Inv X pins σ H s):∀x c,X.env.cells.lookup x=some c->c≠X.env.locals:=fun x c e z=>by
 obtain⟨v,o,ho,hd⟩:=I.cell x c e;obtain⟨m,⟨o',es,ep,ho',hd',_⟩,_⟩:=I.loc;rw[z,ho']at ho;cases ho;rw[hd']at hd;cases hd
theorem Inv.funs(I:Inv X pins σ H s):s.heap.FunFrames X.base X.outer:=by
 have all:∀(l:List Env),(∀b∈frs l,b∈X.fs)->X.s₀.heap.FunFrames X.base l->s.heap.FunFrames X.base l:=by
  intro l
  induction l with
  |nil=>intro _ _;trivial
  |cons env r ih =>
   intro hs hl;obtain⟨hk,⟨L,o,hf,hn,ho,hd⟩,hr⟩:=hl;have hL:L∈X.fs:=hs L (by unfold frs;rw[List.filterMap_cons,hf];exact mem_cons_self);obtain⟨sl,e⟩:=I.base.slot L o ho (I.ok.frf L hL) hL fun z=>I.ok.exfs L z hL;exact⟨hk,⟨L,_,hf,hn,e,hd⟩,ih (fun b hb=>hs b (by unfold frs;rw[List.filterMap_cons,hf];exact mem_cons_of_mem _ hb)) hr⟩
 exact all X.outer (fun _ hb=>hb) I.ok.funs
theorem Inv.stack(I:Inv X pins σ H s):s.heap.FunFrames X.base X.stack:=by
 rcases I.ok.stk with e|⟨e,hf⟩
 ·rw[e];exact I.funs
 ·rw[e];obtain⟨m,hn,_⟩:=I.loc;refine .cons (by rw[I.ok.kind];decide) hf hn ?_ I.funs;exact Heap.get?_none_of_le (le_trans I.ok.bsz I.ok.above)
theorem Inv.stkSub(I:Inv X pins σ H s):∀b∈frs X.stack,b∈X.env.locals::X.fs:=fun b hb=>by
 rcases I.ok.stk with e|⟨e,hf⟩
 ·rw[e]at hb;exact mem_cons_of_mem _ hb
 ·rw[e]at hb;unfold frs at hb;rw[List.filterMap_cons,hf]at hb;exact hb
theorem Inv.stkFree(I:Inv X pins σ H s):∀b∈frs X.stack,H b=none:=fun b hb=>by
 rcases mem_cons.mp (I.stkSub b hb)with e|hb
 ·rw[e];exact I.free
 ·obtain⟨_,o,ho,_⟩:=I.ok.funs.mem hb;exact I.base.free b o ho (I.ok.frf b hb) fun z=>I.ok.exfs b z hb
theorem Inv.step{g':Array GenState}{t':Nat}{d':Drawn}{ch:List Addr}(I:Inv X pins σ H s)(hch:∀b∈ch,(b∈X.ex\/X.s₀.heap.objs.size<=b)/\b≠X.env.locals/\(∀x c,X.env.cells.lookup x=some c->c≠b)/\ ∀p∈X.pn++pins,p.1≠b)(keep:∀b o,b≠X.env.locals->b∉X.fs->b∉ch->s.heap.get? b=some o->H b=none->h'.get? b=some o)(slot:∀b o,b≠X.env.locals->b∈X.fs->b∉ch->s.heap.get? b=some o->H b=none-> ∃sl,h'.get? b=some {o with slots:=sl})(free:∀b o,b∉ch->s.heap.get? b=some o->H b=none->H' b=none)(there:∀b o,b∉ch->s.heap.get? b=some o-> ∃o',h'.get? b=some o')(tups:∀b xs,H b=some (.tup xs)->H' b=some (.tup xs))(frzs:∀b o u,H b=some (.frz o u)->H' b=some (.frz o u))(tbls:∀b ps,H b=some (.tbl ps)-> ∃more,H' b=some (.tbl (ps++more)))(ns:∀m,s.heap.Ns X.env.locals m->h'.Ns X.env.locals m)(hok:HOk X.prog X.w H' h')(hg:AllBare g') :
  Inv X pins σ H' {s with heap:=h',gens:=g',drawn:=d',toks:=t'}:=by
 have neL:∀b o,X.s₀.heap.get? b=some o->b≠X.env.locals:=fun b o e=>ne_of_lt (lt_of_lt_of_le (Heap.lt_size e) I.ok.above);have neC:∀b o,X.s₀.heap.get? b=some o->b∉X.ex->b∉ch:=fun b o e hx hb=>by
  rcases(hch b hb).1 with z|z
  ·exact hx z
  ·exact absurd (lt_of_lt_of_le (Heap.lt_size e) z) (lt_irrefl _)
 have cellK:∀x c,X.env.cells.lookup x=some c-> ∀v,s.heap.IsCell c v->h'.IsCell c v:=fun x c e v ⟨o,ho,hd⟩=>by
  have nch:c∉ch:=fun z=>(hch c z).2.2.1 x c e rfl;by_cases hc:c∈X.fs
  ·obtain⟨sl,q⟩:=slot c o (I.cne x c e) hc nch ho (I.freeC x c e);exact⟨_,q,hd⟩
  ·exact⟨o,keep c o (I.cne x c e) hc nch ho (I.freeC x c e),hd⟩
 refine⟨I.ok,I.os,hg,⟨fun b o e n hb hx=>?_,fun b o e n hb hx=>?_,fun b o e n hx=>?_,fun b o e hx=>?_,fun b xs e=>tups b xs (I.base.tups b xs e),fun b o xs e=>frzs b o xs (I.base.frzs b o xs e),fun b ps e=>?_⟩,?_,fun x c e=>?_,?_,fun x c e=>?_,fun p hp=>?_,hok,I.len⟩
 ·exact keep b o (neL b o e) hb (neC b o e hx) (I.base.keep b o e n hb hx) (I.base.free b o e n hx)
 ·obtain⟨sl,e1⟩:=I.base.slot b o e n hb hx;obtain⟨sl',e2⟩:=slot b _ (neL b o e) hb (neC b o e hx) e1 (I.base.free b o e n hx);exact⟨sl',e2⟩
 ·obtain⟨o',e1⟩:=I.base.there b o e hx;exact free b o' (neC b o e hx) e1 (I.base.free b o e n hx)
 ·obtain⟨o',e1⟩:=I.base.there b o e hx;exact there b o' (neC b o e hx) e1
 ·obtain⟨m1,e1⟩:=I.base.tbls b ps e;obtain⟨m2,e2⟩:=tbls b _ e1;exact⟨m1++m2,by rw[e2,Array.append_assoc]⟩
 ·obtain⟨m,hn,hl⟩:=I.loc;refine⟨m,ns m hn,fun i x v e1 e2 e3=>?_⟩;obtain⟨u,r,l⟩:=hl i x v e1 e2 e3;refine⟨u,r,?_⟩;rcases l with l|⟨k,c,e,z⟩
  ·exact .inl l
  ·exact .inr ⟨k,c,e,cellK x c e _ z⟩
 ·obtain⟨v,z⟩:=I.cell x c e;exact⟨v,cellK x c e v z⟩
 ·obtain⟨m,⟨o,_,_,ho,_⟩,_⟩:=I.loc;exact free _ o (fun z=>(hch _ z).2.1 rfl) ho I.free
 ·obtain⟨v,o,ho,hd⟩:=I.cell x c e;exact free c o (fun z=>(hch c z).2.2.1 x c e rfl) ho (I.freeC x c e)
 ·obtain⟨e,n,ne,nf,d⟩:=I.pin p hp;have nch:p.1∉ch:=fun z=>(hch p.1 z).2.2.2 p hp rfl;exact⟨keep p.1 p.2 ne nf nch e n,free p.1 p.2 nch e n,ne,nf,d⟩
theorem Inv.un{t':Nat}(I:Inv X pins σ H s)(u:Un X.fs [] H H' s.heap h')(hok:HOk X.prog X.w H' h'):Inv X pins σ H' {s with heap:=h',toks:=t'}:=by
 obtain⟨m,⟨o,es,ep,ho,r⟩,_⟩:=id I.loc;obtain⟨sl,hL⟩:=u.any ho I.free (by simp);exact I.step (g':=s.gens) (d':=s.drawn) (ch:=[]) (fun _ z=>nomatch z) (fun b o _ hb _ e n=>u.keep b o e n hb (by simp)) (fun b o _ hb _ e n=>u.slot b o e n hb (by simp)) (fun b o _ e n=>u.free b o e n (by simp)) (fun b o _ e=>u.there b o e (by simp)) u.tups u.frzs u.tbls (fun m' hm=>by
  obtain⟨o',es',ep',ho',r'⟩:=hm;rw[ho]at ho';cases ho';exact⟨_,es',ep',hL,r'⟩) hok I.bare
theorem Inv.call{g':Array GenState}{t':Nat}{d':Drawn}{ch:List Addr}(I:Inv X pins σ H s)(u:Un (frs X.stack) ch H H' s.heap h')(hok:HOk X.prog X.w H' h')(hg:AllBare g')(hch:∀b∈ch,(b∈X.ex\/X.s₀.heap.objs.size<=b)/\b≠X.env.locals/\(∀x c,X.env.cells.lookup x=some c->c≠b)/\ ∀p∈X.pn++pins,p.1≠b) :
  Inv X pins σ H' {s with heap:=h',gens:=g',drawn:=d',toks:=t'}:=by
 obtain⟨m,⟨o,es,ep,ho,r⟩,_⟩:=id I.loc;obtain⟨sl,hL⟩:=u.any ho I.free fun z=>(hch _ z).2.1 rfl;exact I.step (ch:=ch) hch (fun b o hL hb hc e n=>u.keep b o e n (fun z=>(mem_cons.mp (I.stkSub b z)).elim hL hb) hc) (fun b o _ _ hc e n=>u.any e n hc) (fun b o hc e n=>u.free b o e n hc) (fun b o hc e=>u.there b o e hc) u.tups u.frzs u.tbls (fun m' hm=>by
  obtain⟨o',es',ep',ho',r'⟩:=hm;rw[ho]at ho';cases ho';exact⟨_,es',ep',hL,r'⟩) hok hg
theorem Inv.turned{t':Nat}{it:Addr}(I:Inv X pins σ H s)(k:∀b o,b≠it->s.heap.get? b=some o->h'.get? b=some o)(hn:H it=none)(hL:it≠X.env.locals)(h1:it∈X.ex\/X.s₀.heap.objs.size<=it)(h2:∀x c,X.env.cells.lookup x=some c->c≠it)(h3:∀p∈X.pn++pins,p.1≠it):Inv X pins σ H {s with heap:=h',toks:=t'}:=by
 have nit:∀b u,H b=some u->b≠it:=fun b u e z=>by rw[z,hn]at e;cases e
 refine I.step (g':=s.gens) (d':=s.drawn) (ch:=[it]) (fun b hb=>?_) (fun b o _ _ hc e _=>k b o (fun z=>hc (by simp[z])) e) (fun b o _ _ hc e _=>⟨o.slots,k b o (fun z=>hc (by simp[z])) e⟩) (fun _ _ _ _ n=>n)
  (fun b o hc e=>⟨o,k b o (fun z=>hc (by simp[z])) e⟩) (fun _ _ e=>e) (fun _ _ _ e=>e) (fun b ps e=>⟨#[],by rw[e];simp⟩) (fun m hm=>?_) (fun b u e=>?_) I.bare
 ·have e:b=it:=by simpa using hb
  subst e;exact⟨h1,hL,h2,h3⟩
 ·obtain⟨o,es,ep,ho,r⟩:=hm;exact⟨o,es,ep,k _ o (Ne.symm hL) ho,r⟩
 ·refine(I.hok b u e).stay (fun c v hc q=>k c v ?_ q) (fun _ q=>q) fun _ _ q=>q;rcases hc with z|z
  ·rw[z];exact nit b u e
  ·exact nit c _ z
theorem Inv.tok(I:Inv X pins σ H s)(t:Nat):Inv X pins σ H {s with toks:=t}:=I.un (h':=s.heap) (t':=t) Un.refl I.hok
theorem Inv.kept{t':Nat}(I:Inv X pins σ H s)(k:∀b u,s.heap.get? b=some u->h'.get? b=some u):Inv X pins σ H {s with heap:=h',toks:=t'}:=I.un (Un.kept k) (I.hok.kept k)
theorem Inv.laid{a:Addr}{o:HO}{t':Nat}(I:Inv X pins σ H s)(k:∀b u,s.heap.get? b=some u->h'.get? b=some u)(hp:s.heap.objs.size<=a)(new:yh X.prog X.w (upd H a o) h' a o) :
  Inv X pins σ (upd H a o) {s with heap:=h',toks:=t'}:=I.un (Un.laid k hp (I.hok.fresh hp)) (I.hok.laid k hp new)
theorem Inv.write{x e:Addr}{o:HO}{t':Nat}(I:Inv X pins σ H s)(mu:Mut (H x))(he:e=x\/H e=some (.own x))(k:∀b u,b≠e->s.heap.get? b=some u->h'.get? b=some u)(heo:∃u,h'.get? e=some u)(new:yh X.prog X.w (upd H x o) h' x o):Inv X pins σ (upd H x o) {s with heap:=h',toks:=t'}:=I.un (Un.write mu he k heo) (I.hok.write mu he k heo new)
theorem Inv.pins_of{pins':List (Addr×Obj)}(I:Inv X pins σ H s)(h:∀p∈pins',s.heap.get? p.1=some p.2/\H p.1=none/\p.1≠X.env.locals/\p.1∉X.fs/\ ∀v,p.2.data≠ .cell v):Inv X pins' σ H s :=
 ⟨I.ok,I.os,I.bare,I.base,I.loc,I.cell,I.free,I.freeC,fun p hp=>(mem_append.mp hp).elim (fun z=>I.pin p (List.mem_append_left _ z)) (h p),I.hok,I.len⟩
theorem nodup_ix{N:List Str}(hN:N.Nodup){i j:Nat}{x:Str}(a:N[i]? =some x)(b:N[j]? =some x):i=j:=by
 obtain⟨h1,e1⟩:=List.getElem?_eq_some_iff.mp a;obtain⟨h2,e2⟩:=List.getElem?_eq_some_iff.mp b;exact(List.getElem_inj hN).mp (e1.trans e2.symm)
theorem store_ok2{M:Model}{A:Around}{E:Value->Shared->Prop}{i:Nat}{x:Str}{v:V}{u:Value}{Q:Unit->Shared->Prop}(I:Inv X pins σ H s)(hN:X.N.Nodup)(hi:X.N[i]? =some x)(hx:Loc X.env.scope x)(r:RelV v u)(h:∀s',Inv X pins (σ.set i (some v)) H s'->(∃a,Heap.SameBut a s.heap s'.heap/\(a=X.env.locals\/X.env.cells.lookup x=some a))->Q () s')(hf:X.fn x=true\/X.env.scope.names.lookup x=some .local:=by first|exact .inl rfl|exact .inr rfl|assumption):wpAny M A (storeName X.env x u) Q E s:=by
 obtain⟨m,hn,hl⟩:=id I.loc;have hcls:(X.env.scope.kind== .class||(X.env.scope.kind== .module&&X.env.locals !=X.env.globals))=false:=by rw[I.ok.kind];rfl
 have hiσ:i< σ.length:=by rw[I.len];exact(List.getElem?_eq_some_iff.mp hi).1
 have cne:=I.cne;have tracked:∀{a:Addr}{h':Heap},(∃o,s.heap.get? a=some o/\H a=none)->Heap.SameBut a s.heap h'->HOk X.prog X.w H h':=fun{a h'} ha hs b ob e=>by
  obtain⟨_,_,hfree⟩:=ha;refine(I.hok b ob e).stay (fun c w' hc q=>(hs.2 c ?_).trans q) (fun _ q=>q) fun _ _ q=>q;rintro rfl;rcases hc with rfl|hc
  ·rw[hfree]at e;cases e
  ·rw[hfree]at hc;cases hc
 rcases hx with hk|hk
 ·refine wpAny_storeName_local hk hn (fun h' hn' hs=>?_) hcls;obtain⟨oL,_,_,hoL,_⟩:=id hn;refine h _ ⟨I.ok,I.os,I.bare,⟨fun b o e n hb hx=>?_,fun b o e n hb hx=>?_,I.base.free,fun b o e hx=>?_,I.base.tups,I.base.frzs,I.base.tbls⟩,⟨_,hn',fun j y v' e1 e2 e3=>?_⟩,fun y c e=>?_,I.free,I.freeC,fun p hp=>?_,tracked ⟨oL,hoL,I.free⟩ hs,by simpa using I.len⟩ ⟨_,hs,.inl rfl⟩
  ·exact(hs.2 b (ne_of_lt (lt_of_lt_of_le (Heap.lt_size e) I.ok.above))).trans (I.base.keep b o e n hb hx)
  ·obtain⟨sl,e1⟩:=I.base.slot b o e n hb hx;exact⟨sl,(hs.2 b (ne_of_lt (lt_of_lt_of_le (Heap.lt_size e) I.ok.above))).trans e1⟩
  ·obtain⟨o',e1⟩:=I.base.there b o e hx;exact⟨o',(hs.2 b (ne_of_lt (lt_of_lt_of_le (Heap.lt_size e) I.ok.above))).trans e1⟩
  ·by_cases hj:j=i
   ·subst hj;rw[hi]at e1;cases e1;rw[List.getElem?_set_self hiσ]at e2;cases e2;exact⟨u,r,.inl ⟨hk,by simp⟩⟩
   ·rw[List.getElem?_set_ne (Ne.symm hj)]at e2;obtain⟨u',r',q⟩:=hl j y v' e1 e2 e3;refine⟨u',r',?_⟩;rcases q with⟨k,e⟩|⟨k,c,e,z⟩
    ·refine .inl ⟨k,?_⟩;have:y≠x:=fun e=>hj (nodup_ix hN e1 (e▸hi));simp[this,e]
    ·exact .inr ⟨k,c,e,z.sameBut hs (cne y c e)⟩
  ·obtain⟨w',z⟩:=I.cell y c e;exact⟨w',z.sameBut hs (cne y c e)⟩
  ·obtain⟨e,n,ne,nf,d⟩:=I.pin p hp;exact⟨(hs.2 p.1 ne).trans e,n,ne,nf,d⟩
 ·have hfn:X.fn x=true:=by
   rcases hf with z|z
   ·exact z
   ·rw[z]at hk;cases hk
  obtain⟨c,hc⟩:=I.ok.has x (.inl hk);obtain⟨w',z⟩:=I.cell x c hc;refine wpAny_storeName_cell I.ok.kind hk hc z (fun h' hc' hs=>?_);obtain⟨oc,hoc,hocd⟩:=id z;refine h {s with heap:=h'} ⟨I.ok,I.os,I.bare,⟨fun b o e n hb hx=>?_,fun b o e n hb hx=>?_,I.base.free,fun b o e hx=>?_,I.base.tups,I.base.frzs,I.base.tbls⟩,⟨m,hn.sameBut hs (Ne.symm (cne x c hc)),fun j y v' e1 e2 e3=>?_⟩,fun y c' e=>?_,I.free,I.freeC,fun p hp=>?_,tracked ⟨oc,hoc,I.freeC x c hc⟩ hs,by simpa using I.len⟩ ⟨c,hs,.inr hc⟩
  ·exact(hs.2 b (ne_of_lt (lt_of_lt_of_le (Heap.lt_size e) (I.ok.cab x c hfn hc)))).trans (I.base.keep b o e n hb hx)
  ·obtain⟨sl,e1⟩:=I.base.slot b o e n hb hx;exact⟨sl,(hs.2 b (ne_of_lt (lt_of_lt_of_le (Heap.lt_size e) (I.ok.cab x c hfn hc)))).trans e1⟩
  ·obtain⟨o',e1⟩:=I.base.there b o e hx;exact⟨o',(hs.2 b (ne_of_lt (lt_of_lt_of_le (Heap.lt_size e) (I.ok.cab x c hfn hc)))).trans e1⟩
  ·by_cases hj:j=i
   ·subst hj;rw[hi]at e1;cases e1;rw[List.getElem?_set_self hiσ]at e2;cases e2;exact⟨u,r,.inr ⟨.inl hk,c,hc,hc'⟩⟩
   ·rw[List.getElem?_set_ne (Ne.symm hj)]at e2;obtain⟨u',r',q⟩:=hl j y v' e1 e2 e3;refine⟨u',r',?_⟩;rcases q with q|⟨k,c',e,z'⟩
    ·exact .inl q
    ·refine .inr ⟨k,c',e,z'.sameBut hs ?_⟩;rintro rfl;exact hj (nodup_ix hN e1 (I.ok.inj _ _ _ e hc▸hi))
  ·by_cases hcc:c'=c
   ·subst hcc;exact⟨_,hc'⟩
   ·obtain⟨w2,z2⟩:=I.cell y c' e;exact⟨w2,z2.sameBut hs hcc⟩
  ·obtain⟨e,n,ne,nf,d⟩:=I.pin p hp;refine⟨(hs.2 p.1 ?_).trans e,n,ne,nf,d⟩;intro q;rw[q,hoc]at e;have q':oc=p.2:=Option.some.inj e;exact d w' (by rw[<-q'];exact hocd)
theorem store_ok{M:Model}{A:Around}{E:Value->Shared->Prop}{i:Nat}{x:Str}{v:V}{u:Value}{Q:Unit->Shared->Prop}(I:Inv X pins σ H s)(hN:X.N.Nodup)(hi:X.N[i]? =some x)(hx:Loc X.env.scope x)(r:RelV v u)(h:∀s',Inv X pins (σ.set i (some v)) H s'->Q () s')(hf:X.fn x=true\/X.env.scope.names.lookup x=some .local:=by first|exact .inl rfl|exact .inr rfl|assumption):wpAny M A (storeName X.env x u) Q E s :=
 store_ok2 I hN hi hx r (fun s' I' _=>h s' I') hf
theorem Inv.call'{s':Shared}{ch:List Addr}(I:Inv X pins σ H s)(ho:s'.os=s.os)(u:Un (frs X.stack) ch H H' s.heap s'.heap)(hok:HOk X.prog X.w H' s'.heap)(hg:AllBare s'.gens)(hch:∀b∈ch,(b∈X.ex\/X.s₀.heap.objs.size<=b)/\b≠X.env.locals/\(∀x c,X.env.cells.lookup x=some c->c≠b)/\ ∀p∈X.pn++pins,p.1≠b):Inv X pins σ H' s':=by
 obtain⟨h',g',d',t',o'⟩:=s';have e:o'=s.os:=ho;subst e;exact I.call (g':=g') (t':=t') (d':=d') u hok hg hch
end
abbrev XK:=Value->Option Addr->Hp->Prop
abbrev St:=List (Option V)
abbrev VK:=V->Hp->Prop
abbrev TE:=St->Hp->VK->Prop
abbrev TT:=St->Hp->(Bool->Hp->Prop)->Prop
abbrev TA:=St->Hp->(List V->Hp->Prop)->Prop
structure Ends where
 nx:St->Hp->Prop
 rt:VK
 bk:St->Hp->Prop:=fun _ _=>False
 ct:St->Hp->Prop:=fun _ _=>False
abbrev TS:=Ends->St->Hp->Prop
def EP(X:Cx)(pins:List (Addr×Obj))(σ:St)(Q:VK)(u:Value)(s':Shared):Prop:=∃ v H',Inv X pins σ H' s'/\RelV v u/\Q v H'
def TP(X:Cx)(pins:List (Addr×Obj))(σ:St)(Q:Bool->Hp->Prop)(b:Bool)(s':Shared):Prop:=∃ H',Inv X pins σ H' s'/\Q b H'
def AP(X:Cx)(pins:List (Addr×Obj))(σ:St)(Q:List V->Hp->Prop)(us:List Value)(s':Shared):Prop:=∃ vs H',Inv X pins σ H' s'/\Vals vs us/\Q vs H'
def SP(X:Cx)(pins:List (Addr×Obj))(D:Ends)(f:Flow)(s':Shared):Prop :=
 match f with
 | .next=>∃ σ' H',Inv X pins σ' H' s'/\D.nx σ' H'
 | .brk=>∃ σ' H',Inv X pins σ' H' s'/\D.bk σ' H'
 | .cont=>∃ σ' H',Inv X pins σ' H' s'/\D.ct σ' H'
 | .ret u=>∃ v σ' H',Inv X pins σ' H' s'/\RelV v u/\D.rt v H'
def PE(X:Cx)(e:Expr)(t:TE):Prop :=
 ∀(pins:List (Addr×Obj))(s:Shared)(σ:St)(H:Hp)(Q:VK),Inv X pins σ H s->t σ H Q->wpAny (model X.prog X.w) X.A (eval e X.env) (EP X pins σ Q) X.xe s
def PT(X:Cx)(e:Expr)(t:TT):Prop :=
 ∀(pins:List (Addr×Obj))(s:Shared)(σ:St)(H:Hp)(Q:Bool->Hp->Prop),Inv X pins σ H s->t σ H Q->wpAny (model X.prog X.w) X.A (isTrue e X.env (eval e X.env)) (TP X pins σ Q) X.xe s
def PW(X:Cx)(e:Expr)(t:TT):Prop :=
 ∀(whole:Sem Value)(pins:List (Addr×Obj))(s:Shared)(σ:St)(H:Hp)(Q:Bool->Hp->Prop),Inv X pins σ H s->t σ H Q->wpAny (model X.prog X.w) X.A (isTrue e X.env whole) (TP X pins σ Q) X.xe s
theorem PW.pt{X:Cx}{e:Expr}{t:TT}(h:PW X e t):PT X e t:=h _
def PA(X:Cx)(es:List Expr)(t:TA):Prop :=
 ∀(pos:Pos)(pins:List (Addr×Obj))(s:Shared)(σ:St)(H:Hp)(Q:List V->Hp->Prop),Inv X pins σ H s->t σ H Q->wpAny (model X.prog X.w) X.A (spliced (backTo pos (starEach es X.env))) (AP X pins σ Q) X.xe s
def PS(X:Cx)(st:Stmt)(t:TS):Prop :=
 ∀(pins:List (Addr×Obj))(s:Shared)(σ:St)(H:Hp)(D:Ends),Inv X pins σ H s->t D σ H->wpAny (model X.prog X.w) X.A (exec st X.env) (SP X pins D) X.xe s
def PSs(X:Cx)(st:List Stmt)(t:TS):Prop :=
 ∀(pins:List (Addr×Obj))(s:Shared)(σ:St)(H:Hp)(D:Ends),Inv X pins σ H s->t D σ H->wpAny (model X.prog X.w) X.A (execs st X.env) (SP X pins D) X.xe s
theorem thn{α:Type}{t:Sem α}{Q Q':α->Shared->Prop}{M:Model}{A:Around}{E:Value->Shared->Prop}{s:Shared}(h:wpAny M A t Q E s)(hQ:∀a s,Q a s->Q' a s):wpAny M A t Q' E s:=wpAny_mono h hQ fun _ _ x=>x
section
variable{X:Cx}
def tVar(i:Nat):TE:=fun σ H Q=>∃ v,σ[i]? =some (some v)/\Q v H
def tC(v:V):TE:=fun _ H Q=>Q v H
theorem pe_var{i:Nat}{x:Str}{pos:Pos}(hN:X.N[i]? =some x)(hv:Vis X.env.scope x)(hd:(x==("__debug__" : Str))=false:=by decide)(hcd:(x==("__classdict__" : Str))=false:=by decide):PE X (.Name x pos) (tVar i):=by
 intro pins s σ H Q I h;obtain⟨v,e,h⟩:=h;obtain⟨m,hn,hl⟩:=I.loc;obtain⟨u,r,l⟩:=hl i x v hN e hv;have fin:EP X pins σ Q u s:=⟨v,H,I,r,h⟩;rcases l with⟨hk,hm⟩|⟨hk,c,hc,hcell⟩
 ·exact wpAny_Name (wpAny_loadName_local I.ok.kind hk hn hm fin) hd
 ·rcases hk with hk|hk
  ·exact wpAny_Name (wpAny_loadName_cell I.ok.kind hk hc hcell fin) hd
  ·exact wpAny_Name (wpAny_loadName_free I.ok.kind hk hc hcell fin hcd) hd
theorem zc{i j pos}:PE X (.Constant (.int i) j pos) (tC (.int i)):=fun _ _ _ H _ I h=>wpAny_Constant_int ⟨.int i,H,I.tok _,⟨_,rfl⟩,h⟩
theorem pe_bl{b j pos}:PE X (.Constant (.bool b) j pos) (tC (.bl b)):=fun _ _ _ H _ I h=>Constant_bool ⟨.bl b,H,I,rfl,h⟩
theorem yV{j pos}:PE X (.Constant .none j pos) (tC .non):=fun _ _ _ H _ I h=>Constant_none ⟨.non,H,I,rfl,h⟩
theorem zK{x j pos}:PE X (.Constant (.str x) j pos) (tC (.str x)):=fun _ _ _ H _ I h=>Calls.Constant_str ⟨.str x,H,I.tok _,⟨_,rfl⟩,h⟩
def Gl(X:Cx)(x:Str):Prop:=X.env.kindOf x=some .globalImplicit
theorem ld_glob{E:Value->Shared->Prop}{pins:List (Addr×Obj)}{s:Shared}{σ:St}{H:Hp}{x:Str}{u:Value}{pos:Pos}{Q:Value->Shared->Prop}(I:Inv X pins σ H s)(hg:Gl X x)(hm:X.mg x=some u)(h:Q u s)(hd:(x==("__debug__" : Str))=false:=by decide):wpAny (model X.prog X.w) X.A (eval (.Name x pos) X.env) Q E s :=
 Calls.Name_function_global I.ok.kind hg (Calls.loadGlobal_global (by rw[I.ok.glob];exact I.mod.glob.keeps I.bk) hm h) hd
theorem jM{E:Value->Shared->Prop}{pins:List (Addr×Obj)}{s:Shared}{σ:St}{H:Hp}{x:Str}{u:Value}{pos:Pos}{Q:Value->Shared->Prop}(I:Inv X pins σ H s)(hg:Gl X x)(hm:X.mg x=none)(hv:bootBuiltins x=some u)(h:Q u s)(hn:x≠"__name__" :=by decide)(hd:(x==("__debug__" : Str))=false:=by decide):wpAny (model X.prog X.w) X.A (eval (.Name x pos) X.env) Q E s:=by
 obtain⟨mb,h1,h2⟩:=I.mod.blt;exact Calls.Name_function_global I.ok.kind hg (Calls.loadGlobal_builtin (by rw[I.ok.glob];exact I.mod.glob.keeps I.bk) hm (by rw[I.ok.blt];exact h1.keeps I.bk) ((h2 x hn).trans hv) h) hd
theorem yx{x:Str}{v:V}{u:Value}{pos:Pos}(hg:Gl X x)(hm:X.mg x=some u)(r:RelV v u)(hd:(x==("__debug__" : Str))=false:=by decide):PE X (.Name x pos) (tC v) :=
 fun _ _ _ H _ I h=>ld_glob I hg hm ⟨v,H,I,r,h⟩ hd
theorem pe_bltn{x:Str}{v:V}{u:Value}{pos:Pos}(hg:Gl X x)(hm:X.mg x=none)(hv:bootBuiltins x=some u)(r:RelV v u)(hn:x≠"__name__" :=by decide)(hd:(x==("__debug__" : Str))=false:=by decide):PE X (.Name x pos) (tC v) :=
 fun _ _ _ H _ I h=>jM I hg hm hv ⟨v,H,I,r,h⟩ hn hd
variable{a b:Expr}{ta tb:TE}{pos:Pos}
variable{tA tB':TT}{rest:List Expr}
def tAnd(t u:TT):TT:=fun σ H Q=>t σ H fun c H1=>if c=true then u σ H1 Q else Q false H1
def tOr(t u:TT):TT:=fun σ H Q=>t σ H fun c H1=>if c=true then Q true H1 else u σ H1 Q
def tNot(t:TT):TT:=fun σ H Q=>t σ H fun c H1=>Q (!c) H1
theorem pw_and1(ha:PT X a tA):PW X (.BoolOp .And [a] pos) tA:=by
 intro wh pins s σ H Q I h;refine isTrue_and (thn (ha pins s σ H Q I h) fun c s1 e=>?_);cases c with
 |true=>exact isTrue_and_nil e
 |false=>exact e
theorem jS(ha:PT X a tA):PW X (.BoolOp .Or [a] pos) tA:=by
 intro wh pins s σ H Q I h;refine isTrue_or (thn (ha pins s σ H Q I h) fun c s1 e=>?_);cases c with
 |false=>exact isTrue_or_nil e
 |true=>exact e
theorem pw_and(ha:PT X a tA)(hb:PW X (.BoolOp .And (b::rest) pos) tB'):PW X (.BoolOp .And (a::b::rest) pos) (tAnd tA tB'):=by
 intro wh pins s σ H Q I h;refine isTrue_and (thn (ha pins s σ H _ I h) fun c s1 ⟨H1,I1,q1⟩=>?_);cases c with
 |true=>exact hb wh pins s1 σ H1 Q I1 q1
 |false=>exact⟨H1,I1,q1⟩
theorem jQ(ha:PT X a tA)(hb:PW X (.BoolOp .Or (b::rest) pos) tB'):PW X (.BoolOp .Or (a::b::rest) pos) (tOr tA tB'):=by
 intro wh pins s σ H Q I h;refine isTrue_or (thn (ha pins s σ H _ I h) fun c s1 ⟨H1,I1,q1⟩=>?_);cases c with
 |true=>exact⟨H1,I1,q1⟩
 |false=>exact hb wh pins s1 σ H1 Q I1 q1
theorem km(ha:PT X a tA):PT X (.UnaryOp .Not a pos) (tNot tA):=by
 intro pins s σ H Q I h;exact isTrue_not (ha pins s σ H (fun c H1=>Q (!c) H1) I h)
def tAndV(ta tb:TE):TE:=fun σ H Q=>ta σ H fun x H1=>∃ c,x= .bl c/\if c=true then tb σ H1 Q else Q (.bl false) H1
theorem pe_one{op}{t:TE}(h:PE X a t):PE X (.BoolOp op [a] pos) t:=fun pins s σ H Q I hw=>BoolOp_one (h pins s σ H Q I hw)
theorem pe_and(ha:PE X a ta)(hb:PE X (.BoolOp .And (b::rest) pos) tb):PE X (.BoolOp .And (a::b::rest) pos) (tAndV ta tb):=by
 intro pins s σ H Q I h;refine BoolOp_and (thn (ha pins s σ H _ I h) fun v s1 ⟨x,H1,I1,r1,q1⟩=>?_);obtain⟨c,rfl,q1⟩:=q1;cases r1;refine wpAny_truthy_bool ?_;cases c with
 |true=>exact hb pins s1 σ H1 Q I1 q1
 |false=>exact⟨.bl false,H1,I1,rfl,q1⟩
def tIf(t:TT)(ta tb:TE):TE:=fun σ H Q=>t σ H fun c H1=>if c=true then ta σ H1 Q else tb σ H1 Q
theorem pe_ifExp{c:Expr}(hc:PT X c tA)(ha:PE X a ta)(hb:PE X b tb):PE X (.IfExp c a b pos) (tIf tA ta tb):=by
 intro pins s σ H Q I h;refine wpAny_IfExp (thn (hc pins s σ H _ I h) fun d s1 ⟨H1,I1,q1⟩=>?_);cases d with
 |true=>exact ha pins s1 σ H1 Q I1 q1
 |false=>exact hb pins s1 σ H1 Q I1 q1
end
def SqL(K:W.Frag)(H:Hp)(a:Addr)(xs:List V):Prop :=
 Rd H a (.lst xs)\/
  ∃(o:Obj)(its:Array Value)(n:Nat),K.lookup a=some o/\o.cls= .type "list"/\o.dict=none/\o.data= .seq its n/\its.size<=sizeLine/\Vals xs its.toList
def SqT(K:W.Frag)(H:Hp)(a:Addr)(xs:List V):Prop :=
 Rd H a (.tup xs)\/
  ∃(o:Obj)(its:Array Value)(n:Nat),K.lookup a=some o/\o.cls= .type "tuple"/\o.data= .seq its n/\its.size<=sizeLine/\Vals xs its.toList
def absV:Value->Option V
 | .none=>some .non
 | .bool b=>some (.bl b)
 | .int i _=>some (.int i)
 | .str x _=>some (.str x)
 | .bytes b _=>some (.byt b)
 | .float b _=>some (.flt b)
 | .ref a=>some (.ref a)
 | .type n=>some (.ty n)
 | _=>none
theorem RelV.abs{x:V}{u:Value}(r:RelV x u):absV u=some x:=by
 cases x with
 |non=>cases r;rfl
 |bl _=>cases r;rfl
 |int _=>obtain⟨t,rfl⟩:=r;rfl
 |str _=>obtain⟨t,rfl⟩:=r;rfl
 |byt _=>obtain⟨t,rfl⟩:=r;rfl
 |flt _=>obtain⟨t,rfl⟩:=r;rfl
 |ref _=>cases r;rfl
 |ty _=>cases r;rfl
theorem RelV.inj{x y:V}{u:Value}(r:RelV x u)(q:RelV y u):x=y:=Option.some.inj (r.abs.symm.trans q.abs)
theorem Vals.inj:∀{xs ys:List V}{us:List Value},Vals xs us->Vals ys us->xs=ys
 | _,_,_,.nil,.nil=>rfl
 | _,_,_,.cons r t,.cons r' t'=>by rw[r.inj r',Vals.inj t t']
section
variable{X:Cx}{pins:List (Addr×Obj)}{σ:St}{H:Hp}{s:Shared}{a:Addr}{xs ys:List V}
theorem SqL.of{K:W.Frag}(h:H a=some (.lst xs)):SqL K H a xs:=.inl (.inl h)
theorem SqT.of{K:W.Frag}(h:H a=some (.tup xs)):SqT K H a xs:=.inl (.inl h)
theorem Inv.list(I:Inv X pins σ H s)(h:SqL X.K H a xs):∃its:List Value,Vals xs its/\PlainL s.heap a its.toArray/\xs.length<=sizeLine:=by
 rcases h with h|⟨o,its,n,hk,hc,hd,hs,hz,r⟩
 ·obtain⟨z,its,n,r,e⟩:=h.ok I.hok;exact⟨its,r,⟨_,n,e,rfl,rfl,rfl⟩,z⟩
 ·refine⟨its.toList,r,⟨o,n,I.kIn a o hk,hc,hd,by simpa using hs⟩,?_⟩;have e:=r.length;simp only[Array.length_toList]at e;omega
theorem Inv.tuple(I:Inv X pins σ H s)(h:SqT X.K H a xs):∃its:List Value,Vals xs its/\IsTup s.heap a its.toArray/\xs.length<=sizeLine:=by
 rcases h with h|⟨o,its,n,hk,hc,hs,hz,r⟩
 ·obtain⟨z,its,r,p,_⟩:=h.ok I.hok;exact⟨its,r,p,z⟩
 ·refine⟨its.toList,r,⟨o,I.kIn a o hk,hc,n,by simpa using hs⟩,?_⟩;have e:=r.length;simp only[Array.length_toList]at e;omega
theorem Inv.list_inj(I:Inv X pins σ H s)(h:SqL X.K H a xs)(h':SqL X.K H a ys):xs=ys:=by
 obtain⟨its,r,⟨o,n,e,_,_,d⟩,_⟩:=I.list h;obtain⟨its',r',⟨o',n',e',_,_,d'⟩,_⟩:=I.list h';rw[e]at e';cases e';rw[d]at d';injection d' with d1 _
 have:its=its':=by simpa using congrArg Array.toList d1
 subst this;exact r.inj r'
theorem Inv.tuple_inj(I:Inv X pins σ H s)(h:SqT X.K H a xs)(h':SqT X.K H a ys):xs=ys:=by
 obtain⟨its,r,⟨o,e,_,n,d⟩,_⟩:=I.tuple h;obtain⟨its',r',⟨o',e',_,n',d'⟩,_⟩:=I.tuple h';rw[e]at e';cases e';rw[d]at d';injection d' with d1 _
 have:its=its':=by simpa using congrArg Array.toList d1
 subst this;exact r.inj r'
end
abbrev Cx.wish(X:Cx)(E:Value->Shared->Prop):Cx:={X with xe:=E}
abbrev Cx.nox(X:Cx):Cx:=X.wish fun _ _=>False
theorem Cx.Ok.wish{X:Cx}(ok:X.Ok)(E:Value->Shared->Prop):(X.wish E).Ok :=
 ⟨ok.mod,ok.kind,ok.glob,ok.blt,ok.above,ok.inj,ok.has,ok.cab,ok.hd,ok.frames,ok.stk,ok.exf,ok.bs,ok.bsz,ok.noex,ok.exfs,ok.funs,ok.frf⟩
theorem Cx.Ok.unwish{X:Cx}{E:Value->Shared->Prop}(ok:(X.wish E).Ok):X.Ok :=
 ⟨ok.mod,ok.kind,ok.glob,ok.blt,ok.above,ok.inj,ok.has,ok.cab,ok.hd,ok.frames,ok.stk,ok.exf,ok.bs,ok.bsz,ok.noex,ok.exfs,ok.funs,ok.frf⟩
section
variable{X:Cx}{pins:List (Addr×Obj)}{σ:St}{H:Hp}{s:Shared}{E:Value->Shared->Prop}
theorem Inv.wish(I:Inv X pins σ H s)(E:Value->Shared->Prop):Inv (X.wish E) pins σ H s:=⟨I.ok.wish E,I.os,I.bare,I.base,I.loc,I.cell,I.free,I.freeC,I.pin,I.hok,I.len⟩
theorem Inv.unwish(I:Inv (X.wish E) pins σ H s):Inv X pins σ H s:=⟨I.ok.unwish,I.os,I.bare,I.base,I.loc,I.cell,I.free,I.freeC,I.pin,I.hok,I.len⟩
theorem SP.unwish{D:Ends}{f:Flow}{s':Shared}(h:SP (X.wish E) pins D f s'):SP X pins D f s':=by
 cases f with
 |next=>obtain⟨σ',H',I,q⟩:=h;exact⟨σ',H',I.unwish,q⟩
 |brk=>obtain⟨σ',H',I,q⟩:=h;exact⟨σ',H',I.unwish,q⟩
 |cont=>obtain⟨σ',H',I,q⟩:=h;exact⟨σ',H',I.unwish,q⟩
 |ret u=>obtain⟨v,σ',H',I,r,q⟩:=h;exact⟨v,σ',H',I.unwish,r,q⟩
theorem PSs.nox{st:List Stmt}{t:TS}(h:PSs X.nox st t):PSs X st t:=fun pins s σ H D I hw =>
 wpAny_mono (h pins s σ H D (I.wish _) hw) (fun _ _ q=>q.unwish) fun _ _ z=>False.elim z
end
section
variable{X:Cx}{st:Stmt}{rest:List Stmt}{t u:TS}{e:Expr}{te:TE}{pos:Pos}
def tNext:TS:=fun D σ H=>D.nx σ H
def tSeq(t u:TS):TS:=fun D σ H=>t {D with nx:=u D} σ H
theorem zk:PSs X [] tNext:=fun _ _ σ H _ I h=>wpAny_execs_nil ⟨σ,H,I,h⟩
theorem z7(h1:PS X st t)(h2:PSs X rest u):PSs X (st::rest) (tSeq t u):=by
 intro pins s σ H D I h;refine wpAny_execs_cons (thn (h1 pins s σ H {D with nx:=u D} I h) fun f s1 q=>?_);cases f with
 |next =>
  obtain⟨σ',H',I',q⟩:=q;exact h2 pins s1 σ' H' D I' q
 |ret v=>exact q
 |brk=>exact q
 |cont=>exact q
theorem z9(h1:PS X st t):PSs X [st] t:=by
 intro pins s σ H D I h;refine wpAny_execs_cons (thn (h1 pins s σ H D I h) fun f s1 q=>?_);cases f with
 |next=>exact wpAny_execs_nil q
 |ret v=>exact q
 |brk=>exact q
 |cont=>exact q
theorem Inv.quiet{pins:List (Addr×Obj)}{σ:St}{H:Hp}{s:Shared}(I:Inv X pins σ H s):interactive X.env=false:=by simp[interactive,I.ok.kind]
def tDrop(te:TE):TS:=fun D σ H=>te σ H fun _ H1=>D.nx σ H1
theorem zV(he:PE X e te)(hs:swapsWith e none pos.line X.env=pure false:=by rfl):PS X (.Expr e pos) (tDrop te):=by
 intro pins s σ H D I h;exact wpAny_Expr_any (thn (he pins s σ H _ I h) fun v s1 ⟨x,H1,I1,r1,q1⟩=>⟨σ,H1,I1,q1⟩) I.quiet hs
def tRet(te:TE):TS:=fun D σ H=>te σ H D.rt
theorem zj(he:PE X e te):PS X (.Return (some e) pos) (tRet te):=by
 intro pins s σ H D I h;exact wpAny_Return_some (thn (he pins s σ H _ I h) fun v s1 ⟨x,H1,I1,r1,q1⟩=>⟨x,σ,H1,I1,r1,q1⟩)
def tIfS(c:TT)(t u:TS):TS:=fun D σ H=>c σ H fun b H1=>if b=true then t D σ H1 else u D σ H1
theorem zD{c:Expr}{a b:List Stmt}{tc:TT}(hc:PT X c tc)(ha:PSs X a t)(hb:PSs X b u):PS X (.If c a b pos) (tIfS tc t u):=by
 intro pins s σ H D I h;refine wpAny_If (thn (hc pins s σ H _ I h) fun d s1 ⟨H1,I1,q1⟩=>?_);cases d with
 |true=>exact ha pins s1 σ H1 D I1 q1
 |false=>exact hb pins s1 σ H1 D I1 q1
def tNever:TS:=fun _ _ _=>False
theorem zN:PS X st tNever:=fun _ _ _ _ _ _ h=>h.elim
end
abbrev TG:=V->St->Hp->(St->Hp->Prop)->Prop
abbrev TGs:=List V->St->Hp->(St->Hp->Prop)->Prop
def PG(X:Cx)(target:Expr)(t:TG):Prop :=
 ∀(pins:List (Addr×Obj))(s:Shared)(σ:St)(H:Hp)(v:V)(u:Value)(Q:St->Hp->Prop),Inv X pins σ H s->RelV v u->t v σ H Q->
  wpAny (model X.prog X.w) X.A (assign target X.env u) (fun _ s'=>∃ σ' H',Inv X pins σ' H' s'/\Q σ' H') X.xe s
def PGs(X:Cx)(ts:List Expr)(t:TGs):Prop :=
 ∀(pins:List (Addr×Obj))(s:Shared)(σ:St)(H:Hp)(vs:List V)(us:List Value)(Q:St->Hp->Prop),Inv X pins σ H s->Vals vs us->t vs σ H Q->
  wpAny (model X.prog X.w) X.A (assignInOrder ((assignEach ts X.env).map (·.2)) us) (fun _ s'=>∃ σ' H',Inv X pins σ' H' s'/\Q σ' H') X.xe s
abbrev TSet:=V->V->V->Hp->(Hp->Prop)->Prop
def PSet(X:Cx)(t:TSet):Prop :=
 ∀(pins:List (Addr×Obj))(s:Shared)(σ:St)(H:Hp)(o i v:V)(ov iv u:Value)(Q:Hp->Prop),Inv X pins σ H s->RelV o ov->RelV i iv->RelV v u->t o i v H Q->
  wpAny (model X.prog X.w) X.A (setItem ov iv u) (fun _ s'=>∃ H',Inv X pins σ H' s'/\Q H') X.xe s
abbrev TIp:=V->V->Hp->VK->Prop
def PIp(X:Cx)(op:Operator)(t:TIp):Prop :=
 ∀(pins:List (Addr×Obj))(s:Shared)(σ:St)(H:Hp)(x y:V)(v u:Value)(Q:VK),Inv X pins σ H s->RelV x v->RelV y u->t x y H Q->
  wpAny (model X.prog X.w) X.A (inplaceOp op v u) (EP X pins σ Q) X.xe s
section
variable{X:Cx}{pos:Pos}
def jL(i:Nat):TG:=fun v σ H Q=>Q (σ.set i (some v)) H
theorem pg_name{i:Nat}{x:Str}(hN:X.N.Nodup)(hi:X.N[i]? =some x)(hx:Loc X.env.scope x)(hf:X.fn x=true\/X.env.scope.names.lookup x=some .local:=by first|exact .inl rfl|exact .inr rfl|assumption):PG X (.Name x pos) (jL i):=by
 intro pins s σ H v u Q I r h;exact wpAny_assign_Name (store_ok I hN hi hx r (fun s' I'=>⟨_,H,I',h⟩) hf)
def gNil:TGs:=fun vs σ H Q=>vs=[]/\Q σ H
def gCons(t:TG)(u:TGs):TGs:=fun vs σ H Q=>∃ v r,vs=v::r/\t v σ H fun σ' H'=>u r σ' H' Q
theorem jD:PGs X [] gNil:=by
 intro pins s σ H vs us Q I r h;obtain⟨e,h⟩:=h;subst e;cases r;exact assignInOrder_nil ⟨σ,H,I,h⟩
theorem zS{e:Expr}{es:List Expr}{t:TG}{u:TGs}(h1:PG X e t)(h2:PGs X es u)(hs:(assignEach (e::es) X.env).map (·.2)=assign e X.env::(assignEach es X.env).map (·.2):=by rfl):PGs X (e::es) (gCons t u):=by
 intro pins s σ H vs us Q I r h;obtain⟨v,vr,e1,h⟩:=h;subst e1;cases r with
 |cons r rr =>
  rw[hs];refine assignInOrder_cons (thn (h1 pins s σ H _ _ _ I r h) fun _ s1 ⟨σ1,H1,I1,q1⟩=>?_);exact h2 pins s1 σ1 H1 _ _ Q I1 rr q1
def gTup(K:W.Frag)(n:Nat)(t:TGs):TG:=fun v σ H Q=>∃ a xs,v= .ref a/\SqT K H a xs/\xs.length=n/\t xs σ H Q
theorem pg_tup{es:List Expr}{k:Nat}{t:TGs}{n:Nat}(hc:X.calm=true)(h:PGs X es t)(hn:(assignEach es X.env).length=n:=by rfl)(hst:(assignEach es X.env).findIdx? (·.1)=none:=by rfl):PG X (.Tuple es k pos) (gTup X.K n t):=by
 intro pins s σ H v u Q I r hw;obtain⟨a,xs,e1,hq,hl,hw⟩:=hw;subst e1;cases r;obtain⟨its,rv,ht,hz⟩:=I.tuple hq;refine assign_Tuple_tuple (I.ok.hd hc) ht (by simp[hn,<-hl,rv.length]) hst fun h' hx=>?_;have I1:Inv X pins σ H {s with heap:=h'}:=I.kept (t':=s.toks) fun b o e=>hx b o (ne_of_lt (Heap.lt_size e)) e;exact h pins _ σ H xs _ Q I1 (by simpa using rv) hw
def gSub(to ti:TE)(t:TSet):TG:=fun v σ H Q=>to σ H fun o H1=>ti σ H1 fun i H2=>t o i v H2 fun H3=>Q σ H3
theorem pg_sub{o i:Expr}{to ti:TE}{t:TSet}(ho:PE X o to)(hi:PE X i ti)(hs:PSet X t)(ha:∀v,assign (.Subscript o i pos) X.env v=(do
   let ov <-holding [v] (eval o X.env)
   let iv <-holding [v,ov] (eval i X.env)
   standAt pos
   holding [v,ov,iv] (setItem ov iv v)
   release [v,ov,iv] []):=by intro _;rfl):PG X (.Subscript o i pos) (gSub to ti t):=by
 intro pins s σ H v u Q I r h;rw[ha];refine wpAny_bind (wpAny_holding (thn (ho pins s σ H _ I h) fun ov s1 ⟨x,H1,I1,r1,q1⟩=>?_));refine wpAny_bind (wpAny_holding (thn (hi pins s1 σ H1 _ I1 q1) fun iv s2 ⟨y,H2,I2,r2,q2⟩=>?_));refine wpAny_bind (wpAny_standAt (wpAny_bind (wpAny_holding (thn (hs pins s2 σ H2 x y v ov iv u _ I2 r1 r2 r q2) fun _ s3 ⟨H3,I3,q3⟩=>?_))));exact wpAny_release ⟨σ,H3,I3,q3⟩
def tAsg(te:TE)(g:TG):TS:=fun D σ H=>te σ H fun x H1=>g x σ H1 D.nx
theorem ps_asg{tg e:Expr}{te:TE}{g:TG}(he:PE X e te)(hg:PG X tg g)(hs:swapsWithSole [tg] e pos.line X.env=pure false:=by rfl)(hw:swappedStores [tg] e X.env=pure none:=by rfl)(h1:(assignEach [tg] X.env).map (·.2)=[assign tg X.env]:=by rfl):PS X (.Assign [tg] e pos) (tAsg te g):=by
 intro pins s σ H D I h;refine wpAny_Assign_stores (thn (he pins s σ H _ I h) fun v s1 ⟨x,H1,I1,r1,q1⟩=>?_) hs hw;rw[h1];exact thn (hg pins s1 σ H1 x v _ I1 r1 q1) fun _ s2 q=>q
theorem ps_set{i:Nat}{x:Str}{e:Expr}{te:TE}{pos':Pos}(hN:X.N.Nodup)(hi:X.N[i]? =some x)(hx:Loc X.env.scope x)(he:PE X e te)(hs:swapsWith e (some (.Name x pos')) pos.line X.env=pure false:=by rfl)(hf:X.fn x=true\/X.env.scope.names.lookup x=some .local:=by first|exact .inl rfl|exact .inr rfl|assumption) :
  PS X (.Assign [.Name x pos'] e pos) (tAsg te (jL i)):=by
 intro pins s σ H D I h;refine wpAny_Assign_Name (thn (he pins s σ H _ I h) fun v s1 ⟨y,H1,I1,r1,q1⟩=>?_) hs;exact store_ok I1 hN hi hx r1 (fun s2 I2=>⟨_,H1,I2,q1⟩) hf
def tPar(i j:Nat)(ta:TA):TS:=fun D σ H=>ta σ H fun vs H1=>∃ v w,vs=[v,w]/\D.nx ((σ.set i (some v)).set j (some w)) H1
theorem ps_par{i j:Nat}{x y:Str}{a b:Expr}{ta:TA}{px py pt:Pos}{kt k2 pt2}(hc:X.calm=true)(hN:X.N.Nodup)(hi:X.N[i]? =some x)(hj:X.N[j]? =some y)(hij:i≠j)(hx:X.env.scope.names.lookup x=some .local)(hy:X.env.scope.names.lookup y=some .local)(ha:PA X [a,b] ta)(hw:swappedStores [.Tuple [.Name x px,.Name y py] kt pt] (.Tuple [a,b] k2 pt2) X.env=pure (some [x,y]))(hs:swapsWithSole [.Tuple [.Name x px,.Name y py] kt pt] (.Tuple [a,b] k2 pt2) pos.line X.env=pure false:=by rfl) :
  PS X (.Assign [.Tuple [.Name x px,.Name y py] kt pt] (.Tuple [a,b] k2 pt2) pos) (tPar i j ta):=by
 intro pins s σ H D I h;rw[exec_Assign_arm];refine wpAny_bind (wpAny_standAt ?_);rw[hs];refine wpAny_bind (wpAny_pure ?_);rw[if_neg (by decide)];refine wpAny_bind (Tuple_ (thn (ha _ pins s σ H _ I h) fun us s1 ⟨vs,H1,I1,r1,q1⟩=>?_));obtain⟨v,w,e1,q1⟩:=q1;subst e1;obtain⟨u1,u2,rfl,rv,rw'⟩:∃u1 u2,us=[u1,u2]/\RelV v u1/\RelV w u2:=by
  cases r1 with
  |cons p q =>
   cases q with
   |cons p' q' =>
    cases q';exact⟨_,_,rfl,p,p'⟩
 refine wpAny_newObj_type ?_ (by show 2<=sizeLine;decide);have I2:Inv X pins σ H1 {s1 with heap:=s1.heap.push {cls:=.type "tuple",data:=.seq [u1,u2].toArray}}:=I1.kept (t':=s1.toks) fun b o e=>Heap.get?_push_of_some _ e;rw[hw];refine wpAny_bind (wpAny_pure ?_);show wpAny (model X.prog X.w) X.A (do rule "assign.swapped-stores";let items <-unpackItems (.ref s1.heap.objs.size) 2 none;assignInOrder [fun v=>bindName X.env y v,fun v=>bindName X.env x v] items.reverse;pure Flow.next) _ _ _;refine wpAny_bind (wpAny_rule (wpAny_bind (unpackItems_tuple (items:=#[u1,u2]) (I.ok.hd hc) (IsTup.new s1.heap _) fun h' hx'=>?_)));have I3:=I2.kept (h':=h') (t':=s1.toks) fun b o e=>hx' b o (ne_of_lt (Heap.lt_size e)) e;show wpAny _ _ (assignInOrder [fun v=>bindName X.env y v,fun v=>bindName X.env x v] [u2,u1] >>= fun _=>pure Flow.next) _ _ _;refine wpAny_bind (assignInOrder_cons (wpAny_bindName (store_ok I3 hN hj (.inl hy) rw' (fun s2 I4=>?_) (.inr hy))));refine assignInOrder_cons (wpAny_bindName (store_ok I4 hN hi (.inl hx) rv (fun s3 I5=>assignInOrder_nil (wpAny_pure ?_)) (.inr hx)));rw[List.set_comm _ _ (Ne.symm hij)]at I5;exact⟨_,H1,I5,q1⟩
def tAug(i:Nat)(te:TE)(ti:TIp):TS:=fun D σ H=>∃ x,σ[i]? =some (some x)/\te σ H fun y H1=>ti x y H1 fun z H2=>D.nx (σ.set i (some z)) H2
theorem ps_aug{i:Nat}{x:Str}{e:Expr}{te:TE}{op:Operator}{ti:TIp}{pos':Pos}(hN:X.N.Nodup)(hi:X.N[i]? =some x)(hx:Loc X.env.scope x)(he:PE X e te)(ho:PIp X op ti)(hf:X.fn x=true\/X.env.scope.names.lookup x=some .local:=by first|exact .inl rfl|exact .inr rfl|assumption) :
  PS X (.AugAssign (.Name x pos') op e pos) (tAug i te ti):=by
 intro pins s σ H D I h;obtain⟨v,e1,h⟩:=h;obtain⟨m,hn,hl⟩:=I.loc;have vis:Vis X.env.scope x:=by rcases hx with k|k;exact .inl k;exact .inr (.inl k)
 obtain⟨u,r,l⟩:=hl i x v hi e1 vis;refine wpAny_AugAssign_Name ?_;have go:wpAny (model X.prog X.w) X.A (eval e X.env) (fun w s₂=>wpAny (model X.prog X.w) X.A (inplaceOp op u w) (fun r s₃=>wpAny (model X.prog X.w) X.A (storeName X.env x r) (fun _=>SP X pins D .next) X.xe s₃) X.xe s₂) X.xe s:=by
  refine thn (he pins s σ H _ I h) fun w s1 ⟨y,H1,I1,r1,q1⟩=>?_;refine thn (ho pins s1 σ H1 v y u w _ I1 r r1 q1) fun z s2 ⟨zv,H2,I2,r2,q2⟩=>?_;exact store_ok I2 hN hi hx r2 (fun s3 I3=>⟨_,H2,I3,q2⟩) hf
 rcases l with⟨hk,hm⟩|⟨hk,c,hc,hcell⟩
 ·exact wpAny_loadName_local I.ok.kind hk hn hm go
 ·rcases hk with hk|hk
  ·exact wpAny_loadName_cell I.ok.kind hk hc hcell go
  ·rcases hx with k|k
   ·have:X.env.scope.names.lookup x=some .free:=hk;rw[k]at this;cases this
   ·have:X.env.scope.names.lookup x=some .free:=hk;rw[k]at this;cases this
def tAugS(to ti te:TE)(tget:V->V->Hp->VK->Prop)(tip:TIp)(tset:TSet):TS:=fun D σ H=>to σ H fun o H1=>ti σ H1 fun i H2=>tget o i H2 fun x H3=>te σ H3 fun y H4=>tip x y H4 fun z H5=>tset o i z H5 fun H6=>D.nx σ H6
def PGet(X:Cx)(t:V->V->Hp->VK->Prop):Prop :=
 ∀(pins:List (Addr×Obj))(s:Shared)(σ:St)(H:Hp)(o i:V)(ov iv:Value)(Q:VK),Inv X pins σ H s->RelV o ov->RelV i iv->t o i H Q->
  wpAny (model X.prog X.w) X.A (getItem ov iv) (EP X pins σ Q) X.xe s
theorem ps_augS{o i e:Expr}{to ti te:TE}{tget:V->V->Hp->VK->Prop}{tip:TIp}{tset:TSet}{op:Operator}{tpos:Pos}(ho:PE X o to)(hi:PE X i ti)(hg:PGet X tget)(he:PE X e te)(hp:PIp X op tip)(hs:PSet X tset)(ha:∀ov iv new,augStore i ov iv new=(do holding [new,ov,iv] (setItem ov iv new);release [new,ov,iv] [];pure .next):=by intros;rfl):PS X (.AugAssign (.Subscript o i tpos) op e pos) (tAugS to ti te tget tip tset):=by
 intro pins s σ H D I h;refine wpAny_AugAssign_SubscriptAny (thn (ho pins s σ H _ I h) fun ov s1 ⟨x1,H1,I1,r1,q1⟩=>?_) ha;refine thn (hi pins s1 σ H1 _ I1 q1) fun iv s2 ⟨x2,H2,I2,r2,q2⟩=>?_;refine thn (hg pins s2 σ H2 x1 x2 ov iv _ I2 r1 r2 q2) fun old s3 ⟨x3,H3,I3,r3,q3⟩=>?_;refine thn (he pins s3 σ H3 _ I3 q3) fun v s4 ⟨x4,H4,I4,r4,q4⟩=>?_;refine thn (hp pins s4 σ H4 x3 x4 old v _ I4 r3 r4 q4) fun new s5 ⟨x5,H5,I5,r5,q5⟩=>?_;exact thn (hs pins s5 σ H5 x1 x2 x5 ov iv new _ I5 r1 r2 r5 q5) fun _ s6 ⟨H6,I6,q6⟩=>⟨σ,H6,I6,q6⟩
def ipI(f:Int->Int->Int):TIp:=fun x y H Q=>∃ i j,x= .int i/\y= .int j/\Q (.int (f i j)) H
theorem ip_add:PIp X .Add (ipI fun i j=>i+j):=by
 intro pins s σ H x y v u Q I r1 r2 h;obtain⟨i,j,e1,e2,q⟩:=h;subst e1;subst e2;obtain⟨t,rfl⟩:=r1;obtain⟨t',rfl⟩:=r2;exact iadd_int ⟨.int _,H,I.tok _,⟨_,rfl⟩,q⟩
end
section
variable{X:Cx}{pos:Pos}
def tWhile(c:TT)(tb:TS):TS:=fun D σ H=>∃ W0:Nat->St->Hp->Prop,(∃m,W0 m σ H)/\ ∀m σ H,W0 m σ H->
 c σ H fun b H1=>if b=true then ∃N:St->Hp->Prop,(∀ σ' H',N σ' H'-> ∃m',m'<m/\W0 m' σ' H')/\tb {D with nx:=N,ct:=N,bk:=D.nx} σ H1 else D.nx σ H1
theorem ps_while{c:Expr}{body:List Stmt}{tc:TT}{tb:TS}(hp:PassesOwn (model X.prog X.w) X.A X.env X.xe)(hc:PT X c tc)(hb:PSs X body tb):PS X (.While c body [] pos) (tWhile tc tb):=by
 intro pins s σ H D I h;obtain⟨W0,⟨m0,w0⟩,turn⟩:=h;refine wpAny_While (codeAny_whileLoop (fun n s'=>∃ σ' H',Inv X pins σ' H' s'/\W0 n σ' H') ?_ m0 ⟨σ,H,I,w0⟩);rintro n s1 ⟨σ1,H1,I1,w1⟩;refine wpAny_passesOwn hp (thn (hc pins s1 σ1 H1 _ I1 (turn n σ1 H1 w1)) fun b s2 ⟨H2,I2,q2⟩=>?_);cases b with
 |true =>
  obtain⟨N,hN,q2⟩:=q2;rw[if_pos rfl];refine wpAny_passesOwn hp (thn (hb pins s2 σ1 H2 _ I2 q2) fun f s3 q3=>?_);cases f with
  |next =>
   obtain⟨σ3,H3,I3,n3⟩:=q3;obtain⟨m',hm,w3⟩:=hN σ3 H3 n3;exact⟨m',hm,σ3,H3,I3,w3⟩
  |cont =>
   obtain⟨σ3,H3,I3,n3⟩:=q3;obtain⟨m',hm,w3⟩:=hN σ3 H3 n3;exact⟨m',hm,σ3,H3,I3,w3⟩
  |brk=>exact q3
  |ret v=>exact q3
 |false =>
  rw[if_neg Bool.false_ne_true];exact wpAny_execs_nil ⟨σ1,H2,I2,q2⟩
end
structure It where
 go:Nat->Hp->Prop
 yld:Nat->Hp->V->Hp->Prop
 stop:Nat->Hp->Prop
def FpOk(X:Cx)(pins:List (Addr×Obj))(H:Hp)(b:Addr):Prop :=
 H b=none/\b≠X.env.locals/\b∉X.fs/\(b∈X.ex\/X.s₀.heap.objs.size<=b)/\(∀x c,X.env.cells.lookup x=some c->c≠b)/\ ∀p∈X.pn++pins,p.1≠b
theorem Inv.fpOk{X:Cx}{pins:List (Addr×Obj)}{σ:St}{H H':Hp}{s:Shared}{b:Addr}(I:Inv X pins σ H s)(hb:s.heap.objs.size<=b)(hn:H' b=none):FpOk X pins H' b:=by
 refine⟨hn,Nat.ne_of_gt (lt_of_lt_of_le I.lt hb),I.nofs hb,.inr (le_trans I.sz hb),fun x c e z=>?_,fun p hp z=>?_⟩
 ·obtain⟨v,q⟩:=I.cell x c e;exact absurd (lt_of_lt_of_le q.lt (by rw[z];exact hb)) (lt_irrefl _)
 ·exact absurd (lt_of_lt_of_le (Heap.lt_size (I.pin p hp).1) (by rw[z];exact hb)) (lt_irrefl _)
structure Turn(P:Program)(w:World)(K:W.Frag)(tg:Expr)(J:It)(fp:List Addr)(it:Addr)(tn:Nat->Heap->Prop):Prop where
 mem:it∈fp
 obj:∀i h,tn i h-> ∀b∈fp,∃o,h.get? b=some o/\ ∀v,o.data≠ .cell v
 keep:∀i h h',tn i h->(∀b∈fp,∀o,h.get? b=some o->h'.get? b=some o)->tn i h'
 item:∀(X:Cx),X.prog=P->X.w=w->X.K=K->X.calm=true-> ∀(i:Nat)(pins:List (Addr×Obj))(s:Shared)(σ:St)(H:Hp)(E:Value->Shared->Prop),Inv X pins σ H s->(∀b∈fp,FpOk X pins H b)->tn i s.heap->J.go i H->
  wpAny (model P w) X.A (pyNext (.ref it)) (fun r s1=>∃ u,r=some u/\
   wpAny (model P w) X.A (letOwnedTupleGo tg (.ref it) u) (fun _ s2=>∃ x H',Inv X pins σ H' s2/\RelV x u/\J.yld i H x H'/\tn (i+1) s2.heap/\ ∀b∈fp,H' b=none) E s1) E s
 done:∀(X:Cx),X.prog=P->X.w=w->X.K=K->X.calm=true-> ∀(i:Nat)(pins:List (Addr×Obj))(s:Shared)(σ:St)(H:Hp)(E:Value->Shared->Prop),Inv X pins σ H s->(∀b∈fp,FpOk X pins H b)->tn i s.heap->J.stop i H->
  wpAny (model P w) X.A (pyNext (.ref it)) (fun r s1=>r=none/\Inv X pins σ H s1) E s
 self:∀(A:Around)(i:Nat)(s:Shared)(Q:Value->Shared->Prop)(E:Value->Shared->Prop),tn i s.heap->Q (.ref it) s->wpAny (model P w) A (pyIter (.ref it)) Q E s
abbrev TI:=St->Hp->(It->Hp->Prop)->Prop
def PIE(X:Cx)(pins:List (Addr×Obj))(σ:St)(tg:Expr)(R:It->Hp->Prop)(itv:Value)(s2:Shared):Prop :=
 ∃(it:Addr)(fp:List Addr)(tn:Nat->Heap->Prop)(J:It)(H':Hp),itv= .ref it/\Inv X pins σ H' s2/\Turn X.prog X.w X.K tg J fp it tn/\tn 0 s2.heap/\(∀b∈fp,FpOk X pins H' b)/\R J H'
def PI(X:Cx)(tg iter:Expr)(wi:TI):Prop :=
 ∀(pins:List (Addr×Obj))(s:Shared)(σ:St)(H:Hp)(R:It->Hp->Prop),Inv X pins σ H s->wi σ H R->
  wpAny (model X.prog X.w) X.A (eval iter X.env) (fun v s1=>wpAny (model X.prog X.w) X.A (pyIter v) (PIE X pins σ tg R) X.xe s1) X.xe s
theorem go_of{M:Model}{A:Around}{E:Value->Shared->Prop}{s:Shared}{tg:Expr}{it:Addr}{u:Value}{o:Obj}{n:String}{vs:Array Value}{Q:Unit->Shared->Prop}(ho:s.heap.get? it=some o)(hc:o.cls= .type n)(hd:o.data= .fields vs)(hn:["enumerate","zip","dict_itemiterator","dict_reverseitemiterator","odict_iterator","itertools.zip_longest","itertools.pairwise"].contains n=false)(hQ:Q () s):wpAny M A (letOwnedTupleGo tg (.ref it) u) Q E s:=by
 unfold letOwnedTupleGo;cases tg <;>first
  |exact wpAny_pure hQ
  |(cases u <;>first
    |exact wpAny_pure hQ
    |(refine wpAny_bind (wpAny_load ho ?_)
      rw[hc,hd];show wpAny M A (if(["enumerate","zip","dict_itemiterator","dict_reverseitemiterator","odict_iterator","itertools.zip_longest","itertools.pairwise"].contains n&&vs[0]? ==some (rawInt _))=true then _ else _) Q E s;rw[if_neg (by intro h;rw[hn,Bool.false_and]at h;cases h)];exact wpAny_pure hQ))
def Itl(K:W.Frag)(a:Addr):It :=
 ⟨fun i H=>∃ xs x,SqL K H a xs/\xs[i]? =some x,fun i H x H'=>H'=H/\ ∀xs,SqL K H a xs->xs[i]? =some x,fun i H=>∃ xs,SqL K H a xs/\xs.length<=i⟩
def Itt(K:W.Frag)(a:Addr):It :=
 ⟨fun i H=>∃ xs x,SqT K H a xs/\xs[i]? =some x,fun i H x H'=>H'=H/\ ∀xs,SqT K H a xs->xs[i]? =some x,fun i H=>∃ xs,SqT K H a xs/\xs.length<=i⟩
def Itr(lo:Int)(n:Nat):It:=⟨fun i _=>i<n,fun i H x H'=>H'=H/\x= .int (lo+i),fun i _=>n<=i⟩
theorem turn_list{P:Program}{w:World}{K:W.Frag}{tg:Expr}(a it:Addr):Turn P w K tg (Itl K a) [it] it (fun i h=>h.IsListIter it a i) where
 mem:=by simp
 obj:=fun i h st b hb=>by
  have e:b=it:=by simpa using hb
  subst e;obtain⟨o,e,c,d⟩:=st;exact⟨o,e,fun v z=>by rw[d]at z;cases z⟩
 keep:=fun i h h' st k=>st.at fun o e=>k it (by simp) o e
 item:=by
  intro X hP hw hK hc i pins s σ H E I hf st hg;subst hP hw hK;obtain⟨xs,x,hq,hx⟩:=hg;obtain⟨its,rv,p,hz⟩:=I.list hq;obtain⟨u,hu,ru⟩:=rv.get hx;obtain⟨f0,f1,f2,f3,f4,f5⟩:=hf it (by simp);refine wpAny_pyNext_list_item st p.isList (x:=u) (by simpa using hu) fun h' st' sb=>?_;have I1:Inv X pins σ H {s with heap:=h'}:=I.turned (t':=s.toks) (fun b o hb e=>(sb.2 b hb).trans e) f0 f1 f3 f4 f5;obtain⟨o,e,c,d⟩:=id st';exact⟨u,rfl,go_of (s:={s with heap:=h'}) e c d (by decide) ⟨x,H,I1,ru,⟨rfl,fun ys hy=>by rw[I.list_inj hy hq];exact hx⟩,st',fun b hb=>(hf b hb).1⟩⟩
 done:=by
  intro X hP hw hK hc i pins s σ H E I hf st hg;subst hP hw hK;obtain⟨xs,hq,hx⟩:=hg;obtain⟨its,rv,p,hz⟩:=I.list hq;obtain⟨f0,f1,f2,f3,f4,f5⟩:=hf it (by simp);have hl:=rv.length;exact wpAny_pyNext_list_end (I.ok.hd hc) st p.isList (by simp;omega) fun h' eb=>⟨rfl,I.turned (t':=s.toks) (fun b o hb e=>eb b o hb e) f0 f1 f3 f4 f5⟩
 self:=fun _ _ _ _ _ st h=>wpAny_pyIter_listiter st h
theorem turn_tuple{P:Program}{w:World}{K:W.Frag}{tg:Expr}(a it:Addr):Turn P w K tg (Itt K a) [it] it (fun i h=>h.IsTupleIter it a i) where
 mem:=by simp
 obj:=fun i h st b hb=>by
  have e:b=it:=by simpa using hb
  subst e;obtain⟨o,e,c,d⟩:=st;exact⟨o,e,fun v z=>by rw[d]at z;cases z⟩
 keep:=fun i h h' st k=>st.at fun o e=>k it (by simp) o e
 item:=by
  intro X hP hw hK hc i pins s σ H E I hf st hg;subst hP hw hK;obtain⟨xs,x,hq,hx⟩:=hg;obtain⟨its,rv,p,hz⟩:=I.tuple hq;obtain⟨u,hu,ru⟩:=rv.get hx;obtain⟨f0,f1,f2,f3,f4,f5⟩:=hf it (by simp);refine wpAny_pyNext_tuple_item st (show s.heap.IsTuple a its.toArray from p) (x:=u) (by simpa using hu) fun h' st' sb=>?_;have I1:Inv X pins σ H {s with heap:=h'}:=I.turned (t':=s.toks) (fun b o hb e=>(sb.2 b hb).trans e) f0 f1 f3 f4 f5;obtain⟨o,e,c,d⟩:=id st';exact⟨u,rfl,go_of (s:={s with heap:=h'}) e c d (by decide) ⟨x,H,I1,ru,⟨rfl,fun ys hy=>by rw[I.tuple_inj hy hq];exact hx⟩,st',fun b hb=>(hf b hb).1⟩⟩
 done:=by
  intro X hP hw hK hc i pins s σ H E I hf st hg;subst hP hw hK;obtain⟨xs,hq,hx⟩:=hg;obtain⟨its,rv,p,hz⟩:=I.tuple hq;obtain⟨f0,f1,f2,f3,f4,f5⟩:=hf it (by simp);have hl:=rv.length;exact wpAny_pyNext_tuple_end (I.ok.hd hc) st (show s.heap.IsTuple a its.toArray from p) (by simp;omega) fun h' eb=>⟨rfl,I.turned (t':=s.toks) (fun b o hb e=>eb b o hb e) f0 f1 f3 f4 f5⟩
 self:=fun _ _ _ _ _ st h=>wpAny_pyIter_tupleiter st h
theorem turn_range{P:Program}{w:World}{K:W.Frag}{tg:Expr}(it:Addr)(lo:Int)(n:Nat):Turn P w K tg (Itr lo n) [it] it (fun i h=>IsRangeIter h it (lo+(i:Nat)*1) ((n:Int)-(i:Nat)) 1) where
 mem:=by simp
 obj:=fun i h st b hb=>by
  have e:b=it:=by simpa using hb
  subst e;exact⟨_,st,fun v z=>by
   have z':Data.fields _=Data.cell v:=z;cases z'⟩
 keep:=fun i h h' st k=>k it (by simp) _ st
 item:=by
  intro X hP hw hK hc i pins s σ H E I hf st hg;subst hP hw hK;obtain⟨f0,f1,f2,f3,f4,f5⟩:=hf it (by simp);have W0:=Walks.range (prog:=X.prog) (w:=X.w) (I.ok.hd hc) it lo 1 n;refine W0.item i s _ _ hg st fun v h' tk hv st' kk=>?_;obtain⟨t,rfl⟩:=hv;have I1:Inv X pins σ H {s with heap:=h',toks:=tk}:=I.turned (fun b o hb e=>kk b o (by simpa using hb) e) f0 f1 f3 f4 f5;refine⟨_,rfl,go_of (s:={s with heap:=h',toks:=tk}) (n :="range_iterator") st' rfl rfl (by decide) ⟨.int (lo+i),H,I1,⟨t,?_⟩,⟨rfl,rfl⟩,st',fun b hb=>(hf b hb).1⟩⟩;rw[Int.mul_one]
 done:=by
  intro X hP hw hK hc i pins s σ H E I hf st hg;subst hP hw hK;obtain⟨f0,f1,f2,f3,f4,f5⟩:=hf it (by simp);exact wpAny_pyNext_range_end (I.ok.hd hc) st (by have:n<=i:=hg;omega) fun h' eb=>⟨rfl,I.turned (t':=s.toks) (fun b o hb e=>eb b o hb e) f0 f1 f3 f4 f5⟩
 self:=fun _ _ _ _ _ st h=>wpAny_pyIter_rangeiter st h
section
variable{X:Cx}{tg:Expr}
def iList(K:W.Frag)(tl:TE):TI:=fun σ H R=>tl σ H fun x H1=>∃ a,x= .ref a/\(∃xs,SqL K H1 a xs)/\R (Itl K a) H1
def iTup(K:W.Frag)(tl:TE):TI:=fun σ H R=>tl σ H fun x H1=>∃ a,x= .ref a/\(∃xs,SqT K H1 a xs)/\R (Itt K a) H1
theorem y4{l:Expr}{tl:TE}(hl:PE X l tl):PI X tg l (iList X.K tl):=by
 intro pins s σ H R I h;refine thn (hl pins s σ H _ I h) fun v s1 ⟨x,H1,I1,r1,q1⟩=>?_;obtain⟨a,e,⟨xs,hq⟩,q⟩:=q1;subst e;cases r1;obtain⟨its,rv,p,hz⟩:=I1.list hq;refine wpAny_pyIter_list p.isList ?_;refine⟨s1.heap.objs.size,[s1.heap.objs.size],_,_,H1,rfl,I1.kept (t':=s1.toks) fun b o e=>Heap.get?_push_of_some _ e,turn_list a _,⟨_,Heap.get?_push_size _ rfl,rfl,rfl⟩,fun b hb=>?_,q⟩;have e:b=s1.heap.objs.size:=by simpa using hb
 subst e;exact I1.fpOk (le_refl _) (I1.hok.fresh (le_refl _))
theorem jP{l:Expr}{tl:TE}(hl:PE X l tl):PI X tg l (iTup X.K tl):=by
 intro pins s σ H R I h;refine thn (hl pins s σ H _ I h) fun v s1 ⟨x,H1,I1,r1,q1⟩=>?_;obtain⟨a,e,⟨xs,hq⟩,q⟩:=q1;subst e;cases r1;obtain⟨its,rv,p,hz⟩:=I1.tuple hq;refine wpAny_pyIter_tuple (show s1.heap.IsTuple a its.toArray from p) ?_;refine⟨s1.heap.objs.size,[s1.heap.objs.size],_,_,H1,rfl,I1.kept (t':=s1.toks) fun b o e=>Heap.get?_push_of_some _ e,turn_tuple a _,⟨_,Heap.get?_push_size _ rfl,rfl,rfl⟩,fun b hb=>?_,q⟩;have e:b=s1.heap.objs.size:=by simpa using hb
 subst e;exact I1.fpOk (le_refl _) (I1.hok.fresh (le_refl _))
theorem range_it{pins:List (Addr×Obj)}{σ:St}{H:Hp}{s:Shared}{R:It->Hp->Prop}{E:Value->Shared->Prop}{lo hi:Int}{t u v:Tok}{tk:Nat}(I:Inv X pins σ H s)(h1:-(2^62)<=lo)(h2:lo<2^62)(h3:-(2^62)<=hi)(h4:hi<2^62)(q:R (Itr lo (hi-lo).toNat) H):wpAny (model X.prog X.w) X.A (pyIter (.ref s.heap.objs.size)) (PIE X pins σ tg R) E {s with heap:=s.heap.push {cls:=.type "range",data:=.fields #[.int lo t,.int hi u,.int 1 v]},toks:=tk}:=by
 refine wpAny_pyIter_range (IsRange.new ..) (small_one h1 h2 h3 h4) ?_;have I1:Inv X pins σ H {s with heap:=s.heap.push {cls:=.type "range",data:=.fields #[.int lo t,.int hi u,.int 1 v]},toks:=tk}:=I.kept fun b o e=>Heap.get?_push_of_some _ e;refine⟨(s.heap.push {cls:=.type "range",data:=.fields #[.int lo t,.int hi u,.int 1 v]}).objs.size,[(s.heap.push {cls:=.type "range",data:=.fields #[.int lo t,.int hi u,.int 1 v]}).objs.size],_,_,H,rfl,
  I1.kept (t':=tk) fun b o e=>Heap.get?_push_of_some _ e,turn_range _ lo (hi-lo).toNat,?_,fun b hb=>?_,q⟩
 ·have e1:lo+((0:Nat):Int)*1=lo:=by simp
  have e2:(((hi-lo).toNat:Nat):Int)-((0:Nat):Int)=Builtin.Range.rangeSize lo hi 1:=by rw[rangeSize_one];split <;>omega
  show IsRangeIter _ _ (lo+((0:Nat):Int)*1) ((((hi-lo).toNat:Nat):Int)-((0:Nat):Int)) 1;rw[e1,e2];exact Heap.get?_push_size _ rfl
 ·have e:b=(s.heap.push {cls:=.type "range",data:=.fields #[.int lo t,.int hi u,.int 1 v]}).objs.size:=by simpa using hb
  subst e;exact I1.fpOk (le_refl _) (I1.hok.fresh (le_refl _))
def iRng1(ta:TA):TI:=fun σ H R=>ta σ H fun vs H1=>∃ j:Int,vs=[.int j]/\ -(2^62)<=j/\j<2^62/\R (Itr 0 j.toNat) H1
def iRng2(ta:TA):TI:=fun σ H R=>ta σ H fun vs H1=>∃ i j:Int,vs=[.int i,.int j]/\(-(2^62)<=i/\i<2^62/\ -(2^62)<=j/\j<2^62)/\R (Itr i (j-i).toNat) H1
theorem kJ{a:Expr}{ta:TA}{p pos:Pos}(hg:Gl X "range")(hm:X.mg "range"=none)(ha:PA X [a] ta)(hs:starEach [a] X.env=[(false,eval a X.env)]:=by rfl):PI X tg (.Call (.Name "range" p) [a] [] pos) (iRng1 ta):=by
 intro pins s σ H R I h;refine Call_ (jM I hg hm boot_range (PyProof.Rows.callWith_type1 (thn (ha pos pins s σ H _ I h) fun us s1 ⟨vs,H1,I1,r1,q1⟩=>?_) hs rfl));obtain⟨j,e,q1,q2,q⟩:=q1;subst e;cases r1 with
 |cons r rr =>
  cases rr;obtain⟨t,rfl⟩:=r;exact call_range_1 (range_it I1 (by omega) (by omega) q1 q2 (by simpa using q))
theorem pi_range2{a b:Expr}{ta:TA}{p pos:Pos}(hg:Gl X "range")(hm:X.mg "range"=none)(ha:PA X [a,b] ta)(hs:starEach [a,b] X.env=[(false,eval a X.env),(false,eval b X.env)]:=by rfl)(hs2:starEach [b] X.env=[(false,eval b X.env)]:=by rfl) :
  PI X tg (.Call (.Name "range" p) [a,b] [] pos) (iRng2 ta):=by
 intro pins s σ H R I h;refine Call_ (jM I hg hm boot_range (PyProof.Rows.callWith_type1 (thn (ha pos pins s σ H _ I h) fun us s1 ⟨vs,H1,I1,r1,q1⟩=>?_) (by rw[hs,hs2]) (by rw[hs2];rfl)));obtain⟨i,j,e,⟨q1,q2,q3,q4⟩,q⟩:=q1;subst e;cases r1 with
 |cons r rr =>
  cases rr with
  |cons r' rr =>
   cases rr;obtain⟨t,rfl⟩:=r;obtain⟨t',rfl⟩:=r';exact call_range_2 (range_it I1 q1 q2 q3 q4 q)
def tFor(wi:TI)(g:TG)(tb:TS):TS:=fun D σ H=>wi σ H fun J H1=>∃ W0:Nat->Nat->St->Hp->Prop,(∃m,W0 0 m σ H1)/\ ∀i m σ H,W0 i m σ H->
 (J.stop i H/\D.nx σ H)\/(J.go i H/\ ∃N:St->Hp->Prop,(∀ σ' H',N σ' H'-> ∃m',m'<m/\W0 (i+1) m' σ' H')/\ ∀x H',J.yld i H x H'->g x σ H' fun σ2 H2=>tb {D with nx:=N,ct:=N,bk:=D.nx} σ2 H2)
def pinsAt(fp:List Addr)(h:Heap):List (Addr×Obj):=fp.filterMap fun b=>(h.get? b).map fun o=>(b,o)
theorem mem_pinsAt{fp:List Addr}{h:Heap}{b:Addr}{o:Obj}(hb:b∈fp)(e:h.get? b=some o):(b,o)∈pinsAt fp h:=List.mem_filterMap.mpr ⟨b,hb,by rw[e];rfl⟩
theorem of_pinsAt{fp:List Addr}{h:Heap}{p:Addr×Obj}(hp:p∈pinsAt fp h):p.1∈fp/\h.get? p.1=some p.2:=by
 obtain⟨b,hb,e⟩:=List.mem_filterMap.mp hp;cases q:h.get? b with
 |none=>rw[q]at e;cases e
 |some o =>
  rw[q]at e;have e':(b,o)=p:=Option.some.inj e;subst e';exact⟨hb,q⟩
theorem Inv.pinned{pins:List (Addr×Obj)}{σ:St}{H:Hp}{s:Shared}{fp:List Addr}(I:Inv X pins σ H s)(hf:∀b∈fp,FpOk X pins H b)(ho:∀b∈fp,∃o,s.heap.get? b=some o/\ ∀v,o.data≠ .cell v):Inv X (pins++pinsAt fp s.heap) σ H s :=
 I.pins_of fun p hp=>(mem_append.mp hp).elim (fun z=>I.pin p (mem_append_right _ z)) fun z=>by
  obtain⟨hb,e⟩:=of_pinsAt z;obtain⟨f0,f1,f2,_⟩:=hf p.1 hb;obtain⟨o,e',d⟩:=ho p.1 hb;rw[e]at e';cases e';exact⟨e,f0,f1,f2,d⟩
theorem Inv.unpinned{pins pl:List (Addr×Obj)}{σ:St}{H:Hp}{s:Shared}(I:Inv X (pins++pl) σ H s):Inv X pins σ H s:=I.pins_of fun p hp=>I.pin p (mem_append_right _ (List.mem_append_left _ hp))
theorem yo{iter:Expr}{body:List Stmt}{wi:TI}{g:TG}{tb:TS}{pos:Pos}(hp:PassesOwn (model X.prog X.w) X.A X.env X.xe)(hc:X.calm=true)(hi:PI X tg iter wi)(hg:PG X tg g)(hb:PSs X body tb)(hs:∀x,foldedSetIterable iter X.env x=pure x:=by intro _;rfl):PS X (.For tg iter body [] pos) (tFor wi g tb):=by
 intro pins s σ H D I h;refine wpAny_For (thn (hi pins s σ H _ I h) fun v s1 h1=>thn h1 fun itv s2 h2=>?_) hs;obtain⟨it,fp,tn,J,H2,e,I2,T,st2,f2,W0,⟨m0,w0⟩,turn⟩:=h2;subst e
 -- what stays true of the iterator's objects through the loop
 have stat:∀{H':Hp},(∀b∈fp,H' b=none)-> ∀b∈fp,FpOk X pins H' b:=fun hn b hb=>⟨hn b hb,(f2 b hb).2⟩;refine codeAny_forLoop_any (fun n s'=>∃ i σ' H',Inv X pins σ' H' s'/\tn i s'.heap/\(∀b∈fp,H' b=none)/\W0 i n σ' H') ?_ m0 ⟨0,σ,H2,I2,st2,fun b hb=>(f2 b hb).1,w0⟩;rintro n s3 ⟨i,σ3,H3,I3,st3,fr3,w3⟩;rcases turn i n σ3 H3 w3 with⟨stop,qn⟩|⟨go,N,hN,step⟩
 ·refine wpAny_passesOwn hp (thn (T.done X rfl rfl rfl hc i pins s3 σ3 H3 X.xe I3 (stat fr3) st3 stop) fun r s4 ⟨hr,I4⟩=>?_);subst hr;exact wpAny_execs_nil ⟨σ3,H3,I4,qn⟩
 ·refine wpAny_passesOwn hp (thn (T.item X rfl rfl rfl hc i pins s3 σ3 H3 X.xe I3 (stat fr3) st3 go) fun r s4 ⟨u,hr,h4⟩=>?_);subst hr;refine wpAny_passesOwn hp (thn h4 fun _ s5 ⟨x,H5,I5,r5,y5,st5,fr5⟩=>?_);have I5':=I5.pinned (stat fr5) (T.obj _ _ st5);refine wpAny_passesOwn hp (thn (hg _ s5 σ3 H5 x u _ I5' r5 (step x H5 y5)) fun _ s6 ⟨σ6,H6,I6,q6⟩=>?_);refine wpAny_passesOwn hp (thn (hb _ s6 σ6 H6 _ I6 q6) fun f s7 q7=>?_);have again:∀{σ7:St}{H7:Hp},Inv X (pins++pinsAt fp s5.heap) σ7 H7 s7->N σ7 H7-> ∃m,m<n/\ ∃i σ' H',Inv X pins σ' H' s7/\tn i s7.heap/\(∀b∈fp,H' b=none)/\W0 i m σ' H':=fun{σ7 H7} I7 n7=>by
   obtain⟨m',hm,w7⟩:=hN σ7 H7 n7;refine⟨m',hm,i+1,σ7,H7,I7.unpinned,T.keep _ _ _ st5 fun b hb o e=>(I7.pin (b,o) (mem_append_right _ (mem_append_right _ (mem_pinsAt hb e)))).1,fun b hb=>?_,w7⟩;obtain⟨o,e,d⟩:=T.obj _ _ st5 b hb;exact(I7.pin (b,o) (mem_append_right _ (mem_append_right _ (mem_pinsAt hb e)))).2.1
  cases f with
  |next=>obtain⟨σ7,H7,I7,n7⟩:=q7;exact again I7 n7
  |cont=>obtain⟨σ7,H7,I7,n7⟩:=q7;exact again I7 n7
  |brk=>obtain⟨σ7,H7,I7,q7⟩:=q7;exact⟨σ7,H7,I7.unpinned,q7⟩
  |ret v=>obtain⟨x7,σ7,H7,I7,r7,q7⟩:=q7;exact⟨x7,σ7,H7,I7.unpinned,r7,q7⟩
end
theorem kX{K:W.Frag}{a:Addr}{xs:List V}{g:TG}{tb:TS}{D:Ends}{σ:St}{H:Hp}(Pv:Nat->St->Hp->Prop)(h0:Pv 0 σ H)(hl:∀i σ H,i<=xs.length->Pv i σ H->SqL K H a xs)(hs:∀i x σ H,xs[i]? =some x->Pv i σ H->g x σ H fun σ2 H2=>tb {D with nx:=Pv (i+1),ct:=Pv (i+1),bk:=D.nx} σ2 H2)(hd:∀ σ H,Pv xs.length σ H->D.nx σ H) :
  ∃W0:Nat->Nat->St->Hp->Prop,(∃m,W0 0 m σ H)/\ ∀i m σ H,W0 i m σ H->
   ((Itl K a).stop i H/\D.nx σ H)\/((Itl K a).go i H/\ ∃N:St->Hp->Prop,(∀ σ' H',N σ' H'-> ∃m',m'<m/\W0 (i+1) m' σ' H')/\ ∀x H',(Itl K a).yld i H x H'->g x σ H' fun σ2 H2=>tb {D with nx:=N,ct:=N,bk:=D.nx} σ2 H2):=by
 refine⟨fun i m σ H=>m=xs.length-i/\i<=xs.length/\Pv i σ H,⟨xs.length,by simp,zero_le _,h0⟩,?_⟩;rintro i m σ H ⟨rfl,hi,p⟩;have q:=hl i σ H hi p;by_cases hlt:i<xs.length
 ·refine .inr ⟨⟨xs,xs[i],q,by simp[hlt]⟩,Pv (i+1),fun σ' H' p'=>⟨xs.length-(i+1),by omega,rfl,hlt,p'⟩,fun x H' y=>?_⟩;obtain⟨e,y⟩:=y;subst e;exact hs i x σ _ (y xs q) p
 ·have e:i=xs.length:=by omega
  subst e;exact .inl ⟨⟨xs,q,le_refl _⟩,hd σ H p⟩
theorem for_tup{K:W.Frag}{a:Addr}{xs:List V}{g:TG}{tb:TS}{D:Ends}{σ:St}{H:Hp}(Pv:Nat->St->Hp->Prop)(h0:Pv 0 σ H)(hl:∀i σ H,i<=xs.length->Pv i σ H->SqT K H a xs)(hs:∀i x σ H,xs[i]? =some x->Pv i σ H->g x σ H fun σ2 H2=>tb {D with nx:=Pv (i+1),ct:=Pv (i+1),bk:=D.nx} σ2 H2)(hd:∀ σ H,Pv xs.length σ H->D.nx σ H) :
  ∃W0:Nat->Nat->St->Hp->Prop,(∃m,W0 0 m σ H)/\ ∀i m σ H,W0 i m σ H->
   ((Itt K a).stop i H/\D.nx σ H)\/((Itt K a).go i H/\ ∃N:St->Hp->Prop,(∀ σ' H',N σ' H'-> ∃m',m'<m/\W0 (i+1) m' σ' H')/\ ∀x H',(Itt K a).yld i H x H'->g x σ H' fun σ2 H2=>tb {D with nx:=N,ct:=N,bk:=D.nx} σ2 H2):=by
 refine⟨fun i m σ H=>m=xs.length-i/\i<=xs.length/\Pv i σ H,⟨xs.length,by simp,zero_le _,h0⟩,?_⟩;rintro i m σ H ⟨rfl,hi,p⟩;have q:=hl i σ H hi p;by_cases hlt:i<xs.length
 ·refine .inr ⟨⟨xs,xs[i],q,by simp[hlt]⟩,Pv (i+1),fun σ' H' p'=>⟨xs.length-(i+1),by omega,rfl,hlt,p'⟩,fun x H' y=>?_⟩;obtain⟨e,y⟩:=y;subst e;exact hs i x σ _ (y xs q) p
 ·have e:i=xs.length:=by omega
  subst e;exact .inl ⟨⟨xs,q,le_refl _⟩,hd σ H p⟩
theorem jK{lo:Int}{n:Nat}{g:TG}{tb:TS}{D:Ends}{σ:St}{H:Hp}(Pv:Nat->St->Hp->Prop)(h0:Pv 0 σ H)(hs:∀i σ H,i<n->Pv i σ H->g (.int (lo+i)) σ H fun σ2 H2=>tb {D with nx:=Pv (i+1),ct:=Pv (i+1),bk:=D.nx} σ2 H2)(hd:∀ σ H,Pv n σ H->D.nx σ H) :
  ∃W0:Nat->Nat->St->Hp->Prop,(∃m,W0 0 m σ H)/\ ∀i m σ H,W0 i m σ H->
   ((Itr lo n).stop i H/\D.nx σ H)\/((Itr lo n).go i H/\ ∃N:St->Hp->Prop,(∀ σ' H',N σ' H'-> ∃m',m'<m/\W0 (i+1) m' σ' H')/\ ∀x H',(Itr lo n).yld i H x H'->g x σ H' fun σ2 H2=>tb {D with nx:=N,ct:=N,bk:=D.nx} σ2 H2):=by
 refine⟨fun i m σ H=>m=n-i/\i<=n/\Pv i σ H,⟨n,by simp,zero_le _,h0⟩,?_⟩;rintro i m σ H ⟨rfl,hi,p⟩;by_cases hlt:i<n
 ·refine .inr ⟨hlt,Pv (i+1),fun σ' H' p'=>⟨n-(i+1),by omega,rfl,hlt,p'⟩,fun x H' y=>?_⟩;obtain⟨e,y⟩:=y;subst e y;exact hs i σ _ hlt p
 ·have e:i=n:=by omega
  subst e;exact .inl ⟨le_refl _,hd σ H p⟩
abbrev R2:=V->V->Hp->VK->Prop
def OpR(X:Cx)(f:Value->Value->Sem Value)(r:R2):Prop :=
 ∀(pins:List (Addr×Obj))(s:Shared)(σ:St)(H:Hp)(x y:V)(v u:Value)(Q:VK),Inv X pins σ H s->RelV x v->RelV y u->r x y H Q->
  wpAny (model X.prog X.w) X.A (f v u) (EP X pins σ Q) X.xe s
def UnR(X:Cx)(f:Value->Sem Value)(r:V->Hp->VK->Prop):Prop :=
 ∀(pins:List (Addr×Obj))(s:Shared)(σ:St)(H:Hp)(x:V)(v:Value)(Q:VK),Inv X pins σ H s->RelV x v->r x H Q->
  wpAny (model X.prog X.w) X.A (f v) (EP X pins σ Q) X.xe s
def jH(X:Cx)(f:Value)(r:List V->Hp->VK->Prop):Prop :=
 ∀(pins:List (Addr×Obj))(s:Shared)(σ:St)(H:Hp)(xs:List V)(us:List Value)(Q:VK),Inv X pins σ H s->Vals xs us->r xs H Q->
  wpAny (model X.prog X.w) X.A (call f us) (EP X pins σ Q) X.xe s
def TruR(X:Cx)(r:V->Hp->(Bool->Hp->Prop)->Prop):Prop :=
 ∀(pins:List (Addr×Obj))(s:Shared)(σ:St)(H:Hp)(x:V)(v:Value)(Q:Bool->Hp->Prop),Inv X pins σ H s->RelV x v->r x H Q->
  wpAny (model X.prog X.w) X.A (truthy v) (TP X pins σ Q) X.xe s
def tOp(r:R2)(ta tb:TE):TE:=fun σ H Q=>ta σ H fun x H1=>tb σ H1 fun y H2=>r x y H2 Q
def tUn(r:V->Hp->VK->Prop)(ta:TE):TE:=fun σ H Q=>ta σ H fun x H1=>r x H1 Q
def rI(C:Int->Int->Prop)(g:Int->Int->V):R2:=fun x y H Q=>∃ i j,x= .int i/\y= .int j/\C i j/\Q (g i j) H
def rI0(g:Int->Int->V):R2:=fun x y H Q=>∃ i j,x= .int i/\y= .int j/\Q (g i j) H
def rU(g:Int->V):V->Hp->VK->Prop:=fun x H Q=>∃ i,x= .int i/\Q (g i) H
section
variable{X:Cx}{a b c:Expr}{ta tb tc:TE}{pos:Pos}
theorem binT(ha:PE X a ta)(hb:PE X b tb){pins:List (Addr×Obj)}{s:Shared}{σ:St}{H:Hp}{R:V->V->Hp->Prop}(I:Inv X pins σ H s)(h:ta σ H fun x H1=>tb σ H1 fun y H2=>R x y H2){Q:Value->Shared->Prop}{f:Value->Value->Sem Value}(hf:∀v u s2 x y H2,Inv X pins σ H2 s2->RelV x v->RelV y u->R x y H2->wpAny (model X.prog X.w) X.A (f v u) Q X.xe s2) :
  wpAny (model X.prog X.w) X.A (eval a X.env) (fun v s₁=>wpAny (model X.prog X.w) X.A (eval b X.env) (fun u s₂=>wpAny (model X.prog X.w) X.A (f v u) Q X.xe s₂) X.xe s₁) X.xe s:=by
 refine thn (ha pins s σ H _ I h) fun v s1 ⟨x,H1,I1,r1,q1⟩=>?_;refine thn (hb pins s1 σ H1 _ I1 q1) fun u s2 ⟨y,H2,I2,r2,q2⟩=>?_;exact hf v u s2 x y H2 I2 r1 r2 q2
theorem zw{op:Operator}{r:R2}(ho:OpR X (binaryOp op) r)(ha:PE X a ta)(hb:PE X b tb):PE X (.BinOp a op b pos) (tOp r ta tb):=by
 intro pins s σ H Q I h;exact wpAny_BinOp (binT ha hb I h fun v u s2 x y H2 I2 rx ry q=>ho pins s2 σ H2 x y v u Q I2 rx ry q)
theorem pe_un{op:UnaryOp}{r:V->Hp->VK->Prop}(ho:UnR X (unaryOp op) r)(ha:PE X a ta):PE X (.UnaryOp op a pos) (tUn r ta):=by
 intro pins s σ H Q I h;exact UnaryOp_ (thn (ha pins s σ H _ I h) fun v s1 ⟨x,H1,I1,r1,q1⟩=>ho pins s1 σ H1 x v Q I1 r1 q1)
theorem opI{f:Value->Value->Sem Value}{C:Int->Int->Prop}{g:Int->Int->Int}(rule:∀(i j:Int) (t u:Tok) (s:Shared) (Q:Value->Shared->Prop) (E:Value->Shared->Prop),C i j->Q (.int (g i j) s.toks) {s with toks:=s.toks+1}->wpAny (model X.prog X.w) X.A (f (.int i t) (.int j u)) Q E s) :
  OpR X f (rI C fun i j=>.int (g i j)):=by
 intro pins s σ H x y v u Q I rx ry h;obtain⟨i,j,rfl,rfl,hc,q⟩:=h;obtain⟨t,rfl⟩:=rx;obtain⟨t',rfl⟩:=ry;exact rule i j t t' s _ _ hc ⟨.int (g i j),H,I.tok _,⟨_,rfl⟩,q⟩
theorem opI0{f:Value->Value->Sem Value}{g:Int->Int->Int}(rule:∀(i j:Int) (t u:Tok) (s:Shared) (Q:Value->Shared->Prop) (E:Value->Shared->Prop),Q (.int (g i j) s.toks) {s with toks:=s.toks+1}->wpAny (model X.prog X.w) X.A (f (.int i t) (.int j u)) Q E s) :
  OpR X f (rI0 fun i j=>.int (g i j)):=by
 intro pins s σ H x y v u Q I rx ry h;obtain⟨i,j,rfl,rfl,q⟩:=h;obtain⟨t,rfl⟩:=rx;obtain⟨t',rfl⟩:=ry;exact rule i j t t' s _ _ ⟨.int (g i j),H,I.tok _,⟨_,rfl⟩,q⟩
theorem opB0{f:Value->Value->Sem Value}{g:Int->Int->Bool}(rule:∀(i j:Int) (t u:Tok) (s:Shared) (Q:Value->Shared->Prop) (E:Value->Shared->Prop),Q (.bool (g i j)) s->wpAny (model X.prog X.w) X.A (f (.int i t) (.int j u)) Q E s) :
  OpR X f (rI0 fun i j=>.bl (g i j)):=by
 intro pins s σ H x y v u Q I rx ry h;obtain⟨i,j,rfl,rfl,q⟩:=h;obtain⟨t,rfl⟩:=rx;obtain⟨t',rfl⟩:=ry;exact rule i j t t' s _ _ ⟨.bl (g i j),H,I,rfl,q⟩
def CPow(i j:Int):Prop:=0<=j/\j<=1000000/\i.natAbs<2^64
def CMul(i j:Int):Prop:=(-(2^64)<i/\i<2^64)\/(-(2^64)<j/\j<2^64)
theorem CMul.ok{i j:Int}(h:CMul i j):IntMulOk i j:=by
 rcases h with⟨h1,h2⟩|⟨h1,h2⟩
 ·exact .of_left (intBits_le_64 h1 h2)
 ·exact .of_right (intBits_le_64 h1 h2)
theorem kH:OpR X (binaryOp .Add) (rI0 fun i j=>.int (i+j)):=opI0 fun _ _ _ _ _ _ _ q=>add_int q
theorem op_sub:OpR X (binaryOp .Sub) (rI0 fun i j=>.int (i-j)):=opI0 fun _ _ _ _ _ _ _ q=>sub_int q
theorem yG:OpR X (binaryOp .Mult) (rI CMul fun i j=>.int (i*j)):=opI fun _ _ _ _ _ _ _ hc q=>mul_int q hc.ok
theorem op_mod:OpR X (binaryOp .Mod) (rI (fun _ j=>0<j) fun i j=>.int (i%j)):=opI fun i j _ _ _ _ _ hc q=>by
 have h1:(0:Int)<j:=hc;exact mod_int' (by omega) (by rw[Int.fmod_eq_emod_of_nonneg i (by omega)];exact q)
theorem op_pow:OpR X (binaryOp .Pow) (rI CPow fun i j=>.int (i^j.toNat)):=opI fun _ _ _ _ _ _ _ hc q=>pow_int_small hc.1 hc.2.1 hc.2.2 q
theorem unI{f:Value->Sem Value}{g:Int->Int}(rule:∀(i:Int) (t:Tok) (s:Shared) (Q:Value->Shared->Prop) (E:Value->Shared->Prop),Q (.int (g i) s.toks) {s with toks:=s.toks+1}->wpAny (model X.prog X.w) X.A (f (.int i t)) Q E s) :
  UnR X f (rU fun i=>.int (g i)):=by
 intro pins s σ H x v Q I rx h;obtain⟨i,rfl,q⟩:=h;obtain⟨t,rfl⟩:=rx;exact rule i t s _ _ ⟨.int (g i),H,I.tok _,⟨_,rfl⟩,q⟩
theorem un_neg:UnR X (unaryOp .USub) (rU fun i=>.int (-i)):=unI fun _ _ _ _ _ q=>neg_int q
end
def scal:V->V->Bool
 | .non,.non=>true| .non,.int _=>true| .int _,.non=>true| .non,.bl _=>true| .bl _,.non=>true| .non,.str _=>true| .str _,.non=>true
 | .int _,.int _=>true| .bl _,.bl _=>true| .str _,.str _=>true| .byt _,.byt _=>true
 | .int _,.str _=>true| .str _,.int _=>true| .bl _,.str _=>true| .str _,.bl _=>true
 | _,_=>false
def rEq:R2:=fun x y H Q=>scal x y=true/\Q (.bl (decide (x=y))) H
def rNe:R2:=fun x y H Q=>scal x y=true/\Q (.bl (!decide (x=y))) H
theorem dec_int{i j:Int}:decide (V.int i=V.int j)=(i==j):=by
 rw[Bool.eq_iff_iff];simp
theorem dec_bl{i j:Bool}:decide (V.bl i=V.bl j)=(i==j):=by
 rw[Bool.eq_iff_iff];simp
theorem dec_str{i j:Str}:decide (V.str i=V.str j)=(i==j):=by
 rw[Bool.eq_iff_iff];simp
theorem dec_byt{i j:Array UInt8}:decide (V.byt i=V.byt j)=(i.toList==j.toList):=by
 rw[Bool.eq_iff_iff];cases i;cases j;simp
section
variable{X:Cx}{a b c:Expr}{ta tb tc:TE}{pos:Pos}
theorem zT{pins:List (Addr×Obj)}{σ:St}{H:Hp}{s:Shared}{Q:VK}{k k':Bool}(I:Inv X pins σ H s)(q:Q (.bl k) H)(e:k=k'):EP X pins σ Q (.bool k') s:=by
 subst e;exact⟨.bl k,H,I,rfl,q⟩
theorem yO:OpR X (compareOp .Eq) rEq:=by
 intro pins s σ H x y v u Q I rx ry h;obtain⟨hs,q⟩:=h;cases x with
 |non =>
  cases rx;cases y with
  |non=>cases ry;exact PySem.EqNone.eq_none_none (zT I q (by simp))
  |bl j=>cases ry;exact PySem.EqNone.eq_none_bool (zT I q (by simp))
  |int j=>obtain⟨t',rfl⟩:=ry;exact PySem.EqNone.eq_none_int (zT I q (by simp))
  |str j=>obtain⟨t',rfl⟩:=ry;exact PySem.EqNone.eq_none_str (zT I q (by simp))
  | _=>exact absurd (show false=true from hs) Bool.false_ne_true
 |bl i =>
  cases rx;cases y with
  |non=>cases ry;exact PySem.EqNone.eq_bool_none (zT I q (by simp))
  |bl j=>cases ry;exact eq_bool (zT I q dec_bl)
  |str j=>obtain⟨t',rfl⟩:=ry;exact PySem.EqMixed.eq_bool_str (zT I q (by simp))
  | _=>exact absurd (show false=true from hs) Bool.false_ne_true
 |int i =>
  obtain⟨t,rfl⟩:=rx;cases y with
  |non=>cases ry;exact PySem.EqNone.eq_int_none (zT I q (by simp))
  |int j=>obtain⟨t',rfl⟩:=ry;exact eq_int (zT I q dec_int)
  |str j=>obtain⟨t',rfl⟩:=ry;exact PySem.EqMixed.eq_int_str (zT I q (by simp))
  | _=>exact absurd (show false=true from hs) Bool.false_ne_true
 |str i =>
  obtain⟨t,rfl⟩:=rx;cases y with
  |non=>cases ry;exact PySem.EqNone.eq_str_none (zT I q (by simp))
  |bl j=>cases ry;exact PySem.EqMixed.eq_str_bool (zT I q (by simp))
  |int j=>obtain⟨t',rfl⟩:=ry;exact PySem.EqMixed.eq_str_int (zT I q (by simp))
  |str j=>obtain⟨t',rfl⟩:=ry;exact eq_str (zT I q dec_str)
  | _=>exact absurd (show false=true from hs) Bool.false_ne_true
 |byt i =>
  obtain⟨t,rfl⟩:=rx;cases y with
  |byt j=>obtain⟨t',rfl⟩:=ry;exact W.eq_bytes (zT I q dec_byt)
  | _=>exact absurd (show false=true from hs) Bool.false_ne_true
 | _=>cases y <;>exact absurd (show false=true from hs) Bool.false_ne_true
theorem op_ne:OpR X (compareOp .NotEq) rNe:=by
 intro pins s σ H x y v u Q I rx ry h;obtain⟨hs,q⟩:=h;cases x with
 |non =>
  cases rx;cases y with
  |non=>cases ry;exact PySem.EqNone.ne_none_none (zT I q (by simp))
  |bl j=>cases ry;exact PySem.EqNone.ne_none_bool (zT I q (by simp))
  |int j=>obtain⟨t',rfl⟩:=ry;exact PySem.EqNone.ne_none_int (zT I q (by simp))
  |str j=>obtain⟨t',rfl⟩:=ry;exact PySem.EqNone.ne_none_str (zT I q (by simp))
  | _=>exact absurd (show false=true from hs) Bool.false_ne_true
 |bl i =>
  cases rx;cases y with
  |non=>cases ry;exact PySem.EqNone.ne_bool_none (zT I q (by simp))
  |bl j=>cases ry;exact ne_bool (zT I q (congrArg not dec_bl))
  |str j=>obtain⟨t',rfl⟩:=ry;exact PySem.EqMixed.ne_bool_str (zT I q (by simp))
  | _=>exact absurd (show false=true from hs) Bool.false_ne_true
 |int i =>
  obtain⟨t,rfl⟩:=rx;cases y with
  |non=>cases ry;exact PySem.EqNone.ne_int_none (zT I q (by simp))
  |int j=>obtain⟨t',rfl⟩:=ry;exact ne_int (zT I q (congrArg not dec_int))
  |str j=>obtain⟨t',rfl⟩:=ry;exact PySem.EqMixed.ne_int_str (zT I q (by simp))
  | _=>exact absurd (show false=true from hs) Bool.false_ne_true
 |str i =>
  obtain⟨t,rfl⟩:=rx;cases y with
  |non=>cases ry;exact PySem.EqNone.ne_str_none (zT I q (by simp))
  |bl j=>cases ry;exact PySem.EqMixed.ne_str_bool (zT I q (by simp))
  |int j=>obtain⟨t',rfl⟩:=ry;exact PySem.EqMixed.ne_str_int (zT I q (by simp))
  |str j=>obtain⟨t',rfl⟩:=ry;exact ne_str (zT I q (congrArg not dec_str))
  | _=>exact absurd (show false=true from hs) Bool.false_ne_true
 |byt i =>
  obtain⟨t,rfl⟩:=rx;cases y with
  |byt j=>obtain⟨t',rfl⟩:=ry;exact W.ne_bytes (zT I q (congrArg not dec_byt))
  | _=>exact absurd (show false=true from hs) Bool.false_ne_true
 | _=>cases y <;>exact absurd (show false=true from hs) Bool.false_ne_true
theorem op_lt:OpR X (compareOp .Lt) (rI0 fun i j=>.bl (decide (i<j))):=opB0 fun _ _ _ _ _ _ _ q=>lt_int q
theorem op_le:OpR X (compareOp .LtE) (rI0 fun i j=>.bl (decide (i<=j))):=opB0 fun _ _ _ _ _ _ _ q=>le_int q
theorem op_gt:OpR X (compareOp .Gt) (rI0 fun i j=>.bl (decide (j<i))):=opB0 fun _ _ _ _ _ _ _ q=>gt_int q
theorem op_ge:OpR X (compareOp .GtE) (rI0 fun i j=>.bl (decide (j<=i))):=opB0 fun _ _ _ _ _ _ _ q=>ge_int q
theorem op_in_str:OpR X (compareOp .In) (fun x y H Q=>∃ i j,x= .str i/\y= .str j/\Q (.bl (!(Builtin.Str.occurrences j i 0 j.length 1).isEmpty)) H):=by
 intro pins s σ H x y v u Q I rx ry h;obtain⟨i,j,rfl,rfl,q⟩:=h;obtain⟨t,rfl⟩:=rx;obtain⟨t',rfl⟩:=ry;exact in_str (zT I q rfl)
theorem op_isN:OpR X (compareOp .Is) (fun x y H Q=>y= .non/\Q (.bl (decide (x= .non))) H):=by
 intro pins s σ H x y v u Q I rx ry h;obtain⟨rfl,q⟩:=h;cases ry;refine is_none_gen (zT I q ?_);cases x <;>first
  |(cases rx;rfl)
  |(obtain⟨t,rfl⟩:=rx;rfl)
theorem op_notN:OpR X (compareOp .IsNot) (fun x y H Q=>y= .non/\Q (.bl (!decide (x= .non))) H):=by
 intro pins s σ H x y v u Q I rx ry h;obtain⟨rfl,q⟩:=h;cases ry;refine isnot_none_gen (zT I q ?_);cases x <;>first
  |(cases rx;rfl)
  |(obtain⟨t,rfl⟩:=rx;rfl)
theorem zr(b:Expr){op:CmpOp}(h:op≠ .In:=by decide)(h2:op≠ .NotIn:=by decide):behindInMarks op b=false:=by
 have e1:(op==CmpOp.In)=false:=by cases op <;>first|rfl|exact absurd rfl h
 have e2:(op==CmpOp.NotIn)=false:=by cases op <;>first|rfl|exact absurd rfl h2
 cases b <;>simp[behindInMarks,e1,e2]
theorem pe_cmpR{op:CmpOp}{r:R2}(ho:OpR X (compareOp op) r)(ha:PE X a ta)(hb:PE X b tb)(hm:behindInMarks op b=false):PE X (.Compare a [op] [b] pos) (tOp r ta tb):=by
 intro pins s σ H Q I h;exact wpAny_Compare1 (binT ha hb I h fun v u s2 x y H2 I2 rx ry q=>ho pins s2 σ H2 x y v u Q I2 rx ry q) hm
def tTest(t:TE):TT:=fun σ H Q=>t σ H fun x H'=>∃ k,x= .bl k/\Q k H'
theorem zi{op:CmpOp}{r:R2}(ho:OpR X (compareOp op) r)(ha:PE X a ta)(hb:PE X b tb)(hm:behindInMarks op b=false):PT X (.Compare a [op] [b] pos) (tTest (tOp r ta tb)):=by
 intro pins s σ H Q I h;refine wpAny_isTrue_Compare1 (thn (ha pins s σ H _ I h) fun v s1 ⟨x,H1,I1,r1,q1⟩=>thn (hb pins s1 σ H1 _ I1 q1) fun u s2 ⟨y,H2,I2,r2,q2⟩ =>
  thn (ho pins s2 σ H2 x y v u _ I2 r1 r2 q2) fun c s3 ⟨z,H3,I3,r3,k,e,q3⟩=>?_) hm
 subst e;cases r3;exact wpAny_truthy_bool ⟨H3,I3,q3⟩
def TruV(K:W.Frag)(x:V)(H:Hp)(k:Bool):Prop :=
 match x with
 | .non=>k=false
 | .bl b=>k=b
 | .int i=>k=(i !=0)
 | .str y=>y.length<=sizeLine/\k=((y.length:Int) !=0)
 | .byt y=>y.size<=sizeLine/\k=((y.size:Int) !=0)
 | .ref p=>(∃xs,SqL K H p xs/\k= !xs.isEmpty)\/(∃xs,SqT K H p xs/\k= !xs.isEmpty)\/ ∃kvs,H p=some (.dK kvs)/\k= !kvs.isEmpty
 | _=>False
theorem isEmpty_kv{κ:Type}{kvs:List (κ×V)}{vs:List (κ×Value)}(r:KV kvs vs):(!vs.isEmpty)= !kvs.isEmpty:=by
 cases r <;>rfl
theorem isEmpty_of{xs:List V}{its:List Value}(r:Vals xs its):(!its.toArray.isEmpty)= !xs.isEmpty:=by
 cases r <;>simp
theorem line63:(sizeLine:Nat)<2^63:=by rw[sizeLine_eq];decide
theorem tru_ok:TruR X (fun x H Q=>∃ k,TruV X.K x H k/\Q k H):=by
 intro pins s σ H x v Q I rx h;obtain⟨k,e,q⟩:=h;have hl:=line63;have hs:sizeLine=16777216:=sizeLine_eq;cases x with
 |non =>
  cases rx;have e':k=false:=e;subst e';exact truthy_none ⟨H,I,q⟩
 |bl b =>
  cases rx;have e':k=b:=e;subst e';exact wpAny_truthy_bool ⟨H,I,q⟩
 |int i =>
  obtain⟨t,rfl⟩:=rx;have e':k=(i !=0):=e;subst e';exact PySem.P.truthy_int ⟨H,I,q⟩
 |str y =>
  obtain⟨t,rfl⟩:=rx;obtain⟨hy,e'⟩:y.length<=sizeLine/\k=((y.length:Int) !=0):=e;subst e';exact PySem.P.truthy_str (by omega) ⟨H,I.tok _,q⟩
 |byt y =>
  obtain⟨t,rfl⟩:=rx;obtain⟨hy,e'⟩:y.size<=sizeLine/\k=((y.size:Int) !=0):=e;subst e';exact W.truthy_bytes (by omega) ⟨H,I.tok _,q⟩
 |ref p =>
  cases rx;have e':(∃xs,SqL X.K H p xs/\k= !xs.isEmpty)\/(∃xs,SqT X.K H p xs/\k= !xs.isEmpty)\/ ∃kvs,H p=some (.dK kvs)/\k= !kvs.isEmpty:=e;rcases e' with⟨xs,hx,e'⟩|⟨xs,hx,e'⟩|⟨kvs,hx,e'⟩
  ·subst e';obtain⟨its,r,pl,hz⟩:=I.list hx;have hlen:=r.length;exact wpAny_truthy_list pl.isList (by simp only[size_toArray];omega) ⟨H,I.tok _,by rw[isEmpty_of r];exact q⟩
  ·subst e';obtain⟨its,r,pl,hz⟩:=I.tuple hx;have hlen:=r.length;exact truthy_tuple pl (by simp only[size_toArray];omega) ⟨H,I.tok _,by rw[isEmpty_of r];exact q⟩
  ·subst e';obtain⟨hz,hS,vs,r,m⟩:kvs.length<=sizeLine/\(p==sysModules)=false/\ ∃vs,KV kvs vs/\s.heap.DictOf (yw X.prog X.w) p vs:=I.hok p _ hx;have hlen:kvs.length=vs.length:=Paired.length r;exact wpAny_truthy_dict hS m (by omega) ⟨H,I.tok _,by rw[isEmpty_kv r];exact q⟩
 | _=>exact(show False from e).elim
theorem zG(ha:PE X a ta)(he:∀whole,isTrue a X.env whole=(do let v <-whole;standAt a.pos;holding [v] (truthy v))) :
  PT X a (fun σ H Q=>ta σ H fun x H'=>∃ k,TruV X.K x H' k/\Q k H'):=by
 intro pins s σ H Q I h;exact isTrue_plain (thn (ha pins s σ H _ I h) fun v s1 ⟨x,H1,I1,r1,q1⟩=>tru_ok pins s1 σ H1 x v Q I1 r1 q1) (he _)
theorem j3:OpR X (binaryOp .Add) (fun x y H Q=>∃ i j,x= .str i/\y= .str j/\i.length+j.length<=sizeLine/\Q (.str (i++j)) H):=by
 intro pins s σ H x y v u Q I rx ry h;obtain⟨i,j,rfl,rfl,hz,q⟩:=h;obtain⟨t,rfl⟩:=rx;obtain⟨t',rfl⟩:=ry;exact add_str (fun t' tk=>⟨.str (i++j),H,I.tok _,⟨_,rfl⟩,q⟩) hz
theorem iop_add_str:OpR X (inplaceOp .Add) (fun x y H Q=>∃ i j,x= .str i/\y= .str j/\i.length+j.length<=sizeLine/\Q (.str (i++j)) H):=by
 intro pins s σ H x y v u Q I rx ry h;obtain⟨i,j,rfl,rfl,hz,q⟩:=h;obtain⟨t,rfl⟩:=rx;obtain⟨t',rfl⟩:=ry;exact iadd_str (fun t' tk=>⟨.str (i++j),H,I.tok _,⟨_,rfl⟩,q⟩) hz
theorem vals1{x:V}{us:List Value}(r:Vals [x] us):∃u,us=[u]/\RelV x u:=by
 cases r with
 |cons r1 r2=>cases r2;exact⟨_,rfl,r1⟩
theorem vals2{x y:V}{us:List Value}(r:Vals [x,y] us):∃u w',us=[u,w']/\RelV x u/\RelV y w':=by
 cases r with
 |cons r1 r2 =>
  cases r2 with
  |cons r3 r4=>cases r4;exact⟨_,_,rfl,r1,r3⟩
theorem call_min2(hc:X.calm=true):jH X (.builtin "min") (fun xs H Q=>∃ i j,xs=[.int i,.int j]/\Q (.int (if j<i then j else i)) H):=by
 intro pins s σ H xs us Q I r h;obtain⟨i,j,rfl,q⟩:=h;obtain⟨u,w',rfl,⟨t,rfl⟩,⟨t',rfl⟩⟩:=vals2 r;refine min_two_ints (I.ok.hd hc) fun h' tk k=>⟨_,H,I.kept k,?_,q⟩;by_cases hj:j<i
 ·rw[if_pos hj,if_pos hj];exact⟨_,rfl⟩
 ·rw[if_neg hj,if_neg hj];exact⟨_,rfl⟩
theorem yT:jH X (.type "str") (fun xs H Q=>∃ i,xs=[.int i]/\i.natAbs.log2<1920/\Q (.str (toString i)) H):=by
 intro pins s σ H xs us Q I r h;obtain⟨i,rfl,hz,q⟩:=h;obtain⟨u,rfl,t,rfl⟩:=vals1 r;exact PySem.P.str_of_int hz ⟨.str _,H,I.tok _,⟨_,rfl⟩,q⟩
end
structure ObjM(h:Heap)(x dx C:Addr)(mA:Str->Option Value):Prop where
 obj:h.get? x=some (W.instObj C dx)
 ns:h.Ns1 dx mA
 ne:dx≠x
theorem lookIn_ns{h:Heap}{dx:Addr}{mA:Str->Option Value}(n:h.Ns1 dx mA):∃od,h.get? dx=some od/\ ∀name,W.lookIn name od=some (mA name):=by
 obtain⟨o,es,ep,ho,hd,hk,_,hm⟩:=n;refine⟨o,ho,fun name=>?_⟩;have e:=hm name;unfold nsFind findBy at e;rw[<-Array.find?_toList]at e;unfold W.lookIn;rw[hd];dsimp only;split
 ·rename_i y q;rw[q]at e;exact congrArg some e
 ·rename_i q;rw[q]at e;have a:es.toList.any (·.refKey)=false:=by
   rw[List.any_eq_false];intro y hy;obtain⟨z,t,hkey⟩:=hk y (Array.mem_toList_iff.mp hy);simp[DictEntry.refKey,hkey]
  have a':¬es.toList.any (·.refKey)=true:=by rw[a];exact Bool.false_ne_true
  rw[if_neg a'];exact congrArg some e
theorem ObjM.look{h:Heap}{x dx C:Addr}{mA:Str->Option Value}(I:ObjM h x dx C mA):∃od,W.InstAt h x (W.instObj C dx) C (some od)/\ ∀name,W.lookIn name od=some (mA name) :=
 let⟨od,ho,hl⟩:=lookIn_ns I.ns
 ⟨od,⟨I.obj,rfl,rfl,ho⟩,hl⟩
section
variable{prog:Program}{w:World}{A:Around}{E:Value->Shared->Prop}{s:Shared}{K:W.Frag}{x dx C f:Addr}{mA:Str->Option Value}{name:Str}{v:Value}
theorem get_map{expr:Bool}{Q:Value->Shared->Prop}(X:K.In s.heap)(I:ObjM s.heap x dx C mA)(hg:W.plainGet K C name=true)(hh:W.hasDictIn K C=true)(ha:W.findIn K (.ref C) name=some none)(hv:mA name=some v)(hv':W.handedIn v=true)(h:Q v {s with toks:=s.toks+1}) :
  wpAny (model prog w) A (getAttr (.ref x) name expr) Q E s:=by
 obtain⟨od,J,hl⟩:=I.look;exact W.get_value X J (W.plainGet_of hg).1 (W.findObj_own hh ha rfl (by rw[hl,hv])) hv' h
theorem get_meth{pl:Sem Bool}{Q:Value×List Value->Shared->Prop}(X:K.In s.heap)(I:ObjM s.heap x dx C mA)(hg:W.plainGet K C name=true)(hf:W.findIn K (.ref C) name=some (some (.ref f)))(ht:W.isFn K (.ref f)=true)(hv:mA name=none)(h:Q (.ref f,[.ref x]) s) :
  wpAny (model prog w) A (getMethod (.ref x) name pl) Q E s:=by
 obtain⟨od,J,hl⟩:=I.look;exact W.method_fn X J (W.plainGet_of hg).1 (W.plainGet_of hg).2 hf (beq_iff_eq.mp ht) (by show(W.lookIn name od).map (·.isSome)=some false;rw[hl,hv];rfl) h
theorem set_map{ns:List Str}{Q:Unit->Shared->Prop}(X:K.In s.heap)(I:ObjM s.heap x dx C mA)(hs:W.findIn K (.ref C) "__setattr__"=some (some (.builtin "object.__setattr__")))(hp:W.plainOver K C=true)(ht:W.takerIn K C name=some none)(hh:W.hasDictIn K C=true)(hw:PySem.Within mA ns)(hsz:ns.length<=sizeLine)(h:∀h',ObjM h' x dx C (fun y=>if y=name then some v else mA y)->Heap.SameBut dx s.heap h'->Q () {s with heap:=h',toks:=s.toks+2}) :
  wpAny (model prog w) A (setAttr (.ref x) name v) Q E s:=by
 obtain⟨od,J,hl⟩:=I.look;refine W.set_plain X J hs (W.osa_open (s:={s with toks:=s.toks+1}) (r:=none) X J hp ht fun b=>?_);obtain⟨cd,hc,hd'⟩:=W.any_some hh;have hx:s.heap.get? x=some ⟨.ref C,some dx,.plain,#[]⟩:=I.obj;refine wpAny_bind (wpAny_pure (wpAny_bind (wpAny_bind (wpAny_loadPart hx (wpAny_bind (W.Looks.here (s:={s with toks:=s.toks+1}) (W.looks_clsIn X hc) ?_))))));rw[hd'];refine wpAny_pure (a:=some dx) (wpAny_bind (wpAny_pure (wpAny_bind ?_)));refine wpAny_nsSet1 (s:={s with toks:=s.toks+1}) I.ns fun h' hn2 hs2=>?_;obtain⟨oD,esD,epD,hoD,hdD,hcD⟩:=hn2.count (PySem.Within.cons name v hw);refine wpAny_bind (wpAny_lookBehind hoD (by rw[hdD];exact pastItsLine_dict (le_trans hcD (by rw[length_cons];omega))) ?_);exact wpAny_pure (h _ ⟨(hs2.2 _ (Ne.symm I.ne)).trans I.obj,hn2,I.ne⟩ hs2)
theorem make_map{R:Result->Shared->Prop}{vs:List Value}{kw:List (Str×Value)}(X:K.In s.heap)(hm:W.makesIn K C=true)(hi:W.findIn K (.ref C) "__init__"=some (some (.ref f)))(hf:W.typeIn K (.ref f)=some (.type "function"))(h:codeAny (model prog w) (A.under (.builtin "type.__call__" ⟨.ref C::vs,kw⟩)) (.call (.ref f) ⟨.ref (s.heap.objs.size+1)::vs,kw⟩) (W.InitBack (s.heap.objs.size+1) R)
   {s with heap:=(s.heap.push W.emptyDict).push (W.instObj C s.heap.objs.size)}) :
  codeAny (model prog w) A (.call (.ref C) ⟨vs,kw⟩) R s:=by
 obtain⟨hh,g,d,t,os⟩:=s;exact W.make_core (W.makes_of X hm) (W.looks_findIn X hi) (fun self=>W.bind_fn X self hf) (.inl rfl) h
end
def putF(f:Str)(v:V):List (Str×V)->List (Str×V)
 | []=>[(f,v)]
 |(g,x)::r=>if g=f then(g,v)::r else(g,x)::putF f v r
theorem yN(f g:Str)(v:V):∀fs:List (Str×V),(putF f v fs).lookup g=if g=f then some v else fs.lookup g
 | []=>by
  show List.lookup g [(f,v)]=_;by_cases h:g=f
  ·have hb:(g==f)=true:=beq_iff_eq.mpr h;simp only[List.lookup,hb,if_pos h]
  ·have hb:(g==f)=false:=beq_eq_false_iff_ne.mpr h;simp only[List.lookup,hb,if_neg h]
 |(k,x)::r=>by
  have ih:=yN f g v r;rw[show putF f v ((k,x)::r)=(if k=f then(k,v)::r else(k,x)::putF f v r)from rfl];by_cases hk:k=f
  ·rw[if_pos hk];by_cases h:g=k
   ·have hb:(g==k)=true:=beq_iff_eq.mpr h;simp only[List.lookup,hb,if_pos (h.trans hk)]
   ·have hb:(g==k)=false:=beq_eq_false_iff_ne.mpr h;simp only[List.lookup,hb,if_neg (fun e:g=f=>h (e.trans hk.symm))]
  ·rw[if_neg hk];by_cases h:g=k
   ·have hb:(g==k)=true:=beq_iff_eq.mpr h;simp only[List.lookup,hb,if_neg (fun e:g=f=>hk (h.symm.trans e))]
   ·have hb:(g==k)=false:=beq_eq_false_iff_ne.mpr h;simp only[List.lookup,hb];exact ih
theorem keys_putF(f:Str)(v:V):∀fs:List (Str×V),f∈(putF f v fs).map (·.1)/\ ∀g,g∈fs.map (·.1)->g∈(putF f v fs).map (·.1)
 | []=>⟨by simp[putF],fun g h=>by simp at h⟩
 |(k,x)::r=>by
  obtain⟨i1,i2⟩:=keys_putF f v r;rw[show putF f v ((k,x)::r)=(if k=f then(k,v)::r else(k,x)::putF f v r)from rfl];by_cases hk:k=f
  ·rw[if_pos hk];subst hk;exact⟨by simp,fun g h=>by simpa using h⟩
  ·rw[if_neg hk];refine⟨?_,fun g h=>?_⟩
   ·rw[map_cons];exact mem_cons_of_mem _ i1
   ·rw[map_cons]at h ⊢;rcases mem_cons.mp h with e|e
    ·exact mem_cons.mpr (.inl e)
    ·exact mem_cons_of_mem _ (i2 g e)
theorem length_putF(f:Str)(v:V):∀fs:List (Str×V),(putF f v fs).length<=fs.length+1
 | []=>by simp[putF]
 |(k,x)::r=>by
  have ih:=length_putF f v r;rw[show putF f v ((k,x)::r)=(if k=f then(k,v)::r else(k,x)::putF f v r)from rfl];by_cases hk:k=f
  ·rw[if_pos hk,length_cons,length_cons];omega
  ·rw[if_neg hk,length_cons,length_cons];omega
theorem RelO.some_of{v:V}{o:Option Value}(r:RelO (some v) o):∃u,o=some u/\RelV v u:=by
 cases o with
 |none=>exact(show False from r).elim
 |some u=>exact⟨u,rfl,r⟩
theorem RelO.none_of{o:Option Value}(r:RelO none o):o=none:=by
 cases o with
 |none=>rfl
 |some u=>exact(show False from r).elim
theorem handed_of{v:V}{u:Value}(r:RelV v u):W.handedIn u=true:=by
 cases v with
 |non=>cases(show u=Value.none from r);rfl
 |bl b=>cases(show u=Value.bool b from r);rfl
 |int i=>obtain⟨t,e⟩:=(show ∃t,u=Value.int i t from r);cases e;rfl
 |str x=>obtain⟨t,e⟩:=(show ∃t,u=Value.str x t from r);cases e;rfl
 |byt b=>obtain⟨t,e⟩:=(show ∃t,u=Value.bytes b t from r);cases e;rfl
 |flt b=>obtain⟨t,e⟩:=(show ∃t,u=Value.float b t from r);cases e;rfl
 |ref a=>cases(show u=Value.ref a from r);rfl
 |ty n=>cases(show u=Value.type n from r);rfl
section
variable{P:Program}{w:World}{H H':Hp}{h h':Heap}{a C dx:Addr}{fs fs':List (Str×V)}
theorem ins_get(hok:HOk P w H h)(e:H a=some (.ins C dx fs)):∃mA,ObjM h a dx C mA/\(∀f,RelO (fs.lookup f) (mA f))/\PySem.Within mA (fs.map (·.1))/\fs.length<=1000/\H dx=some (.own a):=by
 obtain⟨d,z,ne,ob,mA,n,r,q⟩:=(show yh P w H h a (.ins C dx fs)from hok a _ e);exact⟨mA,⟨ob,n,ne⟩,r,q,z,d⟩
end
structure Cls(K:W.Frag)(C:Addr):Prop where
 pg:W.plainGet K C Str.empty=true
 hd:W.hasDictIn K C=true
 po:W.plainOver K C=true
 sa:W.findIn K (.ref C) "__setattr__"=some (some (.builtin "object.__setattr__"))
theorem Cls.get{K:W.Frag}{C:Addr}(c:Cls K C)(f:Str):W.plainGet K C f=true:=c.pg
def NoAttr(K:W.Frag)(C:Addr)(f:Str):Prop:=W.findIn K (.ref C) f=some none
theorem NoAttr.taker{K:W.Frag}{C:Addr}{f:Str}(n:NoAttr K C f):W.takerIn K C f=some none:=by
 unfold W.takerIn;rw[show W.findIn K (.ref C) f=some none from n];rfl
structure Meth(K:W.Frag)(C:Addr)(m:Str)(f:Addr):Prop where
 at_:W.findIn K (.ref C) m=some (some (.ref f))
 fn:W.isFn K (.ref f)=true
 kp:W.keepIn K (.ref f)=true
section
variable{X:Cx}{pins:List (Addr×Obj)}{σ:St}{H:Hp}{s:Shared}{a C dx:Addr}{fs:List (Str×V)}{f:Str}{v:V}{A:Around}{E:Value->Shared->Prop}
theorem getattr_ok{b:Bool}{Q:Value->Shared->Prop}(I:Inv X pins σ H s)(e:H a=some (.ins C dx fs))(c:Cls X.K C)(n:NoAttr X.K C f)(l:fs.lookup f=some v)(h:∀u s',Inv X pins σ H s'->RelV v u->Q u s'):wpAny (model X.prog X.w) A (getAttr (.ref a) f b) Q E s:=by
 obtain⟨mA,O,r,_,_,_⟩:=ins_get I.hok e;obtain⟨u,hu,ru⟩:=RelO.some_of (v:=v) (o:=mA f) (by rw[<-l];exact r f);exact get_map I.kIn O (c.get f) c.hd n hu (handed_of ru) (h u _ (I.tok _) ru)
theorem getmeth_ok{m:Str}{g:Addr}{pl:Sem Bool}{Q:Value×List Value->Shared->Prop}(I:Inv X pins σ H s)(e:H a=some (.ins C dx fs))(c:Cls X.K C)(k:Meth X.K C m g)(l:fs.lookup m=none)(h:Q (.ref g,[.ref a]) s):wpAny (model X.prog X.w) A (getMethod (.ref a) m pl) Q E s:=by
 obtain⟨mA,O,r,_,_,_⟩:=ins_get I.hok e;have hn:mA m=none:=RelO.none_of (by rw[<-l];exact r m);exact get_meth I.kIn O (c.get m) k.at_ k.fn hn h
theorem setattr_ok{y:V}{u:Value}{Q:Unit->Shared->Prop}(I:Inv X pins σ H s)(e:H a=some (.ins C dx fs))(c:Cls X.K C)(n:NoAttr X.K C f)(hl:fs.length<1000)(ry:RelV y u)(h:∀s',Inv X pins σ (upd H a (.ins C dx (putF f y fs))) s'->Q () s'):wpAny (model X.prog X.w) A (setAttr (.ref a) f u) Q E s:=by
 obtain⟨mA,O,r,wi,_,ho⟩:=ins_get I.hok e;have hz:(fs.map (·.1)).length<=sizeLine:=by rw[length_map,sizeLine_eq];omega
 refine set_map I.kIn O c.sa c.po n.taker c.hd wi hz fun h' O' sb=>h _ ?_;have hd:∃o,h'.get? dx=some o:=let⟨o,_,_,e',_⟩:=O'.ns;⟨o,e'⟩
 refine I.write (x:=a) (e:=dx) (by rw[e];exact True.intro) (.inr ho) (fun b q hb z=>(sb.2 b hb).trans z) hd ?_;refine⟨by rw[zh O.ne];exact ho,?_,O.ne,O'.obj,_,O'.ns,fun g=>?_,fun g hg=>?_⟩
 ·have:=length_putF f y fs;omega
 ·show RelO ((putF f y fs).lookup g) (if g=f then some u else mA g);rw[yN];by_cases q:g=f
  ·rw[if_pos q,if_pos q];exact ry
  ·rw[if_neg q,if_neg q];exact r g
 ·by_cases q:g=f
  ·rw[q];exact(keys_putF f y fs).1
  ·refine(keys_putF f y fs).2 g (wi g fun z=>hg ?_);show(if g=f then some u else mA g)=none;rw[if_neg q];exact z
theorem Inv.made(I:Inv X pins σ H s):Inv X pins σ (upd (upd H s.heap.objs.size (.own (s.heap.objs.size+1))) (s.heap.objs.size+1) (.ins C s.heap.objs.size []))
  {s with heap:=(s.heap.push W.emptyDict).push (W.instObj C s.heap.objs.size)}:=by
 have e1:(s.heap.push W.emptyDict).get? s.heap.objs.size=some W.emptyDict:=Heap.get?_push_size s.heap rfl;have e2:((s.heap.push W.emptyDict).push (W.instObj C s.heap.objs.size)).get? (s.heap.objs.size+1)=some (W.instObj C s.heap.objs.size):=by
  have:=Heap.get?_push_size (s.heap.push W.emptyDict) (o:=W.instObj C s.heap.objs.size) rfl
  rwa [Heap.size_push]at this
 have e3:(s.heap.push W.emptyDict).Ns s.heap.objs.size (fun _=>none):=⟨W.emptyDict,#[],_,e1,rfl,(fun e he=>absurd he (by simp)),fun _=>rfl⟩;have I1:=I.laid (a:=s.heap.objs.size) (o:=.own (s.heap.objs.size+1)) (h':=s.heap.push W.emptyDict) (t':=s.toks) (fun b u q=>Heap.get?_push_of_some _ q) (le_refl _) ⟨_,e1⟩;refine I1.laid (a:=s.heap.objs.size+1) (o:=.ins C s.heap.objs.size []) (t':=s.toks) (fun b u q=>Heap.get?_push_of_some _ q) (Nat.le_of_eq (Heap.size_push _ _)) ?_;have ne:s.heap.objs.size≠s.heap.objs.size+1:=ne_of_lt (Nat.lt_succ_self _);refine⟨by rw[zh ne,z6],zero_le _,ne,e2,fun _=>none,(Heap.Ns1.of_empty e3).at fun o q=>Heap.get?_push_of_some _ q,fun _=>True.intro,fun y hy=>absurd rfl hy⟩
theorem attr_of{prog:Program}{w:World}{env:Env}{e:Expr}{f:Str}{pos:Pos}{s:Shared}{Q:Value->Shared->Prop}(hb:attributeBase e f env (eval e env)=eval e env)(h:wpAny (model prog w) A (eval e env) (fun o s₁=>wpAny (model prog w) A (getAttr o f true) Q E s₁) E s):wpAny (model prog w) A (eval (.Attribute e f pos) env) Q E s :=
 Attribute_any_ h (by rw[arm_eval_Attribute,hb])
end
def tFld(K:W.Frag)(ta:TE)(f:Str):TE:=fun σ H Q=>ta σ H fun x H1=>∃ a C dx fs v,x= .ref a/\H1 a=some (.ins C dx fs)/\Cls K C/\NoAttr K C f/\fs.lookup f=some v/\Q v H1
def sFld(K:W.Frag)(ta tv:TE)(f:Str):TS:=fun D σ H=>tv σ H fun y H1=>ta σ H1 fun x H2=>∃ a C dx fs,x= .ref a/\H2 a=some (.ins C dx fs)/\Cls K C/\NoAttr K C f/\fs.length<1000/\
 D.nx σ (upd H2 a (.ins C dx (putF f y fs)))
section
variable{X:Cx}{o e value:Expr}{f:Str}{pos pos' tpos:Pos}{ta tv:TE}
theorem pe_fld(he:PE X e ta)(hb:attributeBase e f X.env (eval e X.env)=eval e X.env):PE X (.Attribute e f pos) (tFld X.K ta f):=by
 intro pins s σ H Q I h;refine attr_of hb (thn (he pins s σ H _ I h) fun u s1 ⟨x,H1,I1,rx,a,C,dx,fs,v,ex,ea,c,n,l,q⟩=>?_);subst ex;obtain rfl:u=Value.ref a:=rx;exact getattr_ok I1 ea c n l fun u' s2 I2 ru=>⟨v,H1,I2,ru,q⟩
theorem ps_fld(ha:PE X o ta)(hv:PE X value tv)(hs:swapsWith value (some (.Attribute o f pos')) pos.line X.env=pure false):PS X (.Assign [.Attribute o f pos'] value pos) (sFld X.K ta tv f):=by
 intro pins s σ H D I h;refine plainObj_wpAny_Assign_Attribute (thn (hv pins s σ H _ I h) fun u s1 ⟨y,H1,I1,ry,q⟩=>thn (ha pins s1 σ H1 _ I1 q) fun ov s2 ⟨x,H2,I2,rx,a,C,dx,fs,ex,ea,c,n,l,q2⟩=>?_) hs;subst ex;obtain rfl:ov=Value.ref a:=rx;exact setattr_ok I2 ea c n l ry fun s3 I3=>⟨σ,_,I3,q2⟩
end
section
variable{X:Cx}{pins:List (Addr×Obj)}{σ:St}{H:Hp}{s:Shared}{A:Around}{E:Value->Shared->Prop}{Q:Value->Shared->Prop}{c:Value}{b:Bool}
inductive TyOf(K:W.Frag)(H:Hp):V->Value->Prop where
 |non:TyOf K H .non (.type "NoneType")
 |bl (x:Bool):TyOf K H (.bl x) (.type "bool")
 |int (i:Int):TyOf K H (.int i) (.type "int")
 |str (x:Str):TyOf K H (.str x) (.type "str")
 |flt (x:UInt64):TyOf K H (.flt x) (.type "float")
 |lst {a:Addr} {xs:List V} (e:H a=some (.lst xs)):TyOf K H (.ref a) (.type "list")
 |frz {a:Addr} {o:Obj} {xs:List V} (e:H a=some (.frz o (.lst xs))):TyOf K H (.ref a) (.type "list")
 |tup {a:Addr} {xs:List V} (e:H a=some (.tup xs)):TyOf K H (.ref a) (.type "tuple")
 |dK {a:Addr} {kvs:List (Key×V)} (e:H a=some (.dK kvs)):TyOf K H (.ref a) (.type "dict")
 |dT {a:Addr} {kvs:List (List Key×V)} (e:H a=some (.dT kvs)):TyOf K H (.ref a) (.type "dict")
 |ins {a C dx:Addr} {fs:List (Str×V)} (e:H a=some (.ins C dx fs)) (cl:Cls K C) (ha:W.findIn K (.ref C) "__class__"=some (some (.builtin "object.__class__")))
   (hn:W.specialIn K (.builtin "object.__class__") "__get__"=some (some (.builtin "getset_descriptor.__get__"))) (htk:W.takesIn K (.builtin "object.__class__")=some true)
   (hm:W.mroIn K C (.type "object")=some true):TyOf K H (.ref a) (.ref C)
theorem isinst_ok{x:V}{u t:Value}(I:Inv X pins σ H s)(rx:RelV x u)(ty:TyOf X.K H x t)(e:W.kitOne X.K t c=some b)(h:∀tk,Q (.bool b) {s with toks:=tk}) :
  wpAny (model X.prog X.w) A (call (.builtin "isinstance") [u,c]) Q E s:=by
 cases ty with
 |non=>cases(show u=Value.none from rx);exact W.kia_one W.kitx_none I.kIn True.intro e (fun z=>nomatch z) h
 |bl y=>cases(show u=Value.bool y from rx);exact W.kia_one W.kitx_bool I.kIn True.intro e (fun z=>nomatch z) h
 |int i=>obtain⟨t,q⟩:=(show ∃t,u=Value.int i t from rx);cases q;exact W.kia_one W.kitx_int I.kIn True.intro e (fun z=>nomatch z) h
 |str y=>obtain⟨t,q⟩:=(show ∃t,u=Value.str y t from rx);cases q;exact W.kia_one W.kitx_str I.kIn True.intro e (fun z=>nomatch z) h
 |flt y=>obtain⟨t,q⟩:=(show ∃t,u=Value.float y t from rx);cases q;exact W.kia_one W.kitx_float I.kIn True.intro e (fun z=>nomatch z) h
 | @lst a xs ea =>
  cases(show u=Value.ref a from rx);obtain⟨_,_,n,_,h1⟩:=(show yh X.prog X.w H s.heap a (.lst xs)from I.hok a _ ea);exact W.kia_one W.kitx_list I.kIn ⟨_,h1,rfl⟩ e (fun z=>nomatch z) h
 | @frz a ob xs ea =>
  cases(show u=Value.ref a from rx);obtain⟨_,_,_,n,_,h1⟩:=(show yh X.prog X.w H s.heap a (.frz ob (.lst xs))from I.hok a _ ea);exact W.kia_one W.kitx_list I.kIn ⟨_,h1,rfl⟩ e (fun z=>nomatch z) h
 | @tup a xs ea =>
  cases(show u=Value.ref a from rx);obtain⟨_,_,_,p,_⟩:=(show yh X.prog X.w H s.heap a (.tup xs)from I.hok a _ ea);obtain⟨o,h1,h2,_⟩:=p;exact W.kia_one W.kitx_tuple I.kIn ⟨o,h1,h2⟩ e (fun z=>nomatch z) h
 | @dK a kvs ea =>
  cases(show u=Value.ref a from rx);obtain⟨_,_,vs,_,p⟩:=(show yh X.prog X.w H s.heap a (.dK kvs)from I.hok a _ ea);obtain⟨o,es,ep,h1,h2,_⟩:=p;exact W.kia_one W.kitx_dict I.kIn ⟨o,h1,h2.1⟩ e (fun z=>nomatch z) h
 | @dT a kvs ea =>
  cases(show u=Value.ref a from rx);obtain⟨_,_,xs,_,o,es,ep,h1,h2,_⟩:=(show yh X.prog X.w H s.heap a (.dT kvs)from I.hok a _ ea);exact W.kia_one W.kitx_dict I.kIn ⟨o,h1,h2.1⟩ e (fun z=>nomatch z) h
 | @ins a C dx fs ea cl ha hn htk hm =>
  cases(show u=Value.ref a from rx);obtain⟨mA,O,_⟩:=ins_get I.hok ea;obtain⟨od,J,_⟩:=O.look;exact W.kia_one (W.kitx_own (cl.get _) cl.hd ha hn htk hm) I.kIn J e (fun z=>nomatch z) h
end
structure Room(k:Nat)(A:Around)(cm:Bool:=true):Prop where
 hd:cm=true->A.handled=none
 dp:A.depth+3*k+5<recursionLimit
 un:A.units+16*k+200<cLine
theorem Room.mono{j k:Nat}{A:Around}{cm:Bool}(r:Room k A cm)(h:j<=k):Room j A cm:=⟨r.hd,by have:=r.dp;omega,by have:=r.un;omega⟩
theorem Room.deeper{k:Nat}{A:Around}{cm:Bool}(r:Room (k+1) A cm)(env:Env):Room k (A.deeper env) cm :=
 ⟨r.hd,by have:=r.dp;show A.depth+1+3*k+5<_;omega,by have:=r.un;show A.units+3+16*k+200<_;omega⟩
theorem make_depth{A:Around}{C:Addr}{us:List Value}{kw:List (Str×Value)}:(A.under (.builtin "type.__call__" ⟨.ref C::us,kw⟩)).depth=A.depth+1:=by
 first|rfl|simp[Around.under,Code.weight,Code.isCreation,Code.isGuard,Code.isCaller,Code.frames,Code.isFrame,guardIds]
theorem make_units{A:Around}{C:Addr}{us:List Value}{kw:List (Str×Value)}:(A.under (.builtin "type.__call__" ⟨.ref C::us,kw⟩)).units=A.units+1:=by
 first|rfl|simp[Around.under,Code.cUnits,Code.frames,Code.isFrame]
theorem Room.make{k:Nat}{A:Around}{cm:Bool}(r:Room (k+1) A cm)(C:Addr)(us:List Value)(kw:List (Str×Value)):Room k (A.under (.builtin "type.__call__" ⟨.ref C::us,kw⟩)) cm :=
 ⟨r.hd,by have:=r.dp;rw[make_depth];omega,by have:=r.un;rw[make_units];omega⟩
theorem Room.depth{k:Nat}{A:Around}{cm:Bool}(r:Room k A cm):A.depth<recursionLimit:=by have:=r.dp;omega
theorem Room.units{k:Nat}{A:Around}{cm:Bool}(r:Room k A cm):A.units+64<cLine:=by have:=r.un;omega
def tNil:TA:=fun _ H Q=>Q [] H
def tCons(ta:TE)(tr:TA):TA:=fun σ H Q=>ta σ H fun x H1=>tr σ H1 fun xs H2=>Q (x::xs) H2
section
variable{X:Cx}{e:Expr}{es:List Expr}{te:TE}{t:TA}{pos:Pos}
theorem ye:PA X [] tNil:=fun _ _ _ _ H Q I h=>Calls.spliced_nil ⟨[],H,I,.nil,h⟩
theorem kr(ha:PE X e te)(hr:PA X es t)(hs:starEach (e::es) X.env=(false,eval e X.env)::starEach es X.env:=by rfl):PA X (e::es) (tCons te t):=by
 intro pos pins s σ H Q I h;rw[hs];show wpAny _ _ (spliced ((false,eval e X.env)::backTo pos (starEach es X.env))) _ _ s;refine Calls.spliced_cons (thn (ha pins s σ H _ I h) fun u s1 ⟨x,H1,I1,r1,q1⟩=>?_);exact thn (hr pos pins s1 σ H1 _ I1 q1) fun us s2 ⟨xs,H2,I2,r2,q2⟩=>⟨x::xs,H2,I2,.cons r1 r2,q2⟩
def tTup(t:TA):TE:=fun σ H Q=>t σ H fun xs H1=>xs.length<=sizeLine/\ ∀p,H1 p=none->Q (.ref p) (upd H1 p (.tup xs))
def tLst(t:TA):TE:=fun σ H Q=>t σ H fun xs H1=>xs.length<=sizeLine/\ ∀p,H1 p=none->Q (.ref p) (upd H1 p (.lst xs))
theorem ym{x1}(h:PA X es t):PE X (.Tuple es x1 pos) (tTup t):=by
 intro pins s σ H Q I hq;refine wpAny_Tuple_spliced (thn (h pos pins s σ H _ I hq) fun us s1 ⟨xs,H1,I1,r,z,q⟩=>⟨by rw[<-r.length];exact z,?_⟩);have hf:H1 s1.heap.objs.size=none:=I1.hok.fresh (le_refl _);refine⟨.ref s1.heap.objs.size,upd H1 s1.heap.objs.size (.tup xs),I1.laid (t':=s1.toks) (fun b u e=>Heap.get?_push_of_some _ e) (le_refl _) ?_,rfl,q _ hf⟩;exact⟨z,us,r,⟨_,Heap.get?_push_size _ rfl,rfl,_,rfl⟩,tup_nodict⟩
theorem y8(h:PA X es t):PE X (.List es pos) (tLst t):=by
 intro pins s σ H Q I hq;refine wpAny_List_spliced (thn (h pos pins s σ H _ I hq) fun us s1 ⟨xs,H1,I1,r,z,q⟩=>⟨by rw[<-r.length];exact z,?_⟩);have hf:H1 s1.heap.objs.size=none:=I1.hok.fresh (le_refl _);refine⟨.ref s1.heap.objs.size,upd H1 s1.heap.objs.size (.lst xs),I1.laid (t':=s1.toks) (fun b u e=>Heap.get?_push_of_some _ e) (le_refl _) ?_,rfl,q _ hf⟩;exact⟨z,us,0,r,Heap.get?_push_size _ rfl⟩
end
abbrev Sp:=List V->Hp->VK->XK->Prop
abbrev CXT:=List Env->Hp->Shared->XK->Value->Shared->Prop
structure Env0(P:Program)(w:World)(K:W.Frag)(mg:Str->Option Value)(base:Heap)(A:Around)(outer:List Env)(s:Shared)(H:Hp):Prop where
 frames:A.frames=some outer
 mod:Mod K mg base
 bs:∀b o,base.get? b=some o->s.heap.get? b=some o/\H b=none
 bsz:base.objs.size<=s.heap.objs.size
 funs:s.heap.FunFrames base outer
 frf:∀b∈frs outer,H b=none
 hok:HOk P w H s.heap
 bare:AllBare s.gens
def CE(outer:List Env)(P:Program)(w:World)(H:Hp)(s:Shared)(Q:VK)(u:Value)(s':Shared):Prop :=
 ∃v H',s'.os=s.os/\AllBare s'.gens/\Un (frs outer) [] H H' s.heap s'.heap/\HOk P w H' s'.heap/\RelV v u/\Q v H'
def CR(CX:CXT)(outer:List Env)(P:Program)(w:World)(H:Hp)(s:Shared)(Q:VK)(E:XK)(r:Result)(s':Shared):Prop :=
 match r with
 | .ok (.ret u)=>CE outer P w H s Q u s'
 | .ok _=>False
 | .error e=>CX outer H s E e s'
structure FnOk(P:Program)(w:World)(K:W.Frag)(mg:Str->Option Value)(base:Heap)(CX:CXT)(k:Nat)(f:Addr)(fd:FuncData)(ps:List Str)(sp:Sp)(cm:Bool:=true):Prop where
 len:∀vs H Q E,sp vs H Q E->vs.length=ps.length
 run:∀(A:Around)(outer:List Env)(s:Shared)(H:Hp)(args:Args)(us:List Value)(vs:List V)(Q:VK)(E:XK),Room k A cm->Env0 P w K mg base A outer s H->BindsTo s fd args (ps.zip us)->Vals vs us->sp vs H Q E->
  codeAny (model P w) A (.call (.ref f) args) (CR CX outer P w H s Q E) s
theorem Env0.make{P:Program}{w:World}{K:W.Frag}{mg:Str->Option Value}{base:Heap}{A:Around}{outer:List Env}{s:Shared}{H:Hp}(e:Env0 P w K mg base A outer s H)(C:Addr)(us:List Value)(kw:List (Str×Value)) :
  Env0 P w K mg base (A.under (.builtin "type.__call__" ⟨.ref C::us,kw⟩)) outer s H:=⟨by first|exact e.frames|(simpa [Around.under,Code.envs,Code.isFrame,pushEnvs]using e.frames),e.mod,e.bs,e.bsz,e.funs,e.frf,e.hok,e.bare⟩
section
variable{X:Cx}{pins:List (Addr×Obj)}{σ:St}{H:Hp}{s s':Shared}
theorem Inv.env0(I:Inv X pins σ H s):Env0 X.prog X.w X.K X.mg X.base X.A X.stack s H :=
 ⟨I.ok.frames,I.ok.mod,I.bs,le_trans I.ok.bsz I.sz,I.stack,I.stkFree,I.hok,I.bare⟩
theorem Inv.after{Q:VK}{u:Value}(I:Inv X pins σ H s)(h:CE X.stack X.prog X.w H s Q u s'):EP X pins σ Q u s':=by
 obtain⟨v,H',os,bare,un,hok,r,q⟩:=h;obtain⟨hh,g,d,t,os'⟩:=s';obtain rfl:os'=s.os:=os;exact⟨v,H',I.call (h':=hh) (g':=g) (d':=d) (t':=t) (ch:=[]) un hok bare (fun b z=>absurd z (by simp)),r,q⟩
end
def tCall(sp:Sp)(dvs:List V)(E:XK)(t:TA):TE:=fun σ H Q=>t σ H fun vs H1=>sp (vs++dvs) H1 Q E
def tMeth(C:Addr)(m:Str)(sp:Sp)(dvs:List V)(E:XK)(ta:TE)(t:TA):TE:=fun σ H Q=>ta σ H fun x H1=>∃ a dx fs,x= .ref a/\H1 a=some (.ins C dx fs)/\fs.lookup m=none/\
 t σ H1 fun vs H2=>sp (x::(vs++dvs)) H2 Q E
def tMake(C:Addr)(sp:Sp)(dvs:List V)(E:XK)(t:TA):TE:=fun σ H Q=>t σ H fun vs H1=>∀ x dx,H1 x=none->H1 dx=none->dx≠x->
 sp (.ref x::(vs++dvs)) (upd (upd H1 dx (.own x)) x (.ins C dx [])) (fun v H2=>v= .non/\Q (.ref x) H2) E
def Binds(K:W.Frag)(fd:FuncData)(ps:List Str)(ds:List Value):Prop :=
 ∀(s:Shared)(us:List Value),K.In s.heap->(us++ds).length=ps.length->BindsTo s fd ⟨us,[]⟩ (ps.zip (us++ds))
theorem Binds.all{K:W.Frag}{fd:FuncData}{ps:List Str}(h:∀us:List Value,us.length=ps.length->bindArgs fd ⟨us,[]⟩=pure (ps.zip us)):Binds K fd ps []:=fun s us _ hl=>by
 rw[append_nil]at hl ⊢;exact .of_eq (h us hl)
def Passes(CX:CXT)(X:Cx)(E:XK):Prop:=∀(pins:List (Addr×Obj))(σ:St)(H:Hp)(s:Shared)(e:Value)(s':Shared),Inv X pins σ H s->CX X.stack H s E e s'->X.xe e s'
section
variable{cm:Bool}{X:Cx}{CX:CXT}{k:Nat}{f C:Addr}{fd:FuncData}{ps:List Str}{sp:Sp}{dvs:List V}{ds:List Value}{E:XK}{x m:Str}{p pos apos:Pos}{e o:Expr}{es:List Expr}{ta:TE}{t:TA}
theorem run_fn{pins:List (Addr×Obj)}{σ:St}{H:Hp}{s:Shared}{Q:VK}{us:List Value}{vs:List V}(F:FnOk X.prog X.w X.K X.mg X.base CX k f fd ps sp cm)(hr:Room k X.A cm)(hb:Binds X.K fd ps ds)(hd:Vals dvs ds)(hx:Passes CX X E)(I:Inv X pins σ H s)(r:Vals vs us)(h:sp (vs++dvs) H Q E):wpAny (model X.prog X.w) X.A (call (.ref f) us) (EP X pins σ Q) X.xe s:=by
 have r2:Vals (vs++dvs) (us++ds):=r.append hd;have hl:(us++ds).length=ps.length:=by rw[<-r2.length];exact F.len _ _ _ _ h
 refine wpAny_call (codeAny_mono (F.run X.A X.stack s H ⟨us,[]⟩ (us++ds) (vs++dvs) Q E hr I.env0 (hb s us I.kIn hl) r2 h) fun r s' hq=>?_);cases r with
 |error e=>exact hx pins σ H s e s' I hq
 |ok fl =>
  cases fl with
  |ret u=>exact I.after hq
  |next=>exact False.elim hq
  |brk=>exact False.elim hq
  |cont=>exact False.elim hq
theorem ka(F:FnOk X.prog X.w X.K X.mg X.base CX k f fd ps sp cm)(hr:Room k X.A cm)(hg:Gl X x)(hm:X.mg x=some (.ref f))(hk:W.keepIn X.K (.ref f)=true)(hb:Binds X.K fd ps ds)(hd:Vals dvs ds)(hx:Passes CX X E)(ha:PA X (e::es) t)(hdb:(x==("__debug__" : Str))=false:=by decide)(he:starEach (e::es) X.env=(false,eval e X.env)::starEach es X.env:=by rfl)(hpl:(backTo pos (starEach es X.env)).any (·.1)=false:=by rfl) :
  PE X (.Call (.Name x p) (e::es) [] pos) (tCall sp dvs E t):=by
 intro pins s σ H Q I h;refine wpAny_Call_Name_kw (ld_glob I hg hm ?_ hdb);refine W.callWith_K (h₀:=X.base) I.ok.mod.kin hk (thn (ha pos pins s σ H _ I h) fun us s1 ⟨vs,H1,I1,r,q⟩=>⟨I1.kIn,?_⟩) he hpl;exact run_fn F hr hb hd hx I1 r q
theorem ja{pl:Sem Bool}(he:PE X o ta)(c:Cls X.K C)(hm:Meth X.K C m f)(F:FnOk X.prog X.w X.K X.mg X.base CX k f fd ps sp cm)(hr:Room k X.A cm)(hb:Binds X.K fd ps ds)(hd:Vals dvs ds)(hx:Passes CX X E)(ha:PA X (e::es) t)(hst:starEach (e::es) X.env=(false,eval e X.env)::starEach es X.env:=by rfl)(hpl:(backTo pos (starEach es X.env)).any (·.1)=false:=by rfl)(ht:eval (.Call (.Attribute o m apos) (e::es) [] pos) X.env=(do
   let ov <-eval o X.env
   standAt apos.atName
   let(f,first) <-holding [ov] (getMethod ov m pl)
   callWith pos f first (backTo pos (starEach (e::es) X.env)) (backToKw pos (keywordEach [] X.env))):=by rfl) :
  PE X (.Call (.Attribute o m apos) (e::es) [] pos) (tMeth C m sp dvs E ta t):=by
 intro pins s σ H Q I h;refine W.methodCall_KW (pl:=pl) (thn (he pins s σ H _ I h) fun u s1 ⟨x,H1,I1,rx,a,dx,fs,ex,ea,l,q⟩=>?_) ht;subst ex;obtain rfl:u=Value.ref a:=rx;refine getmeth_ok I1 ea c hm l ?_;refine W.callWith_K (first:=[.ref a]) (h₀:=X.base) I.ok.mod.kin hm.kp (thn (ha pos pins s1 σ H1 _ I1 q) fun us s2 ⟨vs,H2,I2,r,q2⟩=>⟨I2.kIn,?_⟩) hst hpl;exact run_fn (us:=.ref a::us) (vs:=.ref a::vs) F hr hb hd hx I2 (.cons rfl r) q2
theorem pe_meth0{pl:Sem Bool}(he:PE X o ta)(c:Cls X.K C)(hm:Meth X.K C m f)(F:FnOk X.prog X.w X.K X.mg X.base CX k f fd ps sp cm)(hr:Room k X.A cm)(hb:Binds X.K fd ps ds)(hd:Vals dvs ds)(hx:Passes CX X E)(ht:eval (.Call (.Attribute o m apos) [] [] pos) X.env=(do
   let ov <-eval o X.env
   standAt apos.atName
   let(f,first) <-holding [ov] (getMethod ov m pl)
   callWith pos f first (backTo pos (starEach [] X.env)) (backToKw pos (keywordEach [] X.env))):=by rfl) :
  PE X (.Call (.Attribute o m apos) [] [] pos) (tMeth C m sp dvs E ta tNil):=by
 intro pins s σ H Q I h;refine W.methodCall_KW (pl:=pl) (thn (he pins s σ H _ I h) fun u s1 ⟨x,H1,I1,rx,a,dx,fs,ex,ea,l,q⟩=>?_) ht;subst ex;obtain rfl:u=Value.ref a:=rx;refine getmeth_ok I1 ea c hm l ?_;exact W.callWith_K0 (first:=[.ref a]) I1.kIn hm.kp (run_fn (us:=[.ref a]) (vs:=[.ref a]) F hr hb hd hx I1 (.cons rfl .nil) q)
structure Mk(K:W.Frag)(C f:Addr):Prop where
 makes:W.makesIn K C=true
 init:W.findIn K (.ref C) "__init__"=some (some (.ref f))
 fn:W.isFn K (.ref f)=true
 kp:W.keepIn K (.ref C)=true
theorem run_make{pins:List (Addr×Obj)}{σ:St}{H:Hp}{s:Shared}{Q:VK}{us:List Value}{vs:List V}(M:Mk X.K C f)(F:FnOk X.prog X.w X.K X.mg X.base CX k f fd ps sp cm)(hr:Room (k+1) X.A cm)(hb:Binds X.K fd ps ds)(hd:Vals dvs ds)(hx:Passes CX X E)(I:Inv X pins σ H s)(r:Vals vs us)(h:∀x dx,H x=none->H dx=none->dx≠x->sp (.ref x::(vs++dvs)) (upd (upd H dx (.own x)) x (.ins C dx [])) (fun v H2=>v= .non/\Q (.ref x) H2) E) :
  wpAny (model X.prog X.w) X.A (call (.ref C) us) (EP X pins σ Q) X.xe s:=by
 have hq:=h (s.heap.objs.size+1) s.heap.objs.size (I.hok.fresh (le_succ _)) (I.hok.fresh (le_refl _)) (ne_of_lt (Nat.lt_succ_self _));have I2:=Inv.made (C:=C) I;have r2:Vals (V.ref (s.heap.objs.size+1)::(vs++dvs)) (Value.ref (s.heap.objs.size+1)::(us++ds)):=.cons rfl (r.append hd);have hl:(Value.ref (s.heap.objs.size+1)::us++ds).length=ps.length:=by
  have e:=r2.length;rw[F.len _ _ _ _ hq]at e;exact e.symm
 refine wpAny_call (make_map (f:=f) I.kIn M.makes M.init (beq_iff_eq.mp M.fn) (codeAny_mono (F.run _ X.stack _ _ ⟨Value.ref (s.heap.objs.size+1)::us,[]⟩ (Value.ref (s.heap.objs.size+1)::(us++ds)) _ _ E (hr.make C us [])
  (I2.env0.make C us []) (hb _ (Value.ref (s.heap.objs.size+1)::us) I2.kIn hl) r2 hq) fun r s' hq'=>?_))
 cases r with
 |error e=>exact hx pins σ _ _ e s' I2 hq'
 |ok fl =>
  cases fl with
  |ret u =>
   obtain⟨v,H',I3,rv,ev,q3⟩:=I2.after hq';subst ev;exact⟨rv,⟨V.ref (s.heap.objs.size+1),H',I3,rfl,q3⟩⟩
  |next=>exact False.elim hq'
  |brk=>exact False.elim hq'
  |cont=>exact False.elim hq'
theorem pe_make(M:Mk X.K C f)(F:FnOk X.prog X.w X.K X.mg X.base CX k f fd ps sp cm)(hr:Room (k+1) X.A cm)(hg:Gl X x)(hm:X.mg x=some (.ref C))(hb:Binds X.K fd ps ds)(hd:Vals dvs ds)(hx:Passes CX X E)(ha:PA X (e::es) t)(hdb:(x==("__debug__" : Str))=false:=by decide)(he:starEach (e::es) X.env=(false,eval e X.env)::starEach es X.env:=by rfl)(hpl:(backTo pos (starEach es X.env)).any (·.1)=false:=by rfl) :
  PE X (.Call (.Name x p) (e::es) [] pos) (tMake C sp dvs E t):=by
 intro pins s σ H Q I h;refine wpAny_Call_Name_kw (ld_glob I hg hm ?_ hdb);refine W.callWith_K (h₀:=X.base) I.ok.mod.kin M.kp (thn (ha pos pins s σ H _ I h) fun us s1 ⟨vs,H1,I1,r,q⟩=>⟨I1.kIn,?_⟩) he hpl;exact run_make M F hr hb hd hx I1 r q
theorem pe_make0(M:Mk X.K C f)(F:FnOk X.prog X.w X.K X.mg X.base CX k f fd ps sp cm)(hr:Room (k+1) X.A cm)(hg:Gl X x)(hm:X.mg x=some (.ref C))(hb:Binds X.K fd ps ds)(hd:Vals dvs ds)(hx:Passes CX X E)(hdb:(x==("__debug__" : Str))=false:=by decide):PE X (.Call (.Name x p) [] [] pos) (tMake C sp dvs E tNil):=by
 intro pins s σ H Q I h;refine wpAny_Call_Name_kw (ld_glob I hg hm ?_ hdb);exact W.callWith_K0 I.kIn M.kp (run_make (us:=[]) M F hr hb hd hx I .nil h)
end
structure FnScope(N P:List Str)(sc:Scope):Prop where
 kind:sc.kind= .function
 co:sc.isCoroutine=false
 gen:sc.isGenerator=false
 nd:N.Nodup
 pre:N.take P.length=P
 par:∀x∈P,sc.names.lookup x=some .local\/sc.names.lookup x=some .cell
 nofree:∀y∈sc.names,y.2≠ .free
theorem bindL_out{kindOf:Str->Option NameKind}{x:Str}:∀{binds:List (Str×Value)}{m:Str->Option Value},(∀v,(x,v)∉binds)->bindL kindOf binds m x=m x
 | [],_,_=>rfl
 |(n,v)::r,m,h=>by
  unfold bindL;rw[bindL_out fun w hw=>h w (mem_cons_of_mem _ hw)];split
  ·have:x≠n:=by rintro rfl;exact h v mem_cons_self
   simp[this]
  ·rfl
theorem bindC_out{kindOf:Str->Option NameKind}{x:Str}:∀{binds:List (Str×Value)}{m:Str->Option Value},(∀v,(x,v)∉binds)->bindC kindOf binds m x=m x
 | [],_,_=>rfl
 |(n,v)::r,m,h=>by
  unfold bindC;rw[bindC_out fun w hw=>h w (mem_cons_of_mem _ hw)];split
  ·rfl
  ·have:x≠n:=by rintro rfl;exact h v mem_cons_self
   simp[this]
theorem bindL_get{kindOf:Str->Option NameKind}{x:Str}{v:Value}:∀{P:List Str}{vs:List Value}{i:Nat}{m:Str->Option Value},P.Nodup->P[i]? =some x->vs[i]? =some v->kindOf x=some .local->
  bindL kindOf (P.zip vs) m x=some v
 | [],_,_,_,_,h,_,_=>by simp at h
 | _::_,[],_,_,_,_,h,_=>by simp at h
 |p::P,w::vs,0,m,nd,h1,h2,hk=>by
  simp at h1 h2;subst h1;subst h2;show bindL kindOf ((p,w)::P.zip vs) m p=_;unfold bindL;rw[bindL_out fun v hv=>(nodup_cons.mp nd).1 (List.of_mem_zip hv).1,if_pos hk];simp
 |p::P,w::vs,i+1,m,nd,h1,h2,hk=>by
  show bindL kindOf ((p,w)::P.zip vs) m x=_;unfold bindL;exact bindL_get (i:=i) (nodup_cons.mp nd).2 (by simpa using h1) (by simpa using h2) hk
theorem bindC_get{kindOf:Str->Option NameKind}{x:Str}{v:Value}:∀{P:List Str}{vs:List Value}{i:Nat}{m:Str->Option Value},P.Nodup->P[i]? =some x->vs[i]? =some v->kindOf x≠some .local->
  bindC kindOf (P.zip vs) m x=some v
 | [],_,_,_,_,h,_,_=>by simp at h
 | _::_,[],_,_,_,_,h,_=>by simp at h
 |p::P,w::vs,0,m,nd,h1,h2,hk=>by
  simp at h1 h2;subst h1;subst h2;show bindC kindOf ((p,w)::P.zip vs) m p=_;unfold bindC;rw[bindC_out fun v hv=>(nodup_cons.mp nd).1 (List.of_mem_zip hv).1,if_neg hk];simp
 |p::P,w::vs,i+1,m,nd,h1,h2,hk=>by
  show bindC kindOf ((p,w)::P.zip vs) m x=_;unfold bindC;exact bindC_get (i:=i) (nodup_cons.mp nd).2 (by simpa using h1) (by simpa using h2) hk
def start(N:List Str)(vs:List V):St:=vs.map some++replicate (N.length-vs.length) none
def cxOf(CX:CXT)(P:Program)(w:World)(K:W.Frag)(mg:Str->Option Value)(base:Heap)(N:List Str)(qual:Str)(scope:Scope)(f:Addr)(cd:Value)(A:Around)(outer:List Env)(s:Shared)(H:Hp)(E:XK)(cm:Bool:=true):Cx where
 prog:=P
 w:=w
 K:=K
 mg:=mg
 base:=base
 A:=A.deeper (envOfC qual scope s.heap.objs.size f cd)
 N:=N
 s₀:=s
 H₀:=H
 env:=envOfC qual scope s.heap.objs.size f cd
 outer:=outer
 stack:=envOfC qual scope s.heap.objs.size f cd::outer
 ex:=[]
 calm:=cm
 fn:=fun _=>true
 pn:=[]
 xe:=fun e s'=>wpAny (model P w) (A.deeper (envOfC qual scope s.heap.objs.size f cd)) (leaving (envOfC qual scope s.heap.objs.size f cd) e) (fun _ s''=>CX outer H s E e s'') (fun e' s''=>CX outer H s E e' s'') s'
theorem cell_has{sc:Scope}{n:Nat}{x:Str}(h:sc.names.lookup x=some .cell):∃c,(cellsFrom n sc.names []).lookup x=some c:=by
 have q:=W.cellsFrom_some sc.names n [] (.inl h);exact Option.isSome_iff_exists.mp q
theorem inv_start{CX:CXT}{P:Program}{w:World}{K:W.Frag}{mg:Str->Option Value}{base:Heap}{N ps:List Str}{qual:Str}{scope:Scope}{f:Addr}{cd:Value}{A:Around}{outer:List Env}{s s1:Shared}{H:Hp}{E:XK}{cm:Bool}{us:List Value}{vs:List V}(S:FnScope N ps scope)(hd:cm=true->A.handled=none)(e0:Env0 P w K mg base A outer s H)(hl:vs.length=ps.length)(r:Vals vs us)(x:InCallC s s.heap.objs.size (bindL (envOfC qual scope s.heap.objs.size f cd).kindOf (ps.zip us) fun _=>none) (cellsFrom (s.heap.objs.size+1) scope.names []) (bindC (envOfC qual scope s.heap.objs.size f cd).kindOf (ps.zip us) fun _=>none) s1) :
  Inv (cxOf CX P w K mg base N qual scope f cd A outer s H E cm) [] (start N vs) H s1:=by
 have hpl:ps.length<=N.length:=by have:=congrArg length S.pre;rw[length_take]at this;omega
 obtain⟨h1,tk,rfl,hk⟩:=x.done;have noA:∀b:Addr,b∉(cxOf CX P w K mg base N qual scope f cd A outer s H E cm).ex:=fun b z=>absurd (show b∈([]:List Addr)from z) (by simp);refine⟨⟨e0.mod,S.kind,rfl,rfl,le_refl _,fun y z c h1 h2=>?_,fun y hy=>?_,fun y c _ h=>?_,hd,Around.frames_deeper e0.frames,.inr ⟨rfl,rfl⟩,fun b z=>absurd z (noA b),e0.bs,e0.bsz,fun b _ _=>noA b,fun b z=>absurd z (noA b),e0.funs,e0.frf⟩,
  rfl,e0.bare,Un.kept hk,⟨_,x.toInCall.ns,fun i y v h1 h2 h3=>?_⟩,fun y c h=>⟨_,x.cell y c h⟩,e0.hok.fresh (le_refl _),fun y c h=>?_,fun p hp=>absurd (show p∈([]:List (Addr×Obj))from hp) (by simp),e0.hok.kept hk,?_⟩
 ·exact name_of_addr x.apart (PySem.mem_of_lookup h1) (PySem.mem_of_lookup h2)
 ·have hy:scope.names.lookup y=some .cell\/scope.names.lookup y=some .free:=hy;rcases hy with hy|hy
  ·exact cell_has hy
  ·exact absurd rfl (S.nofree _ (PySem.mem_of_lookup hy))
 ·exact Nat.le_of_lt (x.above y c (PySem.mem_of_lookup h))
 ·have hi:i<vs.length:=by
   unfold start at h2;by_cases hi:i<vs.length
   ·exact hi
   ·rw[List.getElem?_append_right (by simpa using hi)]at h2;rw[List.getElem?_replicate]at h2;split at h2 <;>cases h2
  have ha:vs[i]? =some v:=by
   unfold start at h2;rw[List.getElem?_append_left (by simpa using hi),getElem?_map]at h2;cases e:vs[i]? with
   |none=>rw[e]at h2;cases h2
   |some a=>rw[e]at h2;cases h2;rfl
  obtain⟨u,hu,rv⟩:=r.get ha;have hp:ps[i]? =some y:=by
   rw[<-S.pre,List.getElem?_take_of_lt (by omega)];exact h1
  have ndP:ps.Nodup:=by rw[<-S.pre];exact S.nd.sublist (List.take_sublist _ _)
  refine⟨u,rv,?_⟩;rcases S.par y (mem_of_getElem? hp)with k|k
  ·exact .inl ⟨k,bindL_get ndP hp hu k⟩
  ·obtain⟨c,e⟩:=cell_has (n:=s.heap.objs.size+1) k;refine .inr ⟨.inl k,c,e,?_⟩;have q:=x.cell y c e;rw[bindC_get ndP hp hu (by show scope.names.lookup y≠_;rw[k];decide)]at q;exact q
 ·exact e0.hok.fresh (Nat.le_of_lt (x.above y c (PySem.mem_of_lookup h)))
 ·unfold start;show _=N.length;rw[length_append,length_map,List.length_replicate];omega
theorem fn_of{CX:CXT}{P:Program}{w:World}{K:W.Frag}{mg:Str->Option Value}{base:Heap}{k:Nat}{f:Addr}{name qual:Str}{params:Arguments}{body:List Stmt}{scope:Scope}{dV kV doc pm cdv ct oc:Value}{an od:Option Addr}{osl:Array (Option Value)}{N ps:List Str}{sp:Sp}{cm:Bool}(lk:K.lookup f=some ⟨oc,od,.func (W.fnOf name qual params body scope dV kV doc pm an cdv ct),osl⟩)(hcd:W.codeIn K cdv qual=true)(S:FnScope N ps scope)(len:∀vs H Q E,sp vs H Q E->vs.length=ps.length)(hbody:∀(A:Around) (outer:List Env) (s:Shared) (H:Hp) (vs:List V) (Q:VK) (E:XK),Room k (A.deeper (envOfC qual scope s.heap.objs.size f cdv)) cm->sp vs H Q E->
   ∃t,PSs (cxOf CX P w K mg base N qual scope f cdv A outer s H E cm) body t/\t {nx:=fun _ H'=>Q .non H',rt:=Q} (start N vs) H) :
  FnOk P w K mg base CX (k+1) f (W.fnOf name qual params body scope dV kV doc pm an cdv ct) ps sp cm:=by
 refine⟨len,fun A outer s H args us vs Q E hr e0 hb r hsp=>?_⟩;have hl:=len _ _ _ _ hsp;have KX:K.In s.heap:=e0.mod.kin.keeps fun b o e=>(e0.bs b o e).1;have lim:s.heap.NoLimit:=e0.mod.nolimit.keeps fun b o e=>(e0.bs b o e).1;have hkind:∀y∈ps.zip us,scope.names.lookup y.1=some .local\/(scope.names.lookup y.1=some .cell/\((cellsFrom (s.heap.objs.size+1) scope.names []).lookup y.1).isSome=true):=fun⟨n,v⟩ hy=>by
  rcases S.par n (List.of_mem_zip hy).1 with q|q
  ·exact .inl q
  ·exact .inr ⟨q,W.cellsFrom_some _ _ _ (.inl q)⟩
 refine codeAny_call_function hr.depth (KX _ _ lk) rfl S.co S.gen rfl (W.codeRec_of KX hcd) (hb _ _ _ _ ?_);refine wpAny_newFunctionEnv_cells S.kind hkind fun env he s1 x=>?_;subst he;refine⟨lim.keeps x.toInCall.keep,codeAny_func ?_⟩;obtain⟨t,ht,hq⟩:=hbody A outer s H vs Q E (hr.deeper _) hsp;have I:Inv (cxOf CX P w K mg base N qual scope f cdv A outer s H E cm) [] (start N vs) H s1:=inv_start S hr.hd e0 hl r x;refine wpAny_mono (ht [] s1 (start N vs) H _ I hq) (fun fl s' hs=>?_) fun e s' hs=>hs;have fin:∀{σ':St}{H':Hp}{v:V}{u:Value},Inv (cxOf CX P w K mg base N qual scope f cdv A outer s H E cm) [] σ' H' s'->RelV v u->Q v H'->CE outer P w H s Q u s' :=
  fun{σ' H' v u} J rv q=>⟨v,H',J.os,J.bare,J.base,J.hok,rv,q⟩
 cases fl with
 |ret u =>
  obtain⟨v,σ',H',J,rv,q⟩:=hs;exact fin J rv q
 |next =>
  obtain⟨σ',H',J,q⟩:=hs;exact fin (v:=V.non) (u:=Value.none) J rfl q
 |brk =>
  obtain⟨_,_,_,q⟩:=hs;exact False.elim q
 |cont =>
  obtain⟨_,_,_,q⟩:=hs;exact False.elim q
section
variable{X:Cx}{x:Str}{p pos:Pos}{e:Expr}{es:List Expr}{t:TA}{id T:String}{r:List V->Hp->VK->Prop}
def tCB(r:List V->Hp->VK->Prop)(t:TA):TE:=fun σ H Q=>t σ H fun vs H1=>r vs H1 Q
theorem zq(hc:jH X (.builtin id) r)(hg:Gl X x)(hm:X.mg x=none)(hv:bootBuiltins x=some (.builtin id))(ha:PA X (e::es) t)(hn:x≠"__name__" :=by decide)(hdb:(x==("__debug__" : Str))=false:=by decide)(he:starEach (e::es) X.env=(false,eval e X.env)::starEach es X.env:=by rfl)(hpl:(backTo pos (starEach es X.env)).any (·.1)=false:=by rfl):PE X (.Call (.Name x p) (e::es) [] pos) (tCB r t):=by
 intro pins s σ H Q I h;refine wpAny_Call_Name_kw (jM I hg hm hv ?_ hn hdb);exact PyProof.Rows.callWith_builtin1 (thn (ha pos pins s σ H _ I h) fun us s1 ⟨vs,H1,I1,r1,q1⟩=>hc pins s1 σ H1 vs us Q I1 r1 q1) he hpl
theorem zH(hc:jH X (.type T) r)(hg:Gl X x)(hm:X.mg x=none)(hv:bootBuiltins x=some (.type T))(ha:PA X (e::es) t)(hn:x≠"__name__" :=by decide)(hdb:(x==("__debug__" : Str))=false:=by decide)(he:starEach (e::es) X.env=(false,eval e X.env)::starEach es X.env:=by rfl)(hpl:(backTo pos (starEach es X.env)).any (·.1)=false:=by rfl):PE X (.Call (.Name x p) (e::es) [] pos) (tCB r t):=by
 intro pins s σ H Q I h;refine wpAny_Call_Name_kw (jM I hg hm hv ?_ hn hdb);exact PyProof.Rows.callWith_type1 (thn (ha pos pins s σ H _ I h) fun us s1 ⟨vs,H1,I1,r1,q1⟩=>hc pins s1 σ H1 vs us Q I1 r1 q1) he hpl
end
end L2
namespace HT
open PySem PyProof.Rows
def lexLt:List Int->List Int->Bool
 | [],[]=>false
 | [],_::_=>true
 | _::_,[]=>false
 |x::xs,y::ys=>if x=y then lexLt xs ys else decide (x<y)
theorem lexLt_cons(x y:Int)(xs ys:List Int):lexLt (x::xs) (y::ys)=if x=y then lexLt xs ys else decide (x<y):=rfl
theorem rcLt_int(A:Around)(s:Shared)(a:Int)(t:Tok)(c:Int)(u:Tok)(prog:Program)(w:World)(E:Value->Shared->Prop)(Q:Value->Shared->Prop)(h:Q (.bool (decide (a<c))) s) :
  wpAny (model prog w) A (richCompare .Lt (.int a t) (.int c u)) Q E s :=
 (PyProof.Rows.lt_int h:wpAny (model prog w) A (compareOp .Lt (.int a t) (.int c u)) Q E s)
section
variable{prog:Program}{w:World}{A:Around}{E:Value->Shared->Prop}{s:Shared}
theorem cat_tup{t b:Addr}{vs ws:List Value}{Q:Value->Shared->Prop}(ht:IsTup s.heap t vs.toArray)(hb:IsTup s.heap b ws.toArray)(hv:vs≠[])(h1:ws=[]->Q (.ref t) s)(h2:ws≠[]->Q (.ref s.heap.objs.size) {s with heap:=s.heap.push {cls:=.type "tuple",data:=.seq (vs++ws).toArray}})(hsz:vs.length+ws.length<=sizeLine):wpAny (model prog w) A (binaryOp .Add (.ref t) (.ref b)) Q E s:=by
 obtain⟨⟨cls,dd,data,sl⟩,ho,hc,n,hd⟩:=id ht;obtain⟨⟨cls2,dd2,data2,sl2⟩,ho2,hc2,n2,hd2⟩:=id hb;simp only at hc hd hc2 hd2;subst hc hd hc2 hd2;have e:vs.toArray++ws.toArray=(vs++ws).toArray:=by simp
 by_cases hw:ws=[]
 ·exact concat_meets ⟨_,ho,rfl⟩ ⟨_,ho2,rfl⟩ noFill_tuple_add seq_tuple_add PySem.F.slot_tuple_add PySem.F.entry_tuple_add (PySem.F.args_tuple_add_2 _ _)
   (tuple_addW1 t b vs.toArray ws.toArray n n2 dd dd2 sl sl2 (by simpa using hv) (by simp[hw])) ⟨ho,ho2,h1 hw⟩
 ·refine concat_meets ⟨_,ho,rfl⟩ ⟨_,ho2,rfl⟩ noFill_tuple_add seq_tuple_add PySem.F.slot_tuple_add PySem.F.entry_tuple_add (PySem.F.args_tuple_add_2 _ _)
   (tuple_addW2 t b vs.toArray ws.toArray n n2 dd dd2 sl sl2 (by simpa using hv) (by simpa using hw) (by rw[size_toArray,size_toArray];exact hsz)) ⟨ho,ho2,?_⟩
  rw[e];exact h2 hw
def sIx(n d:Nat):Option Int->Nat
 |none=>d
 |some v=>if v<0 then(v+(n:Int)).toNat else min v.toNat n
theorem sIx_none(n d:Nat):sIx n d none=d:=rfl
theorem sIx_nat(n d k:Nat):sIx n d (some (k:Int))=min k n:=by
 show(if(k:Int)<0 then((k:Int)+(n:Int)).toNat else min (k:Int).toNat n)=min k n;rw[if_neg (by omega),toNat_natCast]
theorem sIx_le(n d:Nat)(hd:d<=n)(o:Option Int):sIx n d o<=n:=by
 cases o with
 |none=>exact hd
 |some v =>
  show(if v<0 then(v+(n:Int)).toNat else min v.toNat n)<=n;by_cases hv:v<0
  ·rw[if_pos hv];omega
  ·rw[if_neg hv];exact Nat.min_le_right _ _
theorem clip_eq(v:Int)(n d:Nat):(if v<0 then max (v+(n:Int)) 0 else min v (n:Int))=((sIx n d (some v):Nat):Int):=by
 show(if v<0 then max (v+(n:Int)) 0 else min v (n:Int))=(((if v<0 then(v+(n:Int)).toNat else min v.toNat n):Nat):Int);by_cases hv:v<0
 ·simp only[if_pos hv];exact(Int.ofNat_toNat _).symm
 ·simp only[if_neg hv];obtain⟨k,rfl⟩:=Int.eq_ofNat_of_zero_le (Int.not_lt.mp hv);rw[toNat_natCast,Int.min_def,Nat.min_def];simp only[Int.ofNat_le];split <;>rfl
theorem adjust_gen(lo hi:Option Int)(n:Nat):Builtin.Slice.sliceAdjust lo hi 1 (n:Int)=(((sIx n 0 lo:Nat):Int),((sIx n n hi:Nat):Int)):=by
 have h1:¬((1:Int)<0):=by omega
 unfold Builtin.Slice.sliceAdjust;simp only[h1,if_false];refine Prod.ext ?_ ?_
 ·cases lo with
  |none=>rfl
  |some v=>exact clip_eq v n 0
 ·cases hi with
  |none=>rfl
  |some v=>exact clip_eq v n n
theorem places_gen(i j:Nat):Builtin.Slice.slicePlaces (i:Int) (j:Int) 1=j-i:=by
 unfold Builtin.Slice.slicePlaces;have h1:(1:Int)>0:=by omega
 simp only[h1,if_true,Int.ediv_one];split <;>omega
theorem slicePart_{v:Value}{o:Option Int}{Q:Option Int->Shared->Prop}(p:IsPart v o)(h:Q o s):wpAny (model prog w) A (Builtin.Slice.slicePartIndex v) Q E s:=by
 cases p with
 |none=>exact slicePart_none h
 |int i t=>exact slicePart_int h
theorem sliceApplied_gen{sl:Addr}{vl vu:Value}{lo hi:Option Int}{n:Nat}{Q:Int×Int×Nat->Shared->Prop}(hs:s.heap.IsSliceOf sl vl vu .none)(pl:IsPart vl lo)(pu:IsPart vu hi)(h:Q (((sIx n 0 lo:Nat):Int),1,sIx n n hi-sIx n 0 lo) s):wpAny (model prog w) A (Builtin.Slice.sliceApplied (.ref sl) (pure (n:Int))) Q E s:=by
 obtain⟨os,hos,hcs,hds⟩:=id hs;unfold Builtin.Slice.sliceApplied Builtin.Slice.sliceFields;refine wpAny_bind (wpAny_bind (wpAny_field hos hds (x:=vl) rfl (wpAny_bind (wpAny_field hos hds (x:=vu) rfl (wpAny_bind (wpAny_field hos hds (x:=.none) rfl (wpAny_pure ?_)))))));refine wpAny_bind (slicePart_none ?_);show wpAny _ _ (if((1:Int)==0)=true then _ else _) _ _ s;rw[if_neg (by decide)];refine wpAny_bind (slicePart_ pl (wpAny_bind (slicePart_ pu (wpAny_bind (wpAny_pure ?_)))));show wpAny _ _ (match Builtin.Slice.sliceAdjust lo hi 1 (n:Int)with|(lo,hi)=>pure (lo,(1:Int),Builtin.Slice.slicePlaces lo hi 1)) _ _ s;rw[adjust_gen lo hi n];show wpAny _ _ (pure (((sIx n 0 lo:Nat):Int),(1:Int),Builtin.Slice.slicePlaces ((sIx n 0 lo:Nat):Int) ((sIx n n hi:Nat):Int) 1)) _ _ s;rw[places_gen];exact wpAny_pure h
theorem pick_gen(xs:Array Value)(i k:Nat):((List.range k).filterMap fun(m:Nat)=>xs[((i:Int)+(m:Int)*1).toNat]?).toArray=((xs.toList.drop i).take k).toArray:=by
 have e:(fun(m:Nat)=>xs[((i:Int)+(m:Int)*1).toNat]?)=fun m=>xs[i+m]?:=by
  funext m
  have:((i:Int)+(m:Int)*1).toNat=i+m:=by omega
  rw[this]
 rw[e];have:=pick_run xs i k;rw[List.filterMap_map]at this;have e2:((fun x=>xs[x]?)∘fun x=>i+x)=fun m=>xs[i+m]?:=rfl;rw[e2]at this;rw[this]
theorem getItem_tuple_cut{t sl:Addr}{items:Array Value}{vl vu:Value}{lo hi:Option Int}{Q:Value->Shared->Prop}(ht:IsTup s.heap t items)(hs:s.heap.IsSliceOf sl vl vu .none)(pl:IsPart vl lo)(pu:IsPart vu hi)(hw:¬(sIx items.size 0 lo=0/\sIx items.size items.size hi=items.size))(h:Q (.ref s.heap.objs.size) {s with heap:=s.heap.push {cls:=.type "tuple",data:=.seq ((items.toList.drop (sIx items.size 0 lo)).take (sIx items.size items.size hi-sIx items.size 0 lo)).toArray}})(hsz:items.size<=sizeLine):wpAny (model prog w) A (getItem (.ref t) (.ref sl)) Q E s:=by
 have htake:sizeOk (.seq ((items.toList.drop (sIx items.size 0 lo)).take (sIx items.size items.size hi-sIx items.size 0 lo)).toArray):=by
  show((items.toList.drop (sIx items.size 0 lo)).take (sIx items.size items.size hi-sIx items.size 0 lo)).toArray.size<=sizeLine;rw[size_toArray,length_take,length_drop,Array.length_toList];exact le_trans (Nat.min_le_right _ _) (le_trans (Nat.sub_le _ _) hsz)
 have hj:sIx items.size items.size hi<=items.size:=sIx_le _ _ (le_refl _) hi;obtain⟨os,hos,hcs,hds⟩:=id hs;have hTs:s.TypeIs (.ref sl) "slice" :=⟨os,hos,hcs⟩;unfold getItem
 try with_reducible refine wpAny_holding ?_
 first|refine wpAny_bind (wpAny_pure ?_)|skip
 refine wpAny_bind (wpAny_sequenceKey ht.typeIs (by decide) ?_);refine wpAny_bind (wpAny_callSpecial?_slot (name:=Str.ofString "__getitem__") ht.typeIs PyProof.Rows.slot_tuple_getitem
  (wpAny_call_entry PyProof.Rows.slot_tuple_getitem ht.typeIs entry_tuple_getitem ?_ (args_tuple_getitem _ _)))
 show wpAny _ _ (Builtin.Tuple.tupleItemsOf (.ref t) >>= _) _ _ s;refine wpAny_bind (tupleItemsOf_ ht ?_);refine wpAny_bind (wpAny_typeOf hTs ?_);rw[if_pos (by decide)];refine wpAny_bind (sliceApplied_gen hs pl pu ?_);have hno:¬((((sIx items.size 0 lo:Nat):Int)==0&&(1:Int)==1&&(sIx items.size items.size hi-sIx items.size 0 lo)==items.size)=true):=by
  intro q;rw[and_eq_true,and_eq_true]at q;have q1:((sIx items.size 0 lo:Nat):Int)=0:=eq_of_beq q.1.1;have q2:sIx items.size items.size hi-sIx items.size 0 lo=items.size:=eq_of_beq q.2;exact hw ⟨by omega,by omega⟩
 show wpAny _ _ (if(((sIx items.size 0 lo:Nat):Int)==0&&(1:Int)==1&&(sIx items.size items.size hi-sIx items.size 0 lo)==items.size)=true then _ else _) _ _ s;rw[if_neg hno,pick_gen]
 first
  |exact wpAny_bind (m:=Builtin.Tuple.tupleExact _) (wpAny_newObj_type (wpAny_pure ⟨_,rfl,wpAny_pure h⟩) htake)
  |exact wpAny_bind (m:=Builtin.Tuple.tupleExact _) (wpAny_newObj_type (wpAny_bind (wpAny_pure (wpAny_pure ⟨_,rfl,wpAny_pure h⟩))) htake)
  |exact wpAny_bind (wpAny_bind (m:=Builtin.Tuple.tupleExact _) (wpAny_newObj_type (wpAny_pure (wpAny_pure ⟨_,rfl,wpAny_pure h⟩)) htake))
  |exact wpAny_bind (wpAny_bind (m:=Builtin.Tuple.tupleExact _) (wpAny_newObj_type (wpAny_pure ⟨_,rfl,wpAny_pure h⟩) htake))
end
end HT
namespace L2
open PySem PySem.Spec PyProof.Rows
abbrev TO:=St->Hp->(Option Int->Hp->Prop)->Prop
def PO(X:Cx)(e:Option Expr)(t:TO):Prop :=
 ∀(pins:List (Addr×Obj))(s:Shared)(σ:St)(H:Hp)(Q:Option Int->Hp->Prop),Inv X pins σ H s->t σ H Q->
  wpAny (model X.prog X.w) X.A (evalPart e X.env) (fun u s'=>∃ o H',Inv X pins σ H' s'/\IsPart u o/\Q o H') X.xe s
def wg:TO:=fun _ H Q=>Q none H
def tPart(t:TE):TO:=fun σ H Q=>t σ H fun x H1=>∃ i,x= .int i/\Q (some i) H1
theorem intsAre_of{ns:List Int}:∀{us:List Value},Vals (ns.map V.int) us->IntsAre us ns:=by
 induction ns with
 |nil=>intro us r;rw[List.map_nil]at r;cases r;exact .nil
 |cons n ns ih =>
  intro us r;rw[map_cons]at r;cases r with
  |cons r1 r2 =>
   obtain⟨t,e⟩:=r1;subst e;exact .cons n t (ih r2)
section
variable{X:Cx}{e:Expr}{te:TE}{lo hi:Option Expr}{tl th:TO}{pos p2:Pos}
theorem po_none:PO X none wg:=by
 intro pins s σ H Q I h;rw[evalPart_none];exact wpAny_pure ⟨none,H,I,.none,h⟩
theorem po_some(h:PE X e te):PO X (some e) (tPart te):=by
 intro pins s σ H Q I hw;rw[evalPart_some];refine thn (h pins s σ H _ I hw) fun u s1 ⟨x,H1,I1,r1,q1⟩=>?_;obtain⟨i,rfl,q⟩:=q1;obtain⟨t,rfl⟩:=r1;exact⟨some i,H1,I1,.int i t,q⟩
def SlR(X:Cx)(r:V->Option Int->Option Int->Hp->VK->Prop):Prop :=
 ∀(pins:List (Addr×Obj))(s:Shared)(σ:St)(H:Hp)(x:V)(v vl vu:Value)(lo hi:Option Int)(sl:Addr)(Q:VK),Inv X pins σ H s->RelV x v->s.heap.IsSliceOf sl vl vu .none->IsPart vl lo->IsPart vu hi->r x lo hi H Q->
  ∃T id,typeLookup (.type T) "__getitem__"=pure (some (.builtin id))/\s.TypeIs v T/\wpAny (model X.prog X.w) X.A (getItem v (.ref sl)) (EP X pins σ Q) X.xe s
theorem SlR.or{r r':V->Option Int->Option Int->Hp->VK->Prop}(h:SlR X r)(h':SlR X r'):SlR X (fun x lo hi H Q=>r x lo hi H Q\/r' x lo hi H Q):=by
 intro pins s σ H x v vl vu lo hi sl Q I rx hs pl pu q;rcases q with q|q
 ·exact h pins s σ H x v vl vu lo hi sl Q I rx hs pl pu q
 ·exact h' pins s σ H x v vl vu lo hi sl Q I rx hs pl pu q
def tSl(r:V->Option Int->Option Int->Hp->VK->Prop)(te:TE)(tl th:TO):TE:=fun σ H Q=>te σ H fun x H1=>tl σ H1 fun l H2=>th σ H2 fun u H3=>r x l u H3 Q
theorem jt{r:V->Option Int->Option Int->Hp->VK->Prop}(hr:SlR X r)(he:PE X e te)(hl:PO X lo tl)(hu:PO X hi th):PE X (.Subscript e (.Slice lo hi none p2) pos) (tSl r te tl th):=by
 intro pins s σ H Q I h;refine Subscript_ (thn (he pins s σ H _ I h) fun v s1 ⟨x,H1,I1,r1,q1⟩=>?_);refine wpAny_Slice (thn (hl pins s1 σ H1 _ I1 q1) fun vl s2 ⟨l,H2,I2,pl,q2⟩=>thn (hu pins s2 σ H2 _ I2 q2) fun vu s3 ⟨u,H3,I3,pu,q3⟩=>?_);rw[evalPart_none];refine wpAny_pure ?_;have I4:Inv X pins σ H3 {s3 with heap:=s3.heap.push {cls:=.type "slice",data:=.fields #[vl,vu,.none]}}:=I3.kept (t':=s3.toks) fun b ob q=>Heap.get?_push_of_some _ q;obtain⟨T,id,hT,ht,hg⟩:=hr pins {s3 with heap:=s3.heap.push {cls:=.type "slice",data:=.fields #[vl,vu,.none]}} σ H3 x v vl vu l u s3.heap.objs.size Q I4 r1 (Heap.IsSliceOf.new ..) pl pu q3;show wpAny (model X.prog X.w) X.A (subscriptTail e (.Slice lo hi none p2) v (.ref s3.heap.objs.size)) (EP X pins σ Q) X.xe {s3 with heap:=s3.heap.push {cls:=.type "slice",data:=.fields #[vl,vu,.none]}};exact tail_any (ops:=[.ref s3.heap.objs.size,v]) ht hT hg (by with_unfolding_all rfl)
def cutV(xs:List V)(lo hi:Option Int):List V:=(xs.drop (HT.sIx xs.length 0 lo)).take (HT.sIx xs.length xs.length hi-HT.sIx xs.length 0 lo)
theorem cutV_length(xs:List V)(lo hi:Option Int):(cutV xs lo hi).length<=xs.length:=by
 unfold cutV;rw[length_take,length_drop];omega
def rSlT(K:W.Frag):V->Option Int->Option Int->Hp->VK->Prop:=fun x lo hi H Q=>∃ a xs,x= .ref a/\SqT K H a xs/\
 ¬(HT.sIx xs.length 0 lo=0/\HT.sIx xs.length xs.length hi=xs.length)/\ ∀p,H p=none->Q (.ref p) (upd H p (.tup (cutV xs lo hi)))
theorem sl_tup:SlR X (rSlT X.K):=by
 intro pins s σ H x v vl vu lo hi sl Q I rx hs pl pu h;obtain⟨a,xs,rfl,hx,hw,q⟩:=h;cases rx;obtain⟨its,r,ht,hz⟩:=I.tuple hx;have hlen:its.toArray.size=xs.length:=by rw[size_toArray];exact r.length.symm
 refine⟨"tuple",_,PyProof.Rows.slot_tuple_getitem.lookup,ht.typeIs,?_⟩;refine HT.getItem_tuple_cut ht hs pl pu (by rw[hlen];exact hw) ?_ (by rw[hlen];exact hz);rw[hlen];refine⟨.ref s.heap.objs.size,_,I.laid (t':=s.toks) (o:=.tup (cutV xs lo hi)) (fun b ob q=>Heap.get?_push_of_some _ q) (le_refl _) ?_,rfl,q _ (I.hok.fresh (le_refl _))⟩;exact⟨le_trans (cutV_length xs lo hi) hz,_,(r.drop (HT.sIx xs.length 0 lo)).take (HT.sIx xs.length xs.length hi-HT.sIx xs.length 0 lo),IsTup.new _ _,tup_nodict⟩
def rCatT(K:W.Frag):R2:=fun x y H Q=>∃ a b xs ys,x= .ref a/\y= .ref b/\SqT K H a xs/\SqT K H b ys/\xs≠[]/\xs.length+ys.length<=sizeLine/\
 (ys=[]->Q (.ref a) H)/\(ys≠[]-> ∀p,H p=none->Q (.ref p) (upd H p (.tup (xs++ys))))
theorem Vals.nil_iff{xs:List V}{us:List Value}(r:Vals xs us):us=[]↔xs=[]:=by
 cases r with
 |nil=>simp
 |cons _ _=>simp
theorem op_catT:OpR X (binaryOp .Add) (rCatT X.K):=by
 intro pins s σ H x y v u Q I rx ry h;obtain⟨a,b,xs,ys,rfl,rfl,ha,hb,hx,hz,q1,q2⟩:=h;cases rx;cases ry;obtain⟨its,r1,p1,_⟩:=I.tuple ha;obtain⟨its2,r2,p2,_⟩:=I.tuple hb;refine HT.cat_tup p1 p2 (fun z=>hx (r1.nil_iff.mp z)) (fun z=>⟨.ref a,H,I,rfl,q1 (r2.nil_iff.mp z)⟩) (fun z=>?_) (by rw[<-r1.length,<-r2.length];exact hz);refine⟨.ref s.heap.objs.size,_,I.laid (t':=s.toks) (o:=.tup (xs++ys)) (fun b ob q=>Heap.get?_push_of_some _ q) (le_refl _) ?_,rfl,q2 (fun w=>z (r2.nil_iff.mpr w)) _ (I.hok.fresh (le_refl _))⟩;exact⟨by rw[length_append];exact hz,_,r1.append r2,IsTup.new _ _,tup_nodict⟩
end
def ixN(n:Nat)(i:Int):Option Nat:=if 0<=i then(if i<n then some i.toNat else none)else if -(n:Int)<=i then some (i+n).toNat else none
def atI{α:Type}(xs:List α)(i:Int):Option α:=(ixN xs.length i).bind fun j=>xs[j]?
theorem ixN_seq{n:Nat}{i:Int}{j:Nat}(h:ixN n i=some j):seqIndex? i n=some j/\j<n/\ -(n:Int)<=i/\i<n:=by
 unfold ixN at h;by_cases h0:0<=i
 ·rw[if_pos h0]at h;by_cases h1:i<n
  ·rw[if_pos h1]at h;have e:i.toNat=j:=Option.some.inj h;exact⟨by rw[seqIndex_of h0 h1,e],by omega,by omega,h1⟩
  ·rw[if_neg h1]at h;cases h
 ·rw[if_neg h0]at h;by_cases h1:-(n:Int)<=i
  ·rw[if_pos h1]at h;have e:(i+n).toNat=j:=Option.some.inj h;exact⟨by rw[seqIndex_neg (by omega) h1,e],by omega,h1,by omega⟩
  ·rw[if_neg h1]at h;cases h
theorem atI_get{α:Type}{xs:List α}{i:Int}{v:α}(h:atI xs i=some v):∃j,seqIndex? i xs.length=some j/\xs[j]? =some v/\j<xs.length/\ -(xs.length:Int)<=i/\i<xs.length:=by
 unfold atI at h;cases e:ixN xs.length i with
 |none=>rw[e]at h;cases h
 |some j =>
  rw[e]at h;obtain⟨h1,h2,h3,h4⟩:=ixN_seq e;exact⟨j,h1,h,h2,h3,h4⟩
theorem zu{α:Type}{xs:List α}{j:Nat}{v:α}(h:xs[j]? =some v):atI xs (j:Int)=some v:=by
 have hj:j<xs.length:=(List.getElem?_eq_some_iff.mp h).1;have e:ixN xs.length (j:Int)=some j:=by
  unfold ixN;rw[if_pos (by omega),if_pos (by omega)];simp
 unfold atI;rw[e];exact h
theorem atI_last{α:Type}(xs:List α)(v:α):atI (xs++[v]) (-1)=some v:=by
 have hl:(xs++[v]).length=xs.length+1:=by simp
 have e:ixN (xs++[v]).length (-1)=some xs.length:=by
  unfold ixN;rw[hl,if_neg (by decide),if_pos (by omega)];congr 1;omega
 unfold atI;rw[e];show(xs++[v])[xs.length]? =some v;simp
def PlainIx(b:Expr):Prop:=∀ o i,subscripted b false o i=operate [o,i] (getItem o i)
def IxR(X:Cx)(r:R2):Prop :=
 ∀(value slice:Expr)(pins:List (Addr×Obj))(s:Shared)(σ:St)(H:Hp)(x y:V)(v u:Value)(Q:VK),Inv X pins σ H s->RelV x v->RelV y u->r x y H Q->
  subscripted slice false v u=operate [v,u] (getItem v u)->wpAny (model X.prog X.w) X.A (subscriptTail value slice v u) (EP X pins σ Q) X.xe s
def MtR(X:Cx)(id:String)(r:V->List V->Hp->VK->Prop):Prop :=
 ∀(pins:List (Addr×Obj))(s:Shared)(σ:St)(H:Hp)(x:V)(xs:List V)(v:Value)(us:List Value)(Q:VK),Inv X pins σ H s->RelV x v->Vals xs us->r x xs H Q->
  wpAny (model X.prog X.w) X.A (call (.builtin id) (v::us)) (EP X pins σ Q) X.xe s
section
variable{X:Cx}{a b:Expr}{ta tb:TE}{pos:Pos}
theorem pe_ix{r:R2}(hr:IxR X r)(ha:PE X a ta)(hb:PE X b tb)(hs:PlainIx b):PE X (.Subscript a b pos) (tOp r ta tb):=by
 intro pins s σ H Q I h;exact Subscript_ (binT ha hb I h fun v u s2 x y H2 I2 rx ry q=>hr a b pins s2 σ H2 x y v u Q I2 rx ry q (hs _ _))
def rIxL(K:W.Frag):R2:=fun x y H Q=>∃ p xs i v,x= .ref p/\y= .int i/\SqL K H p xs/\atI xs i=some v/\Q v H
def rIxT(K:W.Frag):R2:=fun x y H Q=>∃ p xs i v,x= .ref p/\y= .int i/\SqT K H p xs/\atI xs i=some v/\Q v H
def rIxS:R2:=fun x y H Q=>∃ z i c,x= .str z/\y= .int i/\z.length<=sizeLine/\atI z.cps.toList i=some c/\Q (.str ⟨#[c]⟩) H
theorem zA:IxR X (rIxL X.K):=by
 intro value slice pins s σ H x y v u Q I rx ry h hs;obtain⟨p,xs,i,z,rfl,rfl,hq,he,q⟩:=h;cases rx;obtain⟨t,rfl⟩:=ry;obtain⟨its,r,pl,hz⟩:=I.list hq;obtain⟨j,h1,h2,h3,h4,h5⟩:=atI_get he;obtain⟨w,ew,rw'⟩:=r.get h2;have hl:=r.length;have hn:=line63;have fin:EP X pins σ Q w s:=⟨z,H,I,rw',q⟩;by_cases h0:0<=i
 ·have hj:i.toNat=j:=by
   rw[seqIndex_of h0 h5]at h1;exact Option.some.inj h1
  exact item_listR pl.isList h0 (by omega) (by rw[hj];simpa using ew) fin hs
 ·have hj:(i+(its.toArray.size:Int)).toNat=j:=by
   rw[seqIndex_neg (by omega) h4]at h1;rw[size_toArray,<-hl];exact Option.some.inj h1
  exact subscriptTail_builtinR (x:=w) pl.isList.typeIs slot_list_getitem.lookup
   (wpAny_getItem_list_neg (Q:=fun r s'=>r=w/\EP X pins σ Q r s') pl.isList (by omega) (by rw[size_toArray] <;>omega) (by omega) (by rw[hj];simpa using ew) ⟨rfl,fin⟩) hs
theorem zR:IxR X (rIxT X.K):=by
 intro value slice pins s σ H x y v u Q I rx ry h hs;obtain⟨p,xs,i,z,rfl,rfl,hq,he,q⟩:=h;cases rx;obtain⟨t,rfl⟩:=ry;obtain⟨its,r,pl,hz⟩:=I.tuple hq;obtain⟨j,h1,h2,h3,h4,h5⟩:=atI_get he;obtain⟨w,ew,rw'⟩:=r.get h2;have hl:=r.length;have hn:=line63;have fin:EP X pins σ Q w s:=⟨z,H,I,rw',q⟩;exact subscriptTail_builtinR (x:=w) pl.typeIs slot_tuple_getitem.lookup
  (getItem_tuple (j:=j) (Q:=fun r s'=>r=w/\EP X pins σ Q r s') pl (by omega) (by omega) (by rw[size_toArray,<-hl];exact h1) (by simpa using ew) ⟨rfl,fin⟩) hs
theorem ix_str:IxR X rIxS:=by
 intro value slice pins s σ H x y v u Q I rx ry h hs;obtain⟨z,i,c,rfl,rfl,hz,he,q⟩:=h;obtain⟨t,rfl⟩:=rx;obtain⟨t',rfl⟩:=ry;obtain⟨j,h1,h2,h3,h4,h5⟩:=atI_get he;have hl:z.cps.toList.length=z.length:=by simp[Str.length]
 rw[hl]at h1 h4 h5;have hn:=line63;exact tail_any (typeIs_str s z t) slot_str_getitem.lookup (getItem_str (c:=c) (by
  have e1:decide (i< -(2^63:Int))=false:=decide_eq_false (by omega);have e2:decide (i>=2^63)=false:=decide_eq_false (by omega);rw[e1,e2,Bool.or_false]) (by rw[h1];simpa using h2) ⟨.str ⟨#[c]⟩,H,I.tok _,⟨_,rfl⟩,q⟩) hs
theorem mapSeq_set(its:List Value)(n j:Nat)(u:Value):Obj.mapSeq (·.setIfInBounds j u) {cls:=.type "list",data:=.seq its.toArray n}={cls:=.type "list",data:=.seq (its.set j u).toArray n}:=by
 simp[Obj.mapSeq]
theorem Inv.lst{pins:List (Addr×Obj)}{σ:St}{H:Hp}{s:Shared}{p:Addr}{xs:List V}(I:Inv X pins σ H s)(h:H p=some (.lst xs)) :
  ∃(its:List Value)(n:Nat),Vals xs its/\s.heap.get? p=some {cls:=.type "list",data:=.seq its.toArray n}/\xs.length<=sizeLine:=by
 obtain⟨z,its,n,r,e⟩:=I.hok p _ h;exact⟨its,n,r,e,z⟩
theorem Inv.lstUpd{pins:List (Addr×Obj)}{σ:St}{H:Hp}{s:Shared}{p:Addr}{xs ys:List V}{its its':List Value}{n n':Nat}{f:Obj->Obj}(I:Inv X pins σ H s)(h:H p=some (.lst xs))(ho:s.heap.get? p=some {cls:=.type "list",data:=.seq its.toArray n})(hf:f {cls:=.type "list",data:=.seq its.toArray n}={cls:=.type "list",data:=.seq its'.toArray n'})(r:Vals ys its')(hz:ys.length<=sizeLine)(t:Nat) :
  Inv X pins σ (upd H p (.lst ys)) {s with heap:=s.heap.update p f,toks:=t}:=by
 have e:(s.heap.update p f).get? p=some {cls:=.type "list",data:=.seq its'.toArray n'}:=by
  rw[Heap.get?_update_self f ho (by rw[hf] <;>rfl),hf]
 refine I.write (x:=p) (e:=p) (by rw[h];trivial) (.inl rfl) (fun b u hb q=>(Heap.get?_update_other _ _ (Ne.symm hb)).trans q) ⟨_,e⟩ ?_;exact⟨hz,its',n',r,e⟩
def rSetL:V->V->V->Hp->(Hp->Prop)->Prop:=fun o i v H Q=>∃ p xs k j,o= .ref p/\i= .int k/\H p=some (.lst xs)/\ixN xs.length k=some j/\Q (upd H p (.lst (xs.set j v)))
theorem set_list:PSet X rSetL:=by
 intro pins s σ H o i v ov iv u Q I ro ri rv h;obtain⟨p,xs,k,j,rfl,rfl,hp,hj,q⟩:=h;cases ro;obtain⟨t,rfl⟩:=ri;obtain⟨its,n,r,ho,hz⟩:=I.lst hp;obtain⟨h1,h2,h3,h4⟩:=ixN_seq hj;have hl:=r.length;have hn:=line63;have I':Inv X pins σ (upd H p (.lst (xs.set j v))) {s with heap:=s.heap.update p (Obj.mapSeq (·.setIfInBounds j u))} :=
  I.lstUpd hp ho (mapSeq_set its n j u) (r.set rv j) (by rw[List.length_set];exact hz) s.toks
 by_cases h0:0<=k
 ·have hk:k.toNat=j:=by
   rw[seqIndex_of h0 h4]at h1;exact Option.some.inj h1
  exact W.ki_setAt ho h0 (by omega) (by rw[size_toArray,<-hl];exact h4) (by rw[hk];exact⟨_,I',q⟩)
 ·have hk:(k+(its.toArray.size:Int)).toNat=j:=by
   rw[seqIndex_neg (by omega) h3]at h1;rw[size_toArray,<-hl];exact Option.some.inj h1
  exact W.ki_setBack ho (by omega) (by rw[size_toArray,<-hl];exact h3) (by omega) (by rw[hk];exact⟨_,I',q⟩)
theorem clipN(n:Nat)(i:Int):max 0 (min (if i<0 then i+n else i) n)=((if i<0 then(i+n).toNat else min i.toNat n:Nat):Int):=by
 split
 ·next h=>rw[Int.min_eq_left (Int.add_le_of_le_sub_right (by rw[Int.sub_self];exact le_of_lt h)),Int.ofNat_toNat,Int.max_comm]
 ·next h =>
  obtain⟨k,rfl⟩:=Int.eq_ofNat_of_zero_le (Int.not_lt.mp h);rw[toNat_natCast,Int.min_def,Nat.min_def];simp only[Int.ofNat_le];split <;>exact Int.max_eq_right (Int.natCast_nonneg _)
theorem slice_bounds(lo hi:Option Int)(n:Nat):(sliceBounds lo hi none n).1=((HT.sIx n 0 lo:Nat):Int)/\(sliceBounds lo hi none n).2.1=((HT.sIx n n hi:Nat):Int)/\(sliceBounds lo hi none n).2.2=1 :=
 ⟨by cases lo with|none=>rfl|some i=>exact clipN n i,by cases hi with|none=>rfl|some i=>exact clipN n i,rfl⟩
theorem slicePick_cut(its:List Value)(lo hi:Option Int):slicePick its.toArray lo hi none=((its.drop (HT.sIx its.length 0 lo)).take (HT.sIx its.length its.length hi-HT.sIx its.length 0 lo)).toArray:=by
 obtain⟨h1,h2,h3⟩:=slice_bounds lo hi its.toArray.size;unfold slicePick;rw[h1,h2,h3];simp only[sliceRange_one,pick_run,size_toArray] <;>rfl
def rSlL(K:W.Frag):V->Option Int->Option Int->Hp->VK->Prop:=fun x lo hi H Q=>∃ a xs,x= .ref a/\SqL K H a xs/\ ∀p,H p=none->Q (.ref p) (upd H p (.lst (cutV xs lo hi)))
theorem sl_list:SlR X (rSlL X.K):=by
 intro pins s σ H x v vl vu lo hi sl Q I rx hs pl pu h;obtain⟨a,xs,rfl,hx,q⟩:=h;cases rx;obtain⟨its,r,ht,hz⟩:=I.list hx;have hlen:=r.length;refine⟨"list",_,slot_list_getitem.lookup,ht.isList.typeIs,?_⟩;refine wpAny_getItem_list_slice ht.isList hs pl pu .none (by simp) ?_ (by rw[size_toArray] <;>omega);rw[slicePick_cut,<-hlen];refine⟨.ref s.heap.objs.size,_,I.laid (t':=s.toks) (o:=.lst (cutV xs lo hi)) (fun b ob q=>Heap.get?_push_of_some _ q) (le_refl _) ?_,rfl,q _ (I.hok.fresh (le_refl _))⟩;exact⟨le_trans (cutV_length xs lo hi) hz,_,0,(r.drop (HT.sIx xs.length 0 lo)).take (HT.sIx xs.length xs.length hi-HT.sIx xs.length 0 lo),Heap.get?_push_size _ rfl⟩
def flatV:V->Bool
 | .non=>true
 | .bl _=>true
 | .int _=>true
 | .str _=>true
 | _=>false
def eqV:V->V->Bool
 | .non,.non=>true
 | .bl a,.bl b=>a==b
 | .bl a,.int b=>(if a then 1 else 0)==b
 | .int a,.bl b=>a==(if b then 1 else 0)
 | .int a,.int b=>a==b
 | .str a,.str b=>a==b
 | _,_=>false
theorem eqAt_V{A:Around}{s:Shared}{y x:V}{u v:Value}(ry:RelV y u)(rx:RelV x v)(fy:flatV y=true)(fx:flatV x=true):SeqAt.EqAt A s u v (eqV y x):=by
 cases y with
 |non =>
  cases ry;cases x with
  |non=>cases rx;exact SeqAt.EqAt.same _
  |bl b=>cases rx;exact SeqAt.EqAt.none_bool b
  |int b=>obtain⟨t,rfl⟩:=rx;exact SeqAt.EqAt.none_int b t
  |str b=>obtain⟨t,rfl⟩:=rx;exact SeqAt.EqAt.none_str b t
  | _=>exact absurd (show false=true from fx) Bool.false_ne_true
 |bl a =>
  cases ry;cases x with
  |non=>cases rx;exact SeqAt.EqAt.bool_none a
  |bl b=>cases rx;exact SeqAt.EqAt.bool_bool a b
  |int b=>obtain⟨t,rfl⟩:=rx;exact SeqAt.EqAt.bool_int a b t
  |str b=>obtain⟨t,rfl⟩:=rx;exact SeqAt.EqAt.bool_str a b t
  | _=>exact absurd (show false=true from fx) Bool.false_ne_true
 |int a =>
  obtain⟨t',rfl⟩:=ry;cases x with
  |non=>cases rx;exact SeqAt.EqAt.int_none a t'
  |bl b=>cases rx;exact SeqAt.EqAt.int_bool a t' b
  |int b=>obtain⟨t,rfl⟩:=rx;exact SeqAt.EqAt.int_int a t' b t
  |str b=>obtain⟨t,rfl⟩:=rx;exact SeqAt.EqAt.int_str a t' b t
  | _=>exact absurd (show false=true from fx) Bool.false_ne_true
 |str a =>
  obtain⟨t',rfl⟩:=ry;cases x with
  |non=>cases rx;exact SeqAt.EqAt.str_none a t'
  |bl b=>cases rx;exact SeqAt.EqAt.str_bool a t' b
  |int b=>obtain⟨t,rfl⟩:=rx;exact SeqAt.EqAt.str_int a t' b t
  |str b=>obtain⟨t,rfl⟩:=rx;exact SeqAt.EqAt.str_str a t' b t
  | _=>exact absurd (show false=true from fx) Bool.false_ne_true
 | _=>exact absurd (show false=true from fy) Bool.false_ne_true
def eqU(x:V)(u:Value):Bool:=match u with
 | .none=>eqV .non x
 | .bool b=>eqV (.bl b) x
 | .int i _=>eqV (.int i) x
 | .str z _=>eqV (.str z) x
 | _=>false
theorem eqU_of{x y:V}{u:Value}(r:RelV y u)(f:flatV y=true):eqU x u=eqV y x:=by
 cases y with
 |non=>cases r;rfl
 |bl b=>cases r;rfl
 |int i=>obtain⟨t,rfl⟩:=r;rfl
 |str z=>obtain⟨t,rfl⟩:=r;rfl
 | _=>exact absurd (show false=true from f) Bool.false_ne_true
theorem any_eqU{x:V}:∀{xs:List V}{us:List Value},Vals xs us->xs.all flatV=true->us.any (eqU x)=xs.any fun y=>eqV y x
 | _,_,.nil,_=>rfl
 |y::xs,u::us,.cons r t,f=>by
  rw[List.all_cons,and_eq_true]at f;rw[any_cons,any_cons,eqU_of r f.1,any_eqU t f.2]
theorem mem_eqAt{A:Around}{s:Shared}{x:V}{v:Value}(rx:RelV x v)(fx:flatV x=true):∀{xs:List V}{us:List Value},Vals xs us->xs.all flatV=true-> ∀u∈us,SeqAt.EqAt A s u v (eqU x u)
 | _,_,.nil,_=>fun u hu=>by cases hu
 |y::xs,u::us,.cons r t,f=>fun u' hu=>by
  rw[List.all_cons,and_eq_true]at f;rcases mem_cons.mp hu with rfl|hu
  ·rw[eqU_of r f.1];exact eqAt_V r rx f.1 fx
  ·exact mem_eqAt rx fx t f.2 u' hu
def inV(x:V)(xs:List V):Bool:=xs.any fun y=>eqV y x
def rIn(K:W.Frag)(neg:Bool):R2:=fun x y H Q=>∃ p xs,y= .ref p/\(SqL K H p xs\/SqT K H p xs)/\flatV x=true/\xs.all flatV=true/\Q (.bl (if neg then !inV x xs else inV x xs)) H
theorem op_in_seq:OpR X (compareOp .In) (rIn X.K false):=by
 intro pins s σ H x y v u Q I rx ry h;obtain⟨p,xs,rfl,hq,fx,fs,q⟩:=h;cases ry;rcases hq with hq|hq
 ·obtain⟨its,r,pl,hz⟩:=I.list hq;refine SeqAt.in_listAt (eqU x) pl.isList (fun w hw=>mem_eqAt rx fx r fs w (by simpa using hw)) ⟨.bl _,H,I,rfl,?_⟩;rw[show its.toArray.any (eqU x)=its.any (eqU x)by simp,any_eqU r fs];exact q
 ·obtain⟨its,r,pl,hz⟩:=I.tuple hq;refine SeqAt.in_tupleAt (eqU x) pl (fun w hw=>mem_eqAt rx fx r fs w (by simpa using hw)) ⟨.bl _,H,I,rfl,?_⟩;rw[show its.toArray.any (eqU x)=its.any (eqU x)by simp,any_eqU r fs];exact q
theorem kI:OpR X (compareOp .NotIn) (rIn X.K true):=by
 intro pins s σ H x y v u Q I rx ry h;obtain⟨p,xs,rfl,hq,fx,fs,q⟩:=h;cases ry;rcases hq with hq|hq
 ·obtain⟨its,r,pl,hz⟩:=I.list hq;refine SeqAt.notIn_listAt (eqU x) pl.isList (fun w hw=>mem_eqAt rx fx r fs w (by simpa using hw)) ⟨.bl _,H,I,rfl,?_⟩;rw[show its.toArray.any (eqU x)=its.any (eqU x)by simp,any_eqU r fs];exact q
 ·obtain⟨its,r,pl,hz⟩:=I.tuple hq;refine SeqAt.notIn_tupleAt (eqU x) pl (fun w hw=>mem_eqAt rx fx r fs w (by simpa using hw)) ⟨.bl _,H,I,rfl,?_⟩;rw[show its.toArray.any (eqU x)=its.any (eqU x)by simp,any_eqU r fs];exact q
theorem zp:jH X (.builtin "len") (fun xs H Q=>∃ p ys,xs=[.ref p]/\(SqL X.K H p ys\/SqT X.K H p ys)/\Q (.int ys.length) H):=by
 intro pins s σ H xs us Q I r h;obtain⟨p,ys,rfl,hq,q⟩:=h;obtain⟨u,rfl,rx⟩:=vals1 r;cases rx;have hn:=line63;rcases hq with hq|hq
 ·obtain⟨its,r',pl,hz⟩:=I.list hq;have hlen:=r'.length;exact Calls.call_len_list pl.isList (by simp only[size_toArray] <;>omega) ⟨.int ys.length,H,I.tok _,⟨s.toks+1,by rw[size_toArray,hlen]⟩,q⟩
 ·obtain⟨its,r',pl,hz⟩:=I.tuple hq;have hlen:=r'.length;exact len_tuple pl (by simp only[size_toArray] <;>omega) ⟨.int ys.length,H,I.tok _,⟨s.toks+1,by rw[size_toArray,hlen]⟩,q⟩
theorem yd:jH X (.builtin "len") (fun xs H Q=>∃ z,xs=[.str z]/\z.length<=sizeLine/\Q (.int z.length) H):=by
 intro pins s σ H xs us Q I r h;obtain⟨z,rfl,hz,q⟩:=h;obtain⟨u,rfl,t,rfl⟩:=vals1 r;have hn:=line63;exact len_str (by omega) ⟨.int z.length,H,I.tok _,⟨_,rfl⟩,q⟩
theorem call_list_of:jH X (.type "list") (fun xs H Q=>∃ p ys,xs=[.ref p]/\(SqL X.K H p ys\/SqT X.K H p ys)/\ ∀l,H l=none->Q (.ref l) (upd H l (.lst ys))):=by
 intro pins s σ H xs us Q I r h;obtain⟨p,ys,rfl,hq,q⟩:=h;obtain⟨u,rfl,rx⟩:=vals1 r;cases rx;have fin:∀(its:List Value),Vals ys its->ys.length<=sizeLine-> ∀(h':Heap)(c':Nat),(∀b o',s.heap.get? b=some o'->h'.get? b=some o')->
   h'.get? s.heap.objs.size=some {cls:=.type "list",dict:=none,data:=.seq its.toArray c',slots:=#[]}->EP X pins σ Q (.ref s.heap.objs.size) {s with heap:=h'}:=fun its r' hz h' c' kp e =>
  ⟨.ref s.heap.objs.size,_,I.laid (t':=s.toks) kp (le_refl _) (show yh X.prog X.w _ h' _ (.lst ys)from⟨hz,its,c',r',e⟩),rfl,q _ (I.hok.fresh (le_refl _))⟩
 rcases hq with hq|hq
 ·obtain⟨its,r',pl,hz⟩:=I.list hq;have hlen:=r'.length;obtain⟨o,ho,hc,n,hd⟩:=pl.isList;exact call_list_seq p (.inl rfl) ho hc hd (fun h' c' kp e=>fin its r' hz h' c' kp e) (by simp only[size_toArray] <;>omega)
 ·obtain⟨its,r',pl,hz⟩:=I.tuple hq;have hlen:=r'.length;obtain⟨o,ho,hc,n,hd⟩:=pl;exact call_list_seq p (.inr rfl) ho hc hd (fun h' c' kp e=>fin its r' hz h' c' kp e) (by simp only[size_toArray] <;>omega)
theorem zZ:jH X (.type "tuple") (fun xs H Q=>∃ p ys,xs=[.ref p]/\((SqL X.K H p ys/\ ∀l,H l=none->Q (.ref l) (upd H l (.tup ys)))\/(SqT X.K H p ys/\Q (.ref p) H))):=by
 intro pins s σ H xs us Q I r h;obtain⟨p,ys,rfl,h⟩:=h;obtain⟨u,rfl,rx⟩:=vals1 r;cases rx;rcases h with⟨hq,q⟩|⟨hq,q⟩
 ·obtain⟨its,r',pl,hz⟩:=I.list hq;have hlen:=r'.length;refine call_tuple_list pl.isList (fun h' kp=>?_) (by simp only[size_toArray] <;>omega);have I1:Inv X pins σ H {s with heap:=h'}:=I.kept (t':=s.toks) kp;have I2:Inv X pins σ (upd H h'.objs.size (.tup ys)) {s with heap:=h'.push {cls:=.type "tuple",data:=.seq its.toArray}} :=
   I1.laid (t':=s.toks) (fun b o e=>Heap.get?_push_of_some _ e) (le_refl _) (show yh X.prog X.w _ _ _ (.tup ys)from⟨hz,its,r',IsTup.new _ _,tup_nodict⟩)
  exact⟨.ref h'.objs.size,_,I2,rfl,q _ (I1.hok.fresh (le_refl _))⟩
 ·obtain⟨its,r',pl,hz⟩:=I.tuple hq;exact call_tuple_same pl ⟨.ref p,H,I,rfl,q⟩
def tyV(K:W.Frag)(T:String)(x:V)(H:Hp):Prop:=match x with
 | .str _=>T="str"
 | .int _=>T="int"
 | .ref p=>(T="list"/\ ∃xs,SqL K H p xs)\/(T="tuple"/\((∃o,K.lookup p=some o/\o.cls= .type "tuple"/\o.dict=none)\/ ∃xs,H p=some (.tup xs)))\/
   (T="dict"/\((∃kvs,H p=some (.dK kvs))\/ ∃kvs,H p=some (.dT kvs)))\/(T="set"/\ ∃S n,H p=some (.set S n))
 | _=>False
theorem tyV_is{pins:List (Addr×Obj)}{σ:St}{H:Hp}{s:Shared}{T:String}{x:V}{v:Value}(I:Inv X pins σ H s)(r:RelV x v)(ty:tyV X.K T x H) :
  s.TypeIs v T/\ ∀a,v= .ref a-> ∃ob,s.heap.get? a=some ob/\ob.dict=none:=by
 cases x with
 |str z =>
  obtain⟨t,rfl⟩:=r;cases(show T="str" from ty);exact⟨typeIs_str s z t,fun _ e=>nomatch e⟩
 |int i =>
  obtain⟨t,rfl⟩:=r;cases(show T="int" from ty);exact⟨typeIs_int s i t,fun _ e=>nomatch e⟩
 |ref p =>
  cases r;rcases ty with⟨rfl,xs,hq⟩|⟨rfl,⟨o,hk,hc,hd⟩|⟨xs,hk⟩⟩|⟨rfl,hk⟩|⟨rfl,S,n,hk⟩
  ·obtain⟨its,_,pl,_⟩:=I.list hq;refine⟨pl.isList.typeIs,fun a e=>?_⟩;cases e;obtain⟨o,n,e,c,hd,_⟩:=pl;exact⟨o,e,hd⟩
  ·refine⟨⟨o,I.kIn p o hk,hc⟩,fun a e=>?_⟩;cases e;exact⟨o,I.kIn _ o hk,hd⟩
  ·obtain⟨_,_,_,⟨o,e,hc,_⟩,nd⟩:=(show yh X.prog X.w H s.heap p (.tup xs)from I.hok p _ hk);refine⟨⟨o,e,hc⟩,fun a e2=>?_⟩;cases e2;exact⟨o,e,nd o e⟩
  ·have z:∃o,s.heap.get? p=some o/\o.ExactDict:=by
    rcases hk with⟨kvs,hk⟩|⟨kvs,hk⟩
    ·obtain⟨_,_,_,_,o,_,_,e,ex,_⟩:=I.hok p _ hk;exact⟨o,e,ex⟩
    ·obtain⟨_,_,_,_,o,_,_,e,ex,_⟩:=I.hok p _ hk;exact⟨o,e,ex⟩
   obtain⟨o,e,ex⟩:=z;refine⟨⟨o,e,ex.1⟩,fun a e2=>?_⟩;cases e2;exact⟨o,e,ex.2.1⟩
  ·obtain⟨o,_,_,_,e,ex,_⟩:=I.hok p _ hk;refine⟨⟨o,e,ex.1⟩,fun a e2=>?_⟩;cases e2;exact⟨o,e,ex.2.1⟩
 | _=>exact False.elim ty
def tBM0(K:W.Frag)(T:String)(r:V->List V->Hp->VK->Prop)(to:TE):TE:=fun σ H Q=>to σ H fun x H1=>tyV K T x H1/\r x [] H1 Q
def tBM(K:W.Frag)(T:String)(r:V->List V->Hp->VK->Prop)(to:TE)(t:TA):TE:=fun σ H Q=>to σ H fun x H1=>tyV K T x H1/\t σ H1 fun xs H2=>r x xs H2 Q
variable{o e:Expr}{es:List Expr}{to:TE}{t:TA}{name:Str}{apos cpos:Pos}{T id:String}{r:V->List V->Hp->VK->Prop}
theorem pe_bm0(pa:PlainAttrs T)(slot:Slot T name id)(hty:typeOf (.builtin id)=pure (.type "method_descriptor"))(hm:MtR X id r)(ho:PE X o to)(hbase:attributeBase o name X.env (eval o X.env)=eval o X.env:=by rfl)(hline:(apos.endLine==cpos.line)=true:=by rfl):PE X (.Call (.Attribute o name apos) [] [] cpos) (tBM0 X.K T r to):=by
 intro pins s σ H Q I h;refine wpAny_Call_method0_late hbase hline (thn (ho pins s σ H _ I h) fun v s1 ⟨x,H1,I1,r1,ty,q1⟩=>?_);obtain⟨h1,h2⟩:=tyV_is I1 r1 ty;exact⟨T,id,pa,slot,hty,h1,h2,Calls.callWith_builtin rfl (PySem.evalArgs_none (hm pins s1 σ H1 x [] v [] Q I1 r1 .nil q1))⟩
theorem yP(pa:PlainAttrs T)(slot:Slot T name id)(hty:typeOf (.builtin id)=pure (.type "method_descriptor"))(hm:MtR X id r)(ho:PE X o to)(ha:PA X (e::es) t)(hbase:attributeBase o name X.env (eval o X.env)=eval o X.env:=by rfl)(hfew:((backTo cpos (starEach (e::es) X.env)).all (fun x=>!x.1)&&(backToKw cpos (keywordEach [] X.env)).all (fun x=>x.1.isSome)
   &&decide ((e::es).length+([]:List Keyword).length+(if([]:List Keyword).isEmpty then 0 else 1)<30))=true:=by rfl)(hline:(apos.endLine==cpos.line)=true:=by rfl)(hs:starEach (e::es) X.env=(false,eval e X.env)::starEach es X.env:=by rfl)(hplain:(backTo cpos (starEach es X.env)).any (·.1)=false:=by rfl) :
  PE X (.Call (.Attribute o name apos) (e::es) [] cpos) (tBM X.K T r to t):=by
 intro pins s σ H Q I h;refine wpAny_Call_method_late hbase hfew hline rfl (thn (ho pins s σ H _ I h) fun v s1 ⟨x,H1,I1,r1,ty,q1⟩=>?_);obtain⟨h1,h2⟩:=tyV_is I1 r1 ty;refine⟨T,id,pa,slot,hty,h1,h2,?_⟩;have hA:=ha cpos pins s1 σ H1 _ I1 q1;rw[hs]at hA ⊢;refine Calls.callWith_builtin (by show(false||(backTo cpos (starEach es X.env)).any (·.1))=false;rw[hplain] <;>rfl) (Calls.evalArgs_plain ?_);exact thn hA fun us s2 ⟨vs,H2,I2,r2,q2⟩=>hm pins s2 σ H2 x vs v us Q I2 r1 r2 q2
/- xs.append(e),list.index on a module's tuple .. are MtR facts of 06m -/
end
def MtM(X:Cx)(id:String)(r:V->List V->Hp->VK->Prop):Prop :=
 ∀(pins:List (Addr×Obj))(s:Shared)(σ:St)(H:Hp)(x:V)(xs:List V)(v:Value)(us:List Value)(Q:VK),Inv X pins σ H s->RelV x v->Vals xs us->r x xs H Q->
  wpAny (model X.prog X.w) X.A (call (.builtin id) (v::us)) (EP X pins σ Q) X.xe s
theorem Vals.one:∀{x:V}{us:List Value},Vals [x] us-> ∃u,us=[u]/\RelV x u
 | _,_,.cons r .nil=>⟨_,rfl,r⟩
theorem Vals.eraseIdx:∀{xs:List V}{us:List Value}(i:Nat),Vals xs us->Vals (xs.eraseIdx i) (us.eraseIdx i)
 | _,_,_,.nil=>.nil
 | _,_,0,.cons _ t=>t
 | _,_,i+1,.cons r t=>.cons r (Vals.eraseIdx i t)
theorem Vals.rep{xs:List V}{us:List Value}(h:Vals xs us):∀k:Nat,Vals (replicate k xs).flatten (replicate k us).flatten
 | 0=>.nil
 |k+1=>by
  rw[List.replicate_succ,List.replicate_succ,flatten_cons,flatten_cons];exact Vals.append h (Vals.rep h k)
theorem len_erase{α:Type}:∀(l:List α)(i:Nat),(l.eraseIdx i).length<=l.length
 | [],_=>le_refl _
 | _::_,0=>le_succ _
 | _::r,i+1=>Nat.succ_le_succ (len_erase r i)
theorem foldl_rep(its:List Value):∀(k:Nat)(acc:List Value),
  List.foldl (fun x1 x2=>x1++x2) acc.toArray (replicate k its.toArray)=(acc++(replicate k its).flatten).toArray
 | 0,acc=>by simp
 |k+1,acc=>by
  have e:acc.toArray++its.toArray=(acc++its).toArray:=by simp
  have e2:(acc++its)++(replicate k its).flatten=acc++(replicate (k+1) its).flatten:=by
   rw[List.replicate_succ,flatten_cons,append_assoc]
  rw[<-e2,<-foldl_rep its k (acc++its),<-e,List.replicate_succ,List.foldl_cons]
section
variable{X:Cx}{pins:List (Addr×Obj)}{σ:St}{H:Hp}{s:Shared}{l b:Addr}{xs ys zs:List V}
theorem Inv.lset{its its':List Value}{n:Nat}{f:Array Value->Array Value}{t':Nat}(I:Inv X pins σ H s)(hH:H l=some (.lst xs))(e:s.heap.get? l=some {cls:=.type "list",data:=.seq its.toArray n})(hf:f its.toArray=its'.toArray)(hv:Vals ys its')(hz:ys.length<=sizeLine) :
  Inv X pins σ (upd H l (.lst ys)) {s with heap:=s.heap.update l (Obj.mapSeq f),toks:=t'}:=by
 have q:=PySem.IsL.update e f;rw[hf]at q;refine I.write (x:=l) (e:=l) (by rw[hH];exact trivial) (.inl rfl) (fun b' u hb hu=>(Heap.get?_update_other s.heap (Obj.mapSeq f) (Ne.symm hb)).trans hu) ⟨_,q⟩ ?_;exact⟨hz,its',_,hv,q⟩
theorem Inv.lnew{its:List Value}{t':Nat}(I:Inv X pins σ H s)(hv:Vals ys its)(hz:ys.length<=sizeLine) :
  Inv X pins σ (upd H s.heap.objs.size (.lst ys)) {s with heap:=s.heap.push {cls:=.type "list",data:=.seq its.toArray},toks:=t'} :=
 I.laid (fun _ _ q=>Heap.get?_push_of_some _ q) (le_refl _) ⟨hz,its,0,hv,Heap.get?_push_size _ rfl⟩
theorem Inv.fresh(I:Inv X pins σ H s):H s.heap.objs.size=none:=I.hok.fresh (le_refl _)
theorem Inv.lstM(I:Inv X pins σ H s)(hH:H l=some (.lst xs)):xs.length<=sizeLine/\ ∃(its:List Value)(n:Nat),Vals xs its/\xs.length=its.length/\s.heap.get? l=some {cls:=.type "list",data:=.seq its.toArray n}:=by
 obtain⟨z,its,n,r,e⟩:=I.hok l _ hH;exact⟨z,its,n,r,r.length,e⟩
theorem notLongL{n:Nat}(h:n<=sizeLine):Builtin.List.listTooLong n=false:=by
 unfold Builtin.List.listTooLong;exact decide_eq_false (by omega)
end
section
variable{X:Cx}
def rAppend:V->List V->Hp->VK->Prop:=fun x vs H Q=>∃ l xs y,x= .ref l/\vs=[y]/\H l=some (.lst xs)/\xs.length<sizeLine/\Q .non (upd H l (.lst (xs++[y])))
theorem yk:MtM X "list.append" rAppend:=by
 intro pins s σ H x vs v us Q I rx rv h;obtain⟨l,xs,y,rfl,rfl,hH,hz,q⟩:=h;cases rx;obtain⟨u,rfl,ru⟩:=rv.one;obtain⟨z,its,n,r,hl,e⟩:=I.lstM hH;refine call_meets F.slot_list_append ⟨_,e,rfl⟩ F.entry_list_append (F.args_list_append_2 _ _) (PySem.list_append l its.toArray n u (by rw[size_toArray];omega)) ⟨e,?_⟩;refine⟨.non,_,I.lset (its':=its++[u]) hH e (by simp) (r.append (.cons ru .nil)) ?_,rfl,q⟩;rw[length_append,List.length_singleton];omega
def rExtend:V->List V->Hp->VK->Prop:=fun x vs H Q=>∃ l b xs zs,x= .ref l/\vs=[.ref b]/\H l=some (.lst xs)/\H b=some (.lst zs)/\xs.length+zs.length<=sizeLine/\Q .non (upd H l (.lst (xs++zs)))
theorem mt_extend:MtM X "list.extend" rExtend:=by
 intro pins s σ H x vs v us Q I rx rv h;obtain⟨l,b,xs,zs,rfl,rfl,hH,hB,hz,q⟩:=h;cases rx;obtain⟨u,rfl,ru⟩:=rv.one;cases ru;obtain⟨z,its,n,r,hl,e⟩:=I.lstM hH;obtain⟨z2,its2,n2,r2,hl2,e2⟩:=I.lstM hB;have hsz:its.toArray.size+its2.toArray.size<=sizeLine:=by rw[size_toArray,size_toArray];omega
 have hlong:¬(!its.toArray.isEmpty&&Builtin.List.listTooLong (its.toArray.size+its2.toArray.size))=true:=by
  rw[notLongL hsz,Bool.and_false];exact Bool.false_ne_true
 refine call_meets F.slot_list_extend ⟨_,e,rfl⟩ F.entry_list_extend (F.args_list_extend_2 _ _)
  (AutoSeq1.list_extend_list_list_0 l its.toArray n b its2.toArray n2 hlong (by rw[size_toArray];omega) (by omega)) ⟨e,e2,?_⟩
 refine⟨.non,_,I.lset (its':=its++its2) hH e (by simp) (r.append r2) ?_,rfl,q⟩;rw[length_append];omega
def rPopAt:V->List V->Hp->VK->Prop:=fun x vs H Q=>∃ l xs i k y,x= .ref l/\vs=[.int i]/\H l=some (.lst xs)/\ -(2^63)<=i/\i<2^63/\seqIndex? i xs.length=some k/\xs[k]? =some y/\Q y (upd H l (.lst (xs.eraseIdx k)))
theorem mt_popAt:MtM X "list.pop" rPopAt:=by
 intro pins s σ H x vs v us Q I rx rv h;obtain⟨l,xs,i,k,y,rfl,rfl,hH,h1,h2,hk,hy,q⟩:=h;cases rx;obtain⟨u,rfl,ru⟩:=rv.one;obtain⟨t,rfl⟩:=ru;obtain⟨z,its,n,r,hl,e⟩:=I.lstM hH;obtain⟨w,hw,rw'⟩:=r.get hy;refine call_meets F.slot_list_pop ⟨_,e,rfl⟩ F.entry_list_pop (F.args_list_pop_2 _ _)
  (MeetsSeq.list_pop_at l its.toArray n i t k w (fitsIndex_both h1 h2) (by rw[size_toArray,<-hl];exact hk) (by rw[<-Array.getElem?_toList];exact hw) (by rw[size_toArray];omega)) ⟨e,?_⟩
 refine⟨y,_,I.lset (its':=its.eraseIdx k) hH e ?_ (r.eraseIdx k) ?_,rw',q⟩
 ·show its.toArray.eraseIdxIfInBounds k=(its.eraseIdx k).toArray;rw[List.eraseIdxIfInBounds_toArray]
 ·have:=len_erase xs k;omega
def rCat:R2:=fun x y H Q=>∃ l b xs zs,x= .ref l/\y= .ref b/\H l=some (.lst xs)/\H b=some (.lst zs)/\xs.length+zs.length<=sizeLine/\ ∀p,H p=none->Q (.ref p) (upd H p (.lst (xs++zs)))
theorem op_cat:OpR X (binaryOp .Add) rCat:=by
 intro pins s σ H x y v u Q I rx ry h;obtain⟨l,b,xs,zs,rfl,rfl,hH,hB,hz,q⟩:=h;cases rx;cases ry;obtain⟨z,its,n,r,hl,e⟩:=I.lstM hH;obtain⟨z2,its2,n2,r2,hl2,e2⟩:=I.lstM hB;refine PySem.P.add_list e e2 ?_ (by rw[size_toArray,size_toArray];omega);have ea:its.toArray++its2.toArray=(its++its2).toArray:=by simp
 rw[ea];exact⟨.ref _,_,I.lnew (t':=s.toks) (r.append r2) (by rw[length_append];omega),rfl,q _ I.fresh⟩
def rRep:R2:=fun x y H Q=>∃ l k xs,x= .ref l/\y= .int k/\H l=some (.lst xs)/\ -(2^63)<=k/\k<2^63/\xs.length*k.toNat<=sizeLine/\
 ∀p,H p=none->Q (.ref p) (upd H p (.lst (replicate k.toNat xs).flatten))
theorem len_rep{α:Type}(xs:List α)(k:Nat):(replicate k xs).flatten.length=k*xs.length:=by
 induction k with
 |zero=>simp
 |succ k ih=>rw[List.replicate_succ,flatten_cons,length_append,ih,Nat.succ_mul,Nat.add_comm]
theorem op_rep:OpR X (binaryOp .Mult) rRep:=by
 intro pins s σ H x y v u Q I rx ry h;obtain⟨l,k,xs,rfl,rfl,hH,h1,h2,hz,q⟩:=h;cases rx;obtain⟨t,rfl⟩:=ry;obtain⟨z,its,n,r,hl,e⟩:=I.lstM hH;have hlen:its.toArray.size*k.toNat<=sizeLine:=by rw[size_toArray,<-hl];exact hz
 have hcap:¬its.toArray.size*k.toNat>(2^63-1) / 8:=by
  have:(sizeLine:Nat)<=(2^63-1) / 8:=by decide
  omega
 have hfit:¬(!Builtin.List.listFitsIndex k)=true:=by
  rw[fitsIndex_both h1 h2];exact Bool.false_ne_true
 have hlong:¬Builtin.List.listTooLong (its.toArray.size*k.toNat)=true:=by
  rw[notLongL hlen];exact Bool.false_ne_true
 have hnew:List.foldl (fun x1 x2=>x1++x2) #[] (replicate (if its.toArray.isEmpty=true then 0 else k.toNat) its.toArray)=(replicate k.toNat its).flatten.toArray:=by
  have f0:∀m:Nat,List.foldl (fun x1 x2=>x1++x2) #[] (replicate m its.toArray)=(replicate m its).flatten.toArray:=fun m=>by
   have:=foldl_rep its m [];rw[List.nil_append]at this;exact this
  rw[f0];cases its with
  |nil=>simp
  |cons a r'=>rw[if_neg (by simp)]
 refine wpAny_binaryOp_repeat_ref (T :="list") (U :="int") (by decide) ⟨_,e,rfl⟩ (fun s'=>typeIs_int s' k t) noFill_list_mul F.fills_int_mul F.slot_int_rmul repeat_list F.slot_int_index.lookup
  (call_meets F.slot_int_rmul (typeIs_int s k t) F.entry_int_rmul (F.args_int_rmul_2 _ _) (int___rmul___int_list k t l its.toArray n)
   ⟨e,rfl,⟨_,e,rfl⟩,call_meets F.slot_list_mul ⟨_,e,rfl⟩ F.entry_list_mul (F.args_list_mul_2 _ _) (AutoListH.list___mul___list_int_3 l its.toArray n k t hfit hcap hlong) ⟨e,?_⟩⟩)
 rw[hnew];exact⟨.ref _,_,I.lnew (t':=s.toks) (r.rep k.toNat) (by rw[len_rep,Nat.mul_comm];exact hz),rfl,q _ I.fresh⟩
end
end L2
namespace Att
open PySem PySem.W PySem.Calls PyProof.Rows
theorem ints_of_wellAll{P:Params}{h:Heap}:∀(ns:List Int)(vs:List Value),WellAll P h vs (ns.map WData.int)->IntsAre vs ns:=by
 intro ns
 induction ns with
 |nil =>
  intro vs w;rw[List.map_nil]at w;cases w;exact .nil
 |cons n ns ih =>
  intro vs w;rw[map_cons]at w;cases w with
  |cons a b =>
   cases a;exact .cons _ _ (ih _ b)
theorem script_of{l:OpenLaw}{n:Nat}(hn:l.most=some n){P:Params}{h:Heap}{args:List WData}{vals:List Value}(hpre:l.row.toRowW.claim.pre args=true)(hwl:WellAll P h vals args) :
  ∃a vs ns,vals=[Value.ref a]/\args=[WData.list (ns.map WData.int)]/\h.get? a=some {cls:=.type "list",data:=.seq vs.toArray}/\IntsAre vs ns/\ns.length<=n:=by
 have hsh:WShape.hasAll [] args [.list .int]=true:=(pre_splitW hpre).1;have hc:l.pre.holds [] {args:=args}=true:=(pre_splitW hpre).2;obtain⟨d,r,rfl,h1,h2⟩:=hasAllW_cons hsh;obtain rfl:=hasAllW_nil h2;obtain⟨xs,rfl,h3⟩:=hasW_list h1;obtain⟨ns,rfl⟩:=items_int h3;have hlen:ns.length<=n:=by
  unfold OpenLaw.pre at hc;have h4:(WTm.not (.lt (.lit (.int (n:Int))) (.len (.arg 0)))).holds [] {args:=[.list (ns.map .int)]}=true:=by
   have h4:=(holds_andW hc).1;rw[hn]at h4;exact h4
  have h5:=condW_of h4 (w_not (w_lt w_lit (w_len_list (w_arg rfl))));rw[length_map]at h5;refine Nat.le_of_not_lt fun q=>?_;have q':(n:Int)<((ns.length:Nat):Int):=by omega
  first
   |(rw[decide_eq_true q']at h5;exact absurd h5 (by decide))
   |(simp at h5;omega)
 cases hwl with
 |cons w1 w2 =>
  cases w2;cases w1 with
  |list ho hall=>exact⟨_,_,ns,rfl,rfl,ho,ints_of_wellAll ns _ hall,hlen⟩
theorem post_true(l:OpenLaw)(args:List WData):l.row.toRowW.claim.post args (.bool true) args=true :=
 postW_of (r:=l.row.toRowW) (X:=(true==true))
  (show WShape.has [] (.bool true) .bool=true by first|rfl|decide|simp[WShape.has,WShape.arms,WShape.armsAll])
  (show(WTm.eq .res (.lit (.bool true))).value [] {args:=args,res:=some (.bool true),after:=args}=some (.bool (true==true))from w_eq_bool (w_res rfl) w_lit) rfl
theorem attach_call{l:OpenLaw}{n:Nat}{q:Program}{loose:List Str}{XP:(Str->Option Value)->Heap->Prop}{YP:World->Heap->Prop}{d:DefRec}(hn:l.most=some n)(hdf:d.params.defaults=[])(call:∀(w:World) (s₀ s₁:Shared) (mg mb:Str->Option Value) (fa:Addr) (o:Obj) (pm cd doc:Value) (a:Addr) (vs:List Value) (ns:List Int),
   Ground q loose [] XP w s₀ mg mb s₁.heap->YP w s₁.heap->
   s₁.heap.get? fa=some o->o.data= .func (docDef d.name d.params d.body d.scope pm cd doc)->s₁.heap.CodeRec cd d.name->mg d.name=some (.ref fa)->
   s₁.heap.get? a=some {cls:=.type "list",data:=.seq vs.toArray}->IntsAre vs ns->ns.length<=n->s₁.gens= #[]->
   codeAny (model l.prog w) callerA (.call (.ref fa) ⟨[.ref a],[]⟩) (fun r s'=>r= .ok (.ret (.bool true))/\OldK s₁.heap s'.heap/\s'.os=s₁.os/\AllBare s'.gens) s₁) :
  WalkO q loose XP YP l.row.toRowW d [] (fun f vs=>PySem.call f vs):=by
 intro w s₀ s₁ mg mb G Y fa o pm cd doc dV kV ho hd hcd hD hmg hg args vals as hpre hlay hrd hwl hlo;obtain rfl:dV= .none:=Dflts.none hD hdf;obtain rfl:kV= .none:=Dflts.noKw hD;obtain⟨a,vs,ns,rfl,rfl,hobj,hints,hlen⟩:=script_of hn hpre hwl;refine enter_call (codeAny_mono (call w s₀ s₁ mg mb fa o pm cd doc a vs ns G Y ho (fd_plain hd) hcd hmg hobj hints hlen hg) fun r s' hq=>?_);obtain⟨rfl,h2,h3,h4⟩:=hq;exact⟨.inl ⟨.bool true,.bool true,[],rfl,fun _=>rfl,.bool true,post_true l _,fun _=>⟨List.Pairwise.nil,fun _ hm=>(nomatch hm)⟩⟩,h2,h3,h4⟩
section
variable{prog:Program}{w:World}{A:Around}{E:Value->Shared->Prop}{s:Shared}{K:Frag}
def ledger(h:Heap)(L d:Addr):List (Addr×Obj):=(List.range h.objs.size).filterMap fun a=>if a=L\/a=d then none else(h.get? a).map fun o=>(a,o)
end
end Att
namespace L2
open PySem PySem.Spec PyProof.Rows
theorem vals_ints:∀{vs:List Value}{ns:List Int},IntsAre vs ns->Vals (ns.map V.int) vs
 | _,_,.nil=>.nil
 | _,_,.cons n t h=>.cons ⟨t,rfl⟩ (vals_ints h)
def Only(H:Hp):Prop:=∀ b,H b=none\/ ∃o xs,H b=some (.frz o (.lst xs))
theorem law_call{P:Program}{w:World}{K:W.Frag}{mg mb:Str->Option Value}{CX:CXT}{k:Nat}{fa a:Addr}{fd:FuncData}{x:Str}{sp:Sp}{s₁:Shared}{vs:List Value}{ns:List Int}(KX:K.In s₁.heap)(hns:s₁.heap.Ns mainGlobals mg)(hb:s₁.heap.Ns builtinsNs mb)(hbb:∀x:Str,x≠"__name__"->mb x=bootBuiltins x)(hlim:s₁.heap.NoLimit)(hg:s₁.gens= #[])(ha:s₁.heap.get? a=some {cls:=.type "list",data:=.seq vs.toArray})(hi:IntsAre vs ns)(hl:ns.length<=sizeLine)(hr:Room k callerA)(F:∀base:Heap,K.In base->base.Ns mainGlobals mg->FnOk P w K mg base CX k fa fd [x] sp)(hbind:∀(s:Shared) (u:Value),BindsTo s fd ⟨[u],[]⟩ [(x,u)])(hsp:∀H:Hp,Only H->SqL K H a (ns.map V.int)->sp [.ref a] H (fun v _=>v= .bl true) fun _ _ _=>False)(hCX:∀H e s',CX [] H s₁ (fun _ _ _=>False) e s'->False) :
  codeAny (model P w) callerA (.call (.ref fa) ⟨[.ref a],[]⟩) (fun r s'=>r= .ok (.ret (.bool true))/\OldK s₁.heap s'.heap/\s'.os=s₁.os/\AllBare s'.gens) s₁:=by
 have rv:=vals_ints hi;have lenV:=hi.length
 -- from an abstract heap in which nothing but the script may be tracked
 have core:∀H:Hp,Only H->SqL K H a (ns.map V.int)->HOk P w H s₁.heap->(∀b,H b≠none->b=a)->(H a≠none->K.lookup a=none)->
   codeAny (model P w) callerA (.call (.ref fa) ⟨[.ref a],[]⟩) (fun r s'=>r= .ok (.ret (.bool true))/\OldK s₁.heap s'.heap/\s'.os=s₁.os/\AllBare s'.gens) s₁:=by
  intro H hO hS hok hA hK;have base_of:∀{b:Addr}{o:Obj},s₁.heap.get? b=some o->H b=none->(hidT s₁.heap H).get? b=some o:=fun e n=>hidT_get e n;have noA:∀{b:Addr}{o:Obj}{es:Array DictEntry}{ep:Nat},s₁.heap.get? b=some o->o.data= .dict es ep->H b=none:=fun{b o es ep} e d=>by
   cases q:H b with
   |none=>rfl
   |some u =>
    have e':b=a:=hA b (by rw[q];simp);subst e';rw[ha]at e;cases e;have d':Data.seq vs.toArray _=Data.dict es ep:=d;cases d'
  have nsK:∀{b:Addr}{m:Str->Option Value},s₁.heap.Ns b m->(hidT s₁.heap H).Ns b m:=fun{b m} ⟨o,es,ep,e,d,r⟩=>⟨o,es,ep,base_of e (noA e d),d,r⟩;have hKb:K.In (hidT s₁.heap H):=fun b o e=>base_of (KX b o e) (by
   cases q:H b with
   |none=>rfl
   |some u =>
    have e':b=a:=hA b (by rw[q];simp);subst e';rw[hK (by rw[q];simp)]at e;cases e)
  have hM:Mod K mg (hidT s₁.heap H):=⟨hKb,nsK hns,⟨mb,nsK hb,hbb⟩,let⟨mc,h1,h2⟩:=hlim;⟨mc,nsK h1,h2⟩⟩;have e0:Env0 P w K mg (hidT s₁.heap H) callerA [] s₁ H:=⟨rfl,hM,fun b o e=>of_hidT e,Nat.le_of_eq (hidT_size _ _),trivial,fun b hb=>absurd (show b∈([]:List Addr)from hb) (by simp),hok,.of_eq hg⟩;refine codeAny_mono ((F _ hKb (nsK hns)).run callerA [] s₁ H ⟨[.ref a],[]⟩ [.ref a] [.ref a] _ _ hr e0 (hbind s₁ (.ref a)) (.cons rfl .nil) (hsp H hO hS)) fun r s' h=>?_;cases r with
  |error e=>exact(hCX H e s' h).elim
  |ok fl =>
   cases fl with
   |next=>exact False.elim h
   |brk=>exact False.elim h
   |cont=>exact False.elim h
   |ret u =>
    obtain⟨v,H',os,bare,un,hok',r',q⟩:=h;have q':v= .bl true:=q;subst q';obtain rfl:u=Value.bool true:=r';refine⟨rfl,OldK.of_keep fun b o e=>?_,os,bare⟩;cases q:H b with
    |none=>exact un.keep b o e q (by intro z;exact absurd (show b∈([]:List Addr)from z) (by simp)) (by simp)
    |some u =>
     rcases hO b with z|⟨ob,xs,z⟩
     ·rw[q]at z;cases z
     ·have z2:=un.frzs b ob _ z;obtain⟨e1,_⟩:=hok b _ z;obtain⟨e2,_⟩:=hok' b _ z2;rw[e]at e1;cases e1;exact e2
 cases hk:K.lookup a with
 |some o =>
  -- the script is one of the module's own objects
  have e:=KX a o hk;rw[ha]at e;cases e;refine core (fun _=>none) (fun _=>.inl rfl) (.inr ⟨_,vs.toArray,_,hk,rfl,rfl,rfl,by rw[size_toArray,lenV];exact hl,by simpa using rv⟩) (fun b u z=>by have z':(none:Option HO)=some u:=z;cases z') (fun b z=>absurd rfl z) fun z=>absurd rfl z
 |none =>
  refine core (fun b=>if b=a then some (.frz {cls:=.type "list",data:=.seq vs.toArray} (.lst (ns.map V.int)))else none) (fun b=>?_) (.inl (.inr ⟨{cls:=.type "list",data:=.seq vs.toArray},if_pos rfl⟩)) (fun b u z=>?_) (fun b z=>?_) fun _=>hk
  ·by_cases hb:b=a
   ·exact .inr ⟨_,_,if_pos hb⟩
   ·exact .inl (if_neg hb)
  ·by_cases hb:b=a
   ·have z':=(if_pos hb).symm.trans z;cases z';subst hb;exact⟨ha,by rw[length_map];exact hl,vs,_,rv,ha⟩
   ·have z':=(if_neg hb).symm.trans z;cases z'
  ·by_cases hb:b=a
   ·exact hb
   ·exact absurd (if_neg hb) z
theorem walk_of{l:W.OpenLaw}{n k:Nat}{q:Program}{loose:List Str}{XP:(Str->Option Value)->Heap->Prop}{YP:World->Heap->Prop}{d:DefRec}{K:Params->W.Frag}{CX:World->CXT}{sp:World->Sp}{x:Str}(hn:l.most=some n)(hn2:n<=sizeLine)(hdf:d.params.defaults=[])(hr:Room k callerA)(hY:∀(w:World) (h:Heap),YP w h->(K w.params).In h)(F:∀(w:World) (mg:Str->Option Value) (fa:Addr) (h:Heap),(K w.params).In h->h.Ns mainGlobals mg->mg d.name=some (.ref fa)->
   ∃fd:FuncData,(∀(s:Shared) (u:Value),BindsTo s fd ⟨[u],[]⟩ [(x,u)])/\
    ∀base:Heap,(K w.params).In base->base.Ns mainGlobals mg->FnOk l.prog w (K w.params) mg base (CX w) k fa fd [x] (sp w))(hsp:∀(w:World) (H:Hp) (a:Addr) (ns:List Int),ns.length<=n->Only H->SqL (K w.params) H a (ns.map V.int)->sp w [.ref a] H (fun v _=>v= .bl true) fun _ _ _=>False)(hCX:∀(w:World) (H:Hp) (s:Shared) (e:Value) (s':Shared),CX w [] H s (fun _ _ _=>False) e s'->False) :
  W.WalkO q loose XP YP l.row.toRowW d [] (fun f vs=>PySem.call f vs):=by
 refine Att.attach_call hn hdf fun w s₀ s₁ mg mb fa o pm cd doc a vs ns G Y ho hd hcd hmg hobj hints hlen hg=>?_;have KX:=hY w _ Y;obtain⟨fd,hb,hF⟩:=F w mg fa _ KX G.T.g hmg;exact law_call KX G.T.g G.T.b G.T.builtins G.T.nolimit hg hobj hints (le_trans hlen hn2) hr hF hb (fun H hO hS=>hsp w H a ns hlen hO hS) fun H e s'=>hCX w H s₁ e s'
end L2
/- THE LAST THEOREM (shape;LID,My.* are yours):
  My.Adr: a structure of the addresses that your layer names (classes,functions);My.Txt K t: a structure (Prop) of the equations over K;
  My.txt_mk:{K} {implicit addresses ..} (e1:nsIn K mainGlobals "law"=some (some (.ref f))) (e2:K.lookup f=some ⟨oc,od,.func (fnOf "law" "law" params body scope dV kV doc pm an cdv ct),sl⟩) (e3:codeIn K cdv "law"=true) ..:∃t,My.Txt K t
(the tactic k_is has no namespace: write k_is) -/
namespace L2
open PySem PySem.Spec PyProof.Rows
def inClass(s:Stmt)(j:Nat):Stmt:=match s with
 | .ClassDef _ _ _ body _ _ _ _ _ _ _=>body.getD j (.Pass ⟨0,0,0,0⟩)
 | _=>.Pass ⟨0,0,0,0⟩
def wb(s:Stmt):Arguments:=match s with
 | .FunctionDef _ a _ _ _ _ _ _ _ _=>a
 | _=>{posonlyargs:=[],args:=[],vararg:=none,kwonlyargs:=[],kw_defaults:=[],kwarg:=none,defaults:=[]}
def jA(s:Stmt):List Stmt:=match s with
 | .FunctionDef _ _ b _ _ _ _ _ _ _=>b
 | _=>[]
def z8(s:Stmt):Scope:=match s with
 | .FunctionDef _ _ _ _ _ _ sc _ _ _=>sc
 | _=>{kind:=.function,names:=[],isGenerator:=false,isCoroutine:=false}
abbrev CX0:CXT:=fun _ _ _ _ _ _=>False
abbrev E0:XK:=fun _ _ _=>False
theorem yX{X:Cx}:Passes CX0 X E0:=fun _ _ _ _ _ _ _ h=>h.elim
structure Fun(K:W.Frag)(x qual:Str)(st:Stmt)(f:Addr)(fd:FuncData):Prop where
 ex:∃(oc:Value)(od:Option Addr)(kV doc pm:Value)(an:Option Addr)(cdv ct:Value)(osl:Array (Option Value)),
  fd=W.fnOf x qual (wb st) (jA st) (z8 st) .none kV doc pm an cdv ct/\K.lookup f=some ⟨oc,od,.func fd,osl⟩/\W.codeIn K cdv qual=true
 kp:W.keepIn K (.ref f)=true
section
variable{P:Program}{w:World}{K:W.Frag}{mg:Str->Option Value}{base:Heap}
theorem Fun.ok{x qual:Str}{st:Stmt}{f:Addr}{fd:FuncData}{N ps:List Str}{k:Nat}{sp:Sp}{cm:Bool}(F:Fun K x qual st f fd)(S:FnScope N ps (z8 st))(len:∀vs H Q E,sp vs H Q E->vs.length=ps.length)(hbody:∀(cdv:Value) (A:Around) (outer:List Env) (s:Shared) (H:Hp) (vs:List V) (Q:VK) (E:XK),Room k (A.deeper (envOfC qual (z8 st) s.heap.objs.size f cdv)) cm->sp vs H Q E->
   ∃t,PSs (cxOf CX0 P w K mg base N qual (z8 st) f cdv A outer s H E cm).nox (jA st) t/\t {nx:=fun _ H'=>Q .non H',rt:=Q} (start N vs) H):FnOk P w K mg base CX0 (k+1) f fd ps sp cm:=by
 obtain⟨oc,od,kV,doc,pm,an,cdv,ct,osl,rfl,lk,hcd⟩:=F.ex;refine fn_of lk hcd S len fun A outer s H vs Q E hr hsp=>?_;obtain⟨t,h,q⟩:=hbody cdv A outer s H vs Q E hr hsp;exact⟨t,h.nox,q⟩
theorem Fun.binds{x qual:Str}{st:Stmt}{f:Addr}{fd:FuncData}{ps:List Str}(F:Fun K x qual st f fd)(h:∀(kV doc pm:Value) (an:Option Addr) (cdv ct:Value) (us:List Value),us.length=ps.length->bindArgs (W.fnOf x qual (wb st) (jA st) (z8 st) .none kV doc pm an cdv ct) ⟨us,[]⟩=pure (ps.zip us)):Binds K fd ps []:=by
 obtain⟨oc,od,kV,doc,pm,an,cdv,ct,osl,rfl,lk,hcd⟩:=F.ex;exact .all (h kV doc pm an cdv ct)
theorem fun_mk{x qual:Str}{st:Stmt}{f:Addr}{oc:Value}{od an:Option Addr}{osl:Array (Option Value)}{kV doc pm cdv ct:Value}(l:K.lookup f=some ⟨oc,od,.func (W.fnOf x qual (wb st) (jA st) (z8 st) .none kV doc pm an cdv ct),osl⟩)(c:W.codeIn K cdv qual=true)(k:W.keepIn K (.ref f)=true):Fun K x qual st f (W.fnOf x qual (wb st) (jA st) (z8 st) .none kV doc pm an cdv ct):=⟨⟨oc,od,kV,doc,pm,an,cdv,ct,osl,rfl,l,c⟩,k⟩
end
section
variable{X:Cx}
theorem pv(i:Nat){x:Str}{pos:Pos}(hN:X.N[i]? =some x:=by rfl)(hv:Vis X.env.scope x:=by first|exact Or.inl rfl|exact Or.inr (Or.inl rfl)|exact Or.inr (Or.inr rfl))(hd:(x==("__debug__" : Str))=false:=by decide)(hcd:(x==("__classdict__" : Str))=false:=by decide):PE X (.Name x pos) (tVar i):=pe_var hN hv hd hcd
end
theorem iteF{A B:Prop}(h:B):if false=true then A else B:=by
 rw[if_neg Bool.false_ne_true];exact h
theorem iteT{A B:Prop}(h:A):if true=true then A else B:=by
 rw[if_pos rfl];exact h
theorem ite2{c A B:Prop}[Decidable c](h1:c->A)(h2:¬c->B):if c then A else B:=by
 by_cases h:c
 ·rw[if_pos h];exact h1 h
 ·rw[if_neg h];exact h2 h
theorem iteNS{c A B:Prop}[Decidable c](hc:c)(h:B):if(!decide c)=true then A else B:=by
 rw[decide_eq_true hc];exact iteF h
def Same(H H':Hp):Prop:=∀ b o,H b=some o->H' b=some o
theorem Same.refl(H:Hp):Same H H:=fun _ _ h=>h
theorem Same.trans{H H1 H2:Hp}(a:Same H H1)(b:Same H1 H2):Same H H2:=fun c o h=>b c o (a c o h)
theorem Same.free{H H':Hp}(e:Same H H'){l:Addr}(h:H' l=Option.none):H l=Option.none:=by
 cases q:H l with
 |none=>rfl
 |some o =>
  rw[e l o q]at h;cases h
theorem Same.seq{K:W.Frag}{H H':Hp}{a:Addr}{xs:List V}(e:Same H H')(h:SqL K H a xs):SqL K H' a xs:=by
 rcases h with(h|⟨o,h⟩)|h
 ·exact .inl (.inl (e _ _ h))
 ·exact .inl (.inr ⟨o,e _ _ h⟩)
 ·exact .inr h
section
variable{prog:Program}{w:World}{A:Around}{R:Result->Shared->Prop}{s:Shared}
theorem comp_loop_any{elt target iter:Expr}{ifs:List Expr}{scope:Scope}{pos:Pos}{it acc:Value}{env:Env}(I:Nat->Shared->Prop)(turn:∀n s,I n s->wpAny (model prog w) A (pyNext it) (fun r s₁=>match r with
   |none=>R (.ok .next) s₁
   |some v=>wpAny (model prog w) A (letOwnedTupleGo target it v) (fun _ s₁'=>wpAny (model prog w) A (assign target env v) (fun _ s₂ =>
     wpAny (model prog w) A (forIn ifs true fun c r=>if r=true then do let ok <-isTrue c env (eval c env);pure (ForInStep.yield ok)else pure (ForInStep.yield r)) (fun ok s₃ =>
      if ok=true then wpAny (model prog w) A (eval elt env) (fun x s₄ =>
       wpAny (model prog w) A (call (.builtin "list.append") [acc,x]) (fun _ s₅=>∃ m,m<n/\I m s₅) (notedBy (model prog w) A env fun e s'=>R (.error e) s') s₄) (notedBy (model prog w) A env fun e s'=>R (.error e) s') s₃
      else ∃m,m<n/\I m s₃) (notedBy (model prog w) A env fun e s'=>R (.error e) s') s₂) (notedBy (model prog w) A env fun e s'=>R (.error e) s') s₁') (notedBy (model prog w) A env fun e s'=>R (.error e) s') s₁) (notedBy (model prog w) A env fun e s'=>R (.error e) s') s)(n:Nat)(h:I n s) :
  codeAny (model prog w) A (.compLoop (.ListComp elt [⟨target,iter,ifs,0⟩] scope pos) 0 it acc env) R s:=by
 refine codeAny_loop rfl I (fun n s hI=>?_) n h;show wpAny _ A ((compTurn (.ListComp elt [⟨target,iter,ifs,0⟩] scope pos) 0 it acc env).onRaise (fun x=>do noteFrame x env;theTreesLotGoes x)) _ _ s;refine wpAny_noted ?_;rw[compTurn_list];refine wpAny_bind (wpAny_standAt (wpAny_bind (wpAny_mono (turn n s hI) (fun r s₁ h₁=>?_) fun _ _ h'=>h')));cases r with
 |none=>exact wpAny_pure h₁
 |some v =>
  refine wpAny_bind (wpAny_mono h₁ (fun _ s₁' h₁=>?_) fun _ _ h'=>h');refine wpAny_bind (wpAny_mono h₁ (fun _ s₂ h₂=>wpAny_bind (wpAny_mono h₂ (fun ok s₃ h₃=>?_) fun _ _ h'=>h')) fun _ _ h'=>h');cases ok with
  |false=>exact wpAny_pure ⟨rfl,h₃⟩
  |true =>
   exact wpAny_bind (wpAny_bind (wpAny_mono h₃ (fun x s₄ h₄=>wpAny_bind (wpAny_mono h₄ (fun _ s₅ h₅=>wpAny_pure (wpAny_pure ⟨rfl,h₅⟩)) fun _ _ h'=>h')) fun _ _ h'=>h'))
end
def closL(env:Env):List (Str×NameKind)->List (Str×Addr)->List (Str×Addr)
 | [],cs=>cs
 |(n,k)::r,cs=>closL env r (if k== .free then(n,(env.cells.lookup n).getD 0)::cs else cs)
def clos(scope:Scope)(env:Env):List (Str×Addr):=closL env scope.names []
theorem forIn_closL{env:Env}:∀(ns:List (Str×NameKind))(cs:List (Str×Addr)),(∀x∈ns,x.2= .free-> ∃c,env.cells.lookup x.1=some c)->
  (forIn ns cs fun(x:Str×NameKind)(r:List (Str×Addr))=>(match x with|(name,kind)=>if kind== .free then do let c <-cellOf env name;pure (ForInStep.yield ((name,c)::r))else pure (ForInStep.yield r):Sem (ForInStep (List (Str×Addr)))))=(pure (closL env ns cs):Sem (List (Str×Addr)))
 | [],cs,_=>rfl
 |(n,k)::r,cs,h=>by
  rw[List.forIn_cons];by_cases hk:k= .free
  ·subst hk;obtain⟨c,hc⟩:=h (n,.free) mem_cons_self rfl;have e:cellOf env n=pure c:=by
    have hc':env.cells.lookup n=some c:=hc;unfold cellOf;rw[hc']
   simp only[beq_self_eq_true,if_true,e,pure_bind];rw[forIn_closL r _ fun x hx=>h x (mem_cons_of_mem _ hx)];have hc':env.cells.lookup n=some c:=hc;simp[closL,hc']
  ·have hb:(k==NameKind.free)=false:=by simpa using hk
   simp only[hb,false_eq_true,if_false,pure_bind];rw[forIn_closL r _ fun x hx=>h x (mem_cons_of_mem _ hx)];simp[closL,hb]
theorem closureFor_eq{scope:Scope}{env:Env}(h:∀x∈scope.names,x.2= .free-> ∃c,env.cells.lookup x.1=some c):closureFor scope env=pure (clos scope env):=by
 unfold closureFor clos;have:=forIn_closL (env:=env) scope.names [] h;simp only[bind_pure];exact this
theorem closL_look{env:Env}{x:Str}{c:Addr}:∀(ns:List (Str×NameKind))(cs:List (Str×Addr)),(∀y∈ns,y.2= .free-> ∃c,env.cells.lookup y.1=some c)->(∀c,cs.lookup x=some c->env.cells.lookup x=some c)->
  (closL env ns cs).lookup x=some c->env.cells.lookup x=some c
 | [],cs,_,hc,e=>hc c e
 |(n,k)::r,cs,h,hc,e=>by
  refine closL_look r _ (fun y hy=>h y (mem_cons_of_mem _ hy)) (fun c' e'=>?_) e;by_cases hk:k= .free
  ·subst hk;obtain⟨c₁,h₁⟩:=h (n,.free) mem_cons_self rfl;have h₁':env.cells.lookup n=some c₁:=h₁;simp only[beq_self_eq_true,if_true,List.lookup_cons]at e';cases hx:x==n with
   |true =>
    rw[hx]at e';have hxn:x=n:=by simpa using hx
    subst hxn;rw[h₁']at e' ⊢;exact e'
   |false=>rw[hx]at e';exact hc c' e'
  ·have hb:(k==NameKind.free)=false:=by simpa using hk
   simp only[hb,false_eq_true,if_false]at e';exact hc c' e'
theorem closL_has{env:Env}{x:Str}:∀(ns:List (Str×NameKind))(cs:List (Str×Addr)),((x,NameKind.free)∈ns\/ ∃c,cs.lookup x=some c)-> ∃c,(closL env ns cs).lookup x=some c
 | [],cs,h=>h.elim (fun z=>nomatch z) fun z=>z
 |(n,k)::r,cs,h=>by
  refine closL_has r _ ?_;rcases h with h|⟨c,h⟩
  ·rcases mem_cons.mp h with e|h
   ·cases e;right;simp
   ·exact .inl h
  ·right;by_cases hk:k= .free
   ·subst hk;simp only[beq_self_eq_true,if_true,List.lookup_cons];cases x==n with
    |true=>exact⟨_,rfl⟩
    |false=>exact⟨c,h⟩
   ·have hb:(k==NameKind.free)=false:=by simpa using hk
    simp only[hb,false_eq_true,if_false];exact⟨c,h⟩
theorem relabel_back{env:Env}{x:Str}{k':NameKind}:∀{names:List (Str×NameKind)},
  (names.map fun(n,k)=>if(k==NameKind.free&&env.scope.kind== .function&&env.kindOf n==some .cell)then(n,NameKind.cell)else(n,k)).lookup x=some k'->
  ∃k,names.lookup x=some k/\(x,k)∈names/\(k'=k\/(k= .free/\k'= .cell))
 | [],h=>by simp at h
 |(n,k)::r,h=>by
  have ih:=@relabel_back env x k' r;have h':List.lookup x ((if(k==NameKind.free&&env.scope.kind== .function&&env.kindOf n==some .cell)=true then(n,NameKind.cell)else(n,k))::r.map fun(n,k)=>if(k==NameKind.free&&env.scope.kind== .function&&env.kindOf n==some .cell)then(n,NameKind.cell)else(n,k))=some k':=h;cases hx:x==n with
  |true =>
   have hxn:x=n:=by simpa using hx
   subst hxn;refine⟨k,by simp,mem_cons_self,?_⟩;by_cases hc:(k==NameKind.free&&env.scope.kind== .function&&env.kindOf x==some .cell)=true
   ·rw[if_pos hc]at h';simp at h';have hk:k= .free:=by
     cases k <;>simp at hc ⊢
    exact .inr ⟨hk,h'.symm⟩
   ·rw[if_neg hc]at h';simp at h';exact .inl h'.symm
  |false =>
   have h2:(r.map fun(n,k)=>if(k==NameKind.free&&env.scope.kind== .function&&env.kindOf n==some .cell)then(n,NameKind.cell)else(n,k)).lookup x=some k':=by
    by_cases hc:(k==NameKind.free&&env.scope.kind== .function&&env.kindOf n==some .cell)=true
    ·rw[if_pos hc]at h';simp only[List.lookup_cons,hx]at h';exact h'
    ·rw[if_neg hc]at h';simp only[List.lookup_cons,hx]at h';exact h'
   obtain⟨k0,e1,e2,e3⟩:=ih h2;exact⟨k0,by simp only[List.lookup_cons,hx];exact e1,mem_cons_of_mem _ e2,e3⟩
def cxC(X:Cx)(scope:Scope)(N:List Str)(C:Addr)(s:Shared)(H:Hp)(ex:List Addr):Cx :=
 {X with N:=N,s₀:=s,H₀:=H,env:=compEnvC scope (clos scope X.env) C X.env,outer:=X.stack,stack:=X.stack,ex:=ex,fn:=fun _=>false,pn:=[],xe:=fun _ _=>False}
structure CScope(X:Cx)(scope:Scope)(ls:List Str)(fr:List (Str×Nat)):Prop where
 kind:scope.kind= .function
 nocell:∀y∈scope.names,y.2≠ .cell
 names:∀y∈scope.names,y.2= .local->scope.names.lookup y.1=some .local
 free:∀y∈scope.names,y.2= .free->X.env.kindOf y.1=some .cell\/X.env.kindOf y.1=some .free
 slots:∀p∈fr,X.N[p.2]? =some p.1/\scope.names.lookup p.1=some .free
def startC(ls:List Str)(fr:List (Str×Nat))(σ:St):St:=ls.map (fun _=>none)++fr.map fun p=>(σ[p.2]?).join
section
variable{X:Cx}{scope:Scope}{ls:List Str}{fr:List (Str×Nat)}
theorem CScope.cells{pins:List (Addr×Obj)}{σ:St}{H:Hp}{s:Shared}(S:CScope X scope ls fr)(I:Inv X pins σ H s):∀x∈scope.names,x.2= .free-> ∃c,X.env.cells.lookup x.1=some c :=
 fun x hx hk=>I.ok.has x.1 (S.free x hx hk)
theorem CScope.look{pins:List (Addr×Obj)}{σ:St}{H:Hp}{s:Shared}(S:CScope X scope ls fr)(I:Inv X pins σ H s){x:Str}{c:Addr}(e:(clos scope X.env).lookup x=some c):X.env.cells.lookup x=some c :=
 closL_look scope.names [] (S.cells I) (fun _ z=>by simp at z) e
theorem comp_ok{pins:List (Addr×Obj)}{σ:St}{H:Hp}{s:Shared}{C:Addr}{ex:List Addr}(S:CScope X scope ls fr)(I:Inv X pins σ H s)(hC:s.heap.objs.size<=C)(hex:∀b∈ex,FpOk X pins H b/\b<s.heap.objs.size) :
  (cxC X scope (ls++fr.map (·.1)) C s H ex).Ok where
 mod:=I.ok.mod
 kind:=S.kind
 glob:=I.ok.glob
 blt:=I.ok.blt
 above:=hC
 inj:=fun x y c e1 e2=>I.ok.inj x y c (S.look I e1) (S.look I e2)
 has:=fun x h=>by
  have h':∃k',(relabel scope X.env).names.lookup x=some k'/\(k'= .cell\/k'= .free):=h.elim (fun z=>⟨_,z,.inl rfl⟩) fun z=>⟨_,z,.inr rfl⟩;obtain⟨k',e,hk⟩:=h';obtain⟨k,e1,e2,e3⟩:=relabel_back e;refine closL_has scope.names [] (.inl ?_);have hn:=S.nocell _ e2;rcases e3 with rfl|⟨rfl,_⟩
  ·rcases hk with rfl|rfl
   ·exact absurd rfl hn
   ·exact e2
  ·exact e2
 cab:=fun x c h=>nomatch h
 hd:=I.ok.hd
 frames:=I.ok.frames
 stk:=.inl rfl
 exf:=fun b hb=>by
  obtain⟨⟨f0,f1,f2,f3,f4,f5⟩,hl⟩:=hex b hb;exact⟨ne_of_lt (lt_of_lt_of_le hl hC),fun x c e=>f4 x c (S.look I e)⟩
 bs:=I.bs
 bsz:=le_trans I.ok.bsz I.sz
 noex:=fun b o e hb=>by
  obtain⟨⟨f0,f1,f2,f3,f4,f5⟩,hl⟩:=hex b hb;rcases f3 with z|z
  ·exact I.ok.noex b o e z
  ·exact absurd (lt_of_lt_of_le (Heap.lt_size e) (le_trans I.ok.bsz z)) (lt_irrefl _)
 exfs:=fun b hb hf=>by
  obtain⟨⟨f0,f1,f2,f3,f4,f5⟩,hl⟩:=hex b hb;exact(mem_cons.mp (I.stkSub b hf)).elim f1 f2
 funs:=I.stack
 frf:=I.stkFree
theorem comp_inv{pins:List (Addr×Obj)}{σ:St}{H:Hp}{s s':Shared}{C:Addr}{m:Str->Option Value}{ex:List Addr}(S:CScope X scope ls fr)(I:Inv X pins σ H s)(hC:s.heap.objs.size<=C)(hex:∀b∈ex,FpOk X pins H b/\b<s.heap.objs.size)(ho:s'.os=s.os)(hg:AllBare s'.gens)(k:∀b o,s.heap.get? b=some o->s'.heap.get? b=some o)(hn:s'.heap.Ns C m):Inv (cxC X scope (ls++fr.map (·.1)) C s H ex) [] (startC ls fr σ) H s' where
 ok:=comp_ok S I hC hex
 os:=ho
 bare:=hg
 base:=Un.kept k
 loc:=by
  refine⟨m,hn,fun i x v e1 e2 e3=>?_⟩;have e2':(ls.map (fun _=>(none:Option V))++fr.map fun p=>(σ[p.2]?).join)[i]? =some (some v):=e2;have e1':(ls++fr.map (·.1))[i]? =some x:=e1;by_cases hi:i<ls.length
  ·rw[List.getElem?_append_left (by simpa using hi),getElem?_map]at e2';cases q:ls[i]? with
   |none=>rw[q]at e2';cases e2'
   |some y=>rw[q]at e2';cases e2'
  ·have hi':ls.length<=i:=Nat.le_of_not_lt hi;rw[List.getElem?_append_right (by simpa using hi'),getElem?_map,length_map]at e2';rw[List.getElem?_append_right hi',getElem?_map]at e1';cases q:fr[i-ls.length]? with
   |none=>rw[q]at e1';cases e1'
   |some p =>
    rw[q]at e1' e2';have ex1:p.1=x:=Option.some.inj e1';have hp:p∈fr:=mem_of_getElem? q;obtain⟨hsl,hfree⟩:=S.slots p hp;subst ex1;have hv:σ[p.2]? =some (some v):=by
     have z:(σ[p.2]?).join=some v:=Option.some.inj e2';cases w:σ[p.2]? with
     |none=>rw[w]at z;cases z
     |some o=>rw[w]at z;exact congrArg some z
    obtain⟨m0,hn0,hl⟩:=id I.loc;have vis':∃k',(relabel scope X.env).names.lookup p.1=some k'/\(k'= .local\/k'= .cell\/k'= .free):=by
     rcases e3 with z|z|z
     ·exact⟨_,z,.inl rfl⟩
     ·exact⟨_,z,.inr (.inl rfl)⟩
     ·exact⟨_,z,.inr (.inr rfl)⟩
    obtain⟨k',ek,_⟩:=vis';obtain⟨k0,f1,f2,f3⟩:=relabel_back ek;rw[hfree]at f1;cases f1;have hk:=S.free _ f2 rfl;have hk':k'= .cell\/k'= .free:=f3.elim .inr fun z=>.inl z.2;have hvis:Vis X.env.scope p.1:=hk.elim (fun z=>.inr (.inl z)) fun z=>.inr (.inr z);obtain⟨u,ru,lk⟩:=hl p.2 p.1 v hsl hv hvis;obtain⟨c',hc'⟩:∃c,(clos scope X.env).lookup p.1=some c:=closL_has scope.names [] (.inl f2);refine⟨u,ru,.inr ⟨hk'.elim (fun z=>.inl (z▸ek)) fun z=>.inr (z▸ek),c',hc',?_⟩⟩;rcases lk with⟨z,_⟩|⟨_,c,ec,ic⟩
    ·rcases hk with y|y <;>(rw[y]at z;cases z)
    ·have:=S.look I hc';rw[ec]at this;cases this;exact ic.keeps k
 cell:=fun x c e=>by
  obtain⟨v,z⟩:=I.cell x c (S.look I e);exact⟨v,z.keeps k⟩
 free:=I.hok.fresh hC
 freeC:=fun x c e=>I.freeC x c (S.look I e)
 pin:=fun p hp=>nomatch hp
 hok:=I.hok.kept k
 len:=by simp[startC,cxC]
def PF(X:Cx)(ifs:List Expr)(t:TT):Prop :=
 ∀(pins:List (Addr×Obj))(s:Shared)(σ:St)(H:Hp)(Q:Bool->Hp->Prop),Inv X pins σ H s->t σ H Q->
  wpAny (model X.prog X.w) X.A (forIn ifs true fun c r=>if r=true then do let ok <-isTrue c X.env (eval c X.env);pure (ForInStep.yield ok)else pure (ForInStep.yield r)) (TP X pins σ Q) X.xe s
def tYes:TT:=fun _ H Q=>Q true H
theorem yf{X:Cx}:PF X [] tYes:=fun pins s σ H Q I h=>wpAny_tests_nil ⟨H,I,h⟩
theorem pf_one{X:Cx}{c:Expr}{t:TT}(h:PT X c t):PF X [c] t:=fun pins s σ H Q I hw=>wpAny_tests_one (h pins s σ H Q I hw)
theorem HOk.add{P:Program}{w:World}{H:Hp}{h:Heap}{a:Addr}{o:HO}(x:HOk P w H h)(hn:H a=none)(new:yh P w (upd H a o) h a o):HOk P w (upd H a o) h:=fun b u e=>by
 by_cases hb:b=a
 ·subst hb;rw[z6]at e;cases e;exact new
 ·rw[zh hb]at e;exact(x b u e).stay (fun _ _ _ q=>q) (fun c q=>by rw[zh (zo q hn)];exact q) fun c xs q=>by rw[zh (zo q hn)];exact q
theorem Un.add{fs ex:List Addr}{H H':Hp}{h h':Heap}{a:Addr}{o:HO}(u:Un fs ex H H' h h')(ha:h.objs.size<=a)(hn:H' a=none):Un fs ex H (upd H' a o) h h' where
 keep:=u.keep
 slot:=u.slot
 free:=fun b ob q n hx=>by rw[zh (ne_of_lt (lt_of_lt_of_le (Heap.lt_size q) ha))];exact u.free b ob q n hx
 there:=u.there
 tups:=fun b xs q=>by
  have z:=u.tups b xs q;rw[zh (zo z hn)];exact z
 frzs:=fun b ob xs q=>by
  have z:=u.frzs b ob xs q;rw[zh (zo z hn)];exact z
 tbls:=fun b ps q=>by
  obtain⟨more,z⟩:=u.tbls b ps q;exact⟨more,by rw[zh (zo z hn)];exact z⟩
def tCompK(g:TG)(tf:TT)(te:TE)(σ0:St)(J:It)(H:Hp)(Q:VK):Prop :=
 ∃W0:Nat->Nat->List V->St->Hp->Prop,(∃m,W0 0 m [] σ0 H)/\ ∀i m ys σ H,W0 i m ys σ H->
  (J.stop i H/\ys.length<=sizeLine/\ ∀p,H p=none->Q (.ref p) (upd H p (.lst ys)))\/
  (J.go i H/\ys.length<=sizeLine/\ ∃N:List V->St->Hp->Prop,(∀ys σ' H',N ys σ' H'-> ∃m',m'<m/\W0 (i+1) m' ys σ' H')/\ ∀x H1,J.yld i H x H1->g x σ H1 fun σ2 H2=>tf σ2 H2 fun b H3=>if b=true then te σ2 H3 fun v H4=>N (ys++[v]) σ2 H4 else N ys σ2 H3)
def tComp(wi:TI)(ls:List Str)(fr:List (Str×Nat))(g:TG)(tf:TT)(te:TE):TE:=fun σ H Q=>wi σ H fun J H1=>tCompK g tf te (startC ls fr σ) J H1 Q
theorem comp_block{pins:List (Addr×Obj)}{σ:St}{H:Hp}{s:Shared}{it:Addr}{fp:List Addr}{tn:Nat->Heap->Prop}{J:It}{tg elt iter:Expr}{ifs:List Expr}{pos:Pos}{g:TG}{tf:TT}{te:TE}{Q:VK}{E:Value->Shared->Prop}{RR:Value->Addr->Result->Shared->Prop}(S:CScope X scope ls fr)(hc:X.calm=true)(I:Inv X pins σ H s)(T:Turn X.prog X.w X.K tg J fp it tn)(st:tn 0 s.heap)(hf:∀b∈fp,FpOk X pins H b)(hq:tCompK g tf te (startC ls fr σ) J H Q)(hg:∀C s H ex,PG (cxC X scope (ls++fr.map (·.1)) C s H ex) tg g)(ht:∀C s H ex,PF (cxC X scope (ls++fr.map (·.1)) C s H ex) ifs tf)(he:∀C s H ex,PE (cxC X scope (ls++fr.map (·.1)) C s H ex) elt te)(hRR:∀(D C:Addr) (s':Shared) (H':Hp) (m:Str->Option Value),Inv X pins σ H' s'->s'.heap.Ns C m->s.heap.objs.size<=C->H' C=none->Q (.ref D) H'->RR (.ref D) C (.ok .next) s') :
  wpAny (model X.prog X.w) X.A (newList []) (fun acc s₃=>wpAny (model X.prog X.w) X.A (newFunctionEnv scope X.env.globals (clos scope X.env) [] X.env.qual none .none (some X.env)) (fun cenv s₄ =>
   codeAny (model X.prog X.w) X.A (.compStart (.ListComp elt [⟨tg,iter,ifs,0⟩] scope pos) 0 (.ref it) acc {cenv with scope:=relabel scope X.env}) (RR acc cenv.locals) s₄) E s₃) E s:=by
 refine wpAny_newObj_type (wpAny_newFunctionEnv S.nocell (by intro y hy;simp at hy) (fun h₁ hns₁ hsb₁=>?_) S.kind);dsimp only at hns₁ hsb₁ ⊢;generalize hH2:s.heap.push {cls:=.type "list",dict:=none,data:=.seq ([]:List Value).toArray}=H2 at hns₁ hsb₁ ⊢;have hC:H2.objs.size=s.heap.objs.size+1:=by rw[<-hH2,Heap.size_push]
 have hDC:s.heap.objs.size≠H2.objs.size:=by rw[hC];exact ne_of_lt (Nat.lt_succ_self _)
 have hCle:s.heap.objs.size<=H2.objs.size:=by rw[hC];exact le_succ _
 have below:∀b,b<s.heap.objs.size->b≠H2.objs.size/\b≠s.heap.objs.size:=fun b hb=>⟨by rw[hC];exact ne_of_lt (lt_succ_of_lt hb),ne_of_lt hb⟩;have old:∀b o,s.heap.get? b=some o->h₁.get? b=some o:=fun b o e=>hsb₁.extBut b o (below b (Heap.lt_size e)).1 (Heap.get?_push_of_some _ (hH2▸Heap.get?_push_of_some _ e));have hacc:h₁.PlainList s.heap.objs.size #[]:=⟨_,hsb₁.extBut _ _ hDC (Heap.get?_push_of_some _ (hH2▸Heap.get?_push_size _ rfl))⟩;have hfl:∀b∈fp,b<s.heap.objs.size:=fun b hb=>by
  obtain⟨o,e,_⟩:=T.obj _ _ st b hb;exact Heap.lt_size e
 have hex:∀b∈fp,FpOk X pins H b/\b<s.heap.objs.size:=fun b hb=>⟨hf b hb,hfl b hb⟩;generalize hs4:({s with heap:=h₁,toks:=s.toks+([]:List (Str×Value)).length}:Shared)=s4;generalize hX:cxC X scope (ls++fr.map (·.1)) H2.objs.size s H fp=Y;have I4:Inv Y [] (startC ls fr σ) H s4:=by
  rw[<-hX,<-hs4];exact comp_inv S I hCle hex rfl I.bare old hns₁
 have YP:Y.prog=X.prog:=by rw[<-hX];rfl
 have Yw:Y.w=X.w:=by rw[<-hX];rfl
 have YK:Y.K=X.K:=by rw[<-hX];rfl
 have YA:Y.A=X.A:=by rw[<-hX];rfl
 have Yc:Y.calm=true:=by rw[<-hX];exact hc
 have Yx:Y.xe=fun _ _=>False:=by rw[<-hX];rfl
 have Yl:Y.env.locals=H2.objs.size:=by rw[<-hX];rfl
 have Yok:(cxC X scope (ls++fr.map (·.1)) H2.objs.size s H fp).Ok:=comp_ok S I hCle hex;have fpY:∀{H':Hp}{o:Obj},(∀b∈fp,H' b=none)-> ∀b∈fp,FpOk Y [(s.heap.objs.size,o)] H' b:=fun{H' o} hn b hb=>by
  rw[<-hX];obtain⟨f0,f1,f2,f3,f4,f5⟩:=hf b hb;refine⟨hn b hb,(below b (hfl b hb)).1,fun z=>Yok.exfs b hb z,.inl hb,fun x c e=>f4 x c (S.look I e),fun p hp=>?_⟩;have e:p=(s.heap.objs.size,o):=by simpa [cxC]using hp
  subst e;exact Ne.symm (below b (hfl b hb)).2
 have pinD:∀{σ':St}{H':Hp}{s':Shared}{its:Array Value}{n:Nat},Inv Y [] σ' H' s'->H' s.heap.objs.size=none->s'.heap.get? s.heap.objs.size=some {cls:=.type "list",data:=.seq its n}->
   Inv Y [(s.heap.objs.size,{cls:=.type "list",data:=.seq its n})] σ' H' s':=fun{σ' H' s' its n} I' hn e=>I'.pins_of fun p hp=>by
  have ep:p=(s.heap.objs.size,{cls:=.type "list",data:=.seq its n}):=by simpa using hp
  subst ep;refine⟨e,hn,by rw[Yl];exact hDC,?_,fun v z=>nomatch z⟩;rw[<-hX];exact fun hb=>I.nofs (le_refl _) ((mem_cons.mp (I.stkSub _ hb)).resolve_left fun z=>absurd I.lt (by rw[<-z];exact lt_irrefl _))
 obtain⟨W0,⟨m0,w0⟩,turn⟩:=hq;have E1:∀{α:Type}{t:Sem α}{Q1:α->Shared->Prop}{s1:Shared}{E1:Value->Shared->Prop},wpAny (model X.prog X.w) X.A t Q1 Y.xe s1->wpAny (model X.prog X.w) X.A t Q1 E1 s1:=fun h=>wpAny_mono h (fun _ _ z=>z) fun _ _ z=>by rw[Yx]at z;exact z.elim
 have endC:∀{σ':St}{H':Hp}{s':Shared}{its:List Value}{ys:List V},Inv Y [] σ' H' s'->H' s.heap.objs.size=none->s'.heap.PlainList s.heap.objs.size its.toArray->Vals ys its->ys.length<=sizeLine->
   (∀p,H' p=none->Q (.ref p) (upd H' p (.lst ys)))->RR (.ref s.heap.objs.size) H2.objs.size (.ok .next) s':=fun{σ' H' s' its ys} I' hn ⟨n,e⟩ rv hz q=>by
  subst hX;obtain⟨m,hm,_⟩:=id I'.loc;have hCn:H' H2.objs.size=none:=I'.free;refine hRR _ _ s' (upd H' s.heap.objs.size (.lst ys)) m (I.call' I'.os (Un.add I'.base (le_refl _) hn) (I'.hok.add hn ⟨hz,its,n,rv,e⟩) I'.bare fun b hb=>?_) hm hCle (by rw[zh (Ne.symm hDC)];exact hCn) (q _ hn);obtain⟨f0,f1,f2,f3,f4,f5⟩:=hf b hb;exact⟨f3,f1,f4,f5⟩
 have loop:codeAny (model X.prog X.w) X.A (.compLoop (.ListComp elt [⟨tg,iter,ifs,0⟩] scope pos) 0 (.ref it) (.ref s.heap.objs.size) Y.env) (RR (.ref s.heap.objs.size) H2.objs.size) s4:=by
  refine comp_loop_any (fun n s'=>∃(i:Nat)(σ':St)(H':Hp)(ys:List V)(its:List Value),Inv Y [] σ' H' s'/\tn i s'.heap/\(∀b∈fp,H' b=none)/\H' s.heap.objs.size=none/\s'.heap.PlainList s.heap.objs.size its.toArray/\Vals ys its/\W0 i n ys σ' H') ?_ m0
   ⟨0,startC ls fr σ,H,[],[],I4,T.keep _ _ _ st fun b _ o e=>by rw[<-hs4];exact old b o e,fun b hb=>(hf b hb).1,I.hok.fresh (le_refl _),by rw[<-hs4];exact hacc,.nil,w0⟩
  rintro n s5 ⟨i,σ5,H5,ys,its,I5,st5,fr5,hn5,⟨nn,e5⟩,rv,w5⟩;have I5p:=pinD I5 hn5 e5;rcases turn i n ys σ5 H5 w5 with⟨stop,hz,qn⟩|⟨go,hz,NN,hNN,step⟩
  ·rw[<-YA];refine thn (T.done Y YP Yw YK Yc i _ s5 σ5 H5 _ I5p (fpY fr5) st5 stop) fun r s6 ⟨hr,I6⟩=>?_;subst hr;exact endC (I6.pins_of fun p hp=>nomatch hp) hn5 ⟨nn,(I6.pin _ (mem_append_right _ mem_cons_self)).1⟩ rv hz qn
  ·have hit:=T.item Y YP Yw YK Yc i _ s5 σ5 H5 (notedBy (model X.prog X.w) X.A Y.env fun e s'=>RR (Value.ref s.heap.objs.size) H2.objs.size (Except.error e) s') I5p (fpY fr5) st5 go;rw[YA]at hit;refine thn hit fun r s6 ⟨u,hr,h6⟩=>?_;subst hr;refine thn h6 fun _ s7 ⟨x,H7,I7,r7,y7,st7,fr7⟩=>?_;have I7':=I7.pinned (fpY fr7) (T.obj _ _ st7);have h8:=hg H2.objs.size s H fp;have h9:=ht H2.objs.size s H fp;have h10:=he H2.objs.size s H fp;rw[hX]at h8 h9 h10;have a8:=h8 _ s7 σ5 H7 x u _ I7' r7 (step x H7 y7);rw[YP,Yw,YA]at a8;refine thn (E1 a8) fun _ s8 ⟨σ8,H8,I8,q8⟩=>?_;have a9:=h9 _ s8 σ8 H8 _ I8 q8;rw[YP,Yw,YA]at a9;refine thn (E1 a9) fun b s9 ⟨H9,I9,q9⟩=>?_;have back:∀{σ':St}{H':Hp}{s':Shared},Inv Y ([(s.heap.objs.size,{cls:=.type "list",data:=.seq its.toArray nn})]++pinsAt fp s7.heap) σ' H' s'->
     tn (i+1) s'.heap/\(∀b∈fp,H' b=none)/\H' s.heap.objs.size=none/\s'.heap.PlainList s.heap.objs.size its.toArray:=fun{σ' H' s'} I'=>by
    have hp:=I'.pin (s.heap.objs.size,{cls:=.type "list",data:=.seq its.toArray nn}) (mem_append_right _ (List.mem_append_left _ mem_cons_self));refine⟨T.keep _ _ _ st7 fun b hb o e=>(I'.pin (b,o) (mem_append_right _ (mem_append_right _ (mem_pinsAt hb e)))).1,fun b hb=>?_,hp.2.1,⟨nn,hp.1⟩⟩;obtain⟨o,e,d⟩:=T.obj _ _ st7 b hb;exact(I'.pin (b,o) (mem_append_right _ (mem_append_right _ (mem_pinsAt hb e)))).2.1
   cases b with
   |false =>
    rw[if_neg Bool.false_ne_true]at q9 ⊢;obtain⟨m',hm,w9⟩:=hNN _ _ _ q9;obtain⟨z1,z2,z3,z4⟩:=back I9;exact⟨m',hm,i+1,σ8,H9,ys,its,I9.pins_of (fun p hp=>nomatch hp),z1,z2,z3,z4,rv,w9⟩
   |true =>
    rw[if_pos rfl]at q9 ⊢;have a10:=h10 _ s9 σ8 H9 _ I9 q9;rw[YP,Yw,YA]at a10;refine thn (E1 a10) fun xv s10 ⟨v,H10,I10,rx,q10⟩=>?_;obtain⟨m',hm,w10⟩:=hNN _ _ _ q10;obtain⟨z1,z2,z3,z4⟩:=back I10;have hlen:its.length=ys.length:=(rv.length).symm;refine wpAny_list_append_plain z4 (fun h' pl sb=>?_) (by rw[size_toArray,hlen];exact hz);refine⟨m',hm,i+1,σ8,H10,ys++[v],its++[xv],?_,?_,z2,z3,?_,rv.append (.cons rx .nil),w10⟩
    ·have I10':Inv Y [] σ8 H10 s10:=I10.pins_of fun p hp=>nomatch hp
     refine I10'.turned (t':=s10.toks) (it:=s.heap.objs.size) (fun b o hb e=>(sb.2 b hb).trans e) z3 (by rw[Yl];exact hDC) (.inr ?_) (fun x c e=>?_) fun p hp=>?_
     ·rw[<-hX];exact le_refl _
     ·rw[<-hX]at e;intro z;obtain⟨v0,q0⟩:=I.cell x c (S.look I e);exact absurd q0.lt (by rw[z];exact lt_irrefl _)
     ·rw[<-hX]at hp;exact nomatch hp
    ·refine T.keep _ _ _ z1 fun b hb o e=>(sb.2 b (below b (hfl b hb)).2).trans e
    ·have:(its++[xv]).toArray=its.toArray.push xv:=by simp
     rw[this];exact pl
 have hYe:Y.env={newEnv scope H2.objs.size X.env.globals (clos scope X.env) X.env.qual none .none (some X.env) builtinsNs with scope:=relabel scope X.env}:=by rw[<-hX];rfl
 rw[<-hYe];rw[hYe]at loop ⊢;refine codeAny_compStart_list loop ?_;exact T.self _ 0 _ _ _ (T.keep _ _ _ st fun b _ o e=>by rw[<-hs4];exact old b o e) loop
theorem zY{wi:TI}{tg elt iter:Expr}{ifs:List Expr}{pos:Pos}{g:TG}{tf:TT}{te:TE}(S:CScope X scope ls fr)(hc:X.calm=true)(hi:PI X tg iter wi)(hg:∀C s H ex,PG (cxC X scope (ls++fr.map (·.1)) C s H ex) tg g)(ht:∀C s H ex,PF (cxC X scope (ls++fr.map (·.1)) C s H ex) ifs tf)(he:∀C s H ex,PE (cxC X scope (ls++fr.map (·.1)) C s H ex) elt te)(hs:∀x,foldedSetIterable iter X.env x=pure x:=by intro _;rfl):PE X (.ListComp elt [⟨tg,iter,ifs,0⟩] scope pos) (tComp wi ls fr g tf te):=by
 intro pins s σ H Q I h;rw[eval_ListComp];refine wpAny_comprehension_free (use:=none) rfl hs (closureFor_eq (S.cells I)) S.kind S.names (thn (hi pins s σ H _ I h) fun xv s₁ h₁=>thn h₁ fun itv s₂ h₂=>?_);obtain⟨it,fp,tn,J,H2,rfl,I2,T,st,hf,q⟩:=h₂;refine comp_block (RR:=fun acc C=>compPost (model X.prog X.w) X.A X.xe none (EP X pins σ Q) acc C) S hc I2 T st hf q hg ht he ?_;intro D C s' H' m I' hn hC hCn hq;refine⟨m,hn,fun h' sb=>?_⟩;have nC:∀{b:Addr},b<s₂.heap.objs.size->b≠C:=fun hb=>ne_of_lt (lt_of_lt_of_le hb hC);refine⟨.ref D,H',I'.turned (t':=s'.toks) (it:=C) (fun b o hb e=>(sb.2 b hb).trans e) hCn (Ne.symm (nC I2.lt)) (.inr (le_trans I2.sz hC)) (fun x c e=>?_) fun p hp=>?_,rfl,hq⟩
 ·obtain⟨v0,q0⟩:=I2.cell x c e;exact nC q0.lt
 ·exact nC (Heap.lt_size (I2.pin p hp).1)
theorem ps_comp{wi:TI}{tg elt iter:Expr}{ifs:List Expr}{pos spos py:Pos}{y:Str}{i:Nat}{g:TG}{tf:TT}{te:TE}(S:CScope X scope ls fr)(hc:X.calm=true)(hi:PI X tg iter wi)(hg:∀C s H ex,PG (cxC X scope (ls++fr.map (·.1)) C s H ex) tg g)(ht:∀C s H ex,PF (cxC X scope (ls++fr.map (·.1)) C s H ex) ifs tf)(he:∀C s H ex,PE (cxC X scope (ls++fr.map (·.1)) C s H ex) elt te)(hN:X.N.Nodup)(hy:X.N[i]? =some y)(hl:X.env.scope.names.lookup y=some .local)(hsw:swapsWith (.ListComp elt [⟨tg,iter,ifs,0⟩] scope pos) (some (.Name y py)) spos.line X.env=pure true)(hs:∀x,foldedSetIterable iter X.env x=pure x:=by intro _;rfl):PS X (.Assign [.Name y py] (.ListComp elt [⟨tg,iter,ifs,0⟩] scope pos) spos) (tAsg (tComp wi ls fr g tf te) (jL i)):=by
 intro pins s σ H D I h;rw[exec_Assign_Name_used _ _ _ _ hsw];refine wpAny_bind (wpAny_standAt (wpAny_bind ?_));show wpAny _ X.A (do let _ <-comprehension (.ListComp elt [⟨tg,iter,ifs,0⟩] scope pos) scope X.env _ (newList []) false (eval iter X.env) (some (assign (.Name y py) X.env))) _ _ s;refine wpAny_bind (wpAny_mono (wpAny_comprehension_free (use:=some (assign (.Name y py) X.env)) (Q:=fun _ s'=>SP X pins D .next s') rfl hs (closureFor_eq (S.cells I)) S.kind S.names
  (thn (hi pins s σ H _ I h) fun xv s₁ h₁=>thn h₁ fun itv s₂ h₂=>?_)) (fun _ s' hq=>wpAny_pure (wpAny_pure hq)) fun _ _ e=>e)
 obtain⟨it,fp,tn,J,H2,rfl,I2,T,st,hf,q⟩:=h₂;refine comp_block (RR:=fun acc C=>compPost (model X.prog X.w) X.A X.xe (some (assign (.Name y py) X.env)) (fun _ s'=>SP X pins D .next s') acc C) S hc I2 T st hf q hg ht he ?_;intro D1 C s' H' m I' hn hC hCn hq;have nC:∀{b:Addr},b<s₂.heap.objs.size->b≠C:=fun hb=>ne_of_lt (lt_of_lt_of_le hb hC);have cC:∀x c,X.env.cells.lookup x=some c->c≠C:=fun x c e=>by
  obtain⟨v0,q0⟩:=I2.cell x c e;exact nC q0.lt
 show wpAny _ X.A (assign (.Name y py) X.env (.ref D1)) _ _ _;refine wpAny_assign_Name (store_ok2 I' hN hy (.inl hl) (v:=.ref D1) rfl (fun s3 I3 hsb=>?_) (.inr hl));obtain⟨a,sb1,ha⟩:=hsb;have haC:C≠a:=by
  rcases ha with rfl|e
  ·exact Ne.symm (nC I2.lt)
  ·exact Ne.symm (cC _ _ e)
 refine⟨m,hn.sameBut sb1 haC,fun h' sb=>⟨_,H',I3.turned (t':=s3.toks) (it:=C) (fun b o hb e=>(sb.2 b hb).trans e) hCn (Ne.symm (nC I2.lt)) (.inr (le_trans I2.sz hC)) cC fun p hp=>nC (Heap.lt_size (I2.pin p hp).1),hq⟩⟩
end
theorem yY{K:W.Frag}{a:Addr}{xs:List V}{g:TG}{tf:TT}{te:TE}{σ:St}{H:Hp}{Q:VK}(Pv:Nat->List V->St->Hp->Prop)(h0:Pv 0 [] σ H)(hl:∀i ys σ H,i<=xs.length->Pv i ys σ H->SqL K H a xs/\ys.length<=sizeLine)(hs:∀i x ys σ H,xs[i]? =some x->Pv i ys σ H->g x σ H fun σ2 H2=>tf σ2 H2 fun b H3=>if b=true then te σ2 H3 fun v H4=>Pv (i+1) (ys++[v]) σ2 H4 else Pv (i+1) ys σ2 H3)(hd:∀ys σ H,Pv xs.length ys σ H-> ∀p,H p=none->Q (.ref p) (upd H p (.lst ys))):tCompK g tf te σ (Itl K a) H Q:=by
 refine⟨fun i m ys σ H=>m=xs.length-i/\i<=xs.length/\Pv i ys σ H,⟨xs.length,by simp,zero_le _,h0⟩,?_⟩;rintro i m ys σ H ⟨rfl,hi,p⟩;obtain⟨q,hz⟩:=hl i ys σ H hi p;by_cases hlt:i<xs.length
 ·refine .inr ⟨⟨xs,xs[i],q,by simp[hlt]⟩,hz,Pv (i+1),fun ys' σ' H' p'=>⟨xs.length-(i+1),by omega,rfl,hlt,p'⟩,fun x H' y=>?_⟩;obtain⟨e,y⟩:=y;subst e;exact hs i x ys σ _ (y xs q) p
 ·have e:i=xs.length:=by omega
  subst e;exact .inl ⟨⟨xs,q,le_refl _⟩,hz,hd ys σ H p⟩
theorem comp_tup{K:W.Frag}{a:Addr}{xs:List V}{g:TG}{tf:TT}{te:TE}{σ:St}{H:Hp}{Q:VK}(Pv:Nat->List V->St->Hp->Prop)(h0:Pv 0 [] σ H)(hl:∀i ys σ H,i<=xs.length->Pv i ys σ H->SqT K H a xs/\ys.length<=sizeLine)(hs:∀i x ys σ H,xs[i]? =some x->Pv i ys σ H->g x σ H fun σ2 H2=>tf σ2 H2 fun b H3=>if b=true then te σ2 H3 fun v H4=>Pv (i+1) (ys++[v]) σ2 H4 else Pv (i+1) ys σ2 H3)(hd:∀ys σ H,Pv xs.length ys σ H-> ∀p,H p=none->Q (.ref p) (upd H p (.lst ys))):tCompK g tf te σ (Itt K a) H Q:=by
 refine⟨fun i m ys σ H=>m=xs.length-i/\i<=xs.length/\Pv i ys σ H,⟨xs.length,by simp,zero_le _,h0⟩,?_⟩;rintro i m ys σ H ⟨rfl,hi,p⟩;obtain⟨q,hz⟩:=hl i ys σ H hi p;by_cases hlt:i<xs.length
 ·refine .inr ⟨⟨xs,xs[i],q,by simp[hlt]⟩,hz,Pv (i+1),fun ys' σ' H' p'=>⟨xs.length-(i+1),by omega,rfl,hlt,p'⟩,fun x H' y=>?_⟩;obtain⟨e,y⟩:=y;subst e;exact hs i x ys σ _ (y xs q) p
 ·have e:i=xs.length:=by omega
  subst e;exact .inl ⟨⟨xs,q,le_refl _⟩,hz,hd ys σ H p⟩
theorem comp_range{lo:Int}{n:Nat}{g:TG}{tf:TT}{te:TE}{σ:St}{H:Hp}{Q:VK}(Pv:Nat->List V->St->Hp->Prop)(h0:Pv 0 [] σ H)(hl:∀i ys σ H,i<=n->Pv i ys σ H->ys.length<=sizeLine)(hs:∀i ys σ H,i<n->Pv i ys σ H->g (.int (lo+i)) σ H fun σ2 H2=>tf σ2 H2 fun b H3=>if b=true then te σ2 H3 fun v H4=>Pv (i+1) (ys++[v]) σ2 H4 else Pv (i+1) ys σ2 H3)(hd:∀ys σ H,Pv n ys σ H-> ∀p,H p=none->Q (.ref p) (upd H p (.lst ys))):tCompK g tf te σ (Itr lo n) H Q:=by
 refine⟨fun i m ys σ H=>m=n-i/\i<=n/\Pv i ys σ H,⟨n,by simp,zero_le _,h0⟩,?_⟩;rintro i m ys σ H ⟨rfl,hi,p⟩;have hz:=hl i ys σ H hi p;by_cases hlt:i<n
 ·refine .inr ⟨hlt,hz,Pv (i+1),fun ys' σ' H' p'=>⟨n-(i+1),by omega,rfl,hlt,p'⟩,fun x H' y=>?_⟩;obtain⟨e,y⟩:=y;subst e y;exact hs i ys σ _ hlt p
 ·have e:i=n:=by omega
  subst e;exact .inl ⟨le_refl _,hz,hd ys σ H p⟩
def cscopeB(sc:Scope)(N:List Str)(scope:Scope)(fr:List (Str×Nat)):Bool :=
 (scope.kind== .function)&&scope.names.all (fun y=>y.2 != .cell)&&scope.names.all (fun y=>y.2 != .local||scope.names.lookup y.1==some .local)&&
 scope.names.all (fun y=>y.2 != .free||sc.names.lookup y.1==some .cell||sc.names.lookup y.1==some .free)&&fr.all (fun p=>N[p.2]? ==some p.1&&scope.names.lookup p.1==some .free)
theorem cs_of{X:Cx}{scope:Scope}{ls:List Str}{fr:List (Str×Nat)}(sc:Scope)(N:List Str)(h1:X.env.scope=sc)(h2:X.N=N)(h:cscopeB sc N scope fr=true):CScope X scope ls fr:=by
 subst h1 h2;simp only[cscopeB,and_eq_true,all_eq_true,Bool.or_eq_true,bne_iff_ne,beq_iff_eq,ne_eq]at h;obtain⟨⟨⟨⟨a,b⟩,c⟩,d⟩,e⟩:=h;refine⟨a,b,fun y hy hk=>(c y hy).resolve_left fun z=>z hk,fun y hy hk=>?_,e⟩;rcases d y hy with(z|z)|z
 ·exact absurd hk z
 ·exact .inl z
 ·exact .inr z
theorem pgc{X:Cx}{scope:Scope}{ls:List Str}{fr:List (Str×Nat)}{C:Addr}{s:Shared}{H:Hp}{ex:List Addr}{x:Str}{pos:Pos}(i:Nat)(hN:(ls++fr.map (·.1)).Nodup)(hi:(ls++fr.map (·.1))[i]? =some x)(hx:scope.names.lookup x=some .local) :
  PG (cxC X scope (ls++fr.map (·.1)) C s H ex) (.Name x pos) (jL i) :=
 pg_name hN hi (.inl (lookup_relabel_local hx)) (.inr (lookup_relabel_local hx))
def relN(scope sc:Scope):List (Str×NameKind):=scope.names.map fun(n,k)=>if(k== .free&&sc.kind== .function&&sc.names.lookup n==some .cell)then(n,.cell)else(n,k)
def visB(scope sc:Scope)(x:Str):Bool:=match(relN scope sc).lookup x with|some .local=>true|some .cell=>true|some .free=>true| _=>false
theorem pvc(sc:Scope)(i:Nat){X:Cx}{scope:Scope}{N:List Str}{C:Addr}{s:Shared}{H:Hp}{ex:List Addr}{x:Str}{pos:Pos}(hN:N[i]? =some x:=by rfl)(hs:X.env.scope=sc:=by rfl)(hv:visB scope sc x=true:=by decide+kernel)(hd:(x==("__debug__" : Str))=false:=by decide+kernel)(hcd:(x==("__classdict__" : Str))=false:=by decide+kernel):PE (cxC X scope N C s H ex) (.Name x pos) (tVar i):=by
 subst hs;refine pe_var hN ?_ hd hcd;have hv':visB scope X.env.scope x=true:=hv;unfold visB at hv';show(relN scope X.env.scope).lookup x=some .local\/(relN scope X.env.scope).lookup x=some .cell\/(relN scope X.env.scope).lookup x=some .free;split at hv'
 ·rename_i e;exact .inl e
 ·rename_i e;exact .inr (.inl e)
 ·rename_i e;exact .inr (.inr e)
 ·cases hv'
theorem glc(sc:Scope){X:Cx}{scope:Scope}{N:List Str}{C:Addr}{s:Shared}{H:Hp}{ex:List Addr}{x:Str}(hs:X.env.scope=sc:=by rfl)(h:((relN scope sc).lookup x==some .globalImplicit)=true:=by decide+kernel):Gl (cxC X scope N C s H ex) x:=by
 subst hs;exact eq_of_beq h
def insD(x:Int):List Int->List Int
 | []=>[x]
 |y::r=>if y<=x then x::y::r else y::insD x r
def jF:List Int->List Int
 | []=>[]
 |x::r=>insD x (jF r)
theorem insD_perm(x:Int):∀l:List Int,(insD x l).Perm (x::l)
 | []=>.refl _
 |y::r=>by
  unfold insD;split
  ·exact .refl _
  ·exact((insD_perm x r).cons y).trans (.swap x y r)
theorem yb:∀l:List Int,(jF l).Perm l
 | []=>.refl _
 |x::r=>(insD_perm x _).trans ((yb r).cons x)
theorem insD_pw(x:Int):∀{l:List Int},l.Pairwise (· >= ·)->(insD x l).Pairwise (· >= ·)
 | [],_=>by simp[insD]
 |y::r,h=>by
  obtain⟨h1,h2⟩:=pairwise_cons.mp h;unfold insD;split
  ·rename_i hy;refine pairwise_cons.mpr ⟨fun z hz=>?_,h⟩;rcases mem_cons.mp hz with rfl|hz
   ·exact hy
   ·exact Int.le_trans (h1 z hz) hy
  ·rename_i hy;refine pairwise_cons.mpr ⟨fun z hz=>?_,insD_pw x h2⟩;rcases mem_cons.mp ((insD_perm x r).mem_iff.mp hz)with rfl|hz
   ·show z<=y;omega
   ·exact h1 z hz
theorem sortD_pw:∀l:List Int,(jF l).Pairwise (· >= ·)
 | []=>.nil
 |x::r=>insD_pw x (sortD_pw r)
theorem perm_ge_eq{a b:List Int}(ha:a.Pairwise (· >= ·))(hb:b.Pairwise (· >= ·))(p:a.Perm b):a=b :=
 p.eq_of_pairwise (le:=fun x y=>x>=y) (fun x y _ _ h1 h2=>Int.le_antisymm h2 h1) ha hb
theorem sortD_eq{a l:List Int}(p:a.Perm l)(h:a.Pairwise (· >= ·)):a=jF l:=perm_ge_eq h (sortD_pw l) (p.trans (yb l).symm)
theorem sortD_id{l:List Int}(h:l.Pairwise (· >= ·)):jF l=l:=(sortD_eq (.refl l) h).symm
section
variable{prog:Program}{w:World}{A:Around}{E:Value->Shared->Prop}{s:Shared}
theorem sorted_ints_revT{l:Addr}{vs:List Value}{ns:List Int}{b:Bool}{Q:Value->Shared->Prop}(hl:IsTup s.heap l vs.toArray)(hI:IntsAre vs ns)(h64:vs.length<64)(h:∀(out:List Value) (n:Nat) (h1 h':Heap) (ns':List Int),(∀b o,s.heap.get? b=some o->h1.get? b=some o)->(∀b o,h1.get? b=some o->h'.get? b=some o)->h'.get? h1.objs.size=some (seqObj "list" out.toArray n)->IntsAre out ns'->ns'.Perm ns->Ordered b ns'->Q (.ref h1.objs.size) {s with heap:=h'}) :
  wpAny (model prog w) A (call (.builtin "sorted") [.ref l] [(Str.ofString "reverse",.bool b)]) Q E s:=by
 refine call_function_entry_kw kind_sorted plain_sorted entry_sorted (args_sorted_rev _ _) ?_;unfold Builtin.«sorted»;refine wpAny_bind (m:=checkCount "sorted" 1 1 _) (wpAny_pure ?_);obtain⟨o,ho,hc,n,hd⟩:=hl;refine wpAny_bind (wpAny_collect_seq l (.inr rfl) ho hc hd (fun h1 hk1=>?_) (by simp[sizeLine_eq];omega));refine wpAny_bind (wpAny_newList ?_);have hoL:(h1.push (seqObj "list" vs.toArray 0)).get? h1.objs.size=some (seqObj "list" vs.toArray 0):=Heap.get?_push_size _ rfl;refine wpAny_bind (wpAny_holding (wpAny_call_entry_kw slot_list_sort ⟨_,hoL,rfl⟩ entry_list_sort (list_sort_tree_rev hoL hI h64 fun out ns' a1 a2 a3=>⟨_,rfl,?_⟩) (args_list_sort_rev _ _)));obtain⟨e,he⟩:=sortedHeap_at (vs:=vs) (out:=out) hoL;refine wpAny_pure ⟨_,rfl,h out.toList e h1 _ ns' hk1 (fun b o hb=>?_) he a1 a2 a3⟩;have hlt:=Heap.lt_size hb;rw[sortedHeap_old (ne_of_lt hlt) (by rw[Heap.size_push];exact lt_succ_of_lt hlt)];exact Heap.get?_push_of_some _ hb
end
section
variable{X:Cx}
def rSortR(K:W.Frag)(b:Bool):V->Hp->VK->Prop:=fun x H Q=>∃ a ns,x= .ref a/\(SqL K H a (ns.map V.int)\/SqT K H a (ns.map V.int))/\ns.length<64/\ ∀ns' p,ns'.Perm ns->Ordered b ns'->H p=none->Q (.ref p) (upd H p (.lst (ns'.map V.int)))
def tSortR(K:W.Frag)(b:Bool)(te:TE):TE:=fun σ H Q=>te σ H fun x H1=>rSortR K b x H1 Q
theorem yR{n:Nat}(h:n<64):n<=sizeLine:=le_trans (Nat.le_of_lt h) (by decide)
theorem pe_sortR{e:Expr}{te:TE}{b:Bool}{p kp cp pos:Pos}{j:Nat}(hg:Gl X "sorted")(hm:X.mg "sorted"=none)(he:PE X e te)(hse:starEach [e] X.env=[(false,eval e X.env)]:=by rfl):PE X (.Call (.Name "sorted" p) [e] [⟨some "reverse",.Constant (.bool b) j cp,kp⟩] pos) (tSortR X.K b te):=by
 intro pins s σ H Q I h;refine wpAny_Call_Name_kw (jM I hg hm boot_sorted ?_ (by decide) (by decide));refine callWith_kw (thn (kr he ye hse pos pins s σ H (fun vs H1=>match vs with| [x]=>rSortR X.K b x H1 Q| _=>False) I h) fun us s1 ⟨vs,H1,I1,r1,q1⟩=>?_) (by rw[hse];rfl) (by rw[hse];rfl)
 match vs,r1,q1 with
 | [x],r1,q =>
  obtain⟨u,rfl,ru⟩:=vals1 r1;refine kws_cons (Constant_bool (kws_nil ?_));obtain⟨a,ns,rfl,hq,hl,q⟩:=q;cases ru;show wpAny _ _ (call (.builtin "sorted") [.ref a] [(Str.ofString "reverse",.bool b)]) _ _ _;rcases hq with hq|hq
  ·obtain⟨its,r',pl,hz⟩:=I1.list hq;have hlen:=r'.length;rw[length_map]at hlen;refine sorted_ints_rev pl.isList (intsAre_of r') (by omega) fun out ns' a1 a2 a3=>?_;obtain⟨n,hn⟩:=sortedAll_at s1.heap its out;have hz':(ns'.map V.int).length<=sizeLine:=by rw[length_map,a2.length_eq];exact yR hl
   exact⟨.ref _,_,I1.laid (t':=s1.toks) (fun _ _=>sortedAll_old) (le_succ _) (show yh X.prog X.w _ _ _ (.lst (ns'.map V.int))from⟨hz',out.toList,n,vals_ints a1,by simpa [seqObj]using hn⟩),rfl,q ns' _ a2 a3 (I1.hok.fresh (le_succ _))⟩
  ·obtain⟨its,r',pl,hz⟩:=I1.tuple hq;have hlen:=r'.length;rw[length_map]at hlen;refine sorted_ints_revT pl (intsAre_of r') (by omega) fun out n h1 h' ns' k1 k2 e a1 a2 a3=>?_;have hz':(ns'.map V.int).length<=sizeLine:=by rw[length_map,a2.length_eq];exact yR hl
   have I2:Inv X pins σ H1 {s1 with heap:=h1}:=I1.kept (t':=s1.toks) k1;exact⟨.ref _,_,I2.laid (t':=s1.toks) k2 (le_refl _) (show yh X.prog X.w _ _ _ (.lst (ns'.map V.int))from⟨hz',out,n,vals_ints a1,by simpa [seqObj]using e⟩),rfl,q ns' _ a2 a3 (I2.hok.fresh (le_refl _))⟩
theorem preSum_list(ns:List Int):∀j,preSum (fun i=>ns.getD i 0) j=(ns.take j).sum
 | 0=>by simp[preSum]
 |j+1=>by
  rw[preSum,preSum_list ns j];by_cases h:j<ns.length
  ·rw[take_succ_eq_append_getElem h,List.sum_append,List.sum_cons,List.sum_nil];have e:ns.getD j 0=ns[j]:=by simp[h]
   rw[e];omega
  ·rw[take_of_length_le (by omega),take_of_length_le (by omega)];have:ns[j]? =none:=List.getElem?_eq_none (by omega);simp[List.getD,this]
theorem yS{ns:List Int}{its:List Value}(r:Vals (ns.map V.int) its)(i:Nat)(v:Value)(e:its.toArray[i]? =some v):∃t,v= .int (ns.getD i 0) t:=by
 have e':its[i]? =some v:=by simpa using e
 have hi:i<its.length:=(List.getElem?_eq_some_iff.mp e').1;have hl:=r.length;rw[length_map]at hl;have hx:(ns.map V.int)[i]? =some (V.int (ns.getD i 0)):=by
  have hi':i<ns.length:=by omega
  simp[hi']
 obtain⟨u,hu,t,rfl⟩:=r.get hx;rw[e']at hu;cases hu;exact⟨t,rfl⟩
theorem call_sum_ints(hc:X.calm=true):jH X (.builtin "sum") (fun xs H Q=>∃(a:Addr)(ns:List Int),xs=[.ref a]/\(SqL X.K H a (ns.map V.int)\/SqT X.K H a (ns.map V.int))/\Q (.int ns.sum) H):=by
 intro pins s σ H xs us Q I r h;obtain⟨a,ns,rfl,hq,q⟩:=h;obtain⟨u,rfl,ru⟩:=vals1 r;cases ru;have hh:X.A.in1.handled=none:=I.ok.hd hc;have fin:∀{its:List Value}(h':Heap)(tk:Nat)(t':Tok),Vals (ns.map V.int) its->(∀b o,s.heap.get? b=some o->h'.get? b=some o)->EP X pins σ Q (.int (preSum (fun i=>ns.getD i 0) its.toArray.size) t') {s with heap:=h',toks:=tk}:=fun{its} h' tk t' r' hk=>by
  have hl:=r'.length;rw[length_map]at hl;refine⟨.int ns.sum,H,I.kept hk,⟨t',?_⟩,q⟩;rw[preSum_list,size_toArray,<-hl,take_length]
 rcases hq with hq|hq
 ·obtain⟨its,r',pl,hz⟩:=I.list hq;have hlt:a<s.heap.objs.size:=by obtain⟨_,e,_⟩:=pl.isList;exact Heap.lt_size e
  refine call_sum_walkG (wpAny_pyIter_list pl.isList ⟨_,_,_,_,_,_,fun i=>ns.getD i 0,rfl,Walks.list (A:=X.A.in1) hh _ a (ne_of_lt hlt) its.toArray,⟨⟨_,Heap.get?_push_size _ rfl,rfl,rfl⟩,pl.isList.push _⟩,fun b hb=>?_,yS r',fun h' tk t' hk=>fin h' tk t' r' fun b o e=>hk b o (by simpa using ne_of_lt (Heap.lt_size e)) (Heap.get?_push_of_some _ e)⟩);show b<(s.heap.push _).objs.size;rw[Heap.size_push];rcases mem_cons.mp hb with rfl|hb
  ·exact Nat.lt_succ_self _
  ·rcases mem_cons.mp hb with rfl|hb
   ·exact lt_succ_of_lt hlt
   ·cases hb
 ·obtain⟨its,r',pl,hz⟩:=I.tuple hq;have pl':s.heap.IsTuple a its.toArray:=pl;have hlt:a<s.heap.objs.size:=by obtain⟨_,e,_⟩:=pl;exact Heap.lt_size e
  refine call_sum_walkG (wpAny_pyIter_tuple pl' ⟨_,_,_,_,_,_,fun i=>ns.getD i 0,rfl,Walks.tuple (A:=X.A.in1) hh _ a (ne_of_lt hlt) its.toArray,⟨⟨_,Heap.get?_push_size _ rfl,rfl,rfl⟩,pl'.at fun o e=>Heap.get?_push_of_some _ e⟩,fun b hb=>?_,yS r',fun h' tk t' hk=>fin h' tk t' r' fun b o e=>hk b o (by simpa using ne_of_lt (Heap.lt_size e)) (Heap.get?_push_of_some _ e)⟩);show b<(s.heap.push _).objs.size;rw[Heap.size_push];rcases mem_cons.mp hb with rfl|hb
  ·exact Nat.lt_succ_self _
  ·rcases mem_cons.mp hb with rfl|hb
   ·exact lt_succ_of_lt hlt
   ·cases hb
def cntV(y:V)(xs:List V):Nat:=xs.countP fun x=>eqV x y
theorem cnt_eqU{x:V}:∀{xs:List V}{us:List Value},Vals xs us->xs.all flatV=true->us.countP (eqU x)=cntV x xs
 | _,_,.nil,_=>rfl
 |y::xs,u::us,.cons r t,f=>by
  rw[List.all_cons,and_eq_true]at f;unfold cntV;rw[List.countP_cons,List.countP_cons,eqU_of r f.1,cnt_eqU t f.2];rfl
def rCount(K:W.Frag)(SQ:W.Frag->Hp->Addr->List V->Prop):V->List V->Hp->VK->Prop:=fun x vs H Q=>∃ a xs y,x= .ref a/\vs=[y]/\SQ K H a xs/\flatV y=true/\xs.all flatV=true/\Q (.int (cntV y xs)) H
theorem mt_countT:MtR X "tuple.count" (rCount X.K SqT):=by
 intro pins s σ H x vs v us Q I rx rv h;obtain⟨a,xs,y,rfl,rfl,hq,fy,fs,q⟩:=h;cases rx;obtain⟨u,rfl,ru⟩:=rv.one;obtain⟨its,r,pl,hz⟩:=I.tuple hq;obtain⟨o,ho,hc,n,hd⟩:=pl;obtain⟨c,dd,dt,sl⟩:=o;cases hc;cases hd;refine call_meets F.slot_tuple_count ⟨_,ho,rfl⟩ F.entry_tuple_count (F.args_tuple_count_2 _ _) (SeqAt.tuple_countAt a its.toArray n dd sl u (eqU y)) ⟨ho,fun w hw=>mem_eqAt ru fy r fs w (by simpa using hw),?_⟩;refine⟨.int _,H,I.tok _,⟨s.toks,?_⟩,q⟩;rw[show its.toArray.toList=its from rfl,cnt_eqU r fs]
theorem cntV_ints(k:Int)(ns:List Int):cntV (.int k) (ns.map V.int)=ns.count k:=by
 unfold cntV;rw[List.countP_map,List.count_eq_countP];congr 1
theorem j6(ns:List Int):(ns.map V.int).all flatV=true:=by
 rw[all_map];simp[flatV]
theorem call_isi:jH X (.builtin "isinstance") (fun xs H Q=>∃ x T t b,xs=[x,.ty T]/\TyOf X.K H x t/\W.kitOne X.K t (.type T)=some b/\Q (.bl b) H):=by
 intro pins s σ H xs us Q I r h;obtain⟨x,T,t,b,rfl,ty,hk,q⟩:=h;obtain⟨u,v,rfl,ru,rv⟩:=vals2 r;cases(show v=Value.type T from rv);exact isinst_ok I ru ty hk fun tk=>⟨.bl b,H,I.tok tk,rfl,q⟩
end
theorem wc{K:W.Frag}:W.kitOne K (.type "str") (.type "str")=some true:=by unfold W.kitOne;rw[if_pos (by decide+kernel)]
theorem noPylong_big{x y:Int}(h0:0<y)(h:y<=10^100):Builtin.divisionGoesByPylong x y=false:=by
 refine PyProof.noPylong_of_log2 ?_;have hn:y.natAbs≠0:=by omega
 have h1:y.natAbs<=10^100:=by omega
 refine(Nat.log2_lt hn).mpr (lt_of_le_of_lt h1 (by decide+kernel))
def CDivB(i j:Int):Prop:=0<j/\j<=10^100
theorem yu{X:Cx}:OpR X (binaryOp .FloorDiv) (rI CDivB fun i j=>.int (i / j)):=opI fun i j _ _ _ _ _ hc q=>by
 refine floordiv_int (by have:=hc.1;omega) ?_ (.inl (noPylong_big hc.1 hc.2));rw[Int.fdiv_eq_ediv_of_nonneg _ (le_of_lt hc.1)];exact q
theorem get_list{X:Cx}:PGet X (fun x y H Q=>∃ p xs i v,x= .ref p/\y= .int i/\SqL X.K H p xs/\0<=i/\xs[i.toNat]? =some v/\Q v H):=by
 intro pins s σ H o i ov iv Q I ro ri h;obtain⟨p,xs,k,v,rfl,rfl,hq,h0,hv,q⟩:=h;cases ro;obtain⟨t,rfl⟩:=ri;obtain⟨its,r,pl,hz⟩:=I.list hq;have hlen:=r.length;have hn:=line63;obtain⟨u,hu,ru⟩:=r.get hv;have hk:=(List.getElem?_eq_some_iff.mp hv).1;exact wpAny_getItem_list pl.isList h0 (by omega) (by simpa using hu) ⟨v,H,I,ru,q⟩
theorem kh{A B:TS}{D:Ends}{σ:St}{H:Hp}(R:St->Hp->Prop)(h:∀nx:St->Hp->Prop,(∀ σ' H',R σ' H'->nx σ' H')->A {D with nx:=nx} σ H)(hR:∀ σ' H',R σ' H'->B D σ' H'):tSeq A B D σ H:=h (B D) hR
def Keep(S:List Addr)(H H':Hp):Prop:=∀ b o,H b=some o->b∉S->H' b=some o
theorem Keep.refl(S:List Addr)(H:Hp):Keep S H H:=fun _ _ h _=>h
theorem Keep.trans{S:List Addr}{H H1 H2:Hp}(a:Keep S H H1)(b:Keep S H1 H2):Keep S H H2:=fun c o h n=>b c o (a c o h n) n
theorem Keep.set{S:List Addr}{H:Hp}{p:Addr}{o:HO}(h:p∈S):Keep S H (upd H p o):=fun b u e n=>by
 have hb:b≠p:=fun z=>n (by rw[z];exact h);rw[zh hb];exact e
theorem Same.keep{S:List Addr}{H H':Hp}(h:Same H H'):Keep S H H':=fun b o e _=>h b o e
structure StAt(H:Hp)(st ga ca:Addr)(N:Nat):Prop where
 ex:∃(gs cs:List Int)(q n:Int),H st=some (.lst [.ref ga,.int q,.ref ca,.int n])/\H ga=some (.lst (gs.map V.int))/\H ca=some (.lst (cs.map V.int))/\
  gs.length<=63/\(∀x∈gs,0<x)/\0<=q/\0<=n/\n<=N
 gc:ga≠ca
 sg:st≠ga
 sc:st≠ca
theorem StAt.nin{H:Hp}{st ga ca:Addr}{N:Nat}(S:StAt H st ga ca N){p:Addr}(h:H p=none):p∉[st,ga]:=by
 obtain⟨gs,cs,q,n,h1,h2,_⟩:=S.ex;intro z;rcases mem_cons.mp z with rfl|z
 ·rw[h1]at h;cases h
 ·rcases mem_cons.mp z with rfl|z
  ·rw[h2]at h;cases h
  ·cases z
theorem StAt.mono{H:Hp}{st ga ca:Addr}{N M:Nat}(S:StAt H st ga ca N)(h:N<=M):StAt H st ga ca M:=by
 obtain⟨gs,cs,q,n,h1,h2,h3,h4,h5,h6,h7,h8⟩:=S.ex;exact⟨⟨gs,cs,q,n,h1,h2,h3,h4,h5,h6,h7,by omega⟩,S.gc,S.sg,S.sc⟩
theorem StAt.same{H H':Hp}{st ga ca:Addr}{N:Nat}(S:StAt H st ga ca N)(h:Same H H'):StAt H' st ga ca N:=by
 obtain⟨gs,cs,q,n,h1,h2,h3,r⟩:=S.ex;exact⟨⟨gs,cs,q,n,h _ _ h1,h _ _ h2,h _ _ h3,r⟩,S.gc,S.sg,S.sc⟩
theorem Same.new{H:Hp}{p:Addr}{o:HO}(h:H p=none):Same H (upd H p o):=fun b u e=>by rw[zh (zo e h)];exact e
theorem Keep.at{S:List Addr}{H H':Hp}(k:Keep S H H'){b:Addr}{o:HO}(h:H b=some o)(n:b∉S):H' b=some o:=k b o h n
theorem Keep.free{S:List Addr}{H H':Hp}(k:Keep S H H'){b:Addr}(h:H' b=none)(n:b∉S):H b=none:=by
 cases q:H b with
 |none=>rfl
 |some o=>rw[k b o q n]at h;cases h
theorem jr{ns:List Int}{i:Nat}{x:V}(h:(ns.map V.int)[i]? =some x):∃z,ns[i]? =some z/\x= .int z:=by
 rw[getElem?_map]at h;cases hn:ns[i]? with
 |none=>rw[hn]at h;cases h
 |some z=>rw[hn]at h;exact⟨z,rfl,(Option.some.inj h).symm⟩
def lies(ns ms:List Int):Bool:=ns.all fun x=>decide (ns.count x<=ms.count x)
theorem all_take{α:Type}{p:α->Bool}{l:List α}{i:Nat}{x:α}(hx:l[i]? =some x):(l.take (i+1)).all p=((l.take i).all p&&p x):=by
 have hi:=(List.getElem?_eq_some_iff.mp hx).1;have ex:=(List.getElem?_eq_some_iff.mp hx).2;rw[take_succ_eq_append_getElem hi,List.all_append,ex];simp
theorem all_false{α:Type}{p:α->Bool}{l:List α}{x:α}(hx:x∈l)(h:p x=false):l.all p=false:=by
 rw[List.all_eq_false];exact⟨x,hx,by simp[h]⟩
theorem StAt.nin3{H:Hp}{st ga ca:Addr}{N:Nat}(S:StAt H st ga ca N){p:Addr}(h:H p=none):p∉[st,ga,ca]:=by
 obtain⟨gs,cs,q,n,h1,h2,h3,_⟩:=S.ex;intro z;simp only[mem_cons,not_mem_nil,or_false]at z;rcases z with rfl|rfl|rfl
 ·rw[h1]at h;cases h
 ·rw[h2]at h;cases h
 ·rw[h3]at h;cases h
theorem nin2{st ga ca p:Addr}(h:p∉[st,ga,ca]):p∉[st,ga]:=fun z=>h (by
 simp only[mem_cons,not_mem_nil,or_false]at z ⊢;rcases z with z|z
 ·exact .inl z
 ·exact .inr (.inl z))
theorem map_erase:∀(ms:List Int)(j:Nat),(ms.map V.int).eraseIdx j=(ms.eraseIdx j).map V.int
 | [],_=>rfl
 | _::_,0=>rfl
 |x::r,j+1=>by
  show V.int x::(r.map V.int).eraseIdx j=V.int x::(r.eraseIdx j).map V.int;rw[map_erase r j]
def EqK(X:Cx)(α:Type)[DecidableEq α](R:α->V->Hp->Prop)(n:Nat):Prop :=
 ∀(pins:List (Addr×Obj))(σ:St)(H:Hp)(s:Shared)(A:Around)(a b:α)(v w:V)(u u':Value),Inv X pins σ H s->A.units+n<cLine->R a v H->R b w H->RelV v u->RelV w u'->SeqAt.EqAt A s u u' (decide (a=b))
inductive All2{α:Type}(R:α->V->Hp->Prop)(H:Hp):List α->List V->Prop
 |nil:All2 R H [] []
 |cons {a:α} {v:V} {l:List α} {xs:List V}:R a v H->All2 R H l xs->All2 R H (a::l) (v::xs)
theorem All2.length{α:Type}{R:α->V->Hp->Prop}{H:Hp}:∀{l:List α}{xs:List V},All2 R H l xs->l.length=xs.length
 | _,_,.nil=>rfl
 | _,_,.cons _ t=>by simp[t.length]
theorem All2.get{α:Type}{R:α->V->Hp->Prop}{H:Hp}:∀{l:List α}{xs:List V}{i:Nat}{x:V},All2 R H l xs->xs[i]? =some x-> ∃a,l[i]? =some a/\R a x H
 | _,_,_,_,.nil,e=>by simp at e
 | _,_,0,_,.cons r _,e=>by simp at e;subst e;exact⟨_,rfl,r⟩
 | _,_,i+1,x,.cons _ t,e=>by
  obtain⟨u,h1,h2⟩:=All2.get (i:=i) (x:=x) t (by simpa using e);exact⟨u,by simpa using h1,h2⟩
theorem All2.append{α:Type}{R:α->V->Hp->Prop}{H:Hp}:∀{l l':List α}{xs xs':List V},All2 R H l xs->All2 R H l' xs'->All2 R H (l++l') (xs++xs')
 | _,_,_,_,.nil,s=>s
 | _,_,_,_,.cons r t,s=>.cons r (t.append s)
theorem All2.imp{α:Type}{R:α->V->Hp->Prop}{H H':Hp}(f:∀a v,R a v H->R a v H'):∀{l:List α}{xs:List V},All2 R H l xs->All2 R H' l xs
 | _,_,.nil=>.nil
 | _,_,.cons r t=>.cons (f _ _ r) (t.imp f)
def RInt:Int->V->Hp->Prop:=fun i v _=>v= .int i
theorem all2_ints{H:Hp}:∀(ns:List Int),All2 RInt H ns (ns.map V.int)
 | []=>.nil
 | _::r=>.cons rfl (all2_ints r)
def RTup(K:W.Frag){α:Type}(R:α->V->Hp->Prop):List α->V->Hp->Prop:=fun l v H=>∃ p xs,v= .ref p/\SqT K H p xs/\All2 R H l xs
def RLst(K:W.Frag){α:Type}(R:α->V->Hp->Prop):List α->V->Hp->Prop:=fun l v H=>∃ p xs,v= .ref p/\SqL K H p xs/\All2 R H l xs
theorem all_range_eq{α:Type}[DecidableEq α]{l m:List α}{e:Nat->Bool}(h:∀j a b,l[j]? =some a->m[j]? =some b->e j=decide (a=b)):((List.range (min l.length m.length)).all e&&l.length==m.length)=decide (l=m):=by
 rw[Bool.eq_iff_iff];simp only[and_eq_true,all_eq_true,mem_range,beq_iff_eq,decide_eq_true_eq];constructor
 ·rintro⟨h1,h2⟩;refine List.ext_getElem h2 fun j j1 j2=>?_;have:=h1 j (by omega);rw[h j _ _ (getElem?_eq_getElem j1) (getElem?_eq_getElem j2)]at this;exact of_decide_eq_true this
 ·rintro rfl;refine⟨fun j hj=>?_,rfl⟩;have hj':j<l.length:=by omega
  rw[h j _ _ (getElem?_eq_getElem hj') (getElem?_eq_getElem hj')];exact decide_eq_true rfl
section
variable{X:Cx}
theorem eqk_int:EqK X Int RInt 0:=fun pins σ H s A a b v w u u' I hu r1 r2 q1 q2=>by
 unfold RInt at r1 r2;subst r1 r2;obtain⟨t,rfl⟩:=q1;obtain⟨t',rfl⟩:=q2;have:=SeqAt.EqAt.int_int (A:=A) (s:=s) a t b t'
 rwa [show(a==b)=decide (a=b)from rfl]at this
variable{α:Type}[DecidableEq α]{R:α->V->Hp->Prop}{n:Nat}
theorem eqk_items(h:EqK X α R n){pins:List (Addr×Obj)}{σ:St}{H:Hp}{s:Shared}{A:Around}{l m:List α}{xs ys:List V}{us ws:List Value}(I:Inv X pins σ H s)(hu:A.units+(n+1)<cLine)(r1:All2 R H l xs)(r2:All2 R H m ys)(q1:Vals xs us)(q2:Vals ys ws) :
  ∃e:Nat->Bool,(∀j (h1:j<us.toArray.size) (h2:j<ws.toArray.size),SeqAt.EqAt A.in1 s us.toArray[j] ws.toArray[j] (e j))/\(∀j a b,l[j]? =some a->m[j]? =some b->e j=decide (a=b)):=by
 refine⟨fun j=>match l[j]?,m[j]? with|some a,some b=>decide (a=b)| _,_=>false,fun j h1 h2=>?_,fun j a b e1 e2=>by simp only[e1,e2]⟩;have l1:=q1.length;have l2:=q2.length;have l3:=r1.length;have l4:=r2.length;simp only[size_toArray]at h1 h2;have hx:xs[j]? =some xs[j]:=getElem?_eq_getElem (by omega);have hy:ys[j]? =some ys[j]:=getElem?_eq_getElem (by omega);obtain⟨a,ea,ra⟩:=r1.get hx;obtain⟨b,eb,rb⟩:=r2.get hy;obtain⟨u,eu,ru⟩:=q1.get hx;obtain⟨w,ew,rw'⟩:=q2.get hy;have e1:us.toArray[j]'(by simpa using h1)=u:=by
  have:=(List.getElem?_eq_some_iff.mp eu).2;simpa using this
 have e2:ws.toArray[j]'(by simpa using h2)=w:=by
  have:=(List.getElem?_eq_some_iff.mp ew).2;simpa using this
 rw[e1,e2];simp only[ea,eb];exact h pins σ H s A.in1 a b _ _ u w I (by show A.units+1+n<cLine;omega) ra rb ru rw'
theorem rc_tup(h:EqK X α R n){pins:List (Addr×Obj)}{σ:St}{H:Hp}{s:Shared}{A:Around}{l m:List α}{p q:Addr}(I:Inv X pins σ H s)(hu:A.units+(n+1)<cLine)(r1:RTup X.K R l (.ref p) H)(r2:RTup X.K R m (.ref q) H) :
  SeqAt.RcAt A s (.ref p) (.ref q) (decide (l=m)):=by
 obtain⟨_,xs,e1,h1,a1⟩:=r1;obtain⟨_,ys,e2,h2,a2⟩:=r2;cases e1;cases e2;obtain⟨us,v1,t1,z1⟩:=I.tuple h1;obtain⟨ws,v2,t2,z2⟩:=I.tuple h2;obtain⟨e,he,hd⟩:=eqk_items h I hu a1 a2 v1 v2;have:=SeqAt.RcAt.tuples (e:=e) t1 t2 (by omega) he;rw[size_toArray,size_toArray,<-v1.length,<-v2.length,<-a1.length,<-a2.length,all_range_eq hd]at this;exact this
theorem eqk_tup(h:EqK X α R n)(det:∀(pins:List (Addr×Obj)) (σ:St) (H:Hp) (s:Shared) (a b:α) (v:V),Inv X pins σ H s->R a v H->R b v H->a=b):EqK X (List α) (RTup X.K R) (n+1):=fun pins σ H s A a b v w u u' I hu r1 r2 q1 q2=>by
 obtain⟨p,xs,rfl,h1,a1⟩:=id r1;obtain⟨q,ys,rfl,h2,a2⟩:=id r2;cases q1;cases q2;by_cases hpq:p=q
 ·subst hpq;have e:=I.tuple_inj h1 h2;subst e;have:a=b:=by
   clear r1 r2 h1 h2 hu
   induction a1 generalizing b with
   |nil=>cases a2;rfl
   |cons r t ih =>
    cases a2 with
    |cons r' t'=>rw[det pins σ H s _ _ _ I r r',ih _ t']
  rw[decide_eq_true this];exact SeqAt.EqAt.same _
 ·exact SeqAt.EqAt.of_refs hpq (rc_tup h I hu r1 r2)
theorem det_int(pins:List (Addr×Obj))(σ:St)(H:Hp)(s:Shared)(a b:Int)(v:V)(I:Inv X pins σ H s)(h1:RInt a v H)(h2:RInt b v H):a=b:=by
 unfold RInt at h1 h2;rw[h1]at h2;cases h2;rfl
theorem op_eqT'(h:EqK X α R n)(hu:X.A.units+(n+1)<cLine):OpR X (compareOp .Eq) (fun x y H Q=>∃ l m,RTup X.K R l x H/\RTup X.K R m y H/\Q (.bl (decide (l=m))) H):=by
 intro pins s σ H x y v u Q I rx ry hq;obtain⟨l,m,r1,r2,q⟩:=hq;obtain⟨p,xs,rfl,_⟩:=id r1;obtain⟨p',ys,rfl,_⟩:=id r2;cases rx;cases ry;exact rc_tup h I hu r1 r2 X.prog X.w X.xe _ ⟨.bl _,H,I,rfl,q⟩
theorem op_neT'(h:EqK X α R n)(hu:X.A.units+(n+1)<cLine):OpR X (compareOp .NotEq) (fun x y H Q=>∃ l m,RTup X.K R l x H/\RTup X.K R m y H/\Q (.bl (!decide (l=m))) H):=by
 intro pins s σ H x y v u Q I rx ry hq;obtain⟨l,m,r1,r2,q⟩:=hq;obtain⟨p,xs,rfl,h1,a1⟩:=r1;obtain⟨p',ys,rfl,h2,a2⟩:=r2;cases rx;cases ry;obtain⟨us,v1,t1,z1⟩:=I.tuple h1;obtain⟨ws,v2,t2,z2⟩:=I.tuple h2;obtain⟨e,he,hd⟩:=eqk_items h I hu a1 a2 v1 v2;have ee:=all_range_eq hd;have this:=SeqAt.RcNeAt.tuples (e:=e) t1 t2 (by omega) he;rw[size_toArray,size_toArray,<-v1.length,<-v2.length,<-a1.length,<-a2.length,ee]at this;exact this X.prog X.w X.xe _ ⟨.bl _,H,I,rfl,q⟩
theorem op_neL'(h:EqK X α R n)(hu:X.A.units+(n+1)<cLine):OpR X (compareOp .NotEq) (fun x y H Q=>∃ l m,RLst X.K R l x H/\RLst X.K R m y H/\Q (.bl (!decide (l=m))) H):=by
 intro pins s σ H x y v u Q I rx ry hq;obtain⟨l,m,r1,r2,q⟩:=hq;obtain⟨p,xs,rfl,h1,a1⟩:=r1;obtain⟨p',ys,rfl,h2,a2⟩:=r2;cases rx;cases ry;obtain⟨us,v1,t1,z1⟩:=I.list h1;obtain⟨ws,v2,t2,z2⟩:=I.list h2;obtain⟨e,he,hd⟩:=eqk_items h I hu a1 a2 v1 v2;have ee:=all_range_eq hd;have s1:us.toArray.size=l.length:=by rw[size_toArray,<-v1.length,<-a1.length]
 have s2:ws.toArray.size=m.length:=by rw[size_toArray,<-v2.length,<-a2.length]
 by_cases hl:l.length=m.length
 ·have this:=SeqAt.RcNeAt.lists (e:=e) t1.isList t2.isList (by rw[s1,s2,hl]) (by omega) he;rw[s1]at this;rw[hl,Nat.min_self,beq_self_eq_true,Bool.and_true,<-hl]at ee;rw[ee]at this;exact this X.prog X.w X.xe _ ⟨.bl _,H,I,rfl,q⟩
 ·have this:=SeqAt.RcNeAt.lists_lengths t1.isList t2.isList (by rw[s1,s2];simpa using hl) (show X.A.units<cLine by omega);have hne:¬l=m:=fun e=>hl (by rw[e]);rw[decide_eq_false hne]at q;exact this X.prog X.w X.xe _ ⟨.bl _,H,I,rfl,q⟩
end
theorem RTup.ints{K:W.Frag}{H:Hp}{p:Addr}{ns:List Int}(h:SqT K H p (ns.map V.int)):RTup K RInt ns (.ref p) H:=⟨p,_,rfl,h,all2_ints ns⟩
theorem huR{A:Around}{k n:Nat}{cm:Bool}(hr:Room k A cm)(h:n<=64:=by decide):A.units+n<cLine:=lt_of_le_of_lt (Nat.add_le_add_left h _) hr.units
end L2
namespace HT
open PySem PySem.Spec PyProof.Rows
section
variable{prog:Program}{w:World}{A:Around}{E:Value->Shared->Prop}{s:Shared}
theorem getItem_tuple_whole{t sl:Addr}{items:Array Value}{vl vu:Value}{lo hi:Option Int}{Q:Value->Shared->Prop}(ht:IsTup s.heap t items)(hs:s.heap.IsSliceOf sl vl vu .none)(pl:IsPart vl lo)(pu:IsPart vu hi)(hw:sIx items.size 0 lo=0/\sIx items.size items.size hi=items.size)(h:Q (.ref t) s):wpAny (model prog w) A (getItem (.ref t) (.ref sl)) Q E s:=by
 obtain⟨os,hos,hcs,hds⟩:=id hs;have hTs:s.TypeIs (.ref sl) "slice" :=⟨os,hos,hcs⟩;unfold getItem
 try with_reducible refine wpAny_holding ?_
 first|refine wpAny_bind (wpAny_pure ?_)|skip
 refine wpAny_bind (wpAny_sequenceKey ht.typeIs (by decide) ?_);refine wpAny_bind (wpAny_callSpecial?_slot (name:=Str.ofString "__getitem__") ht.typeIs PyProof.Rows.slot_tuple_getitem
  (wpAny_call_entry PyProof.Rows.slot_tuple_getitem ht.typeIs entry_tuple_getitem ?_ (args_tuple_getitem _ _)))
 show wpAny _ _ (Builtin.Tuple.tupleItemsOf (.ref t) >>= _) _ _ s;refine wpAny_bind (tupleItemsOf_ ht ?_);refine wpAny_bind (wpAny_typeOf hTs ?_);rw[if_pos (by decide)];refine wpAny_bind (sliceApplied_gen hs pl pu ?_);have hyes:(((sIx items.size 0 lo:Nat):Int)==0&&(1:Int)==1&&(sIx items.size items.size hi-sIx items.size 0 lo)==items.size)=true:=by
  rw[hw.1,hw.2];simp
 show wpAny _ _ (if(((sIx items.size 0 lo:Nat):Int)==0&&(1:Int)==1&&(sIx items.size items.size hi-sIx items.size 0 lo)==items.size)=true then _ else _) _ _ s;rw[if_pos hyes];refine wpAny_bind ?_;unfold Builtin.Tuple.tupleIsExact;refine wpAny_bind (wpAny_typeOf ht.typeIs (wpAny_pure ?_));rw[if_pos (by decide)]
 first
  |exact wpAny_bind (wpAny_rule (wpAny_bind (wpAny_pure (wpAny_pure ⟨_,rfl,wpAny_pure h⟩))))
  |exact wpAny_bind (wpAny_rule (wpAny_pure ⟨_,rfl,wpAny_pure h⟩))
end
end HT
namespace L2
open PySem PySem.Spec PyProof.Rows
section
variable{X:Cx}
theorem sl_tupW:SlR X (fun x lo hi H Q=>∃ a xs,x= .ref a/\SqT X.K H a xs/\(HT.sIx xs.length 0 lo=0/\HT.sIx xs.length xs.length hi=xs.length)/\Q (.ref a) H):=by
 intro pins s σ H x v vl vu lo hi sl Q I rx hs pl pu h;obtain⟨a,xs,rfl,hx,hw,q⟩:=h;cases rx;obtain⟨its,r,ht,hz⟩:=I.tuple hx;have hlen:its.toArray.size=xs.length:=by rw[size_toArray];exact r.length.symm
 refine⟨"tuple",_,PyProof.Rows.slot_tuple_getitem.lookup,ht.typeIs,?_⟩;exact HT.getItem_tuple_whole ht hs pl pu (by rw[hlen];exact hw) ⟨.ref a,H,I,rfl,q⟩
def rSlTA(K:W.Frag):V->Option Int->Option Int->Hp->VK->Prop:=fun x lo hi H Q=>(∃a xs,x= .ref a/\SqT K H a xs/\(HT.sIx xs.length 0 lo=0/\HT.sIx xs.length xs.length hi=xs.length)/\Q (.ref a) H)\/rSlT K x lo hi H Q
theorem sl_tupA:SlR X (rSlTA X.K):=sl_tupW.or sl_tup
end
end L2
namespace HT
open PySem PySem.Spec PyProof.Rows
def lexGt:List Int->List Int->Bool
 | [],[]=>false
 | [],_::_=>false
 | _::_,[]=>true
 |x::xs,y::ys=>if x=y then lexGt xs ys else decide (y<x)
theorem lexGt_cons(x y:Int)(xs ys:List Int):lexGt (x::xs) (y::ys)=if x=y then lexGt xs ys else decide (y<x):=rfl
end HT
namespace L2
open PySem PySem.Spec PyProof.Rows
section
variable{X:Cx}
theorem strsAre_of{ys:List Str}:∀{us:List Value},Vals (ys.map V.str) us->StrsAre us ys:=by
 induction ys with
 |nil=>intro us r;cases r;exact .nil
 |cons y ys ih =>
  intro us r;cases r with
  |cons r t =>
   obtain⟨tk,rfl⟩:=r;exact .cons _ _ (ih t)
theorem mt_join:MtR X "str.join" (fun x vs H Q=>∃ sep a ys,x= .str sep/\vs=[.ref a]/\SqL X.K H a (ys.map V.str)/\(ys.map (·.length)).sum+ys.length*sep.length<=16777216/\Q (.str (Txt.join sep ys)) H):=by
 intro pins s σ H x vs v us Q I rx rv h;obtain⟨sep,a,ys,rfl,rfl,hq,hz,q⟩:=h;obtain⟨t,rfl⟩:=rx;obtain⟨u,rfl,ru⟩:=rv.one;cases ru;obtain⟨its,r,pl,_⟩:=I.list hq;exact join_list pl.isList (by simpa using strsAre_of r) hz fun t' k=>⟨.str _,H,I.tok _,⟨t',rfl⟩,q⟩
theorem vals_strs:∀(l:List (Str×Tok)),Vals ((l.map (·.1)).map V.str) (strValues l)
 | []=>.nil
 |(x,t)::r=>.cons ⟨t,rfl⟩ (vals_strs r)
theorem mt_split:MtR X "str.split" (fun x vs H Q=>∃ z sep,x= .str z/\vs=[.str sep]/\(sep.length==0)=false/\z.length<=1000000/\ ∀l,H l=none->Q (.ref l) (upd H l (.lst ((Txt.split z sep).map V.str)))):=by
 intro pins s σ H x vs v us Q I rx rv h;obtain⟨z,sep,rfl,rfl,hy,hz,q⟩:=h;obtain⟨t,rfl⟩:=rx;obtain⟨u,rfl,ru⟩:=rv.one;obtain⟨u',rfl⟩:=ru;have hl:(Builtin.Str.partsBetween z (Builtin.Str.occurrences z sep 0 z.length (z.length+1)) sep.length).length<=z.length+2:=by
  unfold Builtin.Str.partsBetween;have:=StrLaws.occ_length_le z sep 0 z.length (z.length+1);simp;omega
 have hsz:z.length<=sizeLine:=by rw[sizeLine_eq];omega
 have fin:∀(l:List (Str×Tok))(tk:Nat),l.map (·.1)=Txt.split z sep->EP X pins σ Q (.ref s.heap.objs.size) {s with heap:=s.heap.push {cls:=.type "list",data:=.seq (strValues l).toArray},toks:=tk}:=fun l tk e=>by
  have hlen:((Txt.split z sep).map V.str).length<=sizeLine:=by
   rw[length_map];unfold Txt.split;split
   ·show 1<=sizeLine;decide
   ·split
    ·show 1<=sizeLine;decide
    ·rw[sizeLine_eq];omega
  refine⟨.ref s.heap.objs.size,_,I.laid (fun b o e=>Heap.get?_push_of_some _ e) (le_refl _) (show yh X.prog X.w _ _ _ (.lst ((Txt.split z sep).map V.str))from⟨hlen,strValues l,0,?_,Heap.get?_push_size _ rfl⟩),rfl,q _ (I.hok.fresh (le_refl _))⟩;rw[<-e];exact vals_strs l
 cases h1:(decide (z.length<sep.length)||decide (Builtin.Str.strKind z<Builtin.Str.strKind sep))
 ·cases hf:(Builtin.Str.occurrences z sep 0 z.length (z.length+1)).isEmpty
  ·refine call_meets F.slot_str_split (typeIs_str _ _ _) F.entry_str_split (F.args_str_split_2 _ _) (meets_str_split_sep z sep t u' h1 hy hf hsz (by rw[sizeLine_eq];omega)) ?_;show wants _ _ _ {s with toks:=_,heap:=s.heap.push {cls:=.type "list",data:=.seq (strsFrom s.toks (Builtin.Str.partsBetween z (Builtin.Str.occurrences z sep 0 z.length (z.length+1)) sep.length)).toArray}};rw[strsFrom_eq];exact fin (numbered s.toks _) _ ((numbered_texts _ _).trans ((if_neg (ne_true_of_eq_false h1)).trans (if_neg (ne_true_of_eq_false hf))).symm)
  ·exact call_meets F.slot_str_split (typeIs_str _ _ _) F.entry_str_split (F.args_str_split_2 _ _) (meets_str_split_not_found z sep t u' h1 hy hf)
    (fin [(z,t)] s.toks ((if_neg (ne_true_of_eq_false h1)).trans (if_pos hf)).symm)
 ·exact call_meets F.slot_str_split (typeIs_str _ _ _) F.entry_str_split (F.args_str_split_2 _ _) (meets_str_split_cannot_occur z sep t u' h1)
   (fin [(z,t)] s.toks (if_pos h1).symm)
def Its(z:Str):It:=⟨fun i _=>i<z.cps.size,fun i H x H'=>H'=H/\ ∃c,z.cps[i]? =some c/\x= .str ⟨#[c]⟩,fun i _=>z.cps.size<=i⟩
end
theorem turn_str{P:Program}{w:World}{K:W.Frag}{tg:Expr}(it:Addr)(z:Str)(t:Tok)(kind:String)(hk:["enumerate","zip","dict_itemiterator","dict_reverseitemiterator","odict_iterator","itertools.zip_longest","itertools.pairwise"].contains kind=false)(W0:∀A:Around,A.handled=none->Walks P w A it [it] [it] z.cps.size (SignAt z) (fun i h=>h.IsStrIter it kind z t i))(dn:∀(A:Around) (s:Shared) (i:Nat) (Q:Option Value->Shared->Prop) (E:Value->Shared->Prop),A.handled=none->s.heap.IsStrIter it kind z t i->z.cps[i]? =none->(∀h',Heap.ExtBut it s.heap h'->Q none {s with heap:=h'})->wpAny (model P w) A (pyNext (.ref it)) Q E s)(sf:∀(A:Around) (i:Nat) (s:Shared) (Q:Value->Shared->Prop) (E:Value->Shared->Prop),s.heap.IsStrIter it kind z t i->Q (.ref it) s->wpAny (model P w) A (pyIter (.ref it)) Q E s) :
  Turn P w K tg (Its z) [it] it (fun i h=>h.IsStrIter it kind z t i) where
 mem:=by simp
 obj:=fun i h st b hb=>by
  have e:b=it:=by simpa using hb
  subst e;obtain⟨o,e,c,d⟩:=st;exact⟨o,e,fun v z=>by rw[d]at z;cases z⟩
 keep:=fun i h h' st k=>let⟨o,ho,r⟩:=st;⟨o,k it (by simp) o ho,r⟩
 item:=by
  intro X hP hw hK hc i pins s σ H E I hf st hg;subst hP hw hK;obtain⟨f0,f1,f2,f3,f4,f5⟩:=hf it (by simp);refine(W0 X.A (I.ok.hd hc)).item i s _ _ hg st fun v h' tk hv st' kk=>?_;obtain⟨c,u,hc',rfl⟩:=hv;have I1:Inv X pins σ H {s with heap:=h',toks:=tk}:=I.turned (fun b o hb e=>kk b o (by simpa using hb) e) f0 f1 f3 f4 f5;obtain⟨o,e,c',d⟩:=id st';exact⟨_,rfl,go_of (s:={s with heap:=h',toks:=tk}) (n:=kind) e c' d hk ⟨.str ⟨#[c]⟩,H,I1,⟨u,rfl⟩,⟨rfl,c,hc',rfl⟩,st',fun b hb=>(hf b hb).1⟩⟩
 done:=by
  intro X hP hw hK hc i pins s σ H E I hf st hg;subst hP hw hK;obtain⟨f0,f1,f2,f3,f4,f5⟩:=hf it (by simp);exact dn X.A s i _ _ (I.ok.hd hc) st (by have:z.cps.size<=i:=hg;simp;omega) fun h' eb=>⟨rfl,I.turned (t':=s.toks) (fun b o hb e=>eb b o hb e) f0 f1 f3 f4 f5⟩
 self:=fun A i s Q E st h=>sf A i s Q E st h
section
variable{X:Cx}{tg:Expr}
def iStr(tl:TE):TI:=fun σ H R=>tl σ H fun x H1=>∃ z,x= .str z/\R (Its z) H1
theorem pi_str{l:Expr}{tl:TE}(hl:PE X l tl):PI X tg l (iStr tl):=by
 intro pins s σ H R I h;refine thn (hl pins s σ H _ I h) fun v s1 ⟨x,H1,I1,r1,q1⟩=>?_;obtain⟨z,e,q⟩:=q1;subst e;obtain⟨t,rfl⟩:=r1;have fp:∀b∈[s1.heap.objs.size],FpOk X pins H1 b:=fun b hb=>by
  have e:b=s1.heap.objs.size:=by simpa using hb
  subst e;exact I1.fpOk (le_refl _) (I1.hok.fresh (le_refl _))
 cases ha:z.cps.all (· <128)
 ·refine wpAny_pyIter_wide ha ?_;exact⟨s1.heap.objs.size,[s1.heap.objs.size],_,_,H1,rfl,I1.kept (t':=s1.toks) fun b o e=>Heap.get?_push_of_some _ e,
   turn_str _ z t "str_iterator" (by decide) (fun A hA=>Walks.strWide hA _ z t) (fun A s i Q E hA st hx hQ=>wpAny_pyNext_wide_end hA st hx hQ) (fun A i s Q E st h=>wpAny_pyIter_striter_wide st h),⟨_,Heap.get?_push_size _ rfl,rfl,rfl⟩,fp,q⟩
 ·refine wpAny_pyIter_ascii ha ?_;exact⟨s1.heap.objs.size,[s1.heap.objs.size],_,_,H1,rfl,I1.kept (t':=s1.toks) fun b o e=>Heap.get?_push_of_some _ e,
   turn_str _ z t "str_ascii_iterator" (by decide) (fun A hA=>Walks.strAscii hA _ z t) (fun A s i Q E hA st hx hQ=>wpAny_pyNext_ascii_end hA st hx hQ) (fun A i s Q E st h=>wpAny_pyIter_striter_ascii st h),⟨_,Heap.get?_push_size _ rfl,rfl,rfl⟩,fp,q⟩
end
theorem comp_str{z:Str}{g:TG}{tf:TT}{te:TE}{σ:St}{H:Hp}{Q:VK}(Pv:Nat->List V->St->Hp->Prop)(h0:Pv 0 [] σ H)(hl:∀i ys σ H,i<=z.cps.size->Pv i ys σ H->ys.length<=sizeLine)(hs:∀i c ys σ H,z.cps[i]? =some c->Pv i ys σ H->g (.str ⟨#[c]⟩) σ H fun σ2 H2=>tf σ2 H2 fun b H3=>if b=true then te σ2 H3 fun v H4=>Pv (i+1) (ys++[v]) σ2 H4 else Pv (i+1) ys σ2 H3)(hd:∀ys σ H,Pv z.cps.size ys σ H-> ∀p,H p=none->Q (.ref p) (upd H p (.lst ys))):tCompK g tf te σ (Its z) H Q:=by
 refine⟨fun i m ys σ H=>m=z.cps.size-i/\i<=z.cps.size/\Pv i ys σ H,⟨z.cps.size,by simp,zero_le _,h0⟩,?_⟩;rintro i m ys σ H ⟨rfl,hi,p⟩;have hz:=hl i ys σ H hi p;by_cases hlt:i<z.cps.size
 ·refine .inr ⟨hlt,hz,Pv (i+1),fun ys' σ' H' p'=>⟨z.cps.size-(i+1),by omega,rfl,hlt,p'⟩,fun x H' y=>?_⟩;obtain⟨e,c,hc,rfl⟩:=y;subst e;exact hs i c ys σ _ hc p
 ·have e:i=z.cps.size:=by omega
  subst e;exact .inl ⟨le_refl _,hz,hd ys σ H p⟩
section
variable{X:Cx}
theorem kC(hc:X.calm=true):jH X (.builtin "all") (fun xs H Q=>∃(a:Addr)(bs:List Bool),xs=[.ref a]/\SqL X.K H a (bs.map V.bl)/\Q (.bl (bs.all id)) H):=by
 intro pins s σ H xs us Q I r h;obtain⟨a,bs,rfl,hq,q⟩:=h;obtain⟨u,rfl,ru⟩:=vals1 r;cases ru;have hh:X.A.in1.handled=none:=I.ok.hd hc;obtain⟨its,r',pl,hz⟩:=I.list hq;have hl:=r'.length;rw[length_map]at hl;have hlt:a<s.heap.objs.size:=by obtain⟨_,e,_⟩:=pl.isList;exact Heap.lt_size e
 refine call_all_walk (wpAny_pyIter_list pl.isList ⟨_,_,_,_,_,_,fun i=>bs.getD i false,rfl,Walks.list (A:=X.A.in1) hh _ a (ne_of_lt hlt) its.toArray,⟨⟨_,Heap.get?_push_size _ rfl,rfl,rfl⟩,pl.isList.push _⟩,?_,fun h' tk hk=>?_⟩)
 ·intro i v s' Q' E' hv hQ;have hv':its[i]? =some v:=by simpa using hv
  have hi:i<bs.length:=by have:=(List.getElem?_eq_some_iff.mp hv').1;omega
  have hx:(bs.map V.bl)[i]? =some (V.bl (bs.getD i false)):=by simp[hi]
  obtain⟨u,hu,ru⟩:=r'.get hx;rw[hv']at hu;cases hu;cases ru;exact wpAny_truthy_bool hQ
 ·have e:(List.range its.toArray.size).all (fun i=>bs.getD i false)=bs.all id:=by
   rw[size_toArray,<-hl,Bool.eq_iff_iff];simp only[all_eq_true,mem_range,id];constructor
   ·intro h b hb;obtain⟨i,hi,rfl⟩:=List.mem_iff_getElem.mp hb;have:=h i hi;simpa [hi]using this
   ·intro h i hi;have:=h bs[i] (getElem_mem hi);simpa [hi]using this
  rw[e];exact⟨.bl _,H,I.kept fun b o e=>hk b o (by simpa using ne_of_lt (Heap.lt_size e)) (Heap.get?_push_of_some _ e),rfl,q⟩
theorem kW:jH X (.type "int") (fun xs H Q=>∃(z:Str)(n:Int),xs=[.str z]/\PySem.intText? z=some n/\z.length<=640/\Q (.int n) H):=by
 intro pins s σ H xs us Q I r h;obtain⟨z,n,rfl,hn,hl,q⟩:=h;obtain⟨u,rfl,t,rfl⟩:=vals1 r;exact W.KIN.call_text hn hl ⟨.int n,H,I.tok _,⟨_,rfl⟩,q⟩
end
end L2
namespace L2
open PySem PySem.Spec PyProof.Rows PySem.NumText PySem.Calls
def numS(n:Int):Str:=Str.ofString (toString n)
theorem toDigits_snoc(m:Nat)(h:10<=m):Nat.toDigits 10 m=Nat.toDigits 10 (m / 10)++[Nat.digitChar (m%10)]:=by
 have hm:m%10<10:=Nat.mod_lt _ (by decide);have t:=Nat.toDigits_append_toDigits (b:=10) (n:=m / 10) (d:=m%10) (by decide) (by omega) hm;rw[show 10*(m / 10)+m%10=m by omega]at t;rw[<-t,Nat.toDigits_of_lt_base hm]
theorem toDigits_len(m:Nat):∀k:Nat,0<k->m<10^k->(Nat.toDigits 10 m).length<=k:=by
 induction m using Nat.strongRecOn with
 | _ m ih =>
  intro k hk h;by_cases h10:m<10
  ·rw[Nat.toDigits_of_lt_base h10];exact hk
  ·rw[toDigits_snoc m (by omega),length_append,List.length_singleton];cases k with
   |zero=>omega
   |succ k =>
    cases k with
    |zero=>simp at h;omega
    |succ k =>
     have:m / 10<10^(k+1):=by
      rw[Nat.pow_succ]at h;omega
     have:=ih (m / 10) (by omega) (k+1) (by omega) this;omega
theorem toDigits_head(m:Nat)(h:0<m):∃c r,Nat.toDigits 10 m=c::r/\c≠ '0':=by
 induction m using Nat.strongRecOn with
 | _ m ih =>
  by_cases h10:m<10
  ·rw[Nat.toDigits_of_lt_base h10];refine⟨_,[],rfl,?_⟩;have:∀d:Nat,0<d->d<10->Nat.digitChar d≠ '0':=by
    intro d h1 h2;rcases d with _| _| _| _| _| _| _| _| _| _|d
    ·omega
    all_goals first|decide|omega
   exact this m h h10
  ·obtain⟨c,r,e,hc⟩:=ih (m / 10) (by omega) (by omega);rw[toDigits_snoc m (by omega),e];exact⟨c,r++[Nat.digitChar (m%10)],rfl,hc⟩
theorem numS_cps{n:Int}(h:0<=n):(numS n).cps.toList=(Nat.toDigits 10 n.toNat).map Char.toNat:=by
 obtain⟨m,rfl⟩:=Int.eq_ofNat_of_zero_le h;exact W.KIN.signs_num m
theorem kq{n:Int}(h:0<=n):AllDigits (numS n).cps.toList:=by
 intro c hc;rw[numS_cps h]at hc;obtain⟨ch,hch,e⟩:=mem_map.mp hc;have r:=digit_range (Nat.isDigit_of_mem_toDigits (by decide) (by decide) hch);rw[<-e];exact r
theorem numS_ne{n:Int}(h:1<=n):∃c r,(numS n).cps.toList=c::r/\c≠48:=by
 obtain⟨c,r,e,hc⟩:=toDigits_head n.toNat (by omega);rw[numS_cps (by omega),e];refine⟨c.toNat,r.map Char.toNat,rfl,fun z=>hc ?_⟩;exact Char.ext (UInt32.toNat_inj.mp z)
theorem kD{n:Int}(h:0<=n){k:Nat}(hk:0<k)(h2:n<10^k):(numS n).cps.toList.length<=k:=by
 rw[numS_cps h,length_map];refine toDigits_len _ k hk ?_;have:((n.toNat:Nat):Int)<((10^k:Nat):Int):=by
  rw[Int.toNat_of_nonneg h];simpa using h2
 exact_mod_cast this
theorem numS_reads{n:Int}(h:0<=n)(h2:n<10^600):PySem.intText? (numS n)=some n:=by
 have hl:=kD h (k:=600) (by decide) h2;have hne:(numS n).cps.toList≠[]:=by
  rw[numS_cps h];intro e;have h:=toDigits_len_ge 10 n.toNat;rw[List.map_eq_nil_iff.mp e]at h;exact absurd h (by decide)
 have e:=intText_digits (kq h) hne (by show(numS n).cps.size<=4300;rw[<-Array.length_toList];omega);rw[numS_cps h,W.KIN.val_back]at e;rw[e];congr 1;omega
def ko(c:Nat):List (List Nat)->List Nat
 | []=>[]
 | [x]=>x
 |x::y::r=>x++c::ko c (y::r)
theorem cut_eq{c:Nat}:∀{x y a b:List Nat},c∉x->c∉y->x++c::a=y++c::b->x=y/\a=b
 | [],[],a,b,_,_,e=>by simp at e;exact⟨rfl,e⟩
 | [],y::ys,a,b,_,hy,e=>by
  simp at e;exact absurd (by rw[e.1];exact mem_cons_self) hy
 |x::xs,[],a,b,hx,_,e=>by
  simp at e;exact absurd (by rw[<-e.1];exact mem_cons_self) hx
 |x::xs,y::ys,a,b,hx,hy,e=>by
  simp only[List.cons_append,List.cons.injEq]at e;obtain⟨e1,e2⟩:=cut_eq (fun z=>hx (mem_cons_of_mem _ z)) (fun z=>hy (mem_cons_of_mem _ z)) e.2;exact⟨by rw[e.1,e1],e2⟩
theorem cut_no{c:Nat}{x y a:List Nat}(hx:c∉x)(e:x=y++c::a):False:=hx (by rw[e];simp)
theorem joinC_inj{c:Nat}:∀{xs ys:List (List Nat)},xs≠[]->ys≠[]->(∀x∈xs,c∉x)->(∀x∈ys,c∉x)->ko c xs=ko c ys->xs=ys
 | [],_,h,_,_,_,_=>absurd rfl h
 | _::_,[],_,h,_,_,_=>absurd rfl h
 | [x],[y],_,_,_,_,e=>by simp only[ko]at e;rw[e]
 | [x],y::y2::r,_,_,hx,_,e=>by
  simp only[ko]at e;exact(cut_no (hx x (by simp)) e).elim
 |x::x2::r,[y],_,_,_,hy,e=>by
  simp only[ko]at e;exact(cut_no (hy y (by simp)) e.symm).elim
 |x::x2::r,y::y2::r',_,_,hx,hy,e=>by
  simp only[ko]at e;obtain⟨e1,e2⟩:=cut_eq (hx x (by simp)) (hy y (by simp)) e;have:=joinC_inj (xs:=x2::r) (ys:=y2::r') (by simp) (by simp) (fun z hz=>hx z (mem_cons_of_mem _ hz)) (fun z hz=>hy z (mem_cons_of_mem _ hz)) e2;rw[e1,this]
theorem join_cps(c:Nat):∀ws:List Str,(Str.join ⟨#[c]⟩ ws).cps.toList=ko c (ws.map fun w=>w.cps.toList)
 | []=>rfl
 | [x]=>rfl
 |x::y::r=>by
  show((x++(⟨#[c]⟩:Str))++Str.join ⟨#[c]⟩ (y::r)).cps.toList=x.cps.toList++c::ko c ((y::r).map fun w=>w.cps.toList);rw[<-join_cps c (y::r)];show(x.cps++ #[c]++(Str.join ⟨#[c]⟩ (y::r)).cps).toList=_;simp
theorem kB{x y:Str}(h:x.cps.toList=y.cps.toList):x=y:=by
 obtain⟨a⟩:=x;obtain⟨b⟩:=y;have:a=b:=Array.toList_inj.mp h;rw[this]
theorem split_ne(x y:Str):Txt.split x y≠[]:=by
 unfold Txt.split;split
 ·simp
 ·split
  ·simp
  ·simp[Builtin.Str.partsBetween]
theorem split_join_one{c:Nat}{ws:List Str}(h0:ws≠[])(h:∀w∈ws,c∉w.cps.toList):Txt.split (Txt.join ⟨#[c]⟩ ws) ⟨#[c]⟩=ws:=by
 have e1:Txt.join ⟨#[c]⟩ ws=Str.join ⟨#[c]⟩ ws:=StrLaws.glued_eq_join _ _;have e2:=StrLaws.join_split (Txt.join ⟨#[c]⟩ ws) ⟨#[c]⟩;have e3:ko c ((Txt.split (Txt.join ⟨#[c]⟩ ws) ⟨#[c]⟩).map fun w=>w.cps.toList)=ko c (ws.map fun w=>w.cps.toList):=by
  rw[<-join_cps,<-join_cps,e2,e1]
 have e4:=joinC_inj (by simpa using split_ne _ _) (by simpa using h0) (fun x hx=>by
  obtain⟨w,hw,rfl⟩:=mem_map.mp hx;exact StrLaws.split_free _ c w hw) (fun x hx=>by
  obtain⟨w,hw,rfl⟩:=mem_map.mp hx;exact h w hw) e3
 have inj:∀(xs ys:List Str),(xs.map fun w=>w.cps.toList)=(ys.map fun w=>w.cps.toList)->xs=ys:=by
  intro xs
  induction xs with
  |nil=>intro ys e;cases ys with|nil=>rfl|cons y r=>cases e
  |cons x r ih =>
   intro ys e;cases ys with
   |nil=>cases e
   |cons y r' =>
    simp only[map_cons,List.cons.injEq]at e;rw[kB e.1,ih _ e.2]
 exact inj _ _ e4
theorem joinC_len(c:Nat):∀ws:List (List Nat),(ko c ws).length<=(ws.map length).sum+ws.length
 | []=>by simp[ko]
 | [x]=>by simp[ko]
 |x::y::r=>by
  have:=joinC_len c (y::r);simp only[ko,length_append,length_cons,map_cons,List.sum_cons]at this ⊢;omega
end L2
namespace L2
open PySem PySem.Spec PyProof.Rows PySem.NumText
def none':Str:=Str.ofString "none"
theorem jY:Str.ofString " "=⟨#[32]⟩:=by decide+kernel
theorem none_cps:none'.cps.toList=[110,111,110,101]:=by decide+kernel
def txt(ns:List Int):Str:=if ns=[]then none' else Txt.join (Str.ofString " ") (ns.map numS)
theorem sum_le{α:Type}{f:α->Nat}{B:Nat}:∀{l:List α},(∀x∈l,f x<=B)->(l.map f).sum<=l.length*B
 | [],_=>by simp
 |x::r,h=>by
  have h1:=h x mem_cons_self;have h2:=sum_le (l:=r) fun y hy=>h y (mem_cons_of_mem _ hy);rw[map_cons,List.sum_cons,length_cons,Nat.succ_mul];omega
theorem yg(x:Str):x.length=x.cps.toList.length:=by
 show x.cps.size=_;simp
theorem numS_log{n:Int}(h0:0<=n)(h:n<=10^60):n.natAbs.log2<1920:=by
 by_cases hz:n.natAbs=0
 ·rw[hz];decide
 ·have h1:n.natAbs<=10^60:=by omega
  exact(Nat.log2_lt hz).mpr (lt_of_le_of_lt h1 (by decide+kernel))
theorem numS_free{n:Int}(h:0<=n):32∉(numS n).cps.toList:=fun z=>by
 have:=kq h 32 z;omega
theorem txt_len{ns:List Int}(hl:ns.length<=64)(hb:∀x∈ns,1<=x/\x<=10^60):(txt ns).length<=10000:=by
 unfold txt;split
 ·rw[yg,none_cps];decide
 ·rw[jY,yg,show Txt.join ⟨#[32]⟩ (ns.map numS)=Str.join ⟨#[32]⟩ (ns.map numS)from StrLaws.glued_eq_join _ _,join_cps];refine le_trans (joinC_len _ _) ?_;have h1:((((ns.map numS).map fun w=>w.cps.toList)).map length).sum<=ns.length*61:=by
   rw[map_map,map_map];exact sum_le fun x hx=>kD (by have:=hb x hx;omega) (by decide) (Int.lt_of_le_of_lt (hb x hx).2 (by decide))
  simp only[length_map];omega
theorem txt_none{ns:List Int}(hb:∀x∈ns,1<=x):txt ns=none'↔ns=[]:=by
 constructor
 ·intro e;unfold txt at e;split at e
  ·assumption
  ·rename_i h;cases ns with
   |nil=>rfl
   |cons n r =>
    exfalso;rw[jY,show Txt.join ⟨#[32]⟩ ((n::r).map numS)=Str.join ⟨#[32]⟩ ((n::r).map numS)from StrLaws.glued_eq_join _ _]at e;have e2:=congrArg (fun x:Str=>x.cps.toList) e;simp only[join_cps,none_cps]at e2;have hn:=hb n mem_cons_self;obtain⟨c,cr,hc,_⟩:=numS_ne hn;have hd:=kq (n:=n) (by omega) c (by rw[hc];exact mem_cons_self);cases r with
    |nil =>
     simp only[map_cons,List.map_nil,ko,hc,List.cons.injEq]at e2;omega
    |cons m r' =>
     simp only[map_cons,ko,hc,List.cons_append,List.cons.injEq]at e2;omega
 ·rintro rfl;rfl
theorem txt_split{ns:List Int}(h0:ns≠[])(hb:∀x∈ns,1<=x):Txt.split (txt ns) (Str.ofString " ")=ns.map numS:=by
 unfold txt;rw[if_neg h0,jY];refine split_join_one (by simpa using h0) fun w hw=>?_;obtain⟨n,hn,rfl⟩:=mem_map.mp hw;exact numS_free (by have:=hb n hn;omega)
def jC(w:Str):Bool:=match w.cps.toList with
 | []=>false
 |c::r=>decide ((c::r).length<=60)&&decide (c≠48)&&(c::r).all fun d=>decide (48<=d/\d<=57)
theorem numS_isNum{n:Int}(h:1<=n)(h2:n<10^60):jC (numS n)=true:=by
 obtain⟨c,r,e,hc⟩:=numS_ne h;have hl:=kD (n:=n) (by omega) (k:=60) (by decide) h2;have hd:=kq (n:=n) (by omega);unfold jC;rw[e]at hl hd ⊢;simp only[and_eq_true,decide_eq_true_eq,all_eq_true];exact⟨⟨hl,hc⟩,fun d hd'=>hd d hd'⟩
theorem figs_cps:(Str.ofString "0123456789").cps.toList=[48,49,50,51,52,53,54,55,56,57]:=by decide+kernel
theorem in_figs(c:Nat):(!(Builtin.Str.occurrences (Str.ofString "0123456789") ⟨#[c]⟩ 0 (Str.ofString "0123456789").length 1).isEmpty)=decide (48<=c/\c<=57):=by
 rw[StrLaws.found_one,figs_cps];congr 1;rw[show([48,49,50,51,52,53,54,55,56,57]:List Nat)=(List.range 10).map (48+ ·)by decide+kernel];simp only[mem_map,mem_range,eq_iff_iff];exact⟨fun⟨k,hk,e⟩=>⟨by omega,by omega⟩,fun h=>⟨c-48,by omega,by omega⟩⟩
theorem zero_eq:Str.ofString "0"=⟨#[48]⟩:=by decide+kernel
theorem atI0{α:Type}(x:α)(r:List α):atI (x::r) 0=some x:=zu (j:=0) rfl
theorem one_sign(c:Nat):decide ((V.str ⟨#[c]⟩)=V.str (Str.ofString "0"))=decide (c=48):=by
 rw[zero_eq];congr 1;simp
structure IsHeap(n:Nat)(B:Int)(hs:List Int):Prop where
 ln:hs.length<=n
 bd:∀x∈hs,1<=x/\x<B
 pw:hs.Pairwise (· >= ·)
end L2
namespace L2
open PySem PySem.Spec PyProof.Rows
def bmV:List Value:=[.type "ValueError",.type "Exception",.type "BaseException",.type "object"]
structure ExcC(K:W.Frag)(C:Addr):Prop where
 inn:W.excIn K C bmV "ValueError.__new__"=true
 kp:W.keepIn K (.ref C)=true
def itName:Bool->String
 |true => "tuple_iterator"
 |false => "list_iterator"
def j4(k:Bool)(h:Heap)(it l:Addr)(i:Nat):Prop:=∃ o,h.get? it=some o/\o.cls= .type (itName k)/\o.data= .fields #[.ref l,.int i 0]
def kE(k:Bool)(h:Heap)(l:Addr)(items:Array Value):Prop :=
 match k with
 |true=>h.IsTuple l items
 |false=>h.IsList l items
theorem j4.kept{k:Bool}{h h':Heap}{it l:Addr}{i:Nat}(x:j4 k h it l i)(f:∀o,h.get? it=some o->h'.get? it=some o):j4 k h' it l i :=
 let⟨o,e,r⟩:=x;⟨o,f o e,r⟩
theorem j4.lt{k:Bool}{h:Heap}{it l:Addr}{i:Nat}(x:j4 k h it l i):it<h.objs.size:=let⟨_,e,_⟩:=x;Heap.lt_size e
theorem kE.kept{k:Bool}{h h':Heap}{l:Addr}{items:Array Value}(x:kE k h l items)(f:∀o,h.get? l=some o->h'.get? l=some o):kE k h' l items:=by
 cases k
 ·obtain⟨o,e,r⟩:=x;exact⟨o,f o e,r⟩
 ·obtain⟨o,e,r⟩:=x;exact⟨o,f o e,r⟩
theorem kE.lt{k:Bool}{h:Heap}{l:Addr}{items:Array Value}(x:kE k h l items):l<h.objs.size:=by
 cases k
 ·obtain⟨o,e,_⟩:=x;exact Heap.lt_size e
 ·obtain⟨o,e,_⟩:=x;exact Heap.lt_size e
section
variable{prog:Program}{w:World}{A:Around}{E:Value->Shared->Prop}{s:Shared}
theorem nextOf_tup{it l:Addr}{i:Nat}{items:Array Value}{Q:Value->Shared->Prop}(hit:s.heap.IsTupleIter it l i)(ht:s.heap.IsTuple l items)(h:match items[i]? with
   |some x=>∀ h',h'.IsTupleIter it l (i+1)->Heap.SameBut it s.heap h'->Q x {s with heap:=h'}
   |none=>A.handled=none/\ ∀h' e,Heap.ExtBut it s.heap h'->(∃o,h'.get? e=some o/\o.cls= .type "StopIteration")->E (.ref e) {s with heap:=h'}) :
  wpAny (model prog w) A (Builtin.SmallTypes.nextOf (.ref it)) Q E s:=by
 obtain⟨oi,e1,c1,d1⟩:=id hit;obtain⟨ot,e2,_,m2,d2⟩:=ht;unfold Builtin.SmallTypes.nextOf;refine wpAny_bind (wpAny_callSpecial?_slot (name:=Str.ofString "__next__") hit.typeIs F.slot_tuple_iterator_next (wpAny_call_entry F.slot_tuple_iterator_next hit.typeIs F.entry_tuple_iterator_next ?_ (F.args_tuple_iterator_next_1 _)));show wpAny _ _ (field (.ref it) 0 >>= _) _ _ s;refine wpAny_bind (wpAny_field e1 d1 (x:=.ref l) rfl ?_);show wpAny _ _ (if(Value.ref l==Value.none)=true then _ else _) _ _ s;rw[if_neg (show ¬((Value.ref l==Value.none)=true)from Bool.false_ne_true)];show wpAny _ _ (field (.ref it) 1 >>= _) _ _ s;refine wpAny_bind (wpAny_field e1 d1 (x:=.int i 0) rfl ?_);show wpAny _ _ (seqItems? (.ref l) >>= _) _ _ s;refine wpAny_bind (wpAny_seqItems e2 d2 ?_);cases hx:items[i]? with
 |some x =>
  rw[hx]at h;simp only[toNat_natCast,hx];refine wpAny_bind (wpAny_setField e1 d1 (by simp) (wpAny_pure ⟨x,rfl,wpAny_pure (h _ ?_ (Heap.SameBut.update ..))⟩));refine⟨_,Heap.get?_update_self _ e1 (Obj.isFreed_of_fields (Obj.data_mapFields d1 _)),(Obj.cls_mapFields ..).trans c1,?_⟩;rw[Obj.data_mapFields d1];simp[rawInt]
 |none =>
  rw[hx]at h;obtain⟨hh,h⟩:=h;simp only[toNat_natCast,hx];refine wpAny_bind (wpAny_rule (wpAny_bind (wpAny_setField e1 d1 (by simp) ?_)));show wpAny _ _ (newExc (.type "StopIteration") [] >>= _) _ _ _;refine wpAny_bind ?_;simp only[newExc,newTuple];refine wpAny_bind (wpAny_newObj_type ?_ (by size_fits));refine wpAny_bind (m:=firstArgMember _ _) (wpAny_of_eq (a:=Value.none) (by first|rfl|(simp only[firstArgMember];rfl)) ?_);refine wpAny_newObj_type ?_ (by size_fits);simp only[raiseNew];refine wpAny_bind (wpAny_handled ?_)
  first|rw[show A.in1.handled=none from hh]|rw[hh]
  exact wpAny_bind (wpAny_pure (wpAny_throw (h _ _ (((Heap.SameBut.update ..).extBut.push _).push _) ⟨_,Heap.get?_push_size _ rfl,rfl⟩)))
theorem nextS{k:Bool}{it l:Addr}{i:Nat}{items:Array Value}{x:Value}{Q:Value->Shared->Prop}(hit:j4 k s.heap it l i)(hl:kE k s.heap l items)(hx:items[i]? =some x)(hQ:∀h',j4 k h' it l (i+1)->Heap.SameBut it s.heap h'->Q x {s with heap:=h'}):wpAny (model prog w) A (Builtin.SmallTypes.nextOf (.ref it)) Q E s:=by
 cases k
 ·exact wpAny_nextOf_list_item hit hl hx hQ
 ·exact nextOf_tup hit hl (by rw[hx];exact hQ)
theorem endS{k:Bool}{it l:Addr}{i:Nat}{items:Array Value}{Q:Value->Shared->Prop}(hh:A.handled=none)(hit:j4 k s.heap it l i)(hl:kE k s.heap l items)(hx:items[i]? =none)(hE:∀h' e,Heap.ExtBut it s.heap h'->(∃o,h'.get? e=some o/\o.cls= .type "StopIteration")->E (.ref e) {s with heap:=h'}):wpAny (model prog w) A (Builtin.SmallTypes.nextOf (.ref it)) Q E s:=by
 cases k
 ·exact wpAny_nextOf_list_end hh hit hl hx hE
 ·exact nextOf_tup hit hl (by rw[hx];exact⟨hh,hE⟩)
theorem pyIterS{k:Bool}{l:Addr}{items:Array Value}{Q:Value->Shared->Prop}(hl:kE k s.heap l items)(hQ:Q (.ref s.heap.objs.size) {s with heap:=s.heap.push {cls:=.type (itName k),data:=.fields #[.ref l,.int 0 0]}}):wpAny (model prog w) A (pyIter (.ref l)) Q E s:=by
 cases k
 ·exact wpAny_pyIter_list hl hQ
 ·exact wpAny_pyIter_tuple hl hQ
structure ZipAt(k1 k2:Bool)(h:Heap)(z TI TO i1 i2 l1 l2:Addr)(f0:Value)(j1 j2:Nat):Prop where
 zz:IsZip h z TI TO f0
 ti:IsPair h TI (.ref i1) (.ref i2)
 tO:∃a b,IsPair h TO a b
 a1:j4 k1 h i1 l1 j1
 a2:j4 k2 h i2 l2 j2
theorem ZipAt.kept{k1 k2:Bool}{h h':Heap}{z TI TO i1 i2 l1 l2:Addr}{f0:Value}{j1 j2:Nat}(x:ZipAt k1 k2 h z TI TO i1 i2 l1 l2 f0 j1 j2)(f:∀b∈[z,TI,TO,i1,i2],∀o,h.get? b=some o->h'.get? b=some o) :
  ZipAt k1 k2 h' z TI TO i1 i2 l1 l2 f0 j1 j2:=by
 obtain⟨a,b,⟨c,d,e⟩,p,q⟩:=x;exact⟨f z (by simp) _ a,f TI (by simp) _ b,⟨c,d,f TO (by simp) _ e⟩,p.kept (f i1 (by simp)),q.kept (f i2 (by simp))⟩
theorem zip_item{k1 k2:Bool}{z TI TO i1 i2 l1 l2:Addr}{j1 j2:Nat}{xs ys:Array Value}{x y:Value}{Q:Value->Shared->Prop}(D:ZipApart z TI TO i1 i2 l1 l2)(Z:ZipAt k1 k2 s.heap z TI TO i1 i2 l1 l2 .none j1 j2)(b1:kE k1 s.heap l1 xs)(b2:kE k2 s.heap l2 ys)(hx:xs[j1]? =some x)(hy:ys[j2]? =some y)(hQ:∀h',ZipAt k1 k2 h' z TI TO i1 i2 l1 l2 (rawInt s.heap.objs.size) (j1+1) (j2+1)->IsPair h' s.heap.objs.size x y->(∀c o,c∉[z,TO,i1,i2]->s.heap.get? c=some o->h'.get? c=some o)->Q (.ref s.heap.objs.size) {s with heap:=h'}) :
  wpAny (model prog w) A (Builtin.«zip.__next__» ⟨[.ref z],[]⟩) (fun fin s'=>∃ v,fin= .done (.ret v)/\Q v s') E s:=by
 obtain⟨g0,g1,⟨oa,ob,g2⟩,p1,p2⟩:=Z;show wpAny _ _ (field (.ref z) 2 >>= _) _ _ _;refine wpAny_bind (wpAny_field g0 rfl (x:=.bool false) rfl ?_);show wpAny _ _ (field (.ref z) 3 >>= _) _ _ _;refine wpAny_bind (wpAny_field g0 rfl (x:=.ref TI) rfl ?_);refine wpAny_bind (wpAny_seqItems g1 rfl ?_);show wpAny _ _ (Builtin.SmallTypes.ownedTupleIsFree (.ref z) >>= _) _ _ _;refine wpAny_bind ?_;unfold Builtin.SmallTypes.ownedTupleIsFree;refine wpAny_bind (wpAny_field g0 rfl (x:=.none) rfl (wpAny_pure ?_));simp only[if_true];refine wpAny_bind (wpAny_rule ?_);refine wpAny_bind (wpAny_field g0 rfl (x:=.ref TO) rfl ?_);refine wpAny_bind (wpAny_setField_rec g0 (by simp) fun ha za sa=>?_)
 replace za:IsZip ha z TI TO .ellipsis:=za
 refine wpAny_bind ?_;simp only[List.zipIdx_cons,List.zipIdx_nil,List.forIn_cons,List.forIn_nil];refine wpAny_bind (wpAny_bind (wpAny_onRaise ?_));show wpAny _ _ (Builtin.SmallTypes.nextOf (.ref i1) >>= _) _ _ _;refine wpAny_bind (nextS (p1.kept fun o e=>sa.extBut _ _ D.i1z e) (b1.kept fun o e=>sa.extBut _ _ D.l1z e) hx fun hb p1b sb=>wpAny_pure ?_);have t2:IsPair hb TO oa ob:=sb.extBut _ _ D.TOi1 (sa.extBut _ _ D.TOz g2);refine wpAny_bind (wpAny_seqItems t2 rfl ?_);refine wpAny_bind (wpAny_updateSeq_pair t2 fun hc t3 sc=>?_)
 replace t3:IsPair hc TO x ob:=t3
 refine wpAny_bind (wpAny_letGo (wpAny_pure ?_));refine wpAny_bind (wpAny_bind (wpAny_onRaise ?_));show wpAny _ _ (Builtin.SmallTypes.nextOf (.ref i2) >>= _) _ _ _;refine wpAny_bind (nextS (p2.kept fun o e=>sc.extBut _ _ D.TOi2.symm (sb.extBut _ _ D.i12.symm (sa.extBut _ _ D.i2z e))) (b2.kept fun o e=>sc.extBut _ _ D.l2TO (sb.extBut _ _ D.l2i1 (sa.extBut _ _ D.l2z e))) hy fun hd p2d sd=>wpAny_pure ?_);have t4:IsPair hd TO x ob:=sd.extBut _ _ D.TOi2 t3;refine wpAny_bind (wpAny_seqItems t4 rfl ?_);refine wpAny_bind (wpAny_updateSeq_pair t4 fun he t5 se=>?_)
 replace t5:IsPair he TO x y:=t5
 refine wpAny_bind (wpAny_letGo (wpAny_pure (wpAny_pure ?_)));refine wpAny_bind (wpAny_seqItems t5 rfl ?_);refine wpAny_bind (wpAny_newTuple ?_);have size:he.objs.size=s.heap.objs.size:=by rw[se.1,sd.1,sc.1,sb.1,sa.1]
 have ze:IsZip he z TI TO .ellipsis:=se.extBut _ _ D.TOz.symm (sd.extBut _ _ D.i2z.symm (sc.extBut _ _ D.TOz.symm (sb.extBut _ _ D.i1z.symm za)));have ke:∀c o,c∉[z,TO,i1,i2]->s.heap.get? c=some o->he.get? c=some o:=fun c o n e=>by
  simp only[mem_cons,not_mem_nil,or_false,not_or]at n;exact se.extBut _ _ n.2.1 (sd.extBut _ _ n.2.2.2 (sc.extBut _ _ n.2.1 (sb.extBut _ _ n.2.2.1 (sa.extBut _ _ n.1 e))))
 have q1:j4 k1 he i1 l1 (j1+1):=p1b.kept fun o e=>se.extBut _ _ D.TOi1.symm (sd.extBut _ _ D.i12 (sc.extBut _ _ D.TOi1.symm e));have q2:j4 k2 he i2 l2 (j2+1):=p2d.kept fun o e=>se.extBut _ _ D.TOi2.symm e;have tie:IsPair he TI (.ref i1) (.ref i2):=se.extBut _ _ D.TITO (sd.extBut _ _ D.TIi2 (sc.extBut _ _ D.TITO (sb.extBut _ _ D.TIi1 (sa.extBut _ _ D.TIz g1))));have zlt:z<he.objs.size:=Heap.lt_size ze;show wpAny _ _ (Builtin.SmallTypes.ownedTupleHandOut (.ref z) (.ref he.objs.size) >>= _) _ _ _;refine wpAny_bind ?_;unfold Builtin.SmallTypes.ownedTupleHandOut;have zf:IsZip (he.push {cls:=.type "tuple",data:=.seq #[x,y]}) z TI TO .ellipsis:=Heap.get?_push_of_some _ ze;refine wpAny_bind (wpAny_setField_rec zf (by simp) fun hg zg sg=>?_)
 replace zg:IsZip hg z TI TO (rawInt he.objs.size):=zg
 refine wpAny_setField_rec zg (by simp) fun hn zn sn=>?_
 replace zn:IsZip hn z TI TO (rawInt he.objs.size):=zn
 have up:∀c o,c≠z->he.get? c=some o->hn.get? c=some o:=fun c o n e=>sn.extBut _ _ n (sg.extBut _ _ n (Heap.get?_push_of_some _ e));have tn:IsPair hn he.objs.size x y:=sn.extBut _ _ (Nat.ne_of_gt zlt) (sg.extBut _ _ (Nat.ne_of_gt zlt) (Heap.get?_push_size _ rfl));rw[size]at zn tn;refine wpAny_pure ⟨_,rfl,?_⟩;show Q (.ref he.objs.size) _;rw[size];refine hQ hn ⟨zn,up _ _ D.TIz tie,⟨_,_,up _ _ D.TOz t5⟩,q1.kept fun o e=>up _ _ D.i1z e,q2.kept fun o e=>up _ _ D.i2z e⟩ tn fun c o n e=>up c o (fun z=>n (by simp[z])) (ke c o n e)
theorem zip_end{k1 k2:Bool}{z TI TO i1 i2 l1 l2:Addr}{j1 j2:Nat}{xs ys:Array Value}{Q:Fin->Shared->Prop}(hh:A.handled=none)(D:ZipApart z TI TO i1 i2 l1 l2)(Z:ZipAt k1 k2 s.heap z TI TO i1 i2 l1 l2 .none j1 j2)(b1:kE k1 s.heap l1 xs)(b2:kE k2 s.heap l2 ys)(hend:xs[j1]? =none\/ys[j2]? =none)(hE:∀h' e,(∀c o,c∉[z,TO,i1,i2]->s.heap.get? c=some o->h'.get? c=some o)->(∃o,h'.get? e=some o/\o.cls= .type "StopIteration")->E (.ref e) {s with heap:=h'}) :
  wpAny (model prog w) A (Builtin.«zip.__next__» ⟨[.ref z],[]⟩) Q E s:=by
 obtain⟨g0,g1,⟨oa,ob,g2⟩,p1,p2⟩:=Z;show wpAny _ _ (field (.ref z) 2 >>= _) _ _ _;refine wpAny_bind (wpAny_field g0 rfl (x:=.bool false) rfl ?_);show wpAny _ _ (field (.ref z) 3 >>= _) _ _ _;refine wpAny_bind (wpAny_field g0 rfl (x:=.ref TI) rfl ?_);refine wpAny_bind (wpAny_seqItems g1 rfl ?_);show wpAny _ _ (Builtin.SmallTypes.ownedTupleIsFree (.ref z) >>= _) _ _ _;refine wpAny_bind ?_;unfold Builtin.SmallTypes.ownedTupleIsFree;refine wpAny_bind (wpAny_field g0 rfl (x:=.none) rfl (wpAny_pure ?_));simp only[if_true];refine wpAny_bind (wpAny_rule ?_);refine wpAny_bind (wpAny_field g0 rfl (x:=.ref TO) rfl ?_);refine wpAny_bind (wpAny_setField_rec g0 (by simp) fun ha za sa=>?_)
 replace za:IsZip ha z TI TO .ellipsis:=za
 refine wpAny_bind ?_;simp only[List.zipIdx_cons,List.zipIdx_nil,List.forIn_cons,List.forIn_nil];refine wpAny_bind (wpAny_bind (wpAny_onRaise ?_));show wpAny _ _ (Builtin.SmallTypes.nextOf (.ref i1) >>= _) _ _ _;cases hx:xs[j1]? with
 |none =>
  refine wpAny_bind (endS hh (p1.kept fun o e=>sa.extBut _ _ D.i1z e) (b1.kept fun o e=>sa.extBut _ _ D.l1z e) hx fun hb e sb te=>?_);obtain⟨oe,e1,e2⟩:=te;have zb:IsZip hb z TI TO .ellipsis:=sb _ _ D.i1z.symm za;have nez:e≠z:=fun q=>by subst q;rw[zb]at e1;cases e1;simp at e2
  refine wpAny_setField_rec zb (by simp) fun hc _ sc=>hE hc e (fun c o n q=>?_) ⟨oe,sc.extBut _ _ nez e1,e2⟩;simp only[mem_cons,not_mem_nil,or_false,not_or]at n;exact sc.extBut _ _ n.1 (sb _ _ n.2.2.1 (sa.extBut _ _ n.1 q))
 |some x =>
  have hy:ys[j2]? =none:=hend.resolve_left (by rw[hx];intro q;cases q);refine wpAny_bind (nextS (p1.kept fun o e=>sa.extBut _ _ D.i1z e) (b1.kept fun o e=>sa.extBut _ _ D.l1z e) hx fun hb p1b sb=>wpAny_pure ?_);have t2:IsPair hb TO oa ob:=sb.extBut _ _ D.TOi1 (sa.extBut _ _ D.TOz g2);refine wpAny_bind (wpAny_seqItems t2 rfl ?_);refine wpAny_bind (wpAny_updateSeq_pair t2 fun hc t3 sc=>?_);refine wpAny_bind (wpAny_letGo (wpAny_pure ?_));refine wpAny_bind (wpAny_bind (wpAny_onRaise ?_));show wpAny _ _ (Builtin.SmallTypes.nextOf (.ref i2) >>= _) _ _ _;refine wpAny_bind (endS hh (p2.kept fun o e=>sc.extBut _ _ D.TOi2.symm (sb.extBut _ _ D.i12.symm (sa.extBut _ _ D.i2z e))) (b2.kept fun o e=>sc.extBut _ _ D.l2TO (sb.extBut _ _ D.l2i1 (sa.extBut _ _ D.l2z e))) hy fun hd e sd te=>?_);obtain⟨oe,e1,e2⟩:=te;have zd:IsZip hd z TI TO .ellipsis:=sd _ _ D.i2z.symm (sc.extBut _ _ D.TOz.symm (sb.extBut _ _ D.i1z.symm za));have nez:e≠z:=fun q=>by subst q;rw[zd]at e1;cases e1;simp at e2
  refine wpAny_setField_rec zd (by simp) fun he _ se=>hE he e (fun c o n q=>?_) ⟨oe,se.extBut _ _ nez e1,e2⟩;simp only[mem_cons,not_mem_nil,or_false,not_or]at n;exact se.extBut _ _ n.1 (sd _ _ n.2.2.2 (sc.extBut _ _ n.2.1 (sb.extBut _ _ n.2.2.1 (sa.extBut _ _ n.1 q))))
theorem pyNext_zip{k1 k2:Bool}{z TI TO i1 i2 l1 l2:Addr}{j1 j2:Nat}{xs ys:Array Value}{x y:Value}{Q:Option Value->Shared->Prop}(D:ZipApart z TI TO i1 i2 l1 l2)(Z:ZipAt k1 k2 s.heap z TI TO i1 i2 l1 l2 .none j1 j2)(b1:kE k1 s.heap l1 xs)(b2:kE k2 s.heap l2 ys)(hx:xs[j1]? =some x)(hy:ys[j2]? =some y)(hQ:∀h',ZipAt k1 k2 h' z TI TO i1 i2 l1 l2 (rawInt s.heap.objs.size) (j1+1) (j2+1)->IsPair h' s.heap.objs.size x y->(∀c o,c∉[z,TO,i1,i2]->s.heap.get? c=some o->h'.get? c=some o)->Q (some (.ref s.heap.objs.size)) {s with heap:=h'}) :
  wpAny (model prog w) A (pyNext (.ref z)) Q E s:=by
 have ty:s.TypeIs (.ref z) "zip" :=⟨_,Z.zz,rfl⟩;unfold pyNext;exact wpAny_bind (wpAny_attempt (wpAny_callSpecial?_slot (name:=Str.ofString "__next__") ty F.slot_zip_next (wpAny_call_entry F.slot_zip_next ty F.entry_zip_next (zip_item D Z b1 b2 hx hy fun h' r1 r2 r3=>wpAny_pure (hQ h' r1 r2 r3)) (F.args_zip_next_1 _))))
theorem pyNext_zipEnd{k1 k2:Bool}{z TI TO i1 i2 l1 l2:Addr}{j1 j2:Nat}{xs ys:Array Value}{Q:Option Value->Shared->Prop}(hh:A.handled=none)(D:ZipApart z TI TO i1 i2 l1 l2)(Z:ZipAt k1 k2 s.heap z TI TO i1 i2 l1 l2 .none j1 j2)(b1:kE k1 s.heap l1 xs)(b2:kE k2 s.heap l2 ys)(hend:xs[j1]? =none\/ys[j2]? =none)(hQ:∀h',(∀c o,c∉[z,TO,i1,i2]->s.heap.get? c=some o->h'.get? c=some o)->Q none {s with heap:=h'}):wpAny (model prog w) A (pyNext (.ref z)) Q E s:=by
 have ty:s.TypeIs (.ref z) "zip" :=⟨_,Z.zz,rfl⟩;unfold pyNext;refine wpAny_bind (wpAny_attempt (wpAny_callSpecial?_slot (name:=Str.ofString "__next__") ty F.slot_zip_next (wpAny_call_entry F.slot_zip_next ty F.entry_zip_next (zip_end hh D Z b1 b2 hend fun h' e hk he=>?_) (F.args_zip_next_1 _))));obtain⟨o,e1,e2⟩:=he;exact wpAny_bind (wpAny_isInstance (T :="StopIteration") (b:=true) ⟨o,e1,e2⟩ isSubtype_stop (wpAny_pure (hQ _ hk)))
end
def zH1(k1:Bool)(h:Heap)(l1:Addr):Heap:=h.push {cls:=.type (itName k1),data:=.fields #[.ref l1,.int 0 0]}
def zH2(k1 k2:Bool)(h:Heap)(l1 l2:Addr):Heap:=(zH1 k1 h l1).push {cls:=.type (itName k2),data:=.fields #[.ref l2,.int 0 0]}
def zH3(k1 k2:Bool)(h:Heap)(l1 l2:Addr):Heap:=(zH2 k1 k2 h l1 l2).push {cls:=.type "tuple",data:=.seq #[.ref h.objs.size,.ref (zH1 k1 h l1).objs.size]}
def zH4(k1 k2:Bool)(h:Heap)(l1 l2:Addr):Heap:=(zH3 k1 k2 h l1 l2).push {cls:=.type "tuple",data:=.seq #[.none,.none]}
def zH5(k1 k2:Bool)(h:Heap)(l1 l2:Addr):Heap:=(zH4 k1 k2 h l1 l2).push {cls:=.type "zip",data:=.fields #[.none,.bool false,.bool false,.ref (zH2 k1 k2 h l1 l2).objs.size,.ref (zH3 k1 k2 h l1 l2).objs.size]}
theorem zip_new_meets(k1 k2:Bool)(l1 l2:Addr)(xs ys:Array Value) :
  Meets (Builtin.«zip.__new__» ⟨[.type "zip",.ref l1,.ref l2],[]⟩) (fun _ R s=>kE k1 s.heap l1 xs/\kE k2 s.heap l2 ys/\R (.ok (.ret (.ref (zH4 k1 k2 s.heap l1 l2).objs.size))) {s with heap:=zH5 k1 k2 s.heap l1 l2}) :=
 .of_wp fun prog w A R s h=>by
  obtain⟨hp,gn,dr,tk,os⟩:=s;obtain⟨q1,q2,h⟩:=h;have hsub:=sub_zip;have r1:kE k1 (Shared.heap ⟨hp,gn,dr,tk,os⟩) l1 xs:=q1;have r2:kE k2 (Shared.heap ⟨hp.push {cls:=.type (itName k1),data:=.fields #[.ref l1,.int 0 0]},gn,dr,tk,os⟩) l2 ys:=kE.kept q2 fun o e=>Heap.get?_push_of_some _ e
  wp_walk using pyIterS r1,pyIterS r2
  exact⟨_,rfl,h⟩
section
variable{prog:Program}{w:World}{A:Around}{E:Value->Shared->Prop}{s:Shared}
theorem call_zip{k1 k2:Bool}{l1 l2:Addr}{xs ys:Array Value}{Q:Value->Shared->Prop}(b1:kE k1 s.heap l1 xs)(b2:kE k2 s.heap l2 ys)(hQ:∀h',ZipAt k1 k2 h' (s.heap.objs.size+4) (s.heap.objs.size+2) (s.heap.objs.size+3) s.heap.objs.size (s.heap.objs.size+1) l1 l2 .none 0 0->(∀c o,s.heap.get? c=some o->h'.get? c=some o)->Q (.ref (s.heap.objs.size+4)) {s with heap:=h'}) :
  wpAny (model prog w) A (call (.type "zip") [.ref l1,.ref l2]) Q E s:=by
 refine callType_new F.called_zip (by decide) (F.typeCall_zip_2 _ _) (F.newCall_zip_2 _ _) (fun obj=>F.args_object_init_3 obj _ _) F.entry_zip_new (zip_new_meets k1 k2 l1 l2 xs ys) ⟨b1,b2,?_⟩;have n1:(zH1 k1 s.heap l1).objs.size=s.heap.objs.size+1:=Heap.size_push ..;have n2:(zH2 k1 k2 s.heap l1 l2).objs.size=s.heap.objs.size+2:=by unfold zH2;rw[Heap.size_push,n1]
 have n3:(zH3 k1 k2 s.heap l1 l2).objs.size=s.heap.objs.size+3:=by unfold zH3;rw[Heap.size_push,n2]
 have n4:(zH4 k1 k2 s.heap l1 l2).objs.size=s.heap.objs.size+4:=by unfold zH4;rw[Heap.size_push,n3]
 have f5:(zH5 k1 k2 s.heap l1 l2).get? (zH4 k1 k2 s.heap l1 l2).objs.size=some _:=Heap.get?_push_size _ rfl;have f4:(zH5 k1 k2 s.heap l1 l2).get? (zH3 k1 k2 s.heap l1 l2).objs.size=some _:=Heap.get?_push_of_some _ (Heap.get?_push_size _ rfl);have f3:(zH5 k1 k2 s.heap l1 l2).get? (zH2 k1 k2 s.heap l1 l2).objs.size=some _:=Heap.get?_push_of_some _ (Heap.get?_push_of_some _ (Heap.get?_push_size _ rfl));have f2:(zH5 k1 k2 s.heap l1 l2).get? (zH1 k1 s.heap l1).objs.size=some _:=Heap.get?_push_of_some _ (Heap.get?_push_of_some _ (Heap.get?_push_of_some _ (Heap.get?_push_size _ rfl)));have f1:(zH5 k1 k2 s.heap l1 l2).get? s.heap.objs.size=some _:=Heap.get?_push_of_some _ (Heap.get?_push_of_some _ (Heap.get?_push_of_some _ (Heap.get?_push_of_some _ (Heap.get?_push_size _ rfl))));show _/\_;rw[n2,n3,n4]at f5;rw[n1,n2]at f3;rw[n3]at f4;rw[n1]at f2;rw[n4];exact⟨⟨_,f5,rfl⟩,hQ _ ⟨f5,f3,⟨_,_,f4⟩,⟨_,f1,rfl,rfl⟩,⟨_,f2,rfl,rfl⟩⟩ fun c o e=>Heap.get?_push_of_some _ (Heap.get?_push_of_some _ (Heap.get?_push_of_some _ (Heap.get?_push_of_some _ (Heap.get?_push_of_some _ e))))⟩
end
section
variable{X:Cx}{pins:List (Addr×Obj)}{σ:St}{H:Hp}{s:Shared}{h':Heap}
theorem Inv.turnedL{t':Nat}{ch:List Addr}(I:Inv X pins σ H s)(hf:∀b∈ch,FpOk X pins H b)(k:∀b o,b∉ch->s.heap.get? b=some o->h'.get? b=some o):Inv X pins σ H {s with heap:=h',toks:=t'}:=by
 have nch:∀b u,H b=some u->b∉ch:=fun b u e z=>by rw[(hf b z).1]at e;cases e
 refine I.step (g':=s.gens) (d':=s.drawn) (ch:=ch) (fun b hb=>⟨(hf b hb).2.2.2.1,(hf b hb).2.1,(hf b hb).2.2.2.2.1,(hf b hb).2.2.2.2.2⟩) (fun b o _ _ hc e _=>k b o hc e) (fun b o _ _ hc e _=>⟨o.slots,k b o hc e⟩) (fun _ _ _ _ n=>n)
  (fun b o hc e=>⟨o,k b o hc e⟩) (fun _ _ e=>e) (fun _ _ _ e=>e) (fun b ps e=>⟨#[],by rw[e];simp⟩) (fun m hm=>?_) (fun b u e=>?_) I.bare
 ·obtain⟨o,es,ep,ho,r⟩:=hm;exact⟨o,es,ep,k _ o (fun z=>(hf _ z).2.1 rfl) ho,r⟩
 ·refine(I.hok b u e).stay (fun c v hc q=>k c v ?_ q) (fun _ q=>q) fun _ _ q=>q;rcases hc with z|z
  ·rw[z];exact nch b u e
  ·exact nch c _ z
theorem Inv.turnedN{t':Nat}{ch:List Addr}{T:Addr}{o:HO}(I:Inv X pins σ H s)(hf:∀b∈ch,FpOk X pins H b)(k:∀b o,b∉ch->s.heap.get? b=some o->h'.get? b=some o)(hT:s.heap.objs.size<=T)(new:yh X.prog X.w (upd H T o) h' T o):Inv X pins σ (upd H T o) {s with heap:=h',toks:=t'}:=by
 have nch:∀b u,H b=some u->b∉ch:=fun b u e z=>by rw[(hf b z).1]at e;cases e
 have hn:H T=none:=I.hok.fresh hT;refine I.step (g':=s.gens) (d':=s.drawn) (ch:=ch) (fun b hb=>⟨(hf b hb).2.2.2.1,(hf b hb).2.1,(hf b hb).2.2.2.2.1,(hf b hb).2.2.2.2.2⟩) (fun b o _ _ hc e _=>k b o hc e) (fun b o _ _ hc e _=>⟨o.slots,k b o hc e⟩)
  (fun b u _ e n=>by rw[zh (ne_of_lt (lt_of_lt_of_le (Heap.lt_size e) hT))];exact n)
  (fun b o hc e=>⟨o,k b o hc e⟩) (fun b xs e=>by rw[zh (zo e hn)];exact e) (fun b u xs e=>by rw[zh (zo e hn)];exact e) (fun b ps e=>⟨#[],by rw[zh (zo e hn),e];simp⟩) (fun m hm=>?_) (fun b u e=>?_) I.bare
 ·obtain⟨o,es,ep,ho,r⟩:=hm;exact⟨o,es,ep,k _ o (fun z=>(hf _ z).2.1 rfl) ho,r⟩
 ·by_cases hb:b=T
  ·subst hb;rw[z6]at e;cases e;exact new
  ·rw[zh hb]at e;refine(I.hok b u e).stay (fun c v hc q=>k c v ?_ q) (fun c q=>by rw[zh (zo q hn)];exact q) fun c xs q=>by rw[zh (zo q hn)];exact q
   rcases hc with z|z
   ·rw[z];exact nch b u e
   ·exact nch c _ z
end
def Sq(k:Bool)(K:W.Frag)(H:Hp)(a:Addr)(xs:List V):Prop :=
 match k with
 |true=>SqT K H a xs
 |false=>SqL K H a xs
theorem Inv.sq{X:Cx}{pins:List (Addr×Obj)}{σ:St}{H:Hp}{s:Shared}{k:Bool}{a:Addr}{xs:List V}(I:Inv X pins σ H s)(h:Sq k X.K H a xs):∃its:List Value,Vals xs its/\kE k s.heap a its.toArray/\xs.length<=sizeLine:=by
 cases k
 ·obtain⟨its,r,p,z⟩:=I.list h;exact⟨its,r,p.isList,z⟩
 ·exact I.tuple h
theorem Inv.sq_inj{X:Cx}{pins:List (Addr×Obj)}{σ:St}{H:Hp}{s:Shared}{k:Bool}{a:Addr}{xs ys:List V}(I:Inv X pins σ H s)(h:Sq k X.K H a xs)(h':Sq k X.K H a ys):xs=ys:=by
 cases k
 ·exact I.list_inj h h'
 ·exact I.tuple_inj h h'
def Itz(K:W.Frag)(k1 k2:Bool)(a b:Addr):It :=
 ⟨fun i H=>∃ xs ys x y,Sq k1 K H a xs/\Sq k2 K H b ys/\xs[i]? =some x/\ys[i]? =some y,
  fun i H v H'=>∃ T x y,H T=none/\v= .ref T/\H'=upd H T (.tup [x,y])/\(∀xs,Sq k1 K H a xs->xs[i]? =some x)/\ ∀ys,Sq k2 K H b ys->ys[i]? =some y,
  fun i H=>∃ xs ys,Sq k1 K H a xs/\Sq k2 K H b ys/\(xs.length<=i\/ys.length<=i)⟩
theorem pair_ok{P:Program}{w:World}{H:Hp}{h:Heap}{T:Addr}{x y:V}{u v:Value}(r1:RelV x u)(r2:RelV y v)(e:IsPair h T u v):yh P w H h T (.tup [x,y]):=by
 refine⟨by show 2<=sizeLine;decide,[u,v],.cons r1 (.cons r2 .nil),⟨_,e,rfl,_,rfl⟩,fun o q=>?_⟩;rw[e]at q;cases q;rfl
theorem turn_zip{P:Program}{w:World}{K:W.Frag}{elts:List Expr}{x1:Nat}{pos:Pos}(k1 k2:Bool)(a b z TI TO i1 i2:Addr)(D:ZipApart z TI TO i1 i2 a b) :
  Turn P w K (.Tuple elts x1 pos) (Itz K k1 k2 a b) [z,TI,TO,i1,i2] z (fun i h=>ZipAt k1 k2 h z TI TO i1 i2 a b .none i i) where
 mem:=by simp
 obj:=fun i h st c hc=>by
  obtain⟨g0,g1,⟨oa,ob,g2⟩,⟨o1,e1,_,d1⟩,⟨o2,e2,_,d2⟩⟩:=st;simp only[mem_cons,not_mem_nil,or_false]at hc;rcases hc with rfl|rfl|rfl|rfl|rfl
  ·exact⟨_,g0,fun v q=>by cases q⟩
  ·exact⟨_,g1,fun v q=>by cases q⟩
  ·exact⟨_,g2,fun v q=>by cases q⟩
  ·exact⟨_,e1,fun v q=>by rw[d1]at q;cases q⟩
  ·exact⟨_,e2,fun v q=>by rw[d2]at q;cases q⟩
 keep:=fun i h h' st k=>st.kept k
 item:=by
  intro X hP hw hK hc i pins s σ H E I hf st hg;subst hP hw hK;obtain⟨xs,ys,x,y,hq1,hq2,hx,hy⟩:=hg;obtain⟨us,rv1,p1,_⟩:=I.sq hq1;obtain⟨ws,rv2,p2,_⟩:=I.sq hq2;obtain⟨u,hu,ru⟩:=rv1.get hx;obtain⟨v,hv,rv⟩:=rv2.get hy;refine pyNext_zip D st p1 p2 (x:=u) (y:=v) (by simpa using hu) (by simpa using hv) fun h' st' tp kk=>⟨_,rfl,?_⟩;refine wpAny_letOwnedTupleGo_zip st'.zz fun h2 hz2 sb=>?_;have up:∀c o,c≠z->h'.get? c=some o->h2.get? c=some o:=fun c o n e=>(sb.2 c n).trans e;have lt:z<s.heap.objs.size:=Heap.lt_size st.zz;have tp2:IsPair h2 s.heap.objs.size u v:=up _ _ (Nat.ne_of_gt lt) tp;have I1:Inv X pins σ (upd H s.heap.objs.size (.tup [x,y])) {s with heap:=h2}:=I.turnedN (t':=s.toks) (ch:=[z,TI,TO,i1,i2]) hf (fun c o n e=>up c o (fun q=>n (by simp[q])) (kk c o (fun q=>n (by
   simp only[mem_cons,not_mem_nil,or_false]at q ⊢;rcases q with q|q|q|q <;>simp[q])) e)) (le_refl _) (pair_ok ru rv tp2)
  refine⟨.ref s.heap.objs.size,_,I1,rfl,⟨_,x,y,I.hok.fresh (le_refl _),rfl,rfl,fun xs' h=>by rw[I.sq_inj h hq1];exact hx,fun ys' h=>by rw[I.sq_inj h hq2];exact hy⟩,
   ⟨hz2,up _ _ D.TIz st'.ti,?_,st'.a1.kept (fun o e=>up _ _ D.i1z e),st'.a2.kept fun o e=>up _ _ D.i2z e⟩,fun c hc=>?_⟩
  ·obtain⟨oa,ob,e⟩:=st'.tO;exact⟨oa,ob,up _ _ D.TOz e⟩
  ·have hlt:c<s.heap.objs.size:=by
    obtain⟨g0,g1,⟨oa,ob,g2⟩,⟨o1,e1,_,d1⟩,⟨o2,e2,_,d2⟩⟩:=st;simp only[mem_cons,not_mem_nil,or_false]at hc;rcases hc with rfl|rfl|rfl|rfl|rfl
    ·exact Heap.lt_size g0
    ·exact Heap.lt_size g1
    ·exact Heap.lt_size g2
    ·exact Heap.lt_size e1
    ·exact Heap.lt_size e2
   rw[zh (ne_of_lt hlt)];exact(hf c hc).1
 done:=by
  intro X hP hw hK hc i pins s σ H E I hf st hg;subst hP hw hK;obtain⟨xs,ys,hq1,hq2,hend⟩:=hg;obtain⟨us,rv1,p1,_⟩:=I.sq hq1;obtain⟨ws,rv2,p2,_⟩:=I.sq hq2;have l1:=rv1.length;have l2:=rv2.length;refine pyNext_zipEnd (I.ok.hd hc) D st p1 p2 ?_ fun h' kk=>⟨rfl,I.turnedL (t':=s.toks) (ch:=[z,TI,TO,i1,i2]) hf fun c o n e=>kk c o (fun q=>n (by
   simp only[mem_cons,not_mem_nil,or_false]at q ⊢;rcases q with q|q|q|q <;>simp[q])) e⟩
  rcases hend with q|q
  ·exact .inl (by simp;omega)
  ·exact .inr (by simp;omega)
 self:=fun _ _ _ _ _ st h=>wpAny_pyIter_zip st.zz h
section
variable{X:Cx}{elts:List Expr}{x1:Nat}{tpos:Pos}
def iZip(K:W.Frag)(k1 k2:Bool)(ta:TA):TI:=fun σ H R=>ta σ H fun vs H1=>∃ a b,vs=[.ref a,.ref b]/\(∃xs,Sq k1 K H1 a xs)/\(∃ys,Sq k2 K H1 b ys)/\R (Itz K k1 k2 a b) H1
theorem pi_zip(k1 k2:Bool){a b:Expr}{ta:TA}{p pos:Pos}(hg:Gl X "zip")(hm:X.mg "zip"=none)(ha:PA X [a,b] ta)(hs:starEach [a,b] X.env=[(false,eval a X.env),(false,eval b X.env)]:=by rfl)(hs2:starEach [b] X.env=[(false,eval b X.env)]:=by rfl) :
  PI X (.Tuple elts x1 tpos) (.Call (.Name "zip" p) [a,b] [] pos) (iZip X.K k1 k2 ta):=by
 intro pins s σ H R I h;refine Call_ (jM I hg hm boot_zip (PyProof.Rows.callWith_type1 (thn (ha pos pins s σ H _ I h) fun us s1 ⟨vs,H1,I1,r1,q1⟩=>?_) (by rw[hs,hs2]) (by rw[hs2];rfl)));obtain⟨a,b,e,⟨xs,hq1⟩,⟨ys,hq2⟩,q⟩:=q1;subst e;cases r1 with
 |cons r rr =>
  cases rr with
  |cons r' rr =>
   cases rr;cases r;cases r';obtain⟨us,rv1,p1,_⟩:=I1.sq hq1;obtain⟨ws,rv2,p2,_⟩:=I1.sq hq2;refine call_zip p1 p2 fun h' Z kk=>?_;have D:=PyProof.Rows.zipApart_new p1.lt p2.lt;have I2:Inv X pins σ H1 {s1 with heap:=h'}:=I1.kept (t':=s1.toks) kk;refine wpAny_pyIter_zip (s:={s1 with heap:=h'}) Z.zz ⟨_,[s1.heap.objs.size+4,s1.heap.objs.size+2,s1.heap.objs.size+3,s1.heap.objs.size,s1.heap.objs.size+1],_,_,H1,rfl,I2,turn_zip k1 k2 a b _ _ _ _ _ D,Z,fun c hc=>?_,q⟩;have hle:s1.heap.objs.size<=c:=by
    simp only[mem_cons,not_mem_nil,or_false]at hc;have hc':c=s1.heap.objs.size+4\/c=s1.heap.objs.size+2\/c=s1.heap.objs.size+3\/c=s1.heap.objs.size\/c=s1.heap.objs.size+1:=hc;rcases hc' with e|e|e|e|e <;>rw[e] <;>first|exact le_refl _|exact Nat.le_add_right _ _
   exact I1.fpOk hle (I1.hok.fresh hle)
end
theorem comp_zip{K:W.Frag}{k1 k2:Bool}{a b:Addr}{xs ys:List V}{g:TG}{tf:TT}{te:TE}{σ:St}{H:Hp}{Q:VK}(Pv:Nat->List V->St->Hp->Prop)(h0:Pv 0 [] σ H)(hl:∀i zs σ H,i<=min xs.length ys.length->Pv i zs σ H->Sq k1 K H a xs/\Sq k2 K H b ys/\zs.length<=sizeLine)(hs:∀i x y zs σ H T,xs[i]? =some x->ys[i]? =some y->Pv i zs σ H->H T=none->g (.ref T) σ (upd H T (.tup [x,y])) fun σ2 H2=>tf σ2 H2 fun b H3=>if b=true then te σ2 H3 fun v H4=>Pv (i+1) (zs++[v]) σ2 H4 else Pv (i+1) zs σ2 H3)(hd:∀zs σ H,Pv (min xs.length ys.length) zs σ H-> ∀p,H p=none->Q (.ref p) (upd H p (.lst zs))):tCompK g tf te σ (Itz K k1 k2 a b) H Q:=by
 refine⟨fun i m zs σ H=>m=min xs.length ys.length-i/\i<=min xs.length ys.length/\Pv i zs σ H,⟨_,(Nat.sub_zero _).symm,zero_le _,h0⟩,?_⟩;rintro i m zs σ H ⟨rfl,hi,p⟩;obtain⟨q1,q2,hz⟩:=hl i zs σ H hi p;by_cases hlt:i<min xs.length ys.length
 ·have l1:i<xs.length:=by omega
  have l2:i<ys.length:=by omega
  refine .inr ⟨⟨xs,ys,xs[i],ys[i],q1,q2,by simp[l1],by simp[l2]⟩,hz,Pv (i+1),fun ys' σ' H' p'=>⟨min xs.length ys.length-(i+1),by omega,rfl,hlt,p'⟩,fun x H' y=>?_⟩;obtain⟨T,u,v,hT,rfl,rfl,e1,e2⟩:=y;exact hs i u v zs σ H T (e1 xs q1) (e2 ys q2) p hT
 ·have e:i=min xs.length ys.length:=by omega
  rw[e]at p;exact .inl ⟨⟨xs,ys,q1,q2,by omega⟩,hz,hd zs σ H p⟩
theorem for_zip{K:W.Frag}{k1 k2:Bool}{a b:Addr}{xs ys:List V}{g:TG}{tb:TS}{D:Ends}{σ:St}{H:Hp}(Pv:Nat->St->Hp->Prop)(h0:Pv 0 σ H)(hl:∀i σ H,i<=min xs.length ys.length->Pv i σ H->Sq k1 K H a xs/\Sq k2 K H b ys)(hs:∀i x y σ H T,xs[i]? =some x->ys[i]? =some y->Pv i σ H->H T=none->g (.ref T) σ (upd H T (.tup [x,y])) fun σ2 H2=>tb {D with nx:=Pv (i+1),ct:=Pv (i+1),bk:=D.nx} σ2 H2)(hd:∀ σ H,Pv (min xs.length ys.length) σ H->D.nx σ H) :
  ∃W0:Nat->Nat->St->Hp->Prop,(∃m,W0 0 m σ H)/\ ∀i m σ H,W0 i m σ H->
   ((Itz K k1 k2 a b).stop i H/\D.nx σ H)\/((Itz K k1 k2 a b).go i H/\ ∃N:St->Hp->Prop,(∀ σ' H',N σ' H'-> ∃m',m'<m/\W0 (i+1) m' σ' H')/\ ∀x H',(Itz K k1 k2 a b).yld i H x H'->g x σ H' fun σ2 H2=>tb {D with nx:=N,ct:=N,bk:=D.nx} σ2 H2):=by
 refine⟨fun i m σ H=>m=min xs.length ys.length-i/\i<=min xs.length ys.length/\Pv i σ H,⟨_,(Nat.sub_zero _).symm,zero_le _,h0⟩,?_⟩;rintro i m σ H ⟨rfl,hi,p⟩;obtain⟨q1,q2⟩:=hl i σ H hi p;by_cases hlt:i<min xs.length ys.length
 ·have l1:i<xs.length:=by omega
  have l2:i<ys.length:=by omega
  refine .inr ⟨⟨xs,ys,xs[i],ys[i],q1,q2,by simp[l1],by simp[l2]⟩,Pv (i+1),fun σ' H' p'=>⟨min xs.length ys.length-(i+1),by omega,rfl,hlt,p'⟩,fun x H' y=>?_⟩;obtain⟨T,u,v,hT,rfl,rfl,e1,e2⟩:=y;exact hs i u v σ H T (e1 xs q1) (e2 ys q2) p hT
 ·have e:i=min xs.length ys.length:=by omega
  rw[e]at p;exact .inl ⟨⟨xs,ys,q1,q2,by omega⟩,hd σ H p⟩
section
variable{prog:Program}{w:World}{A:Around}{E:Value->Shared->Prop}{s:Shared}
theorem call_tree_kw{id:String}{b:Builtin}{args:List Value}{kw:List (Str×Value)}{Q:Value->Shared->Prop}(hk:builtinKind id=none)(hp:plainId id=true)(hb:entryFor table id=some b)(ha:argsOk id ⟨args,kw⟩)(hc:wpAny (model prog w) A.in1 (b ⟨args,kw⟩) (fun fin s'=>match fin with
   | .done f=>(match(Except.ok f:Result)with| .ok (.ret v)=>Q v s'| .ok _=>False| .error e=>E e s')
   | .again c'=>c'.quiet=true/\codeAny (model prog w) A c' (fun r s'=>match r with| .ok (.ret v)=>Q v s'| .ok _=>False| .error e=>E e s') s') E s):wpAny (model prog w) A (call (.builtin id) args kw) Q E s:=by
 refine wpAny_call (codeAny_call_builtin hp hb ?_);simp only[checkBuiltinCall,hk];cases hsig:Manifest.signature? id with
 |none=>exact wpAny_pure hc
 |some sig =>
  have ha':Bind.checkArgs id sig ⟨args,kw⟩=pure ():=by simpa only[argsOk,hsig]using ha
  simp only[ha'];exact wpAny_pure hc
end
theorem best_le{val:Nat->Int}:∀n j:Nat,j<=n->val j<=val (argBest (fun i j=>decide (val i>val j)) n)
 | 0,j,h=>by
  have:j=0:=by omega
  subst this;exact Int.le_refl _
 |n+1,j,h=>by
  unfold argBest;by_cases c:val (n+1)>val (argBest (fun i j=>decide (val i>val j)) n)
  ·simp only[decide_eq_true c,if_true];by_cases e:j=n+1
   ·rw[e];exact Int.le_refl _
   ·have:=best_le (val:=val) n j (by omega);omega
  ·simp only[decide_eq_false c,false_eq_true,if_false];by_cases e:j=n+1
   ·rw[e];omega
   ·exact best_le n j (by omega)
theorem best_ge{val:Nat->Int}:∀n j:Nat,j<=n->val (argBest (fun i j=>decide (val i<val j)) n)<=val j
 | 0,j,h=>by
  have:j=0:=by omega
  subst this;exact Int.le_refl _
 |n+1,j,h=>by
  unfold argBest;by_cases c:val (n+1)<val (argBest (fun i j=>decide (val i<val j)) n)
  ·simp only[decide_eq_true c,if_true];by_cases e:j=n+1
   ·rw[e];exact Int.le_refl _
   ·have:=best_ge (val:=val) n j (by omega);omega
  ·simp only[decide_eq_false c,false_eq_true,if_false];by_cases e:j=n+1
   ·rw[e];omega
   ·exact best_ge n j (by omega)
theorem best_lt(bt:Nat->Nat->Bool):∀n:Nat,argBest bt n<=n
 | 0=>le_refl _
 |n+1=>by
  unfold argBest;split
  ·exact le_refl _
  ·exact le_trans (best_lt bt n) (le_succ n)
section
variable{X:Cx}
def Ismax(m:Int)(ns:List Int):Prop:=m∈ns/\ ∀x∈ns,x<=m
theorem ismax_of{ns:List Int}(hn:0<ns.length):Ismax (ns.getD (argBest (fun i j=>decide (ns.getD i 0>ns.getD j 0)) (ns.length-1)) 0) ns:=by
 have hb:=best_lt (fun i j=>decide (ns.getD i 0>ns.getD j 0)) (ns.length-1);have at':∀j,j<ns.length->ns.getD j 0=ns[j]!:=fun j h=>by simp[h]
 refine⟨?_,fun x hx=>?_⟩
 ·have hl:argBest (fun i j=>decide (ns.getD i 0>ns.getD j 0)) (ns.length-1)<ns.length:=by omega
  generalize argBest (fun i j=>decide (ns.getD i 0>ns.getD j 0)) (ns.length-1)=k at hl;have:ns.getD k 0=ns[k]:=by simp[hl]
  rw[this];exact getElem_mem hl
 ·obtain⟨j,hj,rfl⟩:=List.mem_iff_getElem.mp hx;have h1:=best_le (val:=fun i=>ns.getD i 0) (ns.length-1) j (by omega);have h2:ns.getD j 0=ns[j]:=by simp[hj]
  rw[<-h2];exact h1
theorem call_max_ints(hc:X.calm=true):jH X (.builtin "max") (fun xs H Q=>∃(a:Addr)(ns:List Int),xs=[.ref a]/\SqL X.K H a (ns.map V.int)/\ns≠[]/\ ∀m,Ismax m ns->Q (.int m) H):=by
 intro pins s σ H xs us Q I r h;obtain⟨a,ns,rfl,hq,hne,q⟩:=h;obtain⟨u,rfl,ru⟩:=vals1 r;cases ru;have hh:X.A.in1.handled=none:=I.ok.hd hc;obtain⟨its,rv,p,hz⟩:=I.list hq;have hl:=rv.length;rw[length_map]at hl;have hlt:a<s.heap.objs.size:=by obtain⟨_,e,_⟩:=p.isList;exact Heap.lt_size e
 have hn:0<ns.length:=List.length_pos_iff.mpr hne;refine call_max_walk (wpAny_pyIter_list p.isList ⟨_,_,_,_,_,_,_,rfl,Walks.list (A:=X.A.in1) hh _ a (ne_of_lt hlt) its.toArray,⟨⟨_,Heap.get?_push_size _ rfl,rfl,rfl⟩,p.isList.push _⟩,fun b hb=>?_,by rw[size_toArray,<-hl];exact hn,CmpOf.ints_gt (fun i=>ns.getD i 0) (yS rv),fun v h' tk p1 kk=>?_⟩)
 ·show b<(s.heap.push _).objs.size;rw[Heap.size_push];rcases mem_cons.mp hb with rfl|hb
  ·exact Nat.lt_succ_self _
  ·rcases mem_cons.mp hb with rfl|hb
   ·exact lt_succ_of_lt hlt
   ·cases hb
 ·rw[size_toArray,<-hl]at p1;obtain⟨t,e⟩:=yS rv _ v p1;exact⟨.int _,H,I.kept fun b o e=>kk b o (by simpa using ne_of_lt (Heap.lt_size e)) (Heap.get?_push_of_some _ e),⟨t,e⟩,q _ (ismax_of hn)⟩
end
section
variable{prog:Program}{w:World}{A:Around}{R:Result->Shared->Prop}{I:Addr}{fp wr:List Addr}{n:Nat}{P:Nat->Value->Prop}{St:Nat->Heap->Prop}
theorem args_min_default(a v:Value):argsOk "min" ⟨[a],[(Str.ofString "default",v)]⟩:=by unfold argsOk;kernel_rfl
theorem min_loopK{kw:List (Str×Value)}(W0:Walks prog w A.in1 I fp wr n P St)(bt:Nat->Nat->Bool)(hc:CmpOf prog w A.in1 .Lt P bt)(S:Addr)(hSf:S∉fp):∀(k j:Nat)(s:Shared)(vb:Value)(c:Nat),n-(j+1)=k->j+1<=n->St (j+1) s.heap->P (argBest bt j) vb->
  s.heap.get? S=some {cls:=.type "list",dict:=none,data:=.seq #[vb,vb] c,slots:=#[]}->
  (∀v h' tk,P (argBest bt (n-1)) v->(∀b o,b∉wr->b≠S->s.heap.get? b=some o->h'.get? b=some o)->R (.ok (.ret v)) {s with heap:=h',toks:=tk})->
  codeAny (model prog w) A (.builtin "min.loop" ⟨[.ref I,.none,.ref S],kw⟩) R s:=by
 have hSw:S∉wr:=fun h=>hSf (W0.sub _ h);have nm:(toString "min"++toString ".loop" : String)="min.loop" :=by decide
 intro k
 induction k with
 |zero =>
  intro j s vb c hk hj st hP hS hR;have hn:j+1=n:=by omega
  refine codeAny_builtin F.entry_min_loop ?_;rw[Around.under_plainId F.plain_min_loop _];show wpAny _ A.in1 (seqItems? (.ref S) >>= _) _ _ s;refine wpAny_bind (wpAny_seqItems hS rfl ?_);show wpAny _ A.in1 (tryCatch (pyNext (.ref I)) _ >>= _) _ _ s;refine wpAny_bind (wpAny_tryCatch (W0.done s _ _ (hn▸st) fun h' tk kk=>?_));have hS':=kk S _ hSw hS;show wpAny _ A.in1 (updateSeq S (fun _=>#[]) >>= _) _ _ _;refine wpAny_bind (wpAny_updateSeq hS' rfl (wpAny_bind (wpAny_letGo (wpAny_pure ?_))));exact hR vb _ tk (by rw[<-hn];exact hP) fun b o n1 n2 e=>(Heap.get?_update_other _ _ (Ne.symm n2)).trans (kk b o n1 e)
 |succ k ih =>
  intro j s vb c hk hj st hP hS hR;have hlt:j+1<n:=by omega
  refine codeAny_builtin F.entry_min_loop ?_;rw[Around.under_plainId F.plain_min_loop _];show wpAny _ A.in1 (seqItems? (.ref S) >>= _) _ _ s;refine wpAny_bind (wpAny_seqItems hS rfl ?_);show wpAny _ A.in1 (tryCatch (pyNext (.ref I)) _ >>= _) _ _ s;refine wpAny_bind (wpAny_tryCatch (W0.item (j+1) s _ _ hlt st fun v h' tk hPv st' kk=>?_));have hS':=kk S _ hSw hS;show wpAny _ A.in1 (tryCatch (holding [v,v] (richCompare .Lt v vb >>= _)) _ >>= _) _ _ _;refine wpAny_bind (wpAny_tryCatch (wpAny_holding (wpAny_bind (hc (j+1) (argBest bt j) v vb _ _ _ hPv hP ?_))));refine wpAny_bind (wpAny_holding (wpAny_truthy_bool ?_));refine wpAny_bind (wpAny_letGo (wpAny_pure ?_));cases hb:bt (j+1) (argBest bt j)with
  |true =>
   simp only[if_true];refine wpAny_bind (wpAny_updateSeq hS' rfl (wpAny_bind (wpAny_letGo ?_)));rw[nm];refine wpAny_pure ⟨plainId_quiet F.plain_min_loop _,ih (j+1) _ v _ (by omega) hlt (W0.frame _ _ _ st' fun b q o e=>?_) (by simp only[argBest,hb,if_true];exact hPv) (Heap.get?_update_self _ hS' rfl) fun v2 h2 t2 p2 k2=>?_⟩
   ·exact(Heap.get?_update_other _ _ (fun h:S=b=>hSf (by rw[h];exact q))).trans e
   ·exact hR v2 h2 t2 p2 fun b o n1 n2 e=>k2 b o n1 n2 ((Heap.get?_update_other _ _ (Ne.symm n2)).trans (kk b o n1 e))
  |false =>
   simp only[false_eq_true,if_false];refine wpAny_bind (wpAny_letGo ?_);rw[nm];refine wpAny_pure ⟨plainId_quiet F.plain_min_loop _,ih (j+1) _ vb c (by omega) hlt st' (by simp only[argBest,hb,false_eq_true,if_false];exact hP) hS' fun v2 h2 t2 p2 k2=>?_⟩;exact hR v2 h2 t2 p2 fun b o n1 n2 e=>k2 b o n1 n2 (kk b o n1 e)
theorem min_loop0{d:Value}{s:Shared}{c:Nat}(W0:Walks prog w A.in1 I fp wr n P St)(bt:Nat->Nat->Bool)(hc:CmpOf prog w A.in1 .Lt P bt)(S:Addr)(hSf:S∉fp)(st:St 0 s.heap)(hS:s.heap.get? S=some {cls:=.type "list",dict:=none,data:=.seq #[] c,slots:=#[]})(hR:∀v h' tk,(0<n->P (argBest bt (n-1)) v)->(n=0->v=d)->(∀b o,b∉wr->b≠S->s.heap.get? b=some o->h'.get? b=some o)->R (.ok (.ret v)) {s with heap:=h',toks:=tk}) :
  codeAny (model prog w) A (.builtin "min.loop" ⟨[.ref I,.none,.ref S],[(Str.ofString "default",d)]⟩) R s:=by
 have hSw:S∉wr:=fun h=>hSf (W0.sub _ h);have nm:(toString "min"++toString ".loop" : String)="min.loop" :=by decide
 refine codeAny_builtin F.entry_min_loop ?_;rw[Around.under_plainId F.plain_min_loop _];show wpAny _ A.in1 (seqItems? (.ref S) >>= _) _ _ s;refine wpAny_bind (wpAny_seqItems hS rfl ?_);show wpAny _ A.in1 (tryCatch (pyNext (.ref I)) _ >>= _) _ _ s;by_cases h0:n=0
 ·refine wpAny_bind (wpAny_tryCatch (W0.done s _ _ (h0▸st) fun h' tk kk=>?_));show wpAny _ A.in1 (rule _ >>= _) _ _ _;refine wpAny_bind (wpAny_rule (wpAny_pure ?_));exact hR d h' tk (fun z=>absurd h0 (Nat.ne_of_gt z)) (fun _=>rfl) fun b o n1 _ e=>kk b o n1 e
 ·have hn:0<n:=Nat.pos_of_ne_zero h0;refine wpAny_bind (wpAny_tryCatch (W0.item 0 s _ _ hn st fun v h' tk hPv st' kk=>?_));have hS':=kk S _ hSw hS;show wpAny _ A.in1 (updateSeq S (fun _=>#[v,v]) >>= _) _ _ _;refine wpAny_bind (wpAny_updateSeq hS' rfl ?_);rw[nm];refine wpAny_pure ⟨plainId_quiet F.plain_min_loop _,min_loopK W0 bt hc S hSf _ 0 _ v _ rfl hn (W0.frame _ _ _ st' fun b q o e=>?_) hPv (Heap.get?_update_self _ hS' rfl) fun v2 h2 t2 p2 k2=>?_⟩
  ·exact(Heap.get?_update_other _ _ (fun h:S=b=>hSf (by rw[h];exact q))).trans e
  ·exact hR v2 h2 t2 (fun _=>p2) (fun z=>absurd z h0) fun b o n1 n2 e=>k2 b o n1 n2 ((Heap.get?_update_other _ _ (Ne.symm n2)).trans (kk b o n1 e))
end
section
variable{prog:Program}{w:World}{A:Around}{E:Value->Shared->Prop}{s:Shared}
theorem call_min_default{x d:Value}{Q:Value->Shared->Prop}(h:wpAny (model prog w) A.in1 (pyIter x) (fun it s2=>∃ I fp wr n P St bt,it= .ref I/\Walks prog w A.in1 I fp wr n P St/\St 0 s2.heap/\(∀b∈fp,b<s2.heap.objs.size)/\CmpOf prog w A.in1 .Lt P bt/\
   ∀v h' tk,(0<n->P (argBest bt (n-1)) v)->(n=0->v=d)->(∀b o,b∉wr->s2.heap.get? b=some o->h'.get? b=some o)->Q v {s2 with heap:=h',toks:=tk}) E s) :
  wpAny (model prog w) A (call (.builtin "min") [x] [(Str.ofString "default",d)]) Q E s:=by
 have nm:(toString "min"++toString ".loop" : String)="min.loop" :=by decide
 refine call_tree_kw F.kind_min F.plain_min F.entry_min (args_min_default _ _) ?_;show wpAny _ A.in1 (Builtin.Builtins.bindParams "min" ["key","default"] 0 ⟨[],[(Str.ofString "default",d)]⟩ >>= _) _ _ s;refine wpAny_bind (wpAny_of_eq (show Builtin.Builtins.bindParams "min" ["key","default"] 0 ⟨[],[(Str.ofString "default",d)]⟩=pure [none,some d]from rfl) ?_);refine wpAny_bind (wpAny_pure ?_);refine wpAny_bind (wpAny_mono h (fun it s2 h2=>?_) fun _ _ e=>e);obtain⟨I,fp,wr,n,P,St,bt,rfl,W0,st,hfp,hc,hQ⟩:=h2;refine wpAny_bind (wpAny_newObj_type ?_);have hSf:s2.heap.objs.size∉fp:=fun hm=>lt_irrefl _ (hfp _ hm);rw[nm];refine wpAny_pure ⟨plainId_quiet F.plain_min_loop _,min_loop0 W0 bt hc s2.heap.objs.size hSf (W0.frame _ _ _ st fun b _ o e=>Heap.get?_push_of_some _ e) (Heap.get?_push_size _ rfl) fun v h' tk p1 p2 kk=>?_⟩;exact hQ v h' tk p1 p2 fun b o n1 e=>kk b o n1 (ne_of_lt (Heap.lt_size e)) (Heap.get?_push_of_some _ e)
end
section
variable{X:Cx}
def Ismin(m:Int)(ns:List Int):Prop:=m∈ns/\ ∀x∈ns,m<=x
theorem ismin_of{ns:List Int}(hn:0<ns.length):Ismin (ns.getD (argBest (fun i j=>decide (ns.getD i 0<ns.getD j 0)) (ns.length-1)) 0) ns:=by
 have hb:=best_lt (fun i j=>decide (ns.getD i 0<ns.getD j 0)) (ns.length-1);have at':∀j,j<ns.length->ns.getD j 0=ns[j]!:=fun j h=>by simp[h]
 refine⟨?_,fun x hx=>?_⟩
 ·have hl:argBest (fun i j=>decide (ns.getD i 0<ns.getD j 0)) (ns.length-1)<ns.length:=by omega
  generalize argBest (fun i j=>decide (ns.getD i 0<ns.getD j 0)) (ns.length-1)=k at hl;have:ns.getD k 0=ns[k]:=by simp[hl]
  rw[this];exact getElem_mem hl
 ·obtain⟨j,hj,rfl⟩:=List.mem_iff_getElem.mp hx;have h1:=best_ge (val:=fun i=>ns.getD i 0) (ns.length-1) j (by omega);have h2:ns.getD j 0=ns[j]:=by simp[hj]
  rw[<-h2];exact h1
theorem min_walkI{pins:List (Addr×Obj)}{σ:St}{H:Hp}{s:Shared}{k:Bool}{a:Addr}{ns:List Int}{E:Value->Shared->Prop}{d:Value}{Q:Value->Shared->Prop}(hc:X.calm=true)(I:Inv X pins σ H s)(hq:Sq k X.K H a (ns.map V.int))(h:∀h' tk v,(∀b o,s.heap.get? b=some o->h'.get? b=some o)->(0<ns.length-> ∃m t,v= .int m t/\Ismin m ns)->(ns.length=0->v=d)->Q v {s with heap:=h',toks:=tk}) :
  wpAny (model X.prog X.w) X.A (call (.builtin "min") [.ref a] [(Str.ofString "default",d)]) Q E s:=by
 have hh:X.A.in1.handled=none:=I.ok.hd hc;obtain⟨its,rv,p,hz⟩:=I.sq hq;have hl:=rv.length;rw[length_map]at hl;have hlt:=p.lt;have fin:∀(h':Heap)(tk:Nat)(v:Value),(∀b o,s.heap.get? b=some o->h'.get? b=some o)->(0<its.toArray.size->its.toArray[argBest (fun i j=>decide (ns.getD i 0<ns.getD j 0)) (its.toArray.size-1)]? =some v)->(its.toArray.size=0->v=d)->Q v {s with heap:=h',toks:=tk}:=fun h' tk v kk p1 p2=>by
  rw[size_toArray,<-hl]at p1 p2;refine h h' tk v kk (fun hn=>?_) p2;obtain⟨t,e⟩:=yS rv _ v (p1 hn);exact⟨_,t,e,ismin_of hn⟩
 have apart:∀b∈[s.heap.objs.size,a],b<s.heap.objs.size+1:=fun b hb=>by
  rcases mem_cons.mp hb with rfl|hb
  ·exact Nat.lt_succ_self _
  ·rcases mem_cons.mp hb with rfl|hb
   ·exact lt_succ_of_lt hlt
   ·cases hb
 cases k
 ·refine call_min_default (wpAny_pyIter_list p ⟨_,_,_,_,_,_,_,rfl,Walks.list (A:=X.A.in1) hh _ a (ne_of_lt hlt) its.toArray,⟨⟨_,Heap.get?_push_size _ rfl,rfl,rfl⟩,Heap.IsList.push p _⟩,fun b hb=>?_,CmpOf.ints_lt (fun i=>ns.getD i 0) (yS rv),fun v h' tk p1 p2 kk=>?_⟩)
  ·show b<(s.heap.push _).objs.size;rw[Heap.size_push];exact apart b hb
  ·exact fin h' tk v (fun b o e=>kk b o (by simpa using ne_of_lt (Heap.lt_size e)) (Heap.get?_push_of_some _ e)) p1 p2
 ·refine call_min_default (wpAny_pyIter_tuple p ⟨_,_,_,_,_,_,_,rfl,Walks.tuple (A:=X.A.in1) hh _ a (ne_of_lt hlt) its.toArray,⟨⟨_,Heap.get?_push_size _ rfl,rfl,rfl⟩,Heap.IsTuple.push p _⟩,fun b hb=>?_,CmpOf.ints_lt (fun i=>ns.getD i 0) (yS rv),fun v h' tk p1 p2 kk=>?_⟩)
  ·show b<(s.heap.push _).objs.size;rw[Heap.size_push];exact apart b hb
  ·exact fin h' tk v (fun b o e=>kk b o (by simpa using ne_of_lt (Heap.lt_size e)) (Heap.get?_push_of_some _ e)) p1 p2
def rminD(K:W.Frag)(k:Bool)(x d:V)(H:Hp)(Q:VK):Prop:=∃ a ns,x= .ref a/\Sq k K H a (ns.map V.int)/\ ∀v,((ns=[]/\v=d)\/ ∃m,v= .int m/\Ismin m ns)->Q v H
def tminD(K:W.Frag)(k:Bool)(te td:TE):TE:=fun σ H Q=>te σ H fun x H1=>td σ H1 fun d H2=>rminD K k x d H2 Q
theorem pe_minD(k:Bool){e dE:Expr}{te td:TE}{p kp pos:Pos}(hc:X.calm=true)(hg:Gl X "min")(hm:X.mg "min"=none)(he:PE X e te)(hd:PE X dE td)(hse:starEach [e] X.env=[(false,eval e X.env)]:=by rfl):PE X (.Call (.Name "min" p) [e] [⟨some "default",dE,kp⟩] pos) (tminD X.K k te td):=by
 intro pins s σ H Q I h;refine wpAny_Call_Name_kw (jM I hg hm boot_min ?_ (by decide) (by decide));refine callWith_kw (thn (kr he ye hse pos pins s σ H (fun vs H1=>match vs with| [x]=>td σ H1 fun d H2=>rminD X.K k x d H2 Q| _=>False) I h) fun us s1 ⟨vs,H1,I1,r1,q1⟩=>?_) (by rw[hse];rfl) (by rw[hse];rfl)
 match vs,r1,q1 with
 | [x],r1,q =>
  obtain⟨u,rfl,ru⟩:=vals1 r1;refine kws_cons (thn (hd pins s1 σ H1 _ I1 q) fun dv s2 ⟨d,H2,I2,r2,q2⟩=>kws_nil ?_);obtain⟨a,ns,rfl,hq,q3⟩:=q2;cases ru;show wpAny _ _ (call (.builtin "min") [.ref a] [(Str.ofString "default",dv)]) _ _ _;refine min_walkI hc I2 hq fun h' tk v kk p1 p2=>?_;by_cases hn:0<ns.length
  ·obtain⟨m,t,rfl,hm⟩:=p1 hn;exact⟨.int m,H2,I2.kept kk,⟨t,rfl⟩,q3 _ (.inr ⟨m,rfl,hm⟩)⟩
  ·have e0:ns.length=0:=by omega
   rw[p2 e0];exact⟨d,H2,I2.kept kk,r2,q3 _ (.inl ⟨List.length_eq_zero_iff.mp e0,rfl⟩)⟩
end
theorem pg_tupC{X:Cx}{scope:Scope}{N:List Str}{C:Addr}{s:Shared}{H:Hp}{ex:List Addr}{es:List Expr}{k:Nat}{t:TGs}{pos:Pos}(n:Nat)(hc:X.calm=true)(h:PGs (cxC X scope N C s H ex) es t)(hn:(assignEach es (cxC X scope N C s H ex).env).length=n)(hst:(assignEach es (cxC X scope N C s H ex).env).findIdx? (·.1)=none):PG (cxC X scope N C s H ex) (.Tuple es k pos) (gTup X.K n t):=pg_tup hc h hn hst
section
variable{κ:Type}[DecidableEq κ]
def valV(kvs:List (κ×V))(k:κ):Option V:=(kvs.find? fun kv=>decide (kv.1=k)).map (·.2)
def putK(kvs:List (κ×V))(k:κ)(v:V):List (κ×V) :=
 if(kvs.any fun kv=>decide (kv.1=k))=true then kvs.map (fun kv=>if kv.1=k then(kv.1,v)else kv)else kvs++[(k,v)]
theorem valV_pos{p:κ×V}{r:List (κ×V)}{k:κ}(e:p.1=k):valV (p::r) k=some p.2:=by simp[valV,find?_cons,e]
theorem valV_neg{p:κ×V}{r:List (κ×V)}{k:κ}(e:¬p.1=k):valV (p::r) k=valV r k:=by simp[valV,find?_cons,e]
theorem valV_any(k:κ):∀kvs:List (κ×V),(kvs.any fun kv=>decide (kv.1=k))=(valV kvs k).isSome
 | []=>rfl
 |p::r=>by
  rw[any_cons];by_cases e:p.1=k
  ·simp only[valV_pos e,decide_eq_true e,Bool.true_or,Option.isSome_some]
  ·rw[valV_neg e,decide_eq_false e,Bool.false_or];exact valV_any k r
theorem length_putK(kvs:List (κ×V))(k:κ)(v:V):(putK kvs k v).length<=kvs.length+1:=by
 unfold putK;split
 ·rw[length_map];omega
 ·rw[length_append,length_cons,List.length_nil];omega
theorem putK_new{kvs:List (κ×V)}{k:κ}(v:V)(h:valV kvs k=none):putK kvs k v=kvs++[(k,v)]:=by
 unfold putK;rw[valV_any,h];exact if_neg (by decide)
theorem RelO.isSome_eq{o:Option V}{u:Option Value}(r:RelO o u):o.isSome=u.isSome:=by
 cases o with
 |none=>cases u with
  |none=>rfl
  |some _=>exact(show False from r).elim
 |some _=>cases u with
  |none=>exact(show False from r).elim
  |some _=>rfl
theorem KV.val{kvs:List (κ×V)}{vs:List (κ×Value)}(r:KV kvs vs)(k:κ):RelO (valV kvs k) (valueAt vs k):=by
 unfold KV at r
 induction r with
 |nil=>exact True.intro
 | @cons p q ps qs h t ih =>
  obtain⟨h1,h2⟩:=h;by_cases e:p.1=k
  ·have e':q.1=k:=h1.symm.trans e;have b:valueAt (q::qs) k=some q.2:=by simp[valueAt,find?_cons,e']
   rw[valV_pos e,b];exact h2
  ·have e':¬q.1=k:=fun z=>e (h1.trans z);have b:valueAt (q::qs) k=valueAt qs k:=by simp[valueAt,find?_cons,e']
   rw[valV_neg e,b];exact ih
theorem KV.any{kvs:List (κ×V)}{vs:List (κ×Value)}(r:KV kvs vs)(k:κ):(kvs.any fun kv=>decide (kv.1=k))=vs.any fun kv=>decide (kv.1=k):=by
 unfold KV at r
 induction r with
 |nil=>rfl
 |cons h t ih=>rw[any_cons,any_cons,ih,h.1]
theorem KV.repl{kvs:List (κ×V)}{vs:List (κ×Value)}(r:KV kvs vs)(k:κ){y:V}{u:Value}(ry:RelV y u) :
  KV (kvs.map fun kv=>if kv.1=k then(kv.1,y)else kv) (vs.map fun kv=>if kv.1=k then(kv.1,u)else kv):=by
 unfold KV at r ⊢
 induction r with
 |nil=>exact .nil
 | @cons p q ps qs h t ih =>
  rw[map_cons,map_cons];refine .cons ?_ ih;obtain⟨h1,h2⟩:=h;by_cases e:p.1=k
  ·rw[if_pos e,if_pos (h1.symm.trans e)];exact⟨h1,ry⟩
  ·rw[if_neg e,if_neg (fun z=>e (h1.trans z))];exact⟨h1,h2⟩
theorem KV.put{kvs:List (κ×V)}{vs:List (κ×Value)}(r:KV kvs vs)(k:κ){y:V}{u:Value}(ry:RelV y u):KV (putK kvs k y) (stored vs k u):=by
 unfold putK stored;rw[r.any k];by_cases e:(vs.any fun kv=>decide (kv.1=k))=true
 ·rw[if_pos e,if_pos e];exact r.repl k ry
 ·rw[if_neg e,if_neg e];exact Paired.snoc r ⟨rfl,ry⟩
theorem KV.length{kvs:List (κ×V)}{vs:List (κ×Value)}(r:KV kvs vs):kvs.length=vs.length:=Paired.length r
end
theorem kV_is{P:Program}{w:World}{k:Key}{u:Value}(r:RelV (kV k) u):(yw P w).is k u=true:=by
 cases k with
 |inl i=>obtain⟨t,e⟩:=(show ∃t,u=Value.int i t from r);subst e;exact mixKind_int P w i t
 |inr x=>obtain⟨t,e⟩:=(show ∃t,u=Value.str x t from r);subst e;exact mixKind_str P w x t
theorem items_are{P:Program}{w:World}:∀{ks:List Key}{us:List Value},Vals (ks.map kV) us->ItemsAre (yw P w) ks us
 | [],_,r=>by rw[List.map_nil]at r;cases r;exact .nil
 |k::ks,_,r=>by
  rw[map_cons]at r;cases r with
  |cons h t=>exact .cons (kV_is h) (items_are t)
abbrev KT(H:Hp):List (List Key×V)->List (List Key×Addr×Value)->Prop:=Paired fun p q=>p.1=q.1/\H q.2.1=some (.tup (p.1.map kV))/\RelV p.2 q.2.2
theorem KT.val{H:Hp}{kvs:List (List Key×V)}{xs:List (List Key×Addr×Value)}(r:KT H kvs xs)(k:List Key):RelO (valV kvs k) ((atKey xs k).map (·.2)):=by
 induction r with
 |nil=>exact True.intro
 | @cons p q ps qs h t ih =>
  obtain⟨h1,_,h2⟩:=h;by_cases e:p.1=k
  ·have e':q.1=k:=h1.symm.trans e;have b:atKey (q::qs) k=some q.2:=by simp[atKey,find?_cons,e']
   rw[valV_pos e,b];exact h2
  ·have e':¬q.1=k:=fun z=>e (h1.trans z);have b:atKey (q::qs) k=atKey qs k:=by simp[atKey,find?_cons,e']
   rw[valV_neg e,b];exact ih
theorem KT.repl{H:Hp}{kvs:List (List Key×V)}{xs:List (List Key×Addr×Value)}(r:KT H kvs xs)(k:List Key){y:V}{u:Value}(ry:RelV y u) :
  KT H (kvs.map fun kv=>if kv.1=k then(kv.1,y)else kv) (xs.map (putAt k u)):=by
 induction r with
 |nil=>exact .nil
 | @cons p q ps qs h t ih =>
  rw[map_cons,map_cons];refine .cons ?_ ih;obtain⟨h1,h2,h3⟩:=h;unfold putAt;by_cases e:p.1=k
  ·rw[if_pos e,if_pos (h1.symm.trans e)];exact⟨h1,h2,ry⟩
  ·rw[if_neg e,if_neg (fun z=>e (h1.trans z))];exact⟨h1,h2,h3⟩
theorem KT.put{H:Hp}{kvs:List (List Key×V)}{xs:List (List Key×Addr×Value)}(r:KT H kvs xs)(k:List Key){b:Addr}{y:V}{u:Value}(hb:H b=some (.tup (k.map kV)))(ry:RelV y u) :
  KT H (putK kvs k y) (storedH xs k b u):=by
 have e:(kvs.any fun kv=>decide (kv.1=k))=(atKey xs k).isSome:=by
  rw[valV_any,(r.val k).isSome_eq,Option.isSome_map]
 unfold putK storedH;rw[e];by_cases q:(atKey xs k).isSome=true
 ·rw[if_pos q,if_pos q];exact r.repl k ry
 ·rw[if_neg q,if_neg q];exact Paired.snoc r ⟨rfl,hb,ry⟩
theorem KT.keeps{H H':Hp}{kvs:List (List Key×V)}{xs:List (List Key×Addr×Value)}(r:KT H kvs xs)(ht:∀b ys,H b=some (.tup ys)->H' b=some (.tup ys)):KT H' kvs xs :=
 Paired.mapP r fun _ _ z=>⟨z.1,ht _ _ z.2.1,z.2.2⟩
section
variable{P:Program}{w:World}{H:Hp}{h:Heap}{a:Addr}
theorem rd_of{u:HO}(ok:HOk P w H h)(e:Rd H a u):yh P w H h a u:=e.ok ok
theorem dk_rd{kvs:List (Key×V)}(ok:HOk P w H h)(e:Rd H a (.dK kvs)):kvs.length<=sizeLine/\(a==sysModules)=false/\ ∃vs,KV kvs vs/\h.DictOf (yw P w) a vs :=
 show yh P w H h a (.dK kvs)from rd_of ok e
theorem dk_of{kvs:List (Key×V)}(ok:HOk P w H h)(e:H a=some (.dK kvs)):kvs.length<=sizeLine/\(a==sysModules)=false/\ ∃vs,KV kvs vs/\h.DictOf (yw P w) a vs:=dk_rd ok (.inl e)
theorem key_of{ks:List Key}(ok:HOk P w H h)(e:H a=some (.tup (ks.map kV))):(tupleKind (yw P w)).is h ks a:=by
 obtain⟨_,its,r,⟨o,h1,h2,n,h3⟩,_⟩:=(show yh P w H h a (.tup (ks.map kV))from ok a _ e);exact⟨o,its.toArray,n,h1,h2,h3,by simpa using items_are r⟩
theorem dt_rd{kvs:List (List Key×V)}(ok:HOk P w H h)(e:Rd H a (.dT kvs)):kvs.length<=sizeLine/\(a==sysModules)=false/\
  ∃xs,KT H kvs xs/\h.DictOfH (tupleKind (yw P w)) a xs:=by
 obtain⟨z,y,xs,r,o,es,ep,h1,h2,h3,h4,h5⟩:=(show yh P w H h a (.dT kvs)from rd_of ok e);refine⟨z,y,xs,r,o,es,ep,h1,h2,h3,h4,fun x hx=>?_,h5⟩;have all:∀{l:List (List Key×V)}{m:List (List Key×Addr×Value)},KT H l m-> ∀x∈m,(tupleKind (yw P w)).is h x.1 x.2.1:=by
  intro l m q
  induction q with
  |nil=>intro x hx;exact nomatch hx
  | @cons p q ps qs hq t ih =>
   intro x hx;rcases mem_cons.mp hx with e|hx
   ·subst e;exact key_of ok (by rw[<-hq.1];exact hq.2.1)
   ·exact ih x hx
 exact all r x hx
theorem dt_of{kvs:List (List Key×V)}(ok:HOk P w H h)(e:H a=some (.dT kvs)):kvs.length<=sizeLine/\(a==sysModules)=false/\
  ∃xs,KT H kvs xs/\h.DictOfH (tupleKind (yw P w)) a xs:=dt_rd ok (.inl e)
end
def DGet(H:Hp)(a:Addr)(y:V)(r:Option V):Prop :=
 (∃kvs k,Rd H a (.dK kvs)/\y=kV k/\r=valV kvs k)\/ ∃kvs k b,Rd H a (.dT kvs)/\y= .ref b/\H b=some (.tup (k.map kV))/\r=valV kvs k
def DPut(H:Hp)(a:Addr)(y v:V)(H':Hp):Prop :=
 (∃kvs k,H a=some (.dK kvs)/\y=kV k/\kvs.length<sizeLine/\H'=upd H a (.dK (putK kvs k v)))\/
 ∃kvs k b,H a=some (.dT kvs)/\y= .ref b/\H b=some (.tup (k.map kV))/\kvs.length<sizeLine/\H'=upd H a (.dT (putK kvs k v))
theorem DGet.k{H:Hp}{a:Addr}{kvs:List (Key×V)}{k:Key}(e:H a=some (.dK kvs)):DGet H a (kV k) (valV kvs k):=.inl ⟨kvs,k,.inl e,rfl,rfl⟩
theorem DPut.k{H:Hp}{a:Addr}{kvs:List (Key×V)}{k:Key}{v:V}(e:H a=some (.dK kvs))(hl:kvs.length<sizeLine):DPut H a (kV k) v (upd H a (.dK (putK kvs k v))):=.inl ⟨kvs,k,e,rfl,hl,rfl⟩
section
variable{X:Cx}{pins:List (Addr×Obj)}{σ:St}{H:Hp}{s:Shared}{a:Addr}{y v:V}{u r:Value}{o:Option V}{A:Around}{E:Value->Shared->Prop}
theorem Inv.big(I:Inv X pins σ H s):sysModules<s.heap.objs.size:=by
 have h:mainGlobals<s.heap.objs.size:=(I.mod.glob.keeps I.bk).lt;exact Nat.lt_trans (by decide) h
theorem d_getItem{Q:Value->Shared->Prop}(hu:A.units+1<cLine)(I:Inv X pins σ H s)(g:DGet H a y (some v))(ry:RelV y u)(h:∀w' s',Inv X pins σ H s'->RelV v w'->Q w' s') :
  wpAny (model X.prog X.w) A (getItem (.ref a) u) Q E s:=by
 rcases g with⟨kvs,k,e,ey,l⟩|⟨kvs,k,b,e,ey,eb,l⟩
 ·subst ey;obtain⟨z,hd,vs,rel,dd⟩:=dk_rd I.hok e;obtain⟨w',hw,rw'⟩:=RelO.some_of (v:=v) (o:=valueAt vs k) (by rw[l];exact rel.val k);exact wpAny_getItem_of (kV_is ry) dd.mapOf hw (h w' _ (I.tok _) rw')
 ·subst ey;cases(show u=Value.ref b from ry);obtain⟨z,hd,xs,rel,dd⟩:=dt_rd I.hok e;obtain⟨w',hw,rw'⟩:=RelO.some_of (v:=v) (o:=(atKey xs k).map (·.2)) (by rw[l];exact rel.val k);obtain⟨p,hp,hp2⟩:=map_eq_some_iff.mp hw;refine wpAny_getItem_heap (tupleKind_room_in1 hu) (key_of I.hok eb) dd hp ?_;rw[hp2];exact h w' _ (I.tok _) rw'
theorem d_notIn{Q:Value->Shared->Prop}(hu:A.units+1<cLine)(I:Inv X pins σ H s)(g:DGet H a y o)(ry:RelV y u)(h:∀s',Inv X pins σ H s'->Q (.bool (!o.isSome)) s') :
  wpAny (model X.prog X.w) A (compareOp .NotIn u (.ref a)) Q E s:=by
 rcases g with⟨kvs,k,e,ey,l⟩|⟨kvs,k,b,e,ey,eb,l⟩
 ·subst ey;obtain⟨z,hd,vs,rel,dd⟩:=dk_rd I.hok e;refine wpAny_notIn_of (kV_is ry) hd dd.mapOf ?_;rw[<-(rel.val k).isSome_eq,<-l];exact h _ (I.tok _)
 ·subst ey;cases(show u=Value.ref b from ry);obtain⟨z,hd,xs,rel,dd⟩:=dt_rd I.hok e;refine wpAny_notIn_heap (tupleKind_room_in1 hu) (key_of I.hok eb) hd dd ?_;have q:=(rel.val k).isSome_eq;rw[Option.isSome_map]at q;rw[<-q,<-l];exact h _ (I.tok _)
theorem d_write{h':Heap}{t':Nat}{ob:HO}(I:Inv X pins σ H s)(mu:Mut (H a))(hs:Heap.SameBut a s.heap h')(he:∃q,h'.get? a=some q)(new:yh X.prog X.w (upd H a ob) h' a ob) :
  Inv X pins σ (upd H a ob) {s with heap:=h',toks:=t'} :=
 I.write (x:=a) (e:=a) mu (.inl rfl) (fun b q hb z=>(hs.2 b hb).trans z) he new
theorem dk_new{P:Program}{w:World}{H':Hp}{h':Heap}{kvs:List (Key×V)}{vs:List (Key×Value)}(z:kvs.length<=sizeLine)(hd:(a==sysModules)=false)(rel:KV kvs vs)(dd:h'.DictOf (yw P w) a vs) :
  yh P w H' h' a (.dK kvs):=⟨z,hd,vs,rel,dd⟩
theorem d_setItem{H':Hp}{Q:Unit->Shared->Prop}(hu:A.units+1<cLine)(I:Inv X pins σ H s)(g:DPut H a y v H')(ry:RelV y u)(rv:RelV v r)(h:∀s',Inv X pins σ H' s'->Q () s') :
  wpAny (model X.prog X.w) A (setItem (.ref a) u r) Q E s:=by
 rcases g with⟨kvs,k,e,ey,l,eH⟩|⟨kvs,k,b,e,ey,eb,l,eH⟩
 ·subst ey eH;obtain⟨z,hd,vs,rel,dd⟩:=dk_of I.hok e;have hz:vs.length<=sizeLine:=by rw[<-rel.length];exact z
  have hl:(putK kvs k v).length<=sizeLine:=by have:=length_putK kvs k v;omega
  refine wpAny_setItem_pairs (hsz:=hz) (kV_is ry) dd fun h' dd' hs=>h _ ?_;have he:∃q,h'.get? a=some q:=let⟨q,_,_,hq,_⟩:=dd';⟨q,hq⟩
  exact d_write I (by rw[e];exact True.intro) hs he (dk_new hl hd (rel.put k rv) dd')
 ·subst ey eH;cases(show u=Value.ref b from ry);obtain⟨z,hd,xs,rel,dd⟩:=dt_of I.hok e;have hz:xs.length<=sizeLine:=by rw[<-Paired.length rel];exact z
  have hl:(putK kvs k v).length<=sizeLine:=by have:=length_putK kvs k v;omega
  refine wpAny_setItem_heap (hsz:=hz) (tupleKind_room_in1 hu) (key_of I.hok eb) dd fun h' dd' hs=>h _ ?_;obtain⟨q,es,ep,hq,h2,h3,h4,_,h5⟩:=dd';refine d_write I (by rw[e];exact True.intro) hs ⟨q,hq⟩ ⟨hl,hd,_,(rel.put k eb rv).keeps fun c ys ec=>?_,q,es,ep,hq,h2,h3,h4,h5⟩;rw[zh (ne_of ec e (fun z=>nomatch z))];exact ec
end
def NoSl(i:Expr):Prop:=∀ ov iv,subscripted i false ov iv=operate [ov,iv] (getItem ov iv)
theorem subD_of{prog:Program}{w:World}{A:Around}{E:Value->Shared->Prop}{s:Shared}{env:Env}{value slice:Expr}{pos:Pos}{T id:String}{Q:Value->Shared->Prop}(hl:typeLookup (.type T) "__getitem__"=pure (some (.builtin id)))(hs:NoSl slice)(h:wpAny (model prog w) A (eval value env) (fun o s₁=>wpAny (model prog w) A (eval slice env) (fun i s₂=>s₂.TypeIs o T/\wpAny (model prog w) A (getItem o i) Q E s₂) E s₁) E s) :
  wpAny (model prog w) A (eval (.Subscript value slice pos) env) Q E s:=by
 refine Subscript_ (wpAny_mono h (fun o s₁ h₁=>wpAny_mono h₁ (fun i s₂ h₂=>?_) fun _ _ x=>x) fun _ _ x=>x);obtain⟨hT,h₂⟩:=h₂;unfold subscriptTail;refine wpAny_bind ?_;rw[getitemInPython_of_ne hT.not_modules];refine wpAny_bind (wpAny_specialOf hT hl ?_);have fin:wpAny (model prog w) A (subscripted slice false o i) (fun r s₃=>wpAny (model prog w) A (letTemporaryGo value o r >>= fun _=>pure r) Q E s₃) E s₂:=by
  rw[hs o i];exact wpAny_operating (wpAny_mono h₂ (fun r s₃ h₃=>wpAny_bind (wpAny_letTemporaryGo (wpAny_pure h₃))) fun _ _ x=>x)
 first
  |exact wpAny_pure (wpAny_bind fin)
  |exact wpAny_bind (wpAny_pure (wpAny_bind fin))
  |exact wpAny_bind fin
theorem dict_typeIs{X:Cx}{pins:List (Addr×Obj)}{σ:St}{H:Hp}{s:Shared}{a:Addr}{y:V}{o:Option V}(I:Inv X pins σ H s)(g:DGet H a y o):s.TypeIs (.ref a) "dict" :=by
 rcases g with⟨kvs,k,e,_,_⟩|⟨kvs,k,b,e,_,_,_⟩
 ·obtain⟨_,_,vs,_,dd⟩:=dk_rd I.hok e;exact dd.typeIs
 ·obtain⟨_,_,xs,_,dd⟩:=dt_rd I.hok e;exact dd.typeIs
def tDGet(td ty:TE):TE:=fun σ H Q=>td σ H fun x H1=>ty σ H1 fun y H2=>∃ a v,x= .ref a/\DGet H2 a y (some v)/\Q v H2
def sDPut(td ty tv:TE):TS:=fun D σ H=>tv σ H fun v H1=>td σ H1 fun x H2=>ty σ H2 fun y H3=>∃ a H4,x= .ref a/\DPut H3 a y v H4/\D.nx σ H4
section
variable{X:Cx}{o i e value:Expr}{pos pos' tpos:Pos}{td ty tv:TE}
theorem pe_dget(hu:X.A.units+1<cLine)(ho:PE X o td)(hi:PE X i ty)(hs:NoSl i):PE X (.Subscript o i pos) (tDGet td ty):=by
 intro pins s σ H Q I h;refine subD_of PySem.F.slot_dict_getitem.lookup hs (thn (ho pins s σ H _ I h) fun u s1 ⟨x,H1,I1,rx,q1⟩=>thn (hi pins s1 σ H1 _ I1 q1) fun iv s2 ⟨y,H2,I2,ry,a,v,ex,g,q2⟩=>?_);subst ex;obtain rfl:u=Value.ref a:=rx;exact⟨dict_typeIs I2 g,d_getItem hu I2 g ry fun w' s3 I3 rw'=>⟨v,H2,I3,rw',q2⟩⟩
theorem ps_dput(hu:X.A.units+1<cLine)(ho:PE X o td)(hi:PE X i ty)(hv:PE X value tv)(hs:swapsWith value (some (.Subscript o i pos')) pos.line X.env=pure false) :
  PS X (.Assign [.Subscript o i pos'] value pos) (sDPut td ty tv):=by
 intro pins s σ H D I h;refine wpAny_Assign_Subscript (thn (hv pins s σ H _ I h) fun r s1 ⟨v,H1,I1,rv,q1⟩=>thn (ho pins s1 σ H1 _ I1 q1) fun u s2 ⟨x,H2,I2,rx,q2⟩=>thn (hi pins s2 σ H2 _ I2 q2) fun iv s3 ⟨y,H3,I3,ry,a,H4,ex,g,q3⟩=>?_) hs;subst ex;obtain rfl:u=Value.ref a:=rx;exact d_setItem hu I3 g ry rv fun s4 I4=>⟨σ,H4,I4,q3⟩
end
theorem dk_empty{P:Program}{w:World}{H:Hp}(h:Heap)(hb:sysModules<h.objs.size):yh P w H (h.push {cls:=.type "dict",data:=.dict #[]}) h.objs.size (.dK []) :=
 ⟨zero_le _,beq_eq_false_iff_ne.mpr (Ne.symm (ne_of_lt hb)),[],.nil,Heap.DictOf.new h⟩
def tDNewK:TE:=fun _ H Q=>∀ p,H p=none->Q (.ref p) (upd H p (.dK []))
section
variable{X:Cx}{pos:Pos}
theorem pe_dnewK:PE X (.Dict [] [] pos) tDNewK:=fun pins s σ H Q I h =>
 wpAny_Dict_empty ⟨.ref s.heap.objs.size,_,I.laid (a:=s.heap.objs.size) (o:=.dK []) (t':=s.toks) (fun _ _ q=>Heap.get?_push_of_some _ q) (le_refl _) (dk_empty s.heap I.big),rfl,h _ (I.hok.fresh (le_refl _))⟩
end
structure M2(X:Cx)(o:Expr)(m:Str)(apos:Pos)(e f:Expr)(cpos:Pos):Prop where
 base:attributeBase o m X.env (eval o X.env)=eval o X.env
 few:((backTo cpos (starEach [e,f] X.env)).all (fun x=>!x.1)&&(backToKw cpos (keywordEach [] X.env)).all (fun x=>x.1.isSome)
  &&decide (([e,f]:List Expr).length+([]:List Keyword).length+(if([]:List Keyword).isEmpty then 0 else 1)<30))=true
 line:(apos.endLine==cpos.line)=true
 trees:backTo cpos (starEach [e,f] X.env)=[(false,eval e X.env),(false,eval f X.env)]
section
variable{κ:Type}[DecidableEq κ]
theorem valV_not{kvs:List (κ×V)}{k:κ}(h:valV kvs k=none):¬k∈kvs.map (·.1):=by
 intro m;obtain⟨p,hp,e⟩:=mem_map.mp m;have q:(kvs.any fun kv=>decide (kv.1=k))=true:=List.any_eq_true.mpr ⟨p,hp,decide_eq_true e⟩;rw[valV_any,h]at q;exact absurd q (by simp)
theorem valV_in{kvs:List (κ×V)}{k:κ}{v:V}(h:valV kvs k=some v):k∈kvs.map (·.1):=by
 have q:(kvs.any fun kv=>decide (kv.1=k))=true:=by
  rw[valV_any,h]
  all_goals rfl
 obtain⟨p,hp,e⟩:=List.any_eq_true.mp q;exact mem_map.mpr ⟨p,hp,of_decide_eq_true e⟩
end
theorem paired_of{α β:Type}{R:α-> β->Prop}:∀{xs:List α}{ys:List β},xs.length=ys.length->(∀(j:Nat) x y,xs[j]? =some x->ys[j]? =some y->R x y)->Paired R xs ys
 | [],[],_,_=>.nil
 |x::xs,y::ys,hl,h=>.cons (h 0 x y rfl rfl) (paired_of (by simpa using hl) fun j a b e1 e2=>h (j+1) a b (by simpa using e1) (by simpa using e2))
theorem kv_keys{kvs:List (Key×V)}{vs:List (Key×Value)}(r:KV kvs vs):vs.map (·.1)=kvs.map (·.1):=by
 unfold KV at r
 induction r with
 |nil=>rfl
 |cons h _ ih=>rw[map_cons,map_cons,ih,h.1]
section
variable{prog:Program}{w:World}{A:Around}{E:Value->Shared->Prop}{s:Shared}
theorem sorted_collected{x:Value}{ns:List Int}{b:Bool}{Q:Value->Shared->Prop}(h64:ns.length<64)(hc:∀(R:List Value->Shared->Prop),(∀h' tk (vs:List Value),(∀b o,s.heap.get? b=some o->h'.get? b=some o)->IntsAre vs ns->R vs {s with heap:=h',toks:=tk})->wpAny (model prog w) A.in1 (collect x) R E s)(h:∀(out:List Value) (n:Nat) (h1 h':Heap) (tk:Nat) (ns':List Int),(∀b o,s.heap.get? b=some o->h1.get? b=some o)->(∀b o,h1.get? b=some o->h'.get? b=some o)->h'.get? h1.objs.size=some (seqObj "list" out.toArray n)->IntsAre out ns'->ns'.Perm ns->Ordered b ns'->Q (.ref h1.objs.size) {s with heap:=h',toks:=tk}) :
  wpAny (model prog w) A (call (.builtin "sorted") [x] [(Str.ofString "reverse",.bool b)]) Q E s:=by
 refine call_function_entry_kw kind_sorted plain_sorted entry_sorted (args_sorted_rev _ _) ?_;unfold Builtin.«sorted»;refine wpAny_bind (m:=checkCount "sorted" 1 1 _) (wpAny_pure ?_);refine wpAny_bind (hc _ fun h1 tk vs hk1 hI=>?_);have hlv:vs.length<64:=by rw[<-hI.length]at h64;exact h64
 refine wpAny_bind (wpAny_newList ?_ (le_trans (Nat.le_of_lt hlv) (by decide)));have hoL:(h1.push (seqObj "list" vs.toArray 0)).get? h1.objs.size=some (seqObj "list" vs.toArray 0):=Heap.get?_push_size _ rfl;refine wpAny_bind (wpAny_holding (wpAny_call_entry_kw slot_list_sort ⟨_,hoL,rfl⟩ entry_list_sort (list_sort_tree_rev hoL hI hlv fun out ns' a1 a2 a3=>⟨_,rfl,?_⟩) (args_list_sort_rev _ _)));obtain⟨e,he⟩:=sortedHeap_at (vs:=vs) (out:=out) hoL;refine wpAny_pure ⟨_,rfl,h out.toList e h1 _ tk ns' hk1 (fun b o hb=>?_) he a1 a2 a3⟩;have hlt:=Heap.lt_size hb;rw[sortedHeap_old (ne_of_lt hlt) (by rw[Heap.size_push];exact lt_succ_of_lt hlt)];exact Heap.get?_push_of_some _ hb
end
section
variable{X:Cx}
def rSortD(b:Bool):V->Hp->VK->Prop:=fun x H Q=>∃ a kvs ns,x= .ref a/\H a=some (.dK kvs)/\kvs.map (·.1)=(ns:List Int).map Sum.inl/\ns.length<64/\ ∀ns' p,ns.Nodup->ns'.Perm ns->Ordered b ns'->H p=none->Q (.ref p) (upd H p (.lst (ns'.map V.int)))
def tSortD(b:Bool)(te:TE):TE:=fun σ H Q=>te σ H fun x H1=>rSortD b x H1 Q
theorem pe_sortD{e:Expr}{te:TE}{b:Bool}{p kp cp pos:Pos}{j:Nat}(hcm:X.calm=true)(hg:Gl X "sorted")(hm:X.mg "sorted"=none)(he:PE X e te)(hse:starEach [e] X.env=[(false,eval e X.env)]:=by rfl):PE X (.Call (.Name "sorted" p) [e] [⟨some "reverse",.Constant (.bool b) j cp,kp⟩] pos) (tSortD b te):=by
 intro pins s σ H Q I h;refine wpAny_Call_Name_kw (jM I hg hm boot_sorted ?_ (by decide) (by decide));refine callWith_kw (thn (kr he ye hse pos pins s σ H (fun vs H1=>match vs with| [x]=>rSortD b x H1 Q| _=>False) I h) fun us s1 ⟨vs,H1,I1,r1,q1⟩=>?_) (by rw[hse];rfl) (by rw[hse];rfl)
 match vs,r1,q1 with
 | [x],r1,q =>
  obtain⟨u,rfl,ru⟩:=vals1 r1;refine kws_cons (Constant_bool (kws_nil ?_));obtain⟨a,kvs,ns,rfl,hq,hks,hl,q⟩:=q;cases ru;show wpAny _ _ (call (.builtin "sorted") [.ref a] [(Str.ofString "reverse",.bool b)]) _ _ _;have hh:X.A.in1.handled=none:=I1.ok.hd hcm;obtain⟨hz,lo,ws,rel,o,es,ep,ho,hex,hd,hko,hpr,hnd⟩:=dk_of I1.hok hq;have hkeys:ws.map (·.1)=ns.map Sum.inl:=by rw[kv_keys rel,hks]
  have hlen:ws.length=ns.length:=by
   have:=congrArg length hkeys;simpa using this
  have hdup:ns.Nodup:=by
   rw[hkeys]at hnd;exact(List.Pairwise.of_map (S:=fun a b=>a≠b) Sum.inl (fun a b h z=>h (by rw[z])) hnd)
  refine sorted_collected hl (fun R hR=>W.kdu_collect (A:=X.A.in1) (W.kdl_dict (knd:=yw X.prog X.w) (kvs:=ws) (ep:=ep) lo) hh ⟨o,es,ho,hex,hd,hko,hpr,hnd⟩ (by rw[hlen];exact yR hl) fun h' tk acc hk hacc=>hR h' tk acc.toList hk ?_) fun out n h1 h' tk ns' k1 k2 e a1 a2 a3=>?_
  ·have hla:acc.toList.length=ns.length:=by rw[Array.length_toList,hacc.1,hlen]
   refine intsAre_of (paired_of (by rw[length_map,hla]) fun j x y e1 e2=>?_);obtain⟨z,hz,rfl⟩:=jr e1;obtain⟨kk,xx,hkk,his⟩:=hacc.2 j y (by rw[<-Array.getElem?_toList];exact e2);have e3:(ws.map (·.1))[j]? =some kk:=by rw[getElem?_map,hkk];rfl
   rw[hkeys,getElem?_map,hz]at e3;have e4:Sum.inl z=kk:=Option.some.inj e3;subst e4;rcases y3 (show keyIs (Sum.inl z) y=true from his)with⟨i,t,e5,e6⟩|⟨i,t,e5,e6⟩
   ·cases e5;exact⟨t,e6⟩
   ·cases e5
  ·have hz':(ns'.map V.int).length<=sizeLine:=by rw[length_map,a2.length_eq];exact yR hl
   have I2:Inv X pins σ H1 {s1 with heap:=h1}:=I1.kept (t':=s1.toks) k1;exact⟨.ref _,_,I2.laid (t':=tk) k2 (le_refl _) (show yh X.prog X.w _ _ _ (.lst (ns'.map V.int))from⟨hz',out,n,vals_ints a1,by simpa [seqObj]using e⟩),rfl,q ns' _ hdup a2 a3 (I2.hok.fresh (le_refl _))⟩
end
section
variable{X:Cx}
def rCatA(K:W.Frag):R2:=fun x y H Q=>∃ a b xs ys,x= .ref a/\y= .ref b/\SqT K H a xs/\SqT K H b ys/\xs.length+ys.length<=sizeLine/\
 (xs=[]->Q (.ref b) H)/\(xs≠[]->ys=[]->Q (.ref a) H)/\(xs≠[]->ys≠[]-> ∀p,H p=none->Q (.ref p) (upd H p (.tup (xs++ys))))
theorem op_catA:OpR X (binaryOp .Add) (rCatA X.K):=by
 intro pins s σ H x y v u Q I rx ry h;obtain⟨a,b,xs,ys,rfl,rfl,ha,hb,hz,q0,q1,q2⟩:=h;by_cases hx:xs=[]
 ·cases rx;cases ry;obtain⟨its,r1,p1,_⟩:=I.tuple ha;obtain⟨its2,r2,p2,_⟩:=I.tuple hb;obtain⟨⟨cls,dd,data,sl⟩,ho,hc,n,hd⟩:=id p1;obtain⟨⟨cls2,dd2,data2,sl2⟩,ho2,hc2,n2,hd2⟩:=id p2;simp only at hc hd hc2 hd2;subst hc hd hc2 hd2;have e0:its.toArray.isEmpty=true:=by
   have:=r1.nil_iff.mpr hx;simp[this]
  exact concat_meets ⟨_,ho,rfl⟩ ⟨_,ho2,rfl⟩ noFill_tuple_add seq_tuple_add PySem.F.slot_tuple_add PySem.F.entry_tuple_add (PySem.F.args_tuple_add_2 _ _)
   (tuple_addW0 a b its.toArray its2.toArray n n2 dd dd2 sl sl2 e0) ⟨ho,ho2,⟨.ref b,H,I,rfl,q0 hx⟩⟩
 ·exact op_catT pins s σ H (.ref a) (.ref b) v u Q I rx ry ⟨a,b,xs,ys,rfl,rfl,ha,hb,hx,hz,q1 hx,q2 hx⟩
def tRng1(ta:TA):TE:=fun σ H Q=>ta σ H fun vs H1=>∃ j:Int,vs=[.int j]/\ ∀p,H1 p=none->Q (.ref p) (upd H1 p (.rng 0 j))
theorem pe_rng1{a:Expr}{ta:TA}{p pos:Pos}(hg:Gl X "range")(hm:X.mg "range"=none)(ha:PA X [a] ta)(hs:starEach [a] X.env=[(false,eval a X.env)]:=by rfl):PE X (.Call (.Name "range" p) [a] [] pos) (tRng1 ta):=by
 intro pins s σ H Q I h;refine Call_ (jM I hg hm boot_range (PyProof.Rows.callWith_type1 (thn (ha pos pins s σ H _ I h) fun us s1 ⟨vs,H1,I1,r1,q1⟩=>?_) hs rfl));obtain⟨j,e,q⟩:=q1;subst e;cases r1 with
 |cons r rr =>
  cases rr;obtain⟨t,rfl⟩:=r;refine call_range_1 ?_;exact⟨.ref _,_,I1.laid (o:=.rng 0 j) (fun b o e=>Heap.get?_push_of_some _ e) (le_refl _) ⟨_,_,_,Heap.get?_push_size _ rfl⟩,rfl,q _ (I1.hok.fresh (le_refl _))⟩
theorem call_list_rng(hc:X.calm=true):jH X (.type "list") (fun xs H Q=>∃(p:Addr)(hi:Int),xs=[.ref p]/\H p=some (.rng 0 hi)/\0<=hi/\hi<=100000/\ ∀l,H l=none->Q (.ref l) (upd H l (.lst (((List.range hi.toNat).map fun(k:Nat)=>(k:Int)).map V.int)))):=by
 intro pins s σ H xs us Q I r h;obtain⟨p,hi,rfl,hq,h0,h1,q⟩:=h;obtain⟨u,rfl,ru⟩:=vals1 r;cases ru;obtain⟨t1,t2,t3,e⟩:=I.hok p _ hq;have hn:Builtin.Range.rangeSize 0 hi 1=((hi.toNat:Nat):Int):=by rw[rangeSize_one];split <;>omega
 refine call_list_range (I.ok.hd hc) e (small_one (by decide) (by decide) (by omega) (by omega)) hn (by omega) fun h' tk acc c kk hS hacc=>?_;refine⟨.ref _,_,I.laid (t':=tk) (o:=.lst (((List.range hi.toNat).map fun(k:Nat)=>(k:Int)).map V.int)) kk (le_refl _) ⟨?_,acc.toList,c,paired_of ?_ (fun j x y e1 e2=>?_),by simpa using hS⟩,rfl,q _ (I.hok.fresh (le_refl _))⟩
 ·rw[length_map,length_map,List.length_range];have:(100000:Nat)<=sizeLine:=by decide
  omega
 ·rw[length_map,length_map,List.length_range,Array.length_toList,hacc.1]
 ·obtain⟨z,hz,rfl⟩:=jr e1;obtain⟨tk,rfl⟩:=hacc.2 j y (by rw[<-Array.getElem?_toList];exact e2);rw[getElem?_map]at hz;cases hr:(List.range hi.toNat)[j]? with
  |none=>rw[hr]at hz;cases hz
  |some k =>
   rw[hr]at hz;have ek:j=k:=by
    obtain⟨h1,h2⟩:=List.getElem?_eq_some_iff.mp hr;rw[List.getElem_range]at h2;exact h2
   have:(k:Int)=z:=Option.some.inj hz;refine⟨tk,?_⟩;rw[<-this,<-ek];simp
end
end L2
namespace L2
def cntG(ns:List Int)(k:Int):Nat:=(ns.filter fun x=>decide (k<=x)).length
def turn(ns:List Int):List Int:=(List.range (ns.headD 0).toNat).map fun(k:Nat)=>((cntG ns ((k:Int)+1):Nat):Int)
end L2
namespace L2
open PySem PySem.Spec PyProof.Rows
def Tups(H H':Hp):Prop:=∀ b xs,H b=some (.tup xs)->H' b=some (.tup xs)
theorem Tups.trans{H H1 H2:Hp}(a:Tups H H1)(b:Tups H1 H2):Tups H H2:=fun c xs h=>b c xs (a c xs h)
theorem Same.tups{H H':Hp}(h:Same H H'):Tups H H':=fun b xs e=>h b _ e
theorem Keep.tups{H H':Hp}{st ga ca:Addr}{N:Nat}(K:Keep [st,ga] H H')(S:StAt H st ga ca N):Tups H H':=fun b xs e=>K b _ e (fun z=>by
 obtain⟨gs,cs,q,n,h1,h2,_⟩:=S.ex;simp only[mem_cons,not_mem_nil,or_false]at z;rcases z with rfl|rfl
 ·rw[h1]at e;cases e
 ·rw[h2]at e;cases e)
theorem Tups.set{H:Hp}{l:Addr}{xs:List V}{o:HO}(h:H l=some (.lst xs)):Tups H (upd H l o):=fun b ys e=>by
 rw[zh (ne_of e h (by intro z;cases z))];exact e
def Tup1(hs:List Int)(v:V)(H:Hp):Prop:=∃ q,v= .ref q/\H q=some (.tup (hs.map V.int))
theorem Tup1.mv{H H':Hp}{hs:List Int}{v:V}(t:Tups H H')(h:Tup1 hs v H):Tup1 hs v H':=let⟨q,e,h⟩:=h;⟨q,e,t _ _ h⟩
theorem All2.mv{H H':Hp}{ls:List (List Int)}{xs:List V}(t:Tups H H')(h:All2 Tup1 H ls xs):All2 Tup1 H' ls xs:=h.imp fun _ _ z=>z.mv t
theorem All2.at{α:Type}{R:α->V->Hp->Prop}{H:Hp}:∀{l:List α}{xs:List V}{i:Nat}{a:α},All2 R H l xs->l[i]? =some a-> ∃x,xs[i]? =some x/\R a x H
 | _,_,_,_,.nil,e=>by simp at e
 | _,_,0,_,.cons r _,e=>by simp at e;subst e;exact⟨_,rfl,r⟩
 | _,_,i+1,a,.cons _ t,e=>by
  obtain⟨u,h1,h2⟩:=All2.at (i:=i) (a:=a) t (by simpa using e);exact⟨u,by simpa using h1,h2⟩
theorem All2.snoc{α:Type}{R:α->V->Hp->Prop}{H:Hp}{l:List α}{xs:List V}{a:α}{x:V}(h:All2 R H l xs)(r:R a x H):All2 R H (l++[a]) (xs++[x]):=h.append (.cons r .nil)
def maxC:List (List Int)->Int->Nat
 | [],_=>0
 |h::r,x=>max (h.count x) (maxC r x)
def IsJoin(ls:List (List Int))(ms:List Int):Prop:=ms.Pairwise (· >= ·)/\ ∀x,ms.count x=maxC ls x
theorem IsJoin.uniq{ls:List (List Int)}{a b:List Int}(h1:IsJoin ls a)(h2:IsJoin ls b):a=b :=
 perm_ge_eq h1.1 h2.1 (List.perm_iff_count.mpr fun x=>by rw[h1.2,h2.2])
theorem maxC_le{ls:List (List Int)}{x:Int}{B:Nat}(h:∀l∈ls,l.count x<=B):maxC ls x<=B:=by
 induction ls with
 |nil=>exact zero_le _
 |cons a r ih =>
  have h1:=h a (by simp);have h2:=ih fun l hl=>h l (by simp[hl]);rw[maxC];exact Nat.max_le.mpr ⟨h1,h2⟩
theorem le_maxC{ls:List (List Int)}{x:Int}{l:List Int}(h:l∈ls):l.count x<=maxC ls x:=by
 induction ls with
 |nil=>cases h
 |cons a r ih =>
  rw[maxC];rcases mem_cons.mp h with rfl|h
  ·exact Nat.le_max_left _ _
  ·exact le_trans (ih h) (Nat.le_max_right _ _)
theorem maxC_flat(ls:List (List Int))(x:Int):maxC ls x<=ls.flatten.count x:=by
 induction ls with
 |nil=>exact zero_le _
 |cons a r ih=>rw[maxC,flatten_cons,List.count_append];exact Nat.max_le.mpr ⟨Nat.le_add_right _ _,le_trans ih (Nat.le_add_left _ _)⟩
theorem maxC_zero{ls:List (List Int)}{x:Int}(h:x∉ls.flatten):maxC ls x=0:=by
 have:=maxC_flat ls x;rw[List.count_eq_zero_of_not_mem h]at this;omega
theorem max_of_counts{ls:List (List Int)}{x m:Int}(h:Ismax m (ls.map fun l=>((l.count x:Nat):Int))):m=((maxC ls x:Nat):Int):=by
 obtain⟨h1,h2⟩:=h;obtain⟨l,hl,rfl⟩:=mem_map.mp h1;have a:=le_maxC (x:=x) hl;have b:maxC ls x<=l.count x:=maxC_le fun k hk=>by
  have:=h2 _ (mem_map.mpr ⟨k,hk,rfl⟩);omega
 omega
def blow(f:Int->Nat):List Int->List Int
 | []=>[]
 |u::r=>replicate (f u) u++blow f r
theorem blow_append(f:Int->Nat)(a b:List Int):blow f (a++b)=blow f a++blow f b:=by
 induction a with
 |nil=>rfl
 |cons u r ih=>rw[List.cons_append,blow,ih,blow,append_assoc]
theorem blow_mem{f:Int->Nat}{us:List Int}{x:Int}(h:x∈blow f us):x∈us:=by
 induction us with
 |nil=>exact h
 |cons u r ih =>
  rcases mem_append.mp h with h|h
  ·rw[List.eq_of_mem_replicate h];simp
  ·simp[ih h]
theorem blow_count{f:Int->Nat}{us:List Int}(hn:us.Nodup)(x:Int):(blow f us).count x=if x∈us then f x else 0:=by
 induction us with
 |nil=>rfl
 |cons u r ih =>
  obtain⟨h1,h2⟩:=nodup_cons.mp hn;rw[blow,List.count_append,ih h2,List.count_replicate];by_cases e:u=x
  ·subst e;simp[h1]
  ·have e':¬x=u:=fun z=>e z.symm;simp[e,e',mem_cons]
theorem blow_pw{f:Int->Nat}{us:List Int}(h:us.Pairwise (· >= ·)):(blow f us).Pairwise (· >= ·):=by
 induction us with
 |nil=>exact .nil
 |cons u r ih =>
  obtain⟨h1,h2⟩:=pairwise_cons.mp h;refine List.pairwise_append.mpr ⟨?_,ih h2,fun a ha b hb=>?_⟩
  ·exact List.pairwise_replicate.mpr (Or.inr (Int.le_refl _))
  ·rw[List.eq_of_mem_replicate ha];exact h1 _ (blow_mem hb)
theorem blow_join{ls:List (List Int)}{us:List Int}(hn:us.Nodup)(hp:us.Pairwise (· >= ·))(hm:∀x,x∈us↔x∈ls.flatten):IsJoin ls (blow (maxC ls) us):=by
 refine⟨blow_pw hp,fun x=>?_⟩;rw[blow_count hn];by_cases h:x∈us
 ·rw[if_pos h]
 ·rw[if_neg h,maxC_zero fun z=>h ((hm x).mpr z)]
def chG(ns:List Int):List (List Int):=ns.foldl (fun cs n=>cs++cs.map (· ++[n])) [[]]
theorem chG_snoc(ns:List Int)(n:Int):chG (ns++[n])=chG ns++(chG ns).map (· ++[n]):=by
 unfold chG;rw[List.foldl_append];rfl
theorem chG_len:∀(k:Nat)(ns:List Int),ns.length=k->(chG ns).length=2^k
 | 0,ns,h=>by rw[List.length_eq_zero_iff.mp h];rfl
 |k+1,ns,h=>by
  have hne:ns≠[]:=fun z=>by rw[z]at h;cases h
  have e:=(List.dropLast_concat_getLast hne).symm;rw[e,chG_snoc,length_append,length_map,chG_len k ns.dropLast (by rw[List.length_dropLast];omega),Nat.pow_succ];omega
theorem chG_mem:∀(k:Nat)(ns:List Int),ns.length=k-> ∀c∈chG ns,c.length<=k/\ ∀x∈c,x∈ns
 | 0,ns,h,c,hc=>by
  rw[List.length_eq_zero_iff.mp h]at hc;have:c=[]:=by simpa [chG]using hc
  rw[this];exact⟨le_refl _,fun x hx=>nomatch hx⟩
 |k+1,ns,h,c,hc=>by
  have hne:ns≠[]:=fun z=>by rw[z]at h;cases h
  have e:=(List.dropLast_concat_getLast hne).symm;rw[e,chG_snoc]at hc;have ih:=chG_mem k ns.dropLast (by rw[List.length_dropLast];omega);rcases mem_append.mp hc with hc|hc
  ·obtain⟨a,b⟩:=ih c hc;exact⟨by omega,fun x hx=>(List.dropLast_sublist ns).subset (b x hx)⟩
  ·obtain⟨d,hd,rfl⟩:=mem_map.mp hc;obtain⟨a,b⟩:=ih d hd;refine⟨by simp;omega,fun x hx=>?_⟩;rcases mem_append.mp hx with hx|hx
   ·exact(List.dropLast_sublist ns).subset (b x hx)
   ·have:x=ns.getLast hne:=by simpa using hx
    rw[this];exact List.getLast_mem hne
theorem putK_keys{κ:Type}[DecidableEq κ]{kvs:List (κ×V)}{k:κ}{v w:V}(h:valV kvs k=some v):(putK kvs k w).map (·.1)=kvs.map (·.1):=by
 unfold putK;rw[if_pos (by rw[valV_any,h];rfl),map_map];refine map_congr_left fun x _=>?_;show(if x.1=k then(x.1,w)else x).1=x.1;split <;>rfl
section
variable{X:Cx}
theorem OpR.kk{f:Value->Value->Sem Value}(K0:W.Frag)(r:W.Frag->R2)(ho:OpR X f (r X.K))(h:X.K=K0):OpR X f (r K0):=by subst h;exact ho
theorem IxR.kk(K0:W.Frag)(r:W.Frag->R2)(ho:IxR X (r X.K))(h:X.K=K0):IxR X (r K0):=by subst h;exact ho
theorem jH.kk{f:Value}(K0:W.Frag)(r:W.Frag->List V->Hp->VK->Prop)(ho:jH X f (r X.K))(h:X.K=K0):jH X f (r K0):=by subst h;exact ho
theorem MtR.kk{id:String}(K0:W.Frag)(r:W.Frag->V->List V->Hp->VK->Prop)(ho:MtR X id (r X.K))(h:X.K=K0):MtR X id (r K0):=by subst h;exact ho
theorem PE.kk{e:Expr}(K0:W.Frag)(t:W.Frag->TE)(ho:PE X e (t X.K))(h:X.K=K0):PE X e (t K0):=by subst h;exact ho
theorem op_catAK(K0:W.Frag)(h:X.K=K0):OpR X (binaryOp .Add) (rCatA K0):=OpR.kk K0 rCatA op_catA h
theorem ix_tupK(K0:W.Frag)(h:X.K=K0):IxR X (rIxT K0):=IxR.kk K0 rIxT zR h
theorem mt_countTK(K0:W.Frag)(h:X.K=K0):MtR X "tuple.count" (rCount K0 SqT):=MtR.kk K0 (fun K=>rCount K SqT) mt_countT h
variable{o e:Expr}{es:List Expr}{to:TE}{t:TA}{name:Str}{apos cpos:Pos}{T id:String}{r:V->List V->Hp->VK->Prop}
theorem pe_bmK(K0:W.Frag)(h:X.K=K0)(pa:PlainAttrs T)(slot:Slot T name id)(hty:typeOf (.builtin id)=pure (.type "method_descriptor"))(hm:MtR X id r)(ho:PE X o to)(ha:PA X (e::es) t)(hbase:attributeBase o name X.env (eval o X.env)=eval o X.env:=by rfl)(hfew:((backTo cpos (starEach (e::es) X.env)).all (fun x=>!x.1)&&(backToKw cpos (keywordEach [] X.env)).all (fun x=>x.1.isSome)&&decide ((e::es).length+([]:List Keyword).length+(if([]:List Keyword).isEmpty then 0 else 1)<30))=true:=by rfl)(hline:(apos.endLine==cpos.line)=true:=by rfl)(hs:starEach (e::es) X.env=(false,eval e X.env)::starEach es X.env:=by rfl)(hplain:(backTo cpos (starEach es X.env)).any (·.1)=false:=by rfl):PE X (.Call (.Attribute o name apos) (e::es) [] cpos) (tBM K0 T r to t):=by
 subst h;exact yP pa slot hty hm ho ha hbase hfew hline hs hplain
theorem pt_truthK{a:Expr}{ta:TE}(K0:W.Frag)(h:X.K=K0)(ha:PE X a ta)(he:∀whole,isTrue a X.env whole=(do let v <-whole;standAt a.pos;holding [v] (truthy v))):PT X a (fun σ H Q=>ta σ H fun x H'=>∃ k,TruV K0 x H' k/\Q k H'):=by
 subst h;exact zG ha he
def rTupOf(K:W.Frag):List V->Hp->VK->Prop:=fun xs H Q=>∃ p ys,xs=[.ref p]/\((SqL K H p ys/\ ∀l,H l=none->Q (.ref l) (upd H l (.tup ys)))\/(SqT K H p ys/\Q (.ref p) H))
theorem call_tuple_ofK(K0:W.Frag)(h:X.K=K0):jH X (.type "tuple") (rTupOf K0):=jH.kk K0 rTupOf zZ h
end
def upto(n:Nat):List Int:=(List.range n).map fun(k:Nat)=>(k:Int)
theorem upto_succ(n:Nat):upto (n+1)=upto n++[(n:Int)]:=by unfold upto;rw[List.range_succ,map_append];rfl
theorem upto_len(n:Nat):(upto n).length=n:=by unfold upto;simp
theorem upto_mem{n:Nat}{x:Int}(h:x∈upto n):0<=x/\x<n:=by
 unfold upto at h;obtain⟨k,hk,rfl⟩:=mem_map.mp h;rw[mem_range]at hk;omega
theorem cat_one{K:W.Frag}{H:Hp}{q:Addr}{hs:List Int}{z:Int}{t:Addr}{Q:V->Hp->Prop}(hq:H q=some (.tup (hs.map V.int)))(ht:H t=some (.tup [V.int z]))(hl:hs.length<=60)(k:∀(v:V) (H':Hp),Tup1 (hs++[z]) v H'->Same H H'->Q v H'):rCatA K (.ref q) (.ref t) H Q:=by
 refine⟨q,t,_,_,rfl,rfl,SqT.of hq,SqT.of ht,?_,fun e=>?_,fun _ e=>?_,fun _ _ p hp=>?_⟩
 ·rw[length_map];exact le_trans (m:=61) (by simp;omega) (by decide)
 ·have:hs=[]:=List.map_eq_nil_iff.mp e;subst this;exact k _ _ ⟨t,rfl,ht⟩ (fun _ _ h=>h)
 ·cases e
 ·exact k _ _ ⟨p,rfl,by rw[z6,map_append];rfl⟩ (Same.new hp)
structure GoodH(n:Nat)(h:List Int):Prop where
 ln:h.length<=n
 bd:∀x∈h,1<=x/\x<=10^60
 pw:h.Pairwise (· >= ·)
def zI(rule:List (List Int))(ch:List Int):List (List Int):=ch.map fun j=>rule.getD j.toNat []
theorem pick_at{H:Hp}{rule:List (List Int)}{rs:List V}(h2:All2 Tup1 H rule rs){j:Int}(h0:0<=j)(h1:j<rule.length):∃v,atI rs j=some v/\Tup1 (rule.getD j.toNat []) v H:=by
 obtain⟨n,rfl⟩:∃n:Nat,j=(n:Int):=⟨j.toNat,by omega⟩;have hn:n<rule.length:=by omega
 obtain⟨x,hx,r⟩:=h2.at (getElem?_eq_getElem hn);refine⟨x,zu hx,?_⟩;have:rule.getD (n:Int).toNat []=rule[n]:=by simp[hn]
 rw[this];exact r
theorem flat_le{B:Nat}:∀{ls:List (List Int)},(∀l∈ls,l.length<=B)->ls.flatten.length<=B*ls.length
 | [],_=>zero_le _
 |l::r,h=>by
  have h1:=h l (by simp);have h2:=flat_le (ls:=r) fun m hm=>h m (by simp[hm]);rw[flatten_cons,length_append,length_cons,Nat.mul_succ];omega
theorem cat_front{K:W.Frag}{H:Hp}{q:Addr}{hs:List Int}{z:Int}{t:Addr}{Q:V->Hp->Prop}(hq:H q=some (.tup (hs.map V.int)))(ht:H t=some (.tup [V.int z]))(hl:hs.length<=100)(k:∀(v:V) (H':Hp),Tup1 (z::hs) v H'->Same H H'->Q v H'):rCatA K (.ref t) (.ref q) H Q:=by
 refine⟨t,q,_,_,rfl,rfl,SqT.of ht,SqT.of hq,?_,(fun e=>by cases e),fun _ e=>?_,fun _ _ p hp=>?_⟩
 ·rw[length_map];exact le_trans (m:=101) (by simp;omega) (by decide)
 ·have:hs=[]:=List.map_eq_nil_iff.mp e;subst this;exact k _ _ ⟨t,rfl,ht⟩ (fun _ _ h=>h)
 ·exact k _ _ ⟨p,rfl,by rw[z6];rfl⟩ (Same.new hp)
theorem filter_take{α:Type}(p:α->Bool){l:List α}{i:Nat}{x:α}(h:l[i]? =some x):(l.take (i+1)).filter p=(l.take i).filter p++if p x=true then [x]else []:=by
 obtain⟨hi,e⟩:=List.getElem?_eq_some_iff.mp h;rw[take_succ_eq_append_getElem hi,List.filter_append,e];by_cases c:p x=true
 ·rw[filter_cons,if_pos c,if_pos c];rfl
 ·rw[filter_cons,if_neg c,if_neg c];rfl
open AutoSeq1 (wpAny_loadPart')
theorem drawsS{prog:Program}{w:World}{A:Around}(hh:A.handled=none)(k:Bool)(it l:Addr)(hne:l≠it)(items:Array Value) :
  Draws prog w A it [it,l] items.size (fun i v=>items[i]? =some v) (fun i h=>j4 k h it l i/\kE k h l items) where
 live:=fun _ _ st=>let⟨o,ho,_⟩:=st.1;⟨o,ho⟩
 frame:=fun _ _ _ st hk=>⟨st.1.kept fun o e=>hk it (by simp) o e,st.2.kept fun o e=>hk l (by simp) o e⟩
 item:=fun i s Q E hi st hQ=>nextS st.1 st.2 (x:=items[i]) (by simp[hi]) fun h' a b=>hQ _ h' s.toks (by simp[hi]) ⟨a,st.2.kept fun o e=>b.extBut _ _ hne e⟩ b
 done:=fun s Q E st hE=>endS hh st.1 st.2 (by simp) hE
def eH1(k:Bool)(h:Heap)(l:Addr):Heap:=h.push {cls:=.type (itName k),data:=.fields #[.ref l,.int 0 0]}
def eH2(k:Bool)(h:Heap)(l:Addr):Heap:=(eH1 k h l).push {cls:=.type "enumerate",data:=.fields #[.none,.bool false,.ref h.objs.size,rawInt 0,.none,.none]}
set_option maxHeartbeats 1000000 in
theorem enum_tup_meets(l:Addr)(items:Array Value)(n:Nat)(dct:Option Addr)(sl:Array (Option Value)) :
  Meets (Builtin.«enumerate.__new__» ⟨[.type "enumerate",.ref l],[]⟩) (fun _ R s=>s.heap.get? l=some {cls:=.type "tuple",dict:=dct,data:=.seq items n,slots:=sl}/\R (.ok (.ret (.ref (eH1 true s.heap l).objs.size))) {s with heap:=eH2 true s.heap l}) :=
 .of_wp fun prog w A R s h=>by
  obtain⟨hp,g,d,tk,os⟩:=s;obtain⟨hl,h⟩:=h;have hsub:=sub_enumerate;have hL:Heap.IsTuple (Shared.heap ⟨hp,g,d,tk,os⟩) l items:=⟨_,hl,rfl,n,rfl⟩
  wp_walk using wpAny_loadPart' hl
  refine wpAny_stack_any fun st=>wpAny_pure ?_;split
  ·rename_i c _ _ _ _ _;cases(c==Value.type "enumerate")
   all_goals (wp_walk using wpAny_loadPart' hl,wpAny_pyIter_tuple hL;exact⟨_,rfl,h⟩)
  ·wp_walk using wpAny_loadPart' hl,wpAny_pyIter_tuple hL
   exact⟨_,rfl,h⟩
section
variable{prog:Program}{w:World}{A:Around}{E:Value->Shared->Prop}{s:Shared}
theorem call_enumS{k:Bool}{l:Addr}{items:Array Value}{Q:Value->Shared->Prop}(hL:kE k s.heap l items)(h:∀h',IsEnum h' (s.heap.objs.size+1) s.heap.objs.size 0 .none->j4 k h' s.heap.objs.size l 0->(∀b o,s.heap.get? b=some o->h'.get? b=some o)->Q (.ref (s.heap.objs.size+1)) {s with heap:=h'}) :
  wpAny (model prog w) A (call (.type "enumerate") [.ref l]) Q E s:=by
 cases k
 ·exact call_enumerate_list hL fun h' a b _ c=>h h' a b c
 ·obtain⟨⟨c,dct,dt,sl⟩,hl,hc,n,hd⟩:=hL
  replace hc:c= .type "tuple" :=hc
  replace hd:dt= .seq items n:=hd
  subst hc hd;refine callType_new F.called_enumerate (by decide) (F.typeCall_enumerate_1 _) (F.newCall_enumerate_1 _) (fun obj=>F.args_object_init_2 obj _) F.entry_enumerate_new (enum_tup_meets l items n dct sl) ⟨hl,?_⟩;have n1:(eH1 true s.heap l).objs.size=s.heap.objs.size+1:=Heap.size_push ..;have f2:(eH2 true s.heap l).get? (eH1 true s.heap l).objs.size=some _:=Heap.get?_push_size _ rfl;have f1:(eH2 true s.heap l).get? s.heap.objs.size=some _:=Heap.get?_push_of_some _ (Heap.get?_push_size _ rfl);show _/\_;rw[n1]at f2 ⊢;exact⟨⟨_,f2,rfl⟩,h _ f2 ⟨_,f1,rfl,rfl⟩ fun b o e=>Heap.get?_push_of_some _ (Heap.get?_push_of_some _ e)⟩
end
def Ite(K:W.Frag)(k:Bool)(a:Addr):It :=
 ⟨fun i H=>∃ xs x,Sq k K H a xs/\xs[i]? =some x,
  fun i H v H'=>∃ T x,H T=none/\v= .ref T/\H'=upd H T (.tup [.int i,x])/\ ∀xs,Sq k K H a xs->xs[i]? =some x,
  fun i H=>∃ xs,Sq k K H a xs/\xs.length=i⟩
theorem turn_enum{P:Program}{w:World}{K:W.Frag}{elts:List Expr}{x1:Nat}{pos:Pos}(k:Bool)(a e it:Addr)(hei:e≠it)(hai:a≠it)(hae:a≠e) :
  Turn P w K (.Tuple elts x1 pos) (Ite K k a) [e,it] e (fun i h=>(∃old,IsEnum h e it i old)/\j4 k h it a i) where
 mem:=by simp
 obj:=fun i h st c hc=>by
  obtain⟨⟨old,g0⟩,⟨o1,e1,_,d1⟩⟩:=st;simp only[mem_cons,not_mem_nil,or_false]at hc;rcases hc with rfl|rfl
  ·exact⟨_,g0,fun v q=>by cases q⟩
  ·exact⟨_,e1,fun v q=>by rw[d1]at q;cases q⟩
 keep:=fun i h h' st f=>by
  obtain⟨⟨old,g0⟩,g1⟩:=st;exact⟨⟨old,f e (by simp) _ g0⟩,g1.kept (f it (by simp))⟩
 item:=by
  intro X hP hw hK hc i pins s σ H E I hf st hg;subst hP hw hK;obtain⟨xs,x,hq,hx⟩:=hg;obtain⟨us,rv,p,_⟩:=I.sq hq;obtain⟨u,hu,ru⟩:=rv.get hx;obtain⟨⟨old,g0⟩,g1⟩:=st;have hlt:i<us.toArray.size:=by
   have:=(List.getElem?_eq_some_iff.mp hu).1;simpa using this
  have hh:X.A.in1.handled=none:=I.ok.hd hc;refine wpAny_pyNext_enum_itemD (drawsS hh k it a hai us.toArray) g0 ⟨g1,p⟩ hlt hei (by simp[hei,Ne.symm hae]) fun y h' tk hy ho hst hT _ kk=>⟨_,rfl,?_⟩;have ey:y=u:=by
   have:us.toArray[i]? =some u:=by simpa using hu
   rw[this]at hy;exact(Option.some.inj hy).symm
  subst ey;refine wpAny_letOwnedTupleGo_enum (s:={s with heap:=h',toks:=tk+1}) ho fun h2 he2 sb=>?_;have up:∀c o,c≠e->h'.get? c=some o->h2.get? c=some o:=fun c o n q=>(sb.2 c n).trans q;have lt:e<s.heap.objs.size:=Heap.lt_size g0;have tp:IsPair h2 s.heap.objs.size (.int i tk) y:=up _ _ (Nat.ne_of_gt lt) hT;have I1:Inv X pins σ (upd H s.heap.objs.size (.tup [.int i,x])) {s with heap:=h2,toks:=tk+1}:=I.turnedN (t':=tk+1) (ch:=[e,it]) hf (fun c o n q=>up c o (fun z=>n (by simp[z])) (kk c o (fun z=>n (by simp[z])) (fun z=>n (by simp[z])) q)) (le_refl _) (pair_ok ⟨tk,rfl⟩ ru tp);refine⟨.ref s.heap.objs.size,_,I1,rfl,⟨_,x,I.hok.fresh (le_refl _),rfl,rfl,fun xs' h=>by rw[I.sq_inj h hq];exact hx⟩,⟨⟨y,by simpa using he2⟩,hst.1.kept fun o q=>up _ _ (Ne.symm hei) q⟩,fun c hc=>?_⟩;have hlt2:c<s.heap.objs.size:=by
   simp only[mem_cons,not_mem_nil,or_false]at hc;rcases hc with rfl|rfl
   ·exact lt
   ·exact g1.lt
  rw[zh (ne_of_lt hlt2)];exact(hf c hc).1
 done:=by
  intro X hP hw hK hc i pins s σ H E I hf st hg;subst hP hw hK;obtain⟨xs,hq,hl⟩:=hg;obtain⟨us,rv,p,_⟩:=I.sq hq;obtain⟨⟨old,g0⟩,g1⟩:=st;have hh:X.A.in1.handled=none:=I.ok.hd hc;have e1:i=us.toArray.size:=by
   have:=rv.length;rw[<-hl,this];simp
  rw[e1]at g1;exact wpAny_pyNext_enum_endD (drawsS hh k it a hai us.toArray) g0 ⟨g1,p⟩ fun h' kk=>⟨rfl,I.turnedL (t':=s.toks) (ch:=[e,it]) hf fun c o n q=>kk c o (fun z=>n (by simp[z])) q⟩
 self:=fun _ _ _ _ _ st h=>by
  obtain⟨⟨old,g0⟩,_⟩:=st;exact wpAny_pyIter_enum g0 h
section
variable{X:Cx}{elts:List Expr}{x1:Nat}{tpos:Pos}
def iEnum(K:W.Frag)(k:Bool)(ta:TA):TI:=fun σ H R=>ta σ H fun vs H1=>∃ a,vs=[.ref a]/\(∃xs,Sq k K H1 a xs)/\R (Ite K k a) H1
theorem pi_enum(k:Bool){a:Expr}{ta:TA}{p pos:Pos}(hg:Gl X "enumerate")(hm:X.mg "enumerate"=none)(ha:PA X [a] ta)(hs:starEach [a] X.env=[(false,eval a X.env)]:=by rfl):PI X (.Tuple elts x1 tpos) (.Call (.Name "enumerate" p) [a] [] pos) (iEnum X.K k ta):=by
 intro pins s σ H R I h;refine Call_ (jM I hg hm boot_enumerate (PyProof.Rows.callWith_type1 (thn (ha pos pins s σ H _ I h) fun us s1 ⟨vs,H1,I1,r1,q1⟩=>?_) hs rfl));obtain⟨a,e,⟨xs,hq⟩,q⟩:=q1;subst e;cases r1 with
 |cons r rr =>
  cases rr;cases r;obtain⟨us,rv,p,_⟩:=I1.sq hq;have hlt:=p.lt;refine call_enumS p fun h' g0 g1 kk=>?_;have I2:Inv X pins σ H1 {s1 with heap:=h'}:=I1.kept (t':=s1.toks) kk;refine wpAny_pyIter_enum (s:={s1 with heap:=h'}) g0 ⟨_,[s1.heap.objs.size+1,s1.heap.objs.size],_,_,H1,rfl,I2,turn_enum k a _ _ (Nat.succ_ne_self _) (ne_of_lt hlt) (ne_of_lt (lt_succ_of_lt hlt)),⟨⟨_,g0⟩,g1⟩,fun c hc=>?_,q⟩;have hle:s1.heap.objs.size<=c:=by
   have hc':c=s1.heap.objs.size+1\/c=s1.heap.objs.size:=by simpa using hc
   rcases hc' with e|e <;>rw[e] <;>first|exact le_refl _|exact Nat.le_add_right _ _
  exact I1.fpOk hle (I1.hok.fresh hle)
end
theorem comp_enum{K:W.Frag}{k:Bool}{a:Addr}{xs:List V}{g:TG}{tf:TT}{te:TE}{σ:St}{H:Hp}{Q:VK}(Pv:Nat->List V->St->Hp->Prop)(h0:Pv 0 [] σ H)(hl:∀i zs σ H,i<=xs.length->Pv i zs σ H->Sq k K H a xs/\zs.length<=sizeLine)(hs:∀i x zs σ H T,xs[i]? =some x->Pv i zs σ H->H T=none->g (.ref T) σ (upd H T (.tup [.int i,x])) fun σ2 H2=>tf σ2 H2 fun b H3=>if b=true then te σ2 H3 fun v H4=>Pv (i+1) (zs++[v]) σ2 H4 else Pv (i+1) zs σ2 H3)(hd:∀zs σ H,Pv xs.length zs σ H-> ∀p,H p=none->Q (.ref p) (upd H p (.lst zs))):tCompK g tf te σ (Ite K k a) H Q:=by
 refine⟨fun i m zs σ H=>m=xs.length-i/\i<=xs.length/\Pv i zs σ H,⟨_,(Nat.sub_zero _).symm,zero_le _,h0⟩,?_⟩;rintro i m zs σ H ⟨rfl,hi,p⟩;obtain⟨q1,hz⟩:=hl i zs σ H hi p;by_cases hlt:i<xs.length
 ·refine .inr ⟨⟨xs,xs[i],q1,by simp[hlt]⟩,hz,Pv (i+1),fun ys' σ' H' p'=>⟨xs.length-(i+1),by omega,rfl,hlt,p'⟩,fun x H' y=>?_⟩;obtain⟨T,u,hT,rfl,rfl,e1⟩:=y;exact hs i u zs σ H T (e1 xs q1) p hT
 ·have e:i=xs.length:=by omega
  rw[e]at p;exact .inl ⟨⟨xs,q1,e.symm⟩,hz,hd zs σ H p⟩
end L2
namespace L2
open PySem PySem.Spec PyProof.Rows PySem.W
theorem kF(x:Str):Str.empty++x=x:=by
 show(⟨#[]++x.cps⟩:Str)=x;simp
end L2
namespace L2
open PySem PySem.Spec PyProof.Rows
def Itd(n:Nat):It:=⟨fun i _=>i<n,fun i H x H'=>H'=H/\x= .int ((n:Int)-i),fun i _=>n<=i⟩
theorem turn_down{P:Program}{w:World}{K:W.Frag}{tg:Expr}(it:Addr)(n:Nat):Turn P w K tg (Itd n) [it] it (fun i h=>IsRangeIter h it ((n:Int)+(i:Nat)*(-1)) ((n:Int)-(i:Nat)) (-1)) where
 mem:=by simp
 obj:=fun i h st b hb=>by
  have e:b=it:=by simpa using hb
  subst e;exact⟨_,st,fun v z=>by
   have z':Data.fields _=Data.cell v:=z;cases z'⟩
 keep:=fun i h h' st k=>k it (by simp) _ st
 item:=by
  intro X hP hw hK hc i pins s σ H E I hf st hg;subst hP hw hK;obtain⟨f0,f1,f2,f3,f4,f5⟩:=hf it (by simp);have W0:=Walks.range (prog:=X.prog) (w:=X.w) (I.ok.hd hc) it (n:Int) (-1) n;refine W0.item i s _ _ hg st fun v h' tk hv st' kk=>?_;obtain⟨t,rfl⟩:=hv;have I1:Inv X pins σ H {s with heap:=h',toks:=tk}:=I.turned (fun b o hb e=>kk b o (by simpa using hb) e) f0 f1 f3 f4 f5;refine⟨_,rfl,go_of (s:={s with heap:=h',toks:=tk}) (n :="range_iterator") st' rfl rfl (by decide) ⟨.int ((n:Int)-i),H,I1,⟨t,?_⟩,⟨rfl,rfl⟩,st',fun b hb=>(hf b hb).1⟩⟩;have:(n:Int)+(i:Int)*(-1)=(n:Int)-i:=by omega
  rw[this]
 done:=by
  intro X hP hw hK hc i pins s σ H E I hf st hg;subst hP hw hK;obtain⟨f0,f1,f2,f3,f4,f5⟩:=hf it (by simp);exact wpAny_pyNext_range_end (I.ok.hd hc) st (by have:n<=i:=hg;omega) fun h' eb=>⟨rfl,I.turned (t':=s.toks) (fun b o hb e=>eb b o hb e) f0 f1 f3 f4 f5⟩
 self:=fun _ _ _ _ _ st h=>wpAny_pyIter_rangeiter st h
section
variable{X:Cx}{tg:Expr}
theorem size_down(n:Nat):Builtin.Range.rangeSize (n:Int) 0 (-1)=(n:Int):=by
 unfold Builtin.Range.rangeSize;rw[if_neg (by decide)];have e:((-(-1:Int)))=1:=by decide
 split
 ·rw[e,Int.ediv_one];omega
 ·omega
theorem small_down{n:Nat}(h:n<=100000):Builtin.Range.small (n:Int) 0 (-1)=true:=by
 unfold Builtin.Range.small;rw[size_down];simp only[Builtin.Range.rangeFitsLong,and_eq_true,Bool.or_eq_true,decide_eq_true_eq,beq_iff_eq,show ¬((-1:Int)>0)by decide,if_false];omega
def iDown(ta:TA):TI:=fun σ H R=>ta σ H fun vs H1=>∃ n:Nat,vs=[.int n,.int 0,.int (-1)]/\n<=100000/\R (Itd n) H1
theorem pi_down{a b c:Expr}{ta:TA}{p pos:Pos}(hg:Gl X "range")(hm:X.mg "range"=none)(ha:PA X [a,b,c] ta)(hs:starEach [a,b,c] X.env=(false,eval a X.env)::starEach [b,c] X.env:=by rfl)(hs2:(backTo pos (starEach [b,c] X.env)).any (·.1)=false:=by rfl) :
  PI X tg (.Call (.Name "range" p) [a,b,c] [] pos) (iDown ta):=by
 intro pins s σ H R I h;refine Call_ (jM I hg hm boot_range (PyProof.Rows.callWith_type1 (thn (ha pos pins s σ H _ I h) fun us s1 ⟨vs,H1,I1,r1,q1⟩=>?_) hs hs2));obtain⟨n,e,hn,q⟩:=q1;subst e;cases r1 with
 |cons r rr =>
  cases rr with
  |cons r' rr =>
   cases rr with
   |cons r'' rr =>
    cases rr;obtain⟨t,rfl⟩:=r;obtain⟨t',rfl⟩:=r';obtain⟨t'',rfl⟩:=r'';refine call_range_3 (by decide) ?_ (.inl (PyProof.noPylong_small (by decide)));refine wpAny_pyIter_range (s:={s1 with heap:=s1.heap.push {cls:=.type "range",data:=.fields #[.int n t,.int 0 t',.int (-1) t'']}}) (Heap.get?_push_size _ rfl) (small_down hn) ?_;have I2:Inv X pins σ H1 {s1 with heap:=s1.heap.push {cls:=.type "range",data:=.fields #[.int n t,.int 0 t',.int (-1) t'']}}:=I1.kept (t':=s1.toks) fun b o e=>Heap.get?_push_of_some _ e;refine⟨_,[(s1.heap.push {cls:=.type "range",data:=.fields #[.int n t,.int 0 t',.int (-1) t'']}).objs.size],_,_,H1,rfl,I2.kept (t':=s1.toks) fun b o e=>Heap.get?_push_of_some _ e,turn_down _ n,?_,fun b hb=>?_,q⟩
    ·show IsRangeIter _ _ ((n:Int)+((0:Nat):Int)*(-1)) ((n:Int)-((0:Nat):Int)) (-1);have e1:(n:Int)+((0:Nat):Int)*(-1)=n:=by simp
     have e2:(n:Int)-((0:Nat):Int)=Builtin.Range.rangeSize (n:Int) 0 (-1):=by rw[size_down];simp
     rw[e1,e2];exact Heap.get?_push_size _ rfl
    ·have e:b=(s1.heap.push {cls:=.type "range",data:=.fields #[.int n t,.int 0 t',.int (-1) t'']}).objs.size:=by simpa using hb
     subst e;exact I2.fpOk (le_refl _) (I2.hok.fresh (le_refl _))
end
theorem for_down{n:Nat}{g:TG}{tb:TS}{D:Ends}{σ:St}{H:Hp}(Pv:Nat->St->Hp->Prop)(h0:Pv 0 σ H)(hs:∀i σ H,i<n->Pv i σ H->g (.int ((n:Int)-i)) σ H fun σ2 H2=>tb {D with nx:=Pv (i+1),ct:=Pv (i+1),bk:=D.nx} σ2 H2)(hd:∀ σ H,Pv n σ H->D.nx σ H) :
  ∃W0:Nat->Nat->St->Hp->Prop,(∃m,W0 0 m σ H)/\ ∀i m σ H,W0 i m σ H->
   ((Itd n).stop i H/\D.nx σ H)\/((Itd n).go i H/\ ∃N:St->Hp->Prop,(∀ σ' H',N σ' H'-> ∃m',m'<m/\W0 (i+1) m' σ' H')/\ ∀x H',(Itd n).yld i H x H'->g x σ H' fun σ2 H2=>tb {D with nx:=N,ct:=N,bk:=D.nx} σ2 H2):=by
 refine⟨fun i m σ H=>m=n-i/\i<=n/\Pv i σ H,⟨n,by simp,zero_le _,h0⟩,?_⟩;rintro i m σ H ⟨rfl,hi,p⟩;by_cases hlt:i<n
 ·refine .inr ⟨hlt,Pv (i+1),fun σ' H' p'=>⟨n-(i+1),by omega,rfl,hlt,p'⟩,fun x H' y=>?_⟩;obtain⟨e,y⟩:=y;subst e y;exact hs i σ _ hlt p
 ·have e:i=n:=by omega
  subst e;exact .inl ⟨le_refl _,hd σ H p⟩
theorem FnOk.none{P:Program}{w:World}{K:W.Frag}{mg:Str->Option Value}{base:Heap}{CX:CXT}{k:Nat}{f:Addr}{fd:FuncData}{ps:List Str}{sp:Sp}{cm:Bool}(h:∀vs H Q E,¬sp vs H Q E):FnOk P w K mg base CX k f fd ps sp cm :=
 ⟨fun vs H Q E z=>absurd z (h vs H Q E),fun A outer s H args us vs Q E hr he hb hv hs=>absurd hs (h _ _ _ _)⟩
def yE:Nat->Nat->Nat->List (List Int)
 | 0,_,_=>[]
 |f+1,n,g=>if n=0 then [[]]else(List.range (min n g)).flatMap fun i=>(yE f (n-(min n g-i)) (min n g-i)).map (((min n g-i:Nat):Int):: ·)
def partP(f n k i:Nat):List (List Int):=(List.range i).flatMap fun i=>(yE f (n-(k-i)) (k-i)).map (((k-i:Nat):Int):: ·)
theorem zL(f n g:Nat):yE (f+1) n g=if n=0 then [[]]else partP f n (min n g) (min n g):=rfl
theorem partP_succ(f n k i:Nat):partP f n k (i+1)=partP f n k i++(yE f (n-(k-i)) (k-i)).map (((k-i:Nat):Int):: ·):=by
 unfold partP;rw[List.range_succ,List.flatMap_append];simp
theorem partP_len{f:Nat}(ih:∀n g,(yE f n g).length<=2^n){n k:Nat}(hk:k<=n):∀i,i<=k->(partP f n k i).length<=2^(n-k+i)
 | 0,_=>by simp[partP]
 |i+1,hi=>by
  have h1:=partP_len ih hk i (by omega);rw[partP_succ,length_append,length_map];have h2:=ih (n-(k-i)) (k-i);have e:n-(k-i)=n-k+i:=by omega
  rw[e]at h2;have e2:n-k+(i+1)=(n-k+i)+1:=by omega
  rw[e2,Nat.pow_succ];rw[e];omega
theorem partF_len:∀f n g,(yE f n g).length<=2^n
 | 0,n,g=>zero_le _
 |f+1,n,g=>by
  rw[zL];split
  ·rename_i h;rw[h];exact le_refl _
  ·have:=partP_len (partF_len f) (n:=n) (k:=min n g) (Nat.min_le_left _ _) (min n g) (le_refl _);have e:n-min n g+min n g=n:=by omega
   rw[e]at this;exact this
theorem partF_mem:∀f n g,∀h∈yE f n g,h.length<=n
 | 0,n,g,h,hh=>nomatch hh
 |f+1,n,g,h,hh=>by
  rw[zL]at hh;split at hh
  ·have:h=[]:=by simpa using hh
   rw[this];exact zero_le _
  ·unfold partP at hh;obtain⟨i,hi,hh⟩:=List.mem_flatMap.mp hh;rw[mem_range]at hi;obtain⟨r,hr,rfl⟩:=mem_map.mp hh;have:=partF_mem f _ _ r hr;rw[length_cons];omega
def idxP(rule:List (List Int))(hs:List Int)(i:Nat):List Int:=((List.range i).filter fun i=>lies (rule.getD i []) hs).map fun(k:Nat)=>(k:Int)
def idxG(rule:List (List Int))(hs:List Int):List Int:=idxP rule hs rule.length
theorem j7(rule:List (List Int))(hs:List Int)(i:Nat):idxP rule hs (i+1)=idxP rule hs i++if lies (rule.getD i []) hs=true then [(i:Int)]else []:=by
 unfold idxP;rw[List.range_succ,List.filter_append,map_append];by_cases h:lies (rule.getD i []) hs=true
 ·rw[filter_cons,if_pos h,if_pos h];rfl
 ·rw[filter_cons,if_neg h,if_neg h];rfl
theorem idxP_len(rule:List (List Int))(hs:List Int)(i:Nat):(idxP rule hs i).length<=i:=by
 unfold idxP;rw[length_map];exact le_trans (List.length_filter_le _ _) (by simp)
theorem idxP_lt{rule:List (List Int)}{hs:List Int}{i:Nat}{x:Int}(h:x∈idxP rule hs i):0<=x/\x<i/\lies (rule.getD x.toNat []) hs=true:=by
 unfold idxP at h;obtain⟨k,hk,rfl⟩:=mem_map.mp h;obtain⟨h1,h2⟩:=mem_filter.mp hk;rw[mem_range]at h1;refine⟨by omega,by omega,?_⟩;simpa using h2
def zB(rule:List (List Int))(hs:List Int):Option Int:=(idxG rule hs).head?
def optV:Option Int->V
 |none=>.non
 |some i=>.int i
theorem idxP_head(rule:List (List Int))(hs:List Int):∀i m,Ismin m (idxP rule hs i)->(idxP rule hs i).head? =some m
 | 0,m,h=>nomatch h.1
 |i+1,m,h=>by
  rw[j7]at h ⊢;cases e:idxP rule hs i with
  |nil =>
   rw[e]at h;by_cases c:lies (rule.getD i []) hs=true
   ·rw[if_pos c]at h ⊢;have:m=(i:Int):=by simpa using h.1
    rw[this];rfl
   ·rw[if_neg c]at h;exact nomatch h.1
  |cons y ys =>
   have ih:=idxP_head rule hs i;rw[e]at ih h;show some y=some m;have hy:y∈idxP rule hs i:=by rw[e];simp
   have hmem:m∈y::ys:=by
    rcases mem_append.mp h.1 with z|z
    ·exact z
    ·by_cases c:lies (rule.getD i []) hs=true
     ·rw[if_pos c]at z;have e1:m=(i:Int):=by simpa using z
      have:=h.2 y (by simp);have:=(idxP_lt hy).2.1;omega
     ·rw[if_neg c]at z;exact nomatch z
   exact ih m ⟨hmem,fun x hx=>h.2 x (by rcases mem_cons.mp hx with z|z <;>simp[z])⟩
theorem first_none{rule:List (List Int)}{hs:List Int}(h:idxP rule hs rule.length=[]):zB rule hs=none:=by unfold zB idxG;rw[h];rfl
theorem first_some{rule:List (List Int)}{hs:List Int}{i:Nat}(h:idxP rule hs i=[])(hi:i<rule.length)(c:lies (rule.getD i []) hs=true):zB rule hs=some (i:Int):=by
 have step:∀d,(idxP rule hs (i+1+d)).head? =some (i:Int):=by
  intro d
  induction d with
  |zero=>rw[Nat.add_zero,j7,h,if_pos c];rfl
  |succ d ih =>
   rw[<-Nat.add_assoc,j7];cases e:idxP rule hs (i+1+d)with
   |nil=>rw[e]at ih;cases ih
   |cons y ys=>rw[e]at ih;exact ih
 have:=step (rule.length-(i+1));rw[show i+1+(rule.length-(i+1))=rule.length by omega]at this;exact this
def zJ(rule:List (List Int))(n:Nat):List (List Int):=(yE 26 n n).filter fun h=>(zB rule h).isNone
theorem pow24{n:Nat}(h:n<=24):2^n<=sizeLine:=le_trans (Nat.pow_le_pow_right (by decide) h) (by decide)
theorem optV_none(o:Option Int):decide (optV o=V.non)=o.isNone:=by
 cases o with
 |none=>rfl
 |some i=>exact decide_eq_false (by intro z;cases z)
def Pair1(pc:List Int×List Int)(v:V)(H:Hp):Prop:=∃ q a b,v= .ref q/\H q=some (.tup [.ref a,.ref b])/\H a=some (.tup (pc.1.map V.int))/\H b=some (.tup (pc.2.map V.int))
def coinSt(L:List Int)(part at_:Nat):List Int:=L.set at_ (L.getD at_ 0+L.getD (at_-part) 0)
def jJ(L:List Int)(part:Nat):Nat->List Int
 | 0=>L
 |i+1=>coinSt (jJ L part i) part (part+i)
def yv(n:Nat):Nat->List Int
 | 0=>1::replicate n 0
 |k+1=>jJ (yv n k) (k+1) (n-k)
theorem coinIn_len(L:List Int)(part:Nat):∀i,(jJ L part i).length=L.length
 | 0=>rfl
 |i+1=>by unfold jJ coinSt;rw[List.length_set,coinIn_len L part i]
theorem coinOut_len(n:Nat):∀k,(yv n k).length=n+1
 | 0=>by simp[yv]
 |k+1=>by rw[yv,coinIn_len,coinOut_len n k]
def fallB:List Int->Bool
 | []=>true
 | [_]=>true
 |x::y::r=>decide (y<=x)&&fallB (y::r)
def lexB:List (List Int)->Bool
 | []=>true
 | [_]=>true
 |x::y::r=>HT.lexGt x y&&lexB (y::r)
def y6(n:Nat):Bool:=((yE 26 n n).length:Int)==(yv n n).getD n 0&&(yE 26 n n).all (fun h=>h.sum==(n:Int)&&h.all (fun x=>decide (1<=x))&&fallB h)&&lexB (yE 26 n n)
theorem p12_0:y6 0=true:=by decide+kernel
theorem p12_1:y6 1=true:=by decide+kernel
theorem p12_2:y6 2=true:=by decide+kernel
theorem p12_3:y6 3=true:=by decide+kernel
theorem p12_4:y6 4=true:=by decide+kernel
theorem p12_5:y6 5=true:=by decide+kernel
theorem p12_6:y6 6=true:=by decide+kernel
theorem p12_7:y6 7=true:=by decide+kernel
theorem p12_8:y6 8=true:=by decide+kernel
theorem p12_9:y6 9=true:=by decide+kernel
theorem p12_10:y6 10=true:=by decide+kernel
theorem p12_11:y6 11=true:=by decide+kernel
theorem p12_12:y6 12=true:=by decide+kernel
theorem p12_13:y6 13=true:=by decide+kernel
theorem p12_14:y6 14=true:=by decide+kernel
theorem p12_15:y6 15=true:=by decide+kernel
theorem p12_16:y6 16=true:=by decide+kernel
theorem p12_17:y6 17=true:=by decide+kernel
theorem p12_18:y6 18=true:=by decide+kernel
theorem p12_19:y6 19=true:=by decide+kernel
theorem p12_20:y6 20=true:=by decide+kernel
theorem p12_21:y6 21=true:=by decide+kernel
theorem p12_22:y6 22=true:=by decide+kernel
theorem p12_23:y6 23=true:=by decide+kernel
theorem p12_24:y6 24=true:=by decide+kernel
theorem part12_all:∀n,n<25->y6 n=true
 | 0,_=>p12_0
 | 1,_=>p12_1
 | 2,_=>p12_2
 | 3,_=>p12_3
 | 4,_=>p12_4
 | 5,_=>p12_5
 | 6,_=>p12_6
 | 7,_=>p12_7
 | 8,_=>p12_8
 | 9,_=>p12_9
 | 10,_=>p12_10
 | 11,_=>p12_11
 | 12,_=>p12_12
 | 13,_=>p12_13
 | 14,_=>p12_14
 | 15,_=>p12_15
 | 16,_=>p12_16
 | 17,_=>p12_17
 | 18,_=>p12_18
 | 19,_=>p12_19
 | 20,_=>p12_20
 | 21,_=>p12_21
 | 22,_=>p12_22
 | 23,_=>p12_23
 | 24,_=>p12_24
 |n+25,h=>absurd h (by omega)
theorem slice_tail{K:W.Frag}{H:Hp}{p:Addr}{hs:List Int}{Q:VK}(hp:H p=some (.tup (hs.map V.int)))(k:∀q H',H' q=some (.tup (hs.tail.map V.int))->Same H H'->Q (.ref q) H'):rSlTA K (.ref p) (some 1) none H Q:=by
 have e1:∀n d:Nat,HT.sIx n d (some 1)=min 1 n:=fun n d=>HT.sIx_nat n d 1;cases hs with
 |nil=>exact .inl ⟨p,[],rfl,SqT.of hp,⟨rfl,rfl⟩,k p H hp fun _ _ z=>z⟩
 |cons x r =>
  refine .inr ⟨p,_,rfl,SqT.of hp,?_,fun q hq=>k q _ ?_ (Same.new hq)⟩
  ·rintro⟨z,_⟩;rw[e1]at z;simp at z
  ·rw[z6];unfold cutV;rw[e1,HT.sIx_none];simp[take_of_length_le]
def nth19:List Int->Nat->Int
 | [],_=>0
 |x::_,0=>x
 | _::r,n+1=>nth19 r n
theorem nth19_eq:∀(L:List Int)(n:Nat),nth19 L n=L.getD n 0
 | [],_=>rfl
 |x::_,0=>rfl
 | _::r,n+1=>by rw[nth19,nth19_eq r n,List.getD_cons_succ]
def pentA(m:Int):Int:=m*(3*m-1) / 2
def pentB(m:Int):Int:=m*(3*m+1) / 2
def nextR(R:List Int)(n:Int):Nat->Int->Int->Int->Int
 | 0,_,_,t=>t
 |f+1,m,s,t=>if pentA m<=n then nextR R n f (m+1) (-s) (if pentB m<=n then t+s*nth19 R (pentA m-1).toNat+s*nth19 R (pentB m-1).toNat else t+s*nth19 R (pentA m-1).toNat)else t
def wayR:Nat->List Int
 | 0=>[1]
 |n+1=>nextR (wayR n) (n+1:Nat) (n+3) 1 1 0::wayR n
theorem wayR_len:∀n,(wayR n).length=n+1
 | 0=>rfl
 |n+1=>by rw[wayR,length_cons,wayR_len n]
theorem wayR_pre(n:Nat):∀d j,j<=n->(wayR (n+d)).reverse.getD j 0=(wayR n).reverse.getD j 0
 | 0,_,_=>rfl
 |d+1,j,h=>by
  have hl:=wayR_len (n+d);rw[<-Nat.add_assoc,wayR,<-wayR_pre n d j h,List.reverse_cons];simp only[getD_eq_getElem?_getD];rw[List.getElem?_append_left (by rw[List.length_reverse];omega)]
theorem pentA_ge{m:Int}(h:1<=m):m<=pentA m:=by
 unfold pentA;refine Int.le_ediv_of_mul_le (by decide) ?_;exact Int.mul_le_mul_of_nonneg_left (by omega) (by omega)
theorem pentB_ge{m:Int}(h:1<=m):m<=pentB m:=by
 unfold pentB;refine Int.le_ediv_of_mul_le (by decide) ?_;exact Int.mul_le_mul_of_nonneg_left (by omega) (by omega)
def srow:List Int->List Int->List Int
 | [],_=>[]
 |x::r,[]=>x::srow r []
 |x::r,f::q=>(x+f)::srow r (q++[x+f])
def qrow:List Int->List Int->List Int->List Int
 | [],_,_=>[]
 |x::r,[],b=>x::qrow r [] b
 |x::r,f::fs,b=>(x+f)::(match fs with
  | []=>qrow r ((x+f)::b).reverse []
  |g::gs=>qrow r (g::gs) ((x+f)::b))
theorem qrow_eq:∀(rest f b:List Int),f≠[]->qrow rest f b=srow rest (f++b.reverse)
 | [],_,_,_=>rfl
 |x::r,[],b,h=>absurd rfl h
 |x::r,[f],b,_=>by
  show(x+f)::qrow r ((x+f)::b).reverse []=(x+f)::srow r ([]++b.reverse++[x+f]);rw[qrow_eq r ((x+f)::b).reverse [] (by simp)];simp
 |x::r,f::g::gs,b,_=>by
  show(x+f)::qrow r (g::gs) ((x+f)::b)=(x+f)::srow r ((g::gs)++b.reverse++[x+f]);rw[qrow_eq r (g::gs) ((x+f)::b) (by simp)];simp
def coinQ(n:Nat):Nat->List Int
 | 0=>1::replicate n 0
 |k+1=>qrow (coinQ n k) (replicate (k+1) 0) []
def cq400:List Int:=[1,1,2,3,5,7,11,15,22,30,42,56,77,101,135,176,231,297,385,490,627,792,1002,1255,1575,1958,2436,3010,3718,4565,5604,6842,8349,10143,12310,14883,17977,21637,26015,31185,37338,44583,53174,63261,75175,89134,105558,124754,147273,173525,204226,239943,281589,329931,386155,451276,526823,614154,715220,831820,966467,1121505,1300156,1505499,1741630,2012558,2323520,2679689,3087735,3554345,4087968,4697205,5392783,6185689,7089500,8118264,9289091,10619863,12132164,13848650,15796476,18004327,20506255,23338469,26543660,30167357,34262962,38887673,44108109,49995925,56634173,64112359,72533807,82010177,92669720,104651419,118114304,133230930,150198136,169229875,190569292,214481126,241265379,271248950,304801365,342325709,384276336,431149389,483502844,541946240,607163746,679903203,761002156,851376628,952050665,1064144451,1188908248,1327710076,1482074143,1653668665,1844349560,2056148051,2291320912,2552338241,2841940500,3163127352,3519222692,3913864295,4351078600,4835271870,5371315400,5964539504,6620830889,7346629512,8149040695,9035836076,10015581680,11097645016,12292341831,13610949895,15065878135,16670689208,18440293320,20390982757,22540654445,24908858009,27517052599,30388671978,33549419497,37027355200,40853235313,45060624582,49686288421,54770336324,60356673280,66493182097,73232243759,80630964769,88751778802,97662728555,107438159466,118159068427,129913904637,142798995930,156919475295,172389800255,189334822579,207890420102,228204732751,250438925115,274768617130,301384802048,330495499613,362326859895,397125074750,435157697830,476715857290,522115831195,571701605655,625846753120,684957390936,749474411781,819876908323,896684817527,980462880430,1071823774337,1171432692373,1280011042268,1398341745571,1527273599625,1667727404093,1820701100652,1987276856363,2168627105469,2366022741845,2580840212973,2814570987591,3068829878530,3345365983698,3646072432125,3972999029388,4328363658647,4714566886083,5134205287973,5590088317495,6085253859260,6622987708040,7206841706490,7840656226137,8528581302375,9275102575355,10085065885767,10963707205259,11916681236278,12950095925895,14070545699287,15285151248481,16601598107914,18028182516671,19573856161145,21248279009367,23061871173849,25025873760111,27152408925615,29454549941750,31946390696157,34643126322519,37561133582570,40718063627362,44132934884255,47826239745920,51820051838712,56138148670947,60806135438329,65851585970275,71304185514919,77195892663512,83561103925871,90436839668817,97862933703585,105882246722733,114540884553038,123888443077259,133978259344888,144867692496445,156618412527946,169296722391554,182973889854026,197726516681672,213636919820625,230793554364681,249291451168559,269232701252579,290726957916112,313891991306665,338854264248680,365749566870782,394723676655357,425933084409356,459545750448675,495741934760846,534715062908609,576672674947168,621837416509615,670448123060170,722760953690372,779050629562167,839611730366814,904760108316360,974834369944625,1050197489931117,1131238503938606,1218374349844333,1312051800816215,1412749565173450,1520980492851175,1637293969337171,1762278433057269,1896564103591584,2040825852575075,2195786311682516,2362219145337711,2540952590045698,2732873183547535,2938929793929555,3160137867148997,3397584011986773,3652430836071053,3925922161489422,4219388528587095,4534253126900886,4872038056472084,5234371069753672,5622992691950605,6039763882095515,6486674127079088,6965850144195831,7479565078510584,8030248384943040,8620496275465025,9253082936723602,9930972392403501,10657331232548839,11435542077822104,12269218019229465,13162217895057704,14118662665280005,15142952738857194,16239786535829663,17414180133147295,18671488299600364,20017426762576945,21458096037352891,23000006655487337,24650106150830490,26415807633566326,28305020340996003,30326181989842964,32488293351466654,34800954869440830,37274405776748077,39919565526999991,42748078035954696,45772358543578028,49005643635237875,52462044228828641,56156602112874289,60105349839666544,64325374609114550,68834885946073850,73653287861850339,78801255302666615,84300815636225119,90175434980549623,96450110192202760,103151466321735325,110307860425292772,117949491546113972,126108517833796355,134819180623301520,144117936527873832,154043597379576030,164637479165761044,175943559810422753,188008647052292980,200882556287683159,214618299743286299,229272286871217150,244904537455382406,261578907351144125,279363328483702152,298330063062758076,318555973788329084,340122810048577428,363117512048110005,387632532919029223,413766180933342362,441622981929358437,471314064268398780,502957566506000020,536679070310691121,572612058898037559,610898403751884101,651688879997206959,695143713458946040,741433159884081684,790738119649411319,843250788562528427,899175348396088349,958728697912338045,1022141228367345362,1089657644424399782,1161537834849962850,1238057794119125085,1319510599727473500,1406207446561484054,1498478743590581081,1596675274490756791,1701169427975813525,1812356499739472950,1930656072350465812,2056513475336633805,2190401332423765131,2332821198543892336,2484305294265418180,2645418340688763701,2816759503217942792,2998964447736452194,3192707518433532826,3398704041358160275,3617712763867604423,3850538434667429186,4098034535626594791,4361106170762284114,4640713124699623515,4937873096788191655,5253665124416975163,5589233202595404488,5945790114707874597,6324621482504294325,6727090051741041926]
theorem cq400_eq:coinQ 400 400=cq400:=by decide+kernel
theorem way_lit:(wayR 400).reverse=cq400:=by decide+kernel
theorem way_coin:(wayR 400).reverse=coinQ 400 400:=by rw[way_lit,cq400_eq]
theorem srow_len:∀(L q:List Int),(srow L q).length=L.length
 | [],_=>rfl
 |x::r,[]=>by rw[srow,length_cons,srow_len r [],length_cons]
 |x::r,f::q=>by rw[srow,length_cons,srow_len r _,length_cons]
theorem coinQ_len(n:Nat):∀k,(coinQ n k).length=n+1
 | 0=>by simp[coinQ]
 |k+1=>by rw[coinQ,qrow_eq _ _ _ (by simp[List.replicate_succ]),srow_len,coinQ_len n k]
theorem srow_at:∀(L:List Int)(q:List Int)(p j:Nat),q.length=p->1<=p->j<L.length->(srow L q).getD j 0=L.getD j 0+(if j<p then q.getD j 0 else(srow L q).getD (j-p) 0)
 | [],_,_,_,_,_,h=>absurd h (by simp)
 |x::r,[],p,_,hp,h1,_=>absurd hp (by simp;omega)
 |x::r,f::q,p,0,hp,h1,_=>by
  rw[if_pos (by omega)];rfl
 |x::r,f::q,p,j+1,hp,h1,h=>by
  rw[length_cons]at hp;have ih:=srow_at r (q++[x+f]) p j (by rw[length_append];exact hp) h1 (by rw[length_cons]at h;omega);rw[srow,List.getD_cons_succ,List.getD_cons_succ,ih];congr 1;rcases Nat.lt_trichotomy (j+1) p with c|c|c
  ·rw[if_pos (by omega),if_pos c,List.getD_cons_succ];simp only[getD_eq_getElem?_getD];rw[List.getElem?_append_left (by omega)]
  ·rw[if_pos (by omega),if_neg (by omega),show j+1-p=0 by omega,List.getD_cons_zero];simp only[getD_eq_getElem?_getD];rw[List.getElem?_append_right (by omega),show j-q.length=0 by omega];rfl
  ·rw[if_neg (by omega),if_neg (by omega),show j+1-p=(j-p)+1 by omega,List.getD_cons_succ]
theorem coinQ_at(n k j:Nat)(h:j<=n):(coinQ n (k+1)).getD j 0=(coinQ n k).getD j 0+(if k+1<=j then(coinQ n (k+1)).getD (j-(k+1)) 0 else 0):=by
 have e:coinQ n (k+1)=srow (coinQ n k) (replicate (k+1) 0):=by
  rw[coinQ,qrow_eq _ _ _ (by simp[List.replicate_succ])];simp
 rw[e,srow_at _ _ (k+1) j (by simp) (by omega) (by rw[coinQ_len];omega)];congr 1;by_cases c:j<k+1
 ·rw[if_pos c,if_neg (by omega)];simp only[getD_eq_getElem?_getD];rw[List.getElem?_replicate,if_pos c];rfl
 ·rw[if_neg c,if_pos (by omega)]
theorem coinIn_at(L:List Int)(p:Nat)(hp:1<=p):∀i j,j<L.length->(jJ L p i).getD j 0=L.getD j 0+(if p<=j/\j<p+i then(jJ L p i).getD (j-p) 0 else 0)
 | 0,j,_=>by rw[if_neg (by omega),Int.add_zero,jJ]
 |i+1,j,h=>by
  have ih:=coinIn_at L p hp i j h;have hl:=coinIn_len L p i;have es:∀(X:List Int)(a b:Nat)(v:Int),b<X.length->(X.set a v).getD b 0=if a=b then v else X.getD b 0:=fun X a b v hb=>by
   simp only[getD_eq_getElem?_getD];rw[List.getElem?_set];by_cases c:a=b
   ·rw[if_pos c,if_pos c,if_pos (by omega)];rfl
   ·rw[if_neg c,if_neg c]
  rw[jJ,coinSt,es _ _ _ _ (by omega)];by_cases c:p+i=j
  ·subst c;rw[if_pos rfl,ih,if_neg (by omega),Int.add_zero,if_pos (by omega),es _ _ _ _ (by omega),if_neg (by omega)]
  ·rw[if_neg c,ih];congr 1;by_cases d:p<=j/\j<p+i
   ·rw[if_pos d,if_pos (by omega),es _ _ _ _ (by omega),if_neg (by omega)]
   ·rw[if_neg d,if_neg (by omega)]
theorem coinOut_at(n k j:Nat)(h:j<=n):(yv n (k+1)).getD j 0=(yv n k).getD j 0+(if k+1<=j then(yv n (k+1)).getD (j-(k+1)) 0 else 0):=by
 rw[yv,coinIn_at _ _ (by omega) _ j (by rw[coinOut_len];omega)];congr 1;by_cases c:k+1<=j
 ·rw[if_pos c,if_pos (by omega)]
 ·rw[if_neg c,if_neg (by omega)]
theorem row_uniq(f g a b:Nat->Int)(p N:Nat)(hp:1<=p)(hf:∀j,j<=N->f j=a j+(if p<=j then f (j-p)else 0))(hg:∀j,j<=N->g j=b j+(if p<=j then g (j-p)else 0))(h:∀j,j<=N->a j=b j):∀j,j<=N->f j=g j:=fun j=>by
 induction j using Nat.strongRecOn with
 |ind j ih =>
  intro hj;rw[hf j hj,hg j hj,h j hj];congr 1;by_cases c:p<=j
  ·rw[if_pos c,if_pos c,ih (j-p) (by omega) (by omega)]
  ·rw[if_neg c,if_neg c]
theorem coinOQ(n N:Nat)(hn:n<=N):∀k j,j<=n->(yv n k).getD j 0=(coinQ N k).getD j 0
 | 0,0,_=>rfl
 | 0,j+1,h=>by
  rw[yv,coinQ,List.getD_cons_succ,List.getD_cons_succ];simp only[getD_eq_getElem?_getD];rw[List.getElem?_replicate,List.getElem?_replicate,if_pos (by omega),if_pos (by omega)]
 |k+1,j,h=>row_uniq _ _ (fun j=>(yv n k).getD j 0) (fun j=>(coinQ N k).getD j 0) (k+1) n (by omega) (fun j hj=>coinOut_at n k j hj) (fun j hj=>coinQ_at N k j (by omega)) (fun j hj=>coinOQ n N hn k j hj) j h
theorem coinQ_more(N n j:Nat)(h:j<=n)(hn:n<=N):∀d,(coinQ N (n+d)).getD j 0=(coinQ N n).getD j 0
 | 0=>rfl
 |d+1=>by
  rw[<-Nat.add_assoc,coinQ_at N (n+d) j (by omega),if_neg (by omega),Int.add_zero,coinQ_more N n j h hn d]
theorem coin_way{n j:Nat}(hn:n<=400)(hj:j<=n):(yv n n).getD j 0=(wayR j).reverse.getD j 0:=by
 rw[coinOQ n 400 hn n j hj,<-coinQ_more 400 n j hj hn (400-n),show n+(400-n)=400 by omega,<-way_coin,show(400:Nat)=j+(400-j)by omega,wayR_pre j _ j (le_refl _)]
theorem rev_at{R:List Int}{n p:Nat}(hl:R.length=n)(h1:1<=p)(h2:p<=n):(R.reverse.map V.int)[n-p]? =some (.int (nth19 R (p-1))):=by
 rw[getElem?_map,List.getElem?_reverse (by omega),nth19_eq,show R.length-1-(n-p)=p-1 by rw[hl,Nat.sub_right_comm,Nat.sub_sub_self h2]];simp only[getD_eq_getElem?_getD];rw[getElem?_eq_getElem (by omega)];rfl
theorem way_get{R:List Int}{n:Nat}{q:Int}(hl:R.length=n+1)(h1:1<=q)(h2:q<=((n+1:Nat):Int)):atI (R.reverse.map V.int) (((n+1:Nat):Int)-q)=some (.int (nth19 R (q-1).toNat)):=by
 obtain⟨p,rfl⟩:∃p:Nat,q=(p:Int):=⟨q.toNat,by omega⟩;rw[show((n+1:Nat):Int)-(p:Int)=((n+1-p:Nat):Int)by omega,show((p:Int)-1).toNat=p-1 by omega];exact zu (rev_at hl (by omega) (by omega))
theorem nextR_stop(R:List Int)(n:Int):∀f m s t,¬pentA m<=n->nextR R n f m s t=t
 | 0,_,_,_,_=>rfl
 |f+1,m,s,t,h=>by rw[nextR,if_neg h]
def sgnG(c:List Int):Int:=if c.length%2=0 then 1 else -1
def isCh(n:Nat):Int->List Int->Bool
 | _,[]=>true
 |l,x::r=>if x<l\/(n:Int)<=x then false else isCh n (x+1) r
def yi(rule:List (List Int))(pc:List Int×List Int):Bool:=isCh rule.length 0 pc.2&&pc.2.all (fun j=>lies (rule.getD j.toNat []) pc.1)
def y9(rule:List (List Int))(pc:List Int×List Int):Option (List Int×List Int):=match zB rule pc.1 with
 |none=>none
 |some m=>if m∈pc.2 then some (pc.1,pc.2.tail)else some (pc.1,m::pc.2)
theorem kY{n:Nat}:∀{l:Int}{c:List Int},isCh n l c=true-> ∀x∈c,l<=x/\x<n
 | _,[],_,_,h=>by cases h
 |l,y::r,e,x,h=>by
  rw[isCh]at e;by_cases c:y<l\/(n:Int)<=y
  ·rw[if_pos c]at e;cases e
  ·rw[if_neg c]at e;rcases mem_cons.mp h with rfl|h
   ·omega
   ·have:=kY e x h;omega
def lastC(l:Int):List Int->Int
 | []=>l
 |x::r=>lastC (x+1) r
theorem lastC_snoc(l:Int)(x:Int):∀c:List Int,lastC l (c++[x])=x+1
 | []=>rfl
 |y::r=>lastC_snoc (y+1) x r
theorem isCh_app(n:Nat):∀(l:Int)(a b:List Int),isCh n l (a++b)=(isCh n l a&&isCh n (lastC l a) b)
 |l,[],b=>by rw[List.nil_append,isCh,Bool.true_and];rfl
 |l,x::r,b=>by
  rw[List.cons_append,isCh,isCh,lastC];by_cases c:x<l\/(n:Int)<=x
  ·rw[if_pos c,if_pos c,Bool.false_and]
  ·rw[if_neg c,if_neg c,isCh_app n (x+1) r b]
theorem inV_ints(z:Int):∀ns:List Int,inV (.int z) (ns.map V.int)=decide (z∈ns):=fun ns=>by
 unfold inV;rw[List.any_map,Bool.eq_iff_iff,List.any_eq_true,decide_eq_true_eq];constructor
 ·rintro⟨x,hx,e⟩;have e':x=z:=by simpa [eqV]using e
  exact e'▸hx
 ·intro h;exact⟨z,h,by simp[eqV]⟩
theorem isCh_pw{n:Nat}:∀{l:Int}{c:List Int},isCh n l c=true->c.Pairwise (· < ·)
 | _,[],_=>.nil
 |l,y::r,e=>by
  rw[isCh]at e;by_cases c:y<l\/(n:Int)<=y
  ·rw[if_pos c]at e;cases e
  ·rw[if_neg c]at e;refine .cons (fun x hx=>?_) (isCh_pw e);have:=kY e x hx;omega
theorem isCh_of{n:Nat}{l l':Int}{c:List Int}(h:isCh n l c=true)(hl:∀x∈c,l'<=x):isCh n l' c=true:=by
 cases c with
 |nil=>rfl
 |cons y r =>
  rw[isCh]at h ⊢;by_cases d:y<l\/(n:Int)<=y
  ·rw[if_pos d]at h;cases h
  ·have:=hl y mem_cons_self;rw[if_neg d]at h;rw[if_neg (by omega)];exact h
theorem idxP_mem{rule:List (List Int)}{hs:List Int}{i k:Nat}(hk:k<i)(c:lies (rule.getD k []) hs=true):(k:Int)∈idxP rule hs i:=by
 unfold idxP;exact mem_map.mpr ⟨k,mem_filter.mpr ⟨mem_range.mpr hk,by simpa using c⟩,rfl⟩
theorem idxP_head_le{rule:List (List Int)}{hs:List Int}:∀(i:Nat)(m:Int),(idxP rule hs i).head? =some m-> ∀x∈idxP rule hs i,m<=x
 | 0,m,h,x,hx=>by cases hx
 |i+1,m,h,x,hx=>by
  rw[j7]at h hx;cases e:idxP rule hs i with
  |nil =>
   rw[e]at h hx;by_cases c:lies (rule.getD i []) hs=true
   ·rw[if_pos c]at h hx;have h1:m=(i:Int):=by simpa using h.symm
    have h2:x=(i:Int):=by simpa using hx
    omega
   ·rw[if_neg c]at hx;cases hx
  |cons y ys =>
   have ih:=idxP_head_le (rule:=rule) (hs:=hs) i;rw[e]at ih h hx;have hm:y=m:=by simpa using h
   subst hm;have hy:y∈idxP rule hs i:=by rw[e];exact mem_cons_self
   rcases mem_append.mp hx with z|z
   ·exact ih y rfl x z
   ·by_cases c:lies (rule.getD i []) hs=true
    ·rw[if_pos c]at z;have:x=(i:Int):=by simpa using z
     have:=(idxP_lt hy).2.1;omega
    ·rw[if_neg c]at z;cases z
theorem first_is{rule:List (List Int)}{hs:List Int}{m:Int}(h:zB rule hs=some m):(0<=m/\m<rule.length/\lies (rule.getD m.toNat []) hs=true)/\ ∀j:Int,0<=j->j<rule.length->lies (rule.getD j.toNat []) hs=true->m<=j:=by
 unfold zB idxG at h;refine⟨?_,fun j h0 h1 hl=>?_⟩
 ·have hm:m∈idxP rule hs rule.length:=List.mem_of_head? h;have:=idxP_lt hm;exact⟨this.1,by omega,this.2.2⟩
 ·have:=idxP_mem (i:=rule.length) (k:=j.toNat) (by omega) hl;have:=idxP_head_le _ _ h _ this;omega
structure PairF(rule:List (List Int))(pc:List Int×List Int)(m:Int):Prop where
 le:∀x∈pc.2,m<=x
 pw:pc.2.Pairwise (· < ·)
 ch:isCh rule.length 0 pc.2=true
 al:∀j∈pc.2,lies (rule.getD j.toNat []) pc.1=true
 m0:0<=m
 m1:m<rule.length
 ml:lies (rule.getD m.toNat []) pc.1=true
theorem pairF{rule:List (List Int)}{pc:List Int×List Int}{m:Int}(h:yi rule pc=true)(hf:zB rule pc.1=some m):PairF rule pc m:=by
 unfold yi at h;rw[and_eq_true,all_eq_true]at h;obtain⟨⟨a,b,c⟩,d⟩:=first_is hf;exact⟨fun x hx=>d x (kY h.1 x hx).1 (kY h.1 x hx).2 (h.2 x hx),isCh_pw h.1,h.1,h.2,a,b,c⟩
theorem PairF.head{rule:List (List Int)}{pc:List Int×List Int}{m:Int}(p:PairF rule pc m)(h:m∈pc.2):∃r,pc.2=m::r/\ ∀x∈r,m<x:=by
 have pw:=p.pw;have le:=p.le;cases e:pc.2 with
 |nil=>rw[e]at h;cases h
 |cons y r =>
  rw[e]at h pw le;have hy:=le y mem_cons_self;have hr:∀x∈r,y<x:=(pairwise_cons.mp pw).1;rcases mem_cons.mp h with rfl|h
  ·exact⟨r,rfl,hr⟩
  ·have:=hr m h;omega
theorem sgn_step(n:Nat):(if n%2=0 then(1:Int)else -1)=0-(if(n+1)%2=0 then(1:Int)else -1):=by
 rcases Nat.mod_two_eq_zero_or_one n with h|h
 ·have h2:(n+1)%2=1:=by omega
  simp[h,h2]
 ·have h2:(n+1)%2=0:=by omega
  simp[h,h2]
theorem partner_back{rule:List (List Int)}{pc pc':List Int×List Int}(h:yi rule pc=true)(hp:y9 rule pc=some pc'):yi rule pc'=true/\y9 rule pc'=some pc/\sgnG pc'.2=0-sgnG pc.2/\pc'.1=pc.1/\pc'.2.length<=pc.2.length+1:=by
 unfold y9 at hp;cases hf:zB rule pc.1 with
 |none=>rw[hf]at hp;cases hp
 |some m =>
  rw[hf]at hp;have p:=pairF h hf;obtain⟨hd,ch⟩:=pc;by_cases c:m∈ch
  ·have hp':some (hd,ch.tail)=some pc':=by simpa [c]using hp
   cases hp';obtain⟨r,e,hr⟩:=p.head c;have e':ch=m::r:=e;subst e';have chh:=p.ch;have cc:isCh rule.length (m+1) r=true:=by
    have z:isCh rule.length 0 (m::r)=true:=chh;rw[isCh,if_neg (by have:=p.m0;have:=p.m1;omega)]at z;exact z
   refine⟨?_,?_,?_,rfl,by simp;omega⟩
   ·unfold yi;rw[and_eq_true,all_eq_true];exact⟨isCh_of cc fun x hx=>by have:=hr x hx;have:=p.m0;omega,fun j hj=>p.al j (mem_cons_of_mem _ hj)⟩
   ·have nm:m∉r:=fun z=>by have:=hr m z;omega
    unfold y9;have hf':zB rule hd=some m:=hf;simp[hf',nm]
   ·unfold sgnG;simp only[List.tail_cons,length_cons];exact sgn_step r.length
  ·have hp':some (hd,m::ch)=some pc':=by simpa [c]using hp
   cases hp';refine⟨?_,?_,?_,rfl,by simp⟩
   ·unfold yi;rw[and_eq_true,all_eq_true];refine⟨?_,fun j hj=>?_⟩
    ·show isCh rule.length 0 (m::ch)=true;rw[isCh,if_neg (by have:=p.m0;have:=p.m1;omega)];refine isCh_of p.ch fun x hx=>?_;have h1:=p.le x hx;have h2:m≠x:=fun z=>c (z▸hx);omega
    ·rcases mem_cons.mp hj with rfl|hj
     ·exact p.ml
     ·exact p.al j hj
   ·unfold y9;have hf':zB rule hd=some m:=hf;simp[hf']
   ·unfold sgnG;simp only[length_cons];rw[sgn_step ch.length];omega
theorem cat_any{K:W.Frag}{H:Hp}{q t:Addr}{hs ms:List Int}{Q:V->Hp->Prop}(hq:H q=some (.tup (hs.map V.int)))(ht:H t=some (.tup (ms.map V.int)))(hl:(hs++ms).length<=1000)(k:∀(v:V) (H':Hp),Tup1 (hs++ms) v H'->Same H H'->Q v H'):rCatA K (.ref q) (.ref t) H Q:=by
 refine⟨q,t,_,_,rfl,rfl,SqT.of hq,SqT.of ht,?_,fun e=>?_,fun _ e=>?_,fun _ _ p hp=>?_⟩
 ·rw[length_map,length_map,<-length_append];exact le_trans hl (by decide)
 ·have:hs=[]:=List.map_eq_nil_iff.mp e;subst this;exact k _ _ ⟨t,rfl,ht⟩ (fun _ _ h=>h)
 ·have:ms=[]:=List.map_eq_nil_iff.mp e;subst this;exact k _ _ ⟨q,rfl,by rw[append_nil];exact hq⟩ (fun _ _ h=>h)
 ·exact k _ _ ⟨p,rfl,by rw[z6,map_append]⟩ (Same.new hp)
end L2
namespace L2
end L2
namespace L2
def sumN:Nat->(Nat->Int)->Int
 | 0,_=>0
 |n+1,f=>sumN n f+f n
end L2
namespace L2
open PySem PySem.Spec PyProof.Rows
theorem inV2(x a b:Int):inV (.int x) [V.int a,V.int b]=(decide (x=a)||decide (x=b)):=by
 show inV (.int x) ([a,b].map V.int)=_;rw[inV_ints];rw[Bool.eq_iff_iff];simp
theorem cut_from(xs:List V)(s:Nat)(h:s<=xs.length):cutV xs (some (s:Int)) none=xs.drop s:=by
 unfold cutV;rw[HT.sIx_none,HT.sIx_nat,Nat.min_eq_left h];exact take_of_length_le (by rw[length_drop];exact le_refl _)
end L2
set_option exponentiation.threshold 200000
namespace L2
open PySem PySem.Spec PyProof.Rows
def hdL(T B:Nat->Int):Nat->List Int
 | 0=>[]
 |n+1=>hdL T B n++[T n-sumN n fun i=>B (i+1)*(hdL T B n).getD (n-(i+1)) 0]
def hd(T B:Nat->Int)(n:Nat):Int:=(hdL T B (n+1)).getD n 0
section
variable{X:Cx}
theorem op_notInD(hu:X.A.units+1<cLine):OpR X (compareOp .NotIn) (fun x y H Q=>∃ a o,y= .ref a/\DGet H a x o/\Q (.bl (!o.isSome)) H):=by
 intro pins s σ H x y v u Q I rx ry h;obtain⟨a,o,rfl,g,k⟩:=h;cases ry;exact d_notIn hu I g rx fun s3 I3=>⟨.bl (!o.isSome),H,I3,rfl,k⟩
end
end L2
namespace L2
end L2
namespace L2
theorem partF_fuel:∀(f f' n g:Nat),n<f->n<f'->yE f n g=yE f' n g
 | 0,_,n,_,h,_=>absurd h (Nat.not_lt_zero _)
 | _+1,0,n,_,_,h=>absurd h (Nat.not_lt_zero _)
 |f+1,f'+1,n,g,h,h'=>by
  rw[zL,zL];by_cases c:n=0
  ·rw[if_pos c,if_pos c]
  ·rw[if_neg c,if_neg c];unfold partP;rw[List.flatMap_def,List.flatMap_def];congr 1;apply map_congr_left;intro i hi;have hi':=mem_range.mp hi;rw[partF_fuel f f' _ _ (by omega) (by omega)]
def ku(n g:Nat):List (List Int):=yE (n+1) n g
theorem partN_nil{n:Nat}(h:n≠0):ku n 0=[]:=by
 unfold ku;rw[zL,if_neg h,Nat.min_zero];rfl
theorem partN_over{n g g':Nat}(h:n<=g)(h':n<=g'):ku n g=ku n g':=by
 unfold ku;rw[zL,zL,Nat.min_eq_left h,Nat.min_eq_left h']
theorem partN_next(n g:Nat):ku n (g+1)=(if g+1<=n then(ku (n-(g+1)) (g+1)).map (((g+1:Nat):Int):: ·)else [])++ku n g:=by
 by_cases c:g+1<=n
 ·rw[if_pos c];have n0:n≠0:=by omega
  unfold ku;rw[zL n n,zL n n g,if_neg n0,if_neg n0,Nat.min_eq_right c,Nat.min_eq_right (show g<=n by omega)];unfold partP;rw[List.range_succ_eq_map,List.flatMap_cons,List.flatMap_map,Nat.sub_zero,partF_fuel n (n-(g+1)+1) _ _ (by omega) (by omega)];congr 1;rw[List.flatMap_def,List.flatMap_def];congr 1;apply map_congr_left;intro i hi;show(yE n (n-(g+1-(i+1))) (g+1-(i+1))).map (((g+1-(i+1):Nat):Int):: ·)=_;rw[Nat.add_sub_add_right]
 ·rw[if_neg c,List.nil_append];exact partN_over (by omega) (by omega)
theorem partF_le:∀(f n g:Nat),∀h∈yE f n g,∀x∈h,x<=(g:Int)
 | 0,n,g,h,hh,_,_=>by cases hh
 |f+1,n,g,h,hh,x,hx=>by
  rw[zL]at hh;by_cases c:n=0
  ·rw[if_pos c]at hh;have:h=[]:=by simpa using hh
   subst this;cases hx
  ·rw[if_neg c]at hh;unfold partP at hh;obtain⟨i,hi,hh⟩:=List.mem_flatMap.mp hh;rw[mem_range]at hi;obtain⟨r,hr,rfl⟩:=mem_map.mp hh;rcases mem_cons.mp hx with rfl|hx
   ·omega
   ·have:=partF_le f _ _ r hr x hx;omega
end L2
namespace L2
def okC(c:Nat->Nat)(g:Nat)(h:List Int):Bool:=(List.range g).all fun i=>decide (c (i+1)<=h.count ((i+1:Nat):Int))
theorem okC_next(c:Nat->Nat)(g:Nat)(h:List Int):okC c (g+1) h=(okC c g h&&decide (c (g+1)<=h.count ((g+1:Nat):Int))):=by
 unfold okC;rw[List.range_succ,List.all_append];simp
theorem okC_cons(c:Nat->Nat)(g:Nat)(h:List Int):okC c g (((g+1:Nat):Int)::h)=okC c g h:=by
 unfold okC;rw[Bool.eq_iff_iff,all_eq_true,all_eq_true];have e:∀i∈List.range g,List.count ((i+1:Nat):Int) (((g+1:Nat):Int)::h)=List.count ((i+1:Nat):Int) h:=fun i hi=>by
  have:=mem_range.mp hi;rw[List.count_cons_of_ne (by omega)]
 exact⟨fun z i hi=>by have:=z i hi;rwa [e i hi]at this,fun z i hi=>by rw[e i hi];exact z i hi⟩
def lenN(g n:Nat):Nat:=(ku n g).length
theorem lenN_next(g n:Nat):lenN (g+1) n=(if g+1<=n then lenN (g+1) (n-(g+1))else 0)+lenN g n:=by
 unfold lenN;rw[partN_next n g,length_append];by_cases c:g+1<=n
 ·rw[if_pos c,if_pos c,length_map]
 ·rw[if_neg c,if_neg c];rfl
def cntC(c:Nat->Nat)(g n:Nat):Nat:=(ku n g).countP (okC c g)
def cntT(c:Nat->Nat)(g t n:Nat):Nat:=(ku n (g+1)).countP fun h=>okC c g h&&decide (t<=h.count ((g+1:Nat):Int))
theorem cntT_next(c:Nat->Nat)(g t n:Nat):cntT c g t n=(if g+1<=n then cntT c g (t-1) (n-(g+1))else 0)+if t=0 then cntC c g n else 0:=by
 unfold cntT;rw[partN_next n g,List.countP_append];congr 1
 ·by_cases d:g+1<=n
  ·rw[if_pos d,if_pos d,List.countP_map];apply List.countP_congr;intro h _;show(okC c g (((g+1:Nat):Int)::h)&&decide (t<=List.count ((g+1:Nat):Int) (((g+1:Nat):Int)::h)))=true↔_;rw[okC_cons,List.count_cons_self];simp only[and_eq_true,decide_eq_true_eq];exact and_congr_right fun _=>by omega
  ·rw[if_neg d,if_neg d];rfl
 ·unfold cntC;have z:∀h∈ku n g,h.count ((g+1:Nat):Int)=0:=fun h hh=>count_eq_zero.mpr fun hm=>by
   have:=partF_le _ _ _ h hh _ hm;omega
  by_cases d:t=0
  ·subst d;rw[if_pos rfl];apply List.countP_congr;intro h hh;simp
  ·rw[if_neg d];apply List.countP_eq_zero.mpr;intro h hh;rw[z h hh,decide_eq_false (by omega),Bool.and_false];decide
theorem cntT_shift(c:Nat->Nat)(g:Nat):∀t n,cntT c g t n=if t*(g+1)<=n then cntT c g 0 (n-t*(g+1))else 0
 | 0,n=>by rw[Nat.zero_mul,if_pos (zero_le _),Nat.sub_zero]
 |t+1,n=>by
  rw[cntT_next,if_neg (Nat.succ_ne_zero t),Nat.add_zero,Nat.add_sub_cancel,Nat.add_mul t 1,Nat.one_mul];by_cases d:g+1<=n
  ·rw[if_pos d,cntT_shift c g t];by_cases e:t*(g+1)<=n-(g+1)
   ·rw[if_pos e,if_pos (by omega),Nat.sub_sub,Nat.add_comm (g+1)]
   ·rw[if_neg e,if_neg (by omega)]
  ·rw[if_neg d,if_neg (by omega)]
def sC(c:Nat->Nat):Nat->Nat
 | 0=>0
 |g+1=>sC c g+c (g+1)*(g+1)
theorem cntT_zero{c:Nat->Nat}{g:Nat}(ih:∀n,cntC c g n=if sC c g<=n then lenN g (n-sC c g)else 0):∀n,cntT c g 0 n=if sC c g<=n then lenN (g+1) (n-sC c g)else 0:=by
 intro n
 induction n using Nat.strongRecOn with
 | _ n IH =>
  rw[cntT_next,if_pos rfl,ih];by_cases d:g+1<=n
  ·rw[if_pos d,Nat.zero_sub,IH (n-(g+1)) (by omega)];by_cases e:sC c g<=n
   ·rw[if_pos e,if_pos e,lenN_next g (n-sC c g)];congr 1;by_cases f:sC c g<=n-(g+1)
    ·rw[if_pos f,if_pos (by omega)];congr 1;omega
    ·rw[if_neg f,if_neg (by omega)]
   ·rw[if_neg e,if_neg e,if_neg (by omega)]
  ·rw[if_neg d,Nat.zero_add];by_cases e:sC c g<=n
   ·rw[if_pos e,if_pos e,lenN_next g (n-sC c g),if_neg (by omega),Nat.zero_add]
   ·rw[if_neg e,if_neg e]
theorem cntC_eq(c:Nat->Nat):∀g n,cntC c g n=if sC c g<=n then lenN g (n-sC c g)else 0
 | 0,n=>by
  show(ku n 0).countP (okC c 0)=if 0<=n then lenN 0 n else 0
  rw[if_pos (zero_le _)];unfold lenN;exact List.countP_eq_length.mpr fun _ _=>rfl
 |g+1,n=>by
  have e:cntC c (g+1) n=cntT c g (c (g+1)) n:=by
   unfold cntC cntT;congr 1
   funext h
   exact okC_next c g h
  rw[e,cntT_shift];show _=if sC c g+c (g+1)*(g+1)<=n then lenN (g+1) (n-(sC c g+c (g+1)*(g+1)))else 0
  by_cases d:c (g+1)*(g+1)<=n
  ·rw[if_pos d,cntT_zero (cntC_eq c g)];by_cases f:sC c g<=n-c (g+1)*(g+1)
   ·rw[if_pos f,if_pos (by omega)];congr 1;omega
   ·rw[if_neg f,if_neg (by omega)]
  ·rw[if_neg d,if_neg (by omega)]
theorem sC_cons{J:List Int}{a:Int}(h0:1<=a):∀g,sC (fun x=>(a::J).count (x:Int)) g=sC (fun x=>J.count (x:Int)) g+if a<=(g:Int)then a.toNat else 0
 | 0=>by rw[if_neg (by omega)];rfl
 |g+1=>by
  show sC _ g+List.count ((g+1:Nat):Int) (a::J)*(g+1)=sC _ g+List.count ((g+1:Nat):Int) J*(g+1)+_;rw[sC_cons h0 g];by_cases e:a=((g+1:Nat):Int)
  ·subst e;rw[List.count_cons_self,if_neg (by omega),if_pos (Int.le_refl _),Nat.add_mul,Nat.one_mul,toNat_natCast];omega
  ·rw[List.count_cons_of_ne (by omega)];by_cases f:a<=(g:Int)
   ·rw[if_pos f,if_pos (by omega)];omega
   ·rw[if_neg f,if_neg (by omega)];omega
theorem sC_sum(g:Nat):∀{J:List Int},(∀x∈J,1<=x/\x<=(g:Int))->((sC (fun x=>J.count (x:Int)) g:Nat):Int)=J.sum
 | [],_=>by
  have e:∀g,sC (fun x=>([]:List Int).count (x:Int)) g=0:=fun g=>by
   induction g with
   |zero=>rfl
   |succ g ih =>
    show sC _ g+List.count _ []*(g+1)=0;rw[ih,List.count_nil,Nat.zero_mul]
  rw[e];rfl
 |a::J,h=>by
  have ha:=h a mem_cons_self;rw[sC_cons ha.1 g,if_pos ha.2,List.sum_cons,<-sC_sum g fun x hx=>h x (mem_cons_of_mem _ hx)];omega
theorem sum_ge{J:List Int}(h:∀x∈J,1<=x):0<=J.sum/\ ∀x∈J,x<=J.sum:=by
 induction J with
 |nil=>exact⟨Int.le_refl _,(fun _ h=>by cases h)⟩
 |cons a J ih =>
  have ha:=h a mem_cons_self;obtain⟨i1,i2⟩:=ih fun x hx=>h x (mem_cons_of_mem _ hx);rw[List.sum_cons];refine⟨by omega,fun x hx=>?_⟩;rcases mem_cons.mp hx with rfl|hx
  ·omega
  ·have:=i2 x hx;omega
theorem lies_count{J:List Int}(h:∀x∈J,1<=x)(n:Nat):(ku n n).countP (lies J)=if J.sum<=(n:Int)then(ku (n-J.sum.toNat) (n-J.sum.toNat)).length else 0:=by
 by_cases hb:∀x∈J,x<=(n:Int)
 ·have e1:(ku n n).countP (lies J)=cntC (fun x=>J.count (x:Int)) n n:=by
   unfold cntC;apply List.countP_congr;intro hp _;unfold lies okC;rw[all_eq_true,all_eq_true];constructor
   ·intro z i _;refine decide_eq_true ?_;by_cases hm:((i+1:Nat):Int)∈J
    ·exact of_decide_eq_true (z _ hm)
    ·show List.count ((i+1:Nat):Int) J<=_;rw[count_eq_zero.mpr hm];exact zero_le _
   ·intro z x hx;have h1:=h x hx;have h2:=hb x hx;have:=z (x.toNat-1) (mem_range.mpr (by omega));have this:decide (List.count ((x.toNat-1+1:Nat):Int) J<=List.count ((x.toNat-1+1:Nat):Int) hp)=true:=this;rw[show x.toNat-1+1=x.toNat by omega,Int.toNat_of_nonneg (by omega)]at this;exact this
  have es:=sC_sum n (J:=J) fun x hx=>⟨h x hx,hb x hx⟩;rw[e1,cntC_eq];by_cases d:J.sum<=(n:Int)
  ·have e2:J.sum.toNat=sC (fun x=>J.count (x:Int)) n:=by omega
   rw[if_pos d,if_pos (by omega),<-e2];unfold lenN;rw[partN_over (n:=n-J.sum.toNat) (g:=n) (g':=n-J.sum.toNat) (by omega) (le_refl _)]
  ·rw[if_neg d,if_neg (by omega)]
 ·have hb':∃x,x∈J/\(n:Int)<x:=by
   refine Decidable.byContradiction fun z=>hb fun x hx=>?_;refine Decidable.byContradiction fun y=>z ⟨x,hx,by omega⟩
  obtain⟨x,hx,hlt⟩:=hb';have:=(sum_ge h).2 x hx;rw[if_neg (by omega)];apply List.countP_eq_zero.mpr;intro hp hh z;unfold lies at z;have zx:=of_decide_eq_true (all_eq_true.mp z x hx);have c0:hp.count x=0:=count_eq_zero.mpr fun hm=>by
   have:=partF_le _ _ _ hp hh x hm;omega
  have c1:0<J.count x:=List.count_pos_iff.mpr hx;omega
theorem lies_iff(J h:List Int):lies J h=true↔ ∀x,J.count x<=h.count x:=by
 unfold lies;rw[all_eq_true];constructor
 ·intro z x;by_cases hm:x∈J
  ·exact of_decide_eq_true (z x hm)
  ·rw[count_eq_zero.mpr hm];exact zero_le _
 ·intro z x _;exact decide_eq_true (z x)
theorem lies_join{ls:List (List Int)}{J:List Int}(h:IsJoin ls J)(hp:List Int):lies J hp=ls.all fun l=>lies l hp:=by
 rw[Bool.eq_iff_iff,lies_iff,all_eq_true];constructor
 ·intro z l hl;rw[lies_iff];intro x;have:=z x;rw[h.2 x]at this;exact le_trans (le_maxC hl) this
 ·intro z x;rw[h.2 x];exact maxC_le fun l hl=>(lies_iff l hp).mp (z l hl) x
def bI(b:Bool):Int:=if b=true then 1 else 0
theorem sgn_snoc(c:List Int)(x:Int):sgnG (c++[x])= - sgnG c:=by
 unfold sgnG;rw[length_append,List.length_singleton];by_cases h:c.length%2=0
 ·rw[if_pos h,if_neg (by omega)]
 ·rw[if_neg h,if_pos (by omega)];rfl
theorem sum_neg(L:List (List Int))(f:List Int->Int):(L.map fun c=>- f c).sum= - (L.map f).sum:=by
 induction L with
 |nil=>rfl
 |cons a L ih =>
  rw[map_cons,map_cons,List.sum_cons,List.sum_cons,ih];omega
theorem jZ(b:Int->Bool):∀(k:Nat),((chG (upto k)).map fun c=>sgnG c*bI (c.all b)).sum=bI ((upto k).all fun x=>!b x)
 | 0=>rfl
 |k+1=>by
  rw[upto_succ,chG_snoc,map_append,List.sum_append,map_map,List.all_append,jZ b k];have e:((fun c=>sgnG c*bI (c.all b))∘fun x=>x++[(k:Int)])=fun c=>- (sgnG c*bI (c.all b&&b (k:Int))):=by
   funext c
   show sgnG (c++[(k:Int)])*bI ((c++[(k:Int)]).all b)=_;rw[sgn_snoc,List.all_append,Int.neg_mul];simp
  rw[e,sum_neg];cases hb:b (k:Int)with
  |true =>
   have e2:(fun c:List Int=>sgnG c*bI (c.all b&&true))=fun c=>sgnG c*bI (c.all b):=by
    funext c
    rw[Bool.and_true]
   rw[e2,jZ b k];simp[hb,bI];omega
  |false =>
   have e2:∀L:List (List Int),(L.map fun c:List Int=>sgnG c*bI (c.all b&&false)).sum=0:=fun L=>by
    induction L with
    |nil=>rfl
    |cons a L ih =>
     rw[map_cons,List.sum_cons,ih,Bool.and_false];show sgnG a*0+0=0;rw[Int.mul_zero];rfl
   rw[e2];simp[hb]
theorem first_isNone(rule:List (List Int))(h:List Int):(zB rule h).isNone=(upto rule.length).all fun x=>!lies (rule.getD x.toNat []) h:=by
 unfold zB idxG idxP;rw[List.head?_map,Option.isNone_map,upto,all_map];rw[Bool.eq_iff_iff,Option.isNone_iff_eq_none,List.head?_eq_none_iff,List.filter_eq_nil_iff,all_eq_true];constructor
 ·intro z i hi;have:=z i hi;show(!lies (rule.getD ((i:Nat):Int).toNat []) h)=true;rw[toNat_natCast];simpa using this
 ·intro z i hi;have:(!lies (rule.getD ((i:Nat):Int).toNat []) h)=true:=z i hi;rw[toNat_natCast]at this;simpa using this
theorem sum_swap(L:List (List Int))(f:List Int->Bool)(g:List Int->List Int->Int)(hg:∀h,(L.map fun c=>g c h).sum=bI (f h)):∀P:List (List Int),(((P.filter f).length:Nat):Int)=(L.map fun c=>(P.map (g c)).sum).sum
 | []=>by
  have:∀L:List (List Int),(L.map fun c=>(([]:List (List Int)).map (g c)).sum).sum=0:=fun L=>by
   induction L with
   |nil=>rfl
   |cons a L ih=>rw[map_cons,List.sum_cons,ih];rfl
  rw[this];rfl
 |h::P=>by
  have e:∀L:List (List Int),(L.map fun c=>((h::P).map (g c)).sum).sum=(L.map fun c=>g c h).sum+(L.map fun c=>(P.map (g c)).sum).sum:=fun L=>by
   induction L with
   |nil=>rfl
   |cons a L ih =>
    rw[map_cons,map_cons,map_cons,List.sum_cons,List.sum_cons,List.sum_cons,ih,map_cons,List.sum_cons];omega
  rw[e,hg,<-sum_swap L f g hg P,filter_cons];cases hf:f h with
  |true =>
   rw[if_pos rfl,length_cons];show _=1+_;omega
  |false =>
   rw[if_neg (by decide)];show _=0+_;omega
theorem sum_count(P:List (List Int))(s:Int)(f:List Int->Bool):(P.map fun h=>s*bI (f h)).sum=s*((P.countP f:Nat):Int):=by
 induction P with
 |nil=>simp
 |cons a P ih =>
  rw[map_cons,List.sum_cons,ih,List.countP_cons];cases hf:f a with
  |true =>
   rw[if_pos rfl];show s*1+_=s*(((P.countP f+1:Nat)):Int);rw[Int.natCast_add,Int.mul_add,Int.add_comm];rfl
  |false =>
   rw[if_neg (by decide)];show s*0+_=_;rw[Int.mul_zero,Int.zero_add,Nat.add_zero]
theorem kept_signed{rule:List (List Int)}(hp:∀h∈rule,∀x∈h,1<=x)(jn:List Int->List Int)(hj:∀c∈chG (upto rule.length),IsJoin (zI rule c) (jn c)){n:Nat}(hn:n<26) :
  (((zJ rule n).length:Nat):Int)=((chG (upto rule.length)).map fun c=>sgnG c*(if(jn c).sum<=(n:Int)then(((yE 26 (n-(jn c).sum.toNat) (n-(jn c).sum.toNat)).length:Nat):Int)else 0)).sum:=by
 unfold zJ;rw[sum_swap (chG (upto rule.length)) _ (fun c h=>sgnG c*bI (c.all fun x=>lies (rule.getD x.toNat []) h)) (fun h=>by rw[jZ,first_isNone])];congr 1;apply map_congr_left;intro c hc;rw[sum_count];congr 1;have hJ:=hj c hc;have hJ1:∀x∈jn c,1<=x:=fun x hx=>by
  have h1:0<(jn c).count x:=List.count_pos_iff.mpr hx;rw[hJ.2 x]at h1;refine Decidable.byContradiction fun hx1=>?_;have:maxC (zI rule c) x<=0:=maxC_le fun l hl=>by
   obtain⟨j,_,rfl⟩:=mem_map.mp hl;have e:(rule.getD j.toNat []).count x=0:=count_eq_zero.mpr fun hm=>by
    by_cases hjl:j.toNat<rule.length
    ·rw[getD_eq_getElem?_getD,getElem?_eq_getElem hjl]at hm;exact hx1 (hp _ (getElem_mem hjl) x hm)
    ·rw[getD_eq_getElem?_getD,List.getElem?_eq_none (by omega)]at hm;cases hm
   omega
  omega
 have e1:(yE 26 n n).countP (fun h=>c.all fun x=>lies (rule.getD x.toNat []) h)=(ku n n).countP (lies (jn c)):=by
  rw[partF_fuel 26 (n+1) n n hn (by omega)];apply List.countP_congr;intro h _;rw[lies_join hJ h];unfold zI;rw[all_map];exact Iff.rfl
 rw[e1,lies_count hJ1];by_cases d:(jn c).sum<=(n:Int)
 ·rw[if_pos d,if_pos d];unfold ku;rw[partF_fuel 26 (n-(jn c).sum.toNat+1) _ _ (by omega) (by omega)]
 ·rw[if_neg d,if_neg d];rfl
end L2
namespace L2
theorem map_ext{L:List (List Int)}{f g:List Int->Int}(h:∀c∈L,f c=g c):(L.map f).sum=(L.map g).sum:=by rw[map_congr_left h]
theorem ex_unlike:∀L:List Int,∃us:List Int,us.Pairwise (· > ·)/\ ∀y,y∈us↔y∈L
 | []=>⟨[],.nil,fun _=>Iff.rfl⟩
 |x::L=>by
  obtain⟨us,h1,h2⟩:=ex_unlike L;by_cases hx:x∈us
  ·refine⟨us,h1,fun y=>?_⟩;rw[mem_cons,<-h2 y];exact⟨.inr,fun h=>h.elim (fun e=>e▸hx) id⟩
  ·refine⟨us.filter (fun y=>decide (x<y))++x::us.filter (fun y=>decide (y<x)),?_,fun y=>?_⟩
   ·refine List.pairwise_append.mpr ⟨h1.sublist List.filter_sublist,pairwise_cons.mpr ⟨fun y hy=>?_,h1.sublist List.filter_sublist⟩,fun a ha b hb=>?_⟩
    ·exact of_decide_eq_true (mem_filter.mp hy).2
    ·have ha':x<a:=of_decide_eq_true (mem_filter.mp ha).2;rcases mem_cons.mp hb with rfl|hb
     ·exact ha'
     ·have hb':b<x:=of_decide_eq_true (mem_filter.mp hb).2;show b<a;omega
   ·rw[mem_append,mem_cons,mem_filter,mem_filter,mem_cons,<-h2 y];constructor
    ·rintro(h|h|h)
     ·exact .inr h.1
     ·exact .inl h
     ·exact .inr h.1
    ·rintro(h|h)
     ·exact .inr (.inl h)
     ·rcases Int.lt_trichotomy x y with z|z|z
      ·exact .inl ⟨h,decide_eq_true z⟩
      ·exact .inr (.inl z.symm)
      ·exact .inr (.inr ⟨h,decide_eq_true z⟩)
theorem ex_join(ls:List (List Int)):∃ms,IsJoin ls ms:=by
 obtain⟨us,h1,h2⟩:=ex_unlike ls.flatten;exact⟨_,blow_join (h1.imp fun h=>Int.ne_of_gt h) (h1.imp fun h=>le_of_lt h) h2⟩
noncomputable def yc(ls:List (List Int)):List Int:=Classical.choose (ex_join ls)
theorem jq(ls:List (List Int)):IsJoin ls (yc ls):=Classical.choose_spec (ex_join ls)
theorem joinX_eq{ls:List (List Int)}{ms:List Int}(h:IsJoin ls ms):yc ls=ms:=(jq ls).uniq h
noncomputable def ki(rule:List (List Int))(W0:Nat->Int)(n:Nat)(cs:List (List Int)):Int:=(cs.map fun c=>sgnG c*if (yc (zI rule c)).sum<=(n:Int)then W0 (n-(yc (zI rule c)).sum.toNat)else 0).sum
theorem sum_rep(k:Nat)(v:Int):(replicate k v).sum=k*v:=by
 induction k with
 |zero=>simp
 |succ k ih=>rw[List.replicate_succ,List.sum_cons,ih,Int.natCast_add,Int.add_mul];simp;omega
theorem perm_sum{a b:List Int}(h:a.Perm b):a.sum=b.sum:=by
 induction h with
 |nil=>rfl
 |cons x _ ih=>rw[List.sum_cons,List.sum_cons,ih]
 |swap x y l=>simp only[List.sum_cons];omega
 |trans _ _ i1 i2=>rw[i1,i2]
end L2
namespace L2
open PySem PySem.Spec PyProof.Rows
structure SeenU(H0 H:Hp)(d:Addr)(L:List Int):Prop where
 ex:∃(kvs:List (Key×V))(ns:List Int),H d=some (.dK kvs)/\kvs.map (·.1)=ns.map Sum.inl/\ns.Nodup/\ns.length<=L.length/\ ∀x,x∈ns↔x∈L
 sm:∀b o,H0 b=some o->H b=some o
 nw:H0 d=none
theorem SeenU.put{H0 H:Hp}{d:Addr}{L:List Int}{z:Int}(h:SeenU H0 H d L)(hl:L.length<1000):∃H',DPut H d (.int z) (.bl true) H'/\SeenU H0 H' d (L++[z]):=by
 obtain⟨⟨kvs,ns,hd,hk,hnd,hn,hm⟩,sm,nw⟩:=h;have hlen:kvs.length=ns.length:=by
  have:=congrArg length hk;simpa using this
 refine⟨upd H d (.dK (putK kvs (Sum.inl z) (.bl true))),DPut.k (k:=Sum.inl z) hd (lt_of_lt_of_le (show kvs.length<1000 by omega) (by decide)),⟨?_,fun b o e=>by rw[zh (zo e nw)];exact sm b o e,nw⟩⟩;cases e:valV kvs (Sum.inl z)with
 |none =>
  have hz:z∉ns:=fun hz=>valV_not e (by rw[hk];exact mem_map.mpr ⟨z,hz,rfl⟩);refine⟨_,ns++[z],z6,by rw[putK_new _ e,map_append,hk,map_append];rfl,?_,by simp;omega,fun x=>by simp[hm]⟩;refine List.nodup_append.mpr ⟨hnd,by simp,fun a ha b hb e=>?_⟩;have:b=z:=by simpa using hb
  exact hz (by rw[<-this,<-e];exact ha)
 |some v =>
  have hin:=valV_in e;rw[hk]at hin;have hz:z∈ns:=by
   obtain⟨y,hy,e2⟩:=mem_map.mp hin;have:y=z:=Sum.inl.inj e2;rw[<-this];exact hy
  refine⟨_,ns,z6,?_,hnd,by simp;omega,fun x=>?_⟩
  ·have:(putK kvs (Sum.inl z) (V.bl true)).map (·.1)=kvs.map (·.1):=putK_keys e;rw[this,hk]
  ·rw[mem_append,<-hm];exact⟨Or.inl,fun h=>h.elim id fun h=>by rw[show x=z by simpa using h];exact hz⟩
theorem nodup_len:∀{a b:List Int},a.Nodup->(∀x∈a,x∈b)->a.length<=b.length
 | [],_,_,_=>zero_le _
 |x::a,b,hn,h=>by
  obtain⟨h1,h2⟩:=nodup_cons.mp hn;have hx:=h x mem_cons_self;have:=nodup_len (b:=b.erase x) h2 fun y hy=>by
   have hne:y≠x:=fun e=>h1 (by rw[<-e];exact hy);exact(List.mem_erase_of_ne hne).mpr (h y (mem_cons_of_mem _ hy))
  rw[List.length_erase_of_mem hx]at this;have:0<b.length:=List.length_pos_of_mem hx;rw[length_cons];omega
def RuleJ(rule:List (List Int)):Prop:=(∃D:List Int,D.length<64/\ ∀h∈rule,∀x∈h,x∈D)/\(∀h∈rule,h.length<=100)/\ ∀h∈rule,∀x∈h,1<=x
theorem pick_mem{rule:List (List Int)}{ch:List Int}{l:List Int}(h:l∈zI rule ch):l∈rule\/l=[]:=by
 obtain⟨j,_,rfl⟩:=mem_map.mp h;by_cases hj:j.toNat<rule.length
 ·left;rw[getD_eq_getElem?_getD,getElem?_eq_getElem hj];exact getElem_mem hj
 ·right;rw[getD_eq_getElem?_getD,List.getElem?_eq_none (by omega)];rfl
theorem RuleJ.pick{rule:List (List Int)}(h:RuleJ rule){ch:List Int}(hc:ch.length<=6):(∃D:List Int,D.length<64/\ ∀x∈(zI rule ch).flatten,x∈D)/\(zI rule ch).flatten.length<1000:=by
 obtain⟨⟨D,hD,hm⟩,hl,_⟩:=h;refine⟨⟨D,hD,fun x hx=>?_⟩,?_⟩
 ·obtain⟨l,hl,hx⟩:=List.mem_flatten.mp hx;rcases pick_mem hl with h|h
  ·exact hm l h x hx
  ·rw[h]at hx;cases hx
 ·have:(zI rule ch).flatten.length<=100*(zI rule ch).length:=flat_le fun l hl'=>by
   rcases pick_mem hl' with h|h
   ·exact hl l h
   ·rw[h];exact zero_le _
  have e:(zI rule ch).length=ch.length:=by unfold zI;rw[length_map]
  omega
def wayF(m j:Nat):Int:=(wayR m).reverse.getD j 0
theorem signedX_snoc(rule:List (List Int))(W0:Nat->Int)(n:Nat)(cs:List (List Int))(c:List Int):ki rule W0 n (cs++[c])=ki rule W0 n cs+sgnG c*if (yc (zI rule c)).sum<=(n:Int)then W0 (n-(yc (zI rule c)).sum.toNat)else 0:=by
 unfold ki;rw[map_append,List.sum_append];simp
theorem joinX_nonneg{rule:List (List Int)}(h:RuleJ rule)(ch:List Int):0<=(yc (zI rule ch)).sum:=by
 refine(sum_ge fun x hx=>?_).1;have hj:=jq (zI rule ch);have h1:0<(yc (zI rule ch)).count x:=List.count_pos_iff.mpr hx;rw[hj.2 x]at h1;refine Decidable.byContradiction fun hx1=>?_;have:maxC (zI rule ch) x<=0:=maxC_le fun l hl=>by
  have e:l.count x=0:=count_eq_zero.mpr fun hm=>by
   rcases pick_mem hl with z|z
   ·exact hx1 (h.2.2 l z x hm)
   ·rw[z]at hm;cases hm
  omega
 omega
theorem kept_way{rule:List (List Int)}(hp:∀h∈rule,∀x∈h,1<=x){n:Nat}(hn:n<=24):(((zJ rule n).length:Nat):Int)=ki rule (wayF n) n (chG (upto rule.length)):=by
 rw[kept_signed hp (fun c=>yc (zI rule c)) (fun c _=>jq _) (show n<26 by omega)];unfold ki;refine map_ext fun c _=>?_;congr 1;by_cases d:(yc (zI rule c)).sum<=(n:Int)
 ·rw[if_pos d,if_pos d];generalize(yc (zI rule c)).sum.toNat=a;have h12:=part12_all (n-a) (by omega);unfold y6 at h12;simp only[and_eq_true,beq_iff_eq]at h12;rw[h12.1.1,coin_way (by omega) (le_refl _)];unfold wayF;have:=wayR_pre (n-a) (n-(n-a)) (n-a) (le_refl _);rw[show n-a+(n-(n-a))=n by omega]at this;exact this.symm
 ·rw[if_neg d,if_neg d]
theorem signedX_eq{rule:List (List Int)}{W0 W':Nat->Int}{n:Nat}(h:∀j,j<=n->W0 j=W' j)(cs:List (List Int)):ki rule W0 n cs=ki rule W' n cs:=by
 unfold ki;refine map_ext fun c _=>?_;rw[h _ (Nat.sub_le _ _)]
theorem way_all{n j:Nat}(hn:n<=400)(hj:j<=n):wayF n j=(yv n n).getD j 0:=by
 rw[coin_way hn hj];unfold wayF;have:=wayR_pre j (n-j) j (le_refl _);rw[show j+(n-j)=n by omega]at this;exact this
open PySem.Builtin.Str (occurrences subAt)
theorem yC(i j:Str):(i++j).length=i.length+j.length:=by
 show(i.cps++j.cps).size=_;simp;rfl
end L2
namespace L2
open PySem PySem.Spec PyProof.Rows
theorem Same.updN{H H':Hp}{p:Addr}{o:HO}(s:Same H H')(h:H p=none):Same H (upd H' p o):=fun b u e=>by rw[zh (zo e h)];exact s b u e
abbrev Lane:=Nat×Nat
def laneT(l:Lane)(v:Nat):Nat:=v*(l.2 / Nat.gcd l.1 l.2)
abbrev natV(n:Nat):V:=V.int (n:Int)
def timesOf(z:Lane×Nat):Nat:=laneT z.1 z.2
def sumT(ls:List Lane)(row:List Nat):Nat:=((ls.zip row).map timesOf).sum
theorem nat_at{ns:List Nat}{i:Nat}{x:V}(h:(ns.map natV)[i]? =some x):∃z,ns[i]? =some z/\x= .int (z:Int):=by
 rw[getElem?_map]at h;cases e:ns[i]? with
 |none=>rw[e]at h;cases h
 |some z=>rw[e]at h;exact⟨z,rfl,(Option.some.inj h).symm⟩
theorem comp_map1L{K:W.Frag}{i:Nat}{a:Addr}{xs:List V}{nm:Str}{fr:List (Str×Nat)}{te:TE}{σ:St}{H:Hp}{Q:VK}{β:Type}(R:β->V->Hp->Prop)(bs:List β)(tl:St)(hb:bs.length=xs.length)(hle:xs.length<=sizeLine)(mono:∀b v H H',Same H H'->R b v H->R b v H')(htl:startC [nm] fr σ=none::tl)(hs:σ[i]? =some (some (.ref a)))(h:H a=some (.lst xs))(step:∀(j:Nat) (x:V) (b:β) (H':Hp) (P:VK),xs[j]? =some x->bs[j]? =some b->Same H H'->(∀v H'',Same H' H''->R b v H''->P v H'')->te (some x::tl) H' P)(hd:∀zs H' p,Same H H'->All2 R H' bs zs->H' p=none->Q (.ref p) (upd H' p (.lst zs))):tComp (iList K (tVar i)) [nm] fr (jL 0) tYes te σ H Q:=by
 refine⟨_,hs,a,rfl,⟨_,SqL.of h⟩,yY (xs:=xs) (fun j zs σ' H'=>Same H H'/\(∃v,σ'=v::tl)/\All2 R H' (bs.take j) zs/\j<=bs.length) ⟨Same.refl _,⟨_,htl⟩,.nil,zero_le _⟩ ?_ ?_ ?_⟩
 ·rintro j zs σ' H' hj ⟨s',_,a2,hj'⟩;refine⟨SqL.of (s' _ _ h),?_⟩;rw[<-a2.length,length_take];exact le_trans (Nat.min_le_right _ _) (by rw[hb];exact hle)
 ·rintro j x zs σ' H' hx ⟨s',⟨v,rfl⟩,a2,hj'⟩;have hj:j<bs.length:=by rw[hb];exact(List.getElem?_eq_some_iff.mp hx).1
  have hbj:bs[j]? =some bs[j]:=getElem?_eq_getElem hj;refine step j x bs[j] H' _ hx hbj s' fun v2 H2 s2 r2=>⟨s'.trans s2,⟨_,rfl⟩,?_,hj⟩;rw[take_succ,hbj];exact(a2.imp fun _ _ z=>mono _ _ _ _ s2 z).snoc r2
 ·rintro zs σ' H' ⟨s',_,a2,_⟩ p hp;rw[<-hb,take_length]at a2;exact hd zs H' p s' a2 hp
theorem comp_map1T{K:W.Frag}{i:Nat}{a:Addr}{xs:List V}{nm:Str}{fr:List (Str×Nat)}{te:TE}{σ:St}{H:Hp}{Q:VK}{β:Type}(R:β->V->Hp->Prop)(bs:List β)(tl:St)(hb:bs.length=xs.length)(hle:xs.length<=sizeLine)(mono:∀b v H H',Same H H'->R b v H->R b v H')(htl:startC [nm] fr σ=none::tl)(hs:σ[i]? =some (some (.ref a)))(h:H a=some (.tup xs))(step:∀(j:Nat) (x:V) (b:β) (H':Hp) (P:VK),xs[j]? =some x->bs[j]? =some b->Same H H'->(∀v H'',Same H' H''->R b v H''->P v H'')->te (some x::tl) H' P)(hd:∀zs H' p,Same H H'->All2 R H' bs zs->H' p=none->Q (.ref p) (upd H' p (.lst zs))):tComp (iTup K (tVar i)) [nm] fr (jL 0) tYes te σ H Q:=by
 refine⟨_,hs,a,rfl,⟨_,SqT.of h⟩,comp_tup (xs:=xs) (fun j zs σ' H'=>Same H H'/\(∃v,σ'=v::tl)/\All2 R H' (bs.take j) zs/\j<=bs.length) ⟨Same.refl _,⟨_,htl⟩,.nil,zero_le _⟩ ?_ ?_ ?_⟩
 ·rintro j zs σ' H' hj ⟨s',_,a2,hj'⟩;refine⟨SqT.of (s' _ _ h),?_⟩;rw[<-a2.length,length_take];exact le_trans (Nat.min_le_right _ _) (by rw[hb];exact hle)
 ·rintro j x zs σ' H' hx ⟨s',⟨v,rfl⟩,a2,hj'⟩;have hj:j<bs.length:=by rw[hb];exact(List.getElem?_eq_some_iff.mp hx).1
  have hbj:bs[j]? =some bs[j]:=getElem?_eq_getElem hj;refine step j x bs[j] H' _ hx hbj s' fun v2 H2 s2 r2=>⟨s'.trans s2,⟨_,rfl⟩,?_,hj⟩;rw[take_succ,hbj];exact(a2.imp fun _ _ z=>mono _ _ _ _ s2 z).snoc r2
 ·rintro zs σ' H' ⟨s',_,a2,_⟩ p hp;rw[<-hb,take_length]at a2;exact hd zs H' p s' a2 hp
theorem ints_of{H:Hp}:∀{bs:List Int}{zs:List V},All2 (fun(b:Int) v _=>v=V.int b) H bs zs->zs=bs.map V.int
 | _,_,.nil=>rfl
 | _,_,.cons h r=>by rw[map_cons,<-ints_of r,h]
theorem strs_of{H:Hp}:∀{bs:List Str}{zs:List V},All2 (fun(b:Str) v _=>v=V.str b) H bs zs->zs=bs.map V.str
 | _,_,.nil=>rfl
 | _,_,.cons h r=>by rw[map_cons,<-strs_of r,h]
theorem cut_some(xs:List V)(s:Nat):cutV xs none (some (s:Int))=xs.take (min s xs.length):=by
 unfold cutV;rw[HT.sIx_none,HT.sIx_nat,List.drop_zero,Nat.sub_zero]
end L2
namespace L2
open PySem PySem.Spec PyProof.Rows PySem.NumText
def numV(z:Str):Int:=((digitsVal z.cps.toList:Nat):Int)
def zM(z:Str):List Str:=Txt.split z (Str.ofString " ")
theorem words_weight(z:Str):((zM z).map (·.length)).sum+(zM z).length<=z.length+1:=PyProof.Rows.split_weight z _ (by decide)
theorem le_sum_len{l:List Str}{w:Str}(h:w∈l):w.length<=(l.map (·.length)).sum:=by
 induction l with
 |nil=>cases h
 |cons a r ih =>
  rw[map_cons,List.sum_cons];rcases mem_cons.mp h with rfl|h
  ·omega
  ·have:=ih h;omega
theorem word_len{z w:Str}(h:w∈zM z):w.length<=z.length:=by
 have h1:=words_weight z;have h2:=le_sum_len h;have h3:1<=(zM z).length:=List.length_pos_iff.mpr fun e=>by rw[e]at h;cases h
 omega
theorem isNum_iff(w:Str):jC w=true↔ ∃c r,w.cps.toList=c::r/\(c::r).length<=60/\c≠48/\ ∀d∈c::r,48<=d/\d<=57:=by
 unfold jC;cases h:w.cps.toList with
 |nil=>simp
 |cons c r =>
  simp only[and_eq_true,decide_eq_true_eq,all_eq_true];constructor
  ·rintro⟨⟨h1,h2⟩,h3⟩;exact⟨c,r,rfl,h1,h2,h3⟩
  ·rintro⟨c',r',e,h1,h2,h3⟩;cases e;exact⟨⟨h1,h2⟩,h3⟩
theorem fold_ge(cs:List Nat):∀a:Nat,a<=cs.foldl (fun acc c=>acc*10+(c-48)) a:=by
 induction cs with
 |nil=>exact fun a=>le_refl _
 |cons c r ih =>
  intro a;rw[List.foldl_cons];exact le_trans (by omega) (ih _)
theorem numV_pos{w:Str}(h:jC w=true):1<=numV w:=by
 obtain⟨c,r,e,_,h2,h3⟩:=(isNum_iff w).mp h;unfold numV digitsVal;rw[e,List.foldl_cons];have h4:=h3 c mem_cons_self;have:=fold_ge r (0*10+(c-48));omega
theorem num_reads{w:Str}(h:jC w=true):PySem.intText? w=some (numV w):=by
 obtain⟨c,r,e,h1,h2,h3⟩:=(isNum_iff w).mp h;refine intText_digits (fun d hd=>h3 d (by rw[<-e];exact hd)) (by rw[e];exact fun z=>by cases z) ?_;rw[yg,e];omega
def jp(z:Str):Option (List Int):=if z=none' then some []else
 if(zM z).length<=60/\(∀w∈zM z,jC w=true)/\((zM z).map numV).Pairwise (· >= ·)then some ((zM z).map numV)else none
theorem readN_none':jp none'=some []:=by unfold jp;rw[if_pos rfl]
theorem readN_no{z:Str}(h:z≠none')(h2:¬((zM z).length<=60/\(∀w∈zM z,jC w=true)/\((zM z).map numV).Pairwise (· >= ·))):jp z=none:=by
 unfold jp;rw[if_neg h,if_neg h2]
theorem readN_yes{z:Str}(h:z≠none')(h2:((zM z).length<=60/\(∀w∈zM z,jC w=true)/\((zM z).map numV).Pairwise (· >= ·))):jp z=some ((zM z).map numV):=by
 unfold jp;rw[if_neg h,if_pos h2]
theorem numV_numS{n:Int}(h:1<=n)(h2:n<10^60):numV (numS n)=n:=by
 have e1:=num_reads (numS_isNum h h2);rw[numS_reads (by omega) (Int.lt_trans h2 (by decide+kernel))]at e1;exact(Option.some.inj e1).symm
theorem kK{ns:List Int}(hh:IsHeap 60 (10^60) ns):jp (txt ns)=some ns:=by
 have hb1:∀x∈ns,1<=x:=fun x hx=>(hh.bd x hx).1;by_cases h0:ns=[]
 ·subst h0;exact readN_none'
 ·have e:(zM (txt ns)).map numV=ns:=by
   unfold zM;rw[txt_split h0 hb1,map_map]
   conv=>rhs;rw[<-List.map_id ns]
   exact map_congr_left fun x hx=>numV_numS (hb1 x hx) (hh.bd x hx).2
  have e2:=readN_yes (z:=txt ns) (fun z=>h0 ((txt_none hb1).mp z)) ⟨by
   unfold zM;rw[txt_split h0 hb1,length_map];exact hh.ln,fun w hw=>by
   unfold zM at hw;rw[txt_split h0 hb1]at hw;obtain⟨n,hn,rfl⟩:=mem_map.mp hw;exact numS_isNum (hb1 n hn) (hh.bd n hn).2,by rw[e];exact hh.pw⟩
  rw[e]at e2;exact e2
theorem atI_end{α:Type}{xs:List α}{x:α}(h:xs.getLast? =some x):atI xs (-1)=some x:=by
 have hne:xs≠[]:=fun e=>by rw[e]at h;cases h
 have hl:0<xs.length:=List.length_pos_iff.mpr hne;unfold atI ixN;rw[if_neg (by decide),if_pos (by omega)];show xs[(-1+(xs.length:Int)).toNat]? =some x;rw[show(-1+(xs.length:Int)).toNat=xs.length-1 by omega,<-List.getLast?_eq_getElem?,h]
def weight(ys:List Str):Nat:=(ys.map (·.length)).sum+ys.length
end L2
namespace L2
open PySem PySem.Spec PyProof.Rows
open PySem.StrLaws (At ChainG partsFrom)
open PySem.Builtin.Str (occurrences subAt)
def bar:Str:=Str.ofString " | "
theorem bar_cps:bar.cps.toList=[32,124,32]:=by decide+kernel
theorem kR:bar.length=3:=by decide
theorem ext_list(a:Array Nat)(i n:Nat):(a.extract i (i+n)).toList=(a.toList.drop i).take n:=by
 simp[List.extract,List.take_drop]
theorem at_bar{x:Str}{k:Nat}(h:At x bar x.length k):(x.cps.toList.drop k).take 3=[32,124,32]:=by
 have h2:=h.2;unfold subAt at h2;rw[kR]at h2;have h3:=congrArg Array.toList (eq_of_beq h2);rw[ext_list,bar_cps]at h3;exact h3
theorem bar_at{x:Str}{k:Nat}{r:List Nat}(h:x.cps.toList.drop k=[32,124,32]++r):At x bar x.length k:=by
 refine⟨?_,?_⟩
 ·have:=congrArg length h;rw[length_drop,length_append]at this;rw[kR,yg];have e:[32,124,32].length=3:=rfl;rw[e]at this;omega
 ·unfold subAt;rw[kR];refine beq_iff_eq.mpr (Array.ext' ?_);rw[ext_list,bar_cps,h];rfl
theorem at_mid{x:Str}{a k:Nat}{L:List Nat}(ha:x.cps.toList.drop a=L)(hk:a<=k)(h:At x bar x.length k):L[k-a+1]? =some 124/\L[k-a]? =some 32:=by
 have h1:=at_bar h;have e:x.cps.toList.drop k=L.drop (k-a):=by rw[<-ha,List.drop_drop];congr 1;omega
 rw[e]at h1;have h2:((L.drop (k-a)).take 3)[1]? =some 124:=by rw[h1];rfl
 have h3:((L.drop (k-a)).take 3)[0]? =some 32:=by rw[h1];rfl
 rw[List.getElem?_take_of_lt (by decide),List.getElem?_drop]at h2 h3;exact⟨h2,h3⟩
def joinB:List (List Nat)->List Nat
 | []=>[]
 | [w]=>w
 |w::w2::r=>w++([32,124,32]++joinB (w2::r))
theorem parts_join(x:Str):∀(ws:List Str)(a f:Nat)(cuts:List Nat),ws≠[]->(∀w∈ws,124∉w.cps.toList)->a<=x.length->x.cps.toList.drop a=joinB (ws.map fun w=>w.cps.toList)->ChainG x bar x.length a cuts f->(∀k,f<=k-> ¬At x bar x.length k)->partsFrom x 3 a cuts=ws
 | [],_,_,_,h,_,_,_,_,_=>absurd rfl h
 | [w],a,f,cuts,_,hw,hax,hd,hc,hn=>by
  have no:∀k,a<=k-> ¬At x bar x.length k:=fun k hk hA=>by
   have:=(at_mid hd hk hA).1;exact hw w (by simp) (mem_of_getElem? this)
  cases cuts with
  |cons c r=>exact absurd hc.2.1 (no c hc.1)
  |nil =>
   show [PySem.Builtin.Str.strSub x a x.length]=[w];congr 1;apply kB;rw[PySem.StrLaws.strSub_toList,hd];show w.cps.toList.take _=_;have hl:=congrArg length hd;rw[length_drop]at hl;exact take_of_length_le (by rw[yg];simp[joinB]at hl ⊢;omega)
 |w::w2::r,a,f,cuts,_,hw,hax,hd,hc,hn=>by
  have hd':x.cps.toList.drop a=w.cps.toList++([32,124,32]++joinB ((w2::r).map fun w=>w.cps.toList)):=hd;have hat:At x bar x.length (a+w.cps.toList.length):=by
   refine bar_at (r:=joinB ((w2::r).map fun w=>w.cps.toList)) ?_;rw[<-List.drop_drop,hd',List.drop_left]
  have no:∀k,a<=k->k<a+w.cps.toList.length-> ¬At x bar x.length k:=fun k hk hk2 hA=>by
   have h1:=(at_mid hd' hk hA).1;by_cases hlt:k-a+1<w.cps.toList.length
   ·rw[List.getElem?_append_left hlt]at h1;exact hw w (by simp) (mem_of_getElem? h1)
   ·rw[List.getElem?_append_right (by omega),show k-a+1-w.cps.toList.length=0 by omega]at h1;cases h1
  cases cuts with
  |nil =>
   have e:f=a:=hc;exact absurd hat (hn _ (by omega))
  |cons c cs =>
   obtain⟨h1,h2,h3,h4⟩:=hc;have ec:c=a+w.cps.toList.length:=by
    rcases Nat.lt_trichotomy c (a+w.cps.toList.length)with h|h|h
    ·exact absurd h2 (no c h1 h)
    ·exact h
    ·exact absurd hat (h3 _ (by omega) h)
   subst ec;have hd3:x.cps.toList.drop (a+w.cps.toList.length+3)=joinB ((w2::r).map fun w=>w.cps.toList):=by
    rw[Nat.add_assoc,<-List.drop_drop,hd',<-List.drop_drop,List.drop_left];rfl
   show PySem.Builtin.Str.strSub x a (a+w.cps.toList.length)::partsFrom x 3 (a+w.cps.toList.length+3) cs=w::w2::r;have h4':ChainG x bar x.length (a+w.cps.toList.length+3) cs f:=h4;rw[parts_join x (w2::r) _ f cs (by simp) (fun y hy=>hw y (mem_cons_of_mem _ hy)) (by have:=hat.1;rw[kR]at this;exact this) hd3 h4' hn];congr 1;apply kB;rw[PySem.StrLaws.strSub_toList,hd',Nat.add_sub_cancel_left,List.take_left]
theorem split_parts(x:Str):Txt.split x bar=partsFrom x 3 0 (occurrences x bar 0 x.length (x.length+1)):=by
 obtain⟨f,hG,hn⟩:=PySem.StrLaws.occ_tight x bar (by rw[kR];decide);have one:occurrences x bar 0 x.length (x.length+1)=[]->[x]=partsFrom x 3 0 (occurrences x bar 0 x.length (x.length+1)):=fun e=>by
  rw[e];show [x]=[PySem.Builtin.Str.strSub x 0 x.length];rw[PySem.StrLaws.sub_whole]
 unfold Txt.split;split
 ·rename_i hc;refine one ?_;cases e:occurrences x bar 0 x.length (x.length+1)with
  |nil=>rfl
  |cons c r =>
   rw[e]at hG;have h1:=hG.2.1.1;rw[kR]at h1;rw[Bool.or_eq_true,decide_eq_true_eq,decide_eq_true_eq]at hc;rcases hc with h|h
   ·rw[kR]at h;omega
   ·exfalso;have hb:PySem.Builtin.Str.strKind bar=1:=by decide+kernel
    rw[hb]at h;unfold PySem.Builtin.Str.strKind at h;split at h
    ·omega
    ·split at h <;>omega
 ·split
  ·rename_i he;exact one (List.isEmpty_iff.mp he)
  ·rw[PySem.StrLaws.partsBetween_eq,kR]
theorem join_bar(ws:List Str):(Txt.join bar ws).cps.toList=joinB (ws.map fun w=>w.cps.toList):=by
 rw[show Txt.join bar ws=Str.join bar ws from StrLaws.glued_eq_join _ _]
 induction ws with
 |nil=>rfl
 |cons w r ih =>
  cases r with
  |nil=>rfl
  |cons w2 r =>
   show(w++bar++Str.join bar (w2::r)).cps.toList=_;show((w.cps++bar.cps)++(Str.join bar (w2::r)).cps).toList=_;rw[Array.toList_append,Array.toList_append,ih,bar_cps,append_assoc];rfl
theorem split_bar{ws:List Str}(h0:ws≠[])(h:∀w∈ws,124∉w.cps.toList):Txt.split (Txt.join bar ws) bar=ws:=by
 obtain⟨f,hG,hn⟩:=PySem.StrLaws.occ_tight (Txt.join bar ws) bar (by rw[kR];decide);rw[split_parts];exact parts_join _ ws 0 f _ h0 h (zero_le _) (by rw[List.drop_zero,join_bar]) hG hn
def kT:Str:=Str.ofString "no heaps"
def rtxt(rs:List (List Int)):Str:=if rs=[]then kT else Txt.join bar (rs.map txt)
def jb(z:Str):List Str:=Txt.split z bar
theorem rows_weight(z:Str):weight (jb z)<=z.length+1:=PyProof.Rows.split_weight z _ (by rw[kR];decide)
theorem row_len{z w:Str}(h:w∈jb z):w.length<=z.length:=by
 have h1:=rows_weight z;have h2:=le_sum_len h;have h3:1<=(jb z).length:=List.length_pos_iff.mpr fun e=>by rw[e]at h;cases h
 unfold weight at h1;omega
def readR(z:Str):Option (List (List Int)):=if z=kT then some []else
 if(jb z).length<=6/\(∀w∈jb z,(jp w).isSome=true)then some ((jb z).map fun w=>(jp w).getD [])else none
theorem readR_none':readR kT=some []:=by unfold readR;rw[if_pos rfl]
theorem readR_no{z:Str}(h:z≠kT)(h2:¬((jb z).length<=6/\(∀w∈jb z,(jp w).isSome=true))):readR z=none:=by
 unfold readR;rw[if_neg h,if_neg h2]
theorem readR_yes{z:Str}(h:z≠kT)(h2:(jb z).length<=6/\(∀w∈jb z,(jp w).isSome=true)):readR z=some ((jb z).map fun w=>(jp w).getD []):=by
 unfold readR;rw[if_neg h,if_pos h2]
theorem mem_joinC{c d:Nat}:∀{ws:List (List Nat)},d∈ko c ws->d=c\/ ∃w∈ws,d∈w
 | [],h=>by simp[ko]at h
 | [w],h=>.inr ⟨w,by simp,by simpa [ko]using h⟩
 |w::w2::r,h=>by
  have h':d∈w++c::ko c (w2::r):=h;rcases mem_append.mp h' with h|h
  ·exact .inr ⟨w,by simp,h⟩
  ·rcases mem_cons.mp h with h|h
   ·exact .inl h
   ·rcases mem_joinC h with h|⟨y,hy,h⟩
    ·exact .inl h
    ·exact .inr ⟨y,mem_cons_of_mem _ hy,h⟩
theorem txt_nobar{ns:List Int}(hb:∀x∈ns,1<=x):124∉(txt ns).cps.toList:=fun h=>by
 unfold txt at h;split at h
 ·rw[none_cps]at h;revert h;decide
 ·have e1:Txt.join (Str.ofString " ") (ns.map numS)=Str.join ⟨#[32]⟩ (ns.map numS):=by rw[jY];exact StrLaws.glued_eq_join _ _
  rw[e1,join_cps]at h;rcases mem_joinC h with h|⟨w,hw,h⟩
  ·cases h
  ·obtain⟨y,hy,rfl⟩:=mem_map.mp hw;obtain⟨n,hn,rfl⟩:=mem_map.mp hy;have:=kq (n:=n) (by have:=hb n hn;omega) 124 h;omega
theorem read_noHeaps:jp kT=none:=by decide+kernel
theorem rows_rtxt{rs:List (List Int)}(h0:rs≠[])(hb:∀r∈rs,IsHeap 60 (10^60) r):jb (rtxt rs)=rs.map txt:=by
 unfold jb rtxt;rw[if_neg h0];refine split_bar (by simpa using h0) fun w hw=>?_;obtain⟨r,hr,rfl⟩:=mem_map.mp hw;exact txt_nobar fun x hx=>((hb r hr).bd x hx).1
theorem rtxt_none{rs:List (List Int)}(h0:rs≠[])(hb:∀r∈rs,IsHeap 60 (10^60) r):rtxt rs≠kT:=fun e=>by
 have h1:=rows_rtxt h0 hb;rw[e]at h1;have h2:jb kT=[kT]:=by decide+kernel
 rw[h2]at h1;cases rs with
 |nil=>exact h0 rfl
 |cons r rs' =>
  simp only[map_cons,List.cons.injEq]at h1;have h3:=kK (hb r (by simp));rw[<-h1.1,read_noHeaps]at h3;cases h3
theorem readR_rtxt{rs:List (List Int)}(h6:rs.length<=6)(hb:∀r∈rs,IsHeap 60 (10^60) r):readR (rtxt rs)=some rs:=by
 by_cases h0:rs=[]
 ·subst h0;exact readR_none'
 ·rw[readR_yes (rtxt_none h0 hb) ?_,rows_rtxt h0 hb,map_map]
  ·congr 1
   conv=>rhs;rw[<-List.map_id rs]
   exact map_congr_left fun r hr=>by
    show(jp (txt r)).getD []=r;rw[kK (hb r hr)];rfl
  ·rw[rows_rtxt h0 hb];refine⟨by rw[length_map];exact h6,fun w hw=>?_⟩;obtain⟨r,hr,rfl⟩:=mem_map.mp hw;rw[kK (hb r hr)];rfl
theorem joinL_len(sep:Str)(ys:List Str):(Txt.join sep ys).length<=(ys.map (·.length)).sum+ys.length*sep.length:=by
 rw[show Txt.join sep ys=Str.join sep ys from StrLaws.glued_eq_join _ _];exact StrLaws.join_length_le sep ys
theorem jX{ys:List Str}{n:Nat}(h:∀y∈ys,y.length<=n):(ys.map (·.length)).sum<=ys.length*n:=by
 induction ys with
 |nil=>exact zero_le _
 |cons a r ih =>
  rw[map_cons,List.sum_cons,length_cons,Nat.add_mul,Nat.one_mul];have h1:=ih fun y hy=>h y (mem_cons_of_mem _ hy);have h2:=h a mem_cons_self;omega
theorem compK_mapL{K:W.Frag}{a:Addr}{xs:List V}{te:TE}{σ0:St}{H:Hp}{Q:VK}{β:Type}(R:β->V->Hp->Prop)(bs:List β)(tl:St)(hb:bs.length=xs.length)(hle:xs.length<=sizeLine)(mono:∀b v H H',Same H H'->R b v H->R b v H')(htl:σ0=none::tl)(h:H a=some (.lst xs))(step:∀(j:Nat) (x:V) (b:β) (H':Hp) (P:VK),xs[j]? =some x->bs[j]? =some b->Same H H'->(∀v H'',Same H' H''->R b v H''->P v H'')->te (some x::tl) H' P)(hd:∀zs H' p,Same H H'->All2 R H' bs zs->H' p=none->Q (.ref p) (upd H' p (.lst zs))):tCompK (jL 0) tYes te σ0 (Itl K a) H Q:=by
 refine yY (xs:=xs) (fun j zs σ' H'=>Same H H'/\(∃v,σ'=v::tl)/\All2 R H' (bs.take j) zs/\j<=bs.length) ⟨Same.refl _,⟨_,htl⟩,.nil,zero_le _⟩ ?_ ?_ ?_
 ·rintro j zs σ' H' hj ⟨s',_,a2,hj'⟩;refine⟨SqL.of (s' _ _ h),?_⟩;rw[<-a2.length,length_take];exact le_trans (Nat.min_le_right _ _) (by rw[hb];exact hle)
 ·rintro j x zs σ' H' hx ⟨s',⟨v,rfl⟩,a2,hj'⟩;have hj:j<bs.length:=by rw[hb];exact(List.getElem?_eq_some_iff.mp hx).1
  have hbj:bs[j]? =some bs[j]:=getElem?_eq_getElem hj;refine step j x bs[j] H' _ hx hbj s' fun v2 H2 s2 r2=>⟨s'.trans s2,⟨_,rfl⟩,?_,hj⟩;rw[take_succ,hbj];exact(a2.imp fun _ _ z=>mono _ _ _ _ s2 z).snoc r2
 ·rintro zs σ' H' ⟨s',_,a2,_⟩ p hp;rw[<-hb,take_length]at a2;exact hd zs H' p s' a2 hp
end L2
namespace L2
open PySem PySem.Spec PyProof.Rows
theorem maxC_mem{ls:List (List Int)}{x:Int}(h:0<maxC ls x):∃l∈ls,x∈l:=by
 induction ls with
 |nil=>simp[maxC]at h
 |cons a r ih =>
  rw[maxC]at h;by_cases ha:0<a.count x
  ·exact⟨a,by simp,List.count_pos_iff.mp ha⟩
  ·obtain⟨l,hl,hx⟩:=ih (by omega);exact⟨l,mem_cons_of_mem _ hl,hx⟩
theorem join_mem{ls:List (List Int)}{x:Int}(h:x∈yc ls):∃l∈ls,x∈l:=by
 refine maxC_mem ?_;rw[<-(jq ls).2 x];exact List.count_pos_iff.mpr h
theorem sort_count(l:List Int)(x:Int):(jF l).count x=l.count x:=(yb l).count_eq x
theorem getD_map_nil{α:Type}(f:α->List Int)(rows:List α)(j:Nat):(rows.map f).getD j []=match rows[j]? with|some r=>f r|none=>[]:=by
 rw[getD_eq_getElem?_getD,getElem?_map];cases rows[j]? <;>rfl
theorem sum_cons(a:Lane)(ls:List Lane)(m:Nat)(row:List Nat):sumT (a::ls) (m::row)=laneT a m+sumT ls row:=rfl
theorem cut_head(xs:List V)(s:Nat):cutV xs none (some (s:Int))=xs.take s:=by
 rw[cut_some];rcases Nat.le_total s xs.length with h|h
 ·rw[Nat.min_eq_left h]
 ·rw[Nat.min_eq_right h,take_length,take_of_length_le h]
theorem cut_rest(xs:List V)(s:Nat):cutV xs (some (s:Int)) none=xs.drop s:=by
 rcases Nat.le_total s xs.length with h|h
 ·exact cut_from xs s h
 ·unfold cutV;rw[HT.sIx_nat,HT.sIx_none,Nat.min_eq_right h,List.drop_length,List.drop_of_length_le h];simp
structure SB(a₀:Array Keyed)(st:SortSt):Prop where
 perm:(arrOf st).Perm a₀
 kind:kindOf st=oneType'
 failed:failedOf st=none
theorem lies_counts{a b:List Int}(h:∀x,a.count x<=b.count x):lies a b=true:=all_eq_true.mpr fun x _=>decide_eq_true (h x)
def maxL(f:Nat->Nat):List Int->Nat
 | []=>0
 |j::c=>max (f j.toNat) (maxL f c)
theorem maxL_le{f:Nat->Nat}{B:Nat}(h:∀j,f j<=B):∀c,maxL f c<=B
 | []=>zero_le _
 |j::c=>by
  have:=h j.toNat;have:=maxL_le h c;rw[maxL];omega
theorem flat_count_none{α:Type}(f:α->List Int)(x:Int):∀ds:List α,(∀d∈ds,x∉f d)->(ds.flatMap f).count x=0:=fun ds h=>List.count_eq_zero_of_not_mem fun z=>by
 obtain⟨d,hd,hx⟩:=List.mem_flatMap.mp z;exact h d hd hx
theorem jB{α:Type}(f parts:α->List Int)(x:Int)(d0:α):∀ds:List α,(ds.flatMap parts).Nodup->(∀d∈ds,∀y∈f d,y∈parts d)->d0∈ds->x∈parts d0->(ds.flatMap f).count x=(f d0).count x
 | [],_,_,h,_=>by cases h
 |d::ds,hn,hp,hd,hx=>by
  rw[List.flatMap_cons]at hn;have hn2:=(List.nodup_append.mp hn).2.1;have hdj:=(List.nodup_append.mp hn).2.2;rw[List.flatMap_cons,List.count_append];rcases mem_cons.mp hd with e|hd
  ·subst e;rw[flat_count_none f x ds fun d' hd' hx'=>hdj x hx x (List.mem_flatMap.mpr ⟨d',hd',hp d' (mem_cons_of_mem _ hd') x hx'⟩) rfl];rfl
  ·have h0:(f d).count x=0:=List.count_eq_zero_of_not_mem fun z=>hdj x (hp d (by simp) x z) x (List.mem_flatMap.mpr ⟨d0,hd,hx⟩) rfl;rw[h0,Nat.zero_add];exact jB f parts x d0 ds hn2 (fun d' hd'=>hp d' (mem_cons_of_mem _ hd')) hd hx
theorem flat_sum{α:Type}(f:α->List Int):∀ds:List α,(ds.flatMap f).sum=(ds.map fun d=>(f d).sum).sum
 | []=>rfl
 |d::ds=>by rw[List.flatMap_cons,List.sum_append,flat_sum f ds,map_cons,List.sum_cons]
theorem cols_sum{α:Type}{ds:List α}{row:α->Nat->List Int}{lev:α->Nat->Nat}{parts:α->List Int}{A:List (List Int)}(hn:(ds.flatMap parts).Nodup)(hp:∀d∈ds,∀v,∀x∈row d v,x∈parts d)(hz:∀d∈ds,row d 0=[])(hl:∀d∈ds,∀j,lev d j<=2)(hm:∀d∈ds,∀v w x,v<=w->w<=2->(row d v).count x<=(row d w).count x)(hA:∀j x,(A.getD j []).count x=(ds.flatMap fun d=>row d (lev d j)).count x)(c:List Int):(yc (zI A c)).sum=(ds.map fun d=>(row d (maxL (lev d) c)).sum).sum:=by
 rw[<-flat_sum fun d=>row d (maxL (lev d) c)];refine perm_sum (List.perm_iff_count.mpr fun x=>?_);rw[(jq _).2];by_cases hx:∃d0∈ds,x∈parts d0
 ·obtain⟨d0,hd0,hx0⟩:=hx;rw[jB (fun d=>row d (maxL (lev d) c)) parts x d0 ds hn (fun d hd=>hp d hd _) hd0 hx0];unfold zI
  induction c with
  |nil =>
   show 0=(row d0 0).count x;rw[hz d0 hd0];rfl
  |cons j c ih =>
   rw[map_cons,maxC,ih,hA,jB (fun d=>row d (lev d j.toNat)) parts x d0 ds hn (fun d hd=>hp d hd _) hd0 hx0,maxL];have b1:=hl d0 hd0 j.toNat;have b2:=maxL_le (hl d0 hd0) c;rcases Nat.le_total (lev d0 j.toNat) (maxL (lev d0) c)with h|h
   ·rw[Nat.max_eq_right h];exact Nat.max_eq_right (hm d0 hd0 _ _ x h b2)
   ·rw[Nat.max_eq_left h];exact Nat.max_eq_left (hm d0 hd0 _ _ x h b1)
 ·have no:∀(g:α->Nat),(ds.flatMap fun d=>row d (g d)).count x=0:=fun g=>flat_count_none _ x ds fun d hd z=>hx ⟨d,hd,hp d hd _ x z⟩;rw[no fun d=>maxL (lev d) c];refine Nat.le_zero.mp (maxC_le fun l hl'=>?_);obtain⟨j,_,rfl⟩:=mem_map.mp hl';rw[hA,no fun d=>lev d j.toNat];exact le_refl _
structure LD where
 L:Nat
 R:Nat
 m:Nat
 k:Nat
 sp:Bool
 lev:List Nat
structure LD.Ok(d:LD):Prop where
 l1:1<=d.L
 l8:d.L<=8
 r1:1<=d.R
 r8:d.R<=8
 m8:d.m<=8
 k8:d.k<=8
 eq:d.L*d.m=d.R*d.k
 dv:d.sp=true->d.R*(d.L / d.R)=d.L/\d.R<d.L
 lv:∀v∈d.lev,v<=2
 mR:d.m<=d.R
 kL:d.k<=d.L
def LD.at(d:LD)(j:Nat):Nat:=d.lev.getD j 0
theorem LD.Ok.at{d:LD}(h:d.Ok)(j:Nat):d.at j<=2:=by
 unfold LD.at;rw[getD_eq_getElem?_getD];cases e:d.lev[j]? with
 |none=>exact zero_le _
 |some v=>exact h.lv v (mem_of_getElem? e)
def LD.cut(d:LD)(v:Nat):Nat:=if v=0 then 0 else if v=1 then 1 else 1+d.L / d.R
def LD.lrow(d:LD)(v:Nat):List Int:=if d.sp then replicate v (d.L:Int)else replicate (v*d.m) (d.L:Int)
def LD.rrow(d:LD)(v:Nat):List Int:=if d.sp then((d.L:Int)::replicate (d.L / d.R) (d.R:Int)).take (d.cut v)else replicate (v*d.k) (d.R:Int)
def LD.lparts(d:LD):List Int:=[(d.L:Int)]
def LD.rparts(d:LD):List Int:=if d.sp then [(d.R:Int),(d.L:Int)]else [(d.R:Int)]
theorem rep_mul(n:Nat)(x:Int):(replicate n x).sum=n*x:=sum_rep n x
theorem LD.sums{d:LD}(h:d.Ok){v:Nat}(hv:v<=2):(d.lrow v).sum=(d.rrow v).sum:=by
 unfold LD.lrow LD.rrow;cases hs:d.sp with
 |false =>
  rw[if_neg (by decide),if_neg (by decide),rep_mul,rep_mul];have e:=h.eq;have:((v*d.m*d.L:Nat):Int)=((v*d.k*d.R:Nat):Int):=by
   rw[Nat.mul_assoc,Nat.mul_comm d.m,e,Nat.mul_comm d.R,Nat.mul_assoc]
  simpa using this
 |true =>
  rw[if_pos rfl,if_pos rfl,rep_mul];have e:=(h.dv hs).1
  match v,hv with
  | 0,_=>simp[LD.cut]
  | 1,_=>simp[LD.cut]
  | 2,_ =>
   have ec:d.cut 2=1+d.L / d.R:=rfl;rw[ec,take_of_length_le (by simp;omega),List.sum_cons,rep_mul];have:((2*d.L:Nat):Int)=((d.L+d.L / d.R*d.R:Nat):Int):=by
    rw[Nat.mul_comm (d.L / d.R),e];omega
   simpa using this
theorem LD.lsub(d:LD)(v:Nat):∀x∈d.lrow v,x∈d.lparts:=fun x hx=>by
 unfold LD.lrow at hx;unfold LD.lparts;split at hx <;>rw[List.eq_of_mem_replicate hx] <;>simp
theorem LD.rsub(d:LD)(v:Nat):∀x∈d.rrow v,x∈d.rparts:=fun x hx=>by
 unfold LD.rrow at hx;unfold LD.rparts;cases hs:d.sp with
 |false =>
  rw[hs,if_neg (by decide)]at hx;rw[if_neg (by decide),List.eq_of_mem_replicate hx];simp
 |true =>
  rw[hs,if_pos rfl]at hx;rw[if_pos rfl];rcases mem_cons.mp (List.mem_of_mem_take hx)with h|h
  ·rw[h];simp
  ·rw[List.eq_of_mem_replicate h];simp
theorem LD.lmono(d:LD){v w:Nat}(x:Int)(h:v<=w):(d.lrow v).count x<=(d.lrow w).count x:=by
 unfold LD.lrow;split
 ·rw[List.count_replicate,List.count_replicate];split <;>omega
 ·rw[List.count_replicate,List.count_replicate];split
  ·exact Nat.mul_le_mul_right _ h
  ·exact le_refl _
theorem LD.rmono(d:LD){v w:Nat}(x:Int)(h:v<=w):(d.rrow v).count x<=(d.rrow w).count x:=by
 unfold LD.rrow;split
 ·refine List.Sublist.count_le x ?_;have hc:d.cut v<=d.cut w:=by
   unfold LD.cut;generalize d.L / d.R=q;by_cases v0:v=0
   ·rw[if_pos v0];omega
   ·by_cases w0:w=0
    ·omega
    ·rw[if_neg v0,if_neg w0];by_cases v1:v=1
     ·rw[if_pos v1];split <;>omega
     ·rw[if_neg v1,if_neg (by omega)];omega
  have e:((d.L:Int)::replicate (d.L / d.R) (d.R:Int)).take (d.cut v)=(((d.L:Int)::replicate (d.L / d.R) (d.R:Int)).take (d.cut w)).take (d.cut v):=by rw[List.take_take,Nat.min_eq_left hc]
  rw[e];exact List.take_sublist _ _
 ·rw[List.count_replicate,List.count_replicate];split
  ·exact Nat.mul_le_mul_right _ h
  ·exact le_refl _
theorem LD.lzero(d:LD):d.lrow 0=[]:=by unfold LD.lrow;split <;>simp
theorem LD.rzero(d:LD):d.rrow 0=[]:=by unfold LD.rrow;split <;>simp[LD.cut]
def lefH(ds:List LD)(j:Nat):List Int:=ds.flatMap fun d=>d.lrow (d.at j)
def rigH(ds:List LD)(j:Nat):List Int:=ds.flatMap fun d=>d.rrow (d.at j)
structure LDs(ds:List LD)(n:Nat):Prop where
 ok:∀d∈ds,d.Ok
 ln:∀d∈ds,d.lev.length=n
 l:(ds.flatMap LD.lparts).Nodup
 r:(ds.flatMap LD.rparts).Nodup
 few:ds.length<=4
def sideR(f:List LD->Nat->List Int)(ds:List LD)(n:Nat):List (List Int):=(List.range n).map fun j=>jF (f ds j)
theorem sideR_at{f:List LD->Nat->List Int}{ds:List LD}{n:Nat}(h0:∀j,n<=j->f ds j=[])(j:Nat)(x:Int):((sideR f ds n).getD j []).count x=(f ds j).count x:=by
 unfold sideR;rw[getD_map_nil];by_cases h:j<n
 ·rw[List.getElem?_range h];exact sort_count _ x
 ·rw[List.getElem?_eq_none_iff.mpr (by rw[List.length_range];omega),h0 j (by omega)]
theorem LD.at_out{d:LD}{j:Nat}(h:d.lev.length<=j):d.at j=0:=by
 unfold LD.at;rw[getD_eq_getElem?_getD,List.getElem?_eq_none_iff.mpr h];rfl
theorem sides_match{ds:List LD}{n:Nat}(h:LDs ds n)(c:List Int):(yc (zI (sideR lefH ds n) c)).sum=(yc (zI (sideR rigH ds n) c)).sum:=by
 have out:∀(g:LD->Nat->List Int),(∀d,g d 0=[])-> ∀j,n<=j->(ds.flatMap fun d=>g d (d.at j))=[]:=fun g hg j hj=>by
  refine List.flatMap_eq_nil_iff.mpr fun d hd=>?_;rw[LD.at_out (by rw[h.ln d hd];exact hj),hg]
 rw[cols_sum (row:=LD.lrow) (lev:=LD.at) h.l (fun d _=>d.lsub) (fun d _=>d.lzero) (fun d hd=>(h.ok d hd).at) (fun d _ v w x hv _=>d.lmono x hv) (fun j x=>sideR_at (f:=lefH) (out LD.lrow LD.lzero) j x) c,
  cols_sum (row:=LD.rrow) (lev:=LD.at) h.r (fun d _=>d.rsub) (fun d _=>d.rzero) (fun d hd=>(h.ok d hd).at) (fun d _ v w x hv _=>d.rmono x hv) (fun j x=>sideR_at (f:=rigH) (out LD.rrow LD.rzero) j x) c]
 congr 1;exact map_congr_left fun d hd=>LD.sums (h.ok d hd) (maxL_le (h.ok d hd).at c)
structure Matched(one other:List (List Int))(n:Nat):Prop where
 l1:one.length=n
 l2:other.length=n
 g1:∀h∈one,h.length<=64/\(∀x∈h,1<=x/\x<=8)/\h.Pairwise (· >= ·)
 g2:∀h∈other,h.length<=64/\(∀x∈h,1<=x/\x<=8)/\h.Pairwise (· >= ·)
 eq:∀c,(yc (zI one c)).sum=(yc (zI other c)).sum
theorem Matched.swap{one other:List (List Int)}{n:Nat}(h:Matched one other n):Matched other one n:=⟨h.l2,h.l1,h.g2,h.g1,fun c=>(h.eq c).symm⟩
theorem yM{α:Type}(f:α->List Int)(B:Nat):∀ds:List α,(∀d∈ds,(f d).length<=B)->(ds.flatMap f).length<=B*ds.length
 | [],_=>zero_le _
 |d::ds,h=>by
  have h1:=h d (by simp);have h2:=yM f B ds fun x hx=>h x (mem_cons_of_mem _ hx);rw[List.flatMap_cons,length_append,length_cons,Nat.mul_succ];omega
theorem LD.lrow_len{d:LD}(h:d.Ok){v:Nat}(hv:v<=2):(d.lrow v).length<=16:=by
 unfold LD.lrow;split
 ·rw[List.length_replicate];omega
 ·rw[List.length_replicate];have:=Nat.mul_le_mul hv h.m8;omega
theorem LD.rrow_len{d:LD}(h:d.Ok){v:Nat}(hv:v<=2):(d.rrow v).length<=16:=by
 unfold LD.rrow;split
 ·rw[length_take,length_cons,List.length_replicate];have:=Nat.div_le_self d.L d.R;have:=h.l8;omega
 ·rw[List.length_replicate];have:=Nat.mul_le_mul hv h.k8;omega
theorem LD.bound{d:LD}(h:d.Ok):(∀x∈d.lparts,1<=x/\x<=8)/\ ∀x∈d.rparts,1<=x/\x<=8:=by
 have a:=h.l1;have b:=h.l8;have c:=h.r1;have e:=h.r8;constructor
 ·intro x hx;unfold LD.lparts at hx;have:x=d.L:=by simpa using hx
  omega
 ·intro x hx;unfold LD.rparts at hx;split at hx
  ·have:x=d.R\/x=d.L:=by simpa using hx
   omega
  ·have:x=d.R:=by simpa using hx
   omega
theorem matched_of{ds:List LD}{n:Nat}(h:LDs ds n):Matched (sideR lefH ds n) (sideR rigH ds n) n:=by
 have ln:∀f,(sideR f ds n).length=n:=fun f=>by unfold sideR;rw[length_map,List.length_range]
 refine⟨ln _,ln _,fun x hx=>?_,fun x hx=>?_,sides_match h⟩
 ·obtain⟨j,_,rfl⟩:=mem_map.mp hx;refine⟨?_,fun y hy=>?_,sortD_pw _⟩
  ·rw[(yb _).length_eq];have:=yM (fun d:LD=>d.lrow (d.at j)) 16 ds fun d hd=>LD.lrow_len (h.ok d hd) ((h.ok d hd).at j);have:=Nat.mul_le_mul_left 16 h.few;unfold lefH;omega
  ·obtain⟨d,hd,hy'⟩:=List.mem_flatMap.mp ((yb _).mem_iff.mp hy);exact(LD.bound (h.ok d hd)).1 y (d.lsub _ y hy')
 ·obtain⟨j,_,rfl⟩:=mem_map.mp hx;refine⟨?_,fun y hy=>?_,sortD_pw _⟩
  ·rw[(yb _).length_eq];have:=yM (fun d:LD=>d.rrow (d.at j)) 16 ds fun d hd=>LD.rrow_len (h.ok d hd) ((h.ok d hd).at j);have:=Nat.mul_le_mul_left 16 h.few;unfold rigH;omega
  ·obtain⟨d,hd,hy'⟩:=List.mem_flatMap.mp ((yb _).mem_iff.mp hy);exact(LD.bound (h.ok d hd)).2 y (d.rsub _ y hy')
theorem sum2_le(f:LD->List Int)(g:LD->Nat):∀ds:List LD,(∀d∈ds,g d<=8/\(g d:Int)∈f d)->(ds.flatMap f).Nodup->(ds.map fun d=>2*g d).sum<=14*ds.length+(if(8:Int)∈ds.flatMap f then 2 else 0)
 | [],_,_=>zero_le _
 |d::ds,h,hn=>by
  obtain⟨h1,h2⟩:=h d (by simp);rw[List.flatMap_cons]at hn;obtain⟨_,n2,n3⟩:=List.nodup_append.mp hn;have ih:=sum2_le f g ds (fun x hx=>h x (mem_cons_of_mem _ hx)) n2;rw[map_cons,List.sum_cons,length_cons,List.flatMap_cons];by_cases c:g d=8
  ·have h2:(8:Int)∈f d:=by rw[c]at h2;exact h2
   have n8:(8:Int)∉ds.flatMap f:=fun z=>n3 8 h2 8 z rfl;rw[if_neg n8]at ih;rw[if_pos (List.mem_append_left _ h2)];omega
  ·by_cases c8:(8:Int)∈ds.flatMap f
   ·rw[if_pos c8]at ih;rw[if_pos (mem_append_right _ c8)];omega
   ·rw[if_neg c8]at ih;omega
theorem flat_sum_le{α:Type}(f:α->List Int)(g:α->Nat):∀ds:List α,(∀d∈ds,(f d).length<=g d)->(ds.flatMap f).length<=(ds.map g).sum
 | [],_=>zero_le _
 |d::ds,h=>by
  have h1:=h d (by simp);have h2:=flat_sum_le f g ds fun x hx=>h x (mem_cons_of_mem _ hx);rw[List.flatMap_cons,length_append,map_cons,List.sum_cons];omega
def Lst1(row:List Int)(v:V)(H:Hp):Prop:=∃ q,v= .ref q/\H q=some (.lst (row.map V.int))
theorem Lst1.mv{H H':Hp}{row:List Int}{v:V}(s:Same H H'):Lst1 row v H->Lst1 row v H'
 |⟨q,e,h⟩=>⟨q,e,s _ _ h⟩
theorem All2.mvI{H H':Hp}{rows:List (List Int)}{xs:List V}(s:Same H H')(h:All2 Lst1 H rows xs):All2 Lst1 H' rows xs:=h.imp fun _ _ z=>z.mv s
theorem rep_flat(n:Nat)(x:Int):(replicate n [V.int x]).flatten=(replicate n x).map V.int:=by simp
theorem cut_take(xs:List V)(n:Nat):cutV xs none (some (n:Int))=xs.take n:=cut_head xs n
def LstN(S:List Addr)(row:List Int)(v:V)(H:Hp):Prop:=∃ q,v= .ref q/\q∉S/\H q=some (.lst (row.map V.int))
theorem LstN.mv{S:List Addr}{H H':Hp}{row:List Int}{v:V}(k:Keep S H H'):LstN S row v H->LstN S row v H'
 |⟨q,e,n,h⟩=>⟨q,e,n,k _ _ h n⟩
theorem All2.mvN{S:List Addr}{H H':Hp}{rows:List (List Int)}{xs:List V}(k:Keep S H H')(h:All2 (LstN S) H rows xs):All2 (LstN S) H' rows xs:=h.imp fun _ _ z=>z.mv k
theorem All2.toL{S:List Addr}{H:Hp}{rows:List (List Int)}{xs:List V}(h:All2 (LstN S) H rows xs):All2 Lst1 H rows xs:=by
 induction h with
 |nil=>exact .nil
 |cons r _ ih=>obtain⟨q,e,_,h⟩:=r;exact .cons ⟨q,e,h⟩ ih
theorem nin_two{H:Hp}{a b q:Addr}{x y:HO}(ha:H a=some x)(hb:H b=some y)(hq:H q=none):q∉[a,b]:=fun z=>by
 simp only[mem_cons,not_mem_nil,or_false]at z;rcases z with rfl|rfl
 ·rw[hq]at ha;cases ha
 ·rw[hq]at hb;cases hb
theorem nin_two'{H:Hp}{a b q:Addr}{x:HO}(ha:H a=none)(hb:H b=none)(hq:H q=some x):q∉[a,b]:=fun z=>by
 simp only[mem_cons,not_mem_nil,or_false]at z;rcases z with rfl|rfl
 ·rw[hq]at ha;cases ha
 ·rw[hq]at hb;cases hb
theorem Keep.wide{S S':List Addr}{H H':Hp}(k:Keep S H H')(h:∀a∈S,a∈S'):Keep S' H H':=fun b o e n=>k b o e fun z=>n (h b z)
theorem lef_snoc(ds:List LD)(d:LD)(j:Nat):lefH (ds++[d]) j=lefH ds j++d.lrow (d.at j):=by unfold lefH;rw[List.flatMap_append];simp
theorem rig_snoc(ds:List LD)(d:LD)(j:Nat):rigH (ds++[d]) j=rigH ds j++d.rrow (d.at j):=by unfold rigH;rw[List.flatMap_append];simp
theorem LD.at_some{d:LD}{j v:Nat}(h:d.lev[j]? =some v):d.at j=v:=by unfold LD.at;rw[getD_eq_getElem?_getD,h];rfl
structure LDi(ds:List LD)(n i:Nat):Prop where
 ok:∀d∈ds,d.Ok
 ln:∀d∈ds,d.lev.length=n
 l:(ds.flatMap LD.lparts).Nodup
 r:(ds.flatMap LD.rparts).Nodup
 few:ds.length<=i
theorem LDi.nil(n:Nat):LDi [] n 0:=⟨(fun _ h=>by cases h),(fun _ h=>by cases h),List.nodup_nil,List.nodup_nil,le_refl _⟩
theorem LDi.lds{ds:List LD}{n i:Nat}(h:LDi ds n i)(hi:i<=4):LDs ds n:=⟨h.ok,h.ln,h.l,h.r,le_trans h.few hi⟩
theorem LDi.mono{ds:List LD}{n i j:Nat}(h:LDi ds n i)(hi:i<=j):LDi ds n j:=⟨h.ok,h.ln,h.l,h.r,le_trans h.few hi⟩
theorem LDi.snoc{ds:List LD}{n i:Nat}{d:LD}(h:LDi ds n i)(ok:d.Ok)(ln:d.lev.length=n)(h1:(d.L:Int)∉ds.flatMap LD.lparts)(h2:(d.R:Int)∉ds.flatMap LD.rparts)(h3:d.sp=true->(d.L:Int)∉ds.flatMap LD.rparts):LDi (ds++[d]) n (i+1):=by
 refine⟨fun x hx=>?_,fun x hx=>?_,?_,?_,by rw[length_append];exact Nat.succ_le_succ h.few⟩
 ·rcases mem_append.mp hx with hx|hx
  ·exact h.ok x hx
  ·rw[List.mem_singleton.mp hx];exact ok
 ·rcases mem_append.mp hx with hx|hx
  ·exact h.ln x hx
  ·rw[List.mem_singleton.mp hx];exact ln
 ·rw[List.flatMap_append];refine List.nodup_append.mpr ⟨h.l,by simp[LD.lparts],fun x hx y hy e=>?_⟩;have:y=d.L:=by simpa [LD.lparts]using hy
  rw[e,this]at hx;exact h1 hx
 ·rw[List.flatMap_append];have hne:d.sp=true->(d.R:Int)≠d.L:=fun z=>by have:=(ok.dv z).2;omega
  refine List.nodup_append.mpr ⟨h.r,?_,fun x hx y hy e=>?_⟩
  ·cases hs:d.sp with
   |false=>simp[LD.rparts,hs]
   |true=>simp[LD.rparts,hs];have:=hne hs;omega
  ·subst e;cases hs:d.sp with
   |false =>
    have:x=d.R:=by simpa [LD.rparts,hs]using hy
    rw[this]at hx;exact h2 hx
   |true =>
    have:x=d.R\/x=d.L:=by simpa [LD.rparts,hs]using hy
    rcases this with z|z
    ·rw[z]at hx;exact h2 hx
    ·rw[z]at hx;exact h3 hs hx
theorem lrows_len{ds:List LD}{n:Nat}(h:LDs ds n)(j:Nat):(lefH ds j).length<=64/\(rigH ds j).length<=64:=by
 have h1:=yM (fun d:LD=>d.lrow (d.at j)) 16 ds fun d hd=>LD.lrow_len (h.ok d hd) ((h.ok d hd).at j);have h2:=yM (fun d:LD=>d.rrow (d.at j)) 16 ds fun d hd=>LD.rrow_len (h.ok d hd) ((h.ok d hd).at j);have:=Nat.mul_le_mul_left 16 h.few;unfold lefH rigH;omega
theorem nil_rows(n:Nat):(List.range n).map (lefH [])=replicate n []/\(List.range n).map (rigH [])=replicate n []:=by
 constructor <;>exact List.ext_getElem (by simp) fun i h1 h2=>by simp[lefH,rigH]
def LstF(H0:Hp)(row:List Int)(v:V)(H:Hp):Prop:=∃ q,v= .ref q/\H0 q=none/\H q=some (.lst (row.map V.int))
theorem All2.mvF{H0 H H':Hp}{rows:List (List Int)}{xs:List V}(s:Same H H')(h:All2 (LstF H0) H rows xs):All2 (LstF H0) H' rows xs:=h.imp fun _ _ ⟨q,e,n,g⟩=>⟨q,e,n,s _ _ g⟩
theorem All2.toN{H0 H:Hp}{S:List Addr}{rows:List (List Int)}{xs:List V}(f:∀q o,H q=some o->H0 q=none->q∉S)(h:All2 (LstF H0) H rows xs):All2 (LstN S) H rows xs:=by
 induction h with
 |nil=>exact .nil
 |cons r _ ih=>obtain⟨q,e,n,g⟩:=r;exact .cons ⟨q,e,f q _ g n,g⟩ ih
theorem kf_of{its:List Value}{ns:List Int}(r:Vals (ns.map V.int) its):W.kf_ints its=true:=by
 induction ns generalizing its with
 |nil=>cases r;rfl
 |cons n ns ih =>
  cases r with
  |cons r t =>
   obtain⟨tk,rfl⟩:=r;have h:=ih t;unfold W.kf_ints;exact h
theorem first_ix:∀{ns:List Int}{z:Int},z∈ns-> ∃j,ns[j]? =some z/\(∀i,i<j->ns[i]? ≠some z)/\ns.eraseIdx j=ns.erase z
 |x::ns,z,h=>by
  by_cases e:x=z
  ·subst e;exact⟨0,rfl,(fun i hi=>by omega),by simp⟩
  ·have hz:z∈ns:=by
    rcases mem_cons.mp h with h|h
    ·exact absurd h.symm e
    ·exact h
   obtain⟨j,h1,h2,h3⟩:=first_ix hz;refine⟨j+1,by simpa using h1,fun i hi=>?_,?_⟩
   ·cases i with
    |zero=>simpa using e
    |succ i=>simpa using h2 i (by omega)
   ·rw[List.eraseIdx_cons_succ,h3,List.erase_cons_tail (by simpa using e)]
theorem isInt_at{its:List Value}{ns:List Int}{i:Nat}{y z:Int}(r:Vals (ns.map V.int) its)(h:ns[i]? =some y):∃u,its[i]? =some u/\isInt z u=decide (y=z):=by
 obtain⟨u,hu,ru⟩:=r.get (i:=i) (x:=.int y) (by rw[getElem?_map,h];rfl);obtain⟨t,rfl⟩:=ru;exact⟨_,hu,rfl⟩
theorem hits{its:List Value}{ns:List Int}{j:Nat}{z:Int}(r:Vals (ns.map V.int) its)(h1:ns[j]? =some z)(h2:∀i,i<j->ns[i]? ≠some z) :
  ∃hj:j<its.toArray.size,isInt z its.toArray[j]=true/\ ∀m (hm:m<its.toArray.size),m<j->isInt z its.toArray[m]=false:=by
 have hl:ns.length=its.length:=by rw[<-r.length,length_map]
 obtain⟨u,hu,e⟩:=isInt_at (z:=z) r h1;have hj:=(List.getElem?_eq_some_iff.mp hu).1;refine⟨by simpa using hj,?_,fun m hm hlt=>?_⟩
 ·have:its.toArray[j]'(by simpa using hj)=u:=by simpa using(List.getElem?_eq_some_iff.mp hu).2
  rw[this,e];simp
 ·have hm':m<ns.length:=by simp at hm;omega
  obtain⟨u',hu',e'⟩:=isInt_at (z:=z) (i:=m) r (getElem?_eq_getElem hm');have:its.toArray[m]=u':=by simpa using(List.getElem?_eq_some_iff.mp hu').2
  rw[this,e'];refine decide_eq_false fun q=>h2 m hlt ?_;rw[getElem?_eq_getElem hm',q]
def rRemove:V->List V->Hp->VK->Prop:=fun x vs H Q=>∃(l:Addr)(ns:List Int)(z:Int),x= .ref l/\vs=[.int z]/\H l=some (.lst (ns.map V.int))/\z∈ns/\Q .non (upd H l (.lst ((ns.erase z).map V.int)))
theorem mt_remove{X:Cx}:MtR X "list.remove" rRemove:=by
 intro pins s σ H x vs v us Q I rx rv h;obtain⟨l,ns,z,rfl,rfl,hH,hz,q⟩:=h;cases rx;obtain⟨u,rfl,ru⟩:=rv.one;obtain⟨t,rfl⟩:=ru;obtain⟨zz,its,n,r,hl,e⟩:=I.lstM hH;obtain⟨j,h1,h2,h3⟩:=first_ix hz;obtain⟨hj,c1,c2⟩:=hits r h1 h2;refine call_meets PySem.F.slot_list_remove ⟨_,e,rfl⟩ PySem.F.entry_list_remove (PySem.F.args_list_remove_2 _ _)
  (MeetsSeq.list_remove l its.toArray n (.int z t) (isInt z) (fun y hy=>W.kf_eq (kf_of r) y (by simpa using hy)) j hj c1 c2 (by rw[size_toArray,<-hl];exact zz)) ⟨e,?_⟩
 have er:=r.eraseIdx j;rw[map_erase,h3]at er;refine⟨.non,_,I.lset (its':=its.eraseIdx j) hH e ?_ er ?_,rfl,q⟩
 ·show its.toArray.eraseIdxIfInBounds j=(its.eraseIdx j).toArray;rw[List.eraseIdxIfInBounds_toArray]
 ·rw[length_map];have:=List.length_erase_le (a:=z) (l:=ns);rw[length_map]at zz;omega
def yt(ns ms:List Int):List Int:=ns.foldl (fun l x=>l.erase x) ms
theorem takeOut_snoc(ns ms:List Int)(z:Int):yt (ns++[z]) ms=(yt ns ms).erase z:=by unfold yt;rw[List.foldl_append];rfl
theorem kj:∀(ns ms:List Int)(x:Int),(yt ns ms).count x=ms.count x-ns.count x
 | [],ms,x=>by simp[yt]
 |n::ns,ms,x=>by
  show(yt ns (ms.erase n)).count x=_;rw[kj ns (ms.erase n) x,List.count_erase,List.count_cons];by_cases h:n=x
  ·subst h;simp;omega
  ·have h':¬x=n:=fun e=>h e.symm;simp[h,h']
theorem takeOut_sub(ns:List Int):∀ms,(yt ns ms).Sublist ms:=by
 unfold yt
 induction ns with
 |nil=>exact fun ms=>List.Sublist.refl _
 |cons n ns ih=>exact fun ms=>(ih (ms.erase n)).trans List.erase_sublist
theorem lies_all{ns ms:List Int}:lies ns ms=true↔ ∀x,ns.count x<=ms.count x:=by
 constructor
 ·intro h x;by_cases hx:x∈ns
  ·exact of_decide_eq_true (all_eq_true.mp h x hx)
  ·rw[List.count_eq_zero_of_not_mem hx];exact zero_le _
 ·exact lies_counts
theorem take_in{ns ms:List Int}(h:lies ns ms=true){i:Nat}{z:Int}(hz:ns[i]? =some z):z∈yt (ns.take i) ms:=by
 refine List.count_pos_iff.mp ?_;rw[kj];have h1:=lies_all.mp h z;have hi:=(List.getElem?_eq_some_iff.mp hz).1;have ez:=(List.getElem?_eq_some_iff.mp hz).2;have h2:(ns.take i).count z+1<=ns.count z:=by
  have:(ns.take (i+1)).count z<=ns.count z:=List.Sublist.count_le z (List.take_sublist _ _);rw[take_succ_eq_append_getElem hi,ez,List.count_append]at this;simpa using this
 omega
abbrev Plc:=Int×List Int×List Int
def yH(pl:Plc)(v:V)(H:Hp):Prop:=∃ t h c,v= .ref t/\H t=some (.tup [.int pl.1,.ref h,.ref c])/\H h=some (.tup (pl.2.1.map V.int))/\H c=some (.tup (pl.2.2.map V.int))
theorem yH.mv{H H':Hp}{pl:Plc}{v:V}(t:Tups H H'):yH pl v H->yH pl v H'
 |⟨a,h,c,e,g1,g2,g3⟩=>⟨a,h,c,e,t _ _ g1,t _ _ g2,t _ _ g3⟩
abbrev Rule:=List (List Int)
def onR(one other:Rule)(s:Int):Rule:=if s=1 then one else other
def isPl(one other:Rule)(pl:Plc):Bool:=(decide (pl.1=1)||decide (pl.1=2))&&yi (onR one other pl.1) (pl.2.1,pl.2.2)
noncomputable def j5(one other:Rule)(pl:Plc):Plc:=(3-pl.1,jF (yt (yc (zI (onR one other pl.1) pl.2.2)) pl.2.1++yc (zI (onR one other (3-pl.1)) pl.2.2)),pl.2.2)
theorem isCh_len{n:Nat}:∀{l:Int}{c:List Int},isCh n l c=true->0<=l->c.length<=n-l.toNat
 | _,[],_,_=>zero_le _
 |l,x::r,e,hl=>by
  rw[isCh]at e;by_cases c:x<l\/(n:Int)<=x
  ·rw[if_pos c]at e;cases e
  ·rw[if_neg c]at e;have:=isCh_len e (by omega);rw[length_cons];omega
theorem pair_all{rule:Rule}{h c:List Int}(hp:yi rule (h,c)=true):isCh rule.length 0 c=true/\ ∀j∈c,lies (rule.getD j.toNat []) h=true:=by
 unfold yi at hp;rw[and_eq_true]at hp;exact⟨hp.1,all_eq_true.mp hp.2⟩
theorem pair_len{rule:Rule}{h c:List Int}(hp:yi rule (h,c)=true):c.length<=rule.length:=by
 have:=isCh_len (pair_all hp).1 (Int.le_refl 0);simpa using this
theorem pick_le'{rule:Rule}{h:List Int}:∀{c:List Int},(∀j∈c,lies (rule.getD j.toNat []) h=true)-> ∀x,maxC (zI rule c) x<=h.count x
 | [],_,x=>zero_le _
 |j::c,hc,x=>by
  have h1:=lies_all.mp (hc j (by simp)) x;have h2:=pick_le' (fun i hi=>hc i (mem_cons_of_mem _ hi)) x;unfold zI at h2 ⊢;rw[map_cons,maxC];omega
theorem pair_join{rule:Rule}{h c:List Int}(hp:yi rule (h,c)=true):lies (yc (zI rule c)) h=true :=
 lies_counts fun x=>by rw[(jq _).2];exact pick_le' (pair_all hp).2 x
theorem pick_in{rule:Rule}{c:List Int}{j:Int}(hj:j∈c)(x:Int):(rule.getD j.toNat []).count x<=(yc (zI rule c)).count x:=by
 rw[(jq _).2];exact le_maxC (mem_map.mpr ⟨j,hj,rfl⟩)
theorem takeOut_sum{a b:List Int}(h:lies a b=true):(yt a b).sum=b.sum-a.sum:=by
 have:(yt a b++a).Perm b:=List.perm_iff_count.mpr fun x=>by
  rw[List.count_append,kj];have:=lies_all.mp h x;omega
 have:=perm_sum this;rw[List.sum_append]at this;omega
theorem onR_len{one other:Rule}(h:one.length=other.length)(s:Int):(onR one other s).length=one.length:=by unfold onR;split <;>simp[h]
theorem ya{one other:Rule}{pl:Plc}(h:isPl one other pl=true):(pl.1=1\/pl.1=2)/\yi (onR one other pl.1) (pl.2.1,pl.2.2)=true:=by
 unfold isPl at h;rw[and_eq_true,Bool.or_eq_true]at h;exact⟨h.1.imp of_decide_eq_true of_decide_eq_true,h.2⟩
theorem isPl_of{one other:Rule}{pl:Plc}(h:pl.1=1\/pl.1=2)(hp:yi (onR one other pl.1) (pl.2.1,pl.2.2)=true):isPl one other pl=true:=by
 unfold isPl;rw[hp,Bool.and_true];rcases h with h|h <;>rw[h] <;>rfl
theorem cross_is{one other:Rule}{pl:Plc}(hl:one.length=other.length)(h:isPl one other pl=true):isPl one other (j5 one other pl)=true:=by
 obtain⟨hs,hp⟩:=ya h;obtain⟨h1,h2⟩:=pair_all hp;refine isPl_of (by show 3-pl.1=1\/3-pl.1=2;omega) ?_;unfold yi;rw[and_eq_true];refine⟨?_,all_eq_true.mpr fun j hj=>lies_counts fun x=>?_⟩
 ·show isCh (onR one other (3-pl.1)).length 0 pl.2.2=true;rw[onR_len hl];rw[onR_len hl]at h1;exact h1
 ·show((onR one other (3-pl.1)).getD j.toNat []).count x<=(jF _).count x;rw[sort_count,List.count_append];have:=pick_in (rule:=onR one other (3-pl.1)) (c:=pl.2.2) hj x;omega
theorem cross_back{one other:Rule}{pl:Plc}(h:isPl one other pl=true)(hw:pl.2.1.Pairwise (· >= ·)):j5 one other (j5 one other pl)=pl:=by
 obtain⟨hs,hp⟩:=ya h;obtain⟨s,hh,c⟩:=pl;have e3:3-(3-s)=s:=by omega
 unfold j5;dsimp only at*;rw[e3];congr 2;refine perm_ge_eq (sortD_pw _) hw (List.perm_iff_count.mpr fun x=>?_);have:=lies_all.mp (pair_join hp) x;rw[sort_count,List.count_append,kj,sort_count,List.count_append,kj];omega
theorem cross_sum{one other:Rule}{pl:Plc}(hm:∀c,(yc (zI one c)).sum=(yc (zI other c)).sum)(h:isPl one other pl=true):(j5 one other pl).2.1.sum=pl.2.1.sum:=by
 obtain⟨hs,hp⟩:=ya h;show(jF _).sum=_;rw[perm_sum (yb _),List.sum_append,takeOut_sum (pair_join hp)];have e:(yc (zI (onR one other pl.1) pl.2.2)).sum=(yc (zI (onR one other (3-pl.1)) pl.2.2)).sum:=by
  rcases hs with e|e <;>rw[e]
  ·exact hm _
  ·exact(hm _).symm
 omega
def fl2(p q:Addr):List (Str×V):=putF "other" (.ref q) (putF "one" (.ref p) [])
theorem fl2_ne:¬(("one" : Str)="other"):=by decide+kernel
theorem fl2_one(p q:Addr):(fl2 p q).lookup ("one" : Str)=some (.ref p):=by unfold fl2;rw[yN,if_neg fl2_ne,yN,if_pos rfl]
theorem fl2_other(p q:Addr):(fl2 p q).lookup ("other" : Str)=some (.ref q):=by unfold fl2;rw[yN,if_pos rfl]
theorem fl2_no(p q:Addr){m:Str}(h1:¬m="other")(h2:¬m="one"):(fl2 p q).lookup m=none:=by
 unfold fl2;rw[yN,if_neg h1,yN,if_neg h2];rfl
structure Sided(C:Addr)(H:Hp)(x p q:Addr)(rs qs:List V)(one other:Rule):Prop where
 ob:∃dx,H x=some (.ins C dx (fl2 p q))
 hp:H p=some (.tup rs)
 h2:All2 Tup1 H one rs
 hq:H q=some (.tup qs)
 g2:All2 Tup1 H other qs
 ln:one.length=other.length
 l6:one.length<=6
 b1:∀h∈one,h.length<=64/\ ∀x∈h,1<=x
 b2:∀h∈other,h.length<=64/\ ∀x∈h,1<=x
theorem Sided.mv{C:Addr}{H H':Hp}{x p q:Addr}{rs qs:List V}{one other:Rule}(h:Sided C H x p q rs qs one other)(s:Same H H'):Sided C H' x p q rs qs one other :=
 ⟨let⟨dx,e⟩:=h.ob;⟨dx,s _ _ e⟩,s _ _ h.hp,h.h2.mv s.tups,s _ _ h.hq,h.g2.mv s.tups,h.ln,h.l6,h.b1,h.b2⟩
theorem getD_mem{rule:Rule}{j:Nat}{x:Int}(h:x∈rule.getD j []):∃hh∈rule,x∈hh:=by
 rw[getD_eq_getElem?_getD]at h;cases e:rule[j]? with
 |none=>rw[e]at h;cases h
 |some r=>rw[e]at h;exact⟨r,mem_of_getElem? e,h⟩
theorem join_pos{rule:Rule}(hb:∀h∈rule,h.length<=64/\ ∀x∈h,1<=x){c:List Int}:∀x∈yc (zI rule c),1<=x:=fun x hx=>by
 obtain⟨l,hl,hxl⟩:=join_mem hx;obtain⟨j,_,rfl⟩:=mem_map.mp hl;obtain⟨hh,h1,h2⟩:=getD_mem hxl;exact(hb hh h1).2 x h2
theorem takeOut_mem{a b:List Int}{x:Int}(h:x∈yt a b):x∈b:=(takeOut_sub a b).subset h
theorem isCh_pwP{n:Nat}:∀{l:Int}{c:List Int},isCh n l c=true->c.Pairwise (· < ·)
 | _,[],_=>.nil
 |l,x::r,e=>by
  rw[isCh]at e;by_cases c:x<l\/(n:Int)<=x
  ·rw[if_pos c]at e;cases e
  ·rw[if_neg c]at e;refine pairwise_cons.mpr ⟨fun y hy=>?_,isCh_pwP e⟩;have:=kY e y hy;omega
theorem lexGt_trans:∀{x y z:List Int},HT.lexGt x y=true->HT.lexGt y z=true->HT.lexGt x z=true
 | [],[],_,h,_=>by cases h
 | [],_::_,_,h,_=>by cases h
 | _::_,_,[],_,_=>rfl
 | _::_,[],_::_,_,h=>by cases h
 |a::x,b::y,c::z,h,h'=>by
  rw[HT.lexGt_cons]at h h' ⊢;by_cases e:a=b
  ·subst e;rw[if_pos rfl]at h;by_cases e':a=c
   ·subst e';rw[if_pos rfl]at h' ⊢;exact lexGt_trans h h'
   ·rw[if_neg e']at h' ⊢;exact h'
  ·rw[if_neg e]at h;have h1:=of_decide_eq_true h;by_cases e':b=c
   ·subst e';rw[if_neg e];exact h
   ·rw[if_neg e']at h';have h2:=of_decide_eq_true h';rw[if_neg (by omega)];exact decide_eq_true (by omega)
theorem lexB_pair:∀{l:List (List Int)},lexB l=true->l.Pairwise fun x y=>HT.lexGt x y=true
 | [],_=>.nil
 | [x],_=>by simp
 |x::y::r,h=>by
  simp only[lexB,and_eq_true]at h;have ih:=lexB_pair h.2;refine pairwise_cons.mpr ⟨fun z hz=>?_,ih⟩;rcases mem_cons.mp hz with rfl|hz
  ·exact h.1
  ·exact lexGt_trans h.1 ((pairwise_cons.mp ih).1 z hz)
theorem kept_pair(rule:List (List Int)){m:Nat}(hm:m<=24):(zJ rule m).Pairwise fun x y=>HT.lexGt x y=true:=by
 have p12:=part12_all m (by omega);unfold y6 at p12;simp only[and_eq_true]at p12;exact(lexB_pair p12.2).sublist List.filter_sublist
theorem Matched.J{one other:List (List Int)}{n:Nat}(h:Matched one other n):RuleJ one :=
 ⟨⟨[1,2,3,4,5,6,7,8],by decide,fun l hl x hx=>by
  have:=(h.g1 l hl).2.1 x hx;have key:∀k:Nat,k<9->1<=k->((k:Nat):Int)∈([1,2,3,4,5,6,7,8]:List Int):=by decide
  obtain⟨k,rfl⟩:=Int.eq_ofNat_of_zero_le (Int.le_trans (by decide) this.1);exact key k (Nat.lt_succ_of_le (Int.ofNat_le.mp this.2)) (Int.ofNat_le.mp this.1)⟩,fun l hl=>le_trans (h.g1 l hl).1 (by decide),fun l hl x hx=>((h.g1 l hl).2.1 x hx).1⟩
theorem Matched.signed{one other:List (List Int)}{n:Nat}(h:Matched one other n)(W0:Nat->Int)(m:Nat):ki one W0 m (chG (upto one.length))=ki other W0 m (chG (upto other.length)):=by
 unfold ki;rw[h.l1,h.l2];congr 1;exact map_congr_left fun c _=>by rw[h.eq c]
theorem Matched.kept{one other:List (List Int)}{n:Nat}(h:Matched one other n){m:Nat}(hm:m<=24):(zJ one m).length=(zJ other m).length:=by
 have e1:=kept_way (rule:=one) h.J.2.2 hm;have e2:=kept_way (rule:=other) h.swap.J.2.2 hm;rw[h.signed,<-e2]at e1;exact Int.ofNat.inj e1
theorem coinIn_len'{n g:Nat}{L:List Int}(hl:L.length=n+1)(hL:∀j,j<=n->L.getD j 0=((lenN g j:Nat):Int)):∀i,g+1+i<=n+1-> ∀j,j<=n->(jJ L (g+1) i).getD j 0=if j<g+1+i then((lenN (g+1) j:Nat):Int)else((lenN g j:Nat):Int)
 | 0,_,j,hj=>by
  show L.getD j 0=_;rw[hL j hj,lenN_next];by_cases h:j<g+1+0
  ·rw[if_pos h,if_neg (by omega),Nat.zero_add]
  ·rw[if_neg h]
 |i+1,hi,j,hj=>by
  have ih:=coinIn_len' hl hL i (by omega);have hlen:(jJ L (g+1) i).length=n+1:=by rw[coinIn_len,hl]
  show(coinSt (jJ L (g+1) i) (g+1) (g+1+i)).getD j 0=_;unfold coinSt;rw[getD_eq_getElem?_getD,List.getElem?_set];by_cases e:g+1+i=j
  ·rw[if_pos e,if_pos (by omega),if_pos (by omega)];subst e;show(jJ L (g+1) i).getD (g+1+i) 0+(jJ L (g+1) i).getD (g+1+i-(g+1)) 0=_;rw[ih (g+1+i) hj,ih (g+1+i-(g+1)) (by omega),if_neg (by omega),if_pos (by omega),lenN_next g (g+1+i),if_pos (by omega)];omega
  ·rw[if_neg e,<-getD_eq_getElem?_getD,ih j hj];by_cases h:j<g+1+i
   ·rw[if_pos h,if_pos (by omega)]
   ·rw[if_neg h,if_neg (by omega)]
theorem coinOut_lenN(n:Nat):∀k,k<=n-> ∀j,j<=n->(yv n k).getD j 0=((lenN k j:Nat):Int)
 | 0,_,j,hj=>by
  unfold yv lenN;cases j with
  |zero=>rfl
  |succ j =>
   rw[partN_nil (by omega)];show(replicate n (0:Int)).getD j 0=0;rw[getD_eq_getElem?_getD,List.getElem?_replicate];split <;>rfl
 |k+1,hk,j,hj=>by
  rw[yv,coinIn_len' (coinOut_len n k) (coinOut_lenN n k (by omega)) (n-k) (by omega) j hj,if_pos (by omega)]
theorem way_lenN{n j:Nat}(hn:n<=400)(hj:j<=n):wayF n j=(((ku j j).length:Nat):Int):=by
 rw[way_all hn hj,coinOut_lenN n n (le_refl _) j hj];unfold lenN;rw[partN_over hj (le_refl j)]
theorem keptN_signed{rule:List (List Int)}(hp:∀h∈rule,∀x∈h,1<=x)(n:Nat) :
  ((((ku n n).filter fun h=>(zB rule h).isNone).length:Nat):Int)=((chG (upto rule.length)).map fun c=>sgnG c*(if(yc (zI rule c)).sum<=(n:Int)then(((ku (n-(yc (zI rule c)).sum.toNat) (n-(yc (zI rule c)).sum.toNat)).length:Nat):Int)else 0)).sum:=by
 rw[sum_swap (chG (upto rule.length)) _ (fun c h=>sgnG c*bI (c.all fun x=>lies (rule.getD x.toNat []) h)) (fun h=>by rw[jZ,first_isNone])];congr 1;apply map_congr_left;intro c hc;rw[sum_count];congr 1;have hJ:=jq (zI rule c);have hJ1:∀x∈yc (zI rule c),1<=x:=fun x hx=>by
  have h1:0<(yc (zI rule c)).count x:=List.count_pos_iff.mpr hx;rw[hJ.2 x]at h1;refine Decidable.byContradiction fun hx1=>?_;have:maxC (zI rule c) x<=0:=maxC_le fun l hl=>by
   have e:l.count x=0:=count_eq_zero.mpr fun hm=>by
    rcases pick_mem hl with z|z
    ·exact hx1 (hp l z x hm)
    ·rw[z]at hm;cases hm
   omega
  omega
 have e1:(ku n n).countP (fun h=>c.all fun x=>lies (rule.getD x.toNat []) h)=(ku n n).countP (lies (yc (zI rule c))):=by
  apply List.countP_congr;intro h _;rw[lies_join hJ h];unfold zI;rw[all_map];exact Iff.rfl
 rw[e1,lies_count hJ1];by_cases d:(yc (zI rule c)).sum<=(n:Int)
 ·rw[if_pos d,if_pos d]
 ·rw[if_neg d,if_neg d];rfl
end L2
namespace L2
open PySem
theorem rise_eq:∀{a b:List Int},a.Pairwise (· < ·)->b.Pairwise (· < ·)->(∀x,x∈a↔x∈b)->a=b
 | [],[],_,_,_=>rfl
 | [],y::b,_,_,h=>by
  have:=(h y).mpr (by simp);cases this
 |x::a,[],_,_,h=>by
  have:=(h x).mp (by simp);cases this
 |x::a,y::b,ha,hb,h=>by
  have ha':=pairwise_cons.mp ha;have hb':=pairwise_cons.mp hb;have exy:x=y:=by
   rcases mem_cons.mp ((h x).mp (by simp))with e|e
   ·exact e
   ·rcases mem_cons.mp ((h y).mpr (by simp))with e2|e2
    ·exact e2.symm
    ·have:=hb'.1 x e;have:=ha'.1 y e2;omega
  subst exy;congr 1;refine rise_eq ha'.2 hb'.2 fun z=>⟨fun hz=>?_,fun hz=>?_⟩
  ·rcases mem_cons.mp ((h z).mp (mem_cons_of_mem _ hz))with e|e
   ·have:=ha'.1 z hz;omega
   ·exact e
  ·rcases mem_cons.mp ((h z).mpr (mem_cons_of_mem _ hz))with e|e
   ·have:=hb'.1 z hz;omega
   ·exact e
theorem chG_full:∀(n:Nat){c:List Int},c.Pairwise (· < ·)->(∀x∈c,0<=x/\x<n)->c∈chG (upto n)
 | 0,c,_,h=>by
  cases c with
  |nil=>exact mem_cons_self ..
  |cons x r=>have:=h x (by simp);omega
 |n+1,c,hp,h=>by
  rw[upto_succ,chG_snoc,mem_append];by_cases hn:(n:Int)∈c
  ·refine .inr (mem_map.mpr ⟨c.filter fun x=>decide (x<n),chG_full n (hp.filter _) (fun x hx=>?_),?_⟩)
   ·have h1:=mem_filter.mp hx;exact⟨(h x h1.1).1,of_decide_eq_true h1.2⟩
   ·refine rise_eq (List.pairwise_append.mpr ⟨hp.filter _,List.pairwise_singleton ..,fun x hx y hy=>?_⟩) hp fun x=>?_
    ·have h1:=of_decide_eq_true (mem_filter.mp hx).2;have:y=n:=by simpa using hy
     omega
    ·rw[mem_append,mem_filter,decide_eq_true_iff,List.mem_singleton];constructor
     ·rintro(z|z)
      ·exact z.1
      ·rw[z];exact hn
     ·intro z;have:=h x z;by_cases hx:x<n
      ·exact .inl ⟨z,hx⟩
      ·exact .inr (by omega)
  ·refine .inl (chG_full n hp fun x hx=>?_);have:=h x hx;have:x≠n:=fun e=>hn (e▸hx);omega
end L2
namespace L2
open PySem PySem.Spec PyProof.Rows PySem.W
theorem pe_sortRK{X:Cx}(K0:W.Frag)(h0:X.K=K0){e:Expr}{te:TE}{b:Bool}{p kp cp pos:Pos}{j:Nat}(hg:Gl X "sorted")(hm:X.mg "sorted"=none)(he:PE X e te)(hse:starEach [e] X.env=[(false,eval e X.env)]:=by rfl):PE X (.Call (.Name "sorted" p) [e] [⟨some "reverse",.Constant (.bool b) j cp,kp⟩] pos) (tSortR K0 b te) :=
 PE.kk K0 (fun K=>tSortR K b te) (pe_sortR hg hm he hse) h0
end L2
namespace L2
open PySem PySem.Spec PyProof.Rows
theorem sum_ge0:∀{l:List Int},(∀x∈l,1<=x)->0<=l.sum
 | [],_=>Int.le_refl _
 |x::r,h=>by
  have h1:=h x (by simp);have h2:=sum_ge0 (l:=r) fun y hy=>h y (mem_cons_of_mem _ hy);rw[List.sum_cons];omega
theorem sum_len:∀{l:List Int},(∀x∈l,1<=x)->(l.length:Int)<=l.sum
 | [],_=>Int.le_refl _
 |x::r,h=>by
  have h1:=h x (by simp);have h2:=sum_len (l:=r) fun y hy=>h y (mem_cons_of_mem _ hy);rw[List.sum_cons,length_cons];omega
structure Hep(n:Int)(h:List Int):Prop where
 pw:h.Pairwise (· >= ·)
 pos:∀x∈h,1<=x
 sum:h.sum=n
theorem partF_full:∀(f n g:Nat)(h:List Int),n<f->h.Pairwise (· >= ·)->(∀x∈h,1<=x/\x<=(g:Int))->h.sum=(n:Int)->h∈yE f n g
 | 0,_,_,_,hf,_,_,_=>absurd hf (Nat.not_lt_zero _)
 |f+1,n,g,[],hf,_,_,hs=>by
  rw[zL];have:n=0:=by
   have:(0:Int)=(n:Int):=hs;omega
  rw[if_pos this];simp
 |f+1,n,g,x::r,hf,hw,hb,hs=>by
  obtain⟨x1,x2⟩:=hb x (by simp);have hr:0<=r.sum:=sum_ge0 fun y hy=>(hb y (mem_cons_of_mem _ hy)).1;rw[List.sum_cons]at hs;obtain⟨k,rfl⟩:∃k:Nat,x=(k:Int):=⟨x.toNat,by omega⟩;have hw':=pairwise_cons.mp hw;rw[zL,if_neg (by omega)];unfold partP;refine List.mem_flatMap.mpr ⟨min n g-k,mem_range.mpr (by omega),?_⟩;rw[show min n g-(min n g-k)=k by omega];refine mem_map.mpr ⟨r,partF_full f (n-k) k r (by omega) hw'.2 (fun y hy=>⟨(hb y (mem_cons_of_mem _ hy)).1,hw'.1 y hy⟩) (by omega),rfl⟩
theorem part_hep:∀(f n g:Nat)(h:List Int),n<f->h∈yE f n g->Hep (n:Int) h
 | 0,_,_,_,hf,_=>absurd hf (Nat.not_lt_zero _)
 |f+1,n,g,h,hf,hh=>by
  rw[zL]at hh;by_cases c:n=0
  ·rw[if_pos c]at hh;have:h=[]:=by simpa using hh
   subst this c;exact⟨.nil,fun x hx=>(by cases hx),rfl⟩
  ·rw[if_neg c]at hh;unfold partP at hh;obtain⟨i,hi,hh⟩:=List.mem_flatMap.mp hh;rw[mem_range]at hi;obtain⟨r,hr,rfl⟩:=mem_map.mp hh;have ih:=part_hep f _ _ r (by omega) hr;have hle:=partF_le f _ _ r hr;refine⟨pairwise_cons.mpr ⟨fun y hy=>hle y hy,ih.pw⟩,fun x hx=>?_,?_⟩
   ·rcases mem_cons.mp hx with rfl|hx
    ·omega
    ·exact ih.pos x hx
   ·rw[List.sum_cons,ih.sum];omega
def cntF:Nat->Nat->Nat->Nat
 | 0,_,_=>0
 |f+1,n,g=>if n=0 then 1 else((List.range (min n g)).map fun i=>cntF f (n-(min n g-i)) (min n g-i)).sum
theorem cntF_len:∀f n g,(yE f n g).length=cntF f n g
 | 0,_,_=>rfl
 |f+1,n,g=>by
  rw[zL,cntF];split
  ·rfl
  ·unfold partP;rw[List.length_flatMap];congr 1;apply map_congr_left;intro i _;rw[length_map,cntF_len f]
theorem cnt24:(List.range 25).all (fun n=>decide (cntF 26 n n<=1575))=true:=by decide+kernel
theorem part_few{n:Nat}(h:n<=24):(yE 26 n n).length<=1575:=by
 rw[cntF_len];exact of_decide_eq_true (all_eq_true.mp cnt24 n (mem_range.mpr (by omega)))
theorem nodup_few{α:Type}[DecidableEq α]:∀{l u:List α},l.Nodup->(∀x∈l,x∈u)->l.length<=u.length
 | [],_,_,_=>zero_le _
 |x::r,u,hn,hs=>by
  have hx:=hs x (by simp);obtain⟨n1,n2⟩:=nodup_cons.mp hn;have:=nodup_few (l:=r) (u:=u.erase x) n2 fun y hy=>(List.mem_erase_of_ne (fun(e:y=x)=>n1 (e▸hy))).mpr (hs y (mem_cons_of_mem _ hy));rw[List.length_erase_of_mem hx]at this;have:=List.length_pos_of_mem hx;rw[length_cons];omega
noncomputable def togG(one other:Rule)(pl:Plc):Plc:=match y9 (onR one other pl.1) pl.2 with|some pc=>(pl.1,pc)|none=>pl
noncomputable def wk(one other:Rule)(h:List Int):Nat->Plc
 | 0=>(1,h,[])
 |n+1=>if n%2=0 then j5 one other (wk one other h n)else togG one other (wk one other h n)
def fstP(one other:Rule)(pl:Plc):Option Int:=zB (onR one other pl.1) pl.2.1
def Live(one other:Rule)(h:List Int)(n:Nat):Prop:=∀ i,i<n->i%2=1->fstP one other (wk one other h i)≠none
structure WP(one other:Rule)(n:Int)(i:Nat)(pl:Plc):Prop where
 ip:isPl one other pl=true
 pw:pl.2.1.Pairwise (· >= ·)
 pos:∀x∈pl.2.1,1<=x
 sum:pl.2.1.sum=n
 par:(pl.1+(pl.2.2.length:Int)+(i:Int))%2=1
structure Rul(one other:Rule):Prop where
 ln:one.length=other.length
 l6:one.length<=6
 b1:∀h∈one,h.length<=64/\ ∀x∈h,1<=x
 b2:∀h∈other,h.length<=64/\ ∀x∈h,1<=x
 eq:∀c,(yc (zI one c)).sum=(yc (zI other c)).sum
 j1:RuleJ one
 j2:RuleJ other
theorem Rul.swap{one other:Rule}(R:Rul one other):Rul other one:=⟨R.ln.symm,R.ln▸R.l6,R.b2,R.b1,fun c=>(R.eq c).symm,R.j2,R.j1⟩
theorem Rul.jR{one other:Rule}(R:Rul one other)(s:Int):RuleJ (onR one other s):=by
 unfold onR;split
 ·exact R.j1
 ·exact R.j2
theorem Rul.of{one other:Rule}{n:Nat}(m:Matched one other n)(h:n<=6):Rul one other :=
 ⟨by rw[m.l1,m.l2],by rw[m.l1];exact h,fun h hh=>⟨(m.g1 h hh).1,fun x hx=>((m.g1 h hh).2.1 x hx).1⟩,fun h hh=>⟨(m.g2 h hh).1,fun x hx=>((m.g2 h hh).2.1 x hx).1⟩,m.eq,m.J,m.swap.J⟩
theorem Rul.bR{one other:Rule}(R:Rul one other)(s:Int):∀h∈onR one other s,h.length<=64/\ ∀x∈h,1<=x:=fun h hh=>by
 unfold onR at hh;split at hh
 ·exact R.b1 h hh
 ·exact R.b2 h hh
theorem WP.hep{one other:Rule}{n:Int}{i:Nat}{pl:Plc}(w:WP one other n i pl):Hep n pl.2.1:=⟨w.pw,w.pos,w.sum⟩
theorem Hep.len{n:Int}{h:List Int}(p:Hep n h):(h.length:Int)<=n:=by rw[<-p.sum];exact sum_len p.pos
theorem WP.chl{one other:Rule}{n:Int}{i:Nat}{pl:Plc}(R:Rul one other)(w:WP one other n i pl):pl.2.2.length<=6:=by
 have:=pair_len (ya w.ip).2;rw[onR_len R.ln]at this;exact le_trans this R.l6
theorem WP.cross{one other:Rule}{n:Int}{i:Nat}{pl:Plc}(R:Rul one other)(w:WP one other n i pl):WP one other n (i+1) (j5 one other pl):=by
 refine⟨cross_is R.ln w.ip,sortD_pw _,fun y hy=>?_,(cross_sum R.eq w.ip).trans w.sum,?_⟩
 ·rcases mem_append.mp ((yb _).mem_iff.mp hy)with hy|hy
  ·exact w.pos y (takeOut_mem hy)
  ·exact join_pos (R.bR _) y hy
 ·have:=w.par;show((3-pl.1)+(pl.2.2.length:Int)+((i+1:Nat):Int))%2=1;omega
theorem WP.clen{one other:Rule}{n:Int}{i:Nat}{pl:Plc}(R:Rul one other)(w:WP one other n i pl):((yt (yc (zI (onR one other pl.1) pl.2.2)) pl.2.1++yc (zI (onR one other (3-pl.1)) pl.2.2)).length:Int)<=n:=by
 have:=(w.cross R).hep.len;unfold j5 at this;dsimp only at this;rw[(yb _).length_eq]at this;exact this
theorem WP.crossB{one other:Rule}{n:Int}{i:Nat}{pl:Plc}(w:WP one other n i pl):j5 one other (j5 one other pl)=pl:=cross_back w.ip w.pw
theorem partner_none{rule:Rule}{pc:List Int×List Int}:y9 rule pc=none↔zB rule pc.1=none:=by
 unfold y9;cases zB rule pc.1 with
 |none=>exact⟨fun _=>rfl,fun _=>rfl⟩
 |some m =>
  refine⟨fun h=>?_,fun h=>by cases h⟩;dsimp only at h;split at h <;>cases h
theorem tog_of{one other:Rule}{pl:Plc}{pc:List Int×List Int}(h:y9 (onR one other pl.1) pl.2=some pc):togG one other pl=(pl.1,pc):=by unfold togG;rw[h]
theorem partner_of_fst{one other:Rule}{pl:Plc}(h:fstP one other pl≠none):∃pc,y9 (onR one other pl.1) pl.2=some pc:=by
 cases e:y9 (onR one other pl.1) pl.2 with
 |some pc=>exact⟨pc,rfl⟩
 |none=>exact absurd (partner_none.mp e) h
theorem WP.tog{one other:Rule}{n:Int}{i:Nat}{pl:Plc}(w:WP one other n i pl)(h:fstP one other pl≠none):WP one other n (i+1) (togG one other pl)/\togG one other (togG one other pl)=pl/\(togG one other pl).1=pl.1/\(togG one other pl).2.1=pl.2.1:=by
 obtain⟨pc,e⟩:=partner_of_fst h;obtain⟨hs,hp⟩:=ya w.ip;obtain⟨b1,b2,b3,b4,_⟩:=partner_back hp e;rw[tog_of e];refine⟨⟨isPl_of hs b1,?_,?_,?_,?_⟩,?_,rfl,b4⟩
 ·show pc.1.Pairwise _;rw[b4];exact w.pw
 ·show ∀x∈pc.1,1<=x;rw[b4];exact w.pos
 ·show pc.1.sum=n;rw[b4];exact w.sum
 ·have:=w.par;show(pl.1+(pc.2.length:Int)+((i+1:Nat):Int))%2=1;unfold sgnG at b3;dsimp only at b3;split at b3 <;>split at b3 <;>omega
 ·exact tog_of (pl:=(pl.1,pc)) b2
theorem wk_ok{one other:Rule}{n:Int}{h:List Int}(R:Rul one other)(hp:Hep n h):∀i,Live one other h i->WP one other n i (wk one other h i)
 | 0,_=>⟨isPl_of (.inl rfl) rfl,hp.pw,hp.pos,hp.sum,rfl⟩
 |i+1,L=>by
  have ih:=wk_ok R hp i fun j hj=>L j (by omega);rw[wk];split
  ·exact ih.cross R
  ·exact(ih.tog (L i (Nat.lt_succ_self i) (by omega))).1
theorem Live.less{one other:Rule}{h:List Int}{i j:Nat}(L:Live one other h j)(hi:i<=j):Live one other h i:=fun k hk=>L k (by omega)
theorem pair_nil{rule:Rule}{h c:List Int}(hp:yi rule (h,c)=true)(hf:zB rule h=none):c=[]:=by
 cases c with
 |nil=>rfl
 |cons j r =>
  obtain⟨h1,h2⟩:=pair_all hp;have hj:=kY h1 j (by simp);have:=idxP_mem (hs:=h) (i:=rule.length) (k:=j.toNat) (by omega) (h2 j (by simp));unfold zB idxG at hf;rw[List.head?_eq_none_iff]at hf;rw[hf]at this;cases this
def isEndB(other:Rule)(pl:Plc):Bool:=decide (pl.1=2)&&(zB other pl.2.1).isNone
theorem WP.end_iff{one other:Rule}{n:Int}{i:Nat}{pl:Plc}(w:WP one other n i pl)(h0:i%2=0->i=0\/fstP one other pl≠none):isEndB other pl=true↔i%2=1/\fstP one other pl=none:=by
 obtain⟨hs,hp⟩:=ya w.ip;have par:=w.par;unfold isEndB;rw[and_eq_true,decide_eq_true_eq,Option.isNone_iff_eq_none];constructor
 ·rintro⟨e,hf⟩;have eo:onR one other pl.1=other:=by rw[e];rfl
  have hf':fstP one other pl=none:=by unfold fstP;rw[eo];exact hf
  have hc:=pair_nil hp hf';rw[hc,e]at par;refine⟨?_,hf'⟩;simp at par;omega
 ·rintro⟨hi,hf⟩;have hc:=pair_nil hp hf;rw[hc]at par;have e:pl.1=2:=by
   simp at par;omega
  have eo:onR one other pl.1=other:=by rw[e];rfl
  refine⟨e,?_⟩;unfold fstP at hf;rw[eo]at hf;exact hf
theorem wk_even{one other:Rule}{n:Int}{h:List Int}(R:Rul one other)(hp:Hep n h){i:Nat}(L:Live one other h i)(hi:i%2=0):i=0\/fstP one other (wk one other h i)≠none:=by
 cases i with
 |zero=>exact .inl rfl
 |succ i =>
  right;have hf:=L i (Nat.lt_succ_self i) (by omega);obtain⟨_,_,h1,h2⟩:=(wk_ok R hp i (L.less (le_succ i))).tog hf;have e:wk one other h (i+1)=togG one other (wk one other h i):=by rw[wk,if_neg (by omega)]
  unfold fstP at hf ⊢;rw[e,h1,h2];exact hf
theorem wk_end{one other:Rule}{n:Int}{h:List Int}(R:Rul one other)(hp:Hep n h){i:Nat}(L:Live one other h i):isEndB other (wk one other h i)=true↔i%2=1/\fstP one other (wk one other h i)=none :=
 (wk_ok R hp i L).end_iff fun e=>wk_even R hp L e
theorem wk_inj{one other:Rule}{n:Int}{h:List Int}(R:Rul one other)(hp:Hep n h)(hk:zB one h=none):∀{i j:Nat},i<j->Live one other h j->wk one other h i≠wk one other h j:=by
 intro i
 induction i with
 |zero =>
  intro j hj L e;have w:=wk_ok R hp j L;have par:=w.par;rw[<-e]at par;have hj2:j%2=0:=by
   have:((1:Int)+((0:Nat):Int)+(j:Int))%2=1:=par;omega
  rcases wk_even R hp L hj2 with z|z
  ·omega
  ·rw[<-e]at z;exact z hk
 |succ i ih =>
  intro j hj L e;obtain⟨j,rfl⟩:∃m,j=m+1:=⟨j-1,by omega⟩;have Lj:=L.less (le_succ j);have Li1:=L.less (Nat.le_of_lt hj);have Li:=Li1.less (le_succ i);have wi:=wk_ok R hp i Li;have wj:=wk_ok R hp j Lj;have p1:=(wk_ok R hp (i+1) Li1).par;have p2:=(wk_ok R hp (j+1) L).par;rw[e]at p1;have hm:i%2=j%2:=by omega
  refine ih (by omega) Lj ?_;rw[wk,wk]at e;by_cases c:i%2=0
  ·rw[if_pos c,if_pos (by omega)]at e;rw[<-wi.crossB,e,wj.crossB]
  ·rw[if_neg c,if_neg (by omega)]at e;rw[<-(wi.tog (Li1 i (Nat.lt_succ_self i) (by omega))).2.1,e,(wj.tog (L j (Nat.lt_succ_self j) (by omega))).2.1]
noncomputable def univ(L n:Nat):List Plc:=[1,2].flatMap fun s=>(yE 26 n n).flatMap fun h=>(chG (upto L)).map fun c=>(s,h,c)
theorem univ_len{L n:Nat}(hL:L<=6)(hn:n<=24):(univ L n).length<=201600:=by
 unfold univ;have h2:(chG (upto L)).length<=64:=by
  rw[chG_len L (upto L) (upto_len L)];exact le_trans (Nat.pow_le_pow_right (by decide) hL) (by decide)
 have h3:=part_few hn;have h4:∀s:Int,((yE 26 n n).flatMap fun h=>(chG (upto L)).map fun c=>((s,h,c):Plc)).length<=100800:=fun s=>by
  rw[List.length_flatMap];have:∀l:List (List Int),(l.map fun h=>((chG (upto L)).map fun c=>((s,h,c):Plc)).length).sum=l.length*(chG (upto L)).length:=fun l=>by
   induction l with
   |nil=>simp
   |cons x r ih =>
    rw[map_cons,List.sum_cons,ih,length_map,length_cons,Nat.succ_mul];omega
  rw[this];exact le_trans (Nat.mul_le_mul h3 h2) (by decide)
 have h5:=h4 1;have h6:=h4 2;rw[List.flatMap_cons,List.flatMap_cons,List.flatMap_nil,append_nil,length_append];omega
theorem Hep.part{m:Nat}{h:List Int}(p:Hep (m:Int) h)(hm:m<=24):h∈yE 26 m m:=by
 refine partF_full 26 m m h (by omega) p.pw (fun x hx=>⟨p.pos x hx,?_⟩) p.sum;have e:=p.sum;obtain⟨l,r,rfl⟩:=List.append_of_mem hx;rw[List.sum_append,List.sum_cons]at e;have h1:0<=l.sum:=sum_ge0 fun y hy=>p.pos y (by simp[hy]);have h2:0<=r.sum:=sum_ge0 fun y hy=>p.pos y (by simp[hy]);omega
theorem wk_univ{one other:Rule}{m:Nat}{h:List Int}(R:Rul one other)(hp:Hep (m:Int) h)(hm:m<=24)(hk:zB one h=none){k:Nat}(L:Live one other h k):k<(univ one.length m).length:=by
 have hnd:((List.range (k+1)).map (wk one other h)).Nodup:=by
  rw[List.nodup_iff_pairwise_ne,List.pairwise_map];refine List.Pairwise.imp_of_mem (fun{a b} ha hb hab=>?_) List.pairwise_lt_range;exact wk_inj R hp hk hab (L.less (by have:=mem_range.mp hb;omega))
 have:=nodup_few hnd (u:=univ one.length m) fun x hx=>by
  obtain⟨i,hi,rfl⟩:=mem_map.mp hx;have w:=wk_ok R hp i (L.less (by have:=mem_range.mp hi;omega));obtain⟨hs,hpr⟩:=ya w.ip;unfold univ;refine List.mem_flatMap.mpr ⟨(wk one other h i).1,by simp;exact hs,List.mem_flatMap.mpr ⟨(wk one other h i).2.1,w.hep.part hm,mem_map.mpr ⟨(wk one other h i).2.2,?_,rfl⟩⟩⟩;have hc:=(pair_all hpr).1;rw[onR_len R.ln]at hc;exact chG_full _ (isCh_pwP hc) fun x hx=>kY hc x hx
 rw[length_map,List.length_range]at this;omega
theorem wk_few{one other:Rule}{m:Nat}{h:List Int}(R:Rul one other)(hp:Hep (m:Int) h)(hm:m<=24)(hk:zB one h=none){k:Nat}(L:Live one other h k):k<201600 :=
 lt_of_lt_of_le (wk_univ R hp hm hk L) (univ_len R.l6 hm)
structure EndAt(one other:Rule)(h:List Int)(m:Nat):Prop where
 lv:Live one other h m
 od:m%2=1
 no:fstP one other (wk one other h m)=none
theorem EndAt.uniq{one other:Rule}{h:List Int}{m m':Nat}(a:EndAt one other h m)(b:EndAt one other h m'):m=m':=by
 rcases Nat.lt_trichotomy m m' with c|c|c
 ·exact absurd a.no (b.lv m c a.od)
 ·exact c
 ·exact absurd b.no (a.lv m' c b.od)
theorem Live.next{one other:Rule}{h:List Int}{k:Nat}(L:Live one other h k)(hn:¬EndAt one other h k):Live one other h (k+1):=fun i hi ho z=>by
 by_cases c:i=k
 ·subst c;exact hn ⟨L,ho,z⟩
 ·exact L i (by omega) ho z
theorem wk_ends{one other:Rule}{m:Nat}{h:List Int}(R:Rul one other)(hp:Hep (m:Int) h)(hm:m<=24)(hk:zB one h=none):∃k,EndAt one other h k:=by
 refine Classical.byContradiction fun hn=>?_;have:∀k,Live one other h k:=fun k=>by
  induction k with
  |zero=>exact fun i hi=>absurd hi (Nat.not_lt_zero _)
  |succ k ih=>exact ih.next fun e=>hn ⟨k,e⟩
 exact absurd (wk_few R hp hm hk (this 201600)) (lt_irrefl _)
theorem EndAt.side{one other:Rule}{n:Int}{h:List Int}{k:Nat}(R:Rul one other)(hp:Hep n h)(e:EndAt one other h k):(wk one other h k).1=2/\(wk one other h k).2.2=[]/\zB other (wk one other h k).2.1=none:=by
 have w:=wk_ok R hp k e.lv;have:=(wk_end R hp e.lv).mpr ⟨e.od,e.no⟩;unfold isEndB at this;rw[and_eq_true,decide_eq_true_eq,Option.isNone_iff_eq_none]at this;exact⟨this.1,pair_nil (ya w.ip).2 e.no,this.2⟩
noncomputable def endH(one other:Rule)(h:List Int):List Int:=open Classical in if e:∃k,EndAt one other h k then(wk one other h e.choose).2.1 else []
theorem endH_eq{one other:Rule}{h:List Int}{k:Nat}(e:EndAt one other h k):endH one other h=(wk one other h k).2.1:=by
 have x:∃k,EndAt one other h k:=⟨k,e⟩;unfold endH;rw[dif_pos x,x.choose_spec.uniq e]
noncomputable def walkL(one other:Rule)(h:List Int)(k:Nat):List Plc:=(List.range (k+1)).map (wk one other h)
theorem walkL_succ(one other:Rule)(h:List Int)(k:Nat):walkL one other h (k+1)=walkL one other h k++[wk one other h (k+1)]:=by
 unfold walkL;rw[List.range_succ,map_append];rfl
theorem walkL_len(one other:Rule)(h:List Int)(k:Nat):(walkL one other h k).length=k+1:=by unfold walkL;rw[length_map,List.length_range]
theorem walkL_at(one other:Rule)(h:List Int){k i:Nat}(hi:i<=k):(walkL one other h k)[i]? =some (wk one other h i):=by
 unfold walkL;rw[getElem?_map,List.getElem?_range (by omega)];rfl
theorem walk_last{one other:Rule}{hs:List Int}{k:Nat}{H:Hp}{xs:List V}(h:All2 yH H (walkL one other hs k) xs):∃ys v,xs=ys++[v]/\ys.length=k/\yH (wk one other hs k) v H:=by
 have hl:=h.length;rw[walkL_len]at hl;have hne:xs≠[]:=fun e=>by rw[e]at hl;cases hl
 have hd:xs.dropLast.length=k:=by rw[List.length_dropLast];omega
 refine⟨xs.dropLast,xs.getLast hne,(List.dropLast_concat_getLast hne).symm,hd,?_⟩;have e:xs[k]? =some (xs.getLast hne):=by
  rw[List.getLast_eq_getElem,getElem?_eq_getElem (by omega)];congr 2;omega
 obtain⟨a,ha,r⟩:=h.get e;rw[walkL_at one other hs (le_refl k)]at ha;cases ha;exact r
theorem walk_snoc{one other:Rule}{hs:List Int}{k:Nat}{H H':Hp}{xs:List V}{v:V}(h:All2 yH H (walkL one other hs k) xs)(t:Tups H H')(hv:yH (wk one other hs (k+1)) v H'):All2 yH H' (walkL one other hs (k+1)) (xs++[v]):=by
 rw[walkL_succ];exact(h.imp fun _ _ z=>z.mv t).append (.cons hv .nil)
theorem yZ{rule:Rule}{m:Nat}{h:List Int}(hh:h∈zJ rule m)(hm:m<=24):Hep (m:Int) h/\zB rule h=none:=by
 obtain⟨h1,h2⟩:=mem_filter.mp hh;exact⟨part_hep 26 m m h (by omega) h1,by simpa using h2⟩
theorem endH_hep{one other:Rule}{m:Nat}{h:List Int}(R:Rul one other)(hp:Hep (m:Int) h)(hm:m<=24)(hk:zB one h=none):Hep (m:Int) (endH one other h)/\zB other (endH one other h)=none:=by
 obtain⟨k,e⟩:=wk_ends R hp hm hk;rw[endH_eq e];exact⟨(wk_ok R hp k e.lv).hep,(e.side R hp).2.2⟩
def swS(pl:Plc):Plc:=(3-pl.1,pl.2)
theorem onR_sw{one other:Rule}{s:Int}(h:s=1\/s=2):onR other one (3-s)=onR one other s:=by
 rcases h with e|e <;>subst e <;>rfl
theorem cross_sw{one other:Rule}{pl:Plc}(h:pl.1=1\/pl.1=2):j5 other one (swS pl)=swS (j5 one other pl):=by
 unfold j5 swS;dsimp only;have e1:onR other one (3-pl.1)=onR one other pl.1:=onR_sw h;have e2:onR other one (3-(3-pl.1))=onR one other (3-pl.1):=onR_sw (s:=3-pl.1) (by omega);rw[e1,e2]
theorem tog_sw{one other:Rule}{pl:Plc}(h:pl.1=1\/pl.1=2):togG other one (swS pl)=swS (togG one other pl):=by
 unfold togG;have e1:onR other one (swS pl).1=onR one other pl.1:=onR_sw h;rw[e1];show(match y9 (onR one other pl.1) pl.2 with|some pc=>(_,pc)|none=>_)=_;cases y9 (onR one other pl.1) pl.2 <;>rfl
theorem fst_sw{one other:Rule}{pl:Plc}(h:pl.1=1\/pl.1=2):fstP other one (swS pl)=fstP one other pl:=by
 unfold fstP;rw[show onR other one (swS pl).1=onR one other pl.1 from onR_sw h];rfl
theorem wk_back{one other:Rule}{n:Int}{h:List Int}{m:Nat}(R:Rul one other)(hp:Hep n h)(e:EndAt one other h m):∀i,i<=m->wk other one (wk one other h m).2.1 i=swS (wk one other h (m-i)):=by
 intro i
 induction i with
 |zero =>
  intro _;obtain⟨s1,s2,_⟩:=e.side R hp;show(1,(wk one other h m).2.1,[])=(3-(wk one other h m).1,(wk one other h m).2.1,(wk one other h m).2.2);rw[s1,s2];rfl
 |succ i ih =>
  intro hi;have lt:m-(i+1)<m:=by omega
  have w:=wk_ok R hp (m-(i+1)) (e.lv.less (by omega));have w2:=wk_ok R hp (m-i) (e.lv.less (by omega));have em:m-i=(m-(i+1))+1:=by omega
  have od:=e.od;rw[wk,ih (by omega)];by_cases c:i%2=0
  ·rw[if_pos c,cross_sw (ya w2.ip).1,em,wk,if_pos (by omega),w.crossB]
  ·rw[if_neg c,tog_sw (ya w2.ip).1,em,wk,if_neg (by omega),(w.tog (e.lv _ lt (by omega))).2.1]
theorem EndAt.back{one other:Rule}{n:Int}{h:List Int}{m:Nat}(R:Rul one other)(hp:Hep n h)(hk:zB one h=none)(e:EndAt one other h m):EndAt other one (wk one other h m).2.1 m/\(wk other one (wk one other h m).2.1 m).2.1=h:=by
 have hb:=wk_back R hp e;have od:=e.od;have e0:wk other one (wk one other h m).2.1 m=swS (1,h,[]):=by rw[hb m (le_refl _),Nat.sub_self];rfl
 refine⟨⟨fun i hi ho=>?_,od,?_⟩,by rw[e0];rfl⟩
 ·rw[hb i (by omega),fst_sw (ya (wk_ok R hp (m-i) (e.lv.less (by omega))).ip).1];rcases wk_even R hp (e.lv.less (show m-i<=m by omega)) (by omega)with z|z
  ·omega
  ·exact z
 ·rw[e0];exact hk
theorem endH_back{one other:Rule}{m:Nat}{h:List Int}(R:Rul one other)(hp:Hep (m:Int) h)(hm:m<=24)(hk:zB one h=none):endH other one (endH one other h)=h:=by
 obtain⟨k,e⟩:=wk_ends R hp hm hk;rw[endH_eq e];obtain⟨e',h'⟩:=e.back R hp hk;rw[endH_eq e',h']
def jI:Str:=⟨#[32]⟩
def zQ:Nat->List Nat->List (List Nat)
 | 0,l=>[l]
 | _+1,[]=>[[]]
 |k+1,c::l=>if c=32 then []::zQ k l else match zQ (k+1) l with
  | []=>[]
  |w::r=>(c::w)::r
theorem splitL_zero(l:List Nat):zQ 0 l=[l]:=by cases l <;>simp[zQ]
def wa:Nat->Nat->List Nat->List Nat
 | 0,_,_=>[]
 | _+1,_,[]=>[]
 |k+1,a,c::l=>if c=32 then a::wa k (a+1) l else wa (k+1) (a+1) l
theorem cutsL_nil(k a:Nat):wa k a []=[]:=by cases k <;>simp[wa]
theorem j0(a:Nat)(l:List Nat):wa 0 a l=[]:=by cases l <;>simp[wa]
theorem occ_cuts(x:Str)(limit:Nat):∀(n a free:Nat)(acc:Array Nat),free<=a->a+n=x.length+1->
  (forIn (List.range' a n) (acc,free) (StrLaws.occBody x jI x.length limit)).run.fst.toList=acc.toList++wa (limit-acc.size) a (x.cps.toList.drop a)
 | 0,a,free,acc,_,hn=>by
  have hd:x.cps.toList.drop a=[]:=by
   apply List.drop_eq_nil_of_le;have:x.cps.toList.length=x.length:=by simp[Str.length]
   omega
  rw[hd,cutsL_nil,append_nil];rfl
 |n+1,a,free,acc,hf,hn=>by
  have hlen:x.cps.toList.length=x.length:=by simp[Str.length]
  rw[List.range'_succ,List.forIn_cons];unfold StrLaws.occBody;have h1:=StrLaws.subAt_one x 32 a;by_cases hc:x.cps.toList[a]? =some 32
  ·obtain⟨h2,h3⟩:=h1.mpr hc;have hlt:=(List.getElem?_eq_some_iff.mp hc).1;have hd:x.cps.toList.drop a=32::x.cps.toList.drop (a+1):=by
    rw[drop_eq_getElem_cons hlt,(List.getElem?_eq_some_iff.mp hc).2]
   by_cases hs:acc.size<limit
   ·rw[if_pos ⟨⟨⟨hs,hf⟩,h2⟩,h3⟩];show(forIn (List.range' (a+1) n) (acc.push a,a+1) (StrLaws.occBody x jI x.length limit)).run.fst.toList=_;rw[occ_cuts x limit n (a+1) (a+1) (acc.push a) (le_refl _) (by omega),hd,Array.toList_push,Array.size_push,show limit-acc.size=(limit-(acc.size+1))+1 by omega,wa,if_pos rfl,append_assoc];rfl
   ·rw[if_neg fun z=>hs z.1.1.1];show(forIn (List.range' (a+1) n) (acc,free) (StrLaws.occBody x jI x.length limit)).run.fst.toList=_;rw[occ_cuts x limit n (a+1) free acc (by omega) (by omega),show limit-acc.size=0 by omega,j0,j0]
  ·rw[if_neg fun z=>hc (h1.mp ⟨z.1.2,z.2⟩)];show(forIn (List.range' (a+1) n) (acc,free) (StrLaws.occBody x jI x.length limit)).run.fst.toList=_;rw[occ_cuts x limit n (a+1) free acc (by omega) (by omega)];congr 1;by_cases hlt:a<x.cps.toList.length
   ·rw[drop_eq_getElem_cons hlt];cases limit-acc.size with
    |zero=>rw[j0,j0]
    |succ k =>
     rw[wa,if_neg fun e=>hc (by rw[getElem?_eq_getElem hlt,e])]
   ·rw[List.drop_eq_nil_of_le (by omega),List.drop_eq_nil_of_le (by omega),cutsL_nil,cutsL_nil]
theorem occ_blank(x:Str)(limit:Nat):Builtin.Str.occurrences x jI 0 x.length limit=wa limit 0 x.cps.toList:=by
 rw[StrLaws.occ_eq,show x.length+1-0=x.length+1 by omega,occ_cuts x limit (x.length+1) 0 0 #[] (le_refl _) (by omega)];simp
theorem parts_cuts(x:Str):∀(l:List Nat)(k a b:Nat),a<=b->x.cps.toList.drop b=l->
  (StrLaws.partsFrom x 1 a (wa k b l)).map (fun w=>w.cps.toList)=match zQ k l with| []=>[]|w::r=>((x.cps.toList.drop a).take (b-a)++w)::r
 |l,0,a,b,hab,hd=>by
  rw[j0,splitL_zero];show [(Builtin.Str.strSub x a x.length).cps.toList]=[_++l];have hlen:x.cps.toList.length=x.length:=by simp[Str.length]
  rw[StrLaws.strSub_toList,<-hd];congr 1;have e1:(x.cps.toList.drop a).take (x.length-a)=x.cps.toList.drop a:=take_of_length_le (by rw[length_drop];omega);rw[e1]
  conv=>lhs;rw[<-List.take_append_drop (b-a) (x.cps.toList.drop a)]
  rw[List.drop_drop,show a+(b-a)=b by omega]
 | [],k+1,a,b,hab,hd=>by
  rw[cutsL_nil];show [(Builtin.Str.strSub x a x.length).cps.toList]=[_++[]];have hlen:x.cps.toList.length=x.length:=by simp[Str.length]
  rw[StrLaws.strSub_toList,append_nil];have h1:x.length<=b:=by
   have:=congrArg length hd;rw[length_drop,hlen]at this;have e0:([]:List Nat).length=0:=rfl;omega
  rw[take_of_length_le (by rw[length_drop];omega),take_of_length_le (by rw[length_drop];omega)]
 |c::l,k+1,a,b,hab,hd=>by
  have hlt:b<x.cps.toList.length:=by
   refine Decidable.byContradiction fun h=>?_;rw[List.drop_eq_nil_of_le (by omega)]at hd;cases hd
  have hd':x.cps.toList.drop (b+1)=l:=by
   rw[drop_eq_getElem_cons hlt]at hd;exact(List.cons.inj hd).2
  have hc:x.cps.toList[b]? =some c:=by
   rw[drop_eq_getElem_cons hlt]at hd;rw[getElem?_eq_getElem hlt,(List.cons.inj hd).1]
  by_cases e:c=32
  ·subst e;rw[wa,if_pos rfl];have es:zQ (k+1) (32::l)=[]::zQ k l:=by rw[zQ,if_pos rfl]
   rw[es];show(Builtin.Str.strSub x a b).cps.toList::(StrLaws.partsFrom x 1 (b+1) (wa k (b+1) l)).map _=((x.cps.toList.drop a).take (b-a)++[])::zQ k l;rw[parts_cuts x l k (b+1) (b+1) (le_refl _) hd',StrLaws.strSub_toList,append_nil];cases zQ k l with
   |nil=>rfl
   |cons w r=>simp
  ·rw[wa,if_neg e,parts_cuts x l (k+1) a (b+1) (by omega) hd'];have es:zQ (k+1) (c::l)=match zQ (k+1) l with| []=>[]|w::r=>(c::w)::r:=by
    rw[zQ,if_neg e]
   rw[es];cases zQ (k+1) l with
   |nil=>rfl
   |cons w r =>
    dsimp only;congr 1;have e2:(x.cps.toList.drop a).take (b+1-a)=(x.cps.toList.drop a).take (b-a)++[c]:=by
     rw[show b+1-a=(b-a)+1 by omega,take_succ,List.getElem?_drop,show a+(b-a)=b by omega,hc];rfl
    rw[e2,append_assoc];rfl
theorem jG(x:Str)(k:Nat):(Txt.splitMax x jI k).map (fun w=>w.cps.toList)=zQ k x.cps.toList:=by
 have hcut:=occ_blank x k;have hlim:limitOf x (k:Int)=k:=by
  unfold limitOf;rw[if_neg (by omega)];omega
 have key:(StrLaws.partsFrom x 1 0 (wa k 0 x.cps.toList)).map (fun w=>w.cps.toList)=zQ k x.cps.toList:=by
  rw[parts_cuts x x.cps.toList k 0 0 (le_refl _) rfl];cases zQ k x.cps.toList with
  |nil=>rfl
  |cons w r=>simp
 have one:wa k 0 x.cps.toList=[]->[x].map (fun w=>w.cps.toList)=zQ k x.cps.toList:=fun e=>by
  rw[<-key,e];show [x.cps.toList]=[(Builtin.Str.strSub x 0 x.length).cps.toList];rw[StrLaws.strSub_toList];have hlen:x.cps.toList.length=x.length:=by simp[Str.length]
  rw[List.drop_zero,take_of_length_le (by omega)]
 unfold Txt.splitMax;rw[hlim,hcut];split
 ·rename_i hc;refine one ?_;cases hx:wa k 0 x.cps.toList with
  |nil=>rfl
  |cons c r =>
   exfalso;rw[hx]at hcut;have h32:32∈x.cps.toList:=by
    refine Decidable.byContradiction fun hno=>?_;have:∀(l:List Nat)(k a:Nat),32∉l->wa k a l=[]:=by
     intro l
     induction l with
     |nil=>intro k a _;exact cutsL_nil k a
     |cons y l ih =>
      intro k a hn;cases k with
      |zero=>exact j0 _ _
      |succ k =>
       rw[wa,if_neg fun e=>hn (by simp[e])];exact ih _ _ fun z=>hn (by simp[z])
    rw[this _ _ _ hno]at hx;cases hx
   have hlen:x.cps.toList.length=x.length:=by simp[Str.length]
   rw[Bool.or_eq_true,decide_eq_true_eq,decide_eq_true_eq]at hc;rcases hc with h|h
   ·have:jI.length=1:=rfl;have:=List.length_pos_of_mem h32;omega
   ·have hb:PySem.Builtin.Str.strKind jI=1:=by decide+kernel
    rw[hb]at h;unfold PySem.Builtin.Str.strKind at h;split at h
    ·omega
    ·split at h <;>omega
 ·split
  ·rename_i he;exact one (List.isEmpty_iff.mp he)
  ·rw[StrLaws.partsBetween_eq];exact key
theorem split_is_max(x:Str):Txt.split x jI=Txt.splitMax x jI ((x.length+1:Nat):Int):=by
 unfold Txt.split Txt.splitMax limitOf;rw[if_neg (show ¬(((x.length+1:Nat):Int)<0)by omega),toNat_natCast]
theorem splitL_cat:∀{w:List Nat}(k:Nat)(r:List Nat),32∉w->zQ (k+1) (w++32::r)=w::zQ k r
 | [],k,r,_=>by rw[List.nil_append,zQ,if_pos rfl]
 |c::w,k,r,h=>by
  rw[List.cons_append,zQ,if_neg fun e=>h (by simp[e]),splitL_cat k r fun z=>h (by simp[z])]
theorem splitL_one:∀{w:List Nat}(k:Nat),32∉w->zQ k w=[w]
 |w,0,_=>splitL_zero w
 | [],k+1,_=>by rw[zQ]
 |c::w,k+1,h=>by rw[zQ,if_neg fun e=>h (by simp[e]),splitL_one (k+1) fun z=>h (by simp[z])]
section
variable{X:Cx}
theorem mt_splitM:MtR X "str.split" (fun x vs H Q=>∃ z sep k,x= .str z/\vs=[.str sep,.int k]/\(sep.length==0)=false/\(0<=k/\k<=1000)/\z.length<=1000000/\ ∀l,H l=none->Q (.ref l) (upd H l (.lst ((Txt.splitMax z sep k).map V.str)))):=by
 intro pins s σ H x vs v us Q I rx rv h;obtain⟨z,sep,k,rfl,rfl,hy,hk,hz,q⟩:=h;obtain⟨t,rfl⟩:=rx
 match us,rv with
 | _,.cons ru (.cons rk .nil) =>
  obtain⟨u',rfl⟩:=ru;obtain⟨v',rfl⟩:=rk;have hkk:(decide (k< -(2^63:Int))||decide (k>=2^63))=false:=by
   rw[Bool.or_eq_false_iff,decide_eq_false_iff_not,decide_eq_false_iff_not];omega
  have hl:(Builtin.Str.partsBetween z (Builtin.Str.occurrences z sep 0 z.length (limitOf z k)) sep.length).length<=1001:=by
   unfold Builtin.Str.partsBetween;have:=StrLaws.occ_length_le z sep 0 z.length (limitOf z k);have h2:limitOf z k<=1000:=by
    unfold limitOf;rw[if_neg (by omega)];omega
   simp;omega
  have hsz:z.length<=sizeLine:=by rw[sizeLine_eq];omega
  have fin:∀(l:List (Str×Tok))(tk:Nat),l.map (·.1)=Txt.splitMax z sep k->EP X pins σ Q (.ref s.heap.objs.size) {s with heap:=s.heap.push {cls:=.type "list",data:=.seq (strValues l).toArray},toks:=tk}:=fun l tk e=>by
   have hlen:((Txt.splitMax z sep k).map V.str).length<=sizeLine:=by
    rw[length_map];unfold Txt.splitMax;split
    ·show 1<=sizeLine;decide
    ·split
     ·show 1<=sizeLine;decide
     ·rw[sizeLine_eq];omega
   refine⟨.ref s.heap.objs.size,_,I.laid (fun b o e=>Heap.get?_push_of_some _ e) (le_refl _) (show yh X.prog X.w _ _ _ (.lst ((Txt.splitMax z sep k).map V.str))from⟨hlen,strValues l,0,?_,Heap.get?_push_size _ rfl⟩),rfl,q _ (I.hok.fresh (le_refl _))⟩;rw[<-e];exact vals_strs l
  cases h1:(decide (z.length<sep.length)||decide (Builtin.Str.strKind z<Builtin.Str.strKind sep))
  ·cases hf:(Builtin.Str.occurrences z sep 0 z.length (limitOf z k)).isEmpty
   ·refine call_meets F.slot_str_split (typeIs_str _ _ _) F.entry_str_split (F.args_str_split_3 _ _ _) (meets_str_split_sep_max z sep k t u' v' hkk h1 hy hf hsz (by rw[sizeLine_eq];omega)) ?_;show wants _ _ _ {s with toks:=_,heap:=s.heap.push {cls:=.type "list",data:=.seq (strsFrom s.toks (Builtin.Str.partsBetween z (Builtin.Str.occurrences z sep 0 z.length (limitOf z k)) sep.length)).toArray}};rw[strsFrom_eq];exact fin (numbered s.toks _) _ ((numbered_texts _ _).trans ((if_neg (ne_true_of_eq_false h1)).trans (if_neg (ne_true_of_eq_false hf))).symm)
   ·exact call_meets F.slot_str_split (typeIs_str _ _ _) F.entry_str_split (F.args_str_split_3 _ _ _) (meets_str_split_max_not_found z sep k t u' v' hkk h1 hy hf)
     (fin [(z,t)] s.toks ((if_neg (ne_true_of_eq_false h1)).trans (if_pos hf)).symm)
  ·exact call_meets F.slot_str_split (typeIs_str _ _ _) F.entry_str_split (F.args_str_split_3 _ _ _) (meets_str_split_max_cannot_occur z sep k t u' v' hkk h1)
    (fin [(z,t)] s.toks (if_pos h1).symm)
end
section
variable{X:Cx}
theorem call_dict_dict:jH X (.type "dict") (fun xs H Q=>∃(a:Addr)(kvs:List (Key×V)),xs=[.ref a]/\H a=some (.dK kvs)/\ ∀p,H p=none->Q (.ref p) (upd H p (.dK kvs))):=by
 intro pins s σ H xs us Q I r h;obtain⟨a,kvs,rfl,hq,q⟩:=h;obtain⟨u,rfl,rx⟩:=vals1 r;cases rx;obtain⟨hz,lo,ws,rel,dd⟩:=dk_of I.hok hq;refine kt_call_dict lo dd (by rw[<-rel.length];exact hz) fun h' dd' hs=>?_;have hb:sysModules<s.heap.objs.size:=I.big;refine⟨.ref s.heap.objs.size,_,I.laid (t':=s.toks) (a:=s.heap.objs.size) (o:=.dK kvs) (fun b o e=>?_) (le_refl _) (show yh X.prog X.w _ _ _ (.dK kvs)from⟨hz,beq_eq_false_iff_ne.mpr (Ne.symm (ne_of_lt hb)),ws,rel,dd'⟩),rfl,q _ (I.hok.fresh (le_refl _))⟩;exact(hs.2 b (ne_of_lt (Heap.lt_size e))).trans (Heap.get?_push_of_some _ e)
end
def KDict(P:Program)(w:World)(K:W.Frag)(a:Addr)(ws:List (Key×Value)):Prop:=(a==sysModules)=false/\ ∀h:Heap,K.In h->h.DictOf (yw P w) a ws
section
variable{X:Cx}
theorem op_inKD:OpR X (compareOp .In) (fun x y H Q=>∃(a:Addr)(ws:List (Key×Value))(z:Str),x= .str z/\y= .ref a/\KDict X.prog X.w X.K a ws/\Q (.bl (valueAt ws (.inr z)).isSome) H):=by
 intro pins s σ H x y v u Q I rx ry h;obtain⟨a,ws,z,rfl,rfl,⟨hd,hk⟩,q⟩:=h;obtain⟨t,rfl⟩:=rx;cases ry;exact wpAny_in_of (k:=.inr z) (kV_is (k:=.inr z) ⟨t,rfl⟩) hd (hk _ I.kIn).mapOf ⟨.bl _,H,I.tok _,rfl,q⟩
theorem op_notInKD:OpR X (compareOp .NotIn) (fun x y H Q=>∃(a:Addr)(ws:List (Key×Value))(z:Str),x= .str z/\y= .ref a/\KDict X.prog X.w X.K a ws/\Q (.bl (!(valueAt ws (.inr z)).isSome)) H):=by
 intro pins s σ H x y v u Q I rx ry h;obtain⟨a,ws,z,rfl,rfl,⟨hd,hk⟩,q⟩:=h;obtain⟨t,rfl⟩:=rx;cases ry;exact wpAny_notIn_of (k:=.inr z) (kV_is (k:=.inr z) ⟨t,rfl⟩) hd (hk _ I.kIn).mapOf ⟨.bl _,H,I.tok _,rfl,q⟩
def tKDGet(P:Program)(w:World)(K:W.Frag)(td ty:TE):TE:=fun σ H Q=>td σ H fun x H1=>ty σ H1 fun y H2=>∃(a b:Addr)(ws:List (Key×Value))(z:Str),x= .ref a/\y= .str z/\KDict P w K a ws/\valueAt ws (.inr z)=some (.ref b)/\Q (.ref b) H2
theorem pe_kdget{o i:Expr}{td ty:TE}{pos:Pos}(ho:PE X o td)(hi:PE X i ty)(hs:NoSl i):PE X (.Subscript o i pos) (tKDGet X.prog X.w X.K td ty):=by
 intro pins s σ H Q I h;refine subD_of PySem.F.slot_dict_getitem.lookup hs (thn (ho pins s σ H _ I h) fun u s1 ⟨x,H1,I1,rx,q1⟩=>thn (hi pins s1 σ H1 _ I1 q1) fun iv s2 ⟨y,H2,I2,ry,a,b,ws,z,ex,ey,⟨hd,hk⟩,hv,q2⟩=>?_);subst ex ey;obtain rfl:u=Value.ref a:=rx;obtain⟨t,rfl⟩:=ry;have dd:=hk _ I2.kIn;exact⟨dd.typeIs,wpAny_getItem_of (k:=.inr z) (kV_is (k:=.inr z) ⟨t,rfl⟩) dd.mapOf hv ⟨.ref b,H2,I2.tok _,rfl,q2⟩⟩
end
section
variable{X:Cx}{E:XK}
structure CallsOk(X:Cx)(f:Addr)(sp:Sp)(E:XK):Prop where
 kp:W.keepIn X.K (.ref f)=true
 run:∀(pins:List (Addr×Obj))(σ:L2.St)(H:Hp)(s:Shared)(Q:VK)(us:List Value)(vs:List V),Inv X pins σ H s->Vals vs us->sp vs H Q E->wpAny (model X.prog X.w) X.A (call (.ref f) us) (EP X pins σ Q) X.xe s
theorem CallsOk.of{CX:CXT}{k:Nat}{f:Addr}{fd:FuncData}{ps:List Str}{sp:Sp}{cm:Bool}(F:FnOk X.prog X.w X.K X.mg X.base CX k f fd ps sp cm)(hr:Room k X.A cm)(hk:W.keepIn X.K (.ref f)=true)(hb:Binds X.K fd ps [])(hx:Passes CX X E):CallsOk X f sp E :=
 ⟨hk,fun pins σ H s Q us vs I r h=>run_fn F hr hb .nil hx I r (by rw[append_nil];exact h)⟩
def tCallE(G:Addr->Sp->Prop)(E:XK)(t0:TE)(t:TA):TE:=fun σ H Q=>t0 σ H fun x H1=>∃ f sp,x= .ref f/\G f sp/\t σ H1 fun vs H2=>sp vs H2 Q E
theorem pe_callE{G:Addr->Sp->Prop}{e0 e:Expr}{es:List Expr}{t0:TE}{t:TA}{pos:Pos}(ok:∀f sp,G f sp->CallsOk X f sp E)(h0:PE X e0 t0)(ha:PA X (e::es) t)(hc:∀{Q:Value->Shared->Prop} {s:Shared},wpAny (model X.prog X.w) X.A (eval e0 X.env) (fun f s1=>wpAny (model X.prog X.w) X.A (callWith pos f [] (backTo pos (starEach (e::es) X.env)) []) Q X.xe s1) X.xe s->wpAny (model X.prog X.w) X.A (eval (.Call e0 (e::es) [] pos) X.env) Q X.xe s)(he:starEach (e::es) X.env=(false,eval e X.env)::starEach es X.env:=by rfl)(hpl:(backTo pos (starEach es X.env)).any (·.1)=false:=by rfl):PE X (.Call e0 (e::es) [] pos) (tCallE G E t0 t):=by
 intro pins s σ H Q I h;refine hc (thn (h0 pins s σ H _ I h) fun u s1 ⟨x,H1,I1,rx,f,sp,ex,g,q⟩=>?_);subst ex;obtain rfl:u=Value.ref f:=rx;have C:=ok f sp g;refine W.callWith_K (h₀:=X.base) I1.ok.mod.kin C.kp (thn (ha pos pins s1 σ H1 _ I1 q) fun us s2 ⟨vs,H2,I2,r,q2⟩=>⟨I2.kIn,?_⟩) he hpl;exact C.run pins σ H2 s2 Q us vs I2 r q2
end
section
variable{X:Cx}
def rSlX:V->Option Int->Option Int->Hp->VK->Prop:=fun x lo hi H Q=>∃ z,x= .str z/\z.length<=sizeLine/\Q (.str (Txt.slice z lo hi)) H
theorem sl_strX:SlR X rSlX:=by
 intro pins s σ H x v vl vu lo hi sl Q I rx hs pl pu h;obtain⟨z,rfl,hz,q⟩:=h;obtain⟨t,rfl⟩:=rx;refine⟨"str",_,F.slot_str_getitem.lookup,typeIs_str _ _ _,?_⟩;cases pl with
 |none =>
  cases pu with
  |none=>exact wpAny_getItem_str_slice (l:=none) (u:=none) (st:=none) hs rfl (post_val_or_str ⟨le_trans (Txt.slice_le z none none) hz,fun t' k=>⟨.str (Txt.slice z none none),H,I.tok k,⟨t',rfl⟩,q⟩⟩)
  |int j tj=>exact wpAny_getItem_str_slice (l:=none) (u:=some (j,tj)) (st:=none) hs rfl (post_val_or_str ⟨le_trans (Txt.slice_le z none (some j)) hz,fun t' k=>⟨.str (Txt.slice z none (some j)),H,I.tok k,⟨t',rfl⟩,q⟩⟩)
 |int i ti =>
  cases pu with
  |none=>exact wpAny_getItem_str_slice (l:=some (i,ti)) (u:=none) (st:=none) hs rfl (post_val_or_str ⟨le_trans (Txt.slice_le z (some i) none) hz,fun t' k=>⟨.str (Txt.slice z (some i) none),H,I.tok k,⟨t',rfl⟩,q⟩⟩)
  |int j tj=>exact wpAny_getItem_str_slice (l:=some (i,ti)) (u:=some (j,tj)) (st:=none) hs rfl (post_val_or_str ⟨le_trans (Txt.slice_le z (some i) (some j)) hz,fun t' k=>⟨.str (Txt.slice z (some i) (some j)),H,I.tok k,⟨t',rfl⟩,q⟩⟩)
theorem ps_try0{body:List Stmt}{h₀:ExceptHandler}{hs:List ExceptHandler}{t:TS}{pos:Pos}(hb:PSs X.nox body t):PS X (.Try body (h₀::hs) [] [] pos) t:=by
 intro pins s σ H D I h;refine wpAny_Try_except (wpAny_mono (hb pins s σ H D (I.wish _) h) (fun f s1 hf=>?_) fun _ _ z=>False.elim z);cases f with
 |next=>exact wpAny_execs_nil (SP.unwish hf)
 |brk=>exact SP.unwish hf
 |cont=>exact SP.unwish hf
 |ret u=>exact SP.unwish hf
end
abbrev Std:=List (Str×List (List Int))
def zX(S:Std)(n:Str):Option (List (List Int)):=(S.find? fun p=>decide (p.1=n)).map (·.2)
def putS(S:Std)(n:Str)(r:List (List Int)):Std:=if S.any (fun p=>decide (p.1=n))then S.map (fun p=>if p.1=n then(p.1,r)else p)else S++[(n,r)]
def RuleV(r:List (List Int))(v:V)(H:Hp):Prop:=∃ p xs,v= .ref p/\H p=some (.tup xs)/\All2 Tup1 H r xs
theorem RuleV.mv{H H':Hp}{r:List (List Int)}{v:V}(t:Tups H H'):RuleV r v H->RuleV r v H'
 |⟨p,xs,e,h1,h2⟩=>⟨p,xs,e,t _ _ h1,h2.mv t⟩
inductive StdV(H:Hp):Std->List (Key×V)->Prop
 |nil:StdV H [] []
 |cons {n:Str} {r:List (List Int)} {v:V} {S:Std} {kvs:List (Key×V)}:RuleV r v H->StdV H S kvs->StdV H ((n,r)::S) ((Sum.inr n,v)::kvs)
theorem StdV.mv{H H':Hp}(t:Tups H H'):∀{S:Std}{kvs:List (Key×V)},StdV H S kvs->StdV H' S kvs
 | _,_,.nil=>.nil
 | _,_,.cons r q=>.cons (r.mv t) (StdV.mv t q)
theorem StdV.length{H:Hp}:∀{S:Std}{kvs:List (Key×V)},StdV H S kvs->kvs.length=S.length
 | _,_,.nil=>rfl
 | _,_,.cons _ q=>by rw[length_cons,length_cons,q.length]
theorem yJ{p:Str×List (List Int)}{S:Std}{n:Str}(e:p.1=n):zX (p::S) n=some p.2:=by simp[zX,find?_cons,e]
theorem yI{p:Str×List (List Int)}{S:Std}{n:Str}(e:¬p.1=n):zX (p::S) n=zX S n:=by simp[zX,find?_cons,e]
theorem StdV.val{H:Hp}(n:Str):∀{S:Std}{kvs:List (Key×V)},StdV H S kvs->(zX S n=none/\valV kvs (Sum.inr n)=none)\/ ∃r v,zX S n=some r/\valV kvs (Sum.inr n)=some v/\RuleV r v H
 | _,_,.nil=>.inl ⟨rfl,rfl⟩
 | _,_,.cons (n:=m) (r:=r) (v:=v) (S:=S) (kvs:=kvs) hr q=>by
  by_cases e:m=n
  ·subst e;exact .inr ⟨r,v,yJ rfl,valV_pos rfl,hr⟩
  ·have e':¬(Sum.inr m:Key)=Sum.inr n:=fun z=>e (Sum.inr.inj z);rw[yI (p:=(m,r)) e,valV_neg (p:=((Sum.inr m:Key),v)) e'];exact q.val n
theorem StdV.any{H:Hp}(n:Str):∀{S:Std}{kvs:List (Key×V)},StdV H S kvs->(kvs.any fun kv=>decide (kv.1=Sum.inr n))=S.any fun p=>decide (p.1=n)
 | _,_,.nil=>rfl
 | _,_,.cons (n:=m) _ q=>by
  rw[any_cons,any_cons,q.any n];have:decide ((Sum.inr m:Key)=Sum.inr n)=decide (m=n):=key_rr m n;rw[this]
theorem StdV.repl{H:Hp}{n:Str}{r:List (List Int)}{v:V}(hr:RuleV r v H):∀{S:Std}{kvs:List (Key×V)},StdV H S kvs->StdV H (S.map fun p=>if p.1=n then(p.1,r)else p) (kvs.map fun kv=>if kv.1=Sum.inr n then(kv.1,v)else kv)
 | _,_,.nil=>.nil
 | _,_,.cons (n:=m) (r:=r') (v:=v') h0 q=>by
  rw[map_cons,map_cons];by_cases e:m=n
  ·subst e;rw[if_pos rfl,if_pos rfl];exact .cons hr (StdV.repl hr q)
  ·have e':¬(Sum.inr m:Key)=Sum.inr n:=fun z=>e (Sum.inr.inj z);rw[if_neg e,if_neg e'];exact .cons h0 (StdV.repl hr q)
theorem StdV.snoc{H:Hp}{n:Str}{r:List (List Int)}{v:V}(hr:RuleV r v H):∀{S:Std}{kvs:List (Key×V)},StdV H S kvs->StdV H (S++[(n,r)]) (kvs++[(Sum.inr n,v)])
 | _,_,.nil=>.cons hr .nil
 | _,_,.cons h0 q=>.cons h0 (StdV.snoc hr q)
theorem StdV.put{H:Hp}{n:Str}{r:List (List Int)}{v:V}(hr:RuleV r v H){S:Std}{kvs:List (Key×V)}(q:StdV H S kvs):StdV H (putS S n r) (putK kvs (Sum.inr n) v):=by
 unfold putS putK;rw[q.any n];split
 ·exact q.repl hr
 ·exact q.snoc hr
theorem lookS_any(n:Str):∀S:Std,(S.any fun p=>decide (p.1=n))=(zX S n).isSome
 | []=>rfl
 |p::S=>by
  by_cases e:p.1=n
  ·rw[yJ e];simp[e]
  ·rw[yI e,any_cons,decide_eq_false e,Bool.false_or];exact lookS_any n S
theorem lookS_map(n m:Str)(r:List (List Int)):∀S:Std,zX (S.map fun p=>if p.1=n then(p.1,r)else p) m=(zX S m).map fun x=>if m=n then r else x
 | []=>rfl
 |p::S=>by
  rw[map_cons];by_cases h:p.1=n
  ·rw[if_pos h];by_cases e:p.1=m
   ·rw[yJ (p:=(p.1,r)) e,yJ e,Option.map_some,if_pos (e.symm.trans h)]
   ·rw[yI (p:=(p.1,r)) e,yI e];exact lookS_map n m r S
  ·rw[if_neg h];by_cases e:p.1=m
   ·rw[yJ e,yJ e,Option.map_some,if_neg (fun z=>h (e.trans z))]
   ·rw[yI e,yI e];exact lookS_map n m r S
theorem lookS_snoc(n m:Str)(r:List (List Int)):∀S:Std,zX S n=none->zX (S++[(n,r)]) m=if m=n then some r else zX S m
 | [],_=>by
  by_cases e:n=m
  ·rw[if_pos e.symm];exact yJ (p:=(n,r)) e
  ·rw[if_neg (fun z=>e z.symm)];exact yI (p:=(n,r)) e
 |p::S,hn=>by
  have hk:¬p.1=n:=fun z=>by rw[yJ z]at hn;cases hn
  rw[yI hk]at hn;rw[List.cons_append];by_cases e:p.1=m
  ·rw[yJ e,yJ e,if_neg (fun z=>hk (e.trans z))]
  ·rw[yI e,yI e];exact lookS_snoc n m r S hn
theorem lookS_put(S:Std)(n m:Str)(r:List (List Int)):zX (putS S n r) m=if m=n then some r else zX S m:=by
 unfold putS;by_cases a:(S.any fun p=>decide (p.1=n))=true
 ·rw[if_pos a,lookS_map];rw[lookS_any]at a;by_cases e:m=n
  ·subst e;obtain⟨x,hx⟩:=Option.isSome_iff_exists.mp a;rw[hx,if_pos rfl,Option.map_some,if_pos rfl]
  ·rw[if_neg e];cases zX S m with
   |none=>rfl
   |some x=>rw[Option.map_some,if_neg e]
 ·rw[if_neg a];rw[lookS_any]at a;exact lookS_snoc n m r S (by cases h:zX S n with|none=>rfl|some x=>rw[h]at a;exact absurd rfl a)
def StdR(O:List Addr)(S:Std)(v:V)(H:Hp):Prop:=∃ d kvs,v= .ref d/\d∈O/\H d=some (.dK kvs)/\StdV H S kvs
theorem StdR.mv{O O':List Addr}{H H':Hp}{S:Std}{v:V}(t:Tups H H')(k:∀b kvs,b∈O->H b=some (.dK kvs)->H' b=some (.dK kvs))(o:∀b∈O,b∈O'):StdR O S v H->StdR O' S v H'
 |⟨d,kvs,e,m,h1,h2⟩=>⟨d,kvs,e,o d m,k _ _ m h1,h2.mv t⟩
theorem All2.to{α:Type}{R R':α->V->Hp->Prop}{H H':Hp}(f:∀a v,R a v H->R' a v H'):∀{l:List α}{xs:List V},All2 R H l xs->All2 R' H' l xs
 | _,_,.nil=>.nil
 | _,_,.cons h t=>.cons (f _ _ h) (t.to f)
def dkF(d pl ul:Addr):List (Str×V):=[("standing",.ref d),("past",.ref pl),("undone",.ref ul)]
structure DeskAt(C:Addr)(H:Hp)(x:Addr)(O:List Addr)(S:Std)(past undone:List Std):Prop where
 mem:x∈O
 all:∀b∈O,∃o,H b=some o
 at_:∃dx d pl ul xs ys,H x=some (.ins C dx (dkF d pl ul))/\StdR O S (.ref d) H/\H pl=some (.lst xs)/\All2 (StdR O) H past xs/\H ul=some (.lst ys)/\All2 (StdR O) H undone ys/\pl∈O/\ul∈O/\pl≠ul
theorem DeskAt.mv{C:Addr}{H H':Hp}{x:Addr}{O:List Addr}{S:Std}{past undone:List Std}(D:DeskAt C H x O S past undone)(t:Tups H H')(k:∀b o,b∈O->H b=some o->H' b=some o):DeskAt C H' x O S past undone:=by
 obtain⟨m,al,dx,d,pl,ul,xs,ys,h1,h2,h3,h4,h5,h6,m1,m2,ne⟩:=D;have kk:∀b kvs,b∈O->H b=some (.dK kvs)->H' b=some (.dK kvs):=fun b kvs hb e=>k b _ hb e;exact⟨m,fun b hb=>let⟨o,e⟩:=al b hb;⟨o,k b o hb e⟩,dx,d,pl,ul,xs,ys,k _ _ m h1,h2.mv t kk fun _ z=>z,k _ _ m1 h3,h4.imp fun _ _ z=>z.mv t kk fun _ z=>z,k _ _ m2 h5,h6.imp fun _ _ z=>z.mv t kk fun _ z=>z,m1,m2,ne⟩
theorem upd_some{H:Hp}{a b:Addr}{o u:HO}(h:H b=some u):∃o',upd H a o b=some o':=by
 by_cases e:b=a
 ·subst e;exact⟨o,z6⟩
 ·exact⟨u,by rw[zh e];exact h⟩
theorem DeskAt.nin{C:Addr}{H:Hp}{x:Addr}{O:List Addr}{S:Std}{past undone:List Std}(D:DeskAt C H x O S past undone){p:Addr}(h:H p=none):p∉O:=fun m=>by
 obtain⟨o,e⟩:=D.all p m;rw[h]at e;cases e
theorem DeskAt.same{C:Addr}{H H':Hp}{x:Addr}{O:List Addr}{S:Std}{past undone:List Std}(D:DeskAt C H x O S past undone)(s:Same H H'):DeskAt C H' x O S past undone:=D.mv s.tups fun b o _ e=>s b o e
structure After(C:Addr)(H H':Hp)(x:Addr)(O O':List Addr)(S:Std)(past undone:List Std):Prop where
 desk:DeskAt C H' x O' S past undone
 keep:Keep O H H'
 tups:Tups H H'
 own:∀b∈O',b∈O\/H b=none
theorem After.pre{C:Addr}{H H1 H':Hp}{x:Addr}{O O':List Addr}{S:Std}{past undone:List Std}(s:Same H H1)(a:After C H1 H' x O O' S past undone):After C H H' x O O' S past undone :=
 ⟨a.desk,fun b o e n=>a.keep b o (s _ _ e) n,s.tups.trans a.tups,fun b hb=>(a.own b hb).imp id fun h=>s.free h⟩
theorem After.post{C:Addr}{H H1 H':Hp}{x:Addr}{O O':List Addr}{S:Std}{past undone:List Std}(a:After C H H1 x O O' S past undone)(s:Same H1 H'):After C H H' x O O' S past undone :=
 ⟨a.desk.same s,fun b o e n=>s _ _ (a.keep b o e n),a.tups.trans s.tups,a.own⟩
theorem pairs_lit{P:Program}{w:World}:∀rows:List (Str×Tok×Value),Pairs (yw P w) (rows.map fun r=>(⟨PyData.keyHash w.params r.1,.str r.1 r.2.1,r.2.2⟩:DictEntry)) (rows.map fun r=>((Sum.inr r.1:Key),r.2.2))
 | []=>.nil
 |r::rs=>.cons (keyIs_str r.1 r.2.1) rfl (pairs_lit rs)
theorem KDict.lit{P:Program}{w:World}{K:W.Frag}{a:Addr}{n:Nat}(rows:List (Str×Tok×Value))(hs:(a==sysModules)=false)(hl:K.lookup a=some {cls:=.type "dict",data:=.dict (rows.map fun r=>(⟨PyData.keyHash w.params r.1,.str r.1 r.2.1,r.2.2⟩:DictEntry)).toArray n})(nd:(rows.map (·.1)).Nodup):KDict P w K a (rows.map fun r=>((Sum.inr r.1:Key),r.2.2)):=by
 refine⟨hs,fun h hk=>⟨_,_,n,hk a _ hl,⟨rfl,rfl,rfl⟩,rfl,fun e he=>?_,pairs_lit rows,?_⟩⟩
 ·obtain⟨r,_,rfl⟩:=mem_map.mp (List.mem_toArray.mp he);exact⟨.inr r.1,keyIs_str r.1 r.2.1,rfl⟩
 ·rw[map_map];have:(rows.map fun r=>(Sum.inr r.1:Key))=(rows.map (·.1)).map Sum.inr:=by rw[map_map];rfl
  show(rows.map fun r=>(Sum.inr r.1:Key)).Nodup;rw[this];exact List.Pairwise.map _ (fun x y z e=>z (Sum.inr.inj e)) nd
def KTup(K:W.Frag)(a:Addr)(xs:List V):Prop:=∃(o:Obj)(its:Array Value)(n:Nat),K.lookup a=some o/\o.cls= .type "tuple"/\o.data= .seq its n/\its.size<=sizeLine/\Vals xs its.toList
theorem KTup.sq{K:W.Frag}{H:Hp}{a:Addr}{xs:List V}(h:KTup K a xs):SqT K H a xs:=.inr h
theorem vals_lit:∀rows:List (Str×Tok),Vals (rows.map fun r=>V.str r.1) (rows.map fun r=>Value.str r.1 r.2)
 | []=>.nil
 |r::rs=>.cons ⟨r.2,rfl⟩ (vals_lit rs)
theorem KTup.lit{K:W.Frag}{a:Addr}(rows:List (Str×Tok))(hl:K.lookup a=some {cls:=.type "tuple",data:=.seq (rows.map fun r=>Value.str r.1 r.2).toArray})(h:rows.length<=100):KTup K a (rows.map fun r=>V.str r.1) :=
 ⟨_,_,_,hl,rfl,rfl,by simp only[size_toArray,length_map];exact le_trans h (by decide),vals_lit rows⟩
def KFns(P:Program)(w:World)(K:W.Frag)(a:Addr)(names:List Str)(fs:List (Str×Addr)):Prop:=∃ ws:List (Key×Value),KDict P w K a ws/\ws.map (·.1)=names.map Sum.inr/\ ∀p∈fs,valueAt ws (.inr p.1)=some (.ref p.2)
def KForms(P:Program)(w:World)(K:W.Frag)(a:Addr)(rows:List (Str×List Str)):Prop:=∃ ws:List (Key×Value),KDict P w K a ws/\ws.map (·.1)=(rows.map (·.1)).map Sum.inr/\ ∀p∈rows,∃b,valueAt ws (.inr p.1)=some (.ref b)/\KTup K b (p.2.map V.str)
theorem valueAt_none{ws:List (Key×Value)}{names:List Str}(h:ws.map (·.1)=names.map Sum.inr){n:Str}:(valueAt ws (.inr n)).isSome=decide (n∈names):=by
 unfold valueAt;rw[Option.isSome_map];by_cases hn:n∈names
 ·rw[decide_eq_true hn];have:(Sum.inr n:Key)∈ws.map (·.1):=by rw[h];exact mem_map.mpr ⟨n,hn,rfl⟩
  obtain⟨p,hp,e⟩:=mem_map.mp this;rw[List.find?_isSome];exact⟨p,hp,by simpa using e⟩
 ·rw[decide_eq_false hn];cases hf:ws.find? fun kv=>decide (kv.1=Sum.inr n)with
  |none=>rfl
  |some p =>
   have e2:=List.find?_some hf;have e:p.1=Sum.inr n:=of_decide_eq_true e2;have:(Sum.inr n:Key)∈names.map Sum.inr:=by rw[<-h,<-e];exact mem_map.mpr ⟨p,List.mem_of_find?_eq_some hf,rfl⟩
   obtain⟨m,hm,e3⟩:=mem_map.mp this;exact absurd (Sum.inr.inj e3▸hm) hn
def AllP{α:Type}(P:α->Prop):List α->Prop
 | []=>True
 |a::l=>P a/\AllP P l
theorem AllP.mem{α:Type}{P:α->Prop}:∀{l:List α},AllP P l-> ∀a∈l,P a
 | _::l,h,b,hb=>by
  rcases mem_cons.mp hb with rfl|hb
  ·exact h.1
  ·exact AllP.mem h.2 b hb
theorem valueAt_at:∀{rows:List (Str×Tok×Value)}(i:Nat){n:Str}{t:Tok}{v:Value},rows[i]? =some (n,t,v)->(rows.map (·.1)).Nodup->valueAt (rows.map fun r=>((Sum.inr r.1:Key),r.2.2)) (.inr n)=some v
 | [],i,n,t,v,h,_=>by simp at h
 |r::rs,0,n,t,v,h,_=>by
  have e:r=(n,t,v):=by simpa using h
  subst e;simp[valueAt]
 |r::rs,i+1,n,t,v,h,nd=>by
  have h':rs[i]? =some (n,t,v):=by simpa using h
  rw[map_cons,nodup_cons]at nd;have hne:r.1≠n:=fun e=>nd.1 (by rw[e];exact mem_map.mpr ⟨_,mem_of_getElem? h',rfl⟩);have ih:=valueAt_at i h' nd.2;unfold valueAt at ih ⊢;rw[map_cons,find?_cons];have:decide ((Sum.inr r.1:Key)=Sum.inr n)=false:=decide_eq_false fun e=>hne (Sum.inr.inj e);simp only[this];exact ih
theorem KFns.lit{P:Program}{w:World}{K:W.Frag}{a:Addr}{n:Nat}(rows:List (Str×Tok×Value))(fs:List (Str×Addr))(hs:(a==sysModules)=false)(hl:K.lookup a=some {cls:=.type "dict",data:=.dict (rows.map fun r=>(⟨PyData.keyHash w.params r.1,.str r.1 r.2.1,r.2.2⟩:DictEntry)).toArray n})(nd:(rows.map (·.1)).Nodup)(names:List Str)(hn:names=rows.map (·.1))(h:AllP (fun p:Str×Addr=>∃(i:Nat) (t:Tok),rows[i]? =some (p.1,t,.ref p.2)) fs):KFns P w K a names fs :=
 ⟨_,KDict.lit rows hs hl nd,by rw[hn,map_map,map_map];rfl,fun p hp=>let⟨i,t,e⟩:=h.mem p hp;valueAt_at i e nd⟩
theorem KForms.lit{P:Program}{w:World}{K:W.Frag}{a:Addr}{n:Nat}(rows:List (Str×Tok×Value))(fs:List (Str×List Str))(hs:(a==sysModules)=false)(hl:K.lookup a=some {cls:=.type "dict",data:=.dict (rows.map fun r=>(⟨PyData.keyHash w.params r.1,.str r.1 r.2.1,r.2.2⟩:DictEntry)).toArray n})(nd:(rows.map (·.1)).Nodup)(hn:fs.map (·.1)=rows.map (·.1))(h:AllP (fun p:Str×List Str=>∃(i:Nat) (t:Tok) (b:Addr),rows[i]? =some (p.1,t,.ref b)/\KTup K b (p.2.map V.str)) fs):KForms P w K a fs :=
 ⟨_,KDict.lit rows hs hl nd,by rw[hn,map_map,map_map];rfl,fun p hp=>let⟨i,t,b,e,k⟩:=h.mem p hp;⟨b,valueAt_at i e nd,k⟩⟩
section
variable{X:Cx}
theorem ip_addS:PIp X .Add (fun x y H Q=>∃ i j,x= .str i/\y= .str j/\i.length+j.length<=sizeLine/\Q (.str (i++j)) H):=iop_add_str
theorem pass0A{X:Cx}{E:XK}:Passes CX0 X E:=fun _ _ _ _ _ _ _ h=>h.elim
end
def formsT:List (Str×List Str):=[("rule",["FREE","RULE"]),("add",["NAME","HEAP"]),("take",["NAME","NUMBER"]),("copy",["NAME","FREE"]),("drop",["NAME"]),("undo",[]),("again",[]),("names",[]),("show",["NAME"]),("keeps",["NAME","HEAP"]),("count",["NAME","NUMBER"]),("list",["NAME","NUMBER"]),("match",["NAME","NAME"]),("send",["NAME","NAME","HEAP"]),("steps",["NAME","NAME","HEAP"])]
inductive DArg where
 |rule (r:List (List Int))|heap (h:List Int)|num (n:Int)|name (s:Str)
def ArgV:DArg->V->Hp->Prop
 | .rule r,v,H=>RuleV r v H
 | .heap h,v,H=>Tup1 h v H
 | .num n,v,_=>v= .int n
 | .name s,v,_=>v= .str s
theorem ArgV.mv{H H':Hp}(t:Tups H H'):∀{a:DArg}{v:V},ArgV a v H->ArgV a v H'
 | .rule _,_,h=>RuleV.mv t h
 | .heap _,_,h=>Tup1.mv t h
 | .num _,_,h=>h
 | .name _,_,h=>h
def zO(z:Str):Bool:=decide (1<=z.length/\z.length<=8)&&z.cps.toList.all fun c=>decide (97<=c/\c<=122)
def readNum(z:Str):Option Int:=if z=Str.ofString "0" then some 0 else if z.length<=9/\jC z=true then some (numV z)else none
def jT(kind z:Str):Option DArg:=if kind=Str.ofString "RULE" then(readR z).map .rule else if kind=Str.ofString "HEAP" then(jp z).map .heap else if kind=Str.ofString "NUMBER" then(readNum z).map .num else if zO z=true then some (.name z)else none
def jU:List Str->List Str->Option (List DArg)
 |k::ks,p::ps=>(jT k p).bind fun a=>(jU ks ps).map (a:: ·)
 | _,_=>some []
def yU(w:Str):Option (List Str):=(formsT.find? fun r=>decide (r.1=w)).map (·.2)
def wordOf(z:Str):Str:=(Txt.split z jI).headD (Str.ofString "")
def yK(z:Str)(form:List Str):List Str:=Txt.splitMax z jI (form.length:Int)
def readL(z:Str):Option (Str×List DArg):=(yU (wordOf z)).bind fun form =>
 if(yK z form).headD (Str.ofString "")=wordOf z/\form.length<(yK z form).length then(jU form (yK z form).tail).map fun as=>(wordOf z,as)else none
theorem splitL_join:∀(ps:List (List Nat))(w:List Nat),(∀x∈(w::ps).dropLast,32∉x)->zQ ps.length (ko 32 (w::ps))=w::ps
 | [],w,_=>splitL_zero w
 |p::ps,w,h=>by
  have hw:32∉w:=h w (by simp[List.dropLast]);show zQ (ps.length+1) (w++32::ko 32 (p::ps))=w::p::ps;rw[splitL_cat _ _ hw,splitL_join ps p fun x hx=>h x (by
   cases ps with
   |nil=>simp at hx
   |cons q qs=>simp only[List.dropLast]at hx ⊢;exact mem_cons_of_mem _ hx)]
theorem cps_map_inj:∀{a b:List Str},a.map (fun w=>w.cps.toList)=b.map (fun w=>w.cps.toList)->a=b
 | [],[],_=>rfl
 | [],_::_,h=>by simp at h
 | _::_,[],h=>by simp at h
 |x::a,y::b,h=>by
  rw[map_cons,map_cons]at h;injection h with h1 h2
  rw[kB h1,cps_map_inj h2]
theorem readL_of{z w:Str}{form ps:List Str}(hf:yU w=some form)(hz:z.cps.toList=ko 32 ((w::ps).map fun x=>x.cps.toList))(hl:ps.length=form.length)(hb:∀x∈(w::ps).dropLast,32∉x.cps.toList)(hw:32∉w.cps.toList) :
  readL z=(jU form ps).map fun as=>(w,as):=by
 have e1:yK z form=w::ps:=by
  refine cps_map_inj ?_;unfold yK;rw[jG,hz,<-hl];have:=splitL_join (ps.map fun x=>x.cps.toList) w.cps.toList (fun x hx=>by
   have:((w::ps).map fun x=>x.cps.toList).dropLast=(w::ps).dropLast.map fun x=>x.cps.toList:=by rw[List.map_dropLast]
   have hx':x∈((w::ps).dropLast.map fun x=>x.cps.toList):=by rw[<-this];exact hx
   obtain⟨y,hy,rfl⟩:=mem_map.mp hx';exact hb y hy)
  rw[length_map]at this;rw[map_cons];exact this
 have e2:wordOf z=w:=by
  unfold wordOf;rw[split_is_max];have h:=jG z (z.length+1);have hh:zQ (z.length+1) z.cps.toList=w.cps.toList::(zQ (z.length+1) z.cps.toList).tail:=by
   rw[hz];cases ps with
   |nil=>rw[show ko 32 (([w]:List Str).map fun x=>x.cps.toList)=w.cps.toList from rfl,splitL_one _ hw];rfl
   |cons p qs=>rw[show ko 32 ((w::p::qs).map fun x=>x.cps.toList)=w.cps.toList++32::ko 32 ((p::qs).map fun x=>x.cps.toList)from rfl,splitL_cat _ _ hw];rfl
  rw[hh]at h;cases hs:Txt.splitMax z jI ((z.length+1:Nat):Int)with
  |nil=>rw[hs]at h;simp at h
  |cons a r =>
   rw[hs,map_cons]at h;injection h with h1 _
   exact kB h1
 unfold readL;rw[e2,hf];show(if(yK z form).headD _=w/\_ then _ else none)=_;rw[e1,if_pos ⟨rfl,by rw[length_cons];omega⟩];rfl
theorem kn(z:Str):zO z=true↔(1<=z.length/\z.length<=8)/\ ∀c∈z.cps.toList,97<=c/\c<=122:=by
 unfold zO;simp only[and_eq_true,decide_eq_true_eq,all_eq_true]
theorem kG{z:Str}(h:zO z=true):32∉z.cps.toList:=fun m=>by have:=((kn z).mp h).2 32 m;omega
theorem yF{z:Str}(h:zO z=true):jT (Str.ofString "NAME") z=some (.name z)/\jT (Str.ofString "FREE") z=some (.name z):=by
 constructor <;>
 ·unfold jT;rw[if_neg (by decide+kernel),if_neg (by decide+kernel),if_neg (by decide+kernel),if_pos h]
theorem readP_rule(z:Str):jT (Str.ofString "RULE") z=(readR z).map .rule:=by unfold jT;rw[if_pos rfl]
theorem readP_heap(z:Str):jT (Str.ofString "HEAP") z=(jp z).map .heap:=by unfold jT;rw[if_neg (by decide+kernel),if_pos rfl]
theorem readP_num(z:Str):jT (Str.ofString "NUMBER") z=(readNum z).map .num:=by unfold jT;rw[if_neg (by decide+kernel),if_neg (by decide+kernel),if_pos rfl]
theorem readNum_num{n:Int}(h0:0<=n)(h:n<10^9):readNum (numS n)=some n:=by
 unfold readNum;by_cases e:n=0
 ·subst e;rw[if_pos (by decide+kernel)]
 ·have h1:1<=n:=by omega
  rw[if_neg (fun z=>by
   obtain⟨c,r,e1,e2⟩:=numS_ne h1;rw[z]at e1;rw[show(Str.ofString "0").cps.toList=[48]from by decide+kernel]at e1;injection e1 with e3 _
   exact e2 e3.symm),if_pos ⟨by rw[yg];exact kD h0 (by decide) h,numS_isNum h1 (Int.lt_trans h (by decide))⟩,numV_numS h1 (Int.lt_trans h (by decide))]
theorem cps_app(x y:Str):(x++y).cps.toList=x.cps.toList++y.cps.toList:=by
 show(x.cps++y.cps).toList=_;rw[Array.toList_append]
theorem line2{z w a b:Str}{k l:Str}{u v:DArg}(hf:yU w=some [k,l])(hw:32∉w.cps.toList)(ha:32∉a.cps.toList)(hz:z.cps.toList=w.cps.toList++32::(a.cps.toList++32::b.cps.toList))(h1:jT k a=some u)(h2:jT l b=some v):readL z=some (w,[u,v]):=by
 rw[readL_of (ps:=[a,b]) hf hz rfl (fun x hx=>by
  have:x=w\/x=a:=by simpa using hx
  rcases this with rfl|rfl
  ·exact hw
  ·exact ha) hw]
 simp[jU,h1,h2]
theorem line3{z w a b c:Str}{k l m:Str}{u v x:DArg}(hf:yU w=some [k,l,m])(hw:32∉w.cps.toList)(ha:32∉a.cps.toList)(hb:32∉b.cps.toList)(hz:z.cps.toList=w.cps.toList++32::(a.cps.toList++32::(b.cps.toList++32::c.cps.toList)))(h1:jT k a=some u)(h2:jT l b=some v)(h3:jT m c=some x):readL z=some (w,[u,v,x]):=by
 rw[readL_of (ps:=[a,b,c]) hf hz rfl (fun y hy=>by
  have:y=w\/y=a\/y=b:=by simpa using hy
  rcases this with rfl|rfl|rfl
  ·exact hw
  ·exact ha
  ·exact hb) hw]
 simp[jU,h1,h2,h3]
def zE(S:Std):List Str->List DArg->Option Str
 |k::ks,.name n::as=>if k=Str.ofString "NAME"/\zX S n=none then some n else zE S ks as
 | _::ks,_::as=>zE S ks as
 | _,_=>none
theorem dcut_to(x:Str)(k:Nat):(Txt.slice x none (some (k:Int))).cps.toList=x.cps.toList.take k:=by
 by_cases h:k<=x.cps.toList.length
 ·show(StrLaws.sliceText x none (some (k:Int))).cps.toList=_;rw[StrLaws.sliceText_to ⟨by omega,by omega⟩];simp
 ·have hx:x.length=x.cps.toList.length:=yg x;have:(Builtin.Str.strSliceIndices none (some (k:Int)) 1 x.length).length=x.length:=by
   unfold Builtin.Str.strSliceIndices sliceRange;simp only[show(1:Int)>0 by decide,if_true,length_map,List.length_range];rw[<-hx]at h
   (split <;>(try split) <;>(try split) <;>(try simp only[Int.ediv_one]) <;>omega)
  unfold Txt.slice;rw[if_pos (by simp[this]),take_of_length_le (by omega)]
theorem dcut_last(x:Str)(k:Nat)(hk:0<k):(Txt.slice x (some (-(k:Int))) none).cps.toList=x.cps.toList.drop (x.length-k):=by
 have hx:x.length=x.cps.toList.length:=yg x;by_cases h:k<=x.length
 ·show(StrLaws.sliceText x (some (-(k:Int))) none).cps.toList=_;rw[StrLaws.sliceText_from_neg (by omega) (by omega)];simp;rw[show(-(k:Int)+(x.length:Int)).toNat=x.length-k by omega];rw[take_of_length_le (by rw[length_drop,<-hx];have:x.cps.size=x.length:=rfl;omega)]
 ·have:(Builtin.Str.strSliceIndices (some (-(k:Int))) none 1 x.length).length=x.length:=by
   unfold Builtin.Str.strSliceIndices sliceRange;simp only[show(1:Int)>0 by decide,if_true,length_map,List.length_range]
   (split <;>(try split) <;>(try split) <;>(try simp only[Int.ediv_one]) <;>omega)
  unfold Txt.slice;rw[if_pos (by simp[this]),show x.length-k=0 by omega,List.drop_zero]
def letters:Str:=Str.ofString "abcdefghijklmnopqrstuvwxyz"
theorem letters_cps:letters.cps.toList=[97,98,99,100,101,102,103,104,105,106,107,108,109,110,111,112,113,114,115,116,117,118,119,120,121,122]:=by decide+kernel
theorem in_letters(c:Nat):(!(Builtin.Str.occurrences (Str.ofString "abcdefghijklmnopqrstuvwxyz") ⟨#[c]⟩ 0 (Str.ofString "abcdefghijklmnopqrstuvwxyz").length 1).isEmpty)=decide (97<=c/\c<=122):=by
 rw[StrLaws.found_one,show(Str.ofString "abcdefghijklmnopqrstuvwxyz").cps.toList=_ from letters_cps];congr 1;rw[show([97,98,99,100,101,102,103,104,105,106,107,108,109,110,111,112,113,114,115,116,117,118,119,120,121,122]:List Nat)=(List.range 26).map (97+ ·)by decide+kernel];simp only[mem_map,mem_range,eq_iff_iff];exact⟨fun⟨k,hk,e⟩=>⟨by omega,by omega⟩,fun h=>⟨c-97,by omega,by omega⟩⟩
theorem readL_inv{z wd:Str}{as:List DArg}(h:readL z=some (wd,as)):∃form,wordOf z=wd/\yU wd=some form/\ ∃rest,yK z form=wd::rest/\form.length<=rest.length/\jU form rest=some as:=by
 unfold readL at h;obtain⟨form,hf,h⟩:=Option.bind_eq_some_iff.mp h;by_cases c:(yK z form).headD (Str.ofString "")=wordOf z/\form.length<(yK z form).length
 ·rw[if_pos c]at h;obtain⟨as',ha,e⟩:=map_eq_some_iff.mp h;injection e with e1 e2
  subst e1 e2;refine⟨form,rfl,hf,?_⟩;cases hp:yK z form with
  |nil=>rw[hp]at c;simp at c
  |cons a r =>
   rw[hp]at c ha;have c1:a=wordOf z:=c.1;have c2:=c.2;rw[length_cons]at c2;exact⟨r,by rw[c1],by omega,ha⟩
 ·rw[if_neg c]at h;cases h
theorem formOf_mem{w:Str}{form:List Str}(h:yU w=some form):(w,form)∈formsT:=by
 unfold yU at h;obtain⟨p,hp,rfl⟩:=map_eq_some_iff.mp h;have h1:=List.mem_of_find?_eq_some hp;have h2:=List.find?_some hp;have h3:p.1=w:=of_decide_eq_true h2;rw[<-h3];exact h1
theorem form_len{w:Str}{form:List Str}(h:yU w=some form):form.length<=3:=by
 have:=formOf_mem h;have k:∀p∈formsT,p.2.length<=3:=by decide+kernel
 exact k _ this
theorem readPs_len:∀{form rest:List Str}{as:List DArg},form.length<=rest.length->jU form rest=some as->as.length=form.length
 | [],rest,as,_,h=>by
  have:jU [] rest=some []:=by cases rest <;>rfl
  rw[this]at h;cases h;rfl
 |k::ks,[],as,hl,h=>by simp at hl
 |k::ks,p::ps,as,hl,h=>by
  simp only[jU]at h;obtain⟨a,ha,h⟩:=Option.bind_eq_some_iff.mp h;obtain⟨bs,hb,rfl⟩:=map_eq_some_iff.mp h;rw[length_cons,length_cons,readPs_len (by simpa using hl) hb]
theorem readPs_at:∀{form rest:List Str}{as:List DArg}(i:Nat){k p:Str},jU form rest=some as->form[i]? =some k->rest[i]? =some p-> ∃a,as[i]? =some a/\jT k p=some a
 | [],_,_,i,_,_,_,h,_=>by simp at h
 | _::_,[],_,i,_,_,_,_,h=>by simp at h
 |k::ks,p::ps,as,0,k',p',h,e1,e2=>by
  simp only[jU]at h;obtain⟨a,ha,h⟩:=Option.bind_eq_some_iff.mp h;obtain⟨bs,hb,rfl⟩:=map_eq_some_iff.mp h;have e1':k=k':=by simpa using e1
  have e2':p=p':=by simpa using e2
  subst e1' e2';exact⟨a,rfl,ha⟩
 |k::ks,p::ps,as,i+1,k',p',h,e1,e2=>by
  simp only[jU]at h;obtain⟨a,ha,h⟩:=Option.bind_eq_some_iff.mp h;obtain⟨bs,hb,rfl⟩:=map_eq_some_iff.mp h;obtain⟨b,h1,h2⟩:=readPs_at i hb (by simpa using e1) (by simpa using e2);exact⟨b,by simpa using h1,h2⟩
theorem split_ne0(z:Str):(Txt.split z jI)[0]? =some (wordOf z):=by
 unfold wordOf;have:=split_ne z jI;cases h:Txt.split z jI with
 |nil=>exact absurd h this
 |cons a r=>rfl
theorem word_le{z w:Str}{form:List Str}(h:w∈yK z form):w.length<=z.length:=by
 unfold yK at h;have h1:=jG z form.length;have h2:w.cps.toList∈zQ form.length z.cps.toList:=by rw[<-h1];exact mem_map.mpr ⟨w,h,rfl⟩
 rw[yg,yg];have gen:∀(k:Nat)(l w:List Nat),w∈zQ k l->w.length<=l.length:=by
  intro k l
  induction l generalizing k with
  |nil=>intro w hw;cases k <;>simp[zQ]at hw <;>simp[hw]
  |cons c l ih =>
   intro w hw;cases k with
   |zero=>simp[zQ]at hw;rw[hw];simp
   |succ k =>
    simp only[zQ]at hw;split at hw
    ·rcases mem_cons.mp hw with rfl|hw
     ·simp
     ·have:=ih k w hw;simp;omega
    ·have ih':=ih (k+1);cases hs:zQ (k+1) l with
     |nil=>rw[hs]at hw;simp at hw
     |cons a r =>
      rw[hs]at hw ih';simp only at hw;rcases mem_cons.mp hw with rfl|hw
      ·have:=ih' a (by simp);simp;omega
      ·have:=ih' w (mem_cons_of_mem _ hw);simp;omega
 exact gen _ _ _ h2
def PNew(S:Std)(as:List DArg)(n:Str)(r:List (List Int)):Prop:=as=[.name n,.rule r]
def PAdd(S:Std)(as:List DArg)(n:Str)(r:List (List Int)):Prop:=∃ h r0,as=[.name n,.heap h]/\zX S n=some r0/\r0.length<6/\r=r0++[h]
def PTake(S:Std)(as:List DArg)(n:Str)(r:List (List Int)):Prop:=∃(k:Nat)(r0:List (List Int)),as=[.name n,.num (k:Int)]/\zX S n=some r0/\k<r0.length/\r0.length<=1000/\r=r0.eraseIdx k
def PCopy(S:Std)(as:List DArg)(n:Str)(r:List (List Int)):Prop:=∃ a,as=[.name a,.name n]/\zX S a=some r
def PutOf(S:Std)(wd:Str)(as:List DArg)(n:Str)(r:List (List Int)):Prop:=(wd=Str.ofString "rule"/\PNew S as n r)\/(wd=Str.ofString "add"/\PAdd S as n r)\/(wd=Str.ofString "take"/\PTake S as n r)\/(wd=Str.ofString "copy"/\PCopy S as n r)
theorem form_rule:yU (Str.ofString "rule")=some [Str.ofString "FREE",Str.ofString "RULE"]:=by decide+kernel
theorem form_add:yU (Str.ofString "add")=some [Str.ofString "NAME",Str.ofString "HEAP"]:=by decide+kernel
theorem form_take:yU (Str.ofString "take")=some [Str.ofString "NAME",Str.ofString "NUMBER"]:=by decide+kernel
theorem form_copy:yU (Str.ofString "copy")=some [Str.ofString "NAME",Str.ofString "FREE"]:=by decide+kernel
theorem form_count:yU (Str.ofString "count")=some [Str.ofString "NAME",Str.ofString "NUMBER"]:=by decide+kernel
theorem form_list:yU (Str.ofString "list")=some [Str.ofString "NAME",Str.ofString "NUMBER"]:=by decide+kernel
theorem form_match:yU (Str.ofString "match")=some [Str.ofString "NAME",Str.ofString "NAME"]:=by decide+kernel
theorem form_send:yU (Str.ofString "send")=some [Str.ofString "NAME",Str.ofString "NAME",Str.ofString "HEAP"]:=by decide+kernel
theorem form_steps:yU (Str.ofString "steps")=some [Str.ofString "NAME",Str.ofString "NAME",Str.ofString "HEAP"]:=by decide+kernel
theorem j8{S:Std}{n:Str}{r:List (List Int)}(k:Str)(ks:List Str)(as:List DArg)(h:zX S n=some r):zE S (k::ks) (.name n::as)=zE S ks as:=by
 rw[zE,if_neg (fun z=>by rw[h]at z;cases z.2)]
theorem nl_free{S:Std}(n:Str)(k:Str)(ks:List Str)(as:List DArg)(hk:k≠Str.ofString "NAME"):zE S (k::ks) (.name n::as)=zE S ks as:=by
 rw[zE,if_neg (fun z=>hk z.1)]
theorem nl_nil(S:Std)(as:List DArg):zE S [] as=none:=by simp[zE]
theorem nl_put{S:Std}{wd:Str}{as:List DArg}{n:Str}{r:List (List Int)}{form:List Str}(h:PutOf S wd as n r)(hf:yU wd=some form):zE S form as=none:=by
 rcases h with⟨rfl,e⟩|⟨rfl,e⟩|⟨rfl,e⟩|⟨rfl,e⟩
 ·rw[form_rule]at hf;cases hf;unfold PNew at e;subst e;rw[nl_free _ _ _ _ (by decide+kernel)];simp[zE]
 ·rw[form_add]at hf;cases hf;obtain⟨h,r0,rfl,hl,_⟩:=e;rw[j8 _ _ _ hl];simp[zE]
 ·rw[form_take]at hf;cases hf;obtain⟨h,r0,rfl,hl,_⟩:=e;rw[j8 _ _ _ hl];simp[zE]
 ·rw[form_copy]at hf;cases hf;obtain⟨a,rfl,hl⟩:=e;rw[j8 _ _ _ hl,nl_free _ _ _ _ (by decide+kernel),nl_nil]
theorem readPs_names{form rest:List Str}{as:List DArg}(h:jU form rest=some as)(hl:form.length<=rest.length):∀(i:Nat),form[i]? =some (Str.ofString "NAME")-> ∀a,as[i]? =some a-> ∃n,a=DArg.name n:=fun i e a ha=>by
 have hi:=(List.getElem?_eq_some_iff.mp e).1;obtain⟨p,hp⟩:∃p,rest[i]? =some p:=⟨_,getElem?_eq_getElem (by omega)⟩;obtain⟨b,hb,hr⟩:=readPs_at i h e hp;rw[ha]at hb;cases hb;unfold jT at hr;rw[if_neg (by decide+kernel),if_neg (by decide+kernel),if_neg (by decide+kernel)]at hr;split at hr
 ·cases hr;exact⟨_,rfl⟩
 ·cases hr
theorem readL_names{z wd:Str}{as:List DArg}{form:List Str}(h:readL z=some (wd,as))(hf:yU wd=some form):as.length=form.length/\ ∀(i:Nat),form[i]? =some (Str.ofString "NAME")-> ∀a,as[i]? =some a-> ∃n,a=DArg.name n:=by
 obtain⟨form',_,hf',rest,_,hl,hps⟩:=readL_inv h;rw[hf]at hf';cases hf';exact⟨readPs_len hl hps,readPs_names hps hl⟩
theorem nl_step(S:Std):∀(form:List Str)(as:List DArg)(i:Nat){k:Str}{a:DArg},form[i]? =some k->as[i]? =some a->zE S (form.drop i) (as.drop i)=(match a with| .name n=>if k=Str.ofString "NAME"/\zX S n=none then some n else zE S (form.drop (i+1)) (as.drop (i+1))| _=>zE S (form.drop (i+1)) (as.drop (i+1))):=fun form as i k a e1 e2=>by
 have h1:=(List.getElem?_eq_some_iff.mp e1).1;have h2:=(List.getElem?_eq_some_iff.mp e2).1;rw[drop_eq_getElem_cons h1,drop_eq_getElem_cons h2,(List.getElem?_eq_some_iff.mp e1).2,(List.getElem?_eq_some_iff.mp e2).2];cases a <;>simp[zE]
theorem pre_cps{w w':Str}(h:w'.cps.toList=w.cps.toList++[32])(a:Str):(w'++a).cps.toList=w.cps.toList++32::a.cps.toList:=by
 rw[cps_app,h,append_assoc];rfl
def LetS(z:Str):Prop:=∀ c∈z.cps.toList,97<=c/\c<=122
theorem LetS.app{x y:Str}(hx:LetS x)(hy:LetS y):LetS (x++y):=fun c hc=>by
 rw[cps_app]at hc;rcases mem_append.mp hc with h|h
 ·exact hx c h
 ·exact hy c h
theorem isName_of{z:Str}(h:LetS z)(h1:1<=z.length)(h8:z.length<=8):zO z=true:=(kn z).mpr ⟨⟨h1,h8⟩,h⟩
theorem isName_let{z:Str}(h:zO z=true):LetS z:=((kn z).mp h).2
theorem yD{z:Str}(h:zO z=true):1<=z.length/\z.length<=8:=((kn z).mp h).1
theorem LetS.to{x:Str}(h:LetS x)(k:Nat):LetS (Txt.slice x none (some (k:Int))):=fun c hc=>by
 rw[dcut_to]at hc;exact h c (List.mem_of_mem_take hc)
theorem LetS.last{x:Str}(h:LetS x)(k:Nat)(hk:0<k):LetS (Txt.slice x (some (-(k:Int))) none):=fun c hc=>by
 rw[dcut_last x k hk]at hc;exact h c (List.mem_of_mem_drop hc)
theorem dlen_to(x:Str)(k:Nat):(Txt.slice x none (some (k:Int))).length=min k x.length:=by
 rw[yg,dcut_to,length_take,<-yg]
theorem dlen_last(x:Str)(k:Nat)(hk:0<k):(Txt.slice x (some (-(k:Int))) none).length=min k x.length:=by
 rw[yg,dcut_last x k hk,length_drop,<-yg];omega
theorem letter_at{r:Int}(h0:0<=r)(h1:r<26):∃c:Nat,atI letters.cps.toList r=some c/\97<=c/\c<=122/\(c:Int)=97+r:=by
 obtain⟨j,rfl⟩:∃j:Nat,r=(j:Int):=⟨r.toNat,by omega⟩;have hj:j<26:=by omega
 refine⟨97+j,zu (j:=j) ?_,by omega,by omega,by omega⟩;rw[letters_cps];have:∀j:Fin 26,[97,98,99,100,101,102,103,104,105,106,107,108,109,110,111,112,113,114,115,116,117,118,119,120,121,122][j.1]? =some (97+j.1):=by decide
 exact this ⟨j,hj⟩
theorem LetS.one{c:Nat}(h:97<=c/\c<=122):LetS ⟨#[c]⟩:=fun d hd=>by
 have:d=c:=by simpa using hd
 rw[this];exact h
theorem inV_str(x:Str):∀ss:List Str,inV (.str x) (ss.map V.str)=decide (x∈ss)
 | []=>by simp[inV]
 |y::ss=>by
  have ih:=inV_str x ss;unfold inV at ih ⊢;rw[map_cons,any_cons,ih];have:eqV (V.str y) (V.str x)=decide (x=y):=by
   show(y==x)=_;by_cases h:y=x
   ·subst h;simp
   ·have h':¬x=y:=fun e=>h e.symm;simp[h,h']
  rw[this];by_cases h:x=y
  ·simp[h]
  ·simp[h]
theorem flat_strs(ss:List Str):(ss.map V.str).all flatV=true:=by
 rw[all_map];exact all_eq_true.mpr fun _ _=>rfl
def zName(k:Nat):Str:=⟨#[122,122,122,122,122,122,122,97+k]⟩
theorem zName_inj{i j:Nat}(h:zName i=zName j):i=j:=by
 unfold zName at h;injection h with h
 have:=congrArg Array.toList h;simp at this;exact this
theorem zName_name{k:Nat}(h:k<26):zO (zName k)=true:=isName_of (fun c hc=>by
 unfold zName at hc;simp at hc;omega) (by decide+kernel:1<=(8:Nat)) (by show(8:Nat)<=8;decide)
theorem zName_eq{k:Nat}{c:Nat}(hc:(c:Int)=97+(k:Int)):(Str.ofString "zzzzzzz")++(⟨#[c]⟩:Str)=zName k:=by
 have e:c=97+k:=by omega
 subst e;exact kB (by rw[cps_app,show(Str.ofString "zzzzzzz").cps.toList=[122,122,122,122,122,122,122]by decide+kernel];rfl)
theorem dnodup_few:∀{l m:List Str},l.Nodup->l⊆m->l.length<=m.length
 | [],_,_,_=>zero_le _
 |x::l,m,nd,sub=>by
  have h:=nodup_cons.mp nd;have hx:x∈m:=sub mem_cons_self;have ih:=dnodup_few (m:=m.erase x) h.2 fun y hy=>(List.mem_erase_of_ne (fun(e:y=x)=>h.1 (by rw[<-e];exact hy))).mpr (sub (mem_cons_of_mem _ hy));rw[List.length_erase_of_mem hx]at ih;have:=List.length_pos_of_mem hx;rw[length_cons];omega
theorem few_names{known:List Str}(h:∀i,i<=known.length->zName i∈known):False:=by
 have nd:((List.range (known.length+1)).map zName).Nodup:=List.Pairwise.map _ (fun a b (hab:a≠b) e=>hab (zName_inj e)) List.nodup_range;have sub:((List.range (known.length+1)).map zName)⊆known:=fun x hx=>by
  obtain⟨i,hi,rfl⟩:=mem_map.mp hx;exact h i (by have:=mem_range.mp hi;omega)
 have:=dnodup_few nd sub;rw[length_map,List.length_range]at this;omega
def DkL(C:Addr)(H:Hp)(L:List Addr)(x:Addr)(O:List Addr)(S:Std)(past und:List Std):Prop:=DeskAt C H x O S past und/\ ∀b∈O,b∉L
theorem tups_upd{H:Hp}{a:Addr}{o u:HO}(h:H a=some u)(n:∀xs,u≠ .tup xs):Tups H (upd H a o):=fun b xs e=>by
 have:b≠a:=fun z=>by subst z;rw[h]at e;exact n xs (Option.some.inj e)
 rw[zh this];exact e
theorem line2_cps{w w':Str}(h:w'.cps.toList=w.cps.toList++[32])(a b:Str):(((w'++a)++Str.ofString " ")++b).cps.toList=w.cps.toList++32::(a.cps.toList++32::b.cps.toList):=by
 rw[cps_app,cps_app,pre_cps h,show(Str.ofString " ").cps.toList=[32]by decide+kernel];simp
theorem deskAt_new{C:Addr}{H H':Hp}{x dx:Addr}{O:List Addr}(nx:H x=none)(ndx:H dx=none)(ne:x≠dx\/dx≠x)(k:∀b o,upd (upd H dx (.own x)) x (.ins C dx []) b=some o->b≠x->H' b=some o)(ho:∀b∈O,b=x\/upd (upd H dx (.own x)) x (.ins C dx []) b=none):Same H H'/\ ∀b∈O,H b=none:=by
 have hne:dx≠x:=ne.elim (fun h=>h.symm) id;constructor
 ·intro b o e;have n1:b≠x:=zo e nx;have n2:b≠dx:=zo e ndx;exact k b o (by rw[zh n1,zh n2];exact e) n1
 ·intro b hb;rcases ho b hb with rfl|h
  ·exact nx
  ·by_cases e1:b=x
   ·rw[e1];exact nx
   ·rw[zh e1]at h;by_cases e2:b=dx
    ·rw[e2];exact ndx
    ·rw[zh e2]at h;exact h
structure WL(C:Addr)(H:Hp)(st ga ca x:Addr)(B:List (Addr×HO))(O:List Addr)(N:Nat)(S:Std)(past und:List Std):Prop where
 s:StAt H st ga ca N
 d:DkL C H ([st,ga,ca]++B.map (·.1)) x O S past und
 bx:∀p∈B,H p.1=some p.2/\p.1∉[st,ga,ca]
 nd:(B.map (·.1)).Nodup
namespace WL
variable{C:Addr}{H H':Hp}{st ga ca x:Addr}{B:List (Addr×HO)}{O O':List Addr}{N N':Nat}{S S':Std}{past past' und und':List Std}
end WL
inductive Walks(L:Nat):Nat->List Bool->Nat->Prop
 |nil (h:Nat):h<L->Walks L h [] h
 |again {h e:Nat} {ws:List Bool}:Walks L (h+1) ws e->Walks L h (true::ws) e
 |undo {h e:Nat} {ws:List Bool}:h+1<L->Walks L h ws e->Walks L (h+1) (false::ws) e
def Rise(xs:List Nat):Prop:=xs.Pairwise (· < ·)
structure SI(b:Bool)(t:SetTable):Prop where
 led:t.led=b
 dum:t.dummies= #[]
 rise:Rise t.place.toList
theorem gw_items{prog:Program}{w:World}:∀{ns:List Int}{its:List Value},Vals (ns.map V.int) its->ItemsAre (intKind prog w) ns its
 | [],_,.nil=>.nil
 |n::ns,_,.cons r rs=>by
  obtain⟨t,rfl⟩:=r;exact .cons (intKind_is _ _ _ _) (gw_items rs)
section
variable{P:Program}{w:World}{H:Hp}{h:Heap}
theorem ints_key{ns:List Int}{a:Addr}(ok:HOk P w H h)(e:H a=some (.tup (ns.map V.int))):IsTupleKey (intKind P w) h ns a:=by
 obtain⟨_,its,r,⟨o,h1,h2,n,h3⟩,_⟩:=(show yh P w H h a (.tup (ns.map V.int))from ok a _ e);exact⟨o,its.toArray,n,h1,h2,h3,by simpa using gw_items r⟩
end
end L2
namespace L2
open PySem PySem.W PyProof.Rows
def kRun{α:Type}(lt:Nat->Nat->Bool):KasT α-> α
 | .ret a=>a
 | .ask i j k=>kRun lt (k (lt i j))
theorem kRun_bind{α β:Type}(lt:Nat->Nat->Bool)(f:α->KasT β):∀t:KasT α,kRun lt (t.bind f)=kRun lt (f (kRun lt t))
 | .ret _=>rfl
 | .ask i j k=>kRun_bind lt f (k (lt i j))
structure Ord(lt:Nat->Nat->Bool):Prop where
 asym:∀a b,lt a b=true->lt b a=false
 tr:∀a b c,lt b a=false->lt c b=false->lt c a=false
theorem Ord.irr{lt:Nat->Nat->Bool}(o:Ord lt)(a:Nat):lt a a=false:=by
 cases h:lt a a with
 |false=>rfl
 |true=>rw[o.asym a a h]at h;cases h
def at0(p:Array Nat)(i:Nat):Nat:=p.getD i 0
section
variable{lt:Nat->Nat->Bool}
def Up(lt:Nat->Nat->Bool)(p:Array Nat)(m:Nat):Prop:=∀ i j,i<=j->j<m->lt (at0 p j) (at0 p i)=false
theorem run_asc(o:Ord lt)(p:Array Nat):∀(f n:Nat),1<=n->Up lt p n-> ∃m,kRun lt (kas_asc p f n)=m/\n<=m/\m<=n+f/\Up lt p m/\(m=n+f\/lt (at0 p m) (at0 p (m-1))=true)
 | 0,n,_,hu=>⟨n,rfl,le_refl _,le_refl _,hu,.inl rfl⟩
 |f+1,n,h1,hu=>by
  cases hc:lt (at0 p n) (at0 p (n-1))with
  |true =>
   refine⟨n,?_,le_refl _,by omega,hu,.inr hc⟩;show kRun lt (if lt (at0 p n) (at0 p (n-1))=true then _ else _)=n;rw[if_pos hc];rfl
  |false =>
   have hu':Up lt p (n+1):=fun i j hij hj=>by
    by_cases e:j=n
    ·subst e;by_cases e2:i=j
     ·subst e2;exact o.irr _
     ·exact o.tr _ _ _ (hu i (j-1) (by omega) (by omega)) hc
    ·exact hu i j hij (by omega)
   obtain⟨m,e,a1,a2,a3,a4⟩:=run_asc o p f (n+1) (by omega) hu';refine⟨m,?_,by omega,by omega,a3,?_⟩
   ·show kRun lt (if lt (at0 p n) (at0 p (n-1))=true then _ else _)=m;rw[if_neg (by rw[hc];decide)];exact e
   ·rcases a4 with a4|a4
    ·exact .inl (by omega)
    ·exact .inr a4
end
def AskQ{α:Type}(n:Nat)(R:α->Prop):KasT α->Prop
 | .ret a=>R a
 | .ask i j k=>i<n/\j<n/\ ∀b,AskQ n R (k b)
theorem AskQ.bind{α β:Type}{n:Nat}{R:α->Prop}{R':β->Prop}{f:α->KasT β}(hf:∀a,R a->AskQ n R' (f a)):∀{t:KasT α},AskQ n R t->AskQ n R' (t.bind f)
 | .ret a,h=>hf a h
 | .ask _ _ k,h=>⟨h.1,h.2.1,fun b=>AskQ.bind hf (t:=k b) (h.2.2 b)⟩
def jz(n:Nat)(p:Array Nat):Prop:=∀ x∈p.toList,x<n
theorem jz.at{n:Nat}{p:Array Nat}(h:jz n p)(hn:1<=n)(i:Nat):p.getD i 0<n:=by
 by_cases hi:i<p.size
 ·have:p.getD i 0=p[i]:=by simp[Array.getD,hi]
  rw[this];exact h _ (by simp)
 ·have:p.getD i 0=0:=by simp[Array.getD,hi]
  omega
theorem jz.perm{n:Nat}{p q:Array Nat}(h:jz n p)(hp:q.Perm p):jz n q:=fun x hx=>h x ((Array.perm_iff_toList_perm.mp hp).mem_iff.mp hx)
section
variable{n:Nat}
theorem ask_asc(hn:1<=n){p:Array Nat}(hp:jz n p):∀(f m:Nat),AskQ n (fun _=>True) (kas_asc p f m)
 | 0,_=>trivial
 |f+1,m=>⟨hp.at hn _,hp.at hn _,fun b=>by
  cases b
  ·exact ask_asc hn hp f (m+1)
  ·exact trivial⟩
theorem ask_desc(hn:1<=n):∀(f:Nat)(p:Array Nat)(m q:Nat),jz n p->AskQ n (fun r=>jz n r.1) (kas_desc f p m q)
 | 0,p,_,_,hp=>hp
 |f+1,p,m,q,hp=>⟨hp.at hn _,hp.at hn _,fun b=>by
  cases b
  ·refine⟨hp.at hn _,hp.at hn _,fun b=>?_⟩;cases b
   ·exact ask_desc hn f p (m+1) (q+1) hp
   ·exact hp
  ·show AskQ n _ (if q>0 then _ else _);by_cases h:q>0
   ·rw[if_pos h];exact ask_desc hn f _ _ _ (hp.perm (mirror_perm _ _ _ _))
   ·rw[if_neg h];exact ask_desc hn f _ _ _ hp⟩
theorem ask_tail3(hn:1<=n){p:Array Nat}(hp:jz n p)(m nrem:Nat):AskQ n (fun r=>jz n r.2) (kas_tail3 m nrem p):=by
 have hq:jz n (kas_rev p 0 m):=hp.perm (mirror_perm _ _ _ _);unfold kas_tail3;refine AskQ.bind (R:=fun _=>True) (R':=fun r:Nat×Array Nat=>jz n r.2) (fun x _=>?_) (ask_asc hn hq _ _);exact hq
theorem ask_descPart(hn:1<=n){p:Array Nat}(hp:jz n p)(m nrem:Nat):AskQ n (fun r=>jz n r.2) (kas_descPart m nrem p):=by
 refine AskQ.bind (R:=fun r=>jz n r.1) (fun r hr=>?_) (ask_desc hn _ _ _ _ hp);show AskQ n _ (if r.2.2>0 then _ else _);by_cases h:r.2.2>0
 ·rw[if_pos h];exact ask_tail3 hn (hr.perm (mirror_perm _ _ _ _)) _ _
 ·rw[if_neg h];exact ask_tail3 hn hr _ _
theorem ask_count(hn:1<=n){p:Array Nat}(hp:jz n p)(nrem:Nat):AskQ n (fun r=>jz n r.2) (kas_count nrem p):=by
 refine AskQ.bind (R:=fun _=>True) (fun m _=>?_) (ask_asc hn hp _ _);show AskQ n _ (if(m==nrem)=true then _ else if m>1 then _ else _);by_cases h:(m==nrem)=true
 ·rw[if_pos h];exact hp
 ·rw[if_neg h];by_cases h1:m>1
  ·rw[if_pos h1];refine⟨hp.at hn _,hp.at hn _,fun b=>?_⟩;cases b
   ·exact ask_descPart hn (hp.perm (mirror_perm _ _ _ _)) _ _
   ·exact hp
  ·rw[if_neg h1];exact ask_descPart hn hp _ _
theorem ask_place(hn:1<=n){p:Array Nat}(hp:jz n p)(k:Nat):∀(f l r:Nat),AskQ n (fun _=>True) (kas_place p k f l r)
 | 0,_,_=>trivial
 |f+1,l,r=>by
  unfold kas_place;by_cases h:l>=r
  ·rw[if_pos h];exact trivial
  ·rw[if_neg h];refine⟨hp.at hn _,hp.at hn _,fun b=>?_⟩;cases b
   ·exact ask_place hn hp k f _ _
   ·exact ask_place hn hp k f _ _
theorem ask_bin(hn:1<=n):∀(f:Nat)(p:Array Nat)(k:Nat),jz n p->AskQ n (fun _=>True) (kas_bin f p k)
 | 0,_,_,_=>trivial
 |f+1,p,k,hp=>AskQ.bind (R:=fun _=>True) (fun l _=>ask_bin hn f _ _ (hp.perm (bubble_perm _ _ _))) (ask_place hn hp k _ _ _)
theorem ask_sort(hn:1<=n):AskQ n (fun _=>True) (kas_sort n):=by
 have hb:jz n (List.toArray (List.range n)):=fun x hx=>by simpa using hx
 refine AskQ.bind (R:=fun r=>jz n r.2) (fun r hr=>?_) (ask_count hn hb n);show AskQ n _ (if r.1<n then _ else _);by_cases h:r.1<n
 ·rw[if_pos h];exact ask_bin hn _ _ _ hr
 ·rw[if_neg h];exact trivial
end
theorem kasWp_run{α:Type}{n:Nat}{lt:Nat->Nat->Bool}{cmp:Nat->Nat->(Bool->Shared->Prop)->Shared->Prop}{s:Shared}(hc:∀i j,i<n->j<n-> ∀C:Bool->Shared->Prop,C (lt i j) s->cmp i j C s){Q:α->Shared->Prop} :
  ∀{t:KasT α},AskQ n (fun _=>True) t->Q (kRun lt t) s->t.kasWp cmp Q s
 | .ret a,_,h=>h
 | .ask i j k,ha,h=>hc i j ha.1 ha.2.1 _ (kasWp_run hc (t:=k (lt i j)) (ha.2.2 (lt i j)) h)
theorem lex_asym:∀a b:List Int,HT.lexLt a b=true->HT.lexLt b a=false
 | [],[],h=>by cases h
 | [],_::_,_=>rfl
 | _::_,[],h=>by cases h
 |x::a,y::b,h=>by
  rw[HT.lexLt_cons]at h ⊢;by_cases e:x=y
  ·rw[if_pos e]at h;rw[if_pos e.symm];exact lex_asym a b h
  ·rw[if_neg e]at h;rw[if_neg fun z=>e z.symm,decide_eq_false_iff_not];have:=of_decide_eq_true h;omega
theorem lex_tr:∀a b c:List Int,HT.lexLt b a=false->HT.lexLt c b=false->HT.lexLt c a=false
 | [],[],_,_,h=>h
 | [],_::_,[],h,_=>rfl
 | [],_::_,_::_,_,_=>rfl
 | _::_,[],_,h,_=>by cases h
 | _::_,_::_,[],_,h=>by cases h
 |x::a,y::b,z::c,h1,h2=>by
  rw[HT.lexLt_cons]at h1 h2 ⊢;by_cases e1:y=x
  ·rw[if_pos e1]at h1;subst e1;by_cases e2:z=y
   ·rw[if_pos e2]at h2 ⊢;exact lex_tr a b c h1 h2
   ·rw[if_neg e2]at h2 ⊢;exact h2
  ·rw[if_neg e1,decide_eq_false_iff_not]at h1;by_cases e2:z=y
   ·subst e2;rw[if_neg e1,decide_eq_false_iff_not];exact h1
   ·rw[if_neg e2,decide_eq_false_iff_not]at h2;rw[if_neg (by omega),decide_eq_false_iff_not];omega
theorem lex_eq:∀a b:List Int,HT.lexLt a b=false->HT.lexLt b a=false->a=b
 | [],[],_,_=>rfl
 | [],_::_,h,_=>by cases h
 | _::_,[],_,h=>by cases h
 |x::a,y::b,h1,h2=>by
  rw[HT.lexLt_cons]at h1 h2;by_cases e:x=y
  ·subst e;rw[if_pos rfl]at h1 h2;rw[lex_eq a b h1 h2]
  ·rw[if_neg e,decide_eq_false_iff_not]at h1;rw[if_neg fun z=>e z.symm,decide_eq_false_iff_not]at h2;omega
section
variable{prog:Program}{w:World}{A:Around}{E:Value->Shared->Prop}{s:Shared}
theorem oneLt_ints{f:Bool}{a b:Int}{t u:Tok}{Q:Bool->Shared->Prop}(h:Q (decide (a<b)) s):wpAny (model prog w) A (oneLt' f (.int a t) (.int b u)) Q E s:=by
 cases f with
 |true=>exact oneLt_int h
 |false =>
  rw[oneLt'_eq];simp only[false_eq_true,if_false];exact wpAny_bind (HT.rcLt_int A s a t b u prog w E _ (wpAny_truthy_bool h))
theorem eqInt{a b:Int}{t u:Tok}{Q:Bool->Shared->Prop}(h:Q (decide (a=b)) s):wpAny (model prog w) A (eqBool (.int a t) (.int b u)) Q E s :=
 (intKind prog w).eqBool (a:=a) (b:=b) (intKind_is _ _ _ _) (intKind_is _ _ _ _) h
theorem keyLt_ints{f:Bool}{x y:Addr}{a b:List Int}{Q:Bool->Shared->Prop}(hx:IsTupleKey (intKind prog w) s.heap a x)(hy:IsTupleKey (intKind prog w) s.heap b y)(h:Q (HT.lexLt a b) s) :
  wpAny (model prog w) A (keyLt' (tuples' f) (.ref x) (.ref y)) Q E s:=by
 obtain⟨ox,xs,nx,gx,_,dx,ix⟩:=hx;obtain⟨oy,ys,ny,gy,_,dy,iy⟩:=hy;show wpAny _ _ (Builtin.List.listItems (.ref x) >>= _) _ _ s;unfold Builtin.List.listItems;refine wpAny_bind (wpAny_bind (wpAny_seqItems gx dx (wpAny_pure ?_)));refine wpAny_bind (wpAny_bind (wpAny_seqItems gy dy (wpAny_pure ?_)));dsimp only;refine wpAny_bind ?_;refine wpAny_forIn_list _
  (fun rest r s'=>r.1=none/\s'=s/\ ∃a' b' xs' ys' i,rest=(List.zip xs' ys').zipIdx i/\ItemsAre (intKind prog w) a' xs'/\ItemsAre (intKind prog w) b' ys'/\HT.lexLt a' b'=HT.lexLt a b/\decide (xs'.length<ys'.length)=decide (xs.size<ys.size))
  _ ?_ ?_ _ _ ⟨rfl,rfl,a,b,xs.toList,ys.toList,0,rfl,ix,iy,rfl,by simp⟩
 ·rintro⟨⟨u,v⟩,i⟩ rest r s' ⟨hr,rfl,a',b',xs',ys',i',hz,hx',hy',hdec,hlen⟩;cases hx' with
  |nil=>simp at hz
  | @cons k1 u' a'' xs'' h1 hx'' =>
   cases hy' with
   |nil=>simp at hz
   | @cons k2 v' b'' ys'' h2 hy'' =>
    simp only[List.zip_cons_cons,List.zipIdx_cons,List.cons.injEq,Prod.mk.injEq]at hz;obtain⟨⟨⟨rfl,rfl⟩,rfl⟩,rfl⟩:=hz;obtain⟨t1,rfl⟩:=Value.isInt_shape h1;obtain⟨t2,rfl⟩:=Value.isInt_shape h2;refine wpAny_bind (eqInt ?_);rw[HT.lexLt_cons]at hdec;by_cases hk:k1=k2
    ·rw[decide_eq_true hk];rw[if_pos hk]at hdec;simp only[Bool.not_true,false_eq_true,if_false];exact wpAny_pure ⟨rfl,rfl,a'',b'',xs'',ys'',_,rfl,hx'',hy'',hdec,by simpa using hlen⟩
    ·rw[decide_eq_false hk];rw[if_neg hk]at hdec;simp only[Bool.not_false,if_true];refine wpAny_bind (oneLt_ints ?_);rw[<-hdec]at h;exact wpAny_pure (wpAny_pure h)
 ·rintro⟨r1,r2⟩ s' ⟨hr,rfl,a',b',xs',ys',i',hz,hx',hy',hdec,hlen⟩;simp only at hr;subst hr;refine wpAny_pure ?_;have hfin:decide (xs.size<ys.size)=HT.lexLt a b:=by
   rw[<-hdec,<-hlen];cases hx' with
   |nil =>
    cases hy' with
    |nil=>rfl
    |cons _ _=>rfl
   |cons _ _ =>
    cases hy' with
    |nil=>rfl
    |cons _ _=>simp at hz
  rw[<-hfin]at h;exact h
end
end L2
namespace L2
open PySem PySem.W PySem.Spec PyProof.Rows
structure SortOn(X:Cx){α:Type}(R:α->V->Hp->Prop)(blt:α-> α->Bool)(κ:SortKind)(good:List α->Prop):Prop where
 asym:∀a b,blt a b=true->blt b a=false
 tr:∀a b c,blt b a=false->blt c b=false->blt c a=false
 cmp:∀(pins:List (Addr×Obj))(σ:L2.St)(H:Hp)(s:Shared)(A:Around)(a b:α)(v u:V)(x y:Value)(C:Bool->Shared->Prop),Inv X pins σ H s->A.units+2<cLine->R a v H->R b u H->RelV v x->RelV u y->C (blt a b) s->
  wpAny (model X.prog X.w) A (keyLt' κ x y) C (fun _ _=>False) s
 kind:∀(pins:List (Addr×Obj))(σ:L2.St)(H:Hp)(s:Shared)(A:Around)(E:Value->Shared->Prop)(hs:List α)(xs:List V)(vs:List Value)(Q:SortKind->Shared->Prop),Inv X pins σ H s->All2 R H hs xs->Vals xs vs->2<=vs.length->good hs->Q κ s->
  wpAny (model X.prog X.w) A (keyKind' vs.toArray) Q E s
 mv:∀(a:α)(v:V)(H H':Hp),Tups H H'->R a v H->R a v H'
theorem all2_at{α:Type}{R:α->V->Hp->Prop}{H:Hp}:∀{hs:List α}{xs:List V},All2 R H hs xs-> ∀(d:α)(i:Nat),i<hs.length-> ∃x,xs[i]? =some x/\R (hs.getD i d) x H
 |h::hs,x::xs,.cons r t,d,0,_=>⟨x,rfl,r⟩
 |h::hs,x::xs,.cons r t,d,i+1,hi=>by
  obtain⟨y,e,r'⟩:=all2_at t d i (by simpa using hi);exact⟨y,by simpa using e,by simpa using r'⟩
theorem all2_rev{α:Type}{R:α->V->Hp->Prop}{H:Hp}:∀{hs:List α}{xs:List V},All2 R H hs xs->All2 R H hs.reverse xs.reverse
 | [],_,.nil=>.nil
 |h::hs,x::xs,.cons r t=>by
  rw[List.reverse_cons,List.reverse_cons];exact(all2_rev t).snoc r
theorem all2_pick{α:Type}{R:α->V->Hp->Prop}{H:Hp}{hs:List α}{xs:List V}(h:All2 R H hs xs)(d:α):∀p:List Nat,(∀i∈p,i<hs.length)->All2 R H (p.map fun i=>hs.getD i d) (p.map fun i=>xs.getD i .non)
 | [],_=>.nil
 |i::p,hp=>by
  obtain⟨x,e,r⟩:=all2_at h d i (hp i (by simp));refine .cons ?_ (all2_pick h d p fun j hj=>hp j (by simp[hj]));show R (hs.getD i d) (xs.getD i .non) H;rw[getD_eq_getElem?_getD (l:=xs),e];exact r
theorem vals_rev:∀{xs:List V}{vs:List Value},Vals xs vs->Vals xs.reverse vs.reverse
 | _,_,.nil=>.nil
 | _,_,.cons r t=>by
  rw[List.reverse_cons,List.reverse_cons];exact Paired.snoc (vals_rev t) r
theorem vals_at:∀{xs:List V}{vs:List Value},Vals xs vs-> ∀i,i<xs.length->RelV (xs.getD i .non) (vs.getD i Value.none)
 | _,_,.cons r _,0,_=>by simpa using r
 | _,_,.cons _ t,i+1,h=>by simpa using vals_at t i (by simpa using h)
theorem vals_pick{xs:List V}{vs:List Value}(h:Vals xs vs):∀p:List Nat,(∀i∈p,i<xs.length)->Vals (p.map fun i=>xs.getD i .non) (p.map fun i=>vs.getD i Value.none)
 | [],_=>.nil
 |i::p,hp=>.cons (vals_at h i (hp i (by simp))) (vals_pick h p fun j hj=>hp j (by simp[hj]))
section
variable{M:Model}{A:Around}{E:Value->Shared->Prop}{s:Shared}
theorem mapM_ok{α β:Type}{f:α->Sem β}{g:α-> β}:∀(l:List α){Q:List β->Shared->Prop},(∀v∈l,∀(Q':β->Shared->Prop),Q' (g v) s->wpAny M A (f v) Q' E s)->Q (l.map g) s->wpAny M A (l.mapM f) Q E s
 | [],_,_,h=>by rw[List.mapM_nil];exact wpAny_pure h
 |x::l,Q,hf,h=>by
  rw[List.mapM_cons];exact wpAny_bind (hf x (.head _) _ (wpAny_bind (mapM_ok l (Q:=fun bs s'=>wpAny M A (pure (g x::bs)) Q E s') (fun v hv=>hf v (.tail _ hv)) (wpAny_pure h))))
theorem kind_tuples{vs:List Value}{g:Value->Value}{T:Value}{Q:SortKind->Shared->Prop}(h2:2<=vs.length)(hT:∀v∈vs,∃x xs n o,v= .ref x/\s.heap.get? x=some o/\o.cls= .type "tuple"/\o.data= .seq xs n/\xs[0]? =some (g v))(hG:∀v∈vs,∀(Q':Value->Shared->Prop),Q' T s->wpAny M A (typeOf (g v)) Q' E s)(hTT:(T==T)=true)(h:Q (tuples' (T != .type "tuple")) s):wpAny M A (keyKind' vs.toArray) Q E s:=by
 rw[keyKind'_eq,List.mapM_toArray,map_eq_pure_bind];refine wpAny_bind (wpAny_bind (mapM_ok (g:=fun v=>some (g v)) vs (fun v hv Q' hq=>?_) (wpAny_pure ?_)))
 ·rw[kas_first_eq];obtain⟨x,xs,n,o,rfl,ho,hc,hd,h0⟩:=hT v hv;refine wpAny_bind (wpAny_typeOf (T :="tuple") ⟨o,ho,hc⟩ ?_);rw[if_neg (by decide)];unfold Builtin.List.listItems;refine wpAny_bind (wpAny_bind (wpAny_seqItems ho hd (wpAny_pure ?_)));rw[h0];exact wpAny_pure hq
 ·have hall:((vs.map fun v=>some (g v)).toArray.all (·.isSome))=true:=by
   rw[List.all_toArray,all_eq_true];intro x hx;obtain⟨v,_,rfl⟩:=mem_map.mp hx;rfl
  rw[if_pos hall];refine wpAny_bind (wpAny_rule ?_);have hfm:((vs.map fun v=>some (g v)).toArray.filterMap id)=(vs.map g).toArray:=by
   apply Array.toList_inj.mp;rw[Array.toList_filterMap];show(vs.map fun v=>some (g v)).filterMap id=vs.map g;rw[List.filterMap_map];exact(List.filterMap_eq_map (f:=g))▸rfl
  rw[hfm,oneTypeOnly'_eq,List.mapM_toArray,map_eq_pure_bind];refine wpAny_bind (wpAny_bind (wpAny_bind (mapM_ok (g:=fun _=>T) (vs.map g) (fun u hu Q' hq=>?_) (wpAny_pure ?_))))
  ·obtain⟨v,hv,rfl⟩:=mem_map.mp hu;exact hG v hv Q' hq
  ·have h0:((vs.map g).map fun _=>T).toArray[0]? =some T:=by
    cases vs with
    |nil=>simp at h2
    |cons v r=>simp
   have hall2:(((vs.map g).map fun _=>T).toArray.all (· ==T))=true:=by
    rw[List.all_toArray,all_eq_true];intro x hx;obtain⟨v,_,rfl⟩:=mem_map.mp hx;exact hTT
   rw[h0];simp only[hall2,if_true];exact wpAny_pure (wpAny_pure h)
end
end L2
namespace L2
open PySem PySem.Spec PyProof.Rows PySem.W
section
variable{lt:Nat->Nat->Bool}
theorem run_sortU(o:Ord lt){n:Nat}(hn:1<=n)(hs:∀i,i+1<n->lt (i+1) i=false):∃p,kRun lt (kas_sort n)=p/\p.toList.Perm (List.range n)/\Up lt p n:=by
 obtain⟨m,e,a1,a2,a3,a4⟩:=run_asc o (List.toArray (List.range n)) (n-1) 1 (le_refl _) (fun i j hij hj=>by
  have:i=j:=by omega
  subst this;exact o.irr _)
 have at_:∀i,i<n->at0 (List.toArray (List.range n)) i=i:=fun i hi=>by unfold at0;simp[hi]
 have em:m=n:=by
  rcases a4 with h|h
  ·omega
  ·by_cases hm:m<n
   ·rw[at_ m hm,at_ (m-1) (by omega)]at h;have:=hs (m-1) (by omega);rw[show m-1+1=m by omega,h]at this;cases this
   ·omega
 subst em;refine⟨List.toArray (List.range m),?_,.refl _,a3⟩;unfold kas_sort kas_count;rw[kRun_bind,kRun_bind,e];simp only[beq_self_eq_true,if_true,kRun,lt_irrefl,if_false]
theorem sort_next{α:Type}{blt:α-> α->Bool}{hs:List α}(hpw:hs.Pairwise (fun a b=>blt a b=false))(d:α){i:Nat}(hi:i+1<hs.length):blt (hs.reverse.getD (i+1) d) (hs.reverse.getD i d)=false:=by
 have h1:i+1<hs.reverse.length:=by rw[List.length_reverse];exact hi
 have h0:i<hs.reverse.length:=Nat.lt_of_succ_lt h1;have pr:hs.reverse.Pairwise (fun a b=>blt b a=false):=List.pairwise_reverse.mpr hpw;have:=List.pairwise_iff_getElem.mp pr i (i+1) h0 h1 (Nat.lt_succ_self i);rw[getD_eq_getElem?_getD,getD_eq_getElem?_getD,getElem?_eq_getElem h0,getElem?_eq_getElem h1];exact this
end
section
variable{prog:Program}{w:World}{A:Around}{E:Value->Shared->Prop}{s:Shared}
theorem sort_anyU{a:Addr}{vs:List Value}{n:Nat}{κ:SortKind}{P:PySem.Fin->Shared->Prop}(ho:s.heap.get? a=some (seqObj "list" vs.toArray n))(h64:vs.length<64){lt:Nat->Nat->Bool}(o:Ord lt)(hsU:∀i,i+1<vs.length->lt (i+1) i=false)(hkind:2<=vs.length-> ∀h':Heap,(∀b o,b≠a->s.heap.get? b=some o->h'.get? b=some o)-> ∀Q':SortKind->Shared->Prop,Q' κ {s with heap:=h'}->wpAny (model prog w) A (keyKind' vs.toArray) Q' E {s with heap:=h'})(hcmp:∀h':Heap,(∀b o,b≠a->s.heap.get? b=some o->h'.get? b=some o)-> ∀i j,i<vs.length->j<vs.length-> ∀C:Bool->Shared->Prop,C (lt i j) {s with heap:=h'}->kas_ask prog w A κ vs.reverse i j C {s with heap:=h'})(h:∀p:List Nat,p.Perm (List.range vs.length)->(∀i j,i<=j->j<vs.length->lt (p.getD j 0) (p.getD i 0)=false)->P (.done (.ret .none)) {s with heap:=sortedHeap s.heap a vs ((p.map fun i=>vs.reverse.getD i Value.none).reverse).toArray}) :
  wpAny (model prog w) A (Builtin.«list.sort» ⟨[.ref a],[(Str.ofString "reverse",.bool true)]⟩) P E s:=by
 rw[list_sort_rev];have ha:a<s.heap.objs.size:=Heap.lt_size ho;refine wpAny_bind (listItems_at ho rfl ?_);refine wpAny_bind (listUpdate_at ho rfl ?_);obtain⟨e1,ho1⟩:∃e1,(s.heap.update a (Obj.mapSeq fun _=>#[])).get? a=some (seqObj "list" #[] e1):=⟨_,get?_update_seq ho (fun _=>#[])⟩;refine wpAny_bind (seqEpoch_at ho1 rfl ?_);refine wpAny_bind (wpAny_newTuple ?_);refine wpAny_bind (wpAny_newList ?_);refine wpAny_holding ?_;have ho6:(((s.heap.update a (Obj.mapSeq fun _=>#[])).push (seqObj "tuple" vs.toArray 0)).push (seqObj "list" #[] 0)).get? a=some (seqObj "list" #[] e1):=Heap.get?_push_of_some _ (Heap.get?_push_of_some _ ho1);have keep:∀b o,b≠a->s.heap.get? b=some o->(((s.heap.update a (Obj.mapSeq fun _=>#[])).push (seqObj "tuple" vs.toArray 0)).push (seqObj "list" #[] 0)).get? b=some o:=fun b o hb e =>
  Heap.get?_push_of_some _ (Heap.get?_push_of_some _ ((Heap.get?_update_other _ _ (Ne.symm hb)).trans e))
 have hsz:vs.toArray.size=vs.length:=by simp
 show wpAny (model prog w) A _ P E {s with heap:=((s.heap.update a (Obj.mapSeq fun _=>#[])).push (seqObj "tuple" vs.toArray 0)).push (seqObj "list" #[] 0)};dsimp only;refine wpAny_bind (wpAny_rule ?_);have hrev:(vs.toArray.zip vs.toArray).reverse=pairsOf vs.reverse:=by
  apply Array.toList_inj.mp;rw[Array.toList_reverse];unfold pairsOf;simp[List.zip_eq_zipWith,List.reverse_zipWith]
 have fin:∀(p:Array Nat)(st':SortSt),p.toList.Perm (List.range vs.length)->(∀i j,i<=j->j<vs.length->lt (p.toList.getD j 0) (p.toList.getD i 0)=false)->arrOf st'=p.map (kas_item (pairsOf vs.reverse))->failedOf st'=none->
   wpAny (model prog w) A (do
    let touched:=(<-seqEpoch a) !=e1
    Builtin.List.listUpdate (.ref a) fun _=>((arrOf st').map (·.2)).reverse
    if let some e:=failedOf st' then rule "list.sort.comparison-raised";throw e
    if touched then rule "list.sort.modified";raiseError "ValueError" "list modified during sort"
    ret .none) P E {s with heap:=((s.heap.update a (Obj.mapSeq fun _=>#[])).push (seqObj "tuple" vs.toArray 0)).push (seqObj "list" #[] 0)}:=fun p st' hp hs har hf=>by
  have hout:((arrOf st').map (·.2)).reverse=((p.toList.map fun i=>vs.reverse.getD i Value.none).reverse).toArray:=by
   apply Array.toList_inj.mp;rw[har,Array.toList_reverse,Array.map_map,Array.toList_map];show _=(p.toList.map fun i=>vs.reverse.getD i Value.none).reverse;congr 1;exact map_congr_left fun i _=>by show(kas_item (pairsOf vs.reverse) i).2=_;rw[kas_item_eq]
  have hlen:((p.toList.map fun i=>vs.reverse.getD i Value.none).reverse).toArray.size=vs.length:=by
   rw[size_toArray,List.length_reverse,length_map,hp.length_eq,List.length_range]
  rw[hout];refine wpAny_bind (seqEpoch_at ho6 rfl ?_);refine wpAny_bind (listUpdate_at ho6 rfl ?_ (hsz2:=by
   refine le_trans (Nat.le_of_eq hlen) ?_;rw[sizeLine_eq];omega))
  rw[hf];simp only[bne_self_eq_false,false_eq_true,if_false];exact wpAny_pure (h p.toList hp hs)
 have hlr:(pairsOf vs.reverse).size=vs.length:=by rw[pairsOf_size,List.length_reverse]
 have hrng:(List.toArray (List.range vs.length)).map (kas_item (pairsOf vs.reverse))=pairsOf vs.reverse:=by
  have e:=kas_range (pairsOf vs.reverse);rw[hlr]at e;exact e
 by_cases h2:vs.toArray.size<2
 ·rw[if_pos h2,if_pos h2];refine wpAny_bind (wpAny_pure ?_);rw[StateT.run_pure];refine wpAny_bind (wpAny_pure ?_);refine fin (List.toArray (List.range vs.length)) (SortSt.mk' general' (vs.toArray.zip vs.toArray).reverse #[] 7 none) (by simp) (fun i j hij hj=>?_) ?_ rfl
  ·have:i=j:=by omega
   subst this;exact o.irr _
  ·rw[hrng,<-hrev]
 ·rw[if_neg h2,if_neg h2];refine wpAny_bind (hkind (by omega) _ keep _ ?_);have est:SortSt.mk' κ (vs.toArray.zip vs.toArray).reverse #[] 7 none=kas_st κ (pairsOf vs.reverse) (List.toArray (List.range vs.length)):=by
   show _=SortSt.mk' κ ((List.toArray (List.range vs.length)).map (kas_item (pairsOf vs.reverse))) #[] 7 none;rw[hrng,<-hrev]
  obtain⟨p,ep,hp,hup⟩:=run_sortU o (n:=vs.length) (by omega) hsU;have hps:p.size=vs.length:=by
   have:=hp.length_eq;simpa using this
  have run:=kas_runs (prog:=prog) (w:=w) (A:=A) (E:=E) (κ:=κ) (it:=pairsOf vs.reverse) (n:=vs.length) (Q:=fun _ st' s'=>s'={s with heap:=((s.heap.update a (Obj.mapSeq fun _=>#[])).push (seqObj "tuple" vs.toArray 0)).push (seqObj "list" #[] 0)}/\arrOf st'=p.map (kas_item (pairsOf vs.reverse))/\failedOf st'=none)
   (G:=fun p' s'=>p'=p/\s'={s with heap:=((s.heap.update a (Obj.mapSeq fun _=>#[])).push (seqObj "tuple" vs.toArray 0)).push (seqObj "list" #[] 0)})
   (s:={s with heap:=((s.heap.update a (Obj.mapSeq fun _=>#[])).push (seqObj "tuple" vs.toArray 0)).push (seqObj "list" #[] 0)}) (by omega) h64 (fun p' st' s' a1 a2 a3 a4=>⟨a4.2,by rw[a2,a4.1],a3⟩)
   (kasWp_run (lt:=lt) (fun i j hi hj C hC=>by
    have:=hcmp _ keep i j hi hj C hC;rw[kas_ask_eq]at this;exact this) (ask_sort (by omega)) ⟨ep,rfl⟩)
  rw[<-est]at run;refine wpAny_bind (wpAny_mono run ?_ fun _ _ e=>e);rintro⟨⟨⟩,st'⟩ s' ⟨rfl,har,hf⟩;refine fin p st' hp (fun i j hij hj=>?_) har hf;have e:∀k,p.toList.getD k 0=at0 p k:=fun k=>by
   unfold at0;rw[Array.getD_eq_getD_getElem?,getD_eq_getElem?_getD,Array.getElem?_toList]
  rw[e,e];exact hup i j hij hj
end
section
variable{X:Cx}{α:Type}{R:α->V->Hp->Prop}{blt:α-> α->Bool}{κ:SortKind}{good:List α->Prop}
def rSortU(K:W.Frag)(R:α->V->Hp->Prop)(blt:α-> α->Bool)(good:List α->Prop):V->Hp->VK->Prop:=fun x H Q=>∃ a xs hs,x= .ref a/\SqL K H a xs/\All2 R H hs xs/\hs.length<64/\good hs/\hs.Pairwise (fun a b=>blt a b=false)/\
 ∀gs ys p,gs.Perm hs->gs.Pairwise (fun a b=>blt a b=false)->All2 R H gs ys->H p=none->Q (.ref p) (upd H p (.lst ys))
def tSortU(K:W.Frag)(R:α->V->Hp->Prop)(blt:α-> α->Bool)(good:List α->Prop)(te:TE):TE:=fun σ H Q=>te σ H fun x H1=>rSortU K R blt good x H1 Q
theorem pe_sortU(so:SortOn X R blt κ good)(d:α)(hu:X.A.units+10<cLine){e:Expr}{te:TE}{p kp cp pos:Pos}{j:Nat}(hg:Gl X "sorted")(hm:X.mg "sorted"=none)(he:PE X e te)(hse:starEach [e] X.env=[(false,eval e X.env)]:=by rfl):PE X (.Call (.Name "sorted" p) [e] [⟨some "reverse",.Constant (.bool true) j cp,kp⟩] pos) (tSortU X.K R blt good te):=by
 intro pins s σ H Q I h;refine wpAny_Call_Name_kw (jM I hg hm boot_sorted ?_ (by decide) (by decide));refine callWith_kw (thn (kr he ye hse pos pins s σ H (fun vs H1=>match vs with| [x]=>rSortU X.K R blt good x H1 Q| _=>False) I h) fun us s1 ⟨vs,H1,I1,r1,q1⟩=>?_) (by rw[hse];rfl) (by rw[hse];rfl)
 match vs,r1,q1 with
 | [x],r1,q =>
  obtain⟨u,rfl,ru⟩:=vals1 r1;refine kws_cons (Constant_bool (kws_nil ?_));obtain⟨a,xs,hs,rfl,hq,h2,hl,hgd,hpw,q⟩:=q;cases ru;show wpAny _ _ (call (.builtin "sorted") [.ref a] [(Str.ofString "reverse",.bool true)]) _ _ _;obtain⟨its,r',pl,hz⟩:=I1.list hq;obtain⟨o,ho,hc,n,hd⟩:=pl.isList;have hxl:=h2.length;have hil:=r'.length;refine call_function_entry_kw kind_sorted plain_sorted entry_sorted (args_sorted_rev _ _) ?_;unfold Builtin.«sorted»;refine wpAny_bind (m:=checkCount "sorted" 1 1 _) (wpAny_pure ?_);refine wpAny_bind (wpAny_collect_seq a (.inl rfl) ho hc hd (fun h1 hk1=>?_) (by rw[size_toArray,sizeLine_eq];omega));refine wpAny_bind (wpAny_newList ?_ (by show its.length<=_;rw[sizeLine_eq];omega));have hoL:(h1.push (seqObj "list" its.toArray 0)).get? h1.objs.size=some (seqObj "list" its.toArray 0):=Heap.get?_push_size _ rfl;have I2:Inv X pins σ H1 {s1 with heap:=h1,toks:=s1.toks}:=I1.kept (t':=s1.toks) hk1;have I3:∀h':Heap,(∀b o,b≠h1.objs.size->(h1.push (seqObj "list" its.toArray 0)).get? b=some o->h'.get? b=some o)->Inv X pins σ H1 {s1 with heap:=h',toks:=s1.toks}:=fun h' hk'=>I2.kept (t':=s1.toks) fun b o e=>hk' b o (ne_of_lt (Heap.lt_size e)) (Heap.get?_push_of_some _ e);refine wpAny_bind (wpAny_holding (wpAny_call_entry_kw slot_list_sort ⟨_,hoL,rfl⟩ entry_list_sort (sort_anyU (κ:=κ) (lt:=fun i j=>blt (hs.reverse.getD i d) (hs.reverse.getD j d)) hoL (by omega) ⟨fun a b=>so.asym _ _,fun a b c=>so.tr _ _ _⟩ (fun i hi=>sort_next hpw d (by omega)) (fun h2' h' hk' Q' hQ'=>?_) (fun h' hk' i j hi hj C hC=>?_) fun pp hpp hord=>⟨_,rfl,?_⟩) (args_list_sort_rev _ _)))
  ·exact so.kind pins σ H1 _ _ _ hs xs its Q' (I3 h' hk') h2 r' h2' hgd hQ'
  ·have hr:=all2_rev h2;have vr:=vals_rev r';obtain⟨v1,e1,R1⟩:=all2_at hr d i (by rw[List.length_reverse];omega);obtain⟨v2,e2,R2⟩:=all2_at hr d j (by rw[List.length_reverse];omega);have V1:=vals_at vr i (by rw[List.length_reverse];omega);have V2:=vals_at vr j (by rw[List.length_reverse];omega);rw[getD_eq_getElem?_getD (l:=xs.reverse),e1]at V1;rw[getD_eq_getElem?_getD (l:=xs.reverse),e2]at V2;exact so.cmp pins σ H1 _ _ _ _ v1 v2 _ _ C (I3 h' hk') (by simp;omega) R1 R2 V1 V2 hC
  ·obtain⟨ee,hee⟩:=sortedHeap_at (vs:=its) (out:=((pp.map fun i=>its.reverse.getD i Value.none).reverse).toArray) hoL;have hpb:∀i∈pp,i<hs.reverse.length:=fun i hi=>by
    have:=mem_range.mp (hpp.mem_iff.mp hi);rw[List.length_reverse];omega
   have A2:=all2_rev (all2_pick (all2_rev h2) d pp hpb);have V2:=vals_rev (vals_pick (vals_rev r') pp fun i hi=>by have:=hpb i hi;rw[List.length_reverse]at this ⊢;omega);have gp:((pp.map fun i=>hs.reverse.getD i d).reverse).Perm hs:=by
    refine(List.reverse_perm _).trans ((hpp.map _).trans (List.Perm.trans (List.Perm.of_eq ?_) (List.reverse_perm hs)));apply List.ext_getElem?;intro i;rw[getElem?_map];by_cases hi:i<its.length
    ·rw[List.getElem?_range hi];have:i<hs.reverse.length:=by rw[List.length_reverse];omega
     simp only[Option.map_some];rw[getD_eq_getElem?_getD,getElem?_eq_getElem this];rfl
    ·rw[List.getElem?_eq_none (by simpa using hi),List.getElem?_eq_none (by rw[List.length_reverse];omega)];rfl
   have gw:((pp.map fun i=>hs.reverse.getD i d).reverse).Pairwise (fun a b=>blt a b=false):=by
    rw[List.pairwise_reverse,List.pairwise_map];have hpl:pp.length=its.length:=by rw[hpp.length_eq,List.length_range]
    refine List.pairwise_iff_getElem.mpr fun i j hi hj hij=>?_;have:=hord i j (by omega) (by omega);have e1:pp.getD i 0=pp[i]:=by simp[hi]
    have e2:pp.getD j 0=pp[j]:=by simp[hj]
    rw[e1,e2]at this;exact this
   have hz':((pp.map fun i=>xs.reverse.getD i V.non).reverse).length<=sizeLine:=by
    rw[List.length_reverse,length_map,hpp.length_eq,List.length_range,sizeLine_eq];omega
   refine wpAny_pure ⟨_,rfl,.ref _,_,I2.laid (t':=s1.toks) (a:=h1.objs.size) (fun b o' hb=>?_) (le_refl _) (show yh X.prog X.w _ _ _ (.lst ((pp.map fun i=>xs.reverse.getD i V.non).reverse))from⟨hz',(pp.map fun i=>its.reverse.getD i Value.none).reverse,ee,V2,by simpa [seqObj]using hee⟩),rfl,q _ _ _ gp gw A2 (I2.hok.fresh (le_refl _))⟩;have hlt:=Heap.lt_size hb;rw[sortedHeap_old (ne_of_lt hlt) (by rw[Heap.size_push];exact lt_succ_of_lt hlt)];exact Heap.get?_push_of_some _ hb
end
end L2
namespace L2
open PySem PySem.W PySem.Spec PyProof.Rows
theorem so_tup{X:Cx}:SortOn X Tup1 HT.lexLt (tuples' true) (fun hs=>2<=hs.length-> ∀h∈hs,h≠[]) where
 asym:=lex_asym
 tr:=lex_tr
 cmp:=fun pins σ H s A a b v u x y C I hu r1 r2 q1 q2 hC=>by
  obtain⟨p,rfl,g1⟩:=r1;obtain⟨q,rfl,g2⟩:=r2;cases q1;cases q2;exact keyLt_ints (ints_key I.hok g1) (ints_key I.hok g2) hC
 kind:=fun pins σ H s A E hs xs vs Q I h2 r hl hgd hQ=>by
  have hxl:=h2.length;have hvl:=r.length;have key:∀{hs:List (List Int)}{xs:List V}{vs:List Value},All2 Tup1 H hs xs->Vals xs vs->(∀h∈hs,h≠[])-> ∀v∈vs,∃x xs n o k t,v= .ref x/\s.heap.get? x=some o/\o.cls= .type "tuple"/\o.data= .seq xs n/\xs[0]? =some (.int k t):=by
   intro hs xs vs h2
   induction h2 generalizing vs with
   |nil=>intro r _ v hv;cases r;cases hv
   | @cons a y as ys ra rt ih =>
    intro r hne v hv;cases r with
    |cons rv rr =>
     rcases mem_cons.mp hv with rfl|hv
     ·obtain⟨p,rfl,g⟩:=ra;cases rv;obtain⟨o,items,n,ho,hc,hd,hi⟩:=ints_key (P:=X.prog) (w:=X.w) I.hok g;cases a with
      |nil=>exact absurd rfl (hne [] (by simp))
      |cons k ks =>
       cases hit:items.toList with
       |nil=>rw[hit]at hi;cases hi
       |cons w0 ws =>
        rw[hit]at hi;cases hi with
        |cons h1 _ =>
         obtain⟨t,rfl⟩:=Value.isInt_shape h1;exact⟨p,items,n,o,k,t,rfl,ho,hc,hd,by rw[<-Array.getElem?_toList,hit];rfl⟩
     ·exact ih rr (fun h hh=>hne h (by simp[hh])) v hv
  have kk:=key h2 r (hgd (by omega));have:∀v∈vs,∃u,∃x xs n o,v= .ref x/\s.heap.get? x=some o/\o.cls= .type "tuple"/\o.data= .seq xs n/\xs[0]? =some u/\ ∃k t,u= .int k t:=fun v hv=>by
   obtain⟨x,xs,n,o,k,t,e1,e2,e3,e4,e5⟩:=kk v hv;exact⟨_,x,xs,n,o,e1,e2,e3,e4,e5,k,t,rfl⟩
  let g:Value->Value:=fun v=>open Classical in if h:v∈vs then(this v h).choose else .none
  have hg:∀v∈vs,∃x xs n o,v= .ref x/\s.heap.get? x=some o/\o.cls= .type "tuple"/\o.data= .seq xs n/\xs[0]? =some (g v)/\ ∃k t,g v= .int k t:=fun v hv=>by
   have e:g v=(this v hv).choose:=dif_pos hv;rw[e];exact(this v hv).choose_spec
  refine kind_tuples (g:=g) (T:=.type "int") hl (fun v hv=>?_) (fun v hv Q' hq=>?_) (by decide) (by rw[show(Value.type "int" !=Value.type "tuple")=true by decide];exact hQ)
  ·obtain⟨x,xs,n,o,e1,e2,e3,e4,e5,_⟩:=hg v hv;exact⟨x,xs,n,o,e1,e2,e3,e4,e5⟩
  ·obtain⟨_,_,_,_,_,_,_,_,_,k,t,e⟩:=hg v hv;rw[e];exact wpAny_typeOf (T :="int") (typeIs_int _ _ _) hq
 mv:=fun a v H H' t h=>h.mv t
end L2
namespace L2
open PySem PySem.Spec PyProof.Rows
theorem desc_same{α:Type}{r:α-> α->Prop}(anti:∀a b,r a b->r b a->a=b):∀{l l':List α},l.Perm l'->l.Pairwise r->l'.Pairwise r->l=l'
 | [],l',h,_,_=>(List.Perm.nil_eq h)
 |a::t,[],h,_,_=>by
  have:=h.length_eq;simp at this
 |a::t,b::t',h,h1,h2=>by
  obtain⟨a1,a2⟩:=pairwise_cons.mp h1;obtain⟨b1,b2⟩:=pairwise_cons.mp h2;have e:a=b:=by
   rcases mem_cons.mp (h.mem_iff.mp (show a∈a::t by simp))with e|e
   ·exact e
   ·rcases mem_cons.mp (h.mem_iff.mpr (show b∈b::t' by simp))with e2|e2
    ·exact e2.symm
    ·exact anti a b (a1 b e2) (b1 a e)
  subst e;rw[desc_same anti (h.cons_inv) a2 b2]
theorem lexGt_lt:∀a b:List Int,HT.lexGt a b=true->HT.lexLt a b=false/\a≠b
 | [],[],h=>by cases h
 | [],_::_,h=>by cases h
 | _::_,[],_=>⟨rfl,fun e=>by cases e⟩
 |x::a,y::b,h=>by
  rw[HT.lexGt_cons]at h;rw[HT.lexLt_cons];by_cases e:x=y
  ·rw[if_pos e]at h ⊢;obtain⟨h1,h2⟩:=lexGt_lt a b h;exact⟨h1,fun z=>h2 (List.cons.inj z).2⟩
  ·rw[if_neg e]at h ⊢;have:=of_decide_eq_true h;exact⟨decide_eq_false (by omega),fun z=>e (List.cons.inj z).1⟩
theorem FS{N P:List Str}{sc:Scope}(kind:sc.kind= .function:=by rfl)(co:sc.isCoroutine=false:=by rfl)(gen:sc.isGenerator=false:=by rfl)(nd:N.Nodup:=by decide+kernel)(pre:N.take P.length=P:=by rfl)(par:∀x∈P,sc.names.lookup x=some .local\/sc.names.lookup x=some .cell:=by decide+kernel)(nofree:∀y∈sc.names,y.2≠ .free:=by decide+kernel):FnScope N P sc:=⟨kind,co,gen,nd,pre,par,nofree⟩
structure FB(K:W.Frag)(mg:Str->Option Value)(q:Str)(st:Stmt)(a:Addr)(fd:FuncData)(ps:List Str):Prop where
 F:Fun K q q st a fd
 b:Binds K fd ps []
 g:mg q=some (.ref a)
structure MB(K:W.Frag)(C:Addr)(m q:Str)(st:Stmt)(a:Addr)(fd:FuncData)(ps:List Str):Prop where
 F:Fun K m q st a fd
 b:Binds K fd ps []
 n:W.findIn K (.ref C) m=some (some (.ref a))
 i:W.isFn K (.ref a)=true
theorem MB.mt{K:W.Frag}{C:Addr}{m q:Str}{st:Stmt}{a:Addr}{fd:FuncData}{ps:List Str}(h:MB K C m q st a fd ps):Meth K C m a:=⟨h.n,h.i,h.F.kp⟩
def AllN:Nat->(List Value->Prop)->Prop
 | 0,p=>p []
 |n+1,p=>∀ v,AllN n fun l=>p (v::l)
theorem AllN.get:∀{n:Nat}{p:List Value->Prop},AllN n p-> ∀us:List Value,us.length=n->p us
 | 0,_,h,[],_=>h
 | _+1,_,h,v::us,e=>AllN.get (h v) us (Nat.succ.inj e)
section
variable{K:W.Frag}{h:Heap}{mg:Str->Option Value}{x q:Str}{st:Stmt}{a C:Addr}{oc:Value}{od an:Option Addr}{osl:Array (Option Value)}{kV doc pm cdv ct:Value}{ps:List Str}
def BindN(x q:Str)(st:Stmt)(ps:List Str):Prop:=∀(kV doc pm:Value)(an:Option Addr)(cdv ct:Value),AllN ps.length fun us=>bindArgs (W.fnOf x q (wb st) (jA st) (z8 st) .none kV doc pm an cdv ct) ⟨us,[]⟩=pure (ps.zip us)
theorem FB.of(X:K.In h)(G:h.Ns mainGlobals mg)(n:W.nsIn K mainGlobals q=some (some (.ref a)))(l:K.lookup a=some ⟨oc,od,.func (W.fnOf q q (wb st) (jA st) (z8 st) .none kV doc pm an cdv ct),osl⟩)(c:W.codeIn K cdv q=true)(k:W.keepIn K (.ref a)=true)(b:BindN q q st ps) :
  FB K mg q st a (W.fnOf q q (wb st) (jA st) (z8 st) .none kV doc pm an cdv ct) ps :=
 ⟨fun_mk l c k,(fun_mk l c k).binds fun _ _ _ _ _ _ us e=>(b _ _ _ _ _ _).get us e,W.mg_of X G n⟩
theorem MB.of(n:W.findIn K (.ref C) x=some (some (.ref a)))(i:W.isFn K (.ref a)=true)(l:K.lookup a=some ⟨oc,od,.func (W.fnOf x q (wb st) (jA st) (z8 st) .none kV doc pm an cdv ct),osl⟩)(c:W.codeIn K cdv q=true)(k:W.keepIn K (.ref a)=true)(b:BindN x q st ps) :
  MB K C x q st a (W.fnOf x q (wb st) (jA st) (z8 st) .none kV doc pm an cdv ct) ps :=
 ⟨fun_mk l c k,(fun_mk l c k).binds fun _ _ _ _ _ _ us e=>(b _ _ _ _ _ _).get us e,n,i⟩
end
abbrev rowI{t:Tok}{v:Addr}(s:Str):Str×Tok×Value:=(s,t,.ref v)
abbrev colI{t:Tok}(s:Str):Str×Tok:=(s,t)
theorem mgI{K:W.Frag}{h:Heap}{mg:Str->Option Value}{x:Str}{n:Int}{t:Tok}(X:K.In h)(G:h.Ns mainGlobals mg)(e:W.nsIn K mainGlobals x=some (some (.int n t))):∃t,mg x=some (.int n t):=⟨_,W.mg_of X G e⟩
theorem mgS{K:W.Frag}{h:Heap}{mg:Str->Option Value}{x z:Str}{t:Tok}(X:K.In h)(G:h.Ns mainGlobals mg)(e:W.nsIn K mainGlobals x=some (some (.str z t))):∃t,mg x=some (.str z t):=⟨_,W.mg_of X G e⟩
section
variable{X:Cx}{e e2 e3:Expr}{te te2 te3:TE}{pos:Pos}
theorem pa1(ha:PE X e te)(hs:starEach [e] X.env=(false,eval e X.env)::starEach [] X.env:=by rfl):PA X [e] (tCons te tNil):=kr ha ye hs
theorem pa2(ha:PE X e te)(hb:PE X e2 te2)(hs:starEach [e,e2] X.env=(false,eval e X.env)::starEach [e2] X.env:=by rfl)(h2:starEach [e2] X.env=(false,eval e2 X.env)::starEach [] X.env:=by rfl):PA X [e,e2] (tCons te (tCons te2 tNil)):=kr ha (pa1 hb h2) hs
theorem pa3(ha:PE X e te)(hb:PE X e2 te2)(hc:PE X e3 te3)(hs:starEach [e,e2,e3] X.env=(false,eval e X.env)::starEach [e2,e3] X.env:=by rfl)(h2:starEach [e2,e3] X.env=(false,eval e2 X.env)::starEach [e3] X.env:=by rfl)(h3:starEach [e3] X.env=(false,eval e3 X.env)::starEach [] X.env:=by rfl):PA X [e,e2,e3] (tCons te (tCons te2 (tCons te3 tNil))):=kr ha (pa2 hb hc h2 h3) hs
theorem pset(i:Nat){x:Str}{pos':Pos}(hN:X.N.Nodup)(he:PE X e te)(hi:X.N[i]? =some x:=by rfl)(hx:Loc X.env.scope x:=by first|exact Or.inl rfl|exact Or.inr rfl)(hs:swapsWith e (some (.Name x pos')) pos.line X.env=pure false:=by rfl)(hf:X.fn x=true\/X.env.scope.names.lookup x=some .local:=by first|exact .inl rfl|exact .inr rfl|assumption) :
  PS X (.Assign [.Name x pos'] e pos) (tAsg te (jL i)):=ps_set hN hi hx he hs hf
theorem pgn(i:Nat){x:Str}(hN:X.N.Nodup)(hi:X.N[i]? =some x:=by rfl)(hx:Loc X.env.scope x:=by first|exact Or.inl rfl|exact Or.inr rfl)(hf:X.fn x=true\/X.env.scope.names.lookup x=some .local:=by first|exact .inl rfl|exact .inr rfl|assumption):PG X (.Name x pos) (jL i):=pg_name hN hi hx hf
theorem pcl{cm:Bool}{j k:Nat}{f:Addr}{fd:FuncData}{ps:List Str}{sp:Sp}{x:Str}{p:Pos}{es:List Expr}{t:TA}{st:Stmt}(F:FnOk X.prog X.w X.K X.mg X.base CX0 j f fd ps sp cm)(hr:Room k X.A cm)(B:FB X.K X.mg x st f fd ps)(ha:PA X (e::es) t)(hg:Gl X x:=by rfl)(hj:j<=k:=by decide)(hdb:(x==("__debug__" : Str))=false:=by decide)(he:starEach (e::es) X.env=(false,eval e X.env)::starEach es X.env:=by rfl)(hpl:(backTo pos (starEach es X.env)).any (·.1)=false:=by rfl) :
  PE X (.Call (.Name x p) (e::es) [] pos) (tCall sp [] E0 t):=ka F (hr.mono hj) hg B.g B.F.kp B.b .nil yX ha hdb he hpl
theorem pcm{op:CmpOp}{r:R2}(ho:OpR X (compareOp op) r)(ha:PE X e te)(hb:PE X e2 te2)(h:op≠ .In:=by decide)(h2:op≠ .NotIn:=by decide):PE X (.Compare e [op] [e2] pos) (tOp r te te2):=pe_cmpR ho ha hb (zr _ h h2)
theorem pix{r:R2}(hr:IxR X r)(ha:PE X e te)(hb:PE X e2 te2)(hs:PlainIx e2:=by exact fun _ _=>rfl):PE X (.Subscript e e2 pos) (tOp r te te2):=pe_ix hr ha hb hs
theorem csf{scope:Scope}{ls:List Str}{fr:List (Str×Nat)}(sc:Scope)(N:List Str)(h1:X.env.scope=sc:=by rfl)(h2:X.N=N:=by rfl)(h:cscopeB sc N scope fr=true:=by decide+kernel):CScope X scope ls fr:=cs_of sc N h1 h2 h
end
end L2
namespace L2
section
variable{t1 t2 t3 t4 t5 t6 t7 t8 u:TS}{D:Ends}{σ:St}{H:Hp}
theorem cut1(h:∀nx,nx=u D->t1 {D with nx:=nx} σ H):tSeq t1 u D σ H:=h _ rfl
theorem cut2(h:∀nx,nx=u D->tSeq t1 t2 {D with nx:=nx} σ H):tSeq t1 (tSeq t2 u) D σ H:=h _ rfl
theorem cut4(h:∀nx,nx=u D->tSeq t1 (tSeq t2 (tSeq t3 t4)) {D with nx:=nx} σ H):tSeq t1 (tSeq t2 (tSeq t3 (tSeq t4 u))) D σ H:=h _ rfl
theorem cut8(h:∀nx,nx=u D->tSeq t1 (tSeq t2 (tSeq t3 (tSeq t4 (tSeq t5 (tSeq t6 (tSeq t7 t8)))))) {D with nx:=nx} σ H):tSeq t1 (tSeq t2 (tSeq t3 (tSeq t4 (tSeq t5 (tSeq t6 (tSeq t7 (tSeq t8 u))))))) D σ H:=h _ rfl
end
end L2
namespace L2
open PySem PySem.Spec PyProof.Rows
abbrev TJ:=St->Hp->Str->(Str->Hp->Prop)->Prop
def PJ(X:Cx)(es:List Expr)(t:TJ):Prop:=∀(pins:List (Addr×Obj))(s:Shared)(σ:L2.St)(H:Hp)(out:Str)(Q:Str->Hp->Prop),Inv X pins σ H s->t σ H out Q->
 wpAny (model X.prog X.w) X.A (joinParts out (evalEach es X.env)) (EP X pins σ fun v H'=>∃ z,v= .str z/\Q z H') X.xe s
def jNil:TJ:=fun _ H out Q=>out.length<=sizeLine/\Q out H
def jStr(x:Str)(t:TJ):TJ:=fun σ H out Q=>(out++x).length<=sizeLine/\t σ H (out++x) Q
def jVal(te:TE)(t:TJ):TJ:=fun σ H out Q=>te σ H fun v H1=>∃ z:Str,((∃i:Int,v= .int i/\i.natAbs.log2<1920/\z=toString i)\/v= .str z)/\z.length<=sizeLine/\(out++z).length<=sizeLine/\t σ H1 (out++z) Q
section
variable{X:Cx}
theorem pj_nil(hs:evalEach [] X.env=[]:=by rfl):PJ X [] jNil:=by
 intro pins s σ H out Q I h;rw[hs];exact joinParts_nil ⟨.str out,H,I.tok _,⟨_,rfl⟩,out,rfl,h.2⟩ h.1
theorem yn{x:Str}{j:Nat}{p:Pos}{es:List Expr}{t:TJ}(ht:PJ X es t)(hs:evalEach (.Constant (.str x) j p::es) X.env=eval (.Constant (.str x) j p) X.env::evalEach es X.env:=by rfl):PJ X (.Constant (.str x) j p::es) (jStr x t):=by
 intro pins s σ H out Q I h;rw[hs];exact joinParts_cons (Calls.Constant_str ⟨h.1,ht pins _ σ H _ Q (I.tok _) h.2⟩)
theorem yy{e:Expr}{p:Pos}{es:List Expr}{te:TE}{t:TJ}(he:PE X e te)(ht:PJ X es t)(hs:evalEach (.FormattedValue e (-1) none p::es) X.env=eval (.FormattedValue e (-1) none p) X.env::evalEach es X.env:=by rfl):PJ X (.FormattedValue e (-1) none p::es) (jVal te t):=by
 intro pins s σ H out Q I h;rw[hs];refine joinParts_cons (FormattedValue_plain (thn (he pins _ σ H _ I h) fun v s1 ⟨y,H1,I2,r,z,hz,l1,l2,q⟩=>?_));rcases hz with⟨i,rfl,hd,rfl⟩|rfl
 ·obtain⟨t',rfl⟩:=r;exact formatField_int_small hd ⟨l2,ht pins _ σ H1 _ Q ((I2.tok _).tok _) q⟩
 ·obtain⟨t',rfl⟩:=r;refine formatField_str (fun t'' tk=>?_) l1;exact⟨l2,ht pins _ σ H1 _ Q (I2.tok tk) q⟩
def tJs(t:TJ):TE:=fun σ H Q=>t σ H Str.empty fun z H'=>Q (.str z) H'
theorem pe_js{e1 e2:Expr}{es:List Expr}{pos:Pos}{t:TJ}(ht:PJ X (e1::e2::es) t)(hs:evalEach (e1::e2::es) X.env=eval e1 X.env::eval e2 X.env::evalEach es X.env:=by rfl):PE X (.JoinedStr (e1::e2::es) pos) (tJs t):=by
 intro pins s σ H Q I h;refine JoinedStr_many ?_;rw[<-hs];refine thn (ht pins s σ H Str.empty _ I h) fun v s1 ⟨y,H1,I1,r,z,e,q⟩=>?_;subst e;exact⟨.str z,H1,I1,r,q⟩
end
noncomputable def countX(r:List (List Int))(m:Nat):Int:=ki r (wayF m) m (chG (upto r.length))
def CountOk(r:List (List Int))(m:Nat):Prop:=r.length<=6/\RuleJ r/\m<=400/\(countX r m).natAbs.log2<1920
def listT(r:List (List Int))(m:Nat):Str:=if zJ r m=[]then Str.ofString "no partings" else Txt.join bar ((zJ r m).map txt)
theorem mem_le_sum:∀{l:List Int}{x:Int},(∀y∈l,1<=y)->x∈l->x<=l.sum
 |y::l,x,hp,hx=>by
  have h0:=sum_ge0 fun z hz=>hp z (mem_cons_of_mem _ hz);have hy:=hp y mem_cons_self;rw[List.sum_cons];rcases mem_cons.mp hx with rfl|hx
  ·omega
  ·have:=mem_le_sum (fun z hz=>hp z (mem_cons_of_mem _ hz)) hx;omega
theorem kept_small{r:List (List Int)}{m:Nat}{h:List Int}(hm:m<=24)(hh:h∈zJ r m):h.length<=24/\ ∀x∈h,1<=x/\x<=24:=by
 obtain⟨p,_⟩:=yZ hh hm;have hl:=p.len;refine⟨by omega,fun x hx=>⟨p.pos x hx,?_⟩⟩;have:=mem_le_sum p.pos hx;rw[p.sum]at this;omega
def lineM(w n:Str)(m:Int):Str:=((w++n)++Str.ofString " ")++numS m
theorem count_is{r:List (List Int)}(hp:∀h∈r,∀x∈h,1<=x){n:Nat}(hn:n<=400):countX r n=((((ku n n).filter fun h=>(zB r h).isNone).length:Nat):Int):=by
 unfold countX;rw[keptN_signed hp n,signedX_eq (W':=fun j=>(((ku j j).length:Nat):Int)) fun j hj=>way_lenN hn hj];rfl
theorem log_small{k:Nat}(h:k<=2^400):k.log2<1920:=by
 by_cases e:k=0
 ·subst e;decide
 ·exact(Nat.log2_lt e).mpr (lt_of_le_of_lt h (Nat.pow_lt_pow_right (by decide) (by decide)))
theorem count_log{r:List (List Int)}(hp:∀h∈r,∀x∈h,1<=x){n:Nat}(hn:n<=400):(countX r n).natAbs.log2<1920:=by
 rw[count_is hp hn];refine log_small ?_;show((ku n n).filter fun h=>(zB r h).isNone).length<=2^400;exact le_trans (List.length_filter_le _ _) (le_trans (partF_len _ _ _) (Nat.pow_le_pow_right (by decide) hn))
theorem lineM_cps{w:Str}{w':Str}(h:w'.cps.toList=w.cps.toList++[32])(n:Str)(m:Int):(lineM w' n m).cps.toList=w.cps.toList++32::(n.cps.toList++32::(numS m).cps.toList):=line2_cps h n (numS m)
section
variable{S:Std}{p u:List Std}{n:Str}{r:List (List Int)}{hs:List Int}{sm g:Nat}
theorem lineM_len{w n:Str}{m:Nat}(hn:zO n=true)(hw:w.length<=6)(hm:m<=400):(lineM w n (m:Int)).length<=20000:=by
 have l:=yD hn;have l2:(numS (m:Int)).length<=3:=by rw[yg];exact kD (by omega) (by decide) (by omega)
 have lb:(Str.ofString " ").length=1:=by decide+kernel
 unfold lineM;simp only[yC];omega
theorem read_list(hn:zO n=true)(hm:sm<=400):readL (lineM (Str.ofString "list ") n (sm:Int))=some (Str.ofString "list",[.name n,.num (sm:Int)]) :=
 line2 form_list (by decide+kernel) (kG hn) (lineM_cps (by decide+kernel) n _) (yF hn).1 (by rw[readP_num,readNum_num (by omega) (by omega)];rfl)
theorem read_count(hn:zO n=true)(hm:sm<=400):readL (lineM (Str.ofString "count ") n (sm:Int))=some (Str.ofString "count",[.name n,.num (sm:Int)]) :=
 line2 form_count (by decide+kernel) (kG hn) (lineM_cps (by decide+kernel) n _) (yF hn).1 (by rw[readP_num,readNum_num (by omega) (by omega)];rfl)
end
theorem std_get{H:Hp}{d:Addr}{kvs:List (Key×V)}{S:Std}{n:Str}{r:List (List Int)}(hd:H d=some (.dK kvs))(sd:StdV H S kvs)(hl:zX S n=some r):∃(p:Addr)(xs:List V),DGet H d (kV (Sum.inr n)) (some (.ref p))/\H p=some (.tup xs)/\All2 Tup1 H r xs:=by
 rcases sd.val n with⟨e1,_⟩|⟨r',v,e1,e2,p,xs,rfl,gp,a2⟩
 ·rw[hl]at e1;cases e1
 rw[hl]at e1;cases e1;have dg:=DGet.k (k:=Sum.inr n) hd;rw[e2]at dg;exact⟨p,xs,dg,gp,a2⟩
theorem hep_le{n:Int}{h:List Int}(p:Hep n h){y:Int}(hy:y∈h):y<=n:=by
 have aux:∀{l:List Int},(∀x∈l,1<=x)-> ∀y∈l,y<=l.sum:=by
  intro l
  induction l with
  |nil=>intro _ y hy;cases hy
  |cons a r ih =>
   intro hp y hy;have h0:=sum_ge0 (l:=r) fun x hx=>hp x (mem_cons_of_mem _ hx);have ha:=hp a mem_cons_self;rw[List.sum_cons];rcases mem_cons.mp hy with rfl|hy
   ·omega
   ·have:=ih (fun x hx=>hp x (mem_cons_of_mem _ hx)) y hy;omega
 rw[<-p.sum];exact aux p.pos y hy
open Classical in
noncomputable def stepsX(one other:Rule)(h:List Int):Nat:=if e:∃k,EndAt one other h k then Classical.choose e+1 else 0
theorem stepsX_eq{one other:Rule}{h:List Int}{k:Nat}(e:EndAt one other h k):stepsX one other h=k+1:=by
 unfold stepsX;rw[dif_pos ⟨k,e⟩,(Classical.choose_spec ⟨k,e⟩:EndAt one other h _).uniq e]
end L2
namespace L2
open PySem PySem.Spec PyProof PyProof.Rows
variable{X:Cx}
theorem mt_isdigit:MtR X "str.isdigit" (fun x vs H Q=>∃ z,x= .str z/\vs=[]/\Q (.bl (Txt.isdigit z)) H):=by
 intro pins s σ H x vs v us Q I rx rv h;obtain⟨z,rfl,rfl,q⟩:=h;obtain⟨t,rfl⟩:=rx;cases rv;exact SC.isdigit ⟨.bl _,H,I,rfl,q⟩
theorem numS_isdigit{n:Int}(h:0<=n):Txt.isdigit (numS n)=true:=by
 have hd:=kq h;have hne:(numS n).cps.toList≠[]:=by
  rw[numS_cps h];intro e;have h:=toDigits_len_ge 10 n.toNat;rw[List.map_eq_nil_iff.mp e]at h;exact absurd h (by decide)
 unfold Txt.isdigit;rw[and_eq_true];constructor
 ·refine decide_eq_true ?_;rw[yg];exact List.length_pos_iff.mpr hne
 ·rw[<-Array.all_toList,all_eq_true];intro c hc;have r:=hd c hc;have:∀c:Nat,c<58->48<=c->Unicode.isDigit c=true:=by decide+kernel
  exact this c (Nat.lt_succ_of_le r.2) r.1
theorem Hep.heap{c:Nat}{h:List Int}(p:Hep (c:Int) h)(hc:c<=24):IsHeap 60 (10^60) h :=
 ⟨by have:=p.len;omega,fun x hx=>⟨p.pos x hx,by have:=hep_le p hx;omega⟩,p.pw⟩
def lineS(w n m t:Str):Str:=((((w++n)++Str.ofString " ")++m)++Str.ofString " ")++t
theorem lineS_cps{w w':Str}(h:w'.cps.toList=w.cps.toList++[32])(a b c:Str):(lineS w' a b c).cps.toList=w.cps.toList++32::(a.cps.toList++32::(b.cps.toList++32::c.cps.toList)):=by
 unfold lineS;rw[cps_app,cps_app,line2_cps h,show(Str.ofString " ").cps.toList=[32]by decide+kernel];simp
theorem lineS_len{w n m:Str}{c:Nat}{h:List Int}(hw:w.length<=6)(hn:zO n=true)(hm:zO m=true)(p:Hep (c:Int) h)(hc:c<=24):(lineS w n m (txt h)).length<=20000:=by
 have l:=yD hn;have l':=yD hm;have hh:=p.heap hc;have l2:(txt h).length<=10000:=txt_len (by have:=p.len;omega) fun x hx=>⟨(hh.bd x hx).1,le_of_lt (hh.bd x hx).2⟩;have lb:(Str.ofString " ").length=1:=by decide+kernel
 unfold lineS;simp only[yC];omega
theorem read_send{n m:Str}{c:Nat}{h:List Int}(hn:zO n=true)(hm:zO m=true)(p:Hep (c:Int) h)(hc:c<=24):readL (lineS (Str.ofString "send ") n m (txt h))=some (Str.ofString "send",[.name n,.name m,.heap h]) :=
 line3 form_send (by decide+kernel) (kG hn) (kG hm) (lineS_cps (by decide+kernel) n m _) (yF hn).1 (yF hm).1 (by rw[readP_heap,kK (p.heap hc)];rfl)
theorem read_steps{n m:Str}{c:Nat}{h:List Int}(hn:zO n=true)(hm:zO m=true)(p:Hep (c:Int) h)(hc:c<=24):readL (lineS (Str.ofString "steps ") n m (txt h))=some (Str.ofString "steps",[.name n,.name m,.heap h]) :=
 line3 form_steps (by decide+kernel) (kG hn) (kG hm) (lineS_cps (by decide+kernel) n m _) (yF hn).1 (yF hm).1 (by rw[readP_heap,kK (p.heap hc)];rfl)
theorem wk_side{one other:Rule}{n:Int}{h:List Int}(R:Rul one other)(hp:Hep n h):∀i,Live one other h i->(wk one other h i).1=if((i+1) / 2)%2=0 then 1 else 2
 | 0,_=>rfl
 |i+1,L=>by
  have ih:=wk_side R hp i fun j hj=>L j (by omega);have w:=wk_ok R hp i fun j hj=>L j (by omega);rw[wk];split
  ·show 3-(wk one other h i).1=_;rw[ih];split <;>split <;>omega
  ·rw[(w.tog (L i (Nat.lt_succ_self i) (by omega))).2.2.1,ih];split <;>split <;>omega
theorem steps_ok{one other:Rule}{m:Nat}{h:List Int}(R:Rul one other)(hp:Hep (m:Int) h)(hm:m<=24)(hk:zB one h=none):stepsX one other h%4=2/\stepsX one other h<1000000/\stepsX other one (endH one other h)=stepsX one other h:=by
 obtain⟨k,e⟩:=wk_ends R hp hm hk;have sd:=(e.side R hp).1;rw[wk_side R hp k e.lv]at sd;have od:=e.od;have fw:=wk_few R hp hm hk e.lv;rw[stepsX_eq e];refine⟨?_,by omega,?_⟩
 ·split at sd
  ·cases sd
  ·omega
 ·rw[endH_eq e,stepsX_eq (e.back R hp hk).1]
theorem zU{n:Nat}(h:n<=20000):n<=sizeLine:=by rw[sizeLine_eq];omega
theorem js3{w a b c:Str}{i j k:Nat}{σ:L2.St}{H:Hp}{Q:VK}(hi:σ[i]? =some (some (.str a)))(hj:σ[j]? =some (some (.str b)))(hk:σ[k]? =some (some (.str c)))(hl:(lineS w a b c).length<=20000)(q:Q (.str (lineS w a b c)) H) :
  tJs (jStr w (jVal (tVar i) (jStr (Str.ofString " ") (jVal (tVar j) (jStr (Str.ofString " ") (jVal (tVar k) jNil)))))) σ H Q:=by
 have hl':=hl;unfold lineS at hl';simp only[yC]at hl';refine⟨zU ?_,_,hi,a,.inr rfl,zU ?_,zU ?_,zU ?_,_,hj,b,.inr rfl,zU ?_,zU ?_,zU ?_,_,hk,c,.inr rfl,zU ?_,zU ?_,zU ?_,?_⟩
 case refine_11=>rw[kF];exact q
 all_goals try simp only[yC,kF]
 all_goals omega
theorem js2{w a b:Str}{i j:Nat}{σ:L2.St}{H:Hp}{Q:VK}(hi:σ[i]? =some (some (.str a)))(hj:σ[j]? =some (some (.str b)))(hl:(((w++a)++Str.ofString " ")++b).length<=20000)(q:Q (.str (((w++a)++Str.ofString " ")++b)) H) :
  tJs (jStr w (jVal (tVar i) (jStr (Str.ofString " ") (jVal (tVar j) jNil)))) σ H Q:=by
 have hl':=hl;simp only[yC]at hl';refine⟨zU ?_,_,hi,a,.inr rfl,zU ?_,zU ?_,zU ?_,_,hj,b,.inr rfl,zU ?_,zU ?_,zU ?_,?_⟩
 case refine_8=>rw[kF];exact q
 all_goals try simp only[yC,kF]
 all_goals omega
theorem jsM{w a:Str}{m:Nat}{i j:Nat}{σ:L2.St}{H:Hp}{Q:VK}(hi:σ[i]? =some (some (.str a)))(hj:σ[j]? =some (some (.int (m:Int))))(hm:m<=400)(hl:(lineM w a (m:Int)).length<=20000)(q:Q (.str (lineM w a (m:Int))) H) :
  tJs (jStr w (jVal (tVar i) (jStr (Str.ofString " ") (jVal (tVar j) jNil)))) σ H Q:=by
 have hl':=hl;unfold lineM at hl';simp only[yC]at hl';refine⟨zU ?_,_,hi,a,.inr rfl,zU ?_,zU ?_,zU ?_,_,hj,numS (m:Int),.inl ⟨_,rfl,?_,rfl⟩,zU ?_,zU ?_,zU ?_,?_⟩
 case refine_5=>exact numS_log (by omega) (by omega)
 case refine_9=>rw[kF];exact q
 all_goals try simp only[yC,kF]
 all_goals omega
end L2
namespace L2
open PySem PySem.Spec PyProof PyProof.Rows
theorem keptN7:((List.range 9).all fun m=>decide ((yE 26 m m).length<=22))=true:=by decide+kernel
theorem kept22{rule:List (List Int)}{m:Nat}(h:m<=8):(zJ rule m).length<=22:=by
 have h1:=of_decide_eq_true (all_eq_true.mp keptN7 m (mem_range.mpr (by omega)));have h2:(zJ rule m).length<=(yE 26 m m).length:=List.length_filter_le ..;omega
theorem kept01{rule:List (List Int)}{m:Nat}(h:m=0):(zJ rule m).length<=1:=by
 subst h;have h2:(zJ rule 0).length<=(yE 26 0 0).length:=List.length_filter_le ..;exact le_trans h2 (by decide)
theorem kept_num{r:List (List Int)}{m:Nat}(hp:∀h∈r,∀x∈h,1<=x)(hm:m<=24):countX r m=((zJ r m).length:Int):=(kept_way hp hm).symm
theorem no_parts{h:List Int}(hh:IsHeap 60 (10^60) h):txt h≠Str.ofString "no partings" :=fun e=>by
 have:=kK hh;rw[e]at this;have e2:jp (Str.ofString "no partings")=none:=by decide+kernel
 rw[e2]at this;cases this
theorem kept_txt{r:List (List Int)}{m:Nat}(hm:m<=24):∀h∈zJ r m,IsHeap 60 (10^60) h:=fun h hh=>(yZ hh hm).1.heap hm
theorem list_split{r:List (List Int)}{m:Nat}(hm:m<=24)(h0:zJ r m≠[]):Txt.split (listT r m) (Str.ofString " | ")=(zJ r m).map txt/\listT r m≠Str.ofString "no partings" :=by
 have h1:∀w∈(zJ r m).map txt,124∉w.cps.toList:=fun w hw=>by
  obtain⟨h,hh,rfl⟩:=mem_map.mp hw;exact txt_nobar fun x hx=>((kept_txt hm h hh).bd x hx).1
 have hne:(zJ r m).map txt≠[]:=fun e=>h0 (List.map_eq_nil_iff.mp e);unfold listT;rw[if_neg h0];have sp:=split_bar hne h1;refine⟨sp,fun e=>?_⟩;rw[e]at sp;have e2:Txt.split (Str.ofString "no partings") bar=[Str.ofString "no partings"]:=by decide+kernel
 rw[e2]at sp;have:Str.ofString "no partings"∈(zJ r m).map txt:=by rw[<-sp];exact List.mem_singleton_self _
 obtain⟨h,hh,e3⟩:=mem_map.mp this;exact no_parts (kept_txt hm h hh) e3
theorem listT_len{r:List (List Int)}{m:Nat}(hm:m<=7):(listT r m).length<=1000000:=by
 have few:=kept22 (rule:=r) (m:=m) (by omega);unfold listT;split
 ·decide+kernel
 ·refine le_trans (joinL_len bar _) ?_;have hsum:(((zJ r m).map txt).map (·.length)).sum<=((zJ r m).map txt).length*10000:=jX fun y hy=>by
   obtain⟨h,hh0,rfl⟩:=mem_map.mp hy;have hh:=kept_txt (by omega) h hh0;exact txt_len (by have:=(yZ hh0 (by omega)).1.len;omega) fun x hx=>⟨(hh.bd x hx).1,le_of_lt (hh.bd x hx).2⟩
  rw[length_map]at hsum ⊢;rw[kR];omega
theorem words_ok{m:Nat}{h:List Int}(hp:Hep (m:Int) h)(hm:m<=24):txt h=Str.ofString "none"\/ ∀w∈Txt.split (txt h) (Str.ofString " "),w≠Str.ofString ""/\w.length<=2/\Txt.isdigit w=true:=by
 by_cases h0:h=[]
 ·subst h0;exact .inl rfl
 ·right;rw[txt_split h0 hp.pos];intro w hw;obtain⟨z,hz,rfl⟩:=mem_map.mp hw;have h1:=hp.pos z hz;have h2:=hep_le hp hz;have hd:=numS_isdigit (n:=z) (by omega);refine⟨fun e=>?_,by rw[yg];exact kD (by omega) (by decide) (by omega),hd⟩;rw[e]at hd;exact absurd hd (by decide+kernel)
theorem kept_sorted{r:Rule}{m:Nat}(hm:m<=24){gs:List (List Int)}(hp:gs.Perm (zJ r m))(ho:gs.Pairwise fun a b=>HT.lexLt a b=false):gs=zJ r m :=
 desc_same (fun a b h1 h2=>lex_eq a b h1 h2) hp ho ((kept_pair r hm).imp fun h=>(lexGt_lt _ _ h).1)
theorem kept_good{r:Rule}{m:Nat}(hm:m<=24)(h2:2<=(zJ r m).length):∀h∈zJ r m,h≠[]:=fun h hh e=>by
 have es:=(yZ hh hm).1.sum;rw[e]at es;have em:m=0:=by
  have:(0:Int)=(m:Int):=es;omega
 have:=kept01 (rule:=r) em;omega
theorem keptNe{r:Rule}{m:Nat}(hm:m<=24){i:Nat}{a b:List Int}(ha:(zJ r m)[i]? =some a)(hb:(zJ r m)[i+1]? =some b):a≠b:=by
 obtain⟨h1,e1⟩:=List.getElem?_eq_some_iff.mp ha;obtain⟨h2,e2⟩:=List.getElem?_eq_some_iff.mp hb;have:=List.pairwise_iff_getElem.mp (kept_pair r hm) i (i+1) h1 h2 (Nat.lt_succ_self i);rw[e1,e2]at this;exact(lexGt_lt _ _ this).2
theorem all2_rtu{K:W.Frag}{H:Hp}:∀{A:List (List Int)}{xs:List V},All2 Tup1 H A xs->All2 (RTup K RInt) H A xs
 | [],_,.nil=>.nil
 |h::A,_,.cons hh t=>by
  obtain⟨q,rfl,g⟩:=hh;exact .cons ⟨q,_,rfl,SqT.of g,all2_ints _⟩ (all2_rtu t)
theorem slF{K:W.Frag}{j:Nat}{σ:L2.St}{H:Hp}{Q:VK}{q:Addr}{ys:List V}(hj:σ[j]? =some (some (.ref q)))(gq:H q=some (.lst ys))(k:∀w,H w=none->Q (.ref w) (upd H w (.lst (ys.drop 1)))):tSl (rSlL K) (tVar j) (tPart (tC (V.int 1))) wg σ H Q:=by
 have ec:cutV ys (some 1) none=ys.drop 1:=by
  cases ys with
  |nil=>rfl
  |cons y ys=>exact cut_from (y::ys) 1 (Nat.succ_le_succ (zero_le _))
 refine⟨_,hj,1,rfl,?_⟩;refine(show rSlL K (.ref q) (some 1) none H Q from⟨q,ys,rfl,SqL.of gq,fun w hw=>?_⟩);rw[ec];exact k w hw
def FineW(r:List (List Int)):Prop:=r.length<=6/\ ∀h∈r,h.length<=60/\ ∀x∈h,1<=x/\x<10^60
theorem txt_lenW{h:List Int}(hl:h.length<=60)(hb:∀x∈h,1<=x/\x<10^60):(txt h).length<=10000:=txt_len (by omega) fun x hx=>⟨(hb x hx).1,le_of_lt (hb x hx).2⟩
theorem rows_60{ds:List LD}{n:Nat}(h:LDs ds n)(j:Nat):(lefH ds j).length<=60/\(rigH ds j).length<=60:=by
 have h1:(lefH ds j).length<=(ds.map fun d=>2*d.R).sum:=flat_sum_le _ _ ds fun d hd=>by
  have ok:=h.ok d hd;have hv:=ok.at j;unfold LD.lrow;split
  ·rw[List.length_replicate];have:=ok.r1;omega
  ·rw[List.length_replicate];exact Nat.mul_le_mul hv ok.mR
 have h2:(rigH ds j).length<=(ds.map fun d=>2*d.L).sum:=flat_sum_le _ _ ds fun d hd=>by
  have ok:=h.ok d hd;have hv:=ok.at j;unfold LD.rrow;split
  ·rw[length_take,length_cons,List.length_replicate];have:=Nat.div_le_self d.L d.R;have:=ok.l1;omega
  ·rw[List.length_replicate];exact Nat.mul_le_mul hv ok.kL
 have h3:=sum2_le LD.rparts LD.R ds (fun d hd=>⟨(h.ok d hd).r8,by unfold LD.rparts;split <;>simp⟩) h.r;have h4:=sum2_le LD.lparts LD.L ds (fun d hd=>⟨(h.ok d hd).l8,by simp[LD.lparts]⟩) h.l;have h5:=h.few;constructor
 ·split at h3 <;>omega
 ·split at h4 <;>omega
theorem sort_60{rs:List (List Int)}(h:∀r∈rs,r.length<=60):∀r∈rs.map jF,r.length<=60:=fun r hr=>by
 obtain⟨x,hx,rfl⟩:=mem_map.mp hr;rw[(yb _).length_eq];exact h x hx
def HeapW(r:List (List Int)):Prop:=r.length<=6/\ ∀h∈r,IsHeap 60 (10^60) h
theorem HeapW.fine{r:List (List Int)}(h:HeapW r):FineW r:=⟨h.1,fun x hx=>⟨(h.2 x hx).ln,(h.2 x hx).bd⟩⟩
theorem HeapW.reads{r:List (List Int)}(h:HeapW r):jT (Str.ofString "RULE") (rtxt r)=some (.rule r):=by
 rw[readP_rule,readR_rtxt h.1 fun x hx=>h.2 x hx];rfl
theorem HeapW.len{r:List (List Int)}(h:HeapW r):(rtxt r).length<=60100:=by
 unfold rtxt;split
 ·decide+kernel
 ·refine le_trans (joinL_len bar _) ?_;have hsum:((r.map txt).map (·.length)).sum<=(r.map txt).length*10000:=jX fun y hy=>by
   obtain⟨x,hx,rfl⟩:=mem_map.mp hy;exact txt_lenW (h.2 x hx).ln (h.2 x hx).bd
  rw[length_map]at hsum ⊢;rw[kR];have:=h.1;omega
theorem Matched.heapW{one other:List (List Int)}{n:Nat}(h:Matched one other n)(hn:n<=6)(w:∀h∈one,h.length<=60):HeapW one :=
 ⟨by rw[h.l1];exact hn,fun x hx=>⟨w x hx,fun y hy=>⟨((h.g1 x hx).2.1 y hy).1,by have:=((h.g1 x hx).2.1 y hy).2;omega⟩,(h.g1 x hx).2.2⟩⟩
theorem read_rule57{n:Str}{r:List (List Int)}(hn:zO n=true)(h:HeapW r):readL (((Str.ofString "rule "++n)++Str.ofString " ")++rtxt r)=some (Str.ofString "rule",[.name n,.rule r]) :=
 line2 form_rule (by decide+kernel) (kG hn) (line2_cps (by decide+kernel) n _) (yF hn).2 h.reads
theorem js1{w a:Str}{i:Nat}{σ:L2.St}{H:Hp}{Q:VK}(hi:σ[i]? =some (some (.str a)))(hl:((w++a)++Str.ofString " ").length<=20000)(q:Q (.str ((w++a)++Str.ofString " ")) H) :
  tJs (jStr w (jVal (tVar i) (jStr (Str.ofString " ") jNil))) σ H Q:=by
 have hl':=hl;simp only[yC]at hl';refine⟨zU ?_,_,hi,a,.inr rfl,zU ?_,zU ?_,zU ?_,zU ?_,?_⟩
 case refine_6=>rw[kF];exact q
 all_goals try simp only[yC,kF]
 all_goals omega
theorem rl_len{n:Str}(hn:zO n=true):((Str.ofString "rule "++n)++Str.ofString " ").length<=14:=by
 have l:=yD hn;have lr:(Str.ofString "rule ").length=5:=by decide+kernel
 have lb:(Str.ofString " ").length=1:=by decide+kernel
 simp only[yC];omega
theorem jsT{w a:Str}{i:Nat}{r:R2}{tb:TE}{σ:L2.St}{H:Hp}{Q:List V->Hp->Prop}(hi:σ[i]? =some (some (.str a)))(hl:((w++a)++Str.ofString " ").length<=20000)(q:tb σ H fun y H2=>r (.str ((w++a)++Str.ofString " ")) y H2 fun v H3=>Q [v] H3) :
  tCons (tOp r (tJs (jStr w (jVal (tVar i) (jStr (Str.ofString " ") jNil)))) tb) tNil σ H Q:=by
 unfold tCons tOp tNil;exact js1 hi hl q
theorem txt_inj{a b:List Int}(ha:IsHeap 60 (10^60) a)(hb:IsHeap 60 (10^60) b)(e:txt a=txt b):a=b:=by
 have:=kK ha;rw[e,kK hb]at this;exact(Option.some.inj this).symm
theorem end_in{one other:Rule}{c:Nat}(R:Rul one other)(hm:c<=24){h:List Int}(hh:h∈zJ one c):txt (endH one other h)∈(zJ other c).map txt:=by
 obtain⟨p1,p2⟩:=endH_hep R (yZ hh hm).1 hm (yZ hh hm).2;exact mem_map.mpr ⟨_,mem_filter.mpr ⟨p1.part hm,by rw[p2];rfl⟩,rfl⟩
theorem end_new{one other:Rule}{c:Nat}(R:Rul one other)(hm:c<=24){i:Nat}{h:List Int}(hi:(zJ one c)[i]? =some h):txt (endH one other h)∉((zJ one c).take i).map fun h=>txt (endH one other h):=fun z=>by
 obtain⟨g,hg,e⟩:=mem_map.mp z;obtain⟨j,hj,ej⟩:=List.mem_iff_getElem.mp hg;rw[length_take]at hj;rw[List.getElem_take]at ej;obtain⟨il,ei⟩:=List.getElem?_eq_some_iff.mp hi;have hgm:g∈zJ one c:=List.mem_of_mem_take hg;have hhm:h∈zJ one c:=mem_of_getElem? hi;have k1:=yZ hgm hm;have k2:=yZ hhm hm;have e1:=txt_inj ((endH_hep R k1.1 hm k1.2).1.heap hm) ((endH_hep R k2.1 hm k2.2).1.heap hm) e;have b1:=endH_back R k1.1 hm k1.2;have b2:=endH_back R k2.1 hm k2.2;rw[e1,b2]at b1;have pw:=List.pairwise_iff_getElem.mp (kept_pair one hm) j i (by omega) il (by omega);rw[ej,ei]at pw;exact(lexGt_lt _ _ pw).2 b1.symm
end L2
set_option maxHeartbeats 4000000
namespace My
open PySem PySem.Spec PyProof.Rows L2
local macro_rules | `(tactic| walk_at "n")=>`(tactic| (intro vs H Q E h; first | (cases h; subst_vars; rfl) | repeat first | (obtain ⟨e,_⟩:=h; cases e; rfl) | (cases h; rfl) | obtain ⟨_,h⟩:=h))
def top(i:Nat):Stmt:=PySem.Challenge.pw_shutpairs_k57_whole_all_are_sent.main.body.getD i (.Pass ⟨0,0,0,0⟩)
abbrev yz:Stmt:=top 104
abbrev s__law_mix:Stmt:=top 106
abbrev s__law_draw:Stmt:=top 105
abbrev s__law_lane:Stmt:=top 110
abbrev kx:Stmt:=top 111
abbrev zy:Stmt:=top 112
abbrev s__law_name:Stmt:=top 113
abbrev yp:Stmt:=top 114
abbrev yq:Stmt:=top 115
abbrev s__law_is:Stmt:=top 117
abbrev yQ:Stmt:=top 108
abbrev s__law_first:Stmt:=top 109
abbrev kM:Stmt:=top 118
abbrev jc:Stmt:=top 61
abbrev jj:Stmt:=top 64
abbrev s_heap_of:Stmt:=top 19
abbrev yB:Stmt:=top 62
abbrev jg:Stmt:=top 63
abbrev ji:Stmt:=top 65
abbrev jh:Stmt:=top 82
abbrev s_read_number:Stmt:=top 83
abbrev s_read_piece:Stmt:=top 84
abbrev ky:Stmt:=top 85
abbrev jW:Stmt:=top 86
abbrev s_Desk_do_deed:Stmt:=inClass (top 102) 1
abbrev s_Desk_do_put:Stmt:=inClass (top 102) 2
abbrev s_sum_of:Stmt:=top 20
abbrev yA:Stmt:=top 28
abbrev s_choices_of:Stmt:=top 29
abbrev s_often:Stmt:=top 21
abbrev s_unlike_parts:Stmt:=top 23
abbrev s_joined:Stmt:=top 24
abbrev je:Stmt:=top 30
abbrev s_refuse_beyond:Stmt:=top 36
abbrev s_sign_of:Stmt:=top 49
abbrev s_next_way:Stmt:=top 55
abbrev s_ways_to:Stmt:=top 56
abbrev s_count_of:Stmt:=top 57
abbrev s_tell_count:Stmt:=top 94
abbrev s_lies_in:Stmt:=top 22
abbrev wf:Stmt:=top 39
abbrev s_first_in:Stmt:=top 40
abbrev s_keeps:Stmt:=top 41
abbrev kb:Stmt:=top 45
abbrev s_partings_of:Stmt:=top 46
abbrev jf:Stmt:=top 47
abbrev jk:Stmt:=top 95
abbrev kO:Stmt:=top 32
abbrev s_first_unlike:Stmt:=top 33
abbrev kP:Stmt:=top 96
abbrev s_refuse_unkept:Stmt:=top 42
abbrev s_Beside_rules:Stmt:=inClass (top 34) 1
abbrev s_is_end:Stmt:=top 72
abbrev s_put:Stmt:=top 25
abbrev s_taken:Stmt:=top 26
abbrev s_is_choice:Stmt:=top 50
abbrev jd:Stmt:=top 51
abbrev s_rule_on:Stmt:=top 67
abbrev s_crossed:Stmt:=top 68
abbrev s_partner_of:Stmt:=top 52
abbrev s_toggled:Stmt:=top 69
abbrev s_next_place:Stmt:=top 73
abbrev s_first_places:Stmt:=top 74
abbrev s_whole_walk:Stmt:=top 75
abbrev s_end_of:Stmt:=top 76
abbrev jV:Stmt:=inClass (top 34) 0
abbrev s_sided_of:Stmt:=top 97
abbrev s_tell_end:Stmt:=top 98
abbrev s_tell_steps:Stmt:=top 99
abbrev s_put_new:Stmt:=top 87
abbrev s_Desk_tell:Stmt:=inClass (top 102) 6
abbrev s__law_listed:Stmt:=top 119
abbrev ju:Stmt:=top 120
abbrev s_Desk___init__:Stmt:=inClass (top 102) 0
abbrev s_law:Stmt:=top 121
def rows_FORMS:List (Str×List Str):=[("rule",["FREE","RULE"]),("add",["NAME","HEAP"]),("take",["NAME","NUMBER"]),("copy",["NAME","FREE"]),("drop",["NAME"]),("undo",[]),("again",[]),("names",[]),("show",["NAME"]),("keeps",["NAME","HEAP"]),("count",["NAME","NUMBER"]),("list",["NAME","NUMBER"]),("match",["NAME","NAME"]),("send",["NAME","NAME","HEAP"]),("steps",["NAME","NAME","HEAP"])]
def words_PUTS:List Str:=["rule","add","take","copy"]
def words_ASKS:List Str:=["names","show","keeps","count","list","match","send","steps"]
set_option genInjectivity false in
structure Adr where
 (a0 a1 a2 a3 a4 a5 a6 a7 a8 a9 a10 a11 a12 a13 a14 a15 a16 a17 a18 a19 a20 a21 a22 a23 a24 a25 a26 a27 a28 a29 a30 a31 a32 a33 a34 a35 a36 a37 a38 a39 a40 a41 a42 a43 a44 a45 a46 a47 a48 a49 a50 a51 a52 a53 a54 a55 a56 a57 a58 a59 a60 a61 a62 a63 a64 a65 a66 a67 a68 a69 a70 a71 a72 a73 a74 w0 w1 w2 w3 w4 w5 w6 w7 w8 w9 w10 w11 w12 w13 w14 w15:Addr)
 (f0 f1 f2 f3 f4 f5 f6 f7 f8 f9 f10 f11 f12 f13 f14 f15 f16 f17 f18 f19 f20 f21 f22 f23 f24 f25 f26 f27 f28 f29 f30 f31 f32 f33 f34 f35 f36 f37 f38 f39 f40 f41 f42 f43 f44 f45 f46 f47 f48 f49 f50 f51 f52 f53 f54 f55 f56 f57 f58 f59 f60 f61 f62 f63 f64 f65 f66 f67 f68 f69 f70 f71 f72 f73 f74:FuncData)
set_option genInjectivity false in
structure Txt(P:Program)(w:World)(K:W.Frag)(mg:Str->Option Value)(A:Adr):Prop where
 x0:FB K mg "_law_start" yz A.a0 A.f0 ["_law_script"]
 x1:FB K mg "_law_mix" s__law_mix A.a1 A.f1 ["_law_state"]
 x2:FB K mg "_law_draw" s__law_draw A.a2 A.f2 ["_law_state","_law_many"]
 x3:FB K mg "_law_lane" s__law_lane A.a3 A.f3 ["_law_left","_law_right","_law_split","_law_levels"]
 x4:FB K mg "_law_rule" kx A.a4 A.f4 ["_law_rows"]
 x5:FB K mg "_law_matched" zy A.a5 A.f5 ["_law_state","_law_top"]
 x6:FB K mg "_law_name" s__law_name A.a6 A.f6 ["_law_state","_law_known"]
 x7:FB K mg "_law_heap_text" yp A.a7 A.f7 ["_law_heap_here"]
 x8:FB K mg "_law_rule_text" yq A.a8 A.f8 ["_law_rule_here"]
 x9:FB K mg "_law_is" s__law_is A.a9 A.f9 ["_law_found","_law_due"]
 x10:FB K mg "_law_lies" yQ A.a10 A.f10 ["_law_one","_law_other"]
 x11:FB K mg "_law_first" s__law_first A.a11 A.f11 ["_law_rule_here","_law_heap_here"]
 x12:FB K mg "_law_parts" kM A.a12 A.f12 ["_law_text"]
 x13:FB K mg "heap_text" jc A.a13 A.f13 ["heap"]
 x14:FB K mg "rule_text" jj A.a14 A.f14 ["rule"]
 x15:FB K mg "heap_of" s_heap_of A.a15 A.f15 ["parts"]
 x16:FB K mg "writes_number" yB A.a16 A.f16 ["word"]
 x17:FB K mg "read_heap" jg A.a17 A.f17 ["text"]
 x18:FB K mg "read_rule" ji A.a18 A.f18 ["text"]
 x19:FB K mg "read_name" jh A.a19 A.f19 ["piece"]
 x20:FB K mg "read_number" s_read_number A.a20 A.f20 ["piece"]
 x21:FB K mg "read_piece" s_read_piece A.a21 A.f21 ["kind","piece"]
 x22:FB K mg "read_line" ky A.a22 A.f22 ["line"]
 x23:FB K mg "refuse_nameless" jW A.a23 A.f23 ["standing","word","given"]
 x26:FB K mg "sum_of" s_sum_of A.a26 A.f26 ["heap"]
 x27:FB K mg "choices_among" yA A.a27 A.f27 ["numbers"]
 x28:FB K mg "choices_of" s_choices_of A.a28 A.f28 ["rule"]
 x29:FB K mg "often" s_often A.a29 A.f29 ["heap","part"]
 x30:FB K mg "unlike_parts" s_unlike_parts A.a30 A.f30 ["heaps"]
 x31:FB K mg "joined" s_joined A.a31 A.f31 ["heaps"]
 x32:FB K mg "joined_of" je A.a32 A.f32 ["rule","choice"]
 x33:FB K mg "refuse_beyond" s_refuse_beyond A.a33 A.f33 ["n","most"]
 x34:FB K mg "sign_of" s_sign_of A.a34 A.f34 ["pair"]
 x35:FB K mg "next_way" s_next_way A.a35 A.f35 ["ways"]
 x36:FB K mg "ways_to" s_ways_to A.a36 A.f36 ["n"]
 x37:FB K mg "count_of" s_count_of A.a37 A.f37 ["rule","n"]
 x38:FB K mg "tell_count" s_tell_count A.a38 A.f38 ["standing","given"]
 x39:FB K mg "lies_in" s_lies_in A.a39 A.f39 ["one","other"]
 x40:FB K mg "all_in" wf A.a40 A.f40 ["rule","heap"]
 x41:FB K mg "first_in" s_first_in A.a41 A.f41 ["rule","heap"]
 x42:FB K mg "keeps" s_keeps A.a42 A.f42 ["rule","heap"]
 x43:FB K mg "partings_to" kb A.a43 A.f43 ["n","greatest"]
 x44:FB K mg "partings_of" s_partings_of A.a44 A.f44 ["n"]
 x45:FB K mg "kept_of" jf A.a45 A.f45 ["rule","n"]
 x46:FB K mg "tell_list" jk A.a46 A.f46 ["standing","given"]
 x47:FB K mg "sums_of" kO A.a47 A.f47 ["rule"]
 x48:FB K mg "first_unlike" s_first_unlike A.a48 A.f48 ["one","other"]
 x49:FB K mg "tell_match" kP A.a49 A.f49 ["standing","given"]
 x50:FB K mg "refuse_unkept" s_refuse_unkept A.a50 A.f50 ["rule","heap"]
 x52:FB K mg "is_end" s_is_end A.a52 A.f52 ["sided","place"]
 x53:FB K mg "put" s_put A.a53 A.f53 ["one","other"]
 x54:FB K mg "taken" s_taken A.a54 A.f54 ["one","other"]
 x55:FB K mg "is_choice" s_is_choice A.a55 A.f55 ["rule","choice"]
 x56:FB K mg "is_pair" jd A.a56 A.f56 ["rule","pair"]
 x57:FB K mg "rule_on" s_rule_on A.a57 A.f57 ["sided","side"]
 x58:FB K mg "crossed" s_crossed A.a58 A.f58 ["sided","place"]
 x59:FB K mg "partner_of" s_partner_of A.a59 A.f59 ["rule","pair"]
 x60:FB K mg "toggled" s_toggled A.a60 A.f60 ["sided","place"]
 x61:FB K mg "next_place" s_next_place A.a61 A.f61 ["sided","walk"]
 x62:FB K mg "first_places" s_first_places A.a62 A.f62 ["sided","heap","most"]
 x63:FB K mg "whole_walk" s_whole_walk A.a63 A.f63 ["sided","heap"]
 x64:FB K mg "end_of" s_end_of A.a64 A.f64 ["sided","heap"]
 x66:FB K mg "sided_of" s_sided_of A.a66 A.f66 ["standing","given"]
 x67:FB K mg "tell_end" s_tell_end A.a67 A.f67 ["standing","given"]
 x68:FB K mg "tell_steps" s_tell_steps A.a68 A.f68 ["standing","given"]
 x69:FB K mg "put_new" s_put_new A.a69 A.f69 ["standing","given"]
 x71:FB K mg "_law_listed" s__law_listed A.a71 A.f71 ["_law_desk","_law_name_here","_law_rule_here","_law_n"]
 x72:FB K mg "_law_steps_right" ju A.a72 A.f72 ["_law_desk","_law_one","_law_two","_law_text","_law_other"]
 x74:FB K mg "law" s_law A.a74 A.f74 ["_law_script"]
 w0:mg "all"=none
 w1:mg "dict"=none
 w2:mg "enumerate"=none
 w3:mg "int"=none
 w4:mg "isinstance"=none
 w5:mg "len"=none
 w6:mg "list"=none
 w7:mg "max"=none
 w8:mg "min"=none
 w9:mg "range"=none
 w10:mg "sorted"=none
 w11:mg "str"=none
 w12:mg "sum"=none
 w13:mg "tuple"=none
 w14:mg "zip"=none
 w15:∃t,mg "MOST_PARTS"=some (.int 60 t)
 w16:∃t,mg "MOST_HEAPS"=some (.int 6 t)
 w17:∃t,mg "MOST_LISTED"=some (.int 24 t)
 w18:∃t,mg "MOST_COUNTED"=some (.int 400 t)
 w19:∃t,mg "FIGURES"=some (.str (Str.ofString "0123456789") t)
 w20:∃t,mg "MOST_FIGURES_texts"=some (.int 60 t)
 w21:∃t,mg "MOST_ENDED"=some (.int 24 t)
 w22:∃t,mg "LETTERS"=some (.str (Str.ofString "abcdefghijklmnopqrstuvwxyz") t)
 w23:∃t,mg "MOST_LETTERS"=some (.int 8 t)
 w24:∃t,mg "MOST_FIGURES_desk"=some (.int 9 t)
 kin:∃h,K.In h
 w25:mg "NoHeap"=some (.ref A.w0)
 w26:mg "NotIn"=some (.ref A.w1)
 w27:mg "NoText"=some (.ref A.w2)
 w28:mg "NoSum"=some (.ref A.w3)
 w29:mg "NotKept"=some (.ref A.w4)
 w30:mg "NoPair"=some (.ref A.w5)
 w31:mg "NotSoMany"=some (.ref A.w6)
 w32:mg "Unmatched"=some (.ref A.w7)
 w33:mg "NotPaired"=some (.ref A.w8)
 w34:mg "NoLine"=some (.ref A.w9)
 w35:mg "NoName"=some (.ref A.w10)
 w36:mg "Beside"=some (.ref A.w11)
 w37:mg "Desk"=some (.ref A.w12)
 w38:ExcC K A.w2
 x24:MB K A.w12 "do_deed" "Desk.do_deed" s_Desk_do_deed A.a24 A.f24 ["self","standing"]
 x25:MB K A.w12 "do_put" "Desk.do_put" s_Desk_do_put A.a25 A.f25 ["self","name","rule"]
 x51:MB K A.w11 "rules" "Beside.rules" s_Beside_rules A.a51 A.f51 ["self"]
 x65:MB K A.w11 "__init__" "Beside.__init__" jV A.a65 A.f65 ["self","one","other"]
 x70:MB K A.w12 "tell" "Desk.tell" s_Desk_tell A.a70 A.f70 ["self","line"]
 x73:MB K A.w12 "__init__" "Desk.__init__" s_Desk___init__ A.a73 A.f73 ["self"]
 w39:Cls K A.w11
 w40:Cls K A.w12
 w41:Mk K A.w11 A.a65
 w42:Mk K A.w12 A.a73
 w43:NoAttr K A.w11 "one"
 w44:NoAttr K A.w11 "other"
 w45:NoAttr K A.w12 "past"
 w46:NoAttr K A.w12 "standing"
 w47:NoAttr K A.w12 "undone"
 w48:mg "FORMS"=some (.ref A.w13)
 w49:mg "PUTS"=some (.ref A.w14)
 w50:mg "ASKS"=some (.ref A.w15)
 w51:KForms P w K A.w13 rows_FORMS
 w52:KFns P w K A.w14 words_PUTS [("rule",A.a69)]
 w53:KFns P w K A.w15 words_ASKS [("count",A.a38),("list",A.a46),("match",A.a49),("send",A.a67),("steps",A.a68)]
section
variable{P:Program}{w:World}{K:W.Frag}{mg:Str->Option Value}{base:Heap}{A:Adr}
def n__law_start:List Str:=["_law_script","_law_great"]
theorem sc__law_start:FnScope n__law_start ["_law_script"] (z8 yz):=FS
inductive sp_start(K:W.Frag)(vs:List V)(H:Hp)(Q:VK)(E:XK):Prop
 |mk (a:Addr) (ns:List Int):vs=[.ref a]->SqL K H a (ns.map V.int)->ns.length<=63->(∀(st ga ca:Addr)(H':Hp),StAt H' st ga ca 0->H st=none->H ga=none->H ca=none->Same H H'->Q (.ref st) H')->sp_start K vs H Q E
theorem ok__law_start(T:Txt P w K mg A):FnOk P w K mg base CX0 1 A.a0 A.f0 ["_law_script"] (sp_start K):=by
 refine T.x0.F.ok sc__law_start (by walk_at "n") fun _ _ _ s H vs Q E hr h=>?_
 ·obtain⟨a,ns,rfl,hS,hl,k⟩:=h;refine⟨_,(z7 (ps_comp (i:=1) (ls:=["_law_cell"]) (fr:=[]) (csf (z8 yz) n__law_start) rfl (y4 (pv 0)) (fun _ _ _ _=>pgc 0 (by decide+kernel) rfl rfl) (fun _ _ _ _=>pf_one (zi op_ge (pvc (z8 yz) 0) (zw op_pow zc zc) (zr _))) (fun _ _ _ _=>(pvc (z8 yz) 0)) sc__law_start.nd rfl rfl rfl)
    (z9 (zj (y8 (kr (pv 1) (pa3 zc (zY (ls:=["_law_cell"]) (fr:=[]) (csf (z8 yz) n__law_start) rfl (y4 (pv 0)) (fun _ _ _ _=>pgc 0 (by decide+kernel) rfl rfl) (fun _ _ _ _=>yf) (fun _ _ _ _=>(zw op_mod (pvc (z8 yz) 0) zc))) zc)))))),?_⟩
  refine⟨_,rfl,a,rfl,⟨_,hS⟩,yY (xs:=ns.map V.int) (fun i ys σ' H'=>H'=H/\(∃v,σ'=[v])/\ ∃gs:List Int,ys=gs.map V.int/\gs.length<=i/\ ∀x∈gs,0<x) ⟨rfl,⟨_,rfl⟩,[],rfl,zero_le _,fun _ hx=>nomatch hx⟩ ?_ ?_ ?_⟩
  ·rintro i ys σ' H' hi ⟨rfl,_,gs,rfl,hg,_⟩;refine⟨hS,?_⟩;rw[length_map]at hi ⊢;exact le_trans (le_trans hg (le_trans hi hl)) (by decide)
  ·rintro i x ys σ' H' hx ⟨rfl,⟨v,rfl⟩,gs,rfl,hg,hp⟩;rw[getElem?_map]at hx;cases hn:ns[i]? with
   |none=>rw[hn]at hx;cases hx
   |some z =>
    rw[hn]at hx;cases hx;refine⟨_,rfl,_,_,rfl,rfl,⟨by decide,by decide,by decide⟩,_,_,rfl,rfl,_,rfl,?_⟩;refine ite2 (fun hz=>⟨_,rfl,rfl,⟨_,rfl⟩,gs++[z],by simp,by simp;exact hg,fun y hy=>?_⟩) (fun hz=>⟨rfl,⟨_,rfl⟩,gs,rfl,Nat.le_succ_of_le hg,hp⟩);rcases mem_append.mp hy with hy|hy
    ·exact hp y hy
    ·have:y=z:=by simpa using hy
     subst this;exact Int.lt_of_lt_of_le (by decide) (of_decide_eq_true hz)
  ·rintro ys σ' H' ⟨rfl,_,gs,rfl,hg,hp⟩ g0 hg0;rw[length_map]at hg;have s1:Same H' (upd H' g0 (.lst (gs.map V.int))):=Same.new hg0;refine⟨_,rfl,_,rfl,a,rfl,⟨_,s1.seq hS⟩,yY (xs:=ns.map V.int) (fun i ys σ' H2=>H2=upd H' g0 (.lst (gs.map V.int))/\(∃v,σ'=[v])/\ ∃cs:List Int,ys=cs.map V.int/\cs.length=i) ⟨rfl,⟨_,rfl⟩,[],rfl,rfl⟩ ?_ ?_ ?_⟩
   ·rintro i ys σ' H2 hi ⟨rfl,_,cs,rfl,hc⟩;refine⟨s1.seq hS,?_⟩;rw[length_map]at hi ⊢;exact le_trans (le_trans (Nat.le_of_eq hc) (le_trans hi hl)) (by decide)
   ·rintro i x ys σ' H2 hx ⟨rfl,⟨v,rfl⟩,cs,rfl,hc⟩;rw[getElem?_map]at hx;cases hn:ns[i]? with
    |none=>rw[hn]at hx;cases hx
    |some z =>
     rw[hn]at hx;cases hx;refine⟨_,rfl,_,_,rfl,rfl,(by show(0:Int)<2147483629;decide),rfl,⟨_,rfl⟩,cs++[z%2147483629],by simp,by simp[hc]⟩
   ·rintro ys σ' H2 ⟨rfl,_,cs,rfl,hc⟩ c0 hc0;refine⟨by show 4<=sizeLine;decide,fun st hst=>?_⟩;have n1:g0≠c0:=fun z=>by rw[<-z,z6]at hc0;cases hc0
    have n2:st≠c0:=fun z=>by rw[z,z6]at hst;cases hst
    have hst1:upd H' g0 (.lst (gs.map V.int)) st=none:=by rw[zh n2]at hst;exact hst
    have n3:st≠g0:=fun z=>by rw[z,z6]at hst1;cases hst1
    refine k st g0 c0 _ ⟨⟨gs,cs,0,0,z6,?_,?_,le_trans hg hl,hp,Int.le_refl _,Int.le_refl _,Int.le_refl _⟩,n1,n3,n2⟩ ?_ hg0 ?_ (s1.trans ((Same.new hc0).trans (Same.new hst)))
    ·rw[zh n3.symm,zh n1,z6]
    ·rw[zh n2.symm,z6]
    ·rw[zh n3]at hst1;exact hst1
    ·rw[zh n1.symm]at hc0;exact hc0
def n__law_mix:List Str:=["_law_state","_law_count","_law_cell","_law_stirred"]
theorem jl:FnScope n__law_mix ["_law_state"] (z8 s__law_mix):=FS
inductive sp_mix(vs:List V)(H:Hp)(Q:VK)(E:XK):Prop
 |mk (st ga ca:Addr) (N:Nat):vs=[.ref st]->StAt H st ga ca N->N<=10^9->(∀(r:Int)(H':Hp),0<=r->StAt H' st ga ca (N+1)->Keep [st,ga] H H'->Q (.int r) H')->sp_mix vs H Q E
theorem ok__law_mix(T:Txt P w K mg A):FnOk P w K mg base CX0 1 A.a1 A.f1 ["_law_state"] sp_mix:=by
 refine T.x1.F.ok jl (by walk_at "n") fun _ _ _ s H vs Q E hr h=>?_
 ·obtain⟨st,ga,ca,N,rfl,S,hN,k⟩:=h;refine⟨_,(z7 (ps_augS (pv 0) zc get_list zc ip_add set_list)
    (z7 (pset 1 jl.nd (pix zA (pv 0) zc))
    (z7 (pset 2 jl.nd zc)
    (z7 (zD (zG (pix zA (pv 0) zc) (fun _=>rfl))
     (z9 (pset 2 jl.nd (pix zA (pix zA (pv 0) zc) (zw op_mod (pv 1) (zq zp rfl T.w5 PySem.boot_len (pa1 (pix zA (pv 0) zc))))))) zk)
    (z7 (pset 3 jl.nd (zw op_mod (zw yG (zw kH (zw kH (zw kH (pv 2) (zw yG (zw yG zc (pv 1)) (pv 1))) (zw yG zc (pv 1))) zc) zc) zc))
    (z9 (zj (zw op_mod (zw yG (zw kH (zw kH (pv 3) (zw yG zc (pv 1))) zc) zc) zc)))))))),?_⟩
  obtain⟨⟨gs,cs,q,n,h1,h2,h3,h4,h5,h6,h7,h8⟩,gc,sg,sc⟩:=S;have hn:-(2^64)<n+1/\n+1<2^64:=by omega
  refine⟨_,rfl,st,_,3,_,rfl,rfl,SqL.of h1,by decide,rfl,_,_,rfl,rfl,st,_,3,3,rfl,rfl,h1,rfl,?_⟩;have e1:upd H st (.lst ([V.ref ga,V.int q,V.ref ca,V.int n].set 3 (V.int (n+1)))) st=some (.lst [.ref ga,.int q,.ref ca,.int (n+1)]):=z6;refine⟨_,rfl,st,_,3,_,rfl,rfl,SqL.of e1,rfl,?_⟩;refine⟨_,rfl,st,_,2,_,rfl,rfl,SqL.of e1,rfl,?_⟩;have e3:upd H st (.lst ([V.ref ga,V.int q,V.ref ca,V.int n].set 3 (V.int (n+1)))) ca=some (.lst (cs.map V.int)):=by rw[zh sc.symm];exact h3
  have e2:upd H st (.lst ([V.ref ga,V.int q,V.ref ca,V.int n].set 3 (V.int (n+1)))) ga=some (.lst (gs.map V.int)):=by rw[zh sg.symm];exact h2
  refine⟨_,Or.inl ⟨_,SqL.of e3,rfl⟩,?_⟩;have fin:∀(c:Int),(tSeq (tAsg (tOp (rI (fun _ j=>0<j) fun i j=>V.int (i%j)) (tOp (rI CMul fun i j=>V.int (i*j)) (tOp (rI0 fun i j=>V.int (i+j)) (tOp (rI0 fun i j=>V.int (i+j)) (tOp (rI0 fun i j=>V.int (i+j)) (tVar 2) (tOp (rI CMul fun i j=>V.int (i*j)) (tOp (rI CMul fun i j=>V.int (i*j)) (tC (V.int 7)) (tVar 1)) (tVar 1))) (tOp (rI CMul fun i j=>V.int (i*j)) (tC (V.int 13)) (tVar 1))) (tC (V.int 5))) (tC (V.int 1220703125))) (tC (V.int 2147483647))) (jL 3))
    (tRet (tOp (rI (fun _ j=>0<j) fun i j=>V.int (i%j)) (tOp (rI CMul fun i j=>V.int (i*j)) (tOp (rI0 fun i j=>V.int (i+j)) (tOp (rI0 fun i j=>V.int (i+j)) (tVar 3) (tOp (rI CMul fun i j=>V.int (i*j)) (tC (V.int 17)) (tVar 1))) (tC (V.int 3))) (tC (V.int 39373))) (tC (V.int 1000000007)))))
    {nx:=fun _ H'=>Q .non H',rt:=Q} [some (.ref st),some (.int (n+1)),some (.int c),none] (upd H st (.lst ([V.ref ga,V.int q,V.ref ca,V.int n].set 3 (V.int (n+1))))):=fun c=>by
   refine⟨_,rfl,_,rfl,_,_,rfl,rfl,.inl (by decide),_,rfl,_,_,rfl,rfl,.inr hn,_,_,rfl,rfl,_,rfl,_,_,rfl,rfl,.inl (by decide),_,_,rfl,rfl,_,_,rfl,rfl,_,_,rfl,rfl,.inr (by decide),_,_,rfl,rfl,(by show(0:Int)<2147483647;decide),?_⟩;refine⟨_,rfl,_,rfl,_,_,rfl,rfl,.inl (by decide),_,_,rfl,rfl,_,_,rfl,rfl,_,_,rfl,rfl,.inr (by decide),_,_,rfl,rfl,(by show(0:Int)<1000000007;decide),?_⟩;exact k _ _ (Int.emod_nonneg _ (by decide)) ⟨⟨gs,cs,q,n+1,e1,e2,e3,h4,h5,h6,by omega,by omega⟩,gc,sg,sc⟩ (Keep.set (by simp))
  cases hc:cs with
  |nil =>
   refine iteF ?_;exact fin 5
  |cons c0 cr =>
   refine iteT ?_;rw[hc]at e3;refine⟨_,rfl,st,_,2,_,rfl,rfl,SqL.of e1,rfl,_,rfl,_,rfl,st,_,2,_,rfl,rfl,SqL.of e1,rfl,ca,_,rfl,.inl (SqL.of e3),_,_,rfl,rfl,?_,?_⟩
   ·rw[length_map];simp only[length_cons];omega
   ·have hpos:(0:Int)<((c0::cr).length:Int):=by simp only[length_cons];omega
    rw[length_map];have hm0:=Int.emod_nonneg (n+1) (Int.ne_of_gt hpos);have hm1:=Int.emod_lt_of_pos (n+1) hpos;obtain⟨j,hj⟩:∃j:Nat,(n+1)%((c0::cr).length:Int)=(j:Int):=⟨((n+1)%((c0::cr).length:Int)).toNat,by omega⟩;have hjl:j<(c0::cr).length:=by omega
    refine⟨ca,_,_,_,rfl,rfl,SqL.of e3,by rw[hj];exact zu (v:=V.int ((c0::cr)[j])) (by rw[getElem?_map,getElem?_eq_getElem hjl];rfl),?_⟩;exact fin _
def n__law_draw:List Str:=["_law_state","_law_many","_law_told","_law_size"]
theorem yW:FnScope n__law_draw ["_law_state","_law_many"] (z8 s__law_draw):=FS
inductive sp_draw(vs:List V)(H:Hp)(Q:VK)(E:XK):Prop
 |mk (st ga ca:Addr) (N:Nat) (m:Int):vs=[.ref st,.int m]->StAt H st ga ca N->N<=10^8->0<m->m<=10^60->(∀(r:Int)(H':Hp),0<=r->r<m->StAt H' st ga ca (N+7)->Keep [st,ga] H H'->Q (.int r) H')->sp_draw vs H Q E
theorem zF(T:Txt P w K mg A):FnOk P w K mg base CX0 2 A.a2 A.f2 ["_law_state","_law_many"] sp_draw:=by
 refine T.x2.F.ok yW (by walk_at "n") fun _ _ _ s H vs Q E hr h=>?_
 ·obtain⟨st,ga,ca,N,m,rfl,S,hN,hm0,hm1,k⟩:=h;refine⟨_,(z7 (zD (PW.pt (pw_and (zi yO (pix zA (pv 0) zc) zc (zr _)) (pw_and1 (zG (pix zA (pv 0) zc) (fun _=>rfl)))))
     (z9 (ps_asg (yP PySem.F.plainAttrs_list PySem.F.slot_list_pop PySem.F.type_list_pop mt_popAt (pix zA (pv 0) zc) (pa1 zc)) (pg_sub (pv 0) zc set_list))) zk)
    (z7 (zD (zi op_gt (pix zA (pv 0) zc) zc (zr _))
     (z7 (pset 2 yW.nd (zw op_mod (pix zA (pv 0) zc) (pv 1)))
    (z7 (ps_asg (zw yu (pix zA (pv 0) zc) (pv 1)) (pg_sub (pv 0) zc set_list))
    (z9 (zj (pv 2))))) zk)
    (z7 (pset 2 yW.nd zc)
    (z7 (pset 3 yW.nd zc)
    (z7 (ps_while PassesOwn.never (zi op_lt (pv 3) (pv 1) (zr _))
     (z7 (pset 2 yW.nd (zw kH (zw yG (pv 2) zc) (pcl (ok__law_mix T) hr T.x1 (pa1 (pv 0)))))
    (z9 (pset 3 yW.nd (zw yG (pv 3) zc)))))
    (z9 (zj (zw op_mod (pv 2) (pv 1))))))))),?_⟩
  obtain⟨⟨gs,cs,q,n,h1,h2,h3,h4,h5,h6,h7,h8⟩,gc,sg,sc⟩:=S;have hb:∀(g:List Int)(x:Int)(H':Hp),H'=upd (upd H ga (.lst (g.map V.int))) st (.lst [.ref ga,.int x,.ref ca,.int n])->H' st=some (.lst [.ref ga,.int x,.ref ca,.int n])/\H' ga=some (.lst (g.map V.int))/\H' ca=some (.lst (cs.map V.int))/\Keep [st,ga] H H':=fun g x H' e=>by
   subst e;refine⟨z6,by rw[zh sg.symm,z6],by rw[zh sc.symm,zh gc.symm];exact h3,fun b o e hn=>?_⟩;have n1:b≠st:=fun z=>hn (by simp[z]);have n2:b≠ga:=fun z=>hn (by simp[z]);rw[zh n1,zh n2];exact e
  refine kh (fun σ' H'=>σ'=[some (.ref st),some (.int m),none,none]/\ ∃(g:List Int)(x:Int),H' st=some (.lst [.ref ga,.int x,.ref ca,.int n])/\H' ga=some (.lst (g.map V.int))/\H' ca=some (.lst (cs.map V.int))/\Keep [st,ga] H H'/\g.length<=63/\(∀x∈g,0<x)/\0<=x) (fun nx hnx=>?_) ?_
  ·have skip:nx [some (.ref st),some (.int m),none,none] H:=hnx _ _ ⟨rfl,gs,q,h1,h2,h3,Keep.refl _ _,h4,h5,h6⟩;refine⟨_,rfl,st,_,1,_,rfl,rfl,SqL.of h1,rfl,rfl,_,rfl,?_⟩;refine ite2 (fun hq=>?_) (fun hq=>iteF skip);have hq0:q=0:=by simpa using hq
   subst hq0;refine⟨_,rfl,st,_,0,_,rfl,rfl,SqL.of h1,rfl,_,.inl ⟨_,SqL.of h2,rfl⟩,?_⟩;cases gs with
   |nil=>exact iteF skip
   |cons g0 gr =>
    refine iteT ?_;have eg:upd H ga (.lst ((V.int g0::gr.map V.int).eraseIdx 0)) st=some (.lst [.ref ga,.int 0,.ref ca,.int n]):=by rw[zh sg];exact h1
    refine⟨_,rfl,st,_,0,_,rfl,rfl,SqL.of h1,rfl,.inl ⟨rfl,_,SqL.of h2⟩,ga,_,0,0,V.int g0,rfl,rfl,h2,by decide,by decide,(by simp[seqIndex?]),rfl,?_⟩;refine⟨_,rfl,st,_,1,1,rfl,rfl,eg,rfl,?_⟩;obtain⟨b1,b2,b3,b4⟩:=hb gr g0 _ rfl;exact hnx _ _ ⟨rfl,gr,g0,b1,b2,b3,b4,by simp only[length_cons]at h4;omega,fun y hy=>h5 y (mem_cons_of_mem _ hy),le_of_lt (h5 g0 mem_cons_self)⟩
  ·rintro σ1 H1 ⟨rfl,g,x,c1,c2,c3,c4,c5,c6,c7⟩;refine⟨_,rfl,st,_,1,_,rfl,rfl,SqL.of c1,rfl,_,_,rfl,rfl,_,rfl,?_⟩;refine ite2 (fun hx=>?_) (fun hx=>?_)
   ·refine⟨_,rfl,st,_,1,_,rfl,rfl,SqL.of c1,rfl,_,rfl,_,_,rfl,rfl,hm0,?_⟩;refine⟨_,rfl,st,_,1,_,rfl,rfl,SqL.of c1,rfl,_,rfl,_,_,rfl,rfl,⟨hm0,Int.le_trans hm1 (by decide)⟩,?_⟩;refine⟨_,rfl,st,_,1,1,rfl,rfl,c1,rfl,?_⟩;refine⟨_,rfl,k _ _ (Int.emod_nonneg _ (Int.ne_of_gt hm0)) (Int.emod_lt_of_pos _ hm0) ⟨⟨g,cs,x / m,n,z6,by rw[zh sg.symm];exact c2,by rw[zh sc.symm];exact c3,c5,c6,Int.ediv_nonneg c7 (le_of_lt hm0),h7,by omega⟩,gc,sg,sc⟩ (c4.trans (Keep.set (by simp)))⟩
   ·refine⟨fun mm σ2 H2=>∃(j:Nat)(told:Int),j<=7/\mm=7-j/\ σ2=[some (.ref st),some (.int m),some (.int told),some (.int (1000000007^j))]/\StAt H2 st ga ca (N+j)/\Keep [st,ga] H H2,
     ⟨7,0,0,by decide,rfl,rfl,⟨⟨g,cs,x,n,c1,c2,c3,c5,c6,c7,h7,by omega⟩,gc,sg,sc⟩,c4⟩,?_⟩
    rintro mm σ2 H2 ⟨j,told,hj,rfl,rfl,S2,k2⟩;refine⟨_,rfl,_,rfl,_,_,rfl,rfl,_,rfl,?_⟩;refine ite2 (fun hlt=>?_) (fun hlt=>?_)
    ·have hlt':(1000000007:Int)^j<m:=of_decide_eq_true hlt;have hj6:j<7:=by
      rcases Nat.lt_or_ge j 7 with z|z
      ·exact z
      ·have e7:j=7:=by omega
       subst e7;exact absurd (Int.lt_of_lt_of_le hlt' hm1) (by decide)
     refine⟨fun σ3 H3=>∃(told:Int),σ3=[some (.ref st),some (.int m),some (.int told),some (.int (1000000007^(j+1)))]/\StAt H3 st ga ca (N+(j+1))/\Keep [st,ga] H H3,fun σ3 H3 ⟨td,e3,S3,k3⟩=>⟨7-(j+1),by omega,j+1,td,hj6,rfl,e3,S3,k3⟩,?_⟩;refine⟨_,rfl,_,_,rfl,rfl,.inr (by decide),_,rfl,st,ga,ca,N+j,rfl,S2,by omega,fun r H3 hr0 S3 k3=>?_⟩;refine⟨_,_,rfl,rfl,?_⟩;refine⟨_,rfl,_,_,rfl,rfl,.inr (by decide),?_⟩;refine⟨told*1000000007+r,?_,S3,k2.trans k3⟩;show [some (V.ref st),some (V.int m),some (V.int _),some (V.int (1000000007^j*1000000007))]=_;rw[<-Int.pow_succ]
    ·refine⟨_,rfl,_,rfl,_,_,rfl,rfl,hm0,?_⟩;exact k _ _ (Int.emod_nonneg _ (Int.ne_of_gt hm0)) (Int.emod_lt_of_pos _ hm0) (S2.mono (by omega)) k2
def n__law_lane:List Str:=["_law_left","_law_right","_law_split","_law_levels","_law_base","_law_by","_law_ones","_law_others","_law_level"]
theorem zW:FnScope n__law_lane ["_law_left","_law_right","_law_split","_law_levels"] (z8 s__law_lane):=FS
inductive sp_lane(vs:List V)(H:Hp)(Q:VK)(E:XK):Prop
 |mk (L R:Nat) (sp:Bool) (lv:Addr) (lev:List Nat):vs=[.int L,.int R,.bl sp,.ref lv]->H lv=some (.lst (lev.map natV))->(1<=L/\L<=8/\1<=R/\R<=8)->((sp=true->R*(L / R)=L/\R<L))->lev.length<=60->(∀v∈lev,v<=2)->(∀(p o1 o2:Addr)(xs ys:List V)(m n:Nat)(H':Hp),H' p=some (.tup [.ref o1,.ref o2])->H' o1=some (.lst xs)->H' o2=some (.lst ys)->(⟨L,R,m,n,sp,lev⟩:LD).Ok->All2 Lst1 H' (lev.map (⟨L,R,m,n,sp,lev⟩:LD).lrow) xs->All2 Lst1 H' (lev.map (⟨L,R,m,n,sp,lev⟩:LD).rrow) ys->Same H H'->Q (.ref p) H')->sp_lane vs H Q E
theorem ok__law_lane(T:Txt P w K mg A):FnOk P w K mg base CX0 1 A.a3 A.f3 ["_law_left","_law_right","_law_split","_law_levels"] sp_lane:=by
 refine T.x3.F.ok zW (by walk_at "n") fun _ _ _ s H vs Q E hr h=>?_
 ·obtain⟨L,R,sp,lv,lev,rfl,hlv,hb,hsp,hl,hv,k⟩:=h;refine⟨_,(z7 (pset 4 zW.nd (zw yG (pv 0) (pv 1)))
    (z7 (yo PassesOwn.never rfl (pi_range2 rfl T.w9 (pa2 zc zc)) (pgn 5 zW.nd)
     (z9 (ps_while PassesOwn.never (PW.pt (pw_and (zi yO (zw op_mod (pv 0) (pv 5)) zc (zr _)) (pw_and1 (zi yO (zw op_mod (pv 1) (pv 5)) zc (zr _)))))
     (z7 (pset 0 zW.nd (zw yu (pv 0) (pv 5)))
    (z7 (pset 1 zW.nd (zw yu (pv 1) (pv 5)))
    (z9 (pset 4 zW.nd (zw yu (pv 4) (pv 5)))))))))
    (z7 (ps_par (i:=0) (j:=1) rfl zW.nd rfl rfl (by decide) rfl rfl (pa2 (zw yu (pv 4) (pv 1)) (zw yu (pv 4) (pv 0))) rfl)
    (z7 (pset 6 zW.nd (y8 ye))
    (z7 (pset 7 zW.nd (y8 ye))
    (z7 (yo PassesOwn.never rfl (y4 (pv 3)) (pgn 8 zW.nd)
     (z9 (zD (zG (pv 2) (fun _=>rfl))
     (z7 (zV (yP PySem.F.plainAttrs_list PySem.F.slot_list_append PySem.F.type_list_append yk (pv 6) (pa1 (zw op_rep (y8 (pa1 (pv 0))) (pv 8)))))
    (z9 (zV (yP PySem.F.plainAttrs_list PySem.F.slot_list_append PySem.F.type_list_append yk (pv 7) (pa1 (jt sl_list (zw op_cat (y8 (pa1 (pv 0))) (zw op_rep (y8 (pa1 (pv 1))) (zw yu (pv 0) (pv 1)))) po_none (po_some (pix zA (y8 (pa3 zc zc (zw kH zc (zw yu (pv 0) (pv 1))))) (pv 8))))))))) (z7 (zV (yP PySem.F.plainAttrs_list PySem.F.slot_list_append PySem.F.type_list_append yk (pv 6) (pa1 (zw op_rep (y8 (pa1 (pv 0))) (zw yG (pv 8) (zw yu (pv 4) (pv 0)))))))
    (z9 (zV (yP PySem.F.plainAttrs_list PySem.F.slot_list_append PySem.F.type_list_append yk (pv 7) (pa1 (zw op_rep (y8 (pa1 (pv 1))) (zw yG (pv 8) (zw yu (pv 4) (pv 1))))))))))))
    (z9 (zj (ym (pa2 (pv 6) (pv 7))))))))))),?_⟩
  refine⟨_,rfl,_,rfl,_,_,rfl,rfl,.inl ⟨by omega,by omega⟩,?_⟩;refine⟨2,9,rfl,⟨by decide,by decide,by decide,by decide⟩,jK (lo:=2) (n:=7) (fun i σ' H'=>H'=H/\ ∃(l r m:Nat)(v:Option V),σ'=[some (.int l),some (.int r),some (.bl sp),some (.ref lv),some (.int ((l*r*m:Nat):Int)),v,none,none,none]/\l*m=L/\r*m=R) ⟨rfl,L,R,1,none,?_,Nat.mul_one _,Nat.mul_one _⟩ ?_ ?_⟩
  ·show [some (V.int L),some (V.int R),some (V.bl sp),some (V.ref lv),some (V.int ((L:Int)*(R:Int))),none,none,none,none]=_;rw[Nat.mul_one,Int.natCast_mul]
  ·rintro i σ' H' hi ⟨rfl,l,r,m,v,rfl,e1,e2⟩;have hby:(0:Int)<2+(i:Int):=by omega
   refine⟨fun mm σ2 H2=>H2=H'/\ ∃(l r m:Nat),mm=l/\ σ2=[some (.int l),some (.int r),some (.bl sp),some (.ref lv),some (.int ((l*r*m:Nat):Int)),some (.int (2+(i:Int))),none,none,none]/\l*m=L/\r*m=R,⟨l,rfl,l,r,m,rfl,rfl,e1,e2⟩,?_⟩;rintro l σ2 H2 ⟨rfl,_,r,m,rfl,rfl,e1,e2⟩;refine⟨_,rfl,_,rfl,_,_,rfl,rfl,hby,rfl,_,rfl,?_⟩;refine ite2 (fun h1=>?_) (fun h1=>iteF ⟨rfl,_,r,m,_,rfl,e1,e2⟩);refine⟨_,rfl,_,rfl,_,_,rfl,rfl,hby,rfl,_,rfl,?_⟩;refine ite2 (fun h2=>?_) (fun h2=>⟨rfl,_,r,m,_,rfl,e1,e2⟩);have d1:(l:Int)%(2+(i:Int))=0:=by have:=of_decide_eq_true h1;injection this
   have d2:(r:Int)%(2+(i:Int))=0:=by have:=of_decide_eq_true h2;injection this
   have c1:((2+i:Nat):Int)=2+(i:Int):=by omega
   rw[<-c1]at d1 d2;obtain⟨l',rfl⟩:(2+i)∣l:=Nat.dvd_of_mod_eq_zero (by exact_mod_cast d1);obtain⟨r',rfl⟩:(2+i)∣r:=Nat.dvd_of_mod_eq_zero (by exact_mod_cast d2);have q1:(((2+i)*l':Nat):Int) / (2+(i:Int))=(l':Int):=by
    rw[<-c1,<-Int.natCast_ediv,Nat.mul_div_cancel_left _ (by omega)]
   have q2:(((2+i)*r':Nat):Int) / (2+(i:Int))=(r':Int):=by
    rw[<-c1,<-Int.natCast_ediv,Nat.mul_div_cancel_left _ (by omega)]
   have q3:(((2+i)*l'*((2+i)*r')*m:Nat):Int) / (2+(i:Int))=((l'*r'*((2+i)*m):Nat):Int):=by
    have e:(2+i)*l'*((2+i)*r')*m=(2+i)*(l'*r'*((2+i)*m)):=by
     simp only[Nat.mul_assoc,Nat.mul_left_comm,Nat.mul_comm]
    rw[<-c1,<-Int.natCast_ediv,e,Nat.mul_div_cancel_left _ (by omega)]
   have l0:0<l':=by
    rcases Nat.eq_zero_or_pos l' with z|z
    ·subst z;simp at e1;omega
    ·exact z
   refine⟨fun σ3 H3=>H3=H2/\ σ3=[some (.int l'),some (.int r'),some (.bl sp),some (.ref lv),some (.int ((l'*r'*((2+i)*m):Nat):Int)),some (.int (2+(i:Int))),none,none,none],?_,?_⟩
   ·rintro σ3 H3 ⟨rfl,rfl⟩;refine⟨l',?_,rfl,l',r',(2+i)*m,rfl,rfl,?_,?_⟩
    ·have:2*l'<=(2+i)*l':=Nat.mul_le_mul_right _ (by omega);omega
    ·rw[<-e1,Nat.mul_comm (2+i) l',Nat.mul_assoc]
    ·rw[<-e2,Nat.mul_comm (2+i) r',Nat.mul_assoc]
   ·have hb100:(2+(i:Int))<=10^100:=Int.le_trans (show 2+(i:Int)<=9 by omega) (by decide);refine⟨_,rfl,_,rfl,_,_,rfl,rfl,⟨hby,hb100⟩,_,rfl,_,rfl,_,_,rfl,rfl,⟨hby,hb100⟩,_,rfl,_,rfl,_,_,rfl,rfl,⟨hby,hb100⟩,rfl,?_⟩;show [some (V.int (((2+i)*l':Nat) / (2+(i:Int)))),some (V.int (((2+i)*r':Nat) / (2+(i:Int)))),some (V.bl sp),some (V.ref lv),some (V.int (((2+i)*l'*((2+i)*r')*m:Nat) / (2+(i:Int)))),some (V.int (2+(i:Int))),none,none,none]=_;rw[q1,q2,q3]
  ·rintro σ' H' ⟨rfl,l,r,m,v,rfl,e1,e2⟩;have l0:0<l:=by
    rcases Nat.eq_zero_or_pos l with z|z
    ·subst z;simp at e1;omega
    ·exact z
   have r0:0<r:=by
    rcases Nat.eq_zero_or_pos r with z|z
    ·subst z;simp at e2;omega
    ·exact z
   have m0:0<m:=by
    rcases Nat.eq_zero_or_pos m with z|z
    ·subst z;simp at e1;omega
    ·exact z
   have ll:l<=L:=by rw[<-e1];exact Nat.le_mul_of_pos_right _ m0
   have rl:r<=R:=by rw[<-e2];exact Nat.le_mul_of_pos_right _ m0
   have b100:∀n:Nat,n<=8->(n:Int)<=10^100:=fun n hn=>Int.le_trans (show(n:Int)<=8 by omega) (by decide);have q1:((l*r*m:Nat):Int) / (r:Int)=(L:Int):=by
    rw[<-Int.natCast_ediv,<-e1,show l*r*m=r*(l*m)by rw[Nat.mul_comm l r,Nat.mul_assoc],Nat.mul_div_cancel_left _ r0]
   have q2:((l*r*m:Nat):Int) / (l:Int)=(R:Int):=by
    rw[<-Int.natCast_ediv,<-e2,Nat.mul_assoc,Nat.mul_div_cancel_left _ l0]
   have q3:((l*r*m:Nat):Int) / (L:Int)=(r:Int):=by
    rw[<-Int.natCast_ediv,<-e1,show l*r*m=l*m*r by rw[Nat.mul_assoc,Nat.mul_comm r m,<-Nat.mul_assoc],Nat.mul_div_cancel_left _ (Nat.mul_pos l0 m0)]
   have q4:((l*r*m:Nat):Int) / (R:Int)=(l:Int):=by
    rw[<-Int.natCast_ediv,<-e2,show l*r*m=r*m*l by rw[Nat.mul_comm l r,Nat.mul_assoc,Nat.mul_comm l m,<-Nat.mul_assoc],Nat.mul_div_cancel_left _ (Nat.mul_pos r0 m0)]
   have q5:(L:Int) / (R:Int)=((L / R:Nat):Int):=(Int.natCast_ediv L R).symm;have okD:(⟨L,R,r,l,sp,lev⟩:LD).Ok:=⟨hb.1,hb.2.1,hb.2.2.1,hb.2.2.2,by show r<=8;omega,by show l<=8;omega,by show L*r=R*l;rw[<-e1,<-e2,Nat.mul_assoc,Nat.mul_comm m r,Nat.mul_comm l],hsp,hv,rl,ll⟩;refine⟨_,rfl,_,rfl,_,_,rfl,rfl,⟨by omega,b100 r (by omega)⟩,_,rfl,_,rfl,_,_,rfl,rfl,⟨by omega,b100 l (by omega)⟩,_,_,rfl,?_⟩;dsimp only;rw[q1,q2];refine⟨by show 0<=sizeLine;decide,fun o1 ho1=>⟨by show 0<=sizeLine;decide,fun o2 ho2=>?_⟩⟩;have s2:=(Same.new (o:=.lst []) ho1).trans (Same.new (o:=.lst []) ho2);have g1:=Same.new (o:=.lst []) ho2 _ _ (z6 (H:=H') (a:=o1) (o:=.lst []));have g2:=z6 (H:=upd H' o1 (.lst [])) (a:=o2) (o:=.lst []);have n12:o1≠o2:=zo (z6 (H:=H') (a:=o1) (o:=.lst [])) ho2;have no2:H' o2=none:=(Same.new (o:=.lst []) ho1).free ho2;generalize upd (upd H' o1 (.lst [])) o2 (.lst [])=H2 at s2 g1 g2;refine⟨_,rfl,lv,rfl,⟨_,SqL.of (s2 _ _ hlv)⟩,kX (xs:=lev.map natV) (fun i σ' H3=>(∃v w,σ'=[some (.int L),some (.int R),some (.bl sp),some (.ref lv),some (.int ((l*r*m:Nat):Int)),v,some (.ref o1),some (.ref o2),w])/\Same H' H3/\ ∃xs ys,H3 o1=some (.lst xs)/\H3 o2=some (.lst ys)/\All2 (LstN [o1,o2]) H3 ((lev.take i).map (⟨L,R,r,l,sp,lev⟩:LD).lrow) xs/\All2 (LstN [o1,o2]) H3 ((lev.take i).map (⟨L,R,r,l,sp,lev⟩:LD).rrow) ys) ⟨⟨_,_,rfl⟩,s2,[],[],g1,g2,.nil,.nil⟩ ?_ ?_ ?_⟩
   ·rintro i σ' H3 _ ⟨_,s3,_⟩;exact SqL.of (s3 _ _ hlv)
   ·rintro i x σ' H3 hx ⟨⟨w1,w2,rfl⟩,s3,xs,ys,f1,f2,A1,A2⟩;obtain⟨v,hv',rfl⟩:=nat_at hx;have hv2:v<=2:=hv v (mem_of_getElem? hv');have hi:=(List.getElem?_eq_some_iff.mp hv').1;have xl:xs.length<sizeLine:=by
     rw[<-A1.length,length_map,length_take];exact lt_of_lt_of_le (show _<100 by omega) (by decide)
    have yl:ys.length<sizeLine:=by
     rw[<-A2.length,length_map,length_take];exact lt_of_lt_of_le (show _<100 by omega) (by decide)
    have fin:∀(a b:Addr)(H5:Hp),Keep [o1,o2] H3 H5->H5 o1=some (.lst (xs++[.ref a]))->H5 o2=some (.lst (ys++[.ref b]))->a∉[o1,o2]->b∉[o1,o2]->H5 a=some (.lst (((⟨L,R,r,l,sp,lev⟩:LD).lrow v).map V.int))->H5 b=some (.lst (((⟨L,R,r,l,sp,lev⟩:LD).rrow v).map V.int))->
      Same H' H5/\ ∃xs ys,H5 o1=some (.lst xs)/\H5 o2=some (.lst ys)/\All2 (LstN [o1,o2]) H5 ((lev.take (i+1)).map (⟨L,R,r,l,sp,lev⟩:LD).lrow) xs/\All2 (LstN [o1,o2]) H5 ((lev.take (i+1)).map (⟨L,R,r,l,sp,lev⟩:LD).rrow) ys:=fun a b H5 K5 e1 e2 na nb ea eb=>by
     refine⟨fun c o e=>K5 _ _ (s3 _ _ e) (nin_two' ho1 no2 e),_,_,e1,e2,?_,?_⟩
     ·rw[take_succ,hv',map_append];exact(A1.mvN K5).snoc ⟨a,rfl,na,ea⟩
     ·rw[take_succ,hv',map_append];exact(A2.mvN K5).snoc ⟨b,rfl,nb,eb⟩
    refine⟨_,rfl,sp,rfl,?_⟩;cases sp with
    |true =>
     refine iteT ⟨_,rfl,.inl ⟨rfl,_,SqL.of f1⟩,_,rfl,by show 1<=sizeLine;decide,fun a1 ha1=>⟨_,rfl,a1,(v:Int),[V.int (L:Int)],rfl,rfl,z6,by omega,by omega,?_,fun a2 ha2=>?_⟩⟩
     ·show 1*(v:Int).toNat<=sizeLine;exact le_trans (m:=2) (by omega) (by decide)
     rw[toNat_natCast,rep_flat];have s4:=(Same.new (o:=.lst [V.int (L:Int)]) ha1).trans (Same.new (o:=.lst ((replicate v (L:Int)).map V.int)) ha2);have ga2:=z6 (H:=upd H3 a1 (.lst [V.int (L:Int)])) (a:=a2) (o:=.lst ((replicate v (L:Int)).map V.int));have na2:a2∉[o1,o2]:=nin_two (Same.new ha1 _ _ f1) (Same.new ha1 _ _ f2) ha2;generalize upd (upd H3 a1 (.lst [V.int (L:Int)])) a2 (.lst ((replicate v (L:Int)).map V.int))=H4 at s4 ga2;refine⟨o1,_,_,rfl,rfl,s4 _ _ f1,xl,?_⟩;have K4:Keep [o1,o2] H3 (upd H4 o1 (.lst (xs++[.ref a2]))):=s4.keep.trans (Keep.set (by simp));have e1:=z6 (H:=H4) (a:=o1) (o:=.lst (xs++[.ref a2]));have e2:upd H4 o1 (.lst (xs++[.ref a2])) o2=some (.lst ys):=by rw[zh n12.symm];exact s4 _ _ f2
     have ea:upd H4 o1 (.lst (xs++[.ref a2])) a2=some (.lst ((replicate v (L:Int)).map V.int)):=by rw[zh (fun z=>na2 (by simp[z]))];exact ga2
     generalize upd H4 o1 (.lst (xs++[.ref a2]))=H5 at K4 e1 e2 ea;have dv:(0:Int)<(R:Int)/\(R:Int)<=10^100:=⟨by omega,b100 R (by omega)⟩;have hq8:L / R<=8:=le_trans (Nat.div_le_self _ _) hb.2.1;refine⟨_,rfl,.inl ⟨rfl,_,SqL.of e2⟩,_,rfl,by show 1<=sizeLine;decide,fun b1 hb1=>⟨_,rfl,by show 1<=sizeLine;decide,fun b2 hb2=>⟨_,rfl,_,rfl,_,_,rfl,rfl,dv,?_⟩⟩⟩;dsimp only;rw[q5];have hqI:((L / R:Nat):Int)<=8:=by exact_mod_cast hq8
     refine⟨b2,((L / R:Nat):Int),[V.int (R:Int)],rfl,rfl,z6,Int.le_trans (by decide) (Int.natCast_nonneg _),Int.lt_of_le_of_lt hqI (by decide),?_,fun b3 hb3=>?_⟩
     ·show 1*((L / R:Nat):Int).toNat<=sizeLine;exact le_trans (m:=8) (by omega) (by decide)
     rw[toNat_natCast,rep_flat];have sb:=(Same.new (o:=.lst [V.int (R:Int)]) hb2).trans (Same.new (o:=.lst ((replicate (L / R) (R:Int)).map V.int)) hb3);refine⟨b1,b3,_,_,rfl,rfl,sb _ _ z6,z6,?_,fun b4 hb4=>?_⟩
     ·rw[length_map,List.length_replicate];show 1+L / R<=sizeLine;exact le_trans (m:=9) (by omega) (by decide)
     have sc:=(Same.new (o:=.lst [V.int (L:Int)]) hb1).trans (sb.trans (Same.new (o:=.lst ([V.int (L:Int)]++(replicate (L / R) (R:Int)).map V.int)) hb4));have g4:=z6 (H:=upd (upd (upd H5 b1 (.lst [V.int (L:Int)])) b2 (.lst [V.int (R:Int)])) b3 (.lst ((replicate (L / R) (R:Int)).map V.int))) (a:=b4) (o:=.lst ([V.int (L:Int)]++(replicate (L / R) (R:Int)).map V.int));generalize upd (upd (upd (upd H5 b1 (.lst [V.int (L:Int)])) b2 (.lst [V.int (R:Int)])) b3 (.lst ((replicate (L / R) (R:Int)).map V.int))) b4 (.lst ([V.int (L:Int)]++(replicate (L / R) (R:Int)).map V.int))=H6 at sc g4;dsimp only[wg,tNil];refine⟨_,rfl,_,rfl,_,_,rfl,rfl,dv,_,_,rfl,rfl,by show 3<=sizeLine;decide,fun b5 hb5=>?_⟩;dsimp only;rw[q5];have em:atI [V.int 0,V.int 1,V.int (1+((L / R:Nat):Int))] (v:Int)=some (.int (((⟨L,R,r,l,true,lev⟩:LD).cut v:Nat):Int)):=by
      match v,hv2 with
      | 0,_=>rfl
      | 1,_=>rfl
      | 2,_ =>
       show some (V.int (1+((L / R:Nat):Int)))=some (V.int ((1+L / R:Nat):Int));rw[Int.natCast_add];rfl
     refine⟨_,rfl,b5,_,v,_,rfl,rfl,SqL.of z6,em,_,rfl,b4,_,rfl,SqL.of (Same.new hb5 _ _ g4),fun b6 hb6=>?_⟩;rw[cut_take];have er:([V.int (L:Int)]++(replicate (L / R) (R:Int)).map V.int).take ((⟨L,R,r,l,true,lev⟩:LD).cut v)=((⟨L,R,r,l,true,lev⟩:LD).rrow v).map V.int:=by
      unfold LD.rrow;rw[if_pos rfl,List.map_take];rfl
     rw[er];have sd:=sc.trans ((Same.new (o:=.lst [V.int 0,V.int 1,V.int (1+((L / R:Nat):Int))]) hb5).trans (Same.new (o:=.lst (((⟨L,R,r,l,true,lev⟩:LD).rrow v).map V.int)) hb6));have g6:=z6 (H:=upd H6 b5 (.lst [V.int 0,V.int 1,V.int (1+((L / R:Nat):Int))])) (a:=b6) (o:=.lst (((⟨L,R,r,l,true,lev⟩:LD).rrow v).map V.int));have n6:b6∉[o1,o2]:=nin_two (Same.new hb5 _ _ (sc _ _ e1)) (Same.new hb5 _ _ (sc _ _ e2)) hb6;generalize upd (upd H6 b5 (.lst [V.int 0,V.int 1,V.int (1+((L / R:Nat):Int))])) b6 (.lst (((⟨L,R,r,l,true,lev⟩:LD).rrow v).map V.int))=H7 at sd g6;refine⟨o2,_,_,rfl,rfl,sd _ _ e2,yl,⟨_,_,rfl⟩,fin a2 b6 _ (K4.trans (sd.keep.trans (Keep.set (by simp)))) (by rw[zh n12];exact sd _ _ e1) z6 na2 n6 ?_ ?_⟩
     ·rw[zh (fun z=>na2 (by simp[z]))];exact sd _ _ ea
     ·rw[zh (fun z=>n6 (by simp[z]))];exact g6
    |false =>
     have dL:(0:Int)<(L:Int)/\(L:Int)<=10^100:=⟨by omega,b100 L (by omega)⟩;have dR:(0:Int)<(R:Int)/\(R:Int)<=10^100:=⟨by omega,b100 R (by omega)⟩;refine iteF ⟨_,rfl,.inl ⟨rfl,_,SqL.of f1⟩,_,rfl,by show 1<=sizeLine;decide,fun a1 ha1=>⟨_,rfl,_,rfl,_,rfl,_,_,rfl,rfl,dL,?_⟩⟩;dsimp only;rw[q3];refine⟨_,_,rfl,rfl,.inl ⟨by omega,by omega⟩,?_⟩;dsimp only;rw[<-Int.natCast_mul];have vr:v*r<=16:=Nat.mul_le_mul hv2 (show r<=8 by omega);have vl:v*l<=16:=Nat.mul_le_mul hv2 (show l<=8 by omega);refine⟨a1,((v*r:Nat):Int),[V.int (L:Int)],rfl,rfl,z6,by omega,by omega,?_,fun a2 ha2=>?_⟩
     ·show 1*((v*r:Nat):Int).toNat<=sizeLine;exact le_trans (m:=16) (by omega) (by decide)
     rw[toNat_natCast,rep_flat];have s4:=(Same.new (o:=.lst [V.int (L:Int)]) ha1).trans (Same.new (o:=.lst ((replicate (v*r) (L:Int)).map V.int)) ha2);have ga2:=z6 (H:=upd H3 a1 (.lst [V.int (L:Int)])) (a:=a2) (o:=.lst ((replicate (v*r) (L:Int)).map V.int));have na2:a2∉[o1,o2]:=nin_two (Same.new ha1 _ _ f1) (Same.new ha1 _ _ f2) ha2;generalize upd (upd H3 a1 (.lst [V.int (L:Int)])) a2 (.lst ((replicate (v*r) (L:Int)).map V.int))=H4 at s4 ga2;refine⟨o1,_,_,rfl,rfl,s4 _ _ f1,xl,?_⟩;have K4:Keep [o1,o2] H3 (upd H4 o1 (.lst (xs++[.ref a2]))):=s4.keep.trans (Keep.set (by simp));have e1:=z6 (H:=H4) (a:=o1) (o:=.lst (xs++[.ref a2]));have e2:upd H4 o1 (.lst (xs++[.ref a2])) o2=some (.lst ys):=by rw[zh n12.symm];exact s4 _ _ f2
     have ea:upd H4 o1 (.lst (xs++[.ref a2])) a2=some (.lst ((replicate (v*r) (L:Int)).map V.int)):=by rw[zh (fun z=>na2 (by simp[z]))];exact ga2
     generalize upd H4 o1 (.lst (xs++[.ref a2]))=H5 at K4 e1 e2 ea;refine⟨_,rfl,.inl ⟨rfl,_,SqL.of e2⟩,_,rfl,by show 1<=sizeLine;decide,fun b1 hb1=>⟨_,rfl,_,rfl,_,rfl,_,_,rfl,rfl,dR,?_⟩⟩;dsimp only;rw[q4];refine⟨_,_,rfl,rfl,.inl ⟨by omega,by omega⟩,?_⟩;dsimp only;rw[<-Int.natCast_mul];refine⟨b1,((v*l:Nat):Int),[V.int (R:Int)],rfl,rfl,z6,by omega,by omega,?_,fun b2 hb2=>?_⟩
     ·show 1*((v*l:Nat):Int).toNat<=sizeLine;exact le_trans (m:=16) (by omega) (by decide)
     rw[toNat_natCast,rep_flat];have sd:=(Same.new (o:=.lst [V.int (R:Int)]) hb1).trans (Same.new (o:=.lst ((replicate (v*l) (R:Int)).map V.int)) hb2);have g6:=z6 (H:=upd H5 b1 (.lst [V.int (R:Int)])) (a:=b2) (o:=.lst ((replicate (v*l) (R:Int)).map V.int));have n6:b2∉[o1,o2]:=nin_two (Same.new hb1 _ _ e1) (Same.new hb1 _ _ e2) hb2;generalize upd (upd H5 b1 (.lst [V.int (R:Int)])) b2 (.lst ((replicate (v*l) (R:Int)).map V.int))=H7 at sd g6;refine⟨o2,_,_,rfl,rfl,sd _ _ e2,yl,⟨_,_,rfl⟩,fin a2 b2 _ (K4.trans (sd.keep.trans (Keep.set (by simp)))) (by rw[zh n12];exact sd _ _ e1) z6 na2 n6 ?_ ?_⟩
     ·rw[zh (fun z=>na2 (by simp[z]))];exact sd _ _ ea
     ·rw[zh (fun z=>n6 (by simp[z]))];exact g6
   ·rintro σ' H3 ⟨⟨w1,w2,rfl⟩,s3,xs,ys,f1,f2,A1,A2⟩;rw[length_map,take_length]at A1 A2;refine⟨_,rfl,_,rfl,by show 2<=sizeLine;decide,fun p hp=>?_⟩;have s4:=Same.new (o:=.tup [V.ref o1,V.ref o2]) hp;exact k p o1 o2 xs ys r l _ z6 (s4 _ _ f1) (s4 _ _ f2) okD (A1.toL.mvI s4) (A2.toL.mvI s4) (s3.trans s4)
def n__law_rule:List Str:=["_law_rows"]
theorem sc__law_rule:FnScope n__law_rule ["_law_rows"] (z8 kx):=FS
inductive sp_rule(vs:List V)(H:Hp)(Q:VK)(E:XK):Prop
 |mk (a:Addr) (xs:List V) (rows:List (List Int)):vs=[.ref a]->H a=some (.lst xs)->All2 Lst1 H rows xs->(∀r∈rows,r.length<64)->rows.length<=60->(∀(p:Addr)(rs:List V)(H':Hp),H' p=some (.tup rs)->All2 Tup1 H' (rows.map jF) rs->Same H H'->Q (.ref p) H')->sp_rule vs H Q E
theorem ok__law_rule(T:Txt P w K mg A):FnOk P w K mg base CX0 1 A.a4 A.f4 ["_law_rows"] sp_rule:=by
 refine T.x4.F.ok sc__law_rule (by walk_at "n") fun _ _ _ s H vs Q E hr h=>?_
 ·obtain⟨a,xs,rows,rfl,ha,h2,hb,hl,k⟩:=h;refine⟨_,(z9 (zj (zH zZ rfl T.w13 boot_tuple (pa1 (zY (ls:=["_law_row"]) (fr:=[]) (csf (z8 kx) n__law_rule) rfl (y4 (pv 0)) (fun _ _ _ _=>pgc 0 (by decide+kernel) rfl rfl) (fun _ _ _ _=>yf) (fun _ _ _ _=>(zH (call_tuple_ofK K rfl) (glc (z8 kx)) T.w13 boot_tuple (pa1 (pe_sortRK K rfl (glc (z8 kx)) T.w10 (pvc (z8 kx) 0)))))))))),?_⟩;have hlen:=h2.length;refine comp_map1L Tup1 (rows.map jF) [] (by rw[length_map];exact hlen) (le_trans (m:=60) (by omega) (by decide)) (fun _ _ _ _ s h=>h.mv s.tups) rfl rfl ha (fun j x b H' P hx hb' s' hP=>?_) (fun zs H' p s' a2 hp=>?_)
  ·obtain⟨row,hrow,q,rfl,hq⟩:=h2.get hx;rw[getElem?_map,hrow]at hb';have hbl:=hb row (mem_of_getElem? hrow);refine⟨_,rfl,q,row,rfl,.inl (SqL.of (s' _ _ hq)),hbl,fun ns' l hperm hord hl0=>⟨l,_,rfl,.inl ⟨SqL.of z6,fun t ht=>?_⟩⟩⟩;refine hP _ _ ((Same.new hl0).trans (Same.new ht)) ⟨t,rfl,?_⟩;rw[z6,sortD_eq hperm hord,<-Option.some.inj hb']
  ·refine⟨p,_,rfl,.inl ⟨SqL.of z6,fun t ht=>?_⟩⟩;have sn:=(Same.new (o:=.lst zs) hp).trans (Same.new (o:=.tup zs) ht);exact k t zs _ z6 (a2.mv sn.tups) (s'.trans sn)
def yr:List Str:=["_law_state","_law_top","_law_many","_law_ones","_law_others","_law_lefts","_law_rights","_law_lane_here","_law_left","_law_right","_law_split","_law_levels","_law_mine","_law_theirs"]
theorem zt:FnScope yr ["_law_state","_law_top"] (z8 zy):=FS
inductive sp_matched(vs:List V)(H:Hp)(Q:VK)(E:XK):Prop
 |mk (st ga ca:Addr) (N:Nat) (topp:Int):vs=[.ref st,.int topp]->StAt H st ga ca N->N<=10^6->0<=topp->topp<=6->(∀(p q1 q2:Addr)(rs qs:List V)(one other:List (List Int))(n:Nat)(H':Hp),H' p=some (.tup [.ref q1,.ref q2])->H' q1=some (.tup rs)->All2 Tup1 H' one rs->H' q2=some (.tup qs)->All2 Tup1 H' other qs->Matched one other n->(∀h∈one,h.length<=60)->(∀h∈other,h.length<=60)->(n:Int)<=topp->StAt H' st ga ca (N+1000)->Keep [st,ga] H H'->Q (.ref p) H')->sp_matched vs H Q E
structure MatI(H H':Hp)(st ga ca:Addr)(M n i:Nat)(oa ta la ra:Addr)(xs ys:List V)(ds:List LD):Prop where
 go:H' oa=some (.lst xs)
 gt:H' ta=some (.lst ys)
 ax:All2 (LstN [st,ga,la,ra]) H' ((List.range n).map (lefH ds)) xs
 ay:All2 (LstN [st,ga,la,ra]) H' ((List.range n).map (rigH ds)) ys
 gl:H' la=some (.lst ((ds.flatMap LD.lparts).map V.int))
 gr:H' ra=some (.lst ((ds.flatMap LD.rparts).map V.int))
 ld:LDi ds n i
 no:oa∉[st,ga,la,ra]
 nt:ta∉[st,ga,la,ra]
 sa:StAt H' st ga ca M
 kp:Keep [st,ga] H H'
theorem nin42{st ga la ra q:Addr}(h:q∉[st,ga,la,ra]):q∉[st,ga]:=fun z=>h (by
 simp only[mem_cons,not_mem_nil,or_false]at z ⊢;rcases z with z|z
 ·exact .inl z
 ·exact .inr (.inl z))
theorem wide4{st ga la ra:Addr}{H H':Hp}(k:Keep [st,ga] H H'):Keep [st,ga,la,ra] H H':=k.wide fun a ha=>by
 simp only[mem_cons,not_mem_nil,or_false]at ha ⊢;rcases ha with z|z
 ·exact .inl z
 ·exact .inr (.inl z)
theorem MatI.drawn{H H' H2:Hp}{st ga ca:Addr}{M M2 n i:Nat}{oa ta la ra:Addr}{xs ys:List V}{ds:List LD}(m:MatI H H' st ga ca M n i oa ta la ra xs ys ds)(hl:la∉[st,ga,ca])(hr:ra∉[st,ga,ca])(S:StAt H2 st ga ca M2)(K:Keep [st,ga] H' H2):MatI H H2 st ga ca M2 n i oa ta la ra xs ys ds :=
 ⟨K.at m.go (nin42 m.no),K.at m.gt (nin42 m.nt),m.ax.mvN (wide4 K),m.ay.mvN (wide4 K),K.at m.gl (nin2 hl),K.at m.gr (nin2 hr),m.ld,m.no,m.nt,S,m.kp.trans K⟩
theorem MatI.same{H H' H2:Hp}{st ga ca:Addr}{M n i:Nat}{oa ta la ra:Addr}{xs ys:List V}{ds:List LD}(m:MatI H H' st ga ca M n i oa ta la ra xs ys ds)(s:Same H' H2):MatI H H2 st ga ca M n i oa ta la ra xs ys ds :=
 ⟨s _ _ m.go,s _ _ m.gt,m.ax.mvN s.keep,m.ay.mvN s.keep,s _ _ m.gl,s _ _ m.gr,m.ld,m.no,m.nt,m.sa.same s,m.kp.trans s.keep⟩
theorem MatI.mono{H H':Hp}{st ga ca:Addr}{M M' n i i':Nat}{oa ta la ra:Addr}{xs ys:List V}{ds:List LD}(m:MatI H H' st ga ca M n i oa ta la ra xs ys ds)(h:M<=M')(hi:i<=i'):MatI H H' st ga ca M' n i' oa ta la ra xs ys ds :=
 ⟨m.go,m.gt,m.ax,m.ay,m.gl,m.gr,m.ld.mono hi,m.no,m.nt,m.sa.mono h,m.kp⟩
theorem ok__law_matched(T:Txt P w K mg A):FnOk P w K mg base CX0 5 A.a5 A.f5 ["_law_state","_law_top"] sp_matched:=by
 refine T.x5.F.ok zt (by walk_at "n") fun _ _ _ s H vs Q E hr h=>?_
 ·obtain⟨st,ga,ca,N,topp,rfl,S,hN,t0,t1,k⟩:=h;refine⟨_,(z7 (pset 2 zt.nd (pcl (zF T) hr T.x2 (pa2 (pv 0 (hv:=Or.inr (Or.inl rfl))) (zw kH (pv 1) zc))))
    (z7 (ps_comp (i:=3) (ls:=["_law_k"]) (fr:=[]) (csf (z8 zy) yr) rfl (kJ rfl T.w9 (pa1 (pv 2))) (fun _ _ _ _=>pgc 0 (by decide+kernel) rfl rfl) (fun _ _ _ _=>yf) (fun _ _ _ _=>(y8 ye)) zt.nd rfl rfl rfl)
    (z7 (ps_comp (i:=4) (ls:=["_law_k"]) (fr:=[]) (csf (z8 zy) yr) rfl (kJ rfl T.w9 (pa1 (pv 2))) (fun _ _ _ _=>pgc 0 (by decide+kernel) rfl rfl) (fun _ _ _ _=>yf) (fun _ _ _ _=>(y8 ye)) zt.nd rfl rfl rfl)
    (z7 (pset 5 zt.nd (y8 ye))
    (z7 (pset 6 zt.nd (y8 ye))
    (z7 (yo PassesOwn.never rfl (kJ rfl T.w9 (pa1 (zw kH zc (pcl (zF T) hr T.x2 (pa2 (pv 0 (hv:=Or.inr (Or.inl rfl))) zc))))) (pgn 7 zt.nd)
     (z7 (pset 8 zt.nd (zw kH zc (pcl (zF T) hr T.x2 (pa2 (pv 0 (hv:=Or.inr (Or.inl rfl))) zc))))
    (z7 (pset 9 zt.nd (zw kH zc (pcl (zF T) hr T.x2 (pa2 (pv 0 (hv:=Or.inr (Or.inl rfl))) zc))))
    (z7 (pset 10 zt.nd (pe_and (pcm yO (pcl (zF T) hr T.x2 (pa2 (pv 0 (hv:=Or.inr (Or.inl rfl))) zc)) zc) (pe_and (pcm yO (zw op_mod (pv 8) (pv 9)) zc) (pe_and (pcm op_gt (pv 8) (pv 9)) (pe_one (pe_cmpR kI (pv 8) (pv 6) rfl))))))
    (z7 (ps_comp (i:=11) (ls:=["_law_k"]) (fr:=[("_law_state",0)]) (csf (z8 zy) yr) rfl (kJ rfl T.w9 (pa1 (pv 2))) (fun _ _ _ _=>pgc 0 (by decide+kernel) rfl rfl) (fun _ _ _ _=>yf) (fun _ _ _ _=>(ka (zF T) (hr.mono (by decide)) (glc (z8 zy)) T.x2.g T.x2.F.kp T.x2.b .nil yX (pa2 (pvc (z8 zy) 1) zc))) zt.nd rfl rfl rfl)
    (z9 (zD (PW.pt (pw_and (zi kI (pv 8) (pv 5) rfl) (pw_and1 (zi kI (pv 9) (pv 6) rfl))))
     (z7 (zV (yP PySem.F.plainAttrs_list PySem.F.slot_list_append PySem.F.type_list_append yk (pv 5) (pa1 (pv 8))))
    (z7 (zV (yP PySem.F.plainAttrs_list PySem.F.slot_list_append PySem.F.type_list_append yk (pv 6) (pa1 (pv 9))))
    (z7 (zD (zG (pv 10) (fun _=>rfl))
     (z9 (zV (yP PySem.F.plainAttrs_list PySem.F.slot_list_append PySem.F.type_list_append yk (pv 6) (pa1 (pv 8))))) zk)
    (z7 (ps_asg (pcl (ok__law_lane T) hr T.x3 (kr (pv 8) (pa3 (pv 9) (pv 10) (pv 11)))) (pg_tup rfl (zS (pgn 12 zt.nd) (zS (pgn 13 zt.nd) jD))))
    (z7 (ps_comp (i:=3) (ls:=["_law_heap_here","_law_more"]) (fr:=[]) (csf (z8 zy) yr) rfl (pi_zip false false rfl T.w14 (pa2 (pv 3) (pv 12))) (fun _ _ _ _=>pg_tupC 2 rfl (zS (pgc (ls:=["_law_heap_here","_law_more"]) (fr:=[]) 0 (by decide+kernel) rfl rfl) (zS (pgc (ls:=["_law_heap_here","_law_more"]) (fr:=[]) 1 (by decide+kernel) rfl rfl) jD)) rfl rfl) (fun _ _ _ _=>yf) (fun _ _ _ _=>(zw op_cat (pvc (z8 zy) 0) (pvc (z8 zy) 1))) zt.nd rfl rfl rfl)
    (z9 (ps_comp (i:=4) (ls:=["_law_heap_here","_law_more"]) (fr:=[]) (csf (z8 zy) yr) rfl (pi_zip false false rfl T.w14 (pa2 (pv 4) (pv 13))) (fun _ _ _ _=>pg_tupC 2 rfl (zS (pgc (ls:=["_law_heap_here","_law_more"]) (fr:=[]) 0 (by decide+kernel) rfl rfl) (zS (pgc (ls:=["_law_heap_here","_law_more"]) (fr:=[]) 1 (by decide+kernel) rfl rfl) jD)) rfl rfl) (fun _ _ _ _=>yf) (fun _ _ _ _=>(zw op_cat (pvc (z8 zy) 0) (pvc (z8 zy) 1))) zt.nd rfl rfl rfl))))))) zk)))))))
    (z7 (zD (zi yO (pcl (zF T) hr T.x2 (pa2 (pv 0 (hv:=Or.inr (Or.inl rfl))) zc)) zc (zr _))
     (z9 (ps_par (i:=3) (j:=4) rfl zt.nd rfl rfl (by decide) rfl rfl (pa2 (pv 4) (pv 3)) rfl)) zk)
    (z9 (zj (ym (pa2 (pcl (ok__law_rule T) hr T.x4 (pa1 (pv 3))) (pcl (ok__law_rule T) hr T.x4 (pa1 (pv 4)))))))))))))),?_⟩
  refine cut4 fun nx0 hx0=>?_;refine⟨_,rfl,_,rfl,_,_,rfl,rfl,st,ga,ca,N,topp+1,rfl,S,by omega,by omega,Int.le_trans (show topp+1<=7 by omega) (by decide),fun many H1 m0 m1 S1 K1=>?_⟩;obtain⟨n,rfl⟩:∃n:Nat,many=(n:Int):=⟨many.toNat,by omega⟩;have n6:n<=6:=by omega
  have mk:∀(Ha:Hp)(ys:List V)(i:Nat)(q:Addr),Same H1 Ha->All2 (LstF H1) Ha (replicate i []) ys->Ha q=none->All2 (LstF H1) (upd Ha q (.lst [])) (replicate (i+1) []) (ys++[.ref q]):=fun Ha ys i q s a hq=>by
   rw[List.replicate_succ'];exact(a.mvF (Same.new hq)).snoc ⟨q,rfl,s.free hq,z6⟩
  refine⟨_,rfl,_,rfl,by omega,by omega,comp_range (fun i ys σ' H'=>Same H1 H'/\(∃v,σ'=[v])/\All2 (LstF H1) H' (replicate i []) ys/\i<=n) ⟨Same.refl _,⟨_,rfl⟩,.nil,zero_le _⟩ ?_ ?_ ?_⟩
  ·rintro i ys σ' H' hi ⟨_,_,a2,_⟩;rw[<-a2.length,List.length_replicate];exact yR (by omega)
  ·rintro i ys σ' H' hi ⟨s,⟨v,rfl⟩,a2,_⟩;exact⟨by show 0<=sizeLine;decide,fun q hq=>⟨s.trans (Same.new hq),⟨_,rfl⟩,mk _ _ _ _ s a2 hq,by omega⟩⟩
  rintro xs σ' H2 ⟨s2,_,ax,_⟩ oa hoa;rw[toNat_natCast]at ax;have s3:=s2.trans (Same.new (o:=.lst xs) hoa);have goa:=z6 (H:=H2) (a:=oa) (o:=.lst xs);have ax3:=ax.mvF (Same.new (o:=.lst xs) hoa);generalize upd H2 oa (.lst xs)=H3 at s3 goa ax3;refine⟨_,rfl,_,rfl,by omega,by omega,comp_range (fun i ys σ' H'=>Same H3 H'/\(∃v,σ'=[v])/\All2 (LstF H1) H' (replicate i []) ys/\i<=n) ⟨Same.refl _,⟨_,rfl⟩,.nil,zero_le _⟩ ?_ ?_ ?_⟩
  ·rintro i ys σ' H' hi ⟨_,_,a2,_⟩;rw[<-a2.length,List.length_replicate];exact yR (by omega)
  ·rintro i ys σ' H' hi ⟨s,⟨v,rfl⟩,a2,_⟩;exact⟨by show 0<=sizeLine;decide,fun q hq=>⟨s.trans (Same.new hq),⟨_,rfl⟩,mk _ _ _ _ (s3.trans s) a2 hq,by omega⟩⟩
  rintro ys σ' H4 ⟨s4,_,ay,_⟩ ta hta;rw[toNat_natCast]at ay;have s5:=s4.trans (Same.new (o:=.lst ys) hta);have gta:=z6 (H:=H4) (a:=ta) (o:=.lst ys);have ay5:=ay.mvF (Same.new (o:=.lst ys) hta);generalize upd H4 ta (.lst ys)=H5 at s5 gta ay5;have goa5:=s5 _ _ goa;have ax5:=ax3.mvF s5;refine⟨by show 0<=sizeLine;decide,fun la hla=>?_⟩;dsimp only[jL];subst hx0;refine⟨by show 0<=sizeLine;decide,fun ra hra=>?_⟩;have s6:=(Same.new (o:=.lst []) hla).trans (Same.new (o:=.lst []) hra);have gla:=Same.new (o:=.lst []) hra _ _ (z6 (H:=H5) (a:=la) (o:=.lst []));have gra:=z6 (H:=upd H5 la (.lst [])) (a:=ra) (o:=.lst []);have nra:H5 ra=none:=(Same.new (o:=.lst []) hla).free hra;have nlr:la≠ra:=zo (z6 (H:=H5) (a:=la) (o:=.lst [])) hra;generalize upd (upd H5 la (.lst [])) ra (.lst [])=H6 at s6 gla gra;have s15:=s3.trans s5;have S6:=S1.same (s15.trans s6);have nin4:∀(q:Addr)(o:HO),H5 q=some o->H1 q=none->q∉[st,ga,la,ra]:=fun q o e hn z=>by
   have h2:=S1.nin hn;simp only[mem_cons,not_mem_nil,or_false]at z h2;rcases z with rfl|rfl|rfl|rfl
   ·exact h2 (.inl rfl)
   ·exact h2 (.inr rfl)
   ·rw[hla]at e;cases e
   ·rw[nra]at e;cases e
  have ax6:=(ax5.toN nin4).mvN (Same.keep s6);have ay6:=(ay5.toN nin4).mvN (Same.keep s6);have noa:=nin4 oa _ goa5 (s2.free hoa);have nta:=nin4 ta _ gta ((s3.trans s4).free hta);have ela0:H la=none:=K1.free (s15.free hla) (S1.nin (s15.free hla));have era:H ra=none:=K1.free (s15.free nra) (S1.nin (s15.free nra));have nla:la∉[st,ga,ca]:=S1.nin3 (s15.free hla);have nra3:ra∉[st,ga,ca]:=S1.nin3 (s15.free nra);rw[<-(nil_rows n).1]at ax6;rw[<-(nil_rows n).2]at ay6;have M0:MatI H H6 st ga ca (N+7) n 0 oa ta la ra xs ys []:=⟨s6 _ _ goa5,s6 _ _ gta,ax6,ay6,gla,gra,LDi.nil n,noa,nta,S6.mono (by omega),K1.trans (s15.trans s6).keep⟩;clear ax ax3 ax5 ay ay5 ax6 ay6;refine⟨_,rfl,st,ga,ca,_,4,rfl,M0.sa,by omega,by decide,by decide,fun lanes H7 l0 l1 S7 K7=>⟨_,_,rfl,rfl,_,rfl,by omega,by omega,?_⟩⟩;have M7:=M0.drawn nla nra3 S7 K7;refine jK (fun i σ' H'=>∃(oa ta:Addr)(xs ys:List V)(ds:List LD)(v7 v8 v9 v10 v11 v12 v13:Option V),σ'=[some (.ref st),some (.int topp),some (.int (n:Int)),some (.ref oa),some (.ref ta),some (.ref la),some (.ref ra),v7,v8,v9,v10,v11,v12,v13]/\MatI H H' st ga ca (N+14+63*i) n i oa ta la ra xs ys ds) ⟨oa,ta,xs,ys,[],none,none,none,none,none,none,none,rfl,M7⟩ ?_ ?_
  ·clear M0 M7 goa goa5 gta gla gra noa nta;rintro i σ' H' hi ⟨oa,ta,xs,ys,ds,v7,v8,v9,v10,v11,v12,v13,rfl,M⟩;have i4:i+1<=4:=by omega
   refine cut2 fun nx1 hx1=>?_;refine⟨_,rfl,st,ga,ca,_,8,rfl,M.sa,by omega,by decide,by decide,fun a1 HA a10 a11 SA KA=>⟨_,_,rfl,rfl,?_⟩⟩;have MA:=M.drawn nla nra3 SA KA;obtain⟨L,eL⟩:∃L:Nat,1+a1=(L:Int):=⟨(1+a1).toNat,by omega⟩;dsimp only;rw[eL];refine⟨_,rfl,st,ga,ca,_,8,rfl,MA.sa,by omega,by decide,by decide,fun a2 HB a20 a21 SB KB=>⟨_,_,rfl,rfl,?_⟩⟩;have MB:=MA.drawn nla nra3 SB KB;obtain⟨R,eR⟩:∃R:Nat,1+a2=(R:Int):=⟨(1+a2).toNat,by omega⟩;dsimp only;rw[eR];have hb:1<=L/\L<=8/\1<=R/\R<=8:=by omega
   dsimp only[jL];subst hx1;refine kh (fun σ' H'=>∃ b:Bool,σ'=[some (.ref st),some (.int topp),some (.int (n:Int)),some (.ref oa),some (.ref ta),some (.ref la),some (.ref ra),some (.int (0+(i:Int))),some (.int (L:Int)),some (.int (R:Int)),some (.bl b),v11,v12,v13]/\(b=true->(L%R=0/\R<L)/\(L:Int)∉ds.flatMap LD.rparts)/\MatI H H' st ga ca (N+14+63*i+21) n i oa ta la ra xs ys ds) (fun nx hnx=>?_) ?_
   ·refine⟨_,rfl,st,ga,ca,_,3,rfl,MB.sa,by omega,by decide,by decide,fun a3 HC a30 a31 SC KC=>⟨rfl,?_⟩⟩;have MC:=(MB.drawn nla nra3 SC KC).mono (M':=N+14+63*i+21) (by omega) (le_refl _);refine⟨_,rfl,ite2 (fun h1=>?_) (fun h1=>hnx _ _ ⟨_,rfl,(fun z=>by cases z),MC⟩)⟩;refine⟨_,rfl,_,rfl,_,_,rfl,rfl,by omega,rfl,_,rfl,ite2 (fun h2=>?_) (fun h2=>hnx _ _ ⟨_,rfl,(fun z=>by cases z),MC⟩)⟩;refine⟨_,rfl,_,rfl,_,_,rfl,rfl,_,rfl,ite2 (fun h3=>?_) (fun h3=>hnx _ _ ⟨_,rfl,(fun z=>by cases z),MC⟩)⟩;refine⟨_,rfl,_,rfl,ra,_,rfl,.inl (SqL.of MC.gr),rfl,j6 _,?_⟩;rw[if_pos rfl,inV_ints];have d2:(L:Int)%(R:Int)=0:=by have:=of_decide_eq_true h2;injection this
    have d3:(R:Int)<(L:Int):=of_decide_eq_true h3;exact hnx _ _ ⟨_,rfl,fun z=>⟨⟨by exact_mod_cast d2,by omega⟩,by simpa using z⟩,MC⟩
   ·rintro σ1 HC ⟨sp,rfl,hsp,MC⟩;refine⟨_,rfl,_,rfl,by omega,by omega,comp_range (fun j zs σ' H'=>(∃v,σ'=[v,some (.ref st)])/\ ∃lev:List Nat,zs=lev.map natV/\lev.length=j/\(∀v∈lev,v<=2)/\MatI H H' st ga ca (N+14+63*i+21+7*j) n i oa ta la ra xs ys ds) ⟨⟨_,rfl⟩,[],rfl,rfl,(fun _ h=>by cases h),MC⟩ ?_ ?_ ?_⟩
    ·rintro j zs σ' H' hj ⟨_,lev,rfl,hl,_⟩;rw[length_map,hl];exact yR (by omega)
    ·rintro j zs σ' H' hj ⟨⟨v,rfl⟩,lev,rfl,hl,hv,M'⟩;refine⟨_,rfl,st,ga,ca,_,3,rfl,M'.sa,by omega,by decide,by decide,fun a4 HD a40 a41 SD KD=>⟨⟨_,rfl⟩,lev++[a4.toNat],?_,by simp[hl],fun v hv'=>?_,(M'.drawn nla nra3 SD KD).mono (by omega) (le_refl _)⟩⟩
     ·rw[map_append];show _=_++[V.int (a4.toNat:Int)];rw[Int.toNat_of_nonneg a40]
     ·rcases mem_append.mp hv' with h|h
      ·exact hv v h
      ·rw[List.mem_singleton.mp h];omega
    rintro zs σ' HD0 ⟨_,lev,rfl,hl,hv,MD0⟩ lv hlv;rw[toNat_natCast]at hl;have MD:=(MD0.same (Same.new (o:=.lst (lev.map natV)) hlv)).mono (M':=N+14+63*(i+1)) (by rw[toNat_natCast];omega) (le_refl _);have glv:=z6 (H:=HD0) (a:=lv) (o:=.lst (lev.map natV));have nlv:lv≠la/\lv≠ra:=⟨(fun z=>by rw[z,MD0.gl]at hlv;cases hlv),(fun z=>by rw[z,MD0.gr]at hlv;cases hlv)⟩;generalize upd HD0 lv (.lst (lev.map natV))=HD at MD glv;have skip:∀(w7 w8 w9 w10 w11 w12 w13:Option V),∃(oa' ta':Addr)(xs' ys':List V)(ds':List LD)(v7 v8 v9 v10 v11 v12 v13:Option V),[some (V.ref st),some (.int topp),some (.int (n:Int)),some (.ref oa),some (.ref ta),some (.ref la),some (.ref ra),w7,w8,w9,w10,w11,w12,w13]=[some (V.ref st),some (.int topp),some (.int (n:Int)),some (.ref oa'),some (.ref ta'),some (.ref la),some (.ref ra),v7,v8,v9,v10,v11,v12,v13]/\MatI H HD st ga ca (N+14+63*(i+1)) n (i+1) oa' ta' la ra xs' ys' ds' :=
     fun w7 w8 w9 w10 w11 w12 w13=>⟨oa,ta,xs,ys,ds,w7,w8,w9,w10,w11,w12,w13,rfl,MD.mono (le_refl _) (by omega)⟩
    refine⟨_,rfl,_,rfl,la,_,rfl,.inl (SqL.of MD.gl),rfl,j6 _,_,rfl,?_⟩;rw[if_pos rfl,inV_ints];by_cases h1:(L:Int)∈ds.flatMap LD.lparts
    ·rw[decide_eq_true h1];exact iteF (iteF (skip _ _ _ _ _ _ _))
    rw[decide_eq_false h1];refine iteT ⟨_,rfl,_,rfl,ra,_,rfl,.inl (SqL.of MD.gr),rfl,j6 _,_,rfl,?_⟩;rw[if_pos rfl,inV_ints];by_cases h2:(R:Int)∈ds.flatMap LD.rparts
    ·rw[decide_eq_true h2];exact iteF (skip _ _ _ _ _ _ _)
    rw[decide_eq_false h2];refine iteT ?_;have ll:(ds.flatMap LD.lparts).length<=4:=by
     have:=yM LD.lparts 1 ds (fun d _=>by simp[LD.lparts]);have:=MD.ld.few;omega
    have rl:(ds.flatMap LD.rparts).length<=8:=by
     have:=yM LD.rparts 2 ds (fun d _=>by unfold LD.rparts;split <;>simp);have:=MD.ld.few;omega
    refine⟨_,rfl,.inl ⟨rfl,_,SqL.of MD.gl⟩,_,rfl,la,_,_,rfl,rfl,MD.gl,by rw[length_map];exact lt_of_le_of_lt ll (by decide),?_⟩;have KE:Keep [la,ra] HD (upd HD la (.lst ((ds.flatMap LD.lparts).map V.int++[V.int (L:Int)]))):=Keep.set (by simp);have gr1:upd HD la (.lst ((ds.flatMap LD.lparts).map V.int++[V.int (L:Int)])) ra=some (.lst ((ds.flatMap LD.rparts).map V.int)):=by rw[zh nlr.symm];exact MD.gr
    have gl1:=z6 (H:=HD) (a:=la) (o:=.lst ((ds.flatMap LD.lparts).map V.int++[V.int (L:Int)]));generalize upd HD la (.lst ((ds.flatMap LD.lparts).map V.int++[V.int (L:Int)]))=HE at KE gr1 gl1;refine⟨_,rfl,.inl ⟨rfl,_,SqL.of gr1⟩,_,rfl,ra,_,_,rfl,rfl,gr1,by rw[length_map];exact lt_of_le_of_lt rl (by decide),?_⟩;have KF:Keep [la,ra] HD (upd HE ra (.lst ((ds.flatMap LD.rparts).map V.int++[V.int (R:Int)]))):=KE.trans (Keep.set (by simp));have gl2:upd HE ra (.lst ((ds.flatMap LD.rparts).map V.int++[V.int (R:Int)])) la=some (.lst ((ds.flatMap LD.lparts).map V.int++[V.int (L:Int)])):=by rw[zh nlr];exact gl1
    have gr2:=z6 (H:=HE) (a:=ra) (o:=.lst ((ds.flatMap LD.rparts).map V.int++[V.int (R:Int)]));generalize upd HE ra (.lst ((ds.flatMap LD.rparts).map V.int++[V.int (R:Int)]))=HF at KF gl2 gr2;dsimp only[tNext,jL];refine kh (fun σ' H'=>σ'=[some (.ref st),some (.int topp),some (.int (n:Int)),some (.ref oa),some (.ref ta),some (.ref la),some (.ref ra),some (.int (0+(i:Int))),some (.int (L:Int)),some (.int (R:Int)),some (.bl sp),some (.ref lv),v12,v13]/\Keep [la,ra] HD H'/\H' la=some (.lst ((ds.flatMap LD.lparts).map V.int++[V.int (L:Int)]))/\H' ra=some (.lst ((ds.flatMap LD.rparts).map V.int++(if sp then [V.int (R:Int),V.int (L:Int)]else [V.int (R:Int)])))) (fun nx hnx=>?_) ?_
    ·refine⟨_,rfl,sp,rfl,?_⟩;cases sp with
     |false=>exact iteF (hnx _ _ ⟨rfl,KF,gl2,gr2⟩)
     |true =>
      refine iteT ⟨_,rfl,.inl ⟨rfl,_,SqL.of gr2⟩,_,rfl,ra,_,_,rfl,rfl,gr2,?_,hnx _ _ ⟨rfl,KF.trans (Keep.set (by simp)),by rw[zh nlr];exact gl2,?_⟩⟩
      ·rw[length_append,length_map];exact lt_of_le_of_lt (show(ds.flatMap LD.rparts).length+1<=9 by omega) (by decide)
      ·rw[z6,append_assoc];rfl
    rintro σ2 HG ⟨rfl,KG,gl3,gr3⟩;have glvG:HG lv=some (.lst (lev.map natV)):=KG.at glv (by simp[nlv.1,nlv.2]);refine⟨_,rfl,_,rfl,_,rfl,_,rfl,L,R,sp,lv,lev,rfl,glvG,hb,fun z=>⟨Nat.mul_div_cancel' (Nat.dvd_of_mod_eq_zero (hsp z).1.1),(hsp z).1.2⟩,by omega,hv,fun p o1 o2 xs' ys' m k' HI hp h1' h2' okD A1 A2 sI=>?_⟩;refine⟨p,_,rfl,SqT.of hp,rfl,_,_,rfl,_,_,rfl,rfl,?_⟩;generalize hd:(⟨L,R,m,k',sp,lev⟩:LD)=d at okD A1 A2;have hdl:d.lev=lev:=by rw[<-hd]
    have w4:∀a∈[la,ra],a∈[st,ga,la,ra]:=fun a ha=>mem_cons_of_mem _ (mem_cons_of_mem _ ha);have KI:Keep [la,ra] HD HI:=KG.trans sI.keep;have AXa:=MD.ax.mvN (KI.wide w4);have AYa:=MD.ay.mvN (KI.wide w4);have n2:∀q,q∉[st,ga,la,ra]->q∉[la,ra]:=fun q hq z=>hq (w4 q z);have Ga:=KI.at MD.go (n2 _ MD.no);have Gb:=KI.at MD.gt (n2 _ MD.nt);have SI:StAt HI st ga ca (N+14+63*(i+1)):=by
     obtain⟨⟨gs,cs,q0,nn,c1,c2,c3,c4⟩,c5,c6,c7⟩:=MD.sa;have na:∀x∈[st,ga,ca],x∉[la,ra]:=fun x hx z=>by
      simp only[mem_cons,not_mem_nil,or_false]at z;rcases z with rfl|rfl
      ·exact nla hx
      ·exact nra3 hx
     exact⟨⟨gs,cs,q0,nn,KI.at c1 (na _ (by simp)),KI.at c2 (na _ (by simp)),KI.at c3 (na _ (by simp)),c4⟩,c5,c6,c7⟩
    have gl4:=sI _ _ gl3;have gr4:=sI _ _ gr3;have nin4':∀{q:Addr},HI q=none->q∉[st,ga,la,ra]:=fun{q} hq z=>by
     have h2:=SI.nin hq;simp only[mem_cons,not_mem_nil,or_false]at z h2;rcases z with rfl|rfl|rfl|rfl
     ·exact h2 (.inl rfl)
     ·exact h2 (.inr rfl)
     ·rw[gl4]at hq;cases hq
     ·rw[gr4]at hq;cases hq
    have hv2L:∀{j v:Nat},lev[j]? =some v->d.at j=v:=fun{j v} h=>LD.at_some (by rw[hdl];exact h);have Ba:∀j v,lev[j]? =some v->(lefH ds j++d.lrow v).length<=sizeLine:=fun j v hv'=>by
     rw[length_append];have e1:=lrows_len (MD.ld.lds (by omega)) j;have e2:=LD.lrow_len okD (hv v (mem_of_getElem? hv'));exact le_trans (m:=100) (by omega) (by decide)
    refine⟨_,rfl,_,rfl,oa,o1,rfl,⟨_,SqL.of Ga⟩,⟨_,SqL.of h1'⟩,comp_zip (xs:=xs) (ys:=xs') (fun j zs σ' H'=>Same HI H'/\(∃v w,σ'=[v,w])/\All2 (LstN [st,ga,la,ra]) H' (((List.range n).take j).map fun j=>lefH (ds++[d]) j) zs/\j<=n) ⟨Same.refl _,⟨_,_,rfl⟩,.nil,zero_le _⟩ ?_ ?_ ?_⟩
    ·rintro j zs σ' H' hj ⟨s',_,a',hj'⟩;refine⟨SqL.of (s' _ _ Ga),SqL.of (s' _ _ h1'),?_⟩;rw[<-a'.length,length_map,length_take];exact yR (by omega)
    ·rintro j x y zs σ' H' T' hx hy ⟨s',⟨v,w',rfl⟩,a',hj'⟩ hT;obtain⟨row,hrow,q,rfl,nq,gq⟩:=AXa.get hx;obtain⟨row2,hrow2,q',rfl,gq'⟩:=A1.get hy;have hj:j<n:=by
      have:=(List.getElem?_eq_some_iff.mp hrow).1;rw[length_map,List.length_range]at this;exact this
     rw[getElem?_map,List.getElem?_range hj]at hrow;have er:lefH ds j=row:=Option.some.inj hrow;rw[getElem?_map]at hrow2;obtain⟨v2,hv2,er2⟩:∃v2,lev[j]? =some v2/\d.lrow v2=row2:=by
      cases e:lev[j]? with
      |none=>rw[e]at hrow2;cases hrow2
      |some v2=>rw[e]at hrow2;exact⟨v2,rfl,Option.some.inj hrow2⟩
     have hbl:=Ba j v2 hv2;rw[er,er2,length_append]at hbl;have sT:=s'.trans (Same.new (o:=.tup [V.ref q,V.ref q']) hT);refine⟨T',_,rfl,SqT.of z6,rfl,_,_,rfl,_,_,rfl,rfl,?_⟩;refine⟨_,rfl,_,rfl,q,q',_,_,rfl,rfl,sT _ _ gq,sT _ _ gq',by rw[length_map,length_map];exact hbl,fun z hz=>⟨sT.trans (Same.new hz),⟨_,_,rfl⟩,?_,hj⟩⟩;rw[take_succ,List.getElem?_range hj,map_append];refine(a'.mvN ((Same.new (o:=.tup [V.ref q,V.ref q']) hT).trans (Same.new hz)).keep).snoc ⟨z,rfl,nin4' (sT.free hz),?_⟩;rw[z6];show _=some (HO.lst ((lefH (ds++[d]) j).map V.int));rw[lef_snoc,hv2L hv2,er,er2,map_append]
    rintro zs1 σ' HJ ⟨sa',_,aa',_⟩ oa2 hoa2;have ela:min xs.length xs'.length=n/\min ys.length ys'.length=n:=by
     rw[<-MD.ax.length,<-MD.ay.length,<-A1.length,<-A2.length,length_map,length_map,length_map,length_map,List.length_range,hl];simp
    rw[ela.1,take_of_length_le (by rw[List.length_range];exact le_refl _)]at aa';have sJ:=sa'.trans (Same.new (o:=.lst zs1) hoa2);have goa2:=z6 (H:=HJ) (a:=oa2) (o:=.lst zs1);have az1:=aa'.mvN (Same.new (o:=.lst zs1) hoa2).keep;have noa2:=nin4' (sa'.free hoa2);generalize upd HJ oa2 (.lst zs1)=HK at sJ goa2 az1;have AYK:=AYa.mvN sJ.keep;have A2K:=A2.mvI sJ;have GbK:=sJ _ _ Gb;have g2K:=sJ _ _ h2';have Bb:∀j v,lev[j]? =some v->(rigH ds j++d.rrow v).length<=sizeLine:=fun j v hv'=>by
     rw[length_append];have e1:=lrows_len (MD.ld.lds (by omega)) j;have e2:=LD.rrow_len okD (hv v (mem_of_getElem? hv'));exact le_trans (m:=100) (by omega) (by decide)
    refine⟨_,rfl,_,rfl,ta,o2,rfl,⟨_,SqL.of GbK⟩,⟨_,SqL.of g2K⟩,comp_zip (xs:=ys) (ys:=ys') (fun j zs σ' H'=>Same HK H'/\(∃v w,σ'=[v,w])/\All2 (LstN [st,ga,la,ra]) H' (((List.range n).take j).map fun j=>rigH (ds++[d]) j) zs/\j<=n) ⟨Same.refl _,⟨_,_,rfl⟩,.nil,zero_le _⟩ ?_ ?_ ?_⟩
    ·rintro j zs σ' H' hj ⟨s',_,a',hj'⟩;refine⟨SqL.of (s' _ _ GbK),SqL.of (s' _ _ g2K),?_⟩;rw[<-a'.length,length_map,length_take];exact yR (by omega)
    ·rintro j x y zs σ' H' T' hx hy ⟨s',⟨v,w',rfl⟩,a',hj'⟩ hT;obtain⟨row,hrow,q,rfl,nq,gq⟩:=AYK.get hx;obtain⟨row2,hrow2,q',rfl,gq'⟩:=A2K.get hy;have hj:j<n:=by
      have:=(List.getElem?_eq_some_iff.mp hrow).1;rw[length_map,List.length_range]at this;exact this
     rw[getElem?_map,List.getElem?_range hj]at hrow;have er:rigH ds j=row:=Option.some.inj hrow;rw[getElem?_map]at hrow2;obtain⟨v2,hv2,er2⟩:∃v2,lev[j]? =some v2/\d.rrow v2=row2:=by
      cases e:lev[j]? with
      |none=>rw[e]at hrow2;cases hrow2
      |some v2=>rw[e]at hrow2;exact⟨v2,rfl,Option.some.inj hrow2⟩
     have hbl:=Bb j v2 hv2;rw[er,er2,length_append]at hbl;have sT:=s'.trans (Same.new (o:=.tup [V.ref q,V.ref q']) hT);refine⟨T',_,rfl,SqT.of z6,rfl,_,_,rfl,_,_,rfl,rfl,?_⟩;refine⟨_,rfl,_,rfl,q,q',_,_,rfl,rfl,sT _ _ gq,sT _ _ gq',by rw[length_map,length_map];exact hbl,fun z hz=>⟨sT.trans (Same.new hz),⟨_,_,rfl⟩,?_,hj⟩⟩;rw[take_succ,List.getElem?_range hj,map_append];refine(a'.mvN ((Same.new (o:=.tup [V.ref q,V.ref q']) hT).trans (Same.new hz)).keep).snoc ⟨z,rfl,nin4' ((sJ.trans sT).free hz),?_⟩;rw[z6];show _=some (HO.lst ((rigH (ds++[d]) j).map V.int));rw[rig_snoc,hv2L hv2,er,er2,map_append]
    rintro zs2 σ' HL ⟨sb',_,ab',_⟩ ta2 hta2;have elb:min xs.length xs'.length=n/\min ys.length ys'.length=n:=by
     rw[<-MD.ax.length,<-MD.ay.length,<-A1.length,<-A2.length,length_map,length_map,length_map,length_map,List.length_range,hl];simp
    rw[elb.2,take_of_length_le (by rw[List.length_range];exact le_refl _)]at ab';have sL:=sb'.trans (Same.new (o:=.lst zs2) hta2);have gta2:=z6 (H:=HL) (a:=ta2) (o:=.lst zs2);have az2:=ab'.mvN (Same.new (o:=.lst zs2) hta2).keep;have nta2:=nin4' ((sJ.trans sb').free hta2);generalize upd HL ta2 (.lst zs2)=HM at sL gta2 az2;have sIM:=sJ.trans sL;have eLp:d.L=L/\d.R=R/\d.sp=sp:=by rw[<-hd];exact⟨rfl,rfl,rfl⟩
    refine⟨oa2,ta2,zs1,zs2,ds++[d],_,_,_,_,_,_,_,rfl,⟨sL _ _ goa2,gta2,az1.mvN sL.keep,az2,?_,?_,MD.ld.snoc okD (by rw[hdl];exact hl) (by rw[eLp.1];exact h1) (by rw[eLp.2.1];exact h2) (fun z=>by rw[eLp.1];exact(hsp (by rw[<-eLp.2.2];exact z)).2),noa2,nta2,SI.same sIM,fun b o e hn=>sIM _ _ (KI _ _ (MD.kp _ _ e hn) (nin_two' ela0 era e))⟩⟩
    ·rw[sIM _ _ gl4,List.flatMap_append,map_append];simp only[List.flatMap_cons,List.flatMap_nil,LD.lparts,eLp.1,append_nil,map_cons,List.map_nil]
    ·rw[sIM _ _ gr4,List.flatMap_append,map_append];simp only[List.flatMap_cons,List.flatMap_nil,LD.rparts,eLp.1,eLp.2.1,eLp.2.2,append_nil];cases sp <;>rfl
  ·clear M0 M7 goa goa5 gta gla gra noa nta;rintro σ' H' ⟨oa,ta,xs,ys,ds,v7,v8,v9,v10,v11,v12,v13,rfl,M⟩;have hL:=M.ld.lds (show(1+lanes).toNat<=4 by omega);have mt:=matched_of hL;have rl:=rows_60 hL;dsimp only[tNext,jL];refine kh (fun σ' H'=>∃(oa ta:Addr)(xs ys:List V)(r1 r2:List (List Int)),σ'=[some (.ref st),some (.int topp),some (.int (n:Int)),some (.ref oa),some (.ref ta),some (.ref la),some (.ref ra),v7,v8,v9,v10,v11,v12,v13]/\H' oa=some (.lst xs)/\H' ta=some (.lst ys)/\All2 Lst1 H' r1 xs/\All2 Lst1 H' r2 ys/\(∀r∈r1,r.length<=60)/\(∀r∈r2,r.length<=60)/\r1.length<=60/\r2.length<=60/\Matched (r1.map jF) (r2.map jF) n/\StAt H' st ga ca (N+1000)/\Keep [st,ga] H H') (fun nx hnx=>?_) ?_
   ·refine⟨_,rfl,st,ga,ca,_,2,rfl,M.sa,by omega,by decide,by decide,fun r H8 r0 r1 S8 K8=>⟨rfl,_,rfl,?_⟩⟩;have M8:=M.drawn nla nra3 S8 K8;have e1:((List.range n).map (lefH ds)).map jF=sideR lefH ds n:=by rw[map_map];rfl
    have e2:((List.range n).map (rigH ds)).map jF=sideR rigH ds n:=by rw[map_map];rfl
    have b1:∀r∈(List.range n).map (lefH ds),r.length<=60:=fun r hr'=>by
     obtain⟨j,_,rfl⟩:=mem_map.mp hr';exact(rl j).1
    have b2:∀r∈(List.range n).map (rigH ds),r.length<=60:=fun r hr'=>by
     obtain⟨j,_,rfl⟩:=mem_map.mp hr';exact(rl j).2
    have ln:∀f:Nat->List Int,((List.range n).map f).length<=60:=fun f=>by rw[length_map,List.length_range];omega
    have S9:=M8.sa.mono (show _<=N+1000 by omega);refine ite2 (fun _=>?_) (fun _=>hnx _ _ ⟨oa,ta,xs,ys,_,_,rfl,M8.go,M8.gt,M8.ax.toL,M8.ay.toL,b1,b2,ln _,ln _,by rw[e1,e2];exact mt,S9,M8.kp⟩);exact⟨_,rfl,_,rfl,_,_,rfl,hnx _ _ ⟨ta,oa,ys,xs,_,_,rfl,M8.gt,M8.go,M8.ay.toL,M8.ax.toL,b2,b1,ln _,ln _,by rw[e1,e2];exact mt.swap,S9,M8.kp⟩⟩
   ·rintro σ2 H8 ⟨oa,ta,xs,ys,r1,r2,rfl,g1,g2,a1,a2,b1,b2,l1,l2,mm,S9,K9⟩;refine⟨_,rfl,oa,xs,r1,rfl,g1,a1,(fun r hr=>lt_of_le_of_lt (b1 r hr) (by decide)),l1,fun p1 rs HA gA aA sA=>?_⟩;refine⟨_,rfl,ta,ys,r2,rfl,sA _ _ g2,a2.mvI sA,(fun r hr=>lt_of_le_of_lt (b2 r hr) (by decide)),l2,fun p2 qs HB gB aB sB=>?_⟩;refine⟨by show 2<=sizeLine;decide,fun p hp=>?_⟩;have sC:=Same.new (o:=.tup [V.ref p1,V.ref p2]) hp;have s8:=sA.trans (sB.trans sC);exact k p p1 p2 rs qs _ _ n _ z6 (sC _ _ (sB _ _ gA)) (aA.mv (sB.trans sC).tups) (sC _ _ gB) (aB.mv sC.tups) mm (sort_60 b1) (sort_60 b2) (by omega) (S9.same s8) (K9.trans s8.keep)
def n__law_name:List Str:=["_law_state","_law_known","_law_name_here","_law_k"]
theorem zP:FnScope n__law_name ["_law_state","_law_known"] (z8 s__law_name):=FS
inductive sp_name(vs:List V)(H:Hp)(Q:VK)(E:XK):Prop
 |mk (st ga ca:Addr) (N:Nat) (kl:Addr) (known:List Str):vs=[.ref st,.ref kl]->StAt H st ga ca N->N<=10^6->H kl=some (.lst (known.map V.str))->kl∉[st,ga]->known.length<=20->(∀n∈known,zO n=true)->(∀(n:Str)(H':Hp),zO n=true->n∉known->StAt H' st ga ca (N+100)->Keep [st,ga] H H'->Q (.str n) H')->sp_name vs H Q E
theorem ok__law_name(T:Txt P w K mg A):FnOk P w K mg base CX0 4 A.a6 A.f6 ["_law_state","_law_known"] sp_name:=by
 refine T.x6.F.ok zP (by walk_at "n") fun _ _ _ s H vs Q E hr h=>?_
 ·obtain⟨st,ga,ca,N,kl,known,rfl,S,hN,hk,nk,lk,hb,k⟩:=h;refine⟨_,(z7 (pset 2 zP.nd zK)
    (z7 (zD (PW.pt (pw_and (zG (pv 1) (fun _=>rfl)) (pw_and1 (zi yO (pcl (zF T) hr T.x2 (pa2 (pv 0) zc)) zc (zr _)))))
     (z9 (pset 2 zP.nd (jt sl_strX (pix zA (pv 1) (pe_un un_neg zc)) po_none (po_some zc)))) zk)
    (z7 (yo PassesOwn.never rfl (kJ rfl T.w9 (pa1 (zw kH zc (pcl (zF T) hr T.x2 (pa2 (pv 0) zc))))) (pgn 3 zP.nd)
     (z9 (ps_aug (i:=2) zP.nd rfl (by first|exact Or.inl rfl|exact Or.inr rfl) (pix ix_str zK (pcl (zF T) hr T.x2 (pa2 (pv 0) zc))) ip_addS)))
    (z7 (zD (zi yO (pcl (zF T) hr T.x2 (pa2 (pv 0) zc)) zc (zr _))
     (z9 (pset 2 zP.nd (jt sl_strX (zw j3 (pv 2) zK) po_none (po_some zc)))) zk)
    (z7 (zD (PW.pt (pw_and (zG (pv 1) (fun _=>rfl)) (pw_and (zi yO (zq yd rfl T.w5 PySem.boot_len (pa1 (pix zA (pv 1) (pe_un un_neg zc)))) zc (zr _)) (pw_and1 (zi yO (pcl (zF T) hr T.x2 (pa2 (pv 0) zc)) zc (zr _))))))
     (z9 (pset 2 zP.nd (zw j3 (jt sl_strX (pix zA (pv 1) (pe_un un_neg zc)) po_none (po_some zc)) (pix ix_str zK (pcl (zF T) hr T.x2 (pa2 (pv 0) zc)))))) zk)
    (z7 (yo PassesOwn.never rfl (kJ rfl T.w9 (pa1 (zw kH (zq zp rfl T.w5 PySem.boot_len (pa1 (pv 1))) zc))) (pgn 3 zP.nd)
     (z9 (zD (zi op_in_seq (pv 2) (pv 1) rfl)
     (z9 (pset 2 zP.nd (jt sl_strX (zw j3 (pv 2) zK) (po_some (pe_un un_neg zc)) po_none))) zk)))
    (z7 (yo PassesOwn.never rfl (kJ rfl T.w9 (pa1 (zw kH (zq zp rfl T.w5 PySem.boot_len (pa1 (pv 1))) zc))) (pgn 3 zP.nd)
     (z9 (zD (zi op_in_seq (pv 2) (pv 1) rfl)
     (z9 (pset 2 zP.nd (zw j3 zK (pix ix_str zK (pv 3))))) zk)))
    (z9 (zj (pv 2)))))))))),?_⟩
  have last:known≠[]-> ∃y,y∈known/\atI (known.map V.str) (-1)=some (.str y):=fun h=>by
   refine⟨known.getLast h,List.getLast_mem h,atI_end ?_⟩;rw[List.getLast?_map,List.getLast?_eq_some_getLast h];rfl
  have nolet:LetS (Str.ofString ""):=fun c hc=>by rw[show(Str.ofString "").cps.toList=[]by decide+kernel]at hc;cases hc
  have nem:known≠[]->true= !(known.map V.str).isEmpty:=fun h=>by cases known with|nil=>exact absurd rfl h|cons _ _=>rfl
  have l26:letters.length<=sizeLine:=le_trans (m:=26) (by decide+kernel) (by decide);have bnd:∀{x y:Str},x.length<=20->y.length<=20->x.length+y.length<=sizeLine:=fun h1 h2=>le_trans (m:=40) (by omega) (by decide);have bnd1:∀{x:Str},x.length<=40->x.length<=sizeLine:=fun h1=>le_trans h1 (by decide);refine kh (fun σ' H'=>σ'=[some (.ref st),some (.ref kl),some (.str (Str.ofString "")),none]/\H=H') (fun nx hnx=>hnx _ _ ⟨rfl,rfl⟩) ?_;rintro _ _ ⟨rfl,rfl⟩;refine kh (fun σ' H'=>∃ z:Str,σ'=[some (.ref st),some (.ref kl),some (.str z),none]/\LetS z/\z.length<=4/\StAt H' st ga ca (N+7)/\Keep [st,ga] H H') (fun nx hnx=>?_) ?_
  ·have skp:∀H' M,StAt H' st ga ca M->M<=N+7->Keep [st,ga] H H'->nx [some (.ref st),some (.ref kl),some (.str (Str.ofString "")),none] H':=fun H' M S' hM K'=>hnx _ _ ⟨Str.ofString "",rfl,nolet,by decide+kernel,S'.mono hM,K'⟩;by_cases h0:known=[]
   ·refine⟨_,rfl,false,.inl ⟨_,SqL.of hk,by subst h0;rfl⟩,iteF (skp _ _ S (by simp) (Keep.refl _ _))⟩
   refine⟨_,rfl,true,.inl ⟨_,SqL.of hk,nem h0⟩,iteT ?_⟩;refine⟨_,rfl,st,ga,ca,N,2,rfl,S,by omega,by decide,by decide,fun r H1 r0 r1 S1 K1=>?_⟩;refine⟨rfl,_,rfl,ite2 (fun _=>?_) (fun _=>skp _ _ S1 (by simp) K1)⟩;obtain⟨y,hy,ey⟩:=last h0;have yl:=yD (hb y hy);refine⟨_,rfl,_,rfl,kl,_,_,_,rfl,rfl,SqL.of (K1.at hk nk),ey,?_⟩;dsimp only[wg,tNil];refine⟨4,rfl,y,rfl,bnd1 (by omega),hnx _ _ ⟨_,rfl,(isName_let (hb y hy)).to 4,?_,S1,K1⟩⟩;rw[show(some (4:Int))=some ((4:Nat):Int)from rfl,dlen_to];omega
  rintro _ H1 ⟨z1,rfl,hz1,lz1,S1,K1⟩;refine kh (fun σ' H'=>∃(z:Str)(v:Option V),σ'=[some (.ref st),some (.ref kl),some (.str z),v]/\LetS z/\1<=z.length/\z.length<=7/\StAt H' st ga ca (N+35)/\Keep [st,ga] H H') (fun nx hnx=>?_) ?_
  ·refine⟨_,rfl,st,ga,ca,_,3,rfl,S1,by omega,by decide,by decide,fun r H2 r0 r1 S2 K2=>?_⟩;obtain⟨j,rfl⟩:∃j:Nat,r=(j:Int):=⟨r.toNat,by omega⟩;have ej:((1:Int)+(j:Int)).toNat=j+1:=by omega
   refine⟨_,_,rfl,rfl,_,rfl,by omega,by omega,?_⟩;rw[ej];refine jK (n:=j+1) (fun i σ' H'=>∃(z:Str)(v:Option V),σ'=[some (.ref st),some (.ref kl),some (.str z),v]/\LetS z/\z.length=z1.length+i/\StAt H' st ga ca (N+14+7*i)/\Keep [st,ga] H H') ⟨z1,_,rfl,hz1,rfl,S2.mono (by simp),K1.trans K2⟩ ?_ ?_
   ·rintro i σ' H' hi ⟨z,v,rfl,hz,ez,S',K'⟩;refine⟨_,rfl,_,rfl,st,ga,ca,_,26,rfl,S',by omega,by decide,by decide,fun r H3 r0 r1 S3 K3=>?_⟩;obtain⟨c,e1,c0,c1,_⟩:=letter_at r0 r1;refine⟨letters,r,c,rfl,rfl,l26,e1,?_⟩;have lc:(⟨#[c]⟩:Str).length=1:=rfl;refine⟨z,_,rfl,rfl,bnd (by omega) (by omega),z++⟨#[c]⟩,_,rfl,hz.app (LetS.one ⟨c0,c1⟩),by rw[yC,lc];omega,S3.mono (by omega),K'.trans K3⟩
   ·rintro σ' H' ⟨z,v,rfl,hz,ez,S',K'⟩;exact hnx _ _ ⟨z,v,rfl,hz,by omega,by omega,S'.mono (by omega),K'⟩
  rintro _ H2 ⟨z2,v2,rfl,hz2,l2,m2,S2,K2⟩;refine kh (fun σ' H'=>∃(z:Str),σ'=[some (.ref st),some (.ref kl),some (.str z),v2]/\zO z=true/\StAt H' st ga ca (N+42)/\Keep [st,ga] H H') (fun nx hnx=>?_) ?_
  ·refine⟨_,rfl,st,ga,ca,_,6,rfl,S2,by omega,by decide,by decide,fun r H3 r0 r1 S3 K3=>?_⟩;refine⟨rfl,_,rfl,ite2 (fun _=>?_) (fun _=>hnx _ _ ⟨z2,rfl,isName_of hz2 l2 (by omega),S3.mono (by simp),K2.trans K3⟩)⟩;have l8:(Str.ofString "mnopqrst").length=8:=by decide+kernel
   have hm:LetS (Str.ofString "mnopqrst"):=((kn _).mp (by decide+kernel)).2;refine⟨_,rfl,_,_,rfl,rfl,bnd (by omega) (by omega),?_⟩;dsimp only[wg,tNil];refine⟨8,rfl,_,rfl,bnd1 (by rw[yC];omega),hnx _ _ ⟨_,rfl,isName_of ((hz2.app hm).to 8) ?_ ?_,S3.mono (by simp),K2.trans K3⟩⟩
   ·rw[show(some (8:Int))=some ((8:Nat):Int)from rfl,dlen_to,yC];omega
   ·rw[show(some (8:Int))=some ((8:Nat):Int)from rfl,dlen_to,yC];omega
  rintro _ H3 ⟨z3,rfl,hz3,S3,K3⟩;refine kh (fun σ' H'=>∃(z:Str),σ'=[some (.ref st),some (.ref kl),some (.str z),v2]/\zO z=true/\StAt H' st ga ca (N+56)/\Keep [st,ga] H H') (fun nx hnx=>?_) ?_
  ·by_cases h0:known=[]
   ·refine⟨_,rfl,false,.inl ⟨_,SqL.of (K3.at hk nk),by subst h0;rfl⟩,iteF (hnx _ _ ⟨z3,rfl,hz3,S3.mono (by simp),K3⟩)⟩
   obtain⟨y,hy,ey⟩:=last h0;have yl:=yD (hb y hy);refine⟨_,rfl,true,.inl ⟨_,SqL.of (K3.at hk nk),nem h0⟩,iteT ?_⟩;refine⟨_,rfl,_,rfl,kl,_,_,_,rfl,rfl,SqL.of (K3.at hk nk),ey,y,rfl,bnd1 (by omega),rfl,_,rfl,?_⟩;refine ite2 (fun e8=>?_) (fun _=>iteF (hnx _ _ ⟨z3,rfl,hz3,S3.mono (by simp),K3⟩));refine⟨_,rfl,st,ga,ca,_,2,rfl,S3,by omega,by decide,by decide,fun r H4 r0 r1 S4 K4=>?_⟩;refine⟨rfl,_,rfl,ite2 (fun _=>?_) (fun _=>hnx _ _ ⟨z3,rfl,hz3,S4.mono (by simp),K3.trans K4⟩)⟩;refine⟨_,rfl,_,rfl,kl,_,_,_,rfl,rfl,SqL.of (K4.at (K3.at hk nk) nk),ey,?_⟩;dsimp only[wg,tNil];refine⟨7,rfl,y,rfl,bnd1 (by omega),?_⟩;refine⟨_,rfl,st,ga,ca,_,26,rfl,S4,by omega,by decide,by decide,fun r H5 r0 r1 S5 K5=>?_⟩;obtain⟨c,e1,c0,c1,_⟩:=letter_at r0 r1;have lc:(⟨#[c]⟩:Str).length=1:=rfl;have l7:(Txt.slice y none (some (7:Int))).length<=7:=by rw[show(some (7:Int))=some ((7:Nat):Int)from rfl,dlen_to];omega
   refine⟨letters,r,c,rfl,rfl,l26,e1,_,_,rfl,rfl,bnd (by omega) (by omega),hnx _ _ ⟨_,rfl,isName_of (((isName_let (hb y hy)).to 7).app (LetS.one ⟨c0,c1⟩)) (by rw[yC,lc];omega) (by rw[yC,lc];exact Nat.succ_le_succ l7),S5.mono (by simp),(K3.trans K4).trans K5⟩⟩
  rintro _ H4 ⟨z4,rfl,hz4,S4,K4⟩;have hk4:=K4.at hk nk;have hkl:(known.map V.str).length=known.length:=length_map _;refine kh (fun σ' H'=>∃(z:Str)(v:Option V),σ'=[some (.ref st),some (.ref kl),some (.str z),v]/\zO z=true/\H4=H') (fun nx hnx=>?_) ?_
  ·refine⟨_,rfl,kl,_,rfl,.inl (SqL.of hk4),_,_,rfl,rfl,_,rfl,by omega,by omega,?_⟩;rw[show(((known.map V.str).length:Int)+1).toNat=known.length+1 by simp];refine jK (n:=known.length+1) (fun i σ' H'=>∃(z:Str)(v:Option V),σ'=[some (.ref st),some (.ref kl),some (.str z),v]/\zO z=true/\H4=H') ⟨z4,_,rfl,hz4,rfl⟩ ?_ ?_
   ·rintro i σ' H' hi ⟨z,v,rfl,hz,rfl⟩;refine⟨_,rfl,_,rfl,kl,_,rfl,.inl (SqL.of hk4),rfl,flat_strs known,_,rfl,?_⟩;refine ite2 (fun _=>?_) (fun _=>⟨z,_,rfl,hz,rfl⟩);have l1:(Str.ofString "q").length=1:=by decide+kernel
    have hq:LetS (Str.ofString "q"):=((kn _).mp (by decide+kernel)).2;have zl:=yD hz;refine⟨_,rfl,_,_,rfl,rfl,bnd (by omega) (by omega),_,rfl,_,rfl,?_⟩;dsimp only[wg,tNil];refine⟨_,rfl,bnd1 (by rw[yC];omega),_,_,rfl,isName_of (((isName_let hz).app hq).last 8 (by decide)) ?_ ?_,rfl⟩
    ·rw[show(some (-8:Int))=some (-((8:Nat):Int))from rfl,dlen_last _ 8 (by decide),yC];omega
    ·rw[show(some (-8:Int))=some (-((8:Nat):Int))from rfl,dlen_last _ 8 (by decide),yC];omega
   ·rintro σ' H' ⟨z,v,rfl,hz,rfl⟩;exact hnx _ _ ⟨z,v,rfl,hz,rfl⟩
  rintro _ _ ⟨z5,v5,rfl,hz5,rfl⟩;refine kh (fun σ' H'=>∃(z:Str)(v:Option V),σ'=[some (.ref st),some (.ref kl),some (.str z),v]/\zO z=true/\z∉known/\H4=H') (fun nx hnx=>?_) ?_
  ·refine⟨_,rfl,kl,_,rfl,.inl (SqL.of hk4),_,_,rfl,rfl,_,rfl,by omega,by omega,?_⟩;rw[show(((known.map V.str).length:Int)+1).toNat=known.length+1 by simp];refine jK (n:=known.length+1) (fun i σ' H'=>∃(z:Str)(v:Option V),σ'=[some (.ref st),some (.ref kl),some (.str z),v]/\zO z=true/\(z∈known-> ∀j,j<i->(j+1<i->zName j∈known)/\(j+1=i->z=zName j))/\H4=H') ⟨z5,_,rfl,hz5,fun _ j hj=>by simp,rfl⟩ ?_ ?_
   ·rintro i σ' H' hi ⟨z,v,rfl,hz,inv,rfl⟩;refine⟨_,rfl,_,rfl,kl,_,rfl,.inl (SqL.of hk4),rfl,flat_strs known,_,rfl,?_⟩;rw[if_neg (by decide),inV_str];refine ite2 (fun hin=>?_) (fun hin=>⟨z,_,rfl,hz,fun m=>absurd (decide_eq_true m) hin,rfl⟩);have hm:z∈known:=of_decide_eq_true hin;obtain⟨c,e1,c0,c1,ec⟩:=letter_at (r:=(i:Int)) (by simp) (by omega);refine⟨_,rfl,letters,_,c,rfl,rfl,l26,(by rw[show((0:Int)+(i:Int))=(i:Int)by simp];exact e1),?_⟩;have l7:(Str.ofString "zzzzzzz").length=7:=by decide+kernel
    refine⟨_,_,rfl,rfl,bnd (by omega) (show 1<=20 by decide),zName i,some (.int (0+(i:Int))),?_,zName_name (by omega),fun _ j hj=>⟨fun h1=>?_,fun h1=>?_⟩,rfl⟩
    ·rw[zName_eq ec];rfl
    ·by_cases e:j+1<i
     ·exact(inv hm j (by omega)).1 e
     ·rw[<-(inv hm j (by omega)).2 (by omega)];exact hm
    ·rw[show j=i by omega]
   ·rintro σ' H' ⟨z,v,rfl,hz,inv,rfl⟩;refine hnx _ _ ⟨z,v,rfl,hz,fun hm=>?_,rfl⟩;refine few_names (known:=known) fun i hi=>?_;by_cases e:i+1<known.length+1
    ·exact(inv hm i (by omega)).1 e
    ·rw[<-(inv hm i (by omega)).2 (by omega)];exact hm
  rintro _ _ ⟨z,v,rfl,hz,hn,rfl⟩;exact⟨_,rfl,k z H4 hz hn (S4.mono (by simp)) K4⟩
def n__law_heap_text:List Str:=["_law_heap_here"]
theorem sc__law_heap_text:FnScope n__law_heap_text ["_law_heap_here"] (z8 yp):=FS
inductive sp_lht(vs:List V)(H:Hp)(Q:VK)(E:XK):Prop
 |mk (a:Addr) (ns:List Int):vs=[.ref a]->H a=some (.tup (ns.map V.int))->ns.length<=64->(∀x∈ns,1<=x/\x<=10^60)->(∀(H':Hp),Same H H'->Q (.str (txt ns)) H')->sp_lht vs H Q E
theorem jN(T:Txt P w K mg A):FnOk P w K mg base CX0 1 A.a7 A.f7 ["_law_heap_here"] sp_lht:=by
 refine T.x7.F.ok sc__law_heap_text (by walk_at "n") fun _ _ _ s H vs Q E hr h=>?_
 ·obtain⟨a,ns,rfl,ha,hl,hb,k⟩:=h;refine⟨_,(z7 (zD (km (zG (pv 0) (fun _=>rfl)))
     (z9 (zj zK)) zk)
    (z9 (zj (yP PySem.F.plainAttrs_str PySem.F.slot_str_join PySem.F.type_str_join mt_join zK (pa1 (zY (ls:=["_law_part"]) (fr:=[]) (csf (z8 yp) n__law_heap_text) rfl (jP (pv 0)) (fun _ _ _ _=>pgc 0 (by decide+kernel) rfl rfl) (fun _ _ _ _=>yf) (fun _ _ _ _=>(zH yT (glc (z8 yp)) T.w11 boot_str (pa1 (pvc (z8 yp) 0)))))))))),?_⟩
  by_cases h0:ns=[]
  ·subst h0;exact⟨_,rfl,false,.inr (.inl ⟨_,SqT.of ha,rfl⟩),iteT (k H (Same.refl _))⟩
  ·have hne:ns≠[]:=h0;refine⟨_,rfl,true,.inr (.inl ⟨_,SqT.of ha,by cases ns with|nil=>exact absurd rfl hne|cons _ _=>rfl⟩),iteF ?_⟩;refine⟨rfl,_,rfl,a,rfl,⟨_,SqT.of ha⟩,comp_tup (xs:=ns.map V.int) (fun i ys σ' H'=>H'=H/\(∃v,σ'=[v])/\ys=((ns.take i).map numS).map V.str) ⟨rfl,⟨_,rfl⟩,rfl⟩ ?_ ?_ ?_⟩
   ·rintro i ys σ' H' hi ⟨rfl,_,rfl⟩;refine⟨SqT.of ha,?_⟩;rw[length_map,length_map,length_take];exact le_trans (Nat.min_le_right _ _) (le_trans hl (by decide))
   ·rintro i x ys σ' H' hx ⟨rfl,⟨v,rfl⟩,rfl⟩;obtain⟨z,hz,rfl⟩:=jr hx;have h1:=hb z (mem_of_getElem? hz);have hi:=(List.getElem?_eq_some_iff.mp hz).1;have ez:=(List.getElem?_eq_some_iff.mp hz).2;refine⟨_,rfl,z,rfl,numS_log (by omega) h1.2,rfl,⟨_,rfl⟩,?_⟩;rw[take_succ_eq_append_getElem hi,ez];simp[numS]
   ·rintro ys σ' H' ⟨rfl,_,rfl⟩ l hl0;rw[length_map,take_length];refine⟨_,l,ns.map numS,rfl,rfl,SqL.of z6,?_,?_⟩
    ·have h1:((ns.map numS).map (·.length)).sum<=ns.length*61:=by
      rw[map_map];refine sum_le fun x hx=>?_;show(numS x).length<=61;rw[yg];exact kD (by have:=hb x hx;omega) (by decide) (Int.lt_of_le_of_lt (hb x hx).2 (by decide))
     have h2:(Str.ofString " ").length=1:=by rw[jY];rfl
     rw[h2,length_map];omega
    ·have e:Txt.join (Str.ofString " ") (ns.map numS)=txt ns:=by unfold txt;rw[if_neg hne]
     rw[e];exact k _ (Same.new hl0)
def n__law_rule_text:List Str:=["_law_rule_here"]
theorem sc__law_rule_text:FnScope n__law_rule_text ["_law_rule_here"] (z8 yq):=FS
inductive sp_law_rule_text(vs:List V)(H:Hp)(Q:VK)(E:XK):Prop
 |mk (p:Addr) (rs:List (List Int)) (xs:List V):vs=[.ref p]->H p=some (.tup xs)->All2 Tup1 H rs xs->rs.length<=6->(∀r∈rs,r.length<=60/\ ∀x∈r,1<=x/\x<10^60)->(∀(H':Hp),Same H H'->Q (.str (rtxt rs)) H')->sp_law_rule_text vs H Q E
theorem jO(T:Txt P w K mg A):FnOk P w K mg base CX0 2 A.a8 A.f8 ["_law_rule_here"] sp_law_rule_text:=by
 refine T.x8.F.ok sc__law_rule_text (by walk_at "n") fun _ _ _ s H vs Q E hr h=>?_
 ·obtain⟨p,rs,xs,rfl,hp,h2,h6,hb,k⟩:=h;refine⟨_,(z7 (zD (km (zG (pv 0) (fun _=>rfl)))
     (z9 (zj zK)) zk)
    (z9 (zj (yP PySem.F.plainAttrs_str PySem.F.slot_str_join PySem.F.type_str_join mt_join zK (pa1 (zY (ls:=["_law_heap_here"]) (fr:=[]) (csf (z8 yq) n__law_rule_text) rfl (jP (pv 0)) (fun _ _ _ _=>pgc 0 (by decide+kernel) rfl rfl) (fun _ _ _ _=>yf) (fun _ _ _ _=>(ka (jN T) (hr.mono (by decide)) (glc (z8 yq)) T.x7.g T.x7.F.kp T.x7.b .nil yX (pa1 (pvc (z8 yq) 0)))))))))),?_⟩
  have hxl:=h2.length;by_cases hne:rs=[]
  ·subst hne;cases h2;exact⟨_,rfl,false,.inr (.inl ⟨_,SqT.of hp,rfl⟩),iteT (k H (Same.refl _))⟩
  refine⟨_,rfl,true,.inr (.inl ⟨_,SqT.of hp,by cases h2 with|nil=>exact absurd rfl hne|cons _ _=>rfl⟩),iteF ?_⟩;refine⟨rfl,comp_map1T (fun(b:Str) v _=>v=V.str b) (rs.map txt) [] (by rw[length_map];exact hxl) (le_trans (m:=6) (by omega) (by decide)) (fun _ _ _ _ _ h=>h) rfl rfl hp (fun j x b H' P hx hbj s' hP=>?_) (fun zs H1 l s1 a1 hl=>?_)⟩
  ·obtain⟨r,hr0,q,rfl,hq⟩:=h2.get hx;rw[getElem?_map,hr0]at hbj;have hm:=hb r (mem_of_getElem? hr0);exact⟨_,rfl,q,r,rfl,s' _ _ hq,by omega,fun x hx=>⟨(hm.2 x hx).1,le_of_lt (hm.2 x hx).2⟩,fun H'' s''=>hP _ _ s'' (by rw[<-Option.some.inj hbj])⟩
  have e1:=strs_of a1;subst e1;have hsum:((rs.map txt).map (·.length)).sum<=(rs.map txt).length*10000:=jX fun y hy=>by
   obtain⟨r,hr0,rfl⟩:=mem_map.mp hy;exact txt_lenW (hb r hr0).1 (hb r hr0).2
  rw[length_map]at hsum;refine⟨_,l,rs.map txt,rfl,rfl,SqL.of z6,?_,?_⟩
  ·have hbl:(Str.ofString " | ").length=3:=by decide
   rw[hbl,length_map];omega
  ·have e:Txt.join (Str.ofString " | ") (rs.map txt)=rtxt rs:=by unfold rtxt;rw[if_neg hne];rfl
   rw[e];exact k _ (s1.trans (Same.new hl))
def n__law_is:List Str:=["_law_found","_law_due"]
theorem sc__law_is:FnScope n__law_is ["_law_found","_law_due"] (z8 s__law_is):=FS
inductive sp_lis(vs:List V)(H:Hp)(Q:VK)(E:XK):Prop
 |mk (x y:Str):vs=[.str x,.str y]->Q (.bl (decide (x=y))) H->sp_lis vs H Q E
theorem ok__law_is(T:Txt P w K mg A):FnOk P w K mg base CX0 1 A.a9 A.f9 ["_law_found","_law_due"] sp_lis:=by
 refine T.x9.F.ok sc__law_is (by walk_at "n") fun _ _ _ s H vs Q E hr h=>?_
 ·obtain⟨x,y,rfl,k⟩:=h;refine⟨_,(z9 (zj (pe_and (zq call_isi rfl T.w4 boot_isinstance (pa2 (pv 0) (pe_bltn (v:=.ty "str") rfl T.w11 boot_str rfl))) (pe_one (pcm yO (pv 0) (pv 1)))))),?_⟩;refine⟨_,rfl,_,_,_,true,rfl,TyOf.str _,wc,true,rfl,iteT ?_⟩;refine⟨_,rfl,_,rfl,rfl,?_⟩;have e:decide (V.str x=V.str y)=decide (x=y):=by simp
  rw[e];exact k
def n__law_lies:List Str:=["_law_one","_law_other"]
theorem sc__law_lies:FnScope n__law_lies ["_law_one","_law_other"] (z8 yQ):=FS
inductive sp_llies(vs:List V)(H:Hp)(Q:VK)(E:XK):Prop
 |mk (a b:Addr) (ns ms:List Int):vs=[.ref a,.ref b]->H a=some (.tup (ns.map V.int))->H b=some (.tup (ms.map V.int))->ns.length<=10000->(∀H',Same H H'->Q (.bl (lies ns ms)) H')->sp_llies vs H Q E
theorem ok__law_lies(T:Txt P w K mg A):FnOk P w K mg base CX0 1 A.a10 A.f10 ["_law_one","_law_other"] sp_llies:=by
 refine T.x10.F.ok sc__law_lies (by walk_at "n") fun _ _ _ s H vs Q E hr h=>?_
 ·obtain⟨a,b,ns,ms,rfl,ha,hb,hln,k⟩:=h;refine⟨_,(z9 (zj (zq (kC rfl) rfl T.w0 boot_all (pa1 (zY (ls:=["_law_part"]) (fr:=[("_law_one",0),("_law_other",1)]) (csf (z8 yQ) n__law_lies) rfl (jP (pv 0 (hv:=Or.inr (Or.inl rfl)))) (fun _ _ _ _=>pgc 0 (by decide+kernel) rfl rfl) (fun _ _ _ _=>yf) (fun _ _ _ _=>(pcm op_le (pe_bmK K rfl PySem.F.plainAttrs_tuple PySem.F.slot_tuple_count PySem.F.type_tuple_count (mt_countTK K rfl) (pvc (z8 yQ) 1) (pa1 (pvc (z8 yQ) 0))) (pe_bmK K rfl PySem.F.plainAttrs_tuple PySem.F.slot_tuple_count PySem.F.type_tuple_count (mt_countTK K rfl) (pvc (z8 yQ) 2) (pa1 (pvc (z8 yQ) 0)))))))))),?_⟩;refine⟨_,rfl,a,rfl,⟨_,SqT.of ha⟩,comp_tup (xs:=ns.map V.int) (fun i ys σ' H'=>H'=H/\(∃v,σ'=[v,some (.ref a),some (.ref b)])/\ys=((ns.take i).map fun x=>decide (ns.count x<=ms.count x)).map V.bl) ⟨rfl,⟨_,rfl⟩,rfl⟩ ?_ ?_ ?_⟩
  ·rintro i ys σ' H' hi ⟨rfl,_,rfl⟩;refine⟨SqT.of ha,?_⟩;rw[length_map,length_map,length_take];exact le_trans (m:=10000) (by omega) (by decide)
  ·rintro i x ys σ' H' hx ⟨rfl,⟨v,rfl⟩,rfl⟩;obtain⟨z,hz,rfl⟩:=jr hx;have hi:=(List.getElem?_eq_some_iff.mp hz).1;have ez:=(List.getElem?_eq_some_iff.mp hz).2;refine⟨_,rfl,.inr (.inl ⟨rfl,.inr ⟨_,ha⟩⟩),_,rfl,a,_,_,rfl,rfl,SqT.of ha,rfl,j6 _,?_⟩;refine⟨_,rfl,.inr (.inl ⟨rfl,.inr ⟨_,hb⟩⟩),_,rfl,b,_,_,rfl,rfl,SqT.of hb,rfl,j6 _,?_⟩;refine⟨_,_,rfl,rfl,rfl,⟨_,rfl⟩,?_⟩;rw[take_succ_eq_append_getElem hi,map_append,map_append,ez];show _++[V.bl (decide (((cntV (V.int z) (ns.map V.int):Nat):Int)<=((cntV (V.int z) (ms.map V.int):Nat):Int)))]=_;rw[cntV_ints,cntV_ints];have e:decide (((ns.count z:Nat):Int)<=((ms.count z:Nat):Int))=decide (ns.count z<=ms.count z):=by
    rw[decide_eq_decide];omega
   rw[e];rfl
  ·rintro ys σ' H' ⟨rfl,_,rfl⟩ l hl;rw[length_map,take_length];refine⟨l,_,rfl,SqL.of z6,?_⟩;have e:(ns.map fun x=>decide (ns.count x<=ms.count x)).all id=lies ns ms:=by
    unfold lies;rw[all_map];rfl
   rw[e];exact k _ (Same.new hl)
def n__law_first:List Str:=["_law_rule_here","_law_heap_here","_law_number"]
theorem sc__law_first:FnScope n__law_first ["_law_rule_here","_law_heap_here"] (z8 s__law_first):=FS
inductive sp_lfirst(vs:List V)(H:Hp)(Q:VK)(E:XK):Prop
 |mk (p q:Addr) (rs:List V) (rule:List (List Int)) (hs:List Int):vs=[.ref p,.ref q]->H p=some (.tup rs)->All2 Tup1 H rule rs->H q=some (.tup (hs.map V.int))->rule.length<=60->(∀h∈rule,h.length<=1000)->(∀(H':Hp),Same H H'->Q (optV (zB rule hs)) H')->sp_lfirst vs H Q E
theorem ok__law_first(T:Txt P w K mg A):FnOk P w K mg base CX0 2 A.a11 A.f11 ["_law_rule_here","_law_heap_here"] sp_lfirst:=by
 refine T.x11.F.ok sc__law_first (by walk_at "n") fun _ _ _ s H vs Q E hr h=>?_
 ·obtain⟨p,q,rs,rule,hs,rfl,hp,h2,hq,hln,hlr,k⟩:=h;refine⟨_,(z7 (yo PassesOwn.never rfl (kJ rfl T.w9 (pa1 (zq zp rfl T.w5 PySem.boot_len (pa1 (pv 0))))) (pgn 2 sc__law_first.nd)
     (z9 (zD (zG (pcl (ok__law_lies T) hr T.x10 (pa2 (pix zR (pv 0) (pv 2)) (pv 1))) (fun _=>rfl))
     (z9 (zj (pv 2))) zk)))
    (z9 (zj yV))),?_⟩
  have hrl:=h2.length;refine⟨_,rfl,p,_,rfl,.inr (SqT.of hp),_,rfl,by omega,by omega,jK (n:=rs.length) (fun i σ' H'=>Same H H'/\(∃v,σ'=[some (.ref p),some (.ref q),v])/\idxP rule hs i=[]) ⟨fun _ _ h=>h,⟨_,rfl⟩,rfl⟩ ?_ ?_⟩
  ·rintro i σ' H' hi ⟨s,⟨v,rfl⟩,h0⟩;have hir:i<rule.length:=by omega
   obtain⟨x,hx,q1,rfl,hq1⟩:=h2.at (getElem?_eq_getElem hir);have e1:rule.getD i []=rule[i]:=by simp[hir]
   refine⟨_,rfl,_,rfl,p,_,_,_,rfl,rfl,SqT.of (s _ _ hp),by rw[Int.zero_add];exact zu hx,?_⟩;refine⟨_,rfl,q1,q,rule[i],hs,rfl,s _ _ hq1,s _ _ hq,le_trans (hlr _ (getElem_mem hir)) (by decide),fun H2 s2=>⟨_,rfl,?_⟩⟩;have s3:=s.trans s2;refine ite2 (fun hc=>?_) (fun hc=>⟨s3,⟨_,rfl⟩,?_⟩)
   ·refine⟨_,rfl,?_⟩;have:=k H2 s3;rw[first_some h0 hir (by rw[e1];exact hc)]at this;rw[Int.zero_add];exact this
   ·rw[j7,e1,if_neg hc,h0];rfl
  ·rintro σ' H' ⟨s,_,h0⟩;rw[<-hrl]at h0;have:=k H' s;rw[first_none h0]at this;exact this
def n__law_parts:List Str:=["_law_text"]
theorem sc__law_parts:FnScope n__law_parts ["_law_text"] (z8 kM):=FS
inductive sp_parts57(vs:List V)(H:Hp)(Q:VK)(E:XK):Prop
 |mk (ns:List Int):vs=[.str (txt ns)]->ns.length<=60->(∀x∈ns,1<=x/\x<10^60)->(∀(p:Addr)(H':Hp),H' p=some (.tup (ns.map V.int))->Same H H'->H p=none->Q (.ref p) H')->sp_parts57 vs H Q E
theorem ok__law_parts(T:Txt P w K mg A):FnOk P w K mg base CX0 1 A.a12 A.f12 ["_law_text"] sp_parts57:=by
 refine T.x12.F.ok sc__law_parts (by walk_at "n") fun _ _ _ s H vs Q E hr h=>?_
 ·obtain⟨ns,rfl,hl,hb,k⟩:=h;refine⟨_,(z7 (zD (zi yO (pv 0) zK (zr _))
     (z9 (zj (ym ye))) zk)
    (z9 (zj (zH zZ rfl T.w13 boot_tuple (pa1 (zY (ls:=["_law_word"]) (fr:=[]) (csf (z8 kM) n__law_parts) rfl (y4 (yP PySem.F.plainAttrs_str PySem.F.slot_str_split PySem.F.type_str_split mt_split (pv 0) (pa1 zK))) (fun _ _ _ _=>pgc 0 (by decide+kernel) rfl rfl) (fun _ _ _ _=>yf) (fun _ _ _ _=>(zH kW (glc (z8 kM)) T.w3 boot_int (pa1 (pvc (z8 kM) 0)))))))))),?_⟩
  have hb1:∀x∈ns,1<=x:=fun x hx=>(hb x hx).1;refine⟨_,rfl,rfl,_,rfl,?_⟩;refine ite2 (fun h0=>?_) (fun h0=>?_)
  ·have e:txt ns=none':=by unfold none';simpa using h0
   have e:=(txt_none hb1).mp e;subst e;exact⟨by show 0<=sizeLine;decide,fun p hp=>k p _ z6 (Same.new hp) hp⟩
  have hne:ns≠[]:=fun z=>h0 (decide_eq_true (by rw[(txt_none hb1).mpr z];rfl));have hlt:=txt_len (ns:=ns) (by omega) fun x hx=>⟨(hb x hx).1,le_of_lt (hb x hx).2⟩;refine⟨_,rfl,rfl,_,_,rfl,rfl,rfl,by omega,fun l hl0=>?_⟩;rw[txt_split hne hb1];refine⟨l,rfl,⟨_,SqL.of z6⟩,yY (xs:=(ns.map numS).map V.str) (fun i ys σ' H2=>H2=upd H l (.lst ((ns.map numS).map V.str))/\(∃v,σ'=[v])/\ys=(ns.take i).map V.int) ⟨rfl,⟨_,rfl⟩,rfl⟩ ?_ ?_ ?_⟩
  ·rintro i ys σ' H2 hi ⟨rfl,_,rfl⟩;refine⟨SqL.of z6,?_⟩;rw[length_map,length_take];exact yR (by omega)
  ·rintro i x ys σ' H2 hx ⟨rfl,⟨v,rfl⟩,rfl⟩;rw[map_map,getElem?_map]at hx;cases hn:ns[i]? with
   |none=>rw[hn]at hx;cases hx
   |some z =>
    rw[hn]at hx;have hx':x=V.str (numS z):=(Option.some.inj hx).symm;subst hx';have hz:=hb z (mem_of_getElem? hn);have hi:=(List.getElem?_eq_some_iff.mp hn).1;have ez:=(List.getElem?_eq_some_iff.mp hn).2;refine⟨_,rfl,numS z,z,rfl,numS_reads (by omega) (Int.lt_trans hz.2 (by decide+kernel)),?_,rfl,⟨_,rfl⟩,?_⟩
    ·rw[yg];have:=kD (n:=z) (by omega) (k:=60) (by decide) hz.2;omega
    ·rw[take_succ_eq_append_getElem hi,ez];simp
  rintro ys σ' H2 ⟨rfl,_,rfl⟩ l2 hl2;have e1:((ns.map numS).map V.str).length=ns.length:=by simp
  rw[e1,take_length];refine⟨l2,_,rfl,.inl ⟨SqL.of z6,fun p hp=>?_⟩⟩;exact k p _ z6 ((Same.new hl0).trans ((Same.new hl2).trans (Same.new hp))) ((Same.new hl0).free ((Same.new hl2).free hp))
def n_heap_text:List Str:=["heap"]
theorem sc_heap_text:FnScope n_heap_text ["heap"] (z8 jc):=FS
inductive sp_heap_text(vs:List V)(H:Hp)(Q:VK)(E:XK):Prop
 |mk (a:Addr) (ns:List Int):vs=[.ref a]->H a=some (.tup (ns.map V.int))->ns.length<=64->(∀x∈ns,1<=x/\x<=10^60)->(∀(H':Hp),Same H H'->Q (.str (txt ns)) H')->sp_heap_text vs H Q E
theorem ok_heap_text(T:Txt P w K mg A):FnOk P w K mg base CX0 1 A.a13 A.f13 ["heap"] sp_heap_text:=by
 refine T.x13.F.ok sc_heap_text (by walk_at "n") fun _ _ _ s H vs Q E hr h=>?_
 ·obtain⟨a,ns,rfl,ha,hl,hb,k⟩:=h;refine⟨_,(z7 (zD (zi yO (zq zp rfl T.w5 PySem.boot_len (pa1 (pv 0))) zc (zr _))
     (z9 (zj zK)) zk)
    (z9 (zj (yP PySem.F.plainAttrs_str PySem.F.slot_str_join PySem.F.type_str_join mt_join zK (pa1 (zY (ls:=["part"]) (fr:=[]) (csf (z8 jc) n_heap_text) rfl (jP (pv 0)) (fun _ _ _ _=>pgc 0 (by decide+kernel) rfl rfl) (fun _ _ _ _=>yf) (fun _ _ _ _=>(zH yT (glc (z8 jc)) T.w11 boot_str (pa1 (pvc (z8 jc) 0)))))))))),?_⟩
  refine⟨_,rfl,a,_,rfl,.inr (SqT.of ha),rfl,_,rfl,?_⟩;refine ite2 (fun h0=>?_) (fun h0=>?_)
  ·have e:ns=[]:=by
    cases ns with
    |nil=>rfl
    |cons y r=>simp at h0;omega
   subst e;exact k H (Same.refl _)
  ·have hne:ns≠[]:=fun z=>h0 (by subst z;rfl);refine⟨rfl,_,rfl,a,rfl,⟨_,SqT.of ha⟩,comp_tup (xs:=ns.map V.int) (fun i ys σ' H'=>H'=H/\(∃v,σ'=[v])/\ys=((ns.take i).map numS).map V.str) ⟨rfl,⟨_,rfl⟩,rfl⟩ ?_ ?_ ?_⟩
   ·rintro i ys σ' H' hi ⟨rfl,_,rfl⟩;refine⟨SqT.of ha,?_⟩;rw[length_map,length_map,length_take];exact le_trans (Nat.min_le_right _ _) (le_trans hl (by decide))
   ·rintro i x ys σ' H' hx ⟨rfl,⟨v,rfl⟩,rfl⟩;obtain⟨z,hz,rfl⟩:=jr hx;have h1:=hb z (mem_of_getElem? hz);have hi:=(List.getElem?_eq_some_iff.mp hz).1;have ez:=(List.getElem?_eq_some_iff.mp hz).2;refine⟨_,rfl,z,rfl,numS_log (by omega) h1.2,rfl,⟨_,rfl⟩,?_⟩;rw[take_succ_eq_append_getElem hi,ez];simp[numS]
   ·rintro ys σ' H' ⟨rfl,_,rfl⟩ l hl0;rw[length_map,take_length];refine⟨_,l,ns.map numS,rfl,rfl,SqL.of z6,?_,?_⟩
    ·have h1:((ns.map numS).map (·.length)).sum<=ns.length*61:=by
      rw[map_map];refine sum_le fun x hx=>?_;show(numS x).length<=61;rw[yg];exact kD (by have:=hb x hx;omega) (by decide) (Int.lt_of_le_of_lt (hb x hx).2 (by decide))
     have h2:(Str.ofString " ").length=1:=by rw[jY];rfl
     rw[h2,length_map];omega
    ·have e:Txt.join (Str.ofString " ") (ns.map numS)=txt ns:=by unfold txt;rw[if_neg hne]
     rw[e];exact k _ (Same.new hl0)
def n_rule_text:List Str:=["rule"]
theorem sc_rule_text:FnScope n_rule_text ["rule"] (z8 jj):=FS
inductive sp_rule_text(vs:List V)(H:Hp)(Q:VK)(E:XK):Prop
 |mk (p:Addr) (rs:List (List Int)) (xs:List V):vs=[.ref p]->H p=some (.tup xs)->All2 Tup1 H rs xs->rs.length<=6->(∀r∈rs,r.length<=60/\ ∀x∈r,1<=x/\x<10^60)->(∀(H':Hp),Same H H'->Q (.str (rtxt rs)) H')->sp_rule_text vs H Q E
theorem ok_rule_text(T:Txt P w K mg A):FnOk P w K mg base CX0 2 A.a14 A.f14 ["rule"] sp_rule_text:=by
 refine T.x14.F.ok sc_rule_text (by walk_at "n") fun _ _ _ s H vs Q E hr h=>?_
 ·obtain⟨p,rs,xs,rfl,hp,h2,h6,hb,k⟩:=h;refine⟨_,(z7 (zD (zi yO (zq zp rfl T.w5 PySem.boot_len (pa1 (pv 0))) zc (zr _))
     (z9 (zj zK)) zk)
    (z9 (zj (yP PySem.F.plainAttrs_str PySem.F.slot_str_join PySem.F.type_str_join mt_join zK (pa1 (zY (ls:=["heap"]) (fr:=[]) (csf (z8 jj) n_rule_text) rfl (jP (pv 0)) (fun _ _ _ _=>pgc 0 (by decide+kernel) rfl rfl) (fun _ _ _ _=>yf) (fun _ _ _ _=>(ka (ok_heap_text T) (hr.mono (by decide)) (glc (z8 jj)) T.x13.g T.x13.F.kp T.x13.b .nil yX (pa1 (pvc (z8 jj) 0)))))))))),?_⟩
  have hxl:=h2.length;refine⟨_,rfl,p,_,rfl,.inr (SqT.of hp),rfl,_,rfl,?_⟩;refine ite2 (fun h0=>?_) (fun h0=>?_)
  ·have e:rs=[]:=by
    have:xs.length=0:=by simpa using h0
    exact List.eq_nil_of_length_eq_zero (by omega)
   subst e;exact k H (Same.refl _)
  have hne:rs≠[]:=fun z=>h0 (by subst z;cases h2;rfl);refine⟨rfl,comp_map1T (fun(b:Str) v _=>v=V.str b) (rs.map txt) [] (by rw[length_map];exact hxl) (le_trans (m:=6) (by omega) (by decide)) (fun _ _ _ _ _ h=>h) rfl rfl hp (fun j x b H' P hx hbj s' hP=>?_) (fun zs H1 l s1 a1 hl=>?_)⟩
  ·obtain⟨r,hr0,q,rfl,hq⟩:=h2.get hx;rw[getElem?_map,hr0]at hbj;have hm:=hb r (mem_of_getElem? hr0);exact⟨_,rfl,q,r,rfl,s' _ _ hq,by omega,fun x hx=>⟨(hm.2 x hx).1,le_of_lt (hm.2 x hx).2⟩,fun H'' s''=>hP _ _ s'' (by rw[<-Option.some.inj hbj])⟩
  have e1:=strs_of a1;subst e1;have hsum:((rs.map txt).map (·.length)).sum<=(rs.map txt).length*10000:=jX fun y hy=>by
   obtain⟨r,hr0,rfl⟩:=mem_map.mp hy;exact txt_lenW (hb r hr0).1 (hb r hr0).2
  rw[length_map]at hsum;refine⟨_,l,rs.map txt,rfl,rfl,SqL.of z6,?_,?_⟩
  ·have hbl:(Str.ofString " | ").length=3:=by decide
   rw[hbl,length_map];omega
  ·have e:Txt.join (Str.ofString " | ") (rs.map txt)=rtxt rs:=by unfold rtxt;rw[if_neg hne];rfl
   rw[e];exact k _ (s1.trans (Same.new hl))
def n_heap_of:List Str:=["parts","part"]
theorem sc_heap_of:FnScope n_heap_of ["parts"] (z8 s_heap_of):=FS
inductive sp_heap_of(vs:List V)(H:Hp)(Q:VK)(E:XK):Prop
 |mk (a:Addr) (ns:List Int):vs=[.ref a]->H a=some (.tup (ns.map V.int))->ns.length<64->(∀x∈ns,1<=x)->(∀(p:Addr)(H':Hp),H' p=some (.tup ((jF ns).map V.int))->Same H H'->Q (.ref p) H')->sp_heap_of vs H Q E
theorem ok_heap_of(T:Txt P w K mg A):FnOk P w K mg base CX0 1 A.a15 A.f15 ["parts"] sp_heap_of:=by
 refine T.x15.F.ok sc_heap_of (by walk_at "n") fun _ _ _ s H vs Q E hr h=>?_
 ·obtain⟨a,ns,rfl,ha,hl,hp,k⟩:=h;refine⟨_,(z7 (yo PassesOwn.never rfl (jP (pv 0)) (pgn 1 sc_heap_of.nd)
     (z9 (zD (zi op_lt (pv 1) zc (zr _))
     (z9 zN) zk)))
    (z9 (zj (zH zZ rfl T.w13 boot_tuple (pa1 (pe_sortR rfl T.w10 (pv 0))))))),?_⟩
  refine⟨_,rfl,a,rfl,⟨_,SqT.of ha⟩,for_tup (xs:=ns.map V.int) (fun i σ' H'=>H'=H/\ ∃v,σ'=[some (.ref a),v]) ⟨rfl,_,rfl⟩ ?_ ?_ ?_⟩
  ·rintro i σ' H' _ ⟨rfl,_⟩;exact SqT.of ha
  ·rintro i x σ' H' hx ⟨rfl,v,rfl⟩;obtain⟨z,hz,rfl⟩:=jr hx;have h1:=hp z (mem_of_getElem? hz);refine⟨_,rfl,_,_,rfl,rfl,_,rfl,?_⟩;refine ite2 (fun hlt=>absurd (of_decide_eq_true hlt) (by omega)) (fun _=>⟨rfl,_,rfl⟩)
  ·rintro σ' H' ⟨rfl,v,rfl⟩;refine⟨_,rfl,a,ns,rfl,.inr (SqT.of ha),hl,fun ns' p4 hperm hord hp4=>?_⟩;refine⟨p4,_,rfl,.inl ⟨SqL.of z6,fun p5 hp5=>?_⟩⟩;have e:ns'=jF ns:=sortD_eq hperm hord;subst e;exact k p5 _ z6 ((Same.new hp4).trans (Same.new hp5))
def n_writes_number:List Str:=["word"]
theorem sc_writes_number:FnScope n_writes_number ["word"] (z8 yB):=FS
inductive sp_writes(vs:List V)(H:Hp)(Q:VK)(E:XK):Prop
 |mk (z:Str):vs=[.str z]->z.length<=10000000->(∀(H':Hp),Same H H'->Q (.bl (jC z)) H')->sp_writes vs H Q E
theorem ok_writes_number(T:Txt P w K mg A):FnOk P w K mg base CX0 1 A.a16 A.f16 ["word"] sp_writes:=by
 refine T.x16.F.ok sc_writes_number (by walk_at "n") fun _ _ _ s H vs Q E hr h=>?_
 ·obtain⟨z,rfl,hz,k⟩:=h;refine⟨_,(z7 (zD (PW.pt (jQ (zi yO (zq yd rfl T.w5 PySem.boot_len (pa1 (pv 0))) zc (zr _)) (jQ (zi op_gt (zq yd rfl T.w5 PySem.boot_len (pa1 (pv 0))) (yx (v:=.int 60) rfl T.w20.choose_spec ⟨_,rfl⟩) (zr _)) (jS (zi yO (pix ix_str (pv 0) zc) zK (zr _))))))
     (z9 (zj pe_bl)) zk)
    (z9 (zj (zq (kC rfl) rfl T.w0 boot_all (pa1 (zY (ls:=["sign"]) (fr:=[]) (csf (z8 yB) n_writes_number) rfl (pi_str (pv 0)) (fun _ _ _ _=>pgc 0 (by decide+kernel) rfl rfl) (fun _ _ _ _=>yf) (fun _ _ _ _=>(pe_cmpR op_in_str (pvc (z8 yB) 0) (yx (v:=.str (Str.ofString "0123456789")) (glc (z8 yB)) T.w19.choose_spec ⟨_,rfl⟩) rfl)))))))),?_⟩
  have hz':z.length<=sizeLine:=le_trans hz (by decide);refine kh (fun σ' H'=>H'=H/\ σ'=[some (.str z)]/\ ∃c r,z.cps.toList=c::r/\(c::r).length<=60/\c≠48) (fun nx hnx=>?_) ?_
  ·refine⟨_,rfl,z,rfl,hz',rfl,_,rfl,?_⟩;refine ite2 (fun h0=>?_) (fun h0=>?_)
   ·refine iteT ?_;have e:z.cps.toList=[]:=by
     have:z.length=0:=by simpa using h0
     rw[yg]at this;exact List.eq_nil_of_length_eq_zero this
    have e2:jC z=false:=by unfold jC;rw[e]
    have:=k H (Same.refl _);rw[e2]at this;exact this
   obtain⟨c,r,e⟩:∃c r,z.cps.toList=c::r:=by
    cases h:z.cps.toList with
    |nil =>
     have:z.length=0:=by rw[yg,h];rfl
     exact absurd (by simp[this]) h0
    |cons c r=>exact⟨c,r,rfl⟩
   have el:z.length=(c::r).length:=by rw[yg,e]
   refine⟨_,rfl,z,rfl,hz',_,_,rfl,rfl,_,rfl,?_⟩;refine ite2 (fun h1=>?_) (fun h1=>?_)
   ·refine iteT ?_;have h1':=of_decide_eq_true h1;have e2:jC z=false:=by
     unfold jC;rw[e];simp only[Bool.and_eq_false_iff,decide_eq_false_iff_not];exact .inl (.inl (by rw[<-el];omega))
    have:=k H (Same.refl _);rw[e2]at this;exact this
   refine⟨_,rfl,z,0,c,rfl,rfl,hz',by rw[e];exact atI0 c r,rfl,_,rfl,?_⟩;rw[L2.one_sign];refine ite2 (fun h2=>?_) (fun h2=>?_)
   ·have e2:jC z=false:=by
     unfold jC;rw[e];simp only[Bool.and_eq_false_iff,decide_eq_false_iff_not];exact .inl (.inr (by simpa using h2))
    have:=k H (Same.refl _);rw[e2]at this;exact this
   ·have h1':¬(60:Int)<(z.length:Int):=fun q=>h1 (decide_eq_true q);exact hnx _ _ ⟨rfl,rfl,c,r,e,by rw[<-el];omega,by simpa using h2⟩
  ·rintro σ' H' ⟨rfl,rfl,c,r,e,hl,hc⟩;refine⟨_,rfl,z,rfl,comp_str (fun i ys σ' H2=>H2=H'/\(∃v,σ'=[v])/\ys=((z.cps.toList.take i).map fun d=>decide (48<=d/\d<=57)).map V.bl) ⟨rfl,⟨_,rfl⟩,rfl⟩ ?_ ?_ ?_⟩
   ·rintro i ys σ' H2 hi ⟨rfl,_,rfl⟩;rw[length_map,length_map,length_take];have:z.cps.toList.length<=60:=by rw[e];exact hl
    exact yR (by omega)
   ·rintro i d ys σ' H2 hd ⟨rfl,⟨v,rfl⟩,rfl⟩;have hd':z.cps.toList[i]? =some d:=by simpa using hd
    have hi:=(List.getElem?_eq_some_iff.mp hd').1;have ez:=(List.getElem?_eq_some_iff.mp hd').2;refine⟨_,rfl,_,_,rfl,rfl,rfl,⟨_,rfl⟩,?_⟩;rw[in_figs,take_succ_eq_append_getElem hi,ez];simp
   ·rintro ys σ' H2 ⟨rfl,_,rfl⟩ l hl0;refine⟨l,_,rfl,SqL.of z6,?_⟩;have e2:(((z.cps.toList.take z.cps.size).map fun d=>decide (48<=d/\d<=57))).all id=jC z:=by
     rw[take_of_length_le (by simp)];unfold jC;rw[e,all_map];have a1:decide ((c::r).length<=60)=true:=decide_eq_true hl;have a2:decide (c≠48)=true:=decide_eq_true hc;simp only[a1,a2,Bool.true_and];rfl
    rw[e2];exact k _ (Same.new hl0)
def n_read_heap:List Str:=["text","words","word","heap"]
theorem jx:FnScope n_read_heap ["text"] (z8 jg):=FS
inductive sp_read_heap(vs:List V)(H:Hp)(Q:VK)(E:XK):Prop
 |mk (z:Str) (ps:List Int):vs=[.str z]->z.length<=100000->jp z=some ps->(∀(p:Addr)(H':Hp),H' p=some (.tup (ps.map V.int))->Same H H'->H p=none->Q (.ref p) H')->sp_read_heap vs H Q E
theorem ok_read_heap(T:Txt P w K mg A):FnOk P w K mg base CX0 2 A.a17 A.f17 ["text"] sp_read_heap:=by
 refine T.x17.F.ok jx (by walk_at "n") fun _ _ _ s H vs Q E hr h=>?_
 ·obtain⟨z,ps,rfl,hz,h,k⟩:=h;refine⟨_,(z7 (zD (zi yO (pv 0) zK (zr _))
     (z9 (zj (ym ye))) zk)
    (z7 (pset 1 jx.nd (yP PySem.F.plainAttrs_str PySem.F.slot_str_split PySem.F.type_str_split mt_split (pv 0) (pa1 zK)))
    (z7 (zD (zi op_gt (zq zp rfl T.w5 PySem.boot_len (pa1 (pv 1))) (yx (v:=.int 60) rfl T.w15.choose_spec ⟨_,rfl⟩) (zr _))
     (z9 zN) zk)
    (z7 (yo PassesOwn.never rfl (y4 (pv 1)) (pgn 2 jx.nd)
     (z9 (zD (km (zG (pcl (ok_writes_number T) hr T.x16 (pa1 (pv 2))) (fun _=>rfl)))
     (z9 zN) zk)))
    (z7 (pset 3 jx.nd (zH zZ rfl T.w13 boot_tuple (pa1 (zY (ls:=["word"]) (fr:=[]) (csf (z8 jg) n_read_heap) rfl (y4 (pv 1)) (fun _ _ _ _=>pgc 0 (by decide+kernel) rfl rfl) (fun _ _ _ _=>yf) (fun _ _ _ _=>(zH kW (glc (z8 jg)) T.w3 boot_int (pa1 (pvc (z8 jg) 0))))))))
    (z7 (zD (zi (op_neT' eqk_int (huR hr)) (pv 3) (pcl (ok_heap_of T) hr T.x15 (pa1 (pv 3))) (zr _))
     (z9 zN) zk)
    (z9 (zj (pv 3))))))))),?_⟩
  refine⟨_,rfl,rfl,_,rfl,?_⟩;refine ite2 (fun h0=>?_) (fun h0=>?_)
  ·have e:z=none':=by unfold none';simpa using h0
   subst e;rw[readN_none']at h;cases h;exact⟨by show 0<=sizeLine;decide,fun p hp=>k p _ z6 (Same.new hp) hp⟩
  have hne:z≠none':=fun e=>h0 (decide_eq_true (by rw[e];rfl));have good:(zM z).length<=60/\(∀w∈zM z,jC w=true)/\((zM z).map numV).Pairwise (· >= ·):=Classical.byContradiction fun hn=>by rw[readN_no hne hn]at h;cases h
  obtain⟨h60,hall,hpw⟩:=good;refine⟨_,rfl,rfl,_,_,rfl,rfl,rfl,by omega,fun l hl0=>?_⟩;have sl:=Same.new (o:=.lst ((zM z).map V.str)) hl0;have gl:=z6 (H:=H) (a:=l) (o:=.lst ((zM z).map V.str));have eW:Txt.split z (Str.ofString " ")=zM z:=rfl;rw[eW];generalize upd H l (.lst ((zM z).map V.str))=H1 at sl gl;refine⟨_,rfl,l,_,rfl,.inl (SqL.of gl),_,_,rfl,rfl,_,rfl,?_⟩;refine ite2 (fun h1=>absurd (of_decide_eq_true h1) (by rw[length_map];omega)) (fun _=>?_);have wat:∀{i:Nat}{x:V},((zM z).map V.str)[i]? =some x-> ∃w,(zM z)[i]? =some w/\x= .str w:=fun{i x} hx=>by
   rw[getElem?_map]at hx;cases e:(zM z)[i]? with
   |none=>rw[e]at hx;cases hx
   |some w=>rw[e]at hx;exact⟨w,rfl,(Option.some.inj hx).symm⟩
  refine⟨_,rfl,l,rfl,⟨_,SqL.of gl⟩,kX (xs:=(zM z).map V.str) (fun i σ' H'=>Same H1 H'/\(∃v,σ'=[some (.str z),some (.ref l),v,none])) ⟨Same.refl _,⟨_,rfl⟩⟩ ?_ ?_ ?_⟩
  ·rintro i σ' H' _ ⟨s,_⟩;exact SqL.of (s _ _ gl)
  ·rintro i x σ' H' hx ⟨s,v,rfl⟩;obtain⟨w,hw,rfl⟩:=wat hx;have hm:=mem_of_getElem? hw;refine⟨_,rfl,w,rfl,le_trans (word_len hm) (le_trans hz (by decide)),fun H2 s2=>⟨_,rfl,?_⟩⟩;rw[hall w hm];exact iteF ⟨s.trans s2,_,rfl⟩
  rintro σ' H' ⟨s,v,rfl⟩;have s0:=sl.trans s;have gl':=s _ _ gl;refine comp_map1L (fun(b:Int) v _=>v=V.int b) ((zM z).map numV) [] (by rw[length_map,length_map]) (by rw[length_map];exact le_trans h60 (by decide)) (fun _ _ _ _ _ h=>h) rfl rfl gl' (fun j x b H2 P hx hb s2 hP=>?_) (fun zs H2 l2 s2 a2 hl2=>?_)
  ·obtain⟨w,hw,rfl⟩:=wat hx;rw[getElem?_map,hw]at hb;have hn:=hall w (mem_of_getElem? hw);have hl60:w.length<=640:=by
    obtain⟨c,r,e,h1,_⟩:=(isNum_iff w).mp hn;rw[yg,e];omega
   exact⟨_,rfl,w,numV w,rfl,num_reads hn,hl60,hP _ _ (Same.refl _) (by rw[<-Option.some.inj hb])⟩
  have e2:=ints_of a2;subst e2;refine⟨l2,_,rfl,.inl ⟨SqL.of z6,fun p hp=>?_⟩⟩;have s3:=s2.trans ((Same.new (o:=.lst (((zM z).map numV).map V.int)) hl2).trans (Same.new (o:=.tup (((zM z).map numV).map V.int)) hp));have g3:=z6 (H:=upd H2 l2 (.lst (((zM z).map numV).map V.int))) (a:=p) (o:=.tup (((zM z).map numV).map V.int));have np:H p=none:=s0.free (s2.free ((Same.new hl2).free hp));generalize upd (upd H2 l2 (.lst (((zM z).map numV).map V.int))) p (.tup (((zM z).map numV).map V.int))=H3 at s3 g3;refine⟨_,rfl,_,rfl,p,(zM z).map numV,rfl,g3,by rw[length_map];omega,fun x hx=>?_,fun p2 H4 hp2 s4=>?_⟩
  ·obtain⟨w,hw,rfl⟩:=mem_map.mp hx;exact numV_pos (hall w hw)
  refine⟨_,_,RTup.ints (SqT.of (s4 _ _ g3)),RTup.ints (SqT.of hp2),_,rfl,?_⟩;have sEnd:=s0.trans (s3.trans s4);refine iteNS (by rw[sortD_id hpw]) ?_;rw[readN_yes hne ⟨h60,hall,hpw⟩]at h;cases h;exact⟨_,rfl,k p H4 (s4 _ _ g3) sEnd np⟩
def n_read_rule:List Str:=["text","rows"]
theorem sc_read_rule:FnScope n_read_rule ["text"] (z8 ji):=FS
inductive sp_read_rule(vs:List V)(H:Hp)(Q:VK)(E:XK):Prop
 |mk (z:Str) (rs:List (List Int)):vs=[.str z]->z.length<=100000->readR z=some rs->(∀(p:Addr)(xs:List V)(H':Hp),H' p=some (.tup xs)->All2 Tup1 H' rs xs->Same H H'->Q (.ref p) H')->sp_read_rule vs H Q E
theorem ok_read_rule(T:Txt P w K mg A):FnOk P w K mg base CX0 3 A.a18 A.f18 ["text"] sp_read_rule:=by
 refine T.x18.F.ok sc_read_rule (by walk_at "n") fun _ _ _ s H vs Q E hr h=>?_
 ·obtain⟨z,rs,rfl,hz,h,k⟩:=h;refine⟨_,(z7 (zD (zi yO (pv 0) zK (zr _))
     (z9 (zj (ym ye))) zk)
    (z7 (pset 1 sc_read_rule.nd (yP PySem.F.plainAttrs_str PySem.F.slot_str_split PySem.F.type_str_split mt_split (pv 0) (pa1 zK)))
    (z7 (zD (zi op_gt (zq zp rfl T.w5 PySem.boot_len (pa1 (pv 1))) (yx (v:=.int 6) rfl T.w16.choose_spec ⟨_,rfl⟩) (zr _))
     (z9 zN) zk)
    (z9 (zj (zH zZ rfl T.w13 boot_tuple (pa1 (zY (ls:=["row"]) (fr:=[]) (csf (z8 ji) n_read_rule) rfl (y4 (pv 1)) (fun _ _ _ _=>pgc 0 (by decide+kernel) rfl rfl) (fun _ _ _ _=>yf) (fun _ _ _ _=>(ka (ok_read_heap T) (hr.mono (by decide)) (glc (z8 ji)) T.x17.g T.x17.F.kp T.x17.b .nil yX (pa1 (pvc (z8 ji) 0)))))))))))),?_⟩
  refine⟨_,rfl,rfl,_,rfl,?_⟩;refine ite2 (fun h0=>?_) (fun h0=>?_)
  ·have e:z=kT:=by unfold kT;simpa using h0
   subst e;rw[readR_none']at h;cases h;exact⟨by show 0<=sizeLine;decide,fun p hp=>k p _ _ z6 .nil (Same.new hp)⟩
  have hne:z≠kT:=fun e=>h0 (decide_eq_true (by rw[e];rfl));have good:(jb z).length<=6/\(∀w∈jb z,(jp w).isSome=true):=Classical.byContradiction fun hn=>by rw[readR_no hne hn]at h;cases h
  obtain⟨h60,hall⟩:=good;refine⟨_,rfl,rfl,_,_,rfl,rfl,rfl,by omega,fun l hl0=>?_⟩;have sl:=Same.new (o:=.lst ((jb z).map V.str)) hl0;have gl:=z6 (H:=H) (a:=l) (o:=.lst ((jb z).map V.str));have eW:Txt.split z (Str.ofString " | ")=jb z:=rfl;rw[eW];generalize upd H l (.lst ((jb z).map V.str))=H1 at sl gl;refine⟨_,rfl,l,_,rfl,.inl (SqL.of gl),_,_,rfl,rfl,_,rfl,?_⟩;refine ite2 (fun h1=>absurd (of_decide_eq_true h1) (by rw[length_map];omega)) (fun _=>?_);refine comp_map1L Tup1 ((jb z).map fun w=>(jp w).getD []) [] (by rw[length_map,length_map]) (by rw[length_map];exact le_trans h60 (by decide)) (fun _ _ _ _ s h=>h.mv s.tups) rfl rfl gl (fun j x b H2 P hx hb s2 hP=>?_) (fun zs H2 l2 s2 a2 hl2=>?_)
  ·obtain⟨w,hw,rfl⟩:∃w,(jb z)[j]? =some w/\x= .str w:=by
    rw[getElem?_map]at hx;cases e:(jb z)[j]? with
    |none=>rw[e]at hx;cases hx
    |some w=>rw[e]at hx;exact⟨w,rfl,(Option.some.inj hx).symm⟩
   rw[getElem?_map,hw]at hb;have eb:=Option.some.inj hb;have hm:=mem_of_getElem? hw;obtain⟨ps,hps⟩:=Option.isSome_iff_exists.mp (hall w hm);refine⟨_,rfl,w,ps,rfl,le_trans (row_len hm) hz,hps,fun p H' gp s' _=>hP _ _ s' ?_⟩;rw[<-eb];show Tup1 ((jp w).getD []) _ _;rw[hps];exact⟨p,rfl,gp⟩
  refine⟨l2,_,rfl,.inl ⟨SqL.of z6,fun p hp=>?_⟩⟩;have sn:=(Same.new (o:=.lst zs) hl2).trans (Same.new (o:=.tup zs) hp);rw[readR_yes hne ⟨h60,hall⟩]at h;cases h;exact k p zs _ z6 (a2.imp fun _ _ z=>z.mv sn.tups) (sl.trans (s2.trans sn))
def n_read_name:List Str:=["piece"]
theorem sc_read_name:FnScope n_read_name ["piece"] (z8 jh):=FS
inductive sp_read_name(vs:List V)(H:Hp)(Q:VK)(E:XK):Prop
 |mk (z:Str):vs=[.str z]->zO z=true->(∀H',Same H H'->Q (.str z) H')->sp_read_name vs H Q E
theorem ok_read_name(T:Txt P w K mg A):FnOk P w K mg base CX0 1 A.a19 A.f19 ["piece"] sp_read_name:=by
 refine T.x19.F.ok sc_read_name (by walk_at "n") fun _ _ _ s H vs Q E hr h=>?_
 ·obtain⟨z,rfl,hn,k⟩:=h;refine⟨_,(z7 (zD (PW.pt (jQ (zi yO (zq yd rfl T.w5 PySem.boot_len (pa1 (pv 0))) zc (zr _)) (jS (zi op_gt (zq yd rfl T.w5 PySem.boot_len (pa1 (pv 0))) (yx (v:=.int 8) rfl T.w23.choose_spec ⟨_,rfl⟩) (zr _)))))
     (z9 zN) zk)
    (z7 (zD (km (zG (zq (kC rfl) rfl T.w0 boot_all (pa1 (zY (ls:=["sign"]) (fr:=[]) (csf (z8 jh) n_read_name) rfl (pi_str (pv 0)) (fun _ _ _ _=>pgc 0 (by decide+kernel) rfl rfl) (fun _ _ _ _=>yf) (fun _ _ _ _=>(pe_cmpR op_in_str (pvc (z8 jh) 0) (yx (v:=.str (Str.ofString "abcdefghijklmnopqrstuvwxyz")) (glc (z8 jh)) T.w22.choose_spec ⟨_,rfl⟩) rfl))))) (fun _=>rfl)))
     (z9 zN) zk)
    (z9 (zj (pv 0))))),?_⟩
  obtain⟨l1,l8⟩:=((kn z).mp hn).1;have hz':z.length<=sizeLine:=le_trans l8 (by decide);refine⟨_,rfl,z,rfl,hz',rfl,_,rfl,?_⟩;refine ite2 (fun h0=>absurd (show z.length=0 by simpa using h0) (by omega)) (fun _=>?_);refine⟨_,rfl,z,rfl,hz',_,_,rfl,rfl,_,rfl,?_⟩;refine ite2 (fun h1=>absurd (of_decide_eq_true h1) (by omega)) (fun _=>?_);refine⟨_,rfl,z,rfl,comp_str (fun i ys σ' H2=>H2=H/\(∃v,σ'=[v])/\ys=((z.cps.toList.take i).map fun d=>decide (97<=d/\d<=122)).map V.bl) ⟨rfl,⟨_,rfl⟩,rfl⟩ ?_ ?_ ?_⟩
  ·rintro i ys σ' H2 hi ⟨rfl,_,rfl⟩;rw[length_map,length_map,length_take];have:z.cps.toList.length<=8:=by rw[<-yg];exact l8
   exact yR (by omega)
  ·rintro i d ys σ' H2 hd ⟨rfl,⟨v,rfl⟩,rfl⟩;have hd':z.cps.toList[i]? =some d:=by simpa using hd
   have hi:=(List.getElem?_eq_some_iff.mp hd').1;have ez:=(List.getElem?_eq_some_iff.mp hd').2;refine⟨_,rfl,_,_,rfl,rfl,rfl,⟨_,rfl⟩,?_⟩;rw[in_letters,take_succ_eq_append_getElem hi,ez];simp
  ·rintro ys σ' H2 ⟨rfl,_,rfl⟩ l hl0;have e2:((z.cps.toList.take z.cps.size).map fun d=>decide (97<=d/\d<=122)).all id=zO z:=by
    rw[take_of_length_le (by simp)];unfold zO;rw[all_map,decide_eq_true ⟨l1,l8⟩,Bool.true_and];rfl
   refine⟨l,_,rfl,SqL.of z6,_,rfl,?_⟩;rw[e2,hn];exact iteF ⟨_,rfl,k _ (Same.new hl0)⟩
def n_read_number:List Str:=["piece"]
theorem sc_read_number:FnScope n_read_number ["piece"] (z8 s_read_number):=FS
inductive sp_read_number(vs:List V)(H:Hp)(Q:VK)(E:XK):Prop
 |mk (z:Str) (n:Int):vs=[.str z]->z.length<=100000->readNum z=some n->(∀H',Same H H'->Q (.int n) H')->sp_read_number vs H Q E
theorem ok_read_number(T:Txt P w K mg A):FnOk P w K mg base CX0 2 A.a20 A.f20 ["piece"] sp_read_number:=by
 refine T.x20.F.ok sc_read_number (by walk_at "n") fun _ _ _ s H vs Q E hr h=>?_
 ·obtain⟨z,n,rfl,hz,h,k⟩:=h;refine⟨_,(z7 (zD (zi yO (pv 0) zK (zr _))
     (z9 (zj zc)) zk)
    (z7 (zD (PW.pt (jQ (zi op_gt (zq yd rfl T.w5 PySem.boot_len (pa1 (pv 0))) (yx (v:=.int 9) rfl T.w24.choose_spec ⟨_,rfl⟩) (zr _)) (jS (km (zG (pcl (ok_writes_number T) hr T.x16 (pa1 (pv 0))) (fun _=>rfl))))))
     (z9 zN) zk)
    (z9 (zj (zH kW rfl T.w3 boot_int (pa1 (pv 0))))))),?_⟩
  have hz':z.length<=sizeLine:=le_trans hz (by decide);unfold readNum at h;refine⟨_,rfl,rfl,_,rfl,?_⟩;refine ite2 (fun h0=>?_) (fun h0=>?_)
  ·have e:z=Str.ofString "0" :=by simpa using h0
   rw[if_pos e]at h;cases h;exact k H (Same.refl _)
  have hne:z≠Str.ofString "0" :=fun e=>h0 (decide_eq_true (by rw[e]));rw[if_neg hne]at h;by_cases good:z.length<=9/\jC z=true
  case neg=>rw[if_neg good]at h;cases h
  rw[if_pos good]at h;cases h;obtain⟨l9,hn⟩:=good;refine⟨_,rfl,z,rfl,hz',_,_,rfl,rfl,_,rfl,?_⟩;refine ite2 (fun h1=>absurd (of_decide_eq_true h1) (by omega)) (fun _=>?_);refine⟨_,rfl,z,rfl,le_trans hz (by decide),fun H' s'=>⟨_,rfl,?_⟩⟩;rw[hn];exact iteF ⟨_,rfl,z,_,rfl,num_reads hn,by omega,k H' s'⟩
def n_read_piece:List Str:=["kind","piece"]
theorem sc_read_piece:FnScope n_read_piece ["kind","piece"] (z8 s_read_piece):=FS
inductive sp_read_piece(vs:List V)(H:Hp)(Q:VK)(E:XK):Prop
 |mk (kd z:Str) (a:DArg):vs=[.str kd,.str z]->z.length<=100000->jT kd z=some a->(∀v H',ArgV a v H'->Same H H'->Q v H')->sp_read_piece vs H Q E
theorem ok_read_piece(T:Txt P w K mg A):FnOk P w K mg base CX0 6 A.a21 A.f21 ["kind","piece"] sp_read_piece:=by
 refine T.x21.F.ok sc_read_piece (by walk_at "n") fun _ _ _ s H vs Q E hr h=>?_
 ·obtain⟨kd,z,a,rfl,hz,h,k⟩:=h;refine⟨_,(z7 (zD (zi yO (pv 0) zK (zr _))
     (z9 (zj (pcl (ok_read_rule T) hr T.x18 (pa1 (pv 1))))) zk)
    (z7 (zD (zi yO (pv 0) zK (zr _))
     (z9 (zj (pcl (ok_read_heap T) hr T.x17 (pa1 (pv 1))))) zk)
    (z7 (zD (zi yO (pv 0) zK (zr _))
     (z9 (zj (pcl (ok_read_number T) hr T.x20 (pa1 (pv 1))))) zk)
    (z9 (zj (pcl (ok_read_name T) hr T.x19 (pa1 (pv 1)))))))),?_⟩
  unfold jT at h;refine⟨_,rfl,rfl,_,rfl,?_⟩;refine ite2 (fun h0=>?_) (fun h0=>?_)
  ·have e:kd=Str.ofString "RULE" :=by simpa using h0
   rw[if_pos e]at h;cases hr0:readR z with
   |none=>rw[hr0]at h;cases h
   |some rs =>
    rw[hr0]at h;cases h;exact⟨_,rfl,z,rs,rfl,hz,hr0,fun p xs H' gp a2 s'=>k _ _ ⟨p,xs,rfl,gp,a2⟩ s'⟩
  have n0:kd≠Str.ofString "RULE" :=fun e=>h0 (decide_eq_true (by rw[e]));rw[if_neg n0]at h;refine⟨_,rfl,rfl,_,rfl,?_⟩;refine ite2 (fun h1=>?_) (fun h1=>?_)
  ·have e:kd=Str.ofString "HEAP" :=by simpa using h1
   rw[if_pos e]at h;cases hr0:jp z with
   |none=>rw[hr0]at h;cases h
   |some rs =>
    rw[hr0]at h;cases h;exact⟨_,rfl,z,rs,rfl,hz,hr0,fun p H' gp s' _=>k _ _ ⟨p,rfl,gp⟩ s'⟩
  have n1:kd≠Str.ofString "HEAP" :=fun e=>h1 (decide_eq_true (by rw[e]));rw[if_neg n1]at h;refine⟨_,rfl,rfl,_,rfl,?_⟩;refine ite2 (fun h2=>?_) (fun h2=>?_)
  ·have e:kd=Str.ofString "NUMBER" :=by simpa using h2
   rw[if_pos e]at h;cases hr0:readNum z with
   |none=>rw[hr0]at h;cases h
   |some rs =>
    rw[hr0]at h;cases h;exact⟨_,rfl,z,rs,rfl,hz,hr0,fun H' s'=>k _ _ rfl s'⟩
  have n2:kd≠Str.ofString "NUMBER" :=fun e=>h2 (decide_eq_true (by rw[e]));rw[if_neg n2]at h;cases hn:zO z with
  |false=>rw[hn]at h;cases h
  |true =>
   rw[hn]at h;cases h;exact⟨_,rfl,z,rfl,hn,fun H' s'=>k _ _ rfl s'⟩
def n_read_line:List Str:=["line","word","form","pieces"]
theorem jy:FnScope n_read_line ["line"] (z8 ky):=FS
inductive sp_read_line(A:Adr)(vs:List V)(H:Hp)(Q:VK)(E:XK):Prop
 |mk (z wd:Str) (as:List DArg):vs=[.str z]->z.length<=100000->readL z=some (wd,as)->(∀(p g:Addr)(gs:List V)(H':Hp),H' p=some (.tup [.str wd,.ref g])->H' g=some (.lst gs)->All2 ArgV H' as gs->Same H H'->Q (.ref p) H')->sp_read_line A vs H Q E
theorem ok_read_line(T:Txt P w K mg A):FnOk P w K mg base CX0 8 A.a22 A.f22 ["line"] (sp_read_line A):=by
 refine T.x22.F.ok jy (by walk_at "n") fun _ _ _ s H vs Q E hr h=>?_
 ·obtain⟨z,wd,as,rfl,hz,hR,k⟩:=h;refine⟨_,(z7 (pset 1 jy.nd (pix zA (yP PySem.F.plainAttrs_str PySem.F.slot_str_split PySem.F.type_str_split mt_split (pv 0) (pa1 zK)) zc))
    (z7 (zD (zi op_notInKD (pv 1) (yx (v:=.ref A.w13) rfl T.w48 rfl) rfl)
     (z9 zN) zk)
    (z7 (pset 2 jy.nd (pe_kdget (yx (v:=.ref A.w13) rfl T.w48 rfl) (pv 1) (fun _ _=>rfl)))
    (z7 (pset 3 jy.nd (yP PySem.F.plainAttrs_str PySem.F.slot_str_split PySem.F.type_str_split mt_splitM (pv 0) (pa2 zK (zq zp rfl T.w5 PySem.boot_len (pa1 (pv 2))))))
    (z7 (zD (PW.pt (jQ (zi op_ne (pix zA (pv 3) zc) (pv 1) (zr _)) (jS (zi op_le (zq zp rfl T.w5 PySem.boot_len (pa1 (pv 3))) (zq zp rfl T.w5 PySem.boot_len (pa1 (pv 2))) (zr _)))))
     (z9 zN) zk)
    (z9 (ps_try0 (z9 (zj (ym (pa2 (pv 1) (zY (ls:=["kind","piece"]) (fr:=[]) (csf (z8 ky) n_read_line) rfl (pi_zip true false rfl T.w14 (pa2 (pv 2) (jt sl_list (pv 3) (po_some zc) po_none))) (fun _ _ _ _=>pg_tupC 2 rfl (zS (pgc (ls:=["kind","piece"]) (fr:=[]) 0 (by decide+kernel) rfl rfl) (zS (pgc (ls:=["kind","piece"]) (fr:=[]) 1 (by decide+kernel) rfl rfl) jD)) rfl rfl) (fun _ _ _ _=>yf) (fun _ _ _ _=>(ka (ok_read_piece T) (hr.mono (by decide)) (glc (z8 ky)) T.x21.g T.x21.F.kp T.x21.b .nil yX (pa2 (pvc (z8 ky) 0) (pvc (z8 ky) 1)))))))))))))))),?_⟩
  obtain⟨form,hw,hf,rest,hp,hl,hps⟩:=readL_inv hR;obtain⟨ws,kd,keys,tups⟩:=T.w51;obtain⟨b,hb,kt⟩:=tups _ (show(wd,form)∈rows_FORMS from formOf_mem hf);dsimp only at hb kt;have f3:=form_len hf;have eb:Str.ofString " "=jI:=jY;refine⟨_,rfl,rfl,_,_,rfl,rfl,rfl,by omega,fun l hl0=>?_⟩;rw[eb];refine⟨l,_,0,_,rfl,rfl,SqL.of z6,zu (j:=0) (by rw[getElem?_map,split_ne0,hw];rfl),?_⟩;have s1:=Same.new (o:=.lst ((Txt.split z jI).map V.str)) hl0;generalize upd H l (.lst ((Txt.split z jI).map V.str))=H1 at s1 ⊢;refine⟨_,rfl,_,ws,wd,rfl,rfl,kd,_,rfl,?_⟩;rw[hb];refine iteF ?_;refine⟨_,rfl,_,b,ws,wd,rfl,rfl,kd,hb,?_⟩;refine⟨_,rfl,rfl,_,rfl,b,_,rfl,.inr kt.sq,_,_,_,rfl,rfl,rfl,⟨by omega,by rw[length_map];omega⟩,by omega,fun l2 hl2=>?_⟩;have ep:Txt.splitMax z jI ((form.map V.str).length:Int)=wd::rest:=by rw[length_map];exact hp
  rw[ep];have s2:=s1.trans (Same.new (o:=.lst ((wd::rest).map V.str)) hl2);have g2:=z6 (H:=H1) (a:=l2) (o:=.lst ((wd::rest).map V.str));generalize upd H1 l2 (.lst ((wd::rest).map V.str))=H2 at s2 g2 ⊢;refine⟨_,rfl,l2,_,0,_,rfl,rfl,SqL.of g2,zu (j:=0) rfl,_,rfl,rfl,_,rfl,?_⟩;refine iteNS rfl ?_;refine⟨_,rfl,l2,_,rfl,.inl (SqL.of g2),_,rfl,b,_,rfl,.inr kt.sq,_,_,rfl,rfl,_,rfl,?_⟩;refine ite2 (fun z=>absurd (of_decide_eq_true z) (by simp only[length_map,length_cons];omega)) (fun _=>?_);refine⟨_,rfl,_,rfl,_,rfl,?_⟩;dsimp only[wg,tNil];refine⟨1,rfl,l2,_,rfl,SqL.of g2,fun l3 hl3=>?_⟩;have e3:cutV ((wd::rest).map V.str) (some 1) none=rest.map V.str:=by rw[show(some (1:Int))=some ((1:Nat):Int)from rfl,cut_rest];rfl
  rw[e3];have s3:=s2.trans (Same.new (o:=.lst (rest.map V.str)) hl3);have g3:=z6 (H:=H2) (a:=l3) (o:=.lst (rest.map V.str));generalize upd H2 l3 (.lst (rest.map V.str))=H3 at s3 g3 ⊢;have hn:min (form.map V.str).length (rest.map V.str).length=form.length:=by rw[length_map,length_map];omega
  have hal:=readPs_len hl hps;refine⟨b,l3,rfl,⟨_,kt.sq⟩,⟨_,SqL.of g3⟩,comp_zip (xs:=form.map V.str) (ys:=rest.map V.str) (fun i zs σ' H'=>Same H3 H'/\(∃v w,σ'=[v,w])/\All2 ArgV H' (as.take i) zs) ⟨Same.refl _,⟨_,_,rfl⟩,.nil⟩ ?_ ?_ ?_⟩
  ·rintro i zs σ' H' hi ⟨s',_,a2⟩;refine⟨kt.sq,SqL.of (s' _ _ g3),?_⟩;rw[<-a2.length,length_take];exact le_trans (m:=3) (by omega) (by decide)
  ·rintro i x y zs σ' H' T' hx hy ⟨s',⟨v,w',rfl⟩,a2⟩ hT;rw[getElem?_map]at hx hy;obtain⟨kk,hk0,rfl⟩:=map_eq_some_iff.mp hx;obtain⟨pp,hp0,rfl⟩:=map_eq_some_iff.mp hy;obtain⟨aa,ha0,hra⟩:=readPs_at i hps hk0 hp0;have hi2:=(List.getElem?_eq_some_iff.mp ha0).1;have ea:=(List.getElem?_eq_some_iff.mp ha0).2;refine⟨T',_,rfl,SqT.of z6,rfl,_,_,rfl,_,_,rfl,rfl,?_⟩;have pl:pp.length<=100000:=le_trans (word_le (z:=z) (form:=form) (by rw[hp];exact mem_cons_of_mem _ (mem_of_getElem? hp0))) hz;refine⟨_,rfl,_,rfl,kk,pp,aa,rfl,pl,hra,fun v H'' hv s''=>?_⟩;have sn:=(Same.new (o:=.tup [V.str kk,V.str pp]) hT).trans s'';refine⟨s'.trans sn,⟨_,_,rfl⟩,?_⟩;rw[take_succ_eq_append_getElem hi2,ea];exact(a2.imp fun _ _ z=>z.mv sn.tups).snoc hv
  ·rintro zs σ' H' ⟨s',_,a2⟩ g hg;rw[hn,<-hal,take_length]at a2;refine⟨by show 2<=sizeLine;decide,fun t ht=>?_⟩;have sg:=Same.new (o:=.lst zs) hg;have st:=Same.new (o:=.tup [V.str wd,V.ref g]) ht;exact k t g zs _ z6 (st _ _ z6) (a2.imp fun _ _ z=>z.mv (sg.trans st).tups) (s3.trans (s'.trans (sg.trans st)))
def n_refuse_nameless:List Str:=["standing","word","given","kind","value"]
theorem kc:FnScope n_refuse_nameless ["standing","word","given"] (z8 jW):=FS
inductive sp_nameless(vs:List V)(H:Hp)(Q:VK)(E:XK):Prop
 |mk (d g:Addr) (kvs:List (Key×V)) (gs:List V) (S:Std) (wd:Str) (form:List Str) (as:List DArg):vs=[.ref d,.str wd,.ref g]->H d=some (.dK kvs)->StdV H S kvs->yU wd=some form->H g=some (.lst gs)->All2 ArgV H as gs->as.length=form.length->((∀(i:Nat),form[i]? =some (Str.ofString "NAME")-> ∀a,as[i]? =some a-> ∃n,a=DArg.name n))->zE S form as=none->(∀H',Same H H'->Q .non H')->sp_nameless vs H Q E
theorem ok_refuse_nameless(T:Txt P w K mg A):FnOk P w K mg base CX0 3 A.a23 A.f23 ["standing","word","given"] sp_nameless:=by
 refine T.x23.F.ok kc (by walk_at "n") fun _ _ _ s H vs Q E hr h=>?_
 ·obtain⟨d,g,kvs,gs,S,wd,form,as,rfl,hd,hS,hf,hg,ha,hl,hN,h0,k⟩:=h;refine⟨_,(z9 (yo PassesOwn.never rfl (pi_zip true false rfl T.w14 (pa2 (pe_kdget (yx (v:=.ref A.w13) rfl T.w48 rfl) (pv 1) (fun _ _=>rfl)) (pv 2))) (pg_tup rfl (zS (pgn 3 kc.nd) (zS (pgn 4 kc.nd) jD)))
     (z9 (zD (PW.pt (pw_and (zi yO (pv 3) zK (zr _)) (pw_and1 (zi (op_notInD (huR hr)) (pv 4) (pv 0) rfl))))
     (z9 zN) zk)))),?_⟩
  obtain⟨ws,kd,keys,tups⟩:=T.w51;obtain⟨b,hb,kt⟩:=tups _ (show(wd,form)∈rows_FORMS from formOf_mem hf);dsimp only at hb kt;have f3:=form_len hf;have hgl:=ha.length;refine⟨_,rfl,_,b,ws,wd,rfl,rfl,kd,hb,?_⟩;refine⟨_,rfl,b,g,rfl,⟨_,kt.sq⟩,⟨_,SqL.of hg⟩,for_zip (xs:=form.map V.str) (ys:=gs) (fun i σ' H'=>Same H H'/\(∃v w,σ'=[some (.ref d),some (.str wd),some (.ref g),v,w])/\zE S form as=zE S (form.drop i) (as.drop i)) ⟨Same.refl _,⟨_,_,rfl⟩,rfl⟩ ?_ ?_ ?_⟩
  ·rintro i σ' H' _ ⟨s',_⟩;exact⟨kt.sq,SqL.of (s' _ _ hg)⟩
  ·rintro i x y σ' H' T' hx hy ⟨s',⟨v,w',rfl⟩,en⟩ hT;rw[getElem?_map]at hx;obtain⟨kk,hk0,rfl⟩:=map_eq_some_iff.mp hx;obtain⟨aa,ha0,hav⟩:=ha.get hy;have st:=nl_step S form as i hk0 ha0;have sT:=s'.trans (Same.new (o:=.tup [V.str kk,y]) hT);refine⟨T',_,rfl,SqT.of z6,rfl,_,_,rfl,_,_,rfl,rfl,?_⟩;refine⟨_,rfl,rfl,_,rfl,?_⟩;refine ite2 (fun h1=>?_) (fun h1=>?_)
   ·have ek:kk=Str.ofString "NAME" :=by simpa using h1
    obtain⟨n,rfl⟩:=hN i (by rw[hk0,ek]) aa ha0;have ey:y= .str n:=hav;subst ey;rcases hS.val n with⟨e1,e2⟩|⟨r,v,e1,e2,_⟩
    ·refine⟨_,rfl,_,rfl,d,_,rfl,DGet.k (k:=Sum.inr n) (sT _ _ hd),_,rfl,?_⟩;rw[e2];have en2:zE S form as=some n:=by rw[en,st];exact if_pos ⟨ek,e1⟩
     rw[en2]at h0;cases h0
    ·refine⟨_,rfl,_,rfl,d,_,rfl,DGet.k (k:=Sum.inr n) (sT _ _ hd),_,rfl,?_⟩;rw[e2];refine iteF ⟨sT,⟨_,_,rfl⟩,?_⟩;rw[en,st];exact if_neg (fun z=>by rw[e1]at z;cases z.2)
   ·have ek:kk≠Str.ofString "NAME" :=fun e=>h1 (decide_eq_true (by rw[e]));refine⟨sT,⟨_,_,rfl⟩,?_⟩;rw[en,st];cases aa with
    |name n=>exact if_neg (fun z=>ek z.1)
    |rule _=>rfl
    |heap _=>rfl
    |num _=>rfl
  ·rintro σ' H' ⟨s',_,en⟩;have e0:min (form.map V.str).length gs.length=form.length:=by rw[length_map];omega
   rw[e0,List.drop_length,nl_nil]at en;exact k H' s'
def n_Desk_do_deed:List Str:=["self","standing"]
theorem sc_Desk_do_deed:FnScope n_Desk_do_deed ["self","standing"] (z8 s_Desk_do_deed):=FS
inductive sp_do_deed(A:Adr)(vs:List V)(H:Hp)(Q:VK)(E:XK):Prop
 |mk (x d':Addr) (kvs:List (Key×V)) (O:List Addr) (S S':Std) (past und:List Std):vs=[.ref x,.ref d']->DeskAt A.w12 H x O S past und->H d'=some (.dK kvs)->StdV H S' kvs->d'∉O->past.length<=1000->(∀(H':Hp)(O':List Addr),DeskAt A.w12 H' x O' S' (past++[S]) []->Keep O H H'->Tups H H'->(∀b∈O',b∈O\/b=d'\/H b=none)->Q .non H')->sp_do_deed A vs H Q E
theorem ok_Desk_do_deed(T:Txt P w K mg A):FnOk P w K mg base CX0 1 A.a24 A.f24 ["self","standing"] (sp_do_deed A):=by
 refine T.x24.F.ok sc_Desk_do_deed (by walk_at "n") fun _ _ _ s H vs Q E hr h=>?_
 ·obtain⟨x,d',kvs,O,S,S',past,und,rfl,D,hd',hS',no,hl,k⟩:=h;refine⟨_,(z7 (zV (yP PySem.F.plainAttrs_list PySem.F.slot_list_append PySem.F.type_list_append yk (pe_fld (pv 0) rfl) (pa1 (pe_fld (pv 0) rfl))))
    (z7 (ps_fld (pv 0) (pv 1) rfl)
    (z9 (ps_fld (pv 0) (y8 ye) rfl)))),?_⟩
  obtain⟨mx,al,dx,d,pl,ul,xs,ys,hx,hd,hp,ap,hu,au,mp,mu,npu⟩:=D;have apl:=ap.length;have nxp:x≠pl:=ne_of hx hp (by intro z;cases z);refine⟨_,rfl,x,A.w12,dx,_,_,rfl,hx,T.w40,T.w45,rfl,.inl ⟨rfl,_,SqL.of hp⟩,_,rfl,x,A.w12,dx,_,_,rfl,hx,T.w40,T.w46,rfl,pl,_,_,rfl,rfl,hp,lt_of_le_of_lt (m:=1000) (by omega) (by decide),?_⟩;refine⟨_,rfl,_,rfl,x,A.w12,dx,_,rfl,by rw[zh nxp];exact hx,T.w40,T.w46,(by show 3<1000;decide),?_⟩;refine⟨by show 0<=sizeLine;decide,fun ul' hul=>⟨_,rfl,x,A.w12,dx,dkF d' pl ul,rfl,?_,T.w40,T.w47,(by show 3<1000;decide),?_⟩⟩
  ·have:x≠ul':=fun e=>by rw[<-e,z6]at hul;cases hul
   rw[zh this,z6];rfl
  have nux:ul'≠x:=fun e=>by rw[e,z6]at hul;cases hul
  rw[zh nux]at hul;have nup:ul'≠pl:=fun e=>by rw[e,z6]at hul;cases hul
  rw[zh nup]at hul;have kp:∀b o,H b=some o->b≠x->b≠pl->upd (upd (upd (upd H pl (.lst (xs++[V.ref d]))) x (.ins A.w12 dx (dkF d' pl ul))) ul' (.lst [])) x (.ins A.w12 dx (dkF d' pl ul')) b=some o:=fun b o e n1 n2=>by
   rw[zh n1,zh (zo e hul),zh n1,zh n2];exact e
  have tp:Tups H (upd (upd (upd (upd H pl (.lst (xs++[V.ref d]))) x (.ins A.w12 dx (dkF d' pl ul))) ul' (.lst [])) x (.ins A.w12 dx (dkF d' pl ul'))):=fun b zs e=>kp b _ e (ne_of e hx (by intro z;cases z)) (ne_of e hp (by intro z;cases z));have kd:∀b kvs,b∈O->H b=some (.dK kvs)->upd (upd (upd (upd H pl (.lst (xs++[V.ref d]))) x (.ins A.w12 dx (dkF d' pl ul))) ul' (.lst [])) x (.ins A.w12 dx (dkF d' pl ul')) b=some (.dK kvs):=fun b kvs _ e=>kp b _ e (ne_of e hx (by intro z;cases z)) (ne_of e hp (by intro z;cases z));have ho:∀b∈O,b∈ul'::d'::O:=fun b hb=>by simp[hb]
  refine k _ (ul'::d'::O) ⟨ho _ mx,fun b hb=>?_,dx,d',pl,ul',xs++[V.ref d],[],z6,⟨d',kvs,rfl,by simp,?_,hS'.mv tp⟩,?_,(ap.to fun _ _ z=>z.mv tp kd ho).snoc (hd.mv tp kd ho),?_,.nil,ho _ mp,by simp,nup.symm⟩ (fun b o e n=>?_) tp (fun b hb=>?_)
  ·by_cases e1:b=x
   ·exact⟨_,by rw[e1,z6]⟩
   rw[zh e1];by_cases e2:b=ul'
   ·exact⟨_,by rw[e2,z6]⟩
   rw[zh e2,zh e1];have:b=ul'\/b=d'\/b∈O:=by simpa using hb
   rcases this with rfl|rfl|h
   ·exact absurd rfl e2
   ·exact upd_some hd'
   ·obtain⟨o,e⟩:=al b h;exact upd_some e
  ·exact kp _ _ hd' (fun e=>no (e▸mx)) (fun e=>no (e▸mp))
  ·rw[zh nxp.symm,zh nup.symm,zh nxp.symm,z6]
  ·rw[zh nux,z6]
  ·exact kp b o e (fun z=>n (z▸mx)) (fun z=>n (z▸mp))
  ·have:b=ul'\/b=d'\/b∈O:=by simpa using hb
   rcases this with rfl|rfl|h
   ·exact .inr (.inr hul)
   ·exact .inr (.inl rfl)
   ·exact .inl h
def n_Desk_do_put:List Str:=["self","name","rule","standing"]
theorem sc_Desk_do_put:FnScope n_Desk_do_put ["self","name","rule"] (z8 s_Desk_do_put):=FS
inductive sp_do_put(A:Adr)(vs:List V)(H:Hp)(Q:VK)(E:XK):Prop
 |mk (x:Addr) (n:Str) (v:V) (r:List (List Int)) (O:List Addr) (S:Std) (past und:List Std):vs=[.ref x,.str n,v]->DeskAt A.w12 H x O S past und->RuleV r v H->S.length<=1000->past.length<=1000->(∀(H':Hp)(O':List Addr),After A.w12 H H' x O O' (putS S n r) (past++[S]) []->Q .non H')->sp_do_put A vs H Q E
theorem ok_Desk_do_put(T:Txt P w K mg A):FnOk P w K mg base CX0 3 A.a25 A.f25 ["self","name","rule"] (sp_do_put A):=by
 refine T.x25.F.ok sc_Desk_do_put (by walk_at "n") fun _ _ _ s H vs Q E hr h=>?_
 ·obtain⟨x,n,v,r,O,S,past,und,rfl,D,hv,hs,hl,k⟩:=h;refine⟨_,(z7 (pset 3 sc_Desk_do_put.nd (zH call_dict_dict rfl T.w1 boot_dict (pa1 (pe_fld (pv 0) rfl))))
    (z7 (ps_dput (huR hr) (pv 3) (pv 1) (pv 2) rfl)
    (z9 (zV (ja (pv 0) T.w40 T.x24.mt (ok_Desk_do_deed T) (hr.mono (by decide)) T.x24.b .nil yX (pa1 (pv 3))))))),?_⟩
  have D0:=D;obtain⟨mx,al,dx,d,pl,ul,xs,ys,hx,⟨_,kvs,e,md,hd,sd⟩,hp,ap,hu,au,mp,mu,npu⟩:=D;cases e;refine⟨_,rfl,x,A.w12,dx,_,_,rfl,hx,T.w40,T.w46,rfl,d,kvs,rfl,hd,fun d' hd'=>?_⟩;have s1:=Same.new (o:=.dK kvs) hd';refine⟨_,rfl,_,rfl,_,rfl,d',_,rfl,DPut.k (k:=Sum.inr n) z6 (lt_of_le_of_lt (m:=1000) (by rw[sd.length];exact hs) (by decide)),?_⟩;rw[upd_upd];have s2:=Same.new (o:=.dK (putK kvs (Sum.inr n) v)) hd';refine⟨_,rfl,x,dx,_,rfl,s2 _ _ hx,rfl,_,rfl,x,d',_,O,S,putS S n r,past,und,rfl,D0.same s2,z6,?_,?_,hl,fun H' O' D' K' T' ho=>?_⟩
  ·exact(sd.mv s2.tups).put (hv.mv s2.tups)
  ·exact D0.nin hd'
  ·refine k H' O' ⟨D',fun b o e n=>K' b o (s2 _ _ e) n,s2.tups.trans T',fun b hb=>?_⟩;rcases ho b hb with h|rfl|h
   ·exact .inl h
   ·exact .inr hd'
   ·exact .inr (s2.free h)
def n_sum_of:List Str:=["heap"]
theorem sc_sum_of:FnScope n_sum_of ["heap"] (z8 s_sum_of):=FS
inductive sp_sum_of(K:W.Frag)(vs:List V)(H:Hp)(Q:VK)(E:XK):Prop
 |mk (a:Addr) (ns:List Int):vs=[.ref a]->SqT K H a (ns.map V.int)->Q (.int ns.sum) H->sp_sum_of K vs H Q E
theorem ok_sum_of(T:Txt P w K mg A):FnOk P w K mg base CX0 1 A.a26 A.f26 ["heap"] (sp_sum_of K):=by
 refine T.x26.F.ok sc_sum_of (by walk_at "n") fun _ _ _ s H vs Q E hr h=>?_
 ·obtain⟨a,ns,rfl,hS,k⟩:=h;refine⟨_,(z9 (zj (zq (call_sum_ints rfl) rfl T.w12 boot_sum (pa1 (pv 0))))),?_⟩;exact⟨_,rfl,a,ns,rfl,.inr hS,k⟩
def n_choices_among:List Str:=["numbers","choices","number"]
theorem yL:FnScope n_choices_among ["numbers"] (z8 yA):=FS
inductive sp_choices(vs:List V)(H:Hp)(Q:VK)(E:XK):Prop
 |mk (a:Addr) (ns:List Int):vs=[.ref a]->H a=some (.lst (ns.map V.int))->ns.length<=6->(∀(l:Addr)(xs:List V)(H':Hp),H' l=some (.lst xs)->All2 Tup1 H' (chG ns) xs->Same H H'->H l=none->Q (.ref l) H')->sp_choices vs H Q E
theorem ok_choices_among(T:Txt P w K mg A):FnOk P w K mg base CX0 1 A.a27 A.f27 ["numbers"] sp_choices:=by
 refine T.x27.F.ok yL (by walk_at "n") fun _ _ _ s H vs Q E hr h=>?_
 ·obtain⟨a,ns,rfl,ha,hln,k⟩:=h;refine⟨_,(z7 (pset 1 yL.nd (y8 (pa1 (ym ye))))
    (z7 (yo PassesOwn.never rfl (y4 (pv 0)) (pgn 2 yL.nd)
     (z9 (pset 1 yL.nd (zw op_cat (pv 1) (zY (ls:=["choice"]) (fr:=[("number",2)]) (csf (z8 yA) n_choices_among) rfl (y4 (pv 1)) (fun _ _ _ _=>pgc 0 (by decide+kernel) rfl rfl) (fun _ _ _ _=>yf) (fun _ _ _ _=>(zw (op_catAK K rfl) (pvc (z8 yA) 0) (ym (pa1 (pvc (z8 yA) 1))))))))))
    (z9 (zj (pv 1))))),?_⟩
  refine⟨by show 0<=sizeLine;decide,fun e he=>⟨by show 1<=sizeLine;decide,fun l0 hl0=>?_⟩⟩;have ne0:H l0=none:=(Same.new he).free hl0;refine⟨_,rfl,a,rfl,⟨_,SqL.of ((Same.new he).trans (Same.new hl0) _ _ ha)⟩,kX (xs:=ns.map V.int) (fun i σ' H'=>Same H H'/\i<=6/\ ∃l xs v,σ'=[some (.ref a),some (.ref l),v]/\H' l=some (.lst xs)/\H l=none/\All2 Tup1 H' (chG (ns.take i)) xs) ?_ ?_ ?_ ?_⟩
  ·refine⟨(Same.new he).trans (Same.new hl0),zero_le _,l0,[.ref e],_,rfl,z6,ne0,.cons ⟨e,rfl,?_⟩ .nil⟩;exact Same.new hl0 _ _ z6
  ·rintro i σ' H' _ ⟨s,_⟩;exact SqL.of (s _ _ ha)
  ·rintro i x σ' H' hx ⟨s,hi6,l,xs,v,rfl,gl,nl,h2⟩;obtain⟨z,hz,rfl⟩:=jr hx;have hi:=(List.getElem?_eq_some_iff.mp hz).1;have ez:=(List.getElem?_eq_some_iff.mp hz).2;have hlen:=chG_len i (ns.take i) (by rw[length_take];omega);have hmem:=chG_mem i (ns.take i) (by rw[length_take];omega);have hlx:xs.length<=64:=by
    rw[<-h2.length,hlen];exact le_trans (Nat.pow_le_pow_right (by decide) hi6) (by decide)
   refine⟨_,rfl,_,rfl,l,rfl,⟨_,SqL.of gl⟩,yY (xs:=xs) (fun j ys σ' H2=>Same H' H2/\(∃v,σ'=[v,some (.int z)])/\All2 Tup1 H2 (((chG (ns.take i)).take j).map (· ++[z])) ys) ⟨fun _ _ h=>h,⟨_,rfl⟩,.nil⟩ ?_ ?_ ?_⟩
   ·rintro j ys σ' H2 hj ⟨s2,_,h3⟩;refine⟨SqL.of (s2 _ _ gl),?_⟩;rw[<-h3.length,length_map,length_take];refine le_trans (m:=64) (by omega) (by decide)
   ·rintro j x ys σ' H2 hx ⟨s2,⟨v,rfl⟩,h3⟩;obtain⟨hs,hhs,q,rfl,hq⟩:=h2.get hx;have hj:=(List.getElem?_eq_some_iff.mp hhs).1;have eh:=(List.getElem?_eq_some_iff.mp hhs).2;refine⟨_,rfl,_,rfl,by show 1<=sizeLine;decide,fun t ht=>?_⟩;have hl1:hs.length<=60:=by
     have:=(hmem hs (mem_of_getElem? hhs)).1;omega
    refine cat_one (Same.new ht _ _ (s2 _ _ hq)) z6 hl1 fun v H3 hv s3=>?_;have sn:=(Same.new (o:=.tup [V.int z]) ht).trans s3;refine⟨s2.trans sn,⟨_,rfl⟩,?_⟩;rw[take_succ_eq_append_getElem hj,map_append,eh];exact(h3.mv sn.tups).snoc hv
   ·rintro ys σ' H2 ⟨s2,⟨v,rfl⟩,h3⟩ l2 hl2;have et:(chG (ns.take i)).take xs.length=chG (ns.take i):=by rw[<-h2.length,take_length]
    rw[et]at h3;have hly:ys.length<=64:=by
     rw[<-h3.length,length_map,h2.length];exact hlx
    refine⟨l,l2,xs,ys,rfl,rfl,Same.new hl2 _ _ (s2 _ _ gl),z6,le_trans (m:=128) (by omega) (by decide),fun l3 hl3=>?_⟩;have sn:=s2.trans ((Same.new (o:=.lst ys) hl2).trans (Same.new (o:=.lst (xs++ys)) hl3));refine⟨s.trans sn,by omega,l3,xs++ys,_,rfl,z6,(s.trans (s2.trans (Same.new hl2))).free hl3,?_⟩;rw[take_succ_eq_append_getElem hi,ez,chG_snoc];exact(h2.mv sn.tups).append (h3.mv ((Same.new hl2).trans (Same.new hl3)).tups)
  ·rintro σ' H' ⟨s,_,l,xs,v,rfl,gl,nl,h2⟩;rw[length_map,take_length]at h2;exact⟨_,rfl,k l xs H' gl h2 s nl⟩
def n_choices_of:List Str:=["rule"]
theorem sc_choices_of:FnScope n_choices_of ["rule"] (z8 s_choices_of):=FS
inductive sp_choices_of(vs:List V)(H:Hp)(Q:VK)(E:XK):Prop
 |mk (a:Addr) (rs:List V):vs=[.ref a]->H a=some (.tup rs)->rs.length<=6->(∀(l:Addr)(xs:List V)(H':Hp),H' l=some (.lst xs)->All2 Tup1 H' (chG (upto rs.length)) xs->Same H H'->H l=none->Q (.ref l) H')->sp_choices_of vs H Q E
theorem ok_choices_of(T:Txt P w K mg A):FnOk P w K mg base CX0 2 A.a28 A.f28 ["rule"] sp_choices_of:=by
 refine T.x28.F.ok sc_choices_of (by walk_at "n") fun _ _ _ s H vs Q E hr h=>?_
 ·obtain⟨a,rs,rfl,ha,hln,k⟩:=h;refine⟨_,(z9 (zj (pcl (ok_choices_among T) hr T.x27 (pa1 (zH (call_list_rng rfl) rfl T.w6 boot_list (pa1 (pe_rng1 rfl T.w9 (pa1 (zq zp rfl T.w5 PySem.boot_len (pa1 (pv 0))))))))))),?_⟩;refine⟨_,rfl,a,_,rfl,.inr (SqT.of ha),_,rfl,fun r hr'=>⟨r,_,rfl,z6,by omega,by omega,fun l hl=>?_⟩⟩;rw[toNat_natCast];refine⟨l,upto rs.length,rfl,z6,by rw[upto_len];exact hln,fun l2 xs H' gl h2 s nl=>?_⟩;exact k l2 xs H' gl h2 (((Same.new hr').trans (Same.new hl)).trans s) (((Same.new hr').trans (Same.new hl)).free nl)
def n_often:List Str:=["heap","part"]
theorem sc_often:FnScope n_often ["heap","part"] (z8 s_often):=FS
inductive sp_often(K:W.Frag)(vs:List V)(H:Hp)(Q:VK)(E:XK):Prop
 |mk (a:Addr) (ns:List Int) (y:Int):vs=[.ref a,.int y]->H a=some (.tup (ns.map V.int))->Q (.int (ns.count y:Nat)) H->sp_often K vs H Q E
theorem ok_often(T:Txt P w K mg A):FnOk P w K mg base CX0 1 A.a29 A.f29 ["heap","part"] (sp_often K):=by
 refine T.x29.F.ok sc_often (by walk_at "n") fun _ _ _ s H vs Q E hr h=>?_
 ·obtain⟨a,ns,y,rfl,hS,k⟩:=h;refine⟨_,(z9 (zj (yP PySem.F.plainAttrs_tuple PySem.F.slot_tuple_count PySem.F.type_tuple_count mt_countT (pv 0) (pa1 (pv 1))))),?_⟩;exact⟨_,rfl,.inr (.inl ⟨rfl,.inr ⟨_,hS⟩⟩),_,rfl,a,_,_,rfl,rfl,SqT.of hS,rfl,j6 _,by rw[cntV_ints];exact k⟩
def n_unlike_parts:List Str:=["heaps","seen","heap","part"]
theorem kg:FnScope n_unlike_parts ["heaps"] (z8 s_unlike_parts):=FS
inductive sp_unlike(vs:List V)(H:Hp)(Q:VK)(E:XK):Prop
 |mk (a:Addr) (xs:List V) (ls:List (List Int)):vs=[.ref a]->H a=some (.lst xs)->All2 Tup1 H ls xs->((∃D:List Int,D.length<64/\ ∀x∈ls.flatten,x∈D)/\ls.flatten.length<1000)->(∀(l:Addr)(us:List Int)(H':Hp),H' l=some (.lst (us.map V.int))->us.Nodup->us.Pairwise (· >= ·)->(∀x,x∈us↔x∈ls.flatten)->us.length<64->Same H H'->H l=none->Q (.ref l) H')->sp_unlike vs H Q E
theorem ok_unlike_parts(T:Txt P w K mg A):FnOk P w K mg base CX0 1 A.a30 A.f30 ["heaps"] sp_unlike:=by
 refine T.x30.F.ok kg (by walk_at "n") fun _ _ _ s H vs Q E hr h=>?_
 ·obtain⟨a,xs,ls,rfl,ha,h2,⟨⟨D,hD,hDm⟩,hln⟩,k⟩:=h;refine⟨_,(z7 (pset 1 kg.nd pe_dnewK)
    (z7 (yo PassesOwn.never rfl (y4 (pv 0)) (pgn 2 kg.nd)
     (z9 (yo PassesOwn.never rfl (jP (pv 2)) (pgn 3 kg.nd)
     (z9 (ps_dput (huR hr) (pv 1) (pv 3) pe_bl rfl)))))
    (z9 (zj (pe_sortD rfl rfl T.w10 (pv 1)))))),?_⟩
  refine fun d hd=>?_;have hlc:∀i j (x:List Int),ls[i]? =some x->((ls.take i).flatten++x.take j).length<1000:=fun i j x hx=>by
   have hi:=(List.getElem?_eq_some_iff.mp hx).1;have ex:=(List.getElem?_eq_some_iff.mp hx).2;have e1:ls.flatten=(ls.take i).flatten++(x++(ls.drop (i+1)).flatten):=by
    conv=>lhs;rw[<-List.take_append_drop i ls]
    rw[List.flatten_append,drop_eq_getElem_cons hi,ex,flatten_cons]
   rw[e1]at hln;simp only[length_append,length_take]at hln ⊢;omega
  have hlen:=h2.length;refine⟨_,rfl,a,rfl,⟨_,SqL.of (Same.new hd _ _ ha)⟩,kX (xs:=xs) (fun i σ' H'=>SeenU H H' d (ls.take i).flatten/\ ∃v w,σ'=[some (.ref a),some (.ref d),v,w]) ⟨⟨⟨[],[],z6,rfl,.nil,le_refl _,fun x=>Iff.rfl⟩,Same.new hd,hd⟩,_,_,rfl⟩ ?_ ?_ ?_⟩
  ·rintro i σ' H' _ ⟨S,_⟩;exact SqL.of (S.sm _ _ ha)
  ·rintro i x σ' H' hx ⟨S,v,w',rfl⟩;obtain⟨hs,hhs,q,rfl,hq⟩:=h2.get hx;refine⟨_,rfl,q,rfl,⟨_,SqT.of (S.sm _ _ hq)⟩,for_tup (xs:=hs.map V.int) (fun j σ' H'=>SeenU H H' d ((ls.take i).flatten++hs.take j)/\ ∃w,σ'=[some (.ref a),some (.ref d),some (.ref q),w]) ⟨by rw[List.take_zero,append_nil];exact S,_,rfl⟩ ?_ ?_ ?_⟩
   ·rintro j σ' H2 _ ⟨S2,_⟩;exact SqT.of (S2.sm _ _ hq)
   ·rintro j x σ' H2 hx2 ⟨S2,w2,rfl⟩;obtain⟨z,hz,rfl⟩:=jr hx2;have hj:=(List.getElem?_eq_some_iff.mp hz).1;have ez:=(List.getElem?_eq_some_iff.mp hz).2;obtain⟨H3,hp,S3⟩:=S2.put (z:=z) (by have:=hlc i j hs hhs;omega);refine⟨_,rfl,_,rfl,d,H3,rfl,hp,?_,_,rfl⟩;rw[take_succ_eq_append_getElem hj,ez,<-append_assoc];exact S3
   ·rintro σ' H2 ⟨S2,w2,rfl⟩;rw[length_map,take_length]at S2;have hi:=(List.getElem?_eq_some_iff.mp hhs).1;have ez:=(List.getElem?_eq_some_iff.mp hhs).2;refine⟨?_,_,_,rfl⟩;rw[take_succ_eq_append_getElem hi,List.flatten_append,ez];simpa using S2
  ·rintro σ' H2 ⟨S2,v,w2,rfl⟩;rw[<-hlen,take_length]at S2;obtain⟨⟨kvs,ns,hd2,hk,hnd,hn,hm⟩,sm,nw⟩:=S2;have hlD:ns.length<=D.length:=nodup_len hnd fun x hx=>hDm x ((hm x).mp hx);refine⟨_,rfl,d,kvs,ns,rfl,hd2,hk,by omega,fun us l nd hperm hord hl=>?_⟩;exact k l us _ z6 (hperm.nodup_iff.mpr nd) hord (fun x=>by rw[hperm.mem_iff,hm]) (by rw[hperm.length_eq];omega) (Same.trans sm (Same.new hl)) (Same.free sm hl)
def n_joined:List Str:=["heaps","parts","part"]
theorem sc_joined:FnScope n_joined ["heaps"] (z8 s_joined):=FS
inductive sp_joined(vs:List V)(H:Hp)(Q:VK)(E:XK):Prop
 |mk (a:Addr) (xs:List V) (ls:List (List Int)):vs=[.ref a]->H a=some (.lst xs)->All2 Tup1 H ls xs->((∃D:List Int,D.length<64/\ ∀x∈ls.flatten,x∈D)/\ls.flatten.length<1000)->ls.length<=60->(∀(p:Addr)(ms:List Int)(H':Hp),H' p=some (.tup (ms.map V.int))->IsJoin ls ms->ms.length<=100000->Same H H'->H p=none->Q (.ref p) H')->sp_joined vs H Q E
theorem ok_joined(T:Txt P w K mg A):FnOk P w K mg base CX0 2 A.a31 A.f31 ["heaps"] sp_joined:=by
 refine T.x31.F.ok sc_joined (by walk_at "n") fun _ _ _ s H vs Q E hr h=>?_
 ·obtain⟨a,xs,ls,rfl,ha,h2,hln,hls,k⟩:=h;refine⟨_,(z7 (pset 1 sc_joined.nd (y8 ye))
    (z7 (yo PassesOwn.never rfl (y4 (pcl (ok_unlike_parts T) hr T.x30 (pa1 (pv 0)))) (pgn 2 sc_joined.nd)
     (z9 (zV (yP PySem.F.plainAttrs_list PySem.F.slot_list_extend PySem.F.type_list_extend mt_extend (pv 1) (pa1 (zw op_rep (y8 (pa1 (pv 2 (hv:=Or.inr (Or.inl rfl))))) (zq (call_max_ints rfl) rfl T.w7 boot_max (pa1 (zY (ls:=["heap"]) (fr:=[("part",2)]) (csf (z8 s_joined) n_joined) rfl (y4 (pv 0)) (fun _ _ _ _=>pgc 0 (by decide+kernel) rfl rfl) (fun _ _ _ _=>yf) (fun _ _ _ _=>(ka (ok_often T) (hr.mono (by decide)) (glc (z8 s_joined)) T.x29.g T.x29.F.kp T.x29.b .nil yX (pa2 (pvc (z8 s_joined) 0) (pvc (z8 s_joined) 1)))))))))))))
    (z9 (zj (zH zZ rfl T.w13 boot_tuple (pa1 (pv 1))))))),?_⟩
  refine⟨by show 0<=sizeLine;decide,fun pa hpa=>?_⟩;have h2a:=h2.mv (Same.new (o:=.lst []) hpa).tups;refine⟨_,rfl,a,xs,ls,rfl,Same.new hpa _ _ ha,h2a,hln,fun l us H1 hl nd pw hm hul s1 nl=>?_⟩;have s01:Same H H1:=(Same.new hpa).trans s1;have npl:pa≠l:=zo (z6 (H:=H) (a:=pa) (o:=.lst [])) nl;refine⟨l,rfl,⟨_,SqL.of hl⟩,kX (xs:=us.map V.int) (fun i σ' H'=>(∀b o,H1 b=some o->b≠pa->H' b=some o)/\H' pa=some (.lst ((blow (maxC ls) (us.take i)).map V.int))/\(blow (maxC ls) (us.take i)).length<=1000*i/\i<=64/\ ∃v,σ'=[some (.ref a),some (.ref pa),v]) ⟨fun _ _ h _=>h,s1 _ _ z6,le_refl _,zero_le _,_,rfl⟩ ?_ ?_ ?_⟩
  ·rintro i σ' H' _ ⟨kp,_⟩;exact SqL.of (kp _ _ hl npl.symm)
  ·rintro i x σ' H' hx ⟨kp,gp,hle,hi64,v,rfl⟩;obtain⟨z,hz,rfl⟩:=jr hx;have hi:=(List.getElem?_eq_some_iff.mp hz).1;have ez:=(List.getElem?_eq_some_iff.mp hz).2;have ha':H' a=some (.lst xs):=kp _ _ (s01 _ _ ha) (zo ha hpa);have t1:Tups H H':=fun b ys e=>kp _ _ (s01 _ _ e) (zo e hpa);have h2':=h2.mv t1;have zm:z∈ls.flatten:=(hm z).mp (mem_of_getElem? hz);refine⟨_,rfl,.inl ⟨rfl,_,SqL.of gp⟩,_,rfl,by show 1<=sizeLine;decide,fun l1 hl1=>?_⟩;have h2b:=h2'.mv (Same.new (o:=.lst [V.int z]) hl1).tups;have hab:=(Same.new (o:=.lst [V.int z]) hl1) _ _ ha';have gpb:=(Same.new (o:=.lst [V.int z]) hl1) _ _ gp;generalize hHb:upd H' l1 (.lst [V.int z])=Hb at h2b hab gpb;have gl1:Hb l1=some (.lst [V.int z]):=by rw[<-hHb];exact z6
   have sb:Same H' Hb:=by rw[<-hHb];exact Same.new hl1
   refine⟨_,rfl,a,rfl,⟨_,SqL.of hab⟩,yY (xs:=xs) (fun j ys σ' H'=>H'=Hb/\(∃v,σ'=[v,some (.int z)])/\ys=((ls.take j).map fun h=>((h.count z:Nat):Int)).map V.int) ⟨rfl,⟨_,rfl⟩,rfl⟩ ?_ ?_ ?_⟩
   ·rintro j ys σ' H'' hj ⟨rfl,_,rfl⟩;refine⟨SqL.of hab,?_⟩;rw[length_map,length_map,length_take];exact yR (by omega)
   ·rintro j x ys σ' H'' hx ⟨rfl,⟨v,rfl⟩,rfl⟩;obtain⟨hs,hhs,q,rfl,hq⟩:=h2b.get hx;have hj:=(List.getElem?_eq_some_iff.mp hhs).1;have eh:=(List.getElem?_eq_some_iff.mp hhs).2;refine⟨_,rfl,_,rfl,q,hs,z,rfl,hq,rfl,⟨_,rfl⟩,?_⟩;rw[take_succ_eq_append_getElem hj,map_append,map_append,eh];rfl
   ·rintro ys σ' Hb ⟨rfl,_,rfl⟩ l2 hl2;have elen:ls.take xs.length=ls:=by rw[<-h2.length,take_length]
    rw[elen];have hne:(ls.map fun h=>((h.count z:Nat):Int))≠[]:=fun e=>by
     have:ls=[]:=List.map_eq_nil_iff.mp e;rw[this]at zm;cases zm
    refine⟨l2,_,rfl,SqL.of z6,hne,fun m hmx=>?_⟩;have em:=max_of_counts hmx;have hM:maxC ls z<=1000:=by
     have h1:=maxC_flat ls z;have h2:=List.count_le_length (a:=z) (l:=ls.flatten);omega
    refine⟨l1,m,[V.int z],rfl,rfl,Same.new hl2 _ _ gl1,by omega,by omega,?_,fun l3 hl3=>?_⟩
    ·show 1*m.toNat<=sizeLine;refine le_trans (m:=1000) (by omega) (by decide)
    have er:(replicate m.toNat [V.int z]).flatten=(replicate (maxC ls z) z).map V.int:=by
     have:m.toNat=maxC ls z:=by omega
     rw[this];simp
    rw[er];have gp3:=(Same.new (o:=.lst ((replicate (maxC ls z) z).map V.int)) hl3) _ _ ((Same.new (o:=.lst ((ls.map fun h=>((h.count z:Nat):Int)).map V.int)) hl2) _ _ gpb);have sn:Same H' (upd (upd Hb l2 (.lst ((ls.map fun h=>((h.count z:Nat):Int)).map V.int))) l3 (.lst ((replicate (maxC ls z) z).map V.int))):=sb.trans ((Same.new hl2).trans (Same.new hl3));refine⟨pa,l3,_,_,rfl,rfl,gp3,z6,?_,?_⟩
    ·rw[length_map,length_map,List.length_replicate];refine le_trans (m:=1000*64+1000) ?_ (by decide);have:1000*i<=1000*64:=Nat.mul_le_mul_left _ hi64;omega
    ·have eb:blow (maxC ls) (us.take (i+1))=blow (maxC ls) (us.take i)++replicate (maxC ls z) z:=by
      rw[take_succ_eq_append_getElem hi,blow_append,ez];simp[blow]
     refine⟨fun b o e ne=>?_,?_,?_,by omega,_,rfl⟩
     ·rw[zh ne];exact sn _ _ (kp _ _ e ne)
     ·rw[z6,eb,map_append]
     ·rw[eb,length_append,List.length_replicate];omega
  ·rintro σ' H' ⟨kp,gp,hle,_,v,rfl⟩;rw[length_map,take_length]at gp hle;refine⟨_,rfl,pa,_,rfl,.inl ⟨SqL.of gp,fun p hp=>?_⟩⟩;have sH:Same H H':=fun b o e=>kp _ _ (s01 _ _ e) (zo e hpa);refine k p _ _ z6 (blow_join nd pw hm) (by omega) (sH.trans (Same.new hp)) (sH.free hp)
def n_joined_of:List Str:=["rule","choice"]
theorem sc_joined_of:FnScope n_joined_of ["rule","choice"] (z8 je):=FS
inductive sp_joined_of(vs:List V)(H:Hp)(Q:VK)(E:XK):Prop
 |mk (p c:Addr) (rs:List V) (rule:List (List Int)) (ch:List Int):vs=[.ref p,.ref c]->H p=some (.tup rs)->All2 Tup1 H rule rs->H c=some (.tup (ch.map V.int))->(((∃D:List Int,D.length<64/\ ∀x∈(zI rule ch).flatten,x∈D)/\(zI rule ch).flatten.length<1000)/\ch.length<=60)->(∀j∈ch,0<=j/\j<rule.length)->(∀(q:Addr)(ms:List Int)(H':Hp),H' q=some (.tup (ms.map V.int))->IsJoin (zI rule ch) ms->ms.length<=100000->Same H H'->H q=none->Q (.ref q) H')->sp_joined_of vs H Q E
theorem js(T:Txt P w K mg A):FnOk P w K mg base CX0 3 A.a32 A.f32 ["rule","choice"] sp_joined_of:=by
 refine T.x32.F.ok sc_joined_of (by walk_at "n") fun _ _ _ s H vs Q E hr h=>?_
 ·obtain⟨p,c,rs,rule,ch,rfl,hp,h2,hc,hln,hch,k⟩:=h;refine⟨_,(z9 (zj (pcl (ok_joined T) hr T.x31 (pa1 (zY (ls:=["number"]) (fr:=[("rule",0)]) (csf (z8 je) n_joined_of) rfl (jP (pv 1)) (fun _ _ _ _=>pgc 0 (by decide+kernel) rfl rfl) (fun _ _ _ _=>yf) (fun _ _ _ _=>(pix (ix_tupK K rfl) (pvc (z8 je) 1) (pvc (z8 je) 0)))))))),?_⟩;refine⟨_,rfl,c,rfl,⟨_,SqT.of hc⟩,comp_tup (xs:=ch.map V.int) (fun i ys σ' H'=>H'=H/\(∃v,σ'=[v,some (.ref p)])/\All2 Tup1 H (zI rule (ch.take i)) ys) ⟨rfl,⟨_,rfl⟩,.nil⟩ ?_ ?_ ?_⟩
  ·rintro i ys σ' H' hi ⟨rfl,_,h3⟩;refine⟨SqT.of hc,?_⟩;rw[<-h3.length];unfold zI;rw[length_map,length_take];exact yR (by omega)
  ·rintro i x ys σ' H' hx ⟨rfl,⟨v,rfl⟩,h3⟩;obtain⟨z,hz,rfl⟩:=jr hx;have hi:=(List.getElem?_eq_some_iff.mp hz).1;have ez:=(List.getElem?_eq_some_iff.mp hz).2;have hb:=hch z (mem_of_getElem? hz);obtain⟨w',hw,r⟩:=pick_at h2 hb.1 hb.2;refine⟨_,rfl,_,rfl,p,_,z,_,rfl,rfl,SqT.of hp,hw,rfl,⟨_,rfl⟩,?_⟩;rw[take_succ_eq_append_getElem hi,ez];unfold zI;rw[map_append];exact h3.snoc r
  ·rintro ys σ' H' ⟨rfl,_,h3⟩ l hl;rw[length_map,take_length]at h3;have hll:(zI rule ch).length<=60:=by unfold zI;rw[length_map];exact hln.2
   exact⟨l,ys,_,rfl,z6,h3.mv (Same.new hl).tups,hln.1,hll,fun q ms H2 gq hj hl4 s nq=>k q ms H2 gq hj hl4 ((Same.new hl).trans s) ((Same.new hl).free nq)⟩
def n_refuse_beyond:List Str:=["n","most"]
theorem sc_refuse_beyond:FnScope n_refuse_beyond ["n","most"] (z8 s_refuse_beyond):=FS
inductive sp_refuse(A:Adr)(vs:List V)(H:Hp)(Q:VK)(E:XK):Prop
 |mk (n m:Int):vs=[.int n,.int m]->(0<=m/\m<=400)->(((0<=n/\n<=m/\Q .non H)\/False))->sp_refuse A vs H Q E
theorem kU(T:Txt P w K mg A):FnOk P w K mg base CX0 1 A.a33 A.f33 ["n","most"] (sp_refuse A):=by
 refine T.x33.F.ok sc_refuse_beyond (by walk_at "n") fun _ _ _ s H vs Q E hr h=>?_
 ·obtain⟨n,m,rfl,hm,h⟩:=h;refine⟨_,(z9 (zD (PW.pt (jQ (zi op_lt (pv 0) zc (zr _)) (jS (zi op_gt (pv 0) (pv 1) (zr _)))))
     (z9 zN) zk)),?_⟩
  rcases h with⟨h1,h2,q⟩|z
  ·refine⟨_,rfl,_,_,rfl,rfl,_,rfl,?_⟩;refine ite2 (fun hc=>absurd (of_decide_eq_true hc) (by omega)) (fun hc=>?_);refine⟨_,rfl,_,rfl,_,_,rfl,rfl,_,rfl,?_⟩;exact ite2 (fun hc2=>absurd (of_decide_eq_true hc2) (by omega)) (fun hc2=>q)
  ·exact z.elim
def n_sign_of:List Str:=["pair"]
theorem sc_sign_of:FnScope n_sign_of ["pair"] (z8 s_sign_of):=FS
inductive sp_sign_of(vs:List V)(H:Hp)(Q:VK)(E:XK):Prop
 |mk (pc:List Int×List Int) (v:V):vs=[v]->Pair1 pc v H->Q (.int (sgnG pc.2)) H->sp_sign_of vs H Q E
theorem ok_sign_of(T:Txt P w K mg A):FnOk P w K mg base CX0 1 A.a34 A.f34 ["pair"] sp_sign_of:=by
 refine T.x34.F.ok sc_sign_of (by walk_at "n") fun _ _ _ s H vs Q E hr h=>?_
 ·obtain⟨pc,v,rfl,hv,k⟩:=h;refine⟨_,(z9 (zj (pe_ifExp (zi yO (zw op_mod (zq zp rfl T.w5 PySem.boot_len (pa1 (pix zR (pv 0) zc))) zc) zc (zr _)) zc (pe_un un_neg zc)))),?_⟩;obtain⟨q,a,b,rfl,g1,g2,g3⟩:=hv;refine⟨_,rfl,q,_,_,_,rfl,rfl,SqT.of g1,zu (j:=1) rfl,b,_,rfl,.inr (SqT.of g3),_,_,rfl,rfl,(show(0:Int)<2 by decide),rfl,_,rfl,?_⟩;rw[length_map];unfold sgnG at k;refine ite2 (fun hc=>?_) (fun hc=>?_)
  ·have e:((pc.2.length:Nat):Int)%2=0:=by simpa using hc
   rw[if_pos (by omega)]at k;exact k
  ·have e:¬((pc.2.length:Nat):Int)%2=0:=fun z=>hc (by simpa using z);rw[if_neg (by omega)]at k;exact⟨_,rfl,k⟩
def n_next_way:List Str:=["ways","n","total","sign","m"]
theorem yj:FnScope n_next_way ["ways"] (z8 s_next_way):=FS
inductive sp_next_way(vs:List V)(H:Hp)(Q:VK)(E:XK):Prop
 |mk (l:Addr) (n:Nat):vs=[.ref l]->H l=some (.lst ((wayR n).reverse.map V.int))->n<=400->Q (.int (nextR (wayR n) (n+1:Nat) (n+3) 1 1 0)) H->sp_next_way vs H Q E
theorem ok_next_way(T:Txt P w K mg A):FnOk P w K mg base CX0 1 A.a35 A.f35 ["ways"] sp_next_way:=by
 refine T.x35.F.ok yj (by walk_at "n") fun _ _ _ s H vs Q E hr h=>?_
 ·obtain⟨l,n,rfl,hl,hn,k⟩:=h;refine⟨_,(z7 (pset 1 yj.nd (zq zp rfl T.w5 PySem.boot_len (pa1 (pv 0))))
    (z7 (pset 2 yj.nd zc)
    (z7 (pset 3 yj.nd zc)
    (z7 (pset 4 yj.nd zc)
    (z7 (ps_while PassesOwn.never (zi op_le (zw yu (zw yG (pv 4) (zw op_sub (zw yG zc (pv 4)) zc)) zc) (pv 1) (zr _))
     (z7 (ps_aug (i:=2) yj.nd rfl (by first|exact Or.inl rfl|exact Or.inr rfl) (zw yG (pv 3) (pix zA (pv 0) (zw op_sub (pv 1) (zw yu (zw yG (pv 4) (zw op_sub (zw yG zc (pv 4)) zc)) zc)))) ip_add)
    (z7 (zD (zi op_le (zw yu (zw yG (pv 4) (zw kH (zw yG zc (pv 4)) zc)) zc) (pv 1) (zr _))
     (z9 (ps_aug (i:=2) yj.nd rfl (by first|exact Or.inl rfl|exact Or.inr rfl) (zw yG (pv 3) (pix zA (pv 0) (zw op_sub (pv 1) (zw yu (zw yG (pv 4) (zw kH (zw yG zc (pv 4)) zc)) zc)))) ip_add)) zk)
    (z7 (pset 3 yj.nd (pe_un un_neg (pv 3)))
    (z9 (ps_aug (i:=4) yj.nd rfl (by first|exact Or.inl rfl|exact Or.inr rfl) zc ip_add))))))
    (z9 (zj (pv 2)))))))),?_⟩
  have hlen:((wayR n).reverse.map V.int).length=n+1:=by rw[length_map,List.length_reverse,wayR_len]
  refine⟨_,rfl,l,_,rfl,.inl (SqL.of hl),?_⟩;rw[hlen];refine⟨fun f σ' H'=>H'=H/\ ∃(m s t:Int),σ'=[some (.ref l),some (.int ((n+1:Nat):Int)),some (.int t),some (.int s),some (.int m)]/\1<=m/\m<=n+2/\(n:Int)+3<=m+f/\(s=1\/s= -1)/\nextR (wayR n) (n+1:Nat) f m s t=nextR (wayR n) (n+1:Nat) (n+3) 1 1 0,⟨n+3,rfl,1,1,0,rfl,by decide,by omega,by omega,.inl rfl,rfl⟩,?_⟩;rintro f σ' H' ⟨eH,m,s,t,rfl,m1,m2,hf,hs,ht⟩;subst eH;have hw:=wayR_len n;refine⟨_,rfl,_,rfl,_,_,rfl,rfl,.inl (by decide),_,_,rfl,rfl,_,_,rfl,rfl,.inl ⟨by omega,by omega⟩,_,_,rfl,rfl,⟨by decide,by decide⟩,_,rfl,_,_,rfl,rfl,_,rfl,?_⟩;refine ite2 (fun hA=>?_) (fun hA=>?_)
  ·have hA':pentA m<=((n+1:Nat):Int):=of_decide_eq_true hA;have gA:=pentA_ge m1;have gB:=pentB_ge m1;have hsb:-(2^64)<s/\s<2^64:=by rcases hs with rfl|rfl <;>exact⟨by decide,by decide⟩
   obtain⟨g,rfl⟩:∃g,f=g+1:=⟨f-1,by omega⟩;rw[nextR,if_pos hA']at ht;refine⟨fun σ3 H3=>H3=H'/\ σ3=[some (.ref l),some (.int ((n+1:Nat):Int)),some (.int (if pentB m<=((n+1:Nat):Int)then t+s*nth19 (wayR n) (pentA m-1).toNat+s*nth19 (wayR n) (pentB m-1).toNat else t+s*nth19 (wayR n) (pentA m-1).toNat)),some (.int (-s)),some (.int (m+1))],fun σ3 H3 ⟨e1,e3⟩=>⟨g,by simp,e1,m+1,-s,_,e3,by omega,by omega,by omega,(by rcases hs with rfl|rfl;exact .inr rfl;exact .inl rfl),ht⟩,?_⟩;refine⟨_,rfl,_,rfl,_,rfl,_,rfl,_,rfl,_,rfl,_,_,rfl,rfl,.inl (by decide),_,_,rfl,rfl,_,_,rfl,rfl,.inl ⟨by omega,by omega⟩,_,_,rfl,rfl,⟨by decide,by decide⟩,_,_,rfl,rfl,l,_,_,_,rfl,rfl,SqL.of hl,way_get (q:=pentA m) hw (by omega) hA',_,_,rfl,rfl,.inl hsb,_,_,rfl,rfl,?_⟩;refine⟨_,rfl,_,rfl,_,_,rfl,rfl,.inl (by decide),_,_,rfl,rfl,_,_,rfl,rfl,.inl ⟨by omega,by omega⟩,_,_,rfl,rfl,⟨by decide,by decide⟩,_,rfl,_,_,rfl,rfl,_,rfl,?_⟩;refine ite2 (fun hB=>?_) (fun hB=>?_)
   ·have hB':pentB m<=((n+1:Nat):Int):=of_decide_eq_true hB;refine⟨_,rfl,_,rfl,_,rfl,_,rfl,_,rfl,_,rfl,_,_,rfl,rfl,.inl (by decide),_,_,rfl,rfl,_,_,rfl,rfl,.inl ⟨by omega,by omega⟩,_,_,rfl,rfl,⟨by decide,by decide⟩,_,_,rfl,rfl,l,_,_,_,rfl,rfl,SqL.of hl,way_get (q:=pentB m) hw (by omega) hB',_,_,rfl,rfl,.inl hsb,_,_,rfl,rfl,?_⟩;rw[if_pos hB'];exact⟨_,rfl,_,rfl,_,rfl,_,_,rfl,rfl,rfl,rfl⟩
   ·have hB':¬pentB m<=((n+1:Nat):Int):=fun z=>hB (decide_eq_true z);rw[if_neg hB'];exact⟨_,rfl,_,rfl,_,rfl,_,_,rfl,rfl,rfl,rfl⟩
  ·have hA':¬pentA m<=((n+1:Nat):Int):=fun z=>hA (decide_eq_true z);rw[nextR_stop _ _ _ _ _ _ hA']at ht;refine⟨_,rfl,?_⟩;rw[ht];exact k
def n_ways_to:List Str:=["n","ways"]
theorem sc_ways_to:FnScope n_ways_to ["n"] (z8 s_ways_to):=FS
inductive sp_ways_to(vs:List V)(H:Hp)(Q:VK)(E:XK):Prop
 |mk (n:Nat):vs=[.int n]->n<=400->(∀(l:Addr)(H':Hp),H' l=some (.lst ((wayR n).reverse.map V.int))->Same H H'->H l=none->Q (.ref l) H')->sp_ways_to vs H Q E
theorem ok_ways_to(T:Txt P w K mg A):FnOk P w K mg base CX0 2 A.a36 A.f36 ["n"] sp_ways_to:=by
 refine T.x36.F.ok sc_ways_to (by walk_at "n") fun _ _ _ s H vs Q E hr h=>?_
 ·obtain⟨n,rfl,hn,k⟩:=h;refine⟨_,(z7 (pset 1 sc_ways_to.nd (y8 (pa1 zc)))
    (z7 (ps_while PassesOwn.never (zi op_le (zq zp rfl T.w5 PySem.boot_len (pa1 (pv 1))) (pv 0) (zr _))
     (z9 (zV (yP PySem.F.plainAttrs_list PySem.F.slot_list_append PySem.F.type_list_append yk (pv 1) (pa1 (pcl (ok_next_way T) hr T.x35 (pa1 (pv 1))))))))
    (z9 (zj (pv 1))))),?_⟩
  refine⟨by show 1<=sizeLine;decide,fun l hl=>?_⟩;refine⟨fun f σ' H'=>∃ i:Nat,i<=n/\f=n-i/\ σ'=[some (.int n),some (.ref l)]/\H' l=some (.lst ((wayR i).reverse.map V.int))/\Same H H',⟨n,0,zero_le _,rfl,rfl,z6,Same.new hl⟩,?_⟩;rintro f σ' H' ⟨i,hi,rfl,rfl,g,s⟩;have hlen:((wayR i).reverse.map V.int).length=i+1:=by rw[length_map,List.length_reverse,wayR_len]
  refine⟨_,rfl,l,_,rfl,.inl (SqL.of g),_,rfl,_,_,rfl,rfl,_,rfl,?_⟩;rw[hlen];refine ite2 (fun hc=>?_) (fun hc=>?_)
  ·have hc':((i+1:Nat):Int)<=(n:Int):=of_decide_eq_true hc;refine⟨fun σ3 H3=>σ3=[some (.int n),some (.ref l)]/\H3 l=some (.lst ((wayR (i+1)).reverse.map V.int))/\Same H H3,fun σ3 H3 ⟨e1,e2,e3⟩=>⟨n-(i+1),by omega,i+1,by omega,rfl,e1,e2,e3⟩,?_⟩;refine⟨_,rfl,.inl ⟨rfl,_,SqL.of g⟩,_,rfl,l,i,rfl,g,by omega,?_⟩;refine⟨l,_,_,rfl,rfl,g,?_,rfl,?_,fun b o e=>?_⟩
   ·rw[hlen];exact lt_of_lt_of_le (m:=402) (by omega) (by decide)
   ·rw[z6,wayR,List.reverse_cons,map_append];rfl
   ·rw[zh (zo e hl)];exact s _ _ e
  ·have hc':¬((i+1:Nat):Int)<=(n:Int):=fun z=>hc (decide_eq_true z);have e:i=n:=by omega
   subst e;exact⟨_,rfl,k l H' g s hl⟩
def n_count_of:List Str:=["rule","n","ways","total","choice","heap"]
theorem kz:FnScope n_count_of ["rule","n"] (z8 s_count_of):=FS
inductive sp_count_of(A:Adr)(vs:List V)(H:Hp)(Q:VK)(E:XK):Prop
 |mk (p:Addr) (rs:List V) (rule:List (List Int)) (n:Int):vs=[.ref p,.int n]->H p=some (.tup rs)->All2 Tup1 H rule rs->rule.length<=6->RuleJ rule->(((∃m:Nat,n=m/\m<=400/\ ∀H',Same H H'->Q (.int (ki rule (wayF m) m (chG (upto rule.length)))) H')\/False))->sp_count_of A vs H Q E
theorem ok_count_of(T:Txt P w K mg A):FnOk P w K mg base CX0 4 A.a37 A.f37 ["rule","n"] (sp_count_of A):=by
 refine T.x37.F.ok kz (by walk_at "n") fun _ _ _ s H vs Q E hr h=>?_
 ·obtain⟨p,rs,rule,n,rfl,hp,h2,hln,hJ,h⟩:=h;refine⟨_,(z7 (zV (pcl (kU T) hr T.x33 (pa2 (pv 1) (yx (v:=.int 400) rfl T.w18.choose_spec ⟨_,rfl⟩))))
    (z7 (pset 2 kz.nd (pcl (ok_ways_to T) hr T.x36 (pa1 (pv 1))))
    (z7 (pset 3 kz.nd zc)
    (z7 (yo PassesOwn.never rfl (y4 (pcl (ok_choices_of T) hr T.x28 (pa1 (pv 0)))) (pgn 4 kz.nd)
     (z7 (pset 5 kz.nd (pcl (js T) hr T.x32 (pa2 (pv 0) (pv 4))))
    (z9 (zD (zi op_le (pcl (ok_sum_of T) hr T.x26 (pa1 (pv 5))) (pv 1) (zr _))
     (z9 (ps_aug (i:=3) kz.nd rfl (by first|exact Or.inl rfl|exact Or.inr rfl) (zw yG (pcl (ok_sign_of T) hr T.x34 (pa1 (ym (pa2 (pv 5) (pv 4))))) (pix zA (pv 2) (zw op_sub (pv 1) (pcl (ok_sum_of T) hr T.x26 (pa1 (pv 5)))))) ip_add)) zk))))
    (z9 (zj (pv 3))))))),?_⟩
  rcases h with⟨m,rfl,hm,k⟩|z
  ·refine⟨_,rfl,(m:Int),400,rfl,⟨by decide,by decide⟩,.inl ⟨by omega,by omega,?_⟩⟩;refine⟨_,rfl,m,rfl,hm,fun w H1 gw s1 nw=>?_⟩;have hrl:=h2.length;refine⟨_,rfl,p,rs,rfl,s1 _ _ hp,by omega,fun cl cs H2 gc h4 s2 ncl=>?_⟩;rw[<-hrl]at h4;have hcl:=h4.length;have s12:=s1.trans s2;refine⟨cl,rfl,⟨_,SqL.of gc⟩,kX (xs:=cs) (fun i σ' H'=>Same H2 H'/\i<=cs.length/\ ∃v4 v5,σ'=[some (.ref p),some (.int m),some (.ref w),some (.int (ki rule (wayF m) m ((chG (upto rule.length)).take i))),v4,v5]) ⟨fun _ _ z=>z,zero_le _,_,_,rfl⟩ ?_ ?_ ?_⟩
   ·rintro i σ' H' _ ⟨s',_⟩;exact SqL.of (s' _ _ gc)
   ·rintro i x σ' H' hx ⟨s',hi',v4,v5,rfl⟩;obtain⟨ch,hch,c,rfl,gcc⟩:=h4.get hx;have hi:=(List.getElem?_eq_some_iff.mp hx).1;have s02:=s12.trans s';obtain⟨cm1,cm2⟩:=chG_mem rule.length (upto rule.length) (upto_len _) ch (mem_of_getElem? hch);have chb:∀j∈ch,0<=j/\j<rule.length:=fun j hj=>by
     have:=upto_mem (cm2 j hj);omega
    have etake:(chG (upto rule.length)).take (i+1)=(chG (upto rule.length)).take i++[ch]:=by rw[take_succ,hch];rfl
    refine⟨_,rfl,_,rfl,p,c,rs,rule,ch,rfl,s02 _ _ hp,h2.mv s02.tups,s' _ _ gcc,⟨hJ.pick (by omega),by omega⟩,chb,fun q ms H4 gq hj hl4 s4 nq=>?_⟩;have ej:=joinX_eq hj;have nn:=joinX_nonneg hJ ch;rw[ej]at nn;refine⟨_,rfl,q,ms,rfl,SqT.of gq,_,rfl,_,_,rfl,rfl,_,rfl,ite2 (fun hc=>?_) (fun hc=>?_)⟩
    ·have hc':ms.sum<=(m:Int):=of_decide_eq_true hc;refine⟨_,rfl,_,rfl,_,rfl,by show 2<=sizeLine;decide,fun T1 hT1=>?_⟩;have s5:=Same.new (o:=.tup [V.ref q,V.ref c]) hT1;refine⟨(ms,ch),_,rfl,⟨T1,q,c,rfl,z6,s5 _ _ gq,s5 _ _ (s4 _ _ (s' _ _ gcc))⟩,?_⟩;have gw5:=s5 _ _ (s4 _ _ (s' _ _ (s2 _ _ gw)));have hw:=wayR_len m;have hsub:(m:Int)-ms.sum=((m-ms.sum.toNat:Nat):Int):=by omega
     have hlt:m-ms.sum.toNat<(wayR m).reverse.length:=by rw[List.length_reverse];omega
     have hsg:-(2^64)<sgnG ch/\sgnG ch<2^64:=by unfold sgnG;split <;>exact⟨by decide,by decide⟩
     refine⟨_,rfl,_,rfl,_,rfl,q,ms,rfl,SqT.of (s5 _ _ gq),_,_,rfl,rfl,w,_,_,V.int (wayF m (m-ms.sum.toNat)),rfl,rfl,SqL.of gw5,?_,_,_,rfl,rfl,.inl hsg,_,_,rfl,rfl,?_⟩
     ·rw[hsub];refine zu ?_;unfold wayF;rw[getElem?_map,getD_eq_getElem?_getD,getElem?_eq_getElem hlt];rfl
     ·refine⟨s'.trans (s4.trans s5),by omega,some (.ref c),some (.ref q),?_⟩;rw[etake,signedX_snoc,ej,if_pos hc'];rfl
    ·have hc':¬ms.sum<=(m:Int):=fun z=>hc (decide_eq_true z);refine⟨s'.trans s4,by omega,some (.ref c),some (.ref q),?_⟩;rw[etake,signedX_snoc,ej,if_neg hc',Int.mul_zero,Int.add_zero];rfl
   ·rintro σ' H' ⟨s',_,v4,v5,rfl⟩;rw[<-hcl,take_length];exact⟨_,rfl,k H' (s12.trans s')⟩
  ·exact z.elim
def n_tell_count:List Str:=["standing","given"]
theorem sc_tell_count:FnScope n_tell_count ["standing","given"] (z8 s_tell_count):=FS
inductive sp_tell_count(vs:List V)(H:Hp)(Q:VK)(E:XK):Prop
 |mk (d g:Addr) (kvs:List (Key×V)) (gs:List V) (S:Std) (n:Str) (r:List (List Int)) (m:Nat):vs=[.ref d,.ref g]->H d=some (.dK kvs)->StdV H S kvs->H g=some (.lst gs)->All2 ArgV H [.name n,.num (m:Int)] gs->zX S n=some r->CountOk r m->(∀(H':Hp),Same H H'->Q (.str (numS (countX r m))) H')->sp_tell_count vs H Q E
theorem ok_tell_count(T:Txt P w K mg A):FnOk P w K mg base CX0 6 A.a38 A.f38 ["standing","given"] sp_tell_count:=by
 refine T.x38.F.ok sc_tell_count (by walk_at "n") fun _ _ _ s H vs Q E hr h=>?_
 ·obtain⟨d,g,kvs,gs,S,n,r,m,rfl,hd,sd,hg,ha,hl,hb,k⟩:=h;refine⟨_,(z9 (zj (zH yT rfl T.w11 boot_str (pa1 (pcl (ok_count_of T) hr T.x37 (pa2 (pe_dget (huR hr) (pv 0) (pix zA (pv 1) zc) (fun _ _=>rfl)) (pix zA (pv 1) zc))))))),?_⟩;cases ha with
  |cons h1 ha =>
   cases ha with
   |cons h2 ha =>
    cases ha;cases h1;cases h2;rcases sd.val n with⟨e1,_⟩|⟨r',v,e1,e2,p,xs,rfl,gp,a2⟩
    ·rw[hl]at e1;cases e1
    rw[hl]at e1;cases e1;have dg:=DGet.k (k:=Sum.inr n) hd;rw[e2]at dg;obtain⟨b1,b2,b3,b4⟩:=hb;refine⟨_,rfl,_,rfl,g,_,0,_,rfl,rfl,SqL.of hg,zu (j:=0) rfl,d,_,rfl,dg,_,rfl,g,_,1,_,rfl,rfl,SqL.of hg,zu (j:=1) rfl,p,xs,r,_,rfl,gp,a2,b1,b2,.inl ⟨m,rfl,b3,fun H1 s1=>?_⟩⟩;exact⟨_,rfl,b4,k H1 s1⟩
def n_lies_in:List Str:=["one","other","part"]
theorem sc_lies_in:FnScope n_lies_in ["one","other"] (z8 s_lies_in):=FS
inductive sp_lies_in(vs:List V)(H:Hp)(Q:VK)(E:XK):Prop
 |mk (a b:Addr) (ns ms:List Int):vs=[.ref a,.ref b]->H a=some (.tup (ns.map V.int))->H b=some (.tup (ms.map V.int))->Q (.bl (lies ns ms)) H->sp_lies_in vs H Q E
theorem ok_lies_in(T:Txt P w K mg A):FnOk P w K mg base CX0 2 A.a39 A.f39 ["one","other"] sp_lies_in:=by
 refine T.x39.F.ok sc_lies_in (by walk_at "n") fun _ _ _ s H vs Q E hr h=>?_
 ·obtain⟨a,b,ns,ms,rfl,ha,hb,k⟩:=h;refine⟨_,(z7 (yo PassesOwn.never rfl (jP (pv 0)) (pgn 2 sc_lies_in.nd)
     (z9 (zD (zi op_lt (pcl (ok_often T) hr T.x29 (pa2 (pv 1) (pv 2))) (pcl (ok_often T) hr T.x29 (pa2 (pv 0) (pv 2))) (zr _))
     (z9 (zj pe_bl)) zk)))
    (z9 (zj pe_bl))),?_⟩
  refine⟨_,rfl,a,rfl,⟨_,SqT.of ha⟩,for_tup (xs:=ns.map V.int) (fun i σ' H'=>H'=H/\(∃v,σ'=[some (.ref a),some (.ref b),v])/\(ns.take i).all (fun x=>decide (ns.count x<=ms.count x))=true) ⟨rfl,⟨_,rfl⟩,rfl⟩ ?_ ?_ ?_⟩
  ·rintro i σ' H' _ ⟨rfl,_⟩;exact SqT.of ha
  ·rintro i x σ' H' hx ⟨rfl,⟨v,rfl⟩,hall⟩;obtain⟨z,hz,rfl⟩:=jr hx;refine⟨_,rfl,_,rfl,b,ms,z,rfl,hb,?_⟩;refine⟨_,rfl,_,rfl,a,ns,z,rfl,ha,?_⟩;refine⟨_,_,rfl,rfl,_,rfl,?_⟩;refine ite2 (fun hlt=>?_) (fun hlt=>⟨rfl,⟨_,rfl⟩,?_⟩)
   ·have h1:lies ns ms=false:=all_false (mem_of_getElem? hz) (by
     have:=of_decide_eq_true hlt;exact decide_eq_false (by omega))
    rw[h1]at k;exact k
   ·rw[all_take hz,hall,Bool.true_and];refine decide_eq_true ?_;have:¬((ms.count z:Nat):Int)<((ns.count z:Nat):Int):=fun q=>hlt (decide_eq_true q);omega
  ·rintro σ' H' ⟨rfl,_,hall⟩;rw[length_map,take_length]at hall;have h1:lies ns ms=true:=hall;rw[h1]at k;exact k
def n_all_in:List Str:=["rule","heap"]
theorem sc_all_in:FnScope n_all_in ["rule","heap"] (z8 wf):=FS
inductive sp_all_in(vs:List V)(H:Hp)(Q:VK)(E:XK):Prop
 |mk (p q:Addr) (rs:List V) (rule:List (List Int)) (hs:List Int):vs=[.ref p,.ref q]->H p=some (.tup rs)->All2 Tup1 H rule rs->H q=some (.tup (hs.map V.int))->rule.length<=60->(∀(l:Addr)(H':Hp),H' l=some (.lst ((idxG rule hs).map V.int))->Same H H'->H l=none->Q (.ref l) H')->sp_all_in vs H Q E
theorem ok_all_in(T:Txt P w K mg A):FnOk P w K mg base CX0 3 A.a40 A.f40 ["rule","heap"] sp_all_in:=by
 refine T.x40.F.ok sc_all_in (by walk_at "n") fun _ _ _ s H vs Q E hr h=>?_
 ·obtain⟨p,q,rs,rule,hs,rfl,hp,h2,hq,hln,k⟩:=h;refine⟨_,(z9 (zj (zY (ls:=["number","shut"]) (fr:=[("heap",1)]) (csf (z8 wf) n_all_in) rfl (pi_enum true rfl T.w2 (pa1 (pv 0))) (fun _ _ _ _=>pg_tupC 2 rfl (zS (pgc (ls:=["number","shut"]) (fr:=[("heap",1)]) 0 (by decide+kernel) rfl rfl) (zS (pgc (ls:=["number","shut"]) (fr:=[("heap",1)]) 1 (by decide+kernel) rfl rfl) jD)) rfl rfl) (fun _ _ _ _=>pf_one (pt_truthK K rfl (ka (ok_lies_in T) (hr.mono (by decide)) (glc (z8 wf)) T.x39.g T.x39.F.kp T.x39.b .nil yX (pa2 (pvc (z8 wf) 1) (pvc (z8 wf) 2))) (fun _=>rfl))) (fun _ _ _ _=>(pvc (z8 wf) 0))))),?_⟩;refine⟨_,rfl,p,rfl,⟨_,SqT.of hp⟩,comp_enum (k:=true) (xs:=rs) (fun i zs σ' H'=>Same H H'/\(∃v w,σ'=[v,w,some (.ref q)])/\zs=(idxP rule hs i).map V.int) ⟨fun _ _ h=>h,⟨_,_,rfl⟩,rfl⟩ ?_ ?_ ?_⟩
  ·rintro i zs σ' H' hi ⟨s,_,rfl⟩;refine⟨SqT.of (s _ _ hp),?_⟩;rw[length_map];have h1:=idxP_len rule hs i;have h2:=h2.length;exact yR (by omega)
  ·rintro i x zs σ' H' T' hx ⟨s,⟨v,w',rfl⟩,rfl⟩ hT;obtain⟨hs1,hh1,q1,rfl,hq1⟩:=h2.get hx;have hi:=(List.getElem?_eq_some_iff.mp hh1).1;have e1:rule.getD i []=hs1:=by simp[hh1]
   refine⟨T',_,rfl,SqT.of z6,rfl,_,_,rfl,_,_,rfl,rfl,?_⟩;have sn:=s.trans (Same.new (o:=.tup [.int i,.ref q1]) hT);refine⟨_,rfl,_,rfl,q1,q,hs1,hs,rfl,sn _ _ hq1,sn _ _ hq,?_⟩;refine⟨_,rfl,?_⟩;refine ite2 (fun hc=>⟨_,rfl,sn,⟨_,_,rfl⟩,?_⟩) (fun hc=>⟨sn,⟨_,_,rfl⟩,?_⟩)
   ·rw[j7,e1,if_pos hc,map_append];rfl
   ·rw[j7,e1,if_neg hc,append_nil]
  ·rintro zs σ' H' ⟨s,_,rfl⟩ l hl;rw[<-h2.length];exact k l _ z6 (s.trans (Same.new hl)) (s.free hl)
def n_first_in:List Str:=["rule","heap"]
theorem sc_first_in:FnScope n_first_in ["rule","heap"] (z8 s_first_in):=FS
inductive sp_first_in(vs:List V)(H:Hp)(Q:VK)(E:XK):Prop
 |mk (p q:Addr) (rs:List V) (rule:List (List Int)) (hs:List Int):vs=[.ref p,.ref q]->H p=some (.tup rs)->All2 Tup1 H rule rs->H q=some (.tup (hs.map V.int))->rule.length<=60->(∀(H':Hp),Same H H'->Q (optV (zB rule hs)) H')->sp_first_in vs H Q E
theorem ok_first_in(T:Txt P w K mg A):FnOk P w K mg base CX0 4 A.a41 A.f41 ["rule","heap"] sp_first_in:=by
 refine T.x41.F.ok sc_first_in (by walk_at "n") fun _ _ _ s H vs Q E hr h=>?_
 ·obtain⟨p,q,rs,rule,hs,rfl,hp,h2,hq,hln,k⟩:=h;refine⟨_,(z9 (zj (pe_minD false rfl rfl T.w8 (pcl (ok_all_in T) hr T.x40 (pa2 (pv 0) (pv 1))) yV))),?_⟩;refine⟨_,rfl,_,rfl,p,q,rs,rule,hs,rfl,hp,h2,hq,hln,fun l H' hl s nl=>?_⟩;refine⟨l,idxG rule hs,rfl,SqL.of hl,fun v hv=>?_⟩;rcases hv with⟨e,rfl⟩|⟨m,rfl,hm⟩
  ·have:=k H' s;rw[first_none e]at this;exact this
  ·have e:zB rule hs=some m:=idxP_head rule hs rule.length m hm;have:=k H' s;rw[e]at this;exact this
def n_keeps:List Str:=["rule","heap"]
theorem sc_keeps:FnScope n_keeps ["rule","heap"] (z8 s_keeps):=FS
inductive sp_keeps(vs:List V)(H:Hp)(Q:VK)(E:XK):Prop
 |mk (p q:Addr) (rs:List V) (rule:List (List Int)) (hs:List Int):vs=[.ref p,.ref q]->H p=some (.tup rs)->All2 Tup1 H rule rs->H q=some (.tup (hs.map V.int))->rule.length<=60->(∀(H':Hp),Same H H'->Q (.bl (zB rule hs).isNone) H')->sp_keeps vs H Q E
theorem ok_keeps(T:Txt P w K mg A):FnOk P w K mg base CX0 5 A.a42 A.f42 ["rule","heap"] sp_keeps:=by
 refine T.x42.F.ok sc_keeps (by walk_at "n") fun _ _ _ s H vs Q E hr h=>?_
 ·obtain⟨p,q,rs,rule,hs,rfl,hp,h2,hq,hln,k⟩:=h;refine⟨_,(z9 (zj (pcm op_isN (pcl (ok_first_in T) hr T.x41 (pa2 (pv 0) (pv 1))) yV))),?_⟩;refine⟨_,rfl,_,rfl,p,q,rs,rule,hs,rfl,hp,h2,hq,hln,fun H' s=>⟨rfl,?_⟩⟩;rw[optV_none];exact k H' s
def n_partings_to:List Str:=["n","greatest","partings","part"]
theorem jE:FnScope n_partings_to ["n","greatest"] (z8 kb):=FS
def sp_parts(n:Nat):Sp:=fun vs H Q _=>∃(m g:Nat),m<n/\vs=[.int m,.int g]/\m<=24/\g<=1000/\
 ∀(l:Addr)(xs:List V)(H':Hp),H' l=some (.lst xs)->All2 Tup1 H' (yE n m g) xs->Same H H'->H l=none->Q (.ref l) H'
theorem okr_partings_to(T:Txt P w K mg A):∀n:Nat,FnOk P w K mg base CX0 n A.a43 A.f43 ["n","greatest"] (sp_parts n)
 | 0=>FnOk.none (fun _ _ _ _ ⟨_,_,h,_⟩=>absurd h (Nat.not_lt_zero _))
 |n+1=>by
  have ih:=okr_partings_to T n;refine T.x43.F.ok jE (by walk_at "n") fun _ _ _ s H vs Q E hr h=>?_
  ·obtain⟨m,g,hm,rfl,hm24,hg,k⟩:=h;refine⟨_,(z7 (zD (zi yO (pv 0) zc (zr _))
      (z9 (zj (y8 (pa1 (ym ye))))) zk)
     (z7 (pset 2 jE.nd (y8 ye))
     (z7 (yo PassesOwn.never rfl (pi_down rfl T.w9 (pa3 (zq (call_min2 rfl) rfl T.w8 boot_min (pa2 (pv 0) (pv 1))) zc (pe_un un_neg zc))) (pgn 3 jE.nd)
      (z9 (zV (yP PySem.F.plainAttrs_list PySem.F.slot_list_extend PySem.F.type_list_extend mt_extend (pv 2) (pa1 (zY (ls:=["rest"]) (fr:=[("part",3)]) (csf (z8 kb) n_partings_to) rfl (y4 (ka ih hr rfl T.x43.g T.x43.F.kp T.x43.b .nil yX (pa2 (zw op_sub (pv 0) (pv 3 (hv:=Or.inr (Or.inl rfl)))) (pv 3 (hv:=Or.inr (Or.inl rfl)))))) (fun _ _ _ _=>pgc 0 (by decide+kernel) rfl rfl) (fun _ _ _ _=>yf) (fun _ _ _ _=>(zw (op_catAK K rfl) (ym (pa1 (pvc (z8 kb) 1))) (pvc (z8 kb) 0)))))))))
     (z9 (zj (pv 2)))))),?_⟩
   dsimp only[tNext];refine kh (fun σ' H'=>m≠0/\H'=H/\ σ'=[some (.int m),some (.int g),none,none]) (fun nx hnx=>?_) ?_
   ·refine⟨_,rfl,rfl,_,rfl,?_⟩;refine ite2 (fun h0=>?_) (fun h0=>hnx _ _ ⟨fun z=>h0 (by rw[z];rfl),rfl,rfl⟩);have e0:m=0:=by
     have:=of_decide_eq_true h0;injection this with this
     omega
    refine⟨by show 0<=sizeLine;decide,fun e he=>⟨by show 1<=sizeLine;decide,fun l hl=>?_⟩⟩;refine k l [.ref e] _ z6 ?_ ((Same.new he).trans (Same.new hl)) ((Same.new he).free hl);rw[zL,if_pos e0];exact .cons ⟨e,rfl,Same.new hl _ _ z6⟩ .nil
   rintro σ1 H1 ⟨m0,rfl,rfl⟩;refine⟨by show 0<=sizeLine;decide,fun l hl=>?_⟩;have hmin:(if(g:Int)<(m:Int)then(g:Int)else(m:Int))=((min m g:Nat):Int):=by split <;>omega
   refine⟨_,rfl,_,rfl,_,_,rfl,_,rfl,min m g,?_,by omega,for_down (n:=min m g) (fun i σ' H'=>Same H1 H'/\i<=min m g/\ ∃xs v,σ'=[some (.int m),some (.int g),some (.ref l),v]/\H' l=some (.lst xs)/\All2 Tup1 H' (partP n m (min m g) i) xs) ⟨Same.new hl,zero_le _,[],_,rfl,z6,.nil⟩ ?_ ?_⟩
   ·show [V.int (if(g:Int)<(m:Int)then(g:Int)else(m:Int)),V.int 0,V.int (-1)]=_;rw[hmin]
   ·rintro i σ' H' hi ⟨s,_,xs,v,rfl,gl,h2⟩;have ep:((min m g:Nat):Int)-(i:Int)=((min m g-i:Nat):Int):=by omega
    have em:(m:Int)-((min m g-i:Nat):Int)=((m-(min m g-i):Nat):Int):=by omega
    have hlx:xs.length<=2^(m-min m g+i):=by
     rw[<-h2.length];exact partP_len (partF_len n) (Nat.min_le_left _ _) i (by omega)
    rw[ep];refine⟨_,rfl,.inl ⟨rfl,_,SqL.of gl⟩,_,rfl,_,rfl,_,_,rfl,rfl,_,rfl,m-(min m g-i),min m g-i,by omega,?_,by omega,by omega,fun l2 xs2 H2 gl2 h3 s2 nl2=>?_⟩
    ·show [V.int ((m:Int)-((min m g-i:Nat):Int)),V.int ((min m g-i:Nat):Int)]=_;rw[em]
    have hlx2:xs2.length<=2^(m-min m g+i):=by
     rw[<-h3.length];have e1:m-(min m g-i)=m-min m g+i:=by omega
     exact le_trans (partF_len n (m-(min m g-i)) (min m g-i)) (by rw[e1];exact le_refl _)
    have hpw:2^(m-min m g+i)+2^(m-min m g+i)<=sizeLine:=by
     have:2^(m-min m g+i)+2^(m-min m g+i)=2^(m-min m g+i+1):=by rw[Nat.pow_succ];omega
     rw[this];exact pow24 (by omega)
    refine⟨l2,rfl,⟨_,SqL.of gl2⟩,yY (xs:=xs2) (fun j ys σ' H3=>Same H2 H3/\(∃v,σ'=[v,some (.int ((min m g-i:Nat):Int))])/\All2 Tup1 H3 (((yE n (m-(min m g-i)) (min m g-i)).take j).map (((min m g-i:Nat):Int):: ·)) ys) ⟨fun _ _ h=>h,⟨_,rfl⟩,.nil⟩ ?_ ?_ ?_⟩
    ·rintro j ys σ' H3 hj ⟨s3,_,h4⟩;refine⟨SqL.of (s3 _ _ gl2),?_⟩;rw[<-h4.length,length_map,length_take];omega
    ·rintro j x ys σ' H3 hx ⟨s3,⟨v,rfl⟩,h4⟩;obtain⟨hs,hhs,q,rfl,hq⟩:=h3.get hx;have hj:=(List.getElem?_eq_some_iff.mp hhs).1;have eh:=(List.getElem?_eq_some_iff.mp hhs).2;refine⟨_,rfl,by show 1<=sizeLine;decide,fun t ht=>⟨_,rfl,?_⟩⟩;have hl1:hs.length<=100:=by
      have:=partF_mem _ _ _ hs (mem_of_getElem? hhs);omega
     refine cat_front (Same.new ht _ _ (s3 _ _ hq)) z6 hl1 fun v H4 hv s4=>?_;have sn:=(Same.new (o:=.tup [V.int ((min m g-i:Nat):Int)]) ht).trans s4;refine⟨s3.trans sn,⟨_,rfl⟩,?_⟩;rw[take_succ_eq_append_getElem hj,map_append,eh];exact(h4.mv sn.tups).snoc hv
    ·rintro ys σ' H3 ⟨s3,_,h4⟩ l3 hl3;have et:(yE n (m-(min m g-i)) (min m g-i)).take xs2.length=yE n (m-(min m g-i)) (min m g-i):=by rw[<-h3.length,take_length]
     rw[et]at h4;have hly:ys.length=xs2.length:=by rw[<-h4.length,length_map,h3.length]
     have sn:=s2.trans (s3.trans (Same.new (o:=.lst ys) hl3));refine⟨l,l3,xs,ys,rfl,rfl,sn _ _ gl,z6,by omega,?_⟩;have tn:Tups H' (upd (upd H3 l3 (.lst ys)) l (.lst (xs++ys))):=sn.tups.trans (Tups.set (sn _ _ gl));have tn3:Tups H3 (upd (upd H3 l3 (.lst ys)) l (.lst (xs++ys))):=(Same.new hl3).tups.trans (Tups.set (sn _ _ gl));refine⟨fun b o e=>?_,by omega,xs++ys,_,rfl,z6,?_⟩
     ·rw[zh (zo e hl)];exact sn _ _ (s _ _ e)
     ·rw[partP_succ];exact(h2.mv tn).append (h4.mv tn3)
   ·rintro σ' H' ⟨s,_,xs,v,rfl,gl,h2⟩;refine⟨_,rfl,k l xs H' gl ?_ s hl⟩;rw[zL,if_neg m0];exact h2
theorem ok_partings_to(T:Txt P w K mg A):FnOk P w K mg base CX0 26 A.a43 A.f43 ["n","greatest"] (sp_parts 26):=okr_partings_to T 26
def n_partings_of:List Str:=["n"]
theorem sc_partings_of:FnScope n_partings_of ["n"] (z8 s_partings_of):=FS
inductive sp_partings_of(A:Adr)(vs:List V)(H:Hp)(Q:VK)(E:XK):Prop
 |mk (n:Int):vs=[.int n]->(((∃m:Nat,n=m/\m<=24/\ ∀(l:Addr)(xs:List V)(H':Hp),H' l=some (.lst xs)->All2 Tup1 H' (yE 26 m m) xs->Same H H'->H l=none->Q (.ref l) H')\/False))->sp_partings_of A vs H Q E
theorem ok_partings_of(T:Txt P w K mg A):FnOk P w K mg base CX0 27 A.a44 A.f44 ["n"] (sp_partings_of A):=by
 refine T.x44.F.ok sc_partings_of (by walk_at "n") fun _ _ _ s H vs Q E hr h=>?_
 ·obtain⟨n,rfl,h⟩:=h;refine⟨_,(z7 (zV (pcl (kU T) hr T.x33 (pa2 (pv 0) (yx (v:=.int 24) rfl T.w17.choose_spec ⟨_,rfl⟩))))
    (z9 (zj (pcl (ok_partings_to T) hr T.x43 (pa2 (pv 0) (pv 0)))))),?_⟩
  rcases h with⟨m,rfl,hm,k⟩|z
  ·refine⟨_,rfl,(m:Int),24,rfl,⟨by decide,by decide⟩,.inl ⟨by omega,by omega,?_⟩⟩;exact⟨_,rfl,_,rfl,m,m,by omega,rfl,hm,by omega,k⟩
  ·exact z.elim
def n_kept_of:List Str:=["rule","n"]
theorem sc_kept_of:FnScope n_kept_of ["rule","n"] (z8 jf):=FS
inductive sp_kept_of(A:Adr)(vs:List V)(H:Hp)(Q:VK)(E:XK):Prop
 |mk (p:Addr) (rs:List V) (rule:List (List Int)) (n:Int):vs=[.ref p,.int n]->H p=some (.tup rs)->All2 Tup1 H rule rs->rule.length<=60->(((∃m:Nat,n=m/\m<=24/\ ∀(l:Addr)(xs:List V)(H':Hp),H' l=some (.lst xs)->All2 Tup1 H' (zJ rule m) xs->Same H H'->H l=none->Q (.ref l) H')\/False))->sp_kept_of A vs H Q E
theorem ok_kept_of(T:Txt P w K mg A):FnOk P w K mg base CX0 28 A.a45 A.f45 ["rule","n"] (sp_kept_of A):=by
 refine T.x45.F.ok sc_kept_of (by walk_at "n") fun _ _ _ s H vs Q E hr h=>?_
 ·obtain⟨p,rs,rule,n,rfl,hp,h2,hln,h⟩:=h;refine⟨_,(z9 (zj (zY (ls:=["heap"]) (fr:=[("rule",0)]) (csf (z8 jf) n_kept_of) rfl (y4 (pcl (ok_partings_of T) hr T.x44 (pa1 (pv 1)))) (fun _ _ _ _=>pgc 0 (by decide+kernel) rfl rfl) (fun _ _ _ _=>pf_one (pt_truthK K rfl (ka (ok_keeps T) (hr.mono (by decide)) (glc (z8 jf)) T.x42.g T.x42.F.kp T.x42.b .nil yX (pa2 (pvc (z8 jf) 1) (pvc (z8 jf) 0))) (fun _=>rfl))) (fun _ _ _ _=>(pvc (z8 jf) 0))))),?_⟩;rcases h with⟨m,rfl,hm,k⟩|z
  ·refine⟨_,rfl,(m:Int),rfl,.inl ⟨m,rfl,hm,fun l xs H1 gl h1 s1 nl=>?_⟩⟩;have hlx:xs.length<=sizeLine:=by rw[<-h1.length];exact le_trans (partF_len _ _ _) (pow24 hm)
   refine⟨l,rfl,⟨_,SqL.of gl⟩,yY (xs:=xs) (fun i ys σ' H'=>Same H1 H'/\(∃v,σ'=[v,some (.ref p)])/\ys.length<=i/\All2 Tup1 H' (((yE 26 m m).take i).filter fun h=>(zB rule h).isNone) ys) ⟨fun _ _ h=>h,⟨_,rfl⟩,le_refl _,.nil⟩ ?_ ?_ ?_⟩
   ·rintro i ys σ' H' hi ⟨s,_,hy,_⟩;exact⟨SqL.of (s _ _ gl),by omega⟩
   ·rintro i x ys σ' H' hx ⟨s,⟨v,rfl⟩,hy,h3⟩;obtain⟨hs,hhs,q,rfl,hq⟩:=h1.get hx;have sn:=s1.trans s;refine⟨_,rfl,_,rfl,p,q,rs,rule,hs,rfl,sn _ _ hp,h2.mv sn.tups,s _ _ hq,hln,fun H2 s2=>⟨_,rfl,?_⟩⟩;refine ite2 (fun hc=>⟨_,rfl,s.trans s2,⟨_,rfl⟩,by simp;omega,?_⟩) (fun hc=>⟨s.trans s2,⟨_,rfl⟩,by omega,?_⟩)
    ·rw[filter_take _ hhs,if_pos hc];exact(h3.mv s2.tups).snoc ⟨q,rfl,s2 _ _ (s _ _ hq)⟩
    ·rw[filter_take _ hhs,if_neg hc,append_nil];exact h3.mv s2.tups
   ·rintro ys σ' H' ⟨s,_,hy,h3⟩ l2 hl2;rw[<-h1.length,take_length]at h3;have sn:=s1.trans (s.trans (Same.new (o:=.lst ys) hl2));exact k l2 ys _ z6 (h3.mv (Same.new hl2).tups) sn ((s1.trans s).free hl2)
  ·exact z.elim
def n_tell_list:List Str:=["standing","given","heaps"]
theorem sc_tell_list:FnScope n_tell_list ["standing","given"] (z8 jk):=FS
inductive sp_tell_list(vs:List V)(H:Hp)(Q:VK)(E:XK):Prop
 |mk (d g:Addr) (kvs:List (Key×V)) (gs:List V) (S:Std) (n:Str) (r:List (List Int)) (m:Nat):vs=[.ref d,.ref g]->H d=some (.dK kvs)->StdV H S kvs->H g=some (.lst gs)->All2 ArgV H [.name n,.num (m:Int)] gs->zX S n=some r->r.length<=60->m<=24->(∀(H':Hp),Same H H'->Q (.str (listT r m)) H')->sp_tell_list vs H Q E
theorem ok_tell_list(T:Txt P w K mg A):FnOk P w K mg base CX0 29 A.a46 A.f46 ["standing","given"] sp_tell_list:=by
 refine T.x46.F.ok sc_tell_list (by walk_at "n") fun _ _ _ s H vs Q E hr h=>?_
 ·obtain⟨d,g,kvs,gs,S,n,r,m,rfl,hd,sd,hg,ha,hl,hb,hm,k⟩:=h;refine⟨_,(z7 (pset 2 sc_tell_list.nd (pcl (ok_kept_of T) hr T.x45 (pa2 (pe_dget (huR hr) (pv 0) (pix zA (pv 1) zc) (fun _ _=>rfl)) (pix zA (pv 1) zc))))
    (z7 (zD (zi yO (zq zp rfl T.w5 PySem.boot_len (pa1 (pv 2))) zc (zr _))
     (z9 (zj zK)) zk)
    (z9 (zj (yP PySem.F.plainAttrs_str PySem.F.slot_str_join PySem.F.type_str_join mt_join zK (pa1 (zY (ls:=["heap"]) (fr:=[]) (csf (z8 jk) n_tell_list) rfl (y4 (pv 2)) (fun _ _ _ _=>pgc 0 (by decide+kernel) rfl rfl) (fun _ _ _ _=>yf) (fun _ _ _ _=>(ka (ok_heap_text T) (hr.mono (by decide)) (glc (z8 jk)) T.x13.g T.x13.F.kp T.x13.b .nil yX (pa1 (pvc (z8 jk) 0))))))))))),?_⟩
  cases ha with
  |cons h1 ha =>
   cases ha with
   |cons h2 ha =>
    cases ha;cases h1;cases h2;rcases sd.val n with⟨e1,_⟩|⟨r',v,e1,e2,p,xs,rfl,gp,a2⟩
    ·rw[hl]at e1;cases e1
    rw[hl]at e1;cases e1;have dg:=DGet.k (k:=Sum.inr n) hd;rw[e2]at dg;refine⟨_,rfl,_,rfl,g,_,0,_,rfl,rfl,SqL.of hg,zu (j:=0) rfl,d,_,rfl,dg,_,rfl,g,_,1,_,rfl,rfl,SqL.of hg,zu (j:=1) rfl,p,xs,r,_,rfl,gp,a2,hb,.inl ⟨m,rfl,hm,fun l ys H1 gl al s1 nl=>?_⟩⟩;have yl:=al.length;have few:(zJ r m).length<=1575:=le_trans (List.length_filter_le _ _) (part_few hm);have hh:∀h∈zJ r m,h.length<=24/\ ∀x∈h,1<=x/\x<=24:=fun h hm'=>kept_small hm hm';refine⟨_,rfl,l,_,rfl,.inl (SqL.of gl),rfl,_,rfl,?_⟩;refine ite2 (fun h0=>?_) (fun h0=>?_)
    ·have y0:ys.length=0:=by simpa using h0
     have e:zJ r m=[]:=List.eq_nil_of_length_eq_zero (by omega);have hk:=k H1 s1;unfold listT at hk;rw[if_pos e]at hk;exact hk
    have hne:zJ r m≠[]:=fun e=>h0 (by rw[e]at yl;rw[<-yl];rfl);refine⟨rfl,comp_map1L (fun(b:Str) v _=>v=V.str b) ((zJ r m).map txt) [] (by rw[length_map];exact yl) (le_trans (m:=1575) (by omega) (by decide)) (fun _ _ _ _ _ h=>h) rfl rfl gl (fun j x b H' P hx hbj s' hP=>?_) (fun zs H2 l2 s2 a2' hl2=>?_)⟩
    ·obtain⟨h,hh0,q,rfl,hq⟩:=al.get hx;rw[getElem?_map,hh0]at hbj;have hm2:=hh h (mem_of_getElem? hh0);exact⟨_,rfl,q,h,rfl,s' _ _ hq,by omega,fun x hx=>⟨(hm2.2 x hx).1,Int.le_trans (hm2.2 x hx).2 (by decide)⟩,fun H'' s''=>hP _ _ s'' (by rw[<-Option.some.inj hbj])⟩
    have e1:=strs_of a2';subst e1;have hsum:(((zJ r m).map txt).map (·.length)).sum<=((zJ r m).map txt).length*10000:=jX fun y hy=>by
     obtain⟨h,hh0,rfl⟩:=mem_map.mp hy;have hm2:=hh h hh0;exact txt_len (by omega) fun x hx=>⟨(hm2.2 x hx).1,Int.le_trans (hm2.2 x hx).2 (by decide)⟩
    rw[length_map]at hsum;have hbl:(Str.ofString " | ").length=3:=by decide
    refine⟨_,l2,(zJ r m).map txt,rfl,rfl,SqL.of z6,by rw[hbl,length_map];omega,?_⟩;have hk:=k _ (s1.trans (s2.trans (Same.new (o:=.lst (((zJ r m).map txt).map V.str)) hl2)));unfold listT at hk;rw[if_neg hne]at hk;exact hk
def n_sums_of:List Str:=["rule"]
theorem sc_sums_of:FnScope n_sums_of ["rule"] (z8 kO):=FS
def CS(z:List Int×Int)(v:V)(H:Hp):Prop:=∃ q c,v= .ref q/\H q=some (.tup [.ref c,.int z.2])/\H c=some (.tup (z.1.map V.int))
theorem CS.mv{H H':Hp}{z:List Int×Int}{v:V}(t:Tups H H'):CS z v H->CS z v H'
 |⟨q,c,e,h1,h2⟩=>⟨q,c,e,t _ _ h1,t _ _ h2⟩
noncomputable def sumX(rule:List (List Int))(c:List Int):Int:=(yc (zI rule c)).sum
inductive sp_sums_of(vs:List V)(H:Hp)(Q:VK)(E:XK):Prop
 |mk (p:Addr) (rs:List V) (rule:List (List Int)):vs=[.ref p]->H p=some (.tup rs)->All2 Tup1 H rule rs->rule.length<=6->RuleJ rule->(∀(l:Addr)(xs:List V)(H':Hp),H' l=some (.lst xs)->All2 CS H' ((chG (upto rule.length)).map fun c=>(c,sumX rule c)) xs->Same H H'->Q (.ref l) H')->sp_sums_of vs H Q E
theorem ok_sums_of(T:Txt P w K mg A):FnOk P w K mg base CX0 4 A.a47 A.f47 ["rule"] sp_sums_of:=by
 refine T.x47.F.ok sc_sums_of (by walk_at "n") fun _ _ _ s H vs Q E hr h=>?_
 ·obtain⟨p,rs,rule,rfl,hp,h2,h6,hJ,k⟩:=h;refine⟨_,(z9 (zj (zY (ls:=["choice"]) (fr:=[("rule",0)]) (csf (z8 kO) n_sums_of) rfl (y4 (pcl (ok_choices_of T) hr T.x28 (pa1 (pv 0 (hv:=Or.inr (Or.inl rfl)))))) (fun _ _ _ _=>pgc 0 (by decide+kernel) rfl rfl) (fun _ _ _ _=>yf) (fun _ _ _ _=>(ym (pa2 (pvc (z8 kO) 0) (ka (ok_sum_of T) (hr.mono (by decide)) (glc (z8 kO)) T.x26.g T.x26.F.kp T.x26.b .nil yX (pa1 (ka (js T) (hr.mono (by decide)) (glc (z8 kO)) T.x32.g T.x32.F.kp T.x32.b .nil yX (pa2 (pvc (z8 kO) 1) (pvc (z8 kO) 0))))))))))),?_⟩;have hrl:=h2.length;refine⟨_,rfl,p,rs,rfl,hp,by omega,fun cl cs H1 gc h4 s1 ncl=>?_⟩;rw[<-hrl]at h4;have hcl:=h4.length;have h64:(chG (upto rule.length)).length<=64:=by
   rw[chG_len _ _ (upto_len _)];exact le_trans (Nat.pow_le_pow_right (by decide) h6) (by decide)
  refine⟨cl,rfl,⟨_,SqL.of gc⟩,compK_mapL CS ((chG (upto rule.length)).map fun c=>(c,sumX rule c)) [some (.ref p)] (by rw[length_map];exact hcl) (le_trans (m:=64) (by omega) (by decide)) (fun _ _ _ _ s h=>h.mv s.tups) rfl gc (fun j x b H' P hx hb s' hP=>?_) (fun zs H2 l s2 a2 hl=>?_)⟩
  ·obtain⟨ch,hch,c,rfl,gcc⟩:=h4.get hx;rw[getElem?_map,hch]at hb;have s02:=s1.trans s';obtain⟨cm1,cm2⟩:=chG_mem rule.length (upto rule.length) (upto_len _) ch (mem_of_getElem? hch);have chb:∀j∈ch,0<=j/\j<rule.length:=fun j hj=>by
    have:=upto_mem (cm2 j hj);omega
   refine⟨_,rfl,_,rfl,_,rfl,p,c,rs,rule,ch,rfl,s02 _ _ hp,h2.mv s02.tups,s' _ _ gcc,⟨hJ.pick (by omega),by omega⟩,chb,fun q ms H4 gq hj hl4 s4 nq=>?_⟩;have ej:=joinX_eq hj;refine⟨q,ms,rfl,SqT.of gq,by show 2<=sizeLine;decide,fun T1 hT1=>?_⟩;have s5:=Same.new (o:=.tup [V.ref c,V.int ms.sum]) hT1;refine hP _ _ (s4.trans s5) ?_;rw[<-Option.some.inj hb];refine⟨T1,c,rfl,?_,s5 _ _ (s4 _ _ (s' _ _ gcc))⟩;rw[z6];show _=some (HO.tup [V.ref c,V.int (sumX rule ch)]);unfold sumX;rw[ej]
  ·exact k l zs _ z6 (a2.imp fun _ _ h=>h.mv (Same.new hl).tups) (s1.trans (s2.trans (Same.new hl)))
def n_first_unlike:List Str:=["one","other","row","fellow"]
theorem jo:FnScope n_first_unlike ["one","other"] (z8 s_first_unlike):=FS
inductive sp_first_unlike(vs:List V)(H:Hp)(Q:VK)(E:XK):Prop
 |mk (p q:Addr) (rs qs:List V) (one other:List (List Int)):vs=[.ref p,.ref q]->H p=some (.tup rs)->All2 Tup1 H one rs->H q=some (.tup qs)->All2 Tup1 H other qs->one.length=other.length->one.length<=6->RuleJ one->RuleJ other->(∀c,sumX one c=sumX other c)->(∀H',Same H H'->Q .non H')->sp_first_unlike vs H Q E
theorem ok_first_unlike(T:Txt P w K mg A):FnOk P w K mg base CX0 5 A.a48 A.f48 ["one","other"] sp_first_unlike:=by
 refine T.x48.F.ok jo (by walk_at "n") fun _ _ _ s H vs Q E hr h=>?_
 ·obtain⟨p,q,rs,qs,one,other,rfl,hp,h2,hq,g2,hl,h6,hJ,hJ2,hm,k⟩:=h;refine⟨_,(z7 (zD (zi op_ne (zq zp rfl T.w5 PySem.boot_len (pa1 (pv 0))) (zq zp rfl T.w5 PySem.boot_len (pa1 (pv 1))) (zr _))
     (z9 zN) zk)
    (z7 (yo PassesOwn.never rfl (pi_zip false false rfl T.w14 (pa2 (pcl (ok_sums_of T) hr T.x47 (pa1 (pv 0))) (pcl (ok_sums_of T) hr T.x47 (pa1 (pv 1))))) (pg_tup rfl (zS (pgn 2 jo.nd) (zS (pgn 3 jo.nd) jD)))
     (z9 (zD (zi op_ne (pix zR (pv 2) zc) (pix zR (pv 3) zc) (zr _))
     (z9 (zj (ym (pa3 (pix zR (pv 2) zc) (pix zR (pv 2) zc) (pix zR (pv 3) zc))))) zk)))
    (z9 (zj yV)))),?_⟩
  have hrl:=h2.length;have hql:=g2.length;refine⟨_,rfl,p,_,rfl,.inr (SqT.of hp),_,rfl,q,_,rfl,.inr (SqT.of hq),rfl,_,rfl,iteNS (by rw[<-hrl,<-hql,hl]) ?_⟩;refine⟨_,rfl,p,rs,one,rfl,hp,h2,h6,hJ,fun l1 xs H1 gl1 a1 s1=>?_⟩;refine⟨_,rfl,q,qs,other,rfl,s1 _ _ hq,g2.mv s1.tups,by omega,hJ2,fun l2 ys H2 gl2 a2 s2=>?_⟩;rw[<-hl]at a2;have a1:=a1.imp (H':=H2) fun _ _ h=>h.mv s2.tups;have gl1:=s2 _ _ gl1;refine⟨l1,l2,rfl,⟨_,SqL.of gl1⟩,⟨_,SqL.of gl2⟩,for_zip (xs:=xs) (ys:=ys) (fun i σ' H'=>Same H2 H'/\ ∃v w,σ'=[some (.ref p),some (.ref q),v,w]) ⟨Same.refl _,_,_,rfl⟩ ?_ ?_ ?_⟩
  ·rintro i σ' H' _ ⟨s',_⟩;exact⟨SqL.of (s' _ _ gl1),SqL.of (s' _ _ gl2)⟩
  ·rintro i x y σ' H' T' hx hy ⟨s',v,w',rfl⟩ hT;obtain⟨z1,hz1,q1,c1,rfl,e1,f1⟩:=a1.get hx;obtain⟨z2,hz2,q2,c2,rfl,e2,f2⟩:=a2.get hy;rw[getElem?_map]at hz1 hz2;have ez:z1.2=z2.2:=by
    cases hc:(chG (upto one.length))[i]? with
    |none=>rw[hc]at hz1;cases hz1
    |some c =>
     rw[hc]at hz1 hz2;rw[<-Option.some.inj hz1,<-Option.some.inj hz2];exact hm c
   have sT:=Same.new (o:=.tup [V.ref q1,V.ref q2]) hT;have gT:=z6 (H:=H') (a:=T') (o:=.tup [V.ref q1,V.ref q2]);generalize upd H' T' (.tup [V.ref q1,V.ref q2])=H3 at sT gT;have e1':=sT _ _ (s' _ _ e1);have e2':=sT _ _ (s' _ _ e2);refine⟨T',_,rfl,SqT.of gT,rfl,_,_,rfl,_,_,rfl,rfl,?_⟩;refine⟨_,rfl,q1,_,_,_,rfl,rfl,SqT.of e1',zu (j:=1) rfl,_,rfl,q2,_,_,_,rfl,rfl,SqT.of e2',zu (j:=1) rfl,rfl,_,rfl,iteNS (by rw[ez]) ?_⟩;exact⟨s'.trans sT,_,_,rfl⟩
  ·rintro σ' H' ⟨s',v,w',rfl⟩;exact k H' (s1.trans (s2.trans s'))
def n_tell_match:List Str:=["standing","given","unlike","numbers","one","other"]
theorem kf:FnScope n_tell_match ["standing","given"] (z8 kP):=FS
inductive sp_tell_match(vs:List V)(H:Hp)(Q:VK)(E:XK):Prop
 |mk (d g:Addr) (kvs:List (Key×V)) (gs:List V) (S:Std) (n m:Str) (r1 r2:List (List Int)):vs=[.ref d,.ref g]->H d=some (.dK kvs)->StdV H S kvs->H g=some (.lst gs)->All2 ArgV H [.name n,.name m] gs->zX S n=some r1->zX S m=some r2->Rul r1 r2->(∀(H':Hp),Same H H'->Q (.str (Str.ofString "yes")) H')->sp_tell_match vs H Q E
theorem ok_tell_match(T:Txt P w K mg A):FnOk P w K mg base CX0 7 A.a49 A.f49 ["standing","given"] sp_tell_match:=by
 refine T.x49.F.ok kf (by walk_at "n") fun _ _ _ s H vs Q E hr h=>?_
 ·obtain⟨d,g,kvs,gs,S,n,m,r1,r2,rfl,hd,sd,hg,ha,hl,hl2,R,k⟩:=h;refine⟨_,(z7 (pset 2 kf.nd (pcl (ok_first_unlike T) hr T.x48 (pa2 (pe_dget (huR hr) (pv 0) (pix zA (pv 1) zc) (fun _ _=>rfl)) (pe_dget (huR hr) (pv 0) (pix zA (pv 1) zc) (fun _ _=>rfl)))))
    (z7 (zD (zi op_isN (pv 2) yV (zr _))
     (z9 (zj zK)) zk)
    (z7 (pset 3 kf.nd (yP PySem.F.plainAttrs_str PySem.F.slot_str_join PySem.F.type_str_join mt_join zK (pa1 (zY (ls:=["number"]) (fr:=[]) (csf (z8 kP) n_tell_match) rfl (jP (pix zR (pv 2) zc)) (fun _ _ _ _=>pgc 0 (by decide+kernel) rfl rfl) (fun _ _ _ _=>yf) (fun _ _ _ _=>(zH yT (glc (z8 kP)) T.w11 boot_str (pa1 (pvc (z8 kP) 0))))))))
    (z7 (pset 4 kf.nd (pix zR (pv 2) zc))
    (z7 (pset 5 kf.nd (pix zR (pv 2) zc))
    (z9 (zj (pe_js (yn (yy (pv 3) (yn (yy (pv 4) (yn (yy (pv 5) pj_nil)))))))))))))),?_⟩
  cases ha with
  |cons h1 ha =>
   cases ha with
   |cons h2 ha =>
    cases ha;cases h1;cases h2;obtain⟨p,xs,dg,gp,a2⟩:=std_get hd sd hl;obtain⟨p2,xs2,dg2,gp2,a22⟩:=std_get hd sd hl2;refine⟨_,rfl,_,rfl,g,_,0,_,rfl,rfl,SqL.of hg,zu (j:=0) rfl,d,_,rfl,dg,_,rfl,_,rfl,g,_,1,_,rfl,rfl,SqL.of hg,zu (j:=1) rfl,d,_,rfl,dg2,p,p2,xs,xs2,r1,r2,rfl,gp,a2,gp2,a22,R.ln,R.l6,R.j1,R.j2,R.eq,fun H1 s1=>?_⟩;exact⟨_,rfl,rfl,_,rfl,iteT (k H1 s1)⟩
def n_refuse_unkept:List Str:=["rule","heap","number"]
theorem sc_refuse_unkept:FnScope n_refuse_unkept ["rule","heap"] (z8 s_refuse_unkept):=FS
inductive sp_unkept(vs:List V)(H:Hp)(Q:VK)(E:XK):Prop
 |mk (p q:Addr) (rs:List V) (rule:List (List Int)) (hs:List Int):vs=[.ref p,.ref q]->H p=some (.tup rs)->All2 Tup1 H rule rs->H q=some (.tup (hs.map V.int))->rule.length<=60->zB rule hs=none->(∀(H':Hp),Same H H'->Q .non H')->sp_unkept vs H Q E
theorem ok_refuse_unkept(T:Txt P w K mg A):FnOk P w K mg base CX0 5 A.a50 A.f50 ["rule","heap"] sp_unkept:=by
 refine T.x50.F.ok sc_refuse_unkept (by walk_at "n") fun _ _ _ s H vs Q E hr h=>?_
 ·obtain⟨p,q,rs,rule,hs,rfl,hp,h2,hq,hln,h0,k⟩:=h;refine⟨_,(z7 (pset 2 sc_refuse_unkept.nd (pcl (ok_first_in T) hr T.x41 (pa2 (pv 0) (pv 1))))
    (z9 (zD (zi op_notN (pv 2) yV (zr _))
     (z9 zN) zk))),?_⟩
  refine⟨_,rfl,_,rfl,p,q,rs,rule,hs,rfl,hp,h2,hq,hln,fun H' s=>?_⟩;rw[h0];exact⟨_,rfl,rfl,_,rfl,iteF (k H' s)⟩
def n_Beside_rules:List Str:=["self"]
theorem sc_Beside_rules:FnScope n_Beside_rules ["self"] (z8 s_Beside_rules):=FS
inductive sp_bes_rules(A:Adr)(vs:List V)(H:Hp)(Q:VK)(E:XK):Prop
 |mk (x dx p q:Addr):vs=[.ref x]->H x=some (.ins A.w11 dx (fl2 p q))->(∀(t:Addr)(H':Hp),H' t=some (.tup [.ref p,.ref q])->Same H H'->Q (.ref t) H')->sp_bes_rules A vs H Q E
theorem j9(T:Txt P w K mg A):FnOk P w K mg base CX0 1 A.a51 A.f51 ["self"] (sp_bes_rules A):=by
 refine T.x51.F.ok sc_Beside_rules (by walk_at "n") fun _ _ _ s H vs Q E hr h=>?_
 ·obtain⟨x,dx,p,q,rfl,hx,k⟩:=h;refine⟨_,(z9 (zj (ym (pa2 (pe_fld (pv 0) rfl) (pe_fld (pv 0) rfl))))),?_⟩;exact⟨_,rfl,x,A.w11,dx,_,_,rfl,hx,T.w39,T.w43,fl2_one _ _,_,rfl,x,A.w11,dx,_,_,rfl,hx,T.w39,T.w44,fl2_other _ _,by show 2<=sizeLine;decide,fun t ht=>k t _ z6 (Same.new ht)⟩
def n_is_end:List Str:=["sided","place"]
theorem sc_is_end:FnScope n_is_end ["sided","place"] (z8 s_is_end):=FS
inductive sp_is_end(A:Adr)(vs:List V)(H:Hp)(Q:VK)(E:XK):Prop
 |mk (x p q:Addr) (rs qs:List V) (one other:List (List Int)) (pl:Plc) (v:V):vs=[.ref x,v]->Sided A.w11 H x p q rs qs one other->yH pl v H->(∀H',Same H H'->Q (.bl (isEndB other pl)) H')->sp_is_end A vs H Q E
theorem ok_is_end(T:Txt P w K mg A):FnOk P w K mg base CX0 6 A.a52 A.f52 ["sided","place"] (sp_is_end A):=by
 refine T.x52.F.ok sc_is_end (by walk_at "n") fun _ _ _ s H vs Q E hr h=>?_
 ·obtain⟨x,p,q,rs,qs,one,other,pl,v,rfl,S,hv,k⟩:=h;refine⟨_,(z9 (zj (pe_and (pcm yO (pix zR (pv 1) zc) zc) (pe_one (pcl (ok_keeps T) hr T.x42 (pa2 (pix zR (pe_meth0 (pv 0) T.w39 T.x51.mt (j9 T) (hr.mono (by decide)) T.x51.b .nil yX) zc) (pix zR (pv 1) zc))))))),?_⟩;obtain⟨t,hh,hc,rfl,g1,g2,g3⟩:=hv;obtain⟨sd,heap,ch⟩:=pl;dsimp only at g1 g2 g3;obtain⟨dx,hx⟩:=S.ob;refine⟨_,rfl,t,_,_,_,rfl,rfl,SqT.of g1,zu (j:=0) rfl,rfl,_,rfl,?_⟩;refine ite2 (fun h1=>?_) (fun h1=>?_)
  ·have e:sd=2:=V.int.inj (of_decide_eq_true h1);refine⟨_,rfl,x,dx,_,rfl,hx,fl2_no _ _ (by decide+kernel) (by decide+kernel),x,dx,p,q,rfl,hx,fun t2 H2 ht2 s2=>?_⟩;refine⟨t2,_,1,_,rfl,rfl,SqT.of ht2,zu (j:=1) rfl,_,rfl,t,_,_,_,rfl,rfl,SqT.of (s2 _ _ g1),zu (j:=1) rfl,?_⟩;have l6:=S.l6;have ln:=S.ln;refine⟨q,hh,qs,other,heap,rfl,s2 _ _ S.hq,S.g2.mv s2.tups,s2 _ _ g2,by omega,fun H3 s3=>?_⟩;have:=k H3 (s2.trans s3);unfold isEndB at this;rw[show decide ((sd,heap,ch).1=2)=true from decide_eq_true e,Bool.true_and]at this;exact this
  ·have e:¬sd=2:=fun z=>h1 (decide_eq_true (by rw[z]));have:=k H (Same.refl _);unfold isEndB at this;rw[show decide ((sd,heap,ch).1=2)=false from decide_eq_false e,Bool.false_and]at this;exact this
def n_put:List Str:=["one","other"]
theorem sc_put:FnScope n_put ["one","other"] (z8 s_put):=FS
inductive sp_hput(vs:List V)(H:Hp)(Q:VK)(E:XK):Prop
 |mk (a b:Addr) (ns ms:List Int):vs=[.ref a,.ref b]->H a=some (.tup (ns.map V.int))->H b=some (.tup (ms.map V.int))->(ns++ms).length<64->(∀x∈ns++ms,1<=x)->(∀(p:Addr)(H':Hp),H' p=some (.tup ((jF (ns++ms)).map V.int))->Same H H'->Q (.ref p) H')->sp_hput vs H Q E
theorem ok_put(T:Txt P w K mg A):FnOk P w K mg base CX0 2 A.a53 A.f53 ["one","other"] sp_hput:=by
 refine T.x53.F.ok sc_put (by walk_at "n") fun _ _ _ s H vs Q E hr h=>?_
 ·obtain⟨a,b,ns,ms,rfl,ha,hb,hl,hp,k⟩:=h;refine⟨_,(z9 (zj (pcl (ok_heap_of T) hr T.x15 (pa1 (zw op_catA (pv 0) (pv 1)))))),?_⟩;refine⟨_,rfl,_,rfl,cat_any ha hb (le_trans (Nat.le_of_lt hl) (by decide)) fun v H1 hv s1=>?_⟩;obtain⟨q,rfl,hq⟩:=hv;exact⟨q,ns++ms,rfl,hq,hl,hp,fun p H2 hp2 s2=>k p H2 hp2 (s1.trans s2)⟩
def n_taken:List Str:=["one","other","parts","part"]
theorem sc_taken:FnScope n_taken ["one","other"] (z8 s_taken):=FS
inductive sp_taken(A:Adr)(vs:List V)(H:Hp)(Q:VK)(E:XK):Prop
 |mk (a b:Addr) (ns ms:List Int):vs=[.ref a,.ref b]->H a=some (.tup (ns.map V.int))->H b=some (.tup (ms.map V.int))->ms.length<=10000->lies ns ms=true->((∀(p:Addr)(H':Hp),H' p=some (.tup ((yt ns ms).map V.int))->Same H H'->Q (.ref p) H'))->sp_taken A vs H Q E
theorem ok_taken(T:Txt P w K mg A):FnOk P w K mg base CX0 3 A.a54 A.f54 ["one","other"] (sp_taken A):=by
 refine T.x54.F.ok sc_taken (by walk_at "n") fun _ _ _ s H vs Q E hr h=>?_
 ·obtain⟨a,b,ns,ms,rfl,ha,hb,hl,hc,k⟩:=h;refine⟨_,(z7 (zD (km (zG (pcl (ok_lies_in T) hr T.x39 (pa2 (pv 0) (pv 1))) (fun _=>rfl)))
     (z9 zN) zk)
    (z7 (pset 2 sc_taken.nd (zH call_list_of rfl T.w6 boot_list (pa1 (pv 1))))
    (z7 (yo PassesOwn.never rfl (jP (pv 0)) (pgn 3 sc_taken.nd)
     (z9 (zV (yP PySem.F.plainAttrs_list PySem.F.slot_list_remove PySem.F.type_list_remove mt_remove (pv 2) (pa1 (pv 3))))))
    (z9 (zj (zH zZ rfl T.w13 boot_tuple (pa1 (pv 2)))))))),?_⟩
  refine⟨_,rfl,_,rfl,a,b,ns,ms,rfl,ha,hb,_,rfl,?_⟩;rw[hc];refine iteF ⟨_,rfl,b,_,rfl,.inr (SqT.of hb),fun l hl0=>?_⟩;have s0:=Same.new (o:=.lst (ms.map V.int)) hl0;refine⟨_,rfl,a,rfl,⟨_,SqT.of (s0 _ _ ha)⟩,for_tup (xs:=ns.map V.int) (fun i σ' H'=>(∃v,σ'=[some (.ref a),some (.ref b),some (.ref l),v])/\Same H H'/\H' l=some (.lst ((yt (ns.take i) ms).map V.int))) ⟨⟨_,rfl⟩,s0,z6⟩ ?_ ?_ ?_⟩
  ·rintro i σ' H' _ ⟨_,s',_⟩;exact SqT.of (s' _ _ ha)
  ·rintro i x σ' H' hx ⟨⟨v,rfl⟩,s',gl⟩;obtain⟨z,hz,rfl⟩:=jr hx;have hi:=(List.getElem?_eq_some_iff.mp hz).1;have ez:=(List.getElem?_eq_some_iff.mp hz).2;refine⟨_,rfl,.inl ⟨rfl,_,SqL.of gl⟩,_,rfl,l,_,z,rfl,rfl,gl,take_in hc hz,⟨_,rfl⟩,s'.updN hl0,?_⟩;rw[z6,take_succ_eq_append_getElem hi,ez,takeOut_snoc]
  ·rintro σ' H' ⟨⟨v,rfl⟩,s',gl⟩;rw[length_map,take_length]at gl;exact⟨_,rfl,l,_,rfl,.inl ⟨SqL.of gl,fun p hp=>k p _ z6 (s'.trans (Same.new hp))⟩⟩
def n_is_choice:List Str:=["rule","choice","least","number"]
theorem jw:FnScope n_is_choice ["rule","choice"] (z8 s_is_choice):=FS
inductive sp_is_choice(vs:List V)(H:Hp)(Q:VK)(E:XK):Prop
 |mk (p b:Addr) (rs:List V) (ch:List Int):vs=[.ref p,.ref b]->H p=some (.tup rs)->H b=some (.tup (ch.map V.int))->Q (.bl (isCh rs.length 0 ch)) H->sp_is_choice vs H Q E
theorem ok_is_choice(T:Txt P w K mg A):FnOk P w K mg base CX0 1 A.a55 A.f55 ["rule","choice"] sp_is_choice:=by
 refine T.x55.F.ok jw (by walk_at "n") fun _ _ _ s H vs Q E hr h=>?_
 ·obtain⟨p,b,rs,ch,rfl,hp,hb,k⟩:=h;refine⟨_,(z7 (pset 2 jw.nd zc)
    (z7 (yo PassesOwn.never rfl (jP (pv 1)) (pgn 3 jw.nd)
     (z7 (zD (PW.pt (jQ (zi op_lt (pv 3) (pv 2) (zr _)) (jS (zi op_ge (pv 3) (zq zp rfl T.w5 PySem.boot_len (pa1 (pv 0))) (zr _)))))
     (z9 (zj pe_bl)) zk)
    (z9 (pset 2 jw.nd (zw kH (pv 3) zc)))))
    (z9 (zj pe_bl)))),?_⟩
  refine⟨_,rfl,b,rfl,⟨_,SqT.of hb⟩,for_tup (xs:=ch.map V.int) (fun i σ' H'=>H'=H/\(∃v,σ'=[some (.ref p),some (.ref b),some (.int (lastC 0 (ch.take i))),v])/\isCh rs.length 0 (ch.take i)=true) ⟨rfl,⟨_,rfl⟩,rfl⟩ ?_ ?_ ?_⟩
  ·rintro i σ' H' _ ⟨eH,_⟩;subst eH;exact SqT.of hb
  ·rintro i x σ' H' hx ⟨eH,⟨v,rfl⟩,hc⟩;subst eH;obtain⟨z,hz,rfl⟩:=jr hx;obtain⟨hi,ez⟩:=List.getElem?_eq_some_iff.mp hz;have et:ch.take (i+1)=ch.take i++[z]:=by rw[take_succ_eq_append_getElem hi,ez]
   have stop:z<lastC 0 (ch.take i)\/((rs.length:Nat):Int)<=z->isCh rs.length 0 ch=false:=fun c=>by
    have:ch=ch.take i++(z::ch.drop (i+1)):=by rw[<-ez,<-drop_eq_getElem_cons hi,List.take_append_drop]
    rw[this,isCh_app,isCh,if_pos c,Bool.and_false]
   refine⟨_,rfl,_,rfl,_,_,rfl,rfl,_,rfl,?_⟩;refine ite2 (fun h1=>?_) (fun h1=>?_)
   ·rw[stop (.inl (of_decide_eq_true h1))]at k;exact iteT k
   ·refine⟨_,rfl,_,rfl,p,_,rfl,.inr (SqT.of hp),_,_,rfl,rfl,_,rfl,?_⟩;refine ite2 (fun h2=>?_) (fun h2=>?_)
    ·rw[stop (.inr (of_decide_eq_true h2))]at k;exact k
    ·have c1:¬z<lastC 0 (ch.take i):=fun e=>h1 (decide_eq_true e);have c2:¬((rs.length:Nat):Int)<=z:=fun e=>h2 (decide_eq_true e);refine⟨_,rfl,_,_,rfl,rfl,rfl,⟨some (.int z),?_⟩,?_⟩
     ·rw[et,lastC_snoc];rfl
     ·rw[et,isCh_app,hc,isCh,if_neg (by omega)];rfl
  ·rintro σ' H' ⟨eH,_,hc⟩;subst eH;rw[length_map,take_length]at hc;rw[hc]at k;exact k
def n_is_pair:List Str:=["rule","pair"]
theorem sc_is_pair:FnScope n_is_pair ["rule","pair"] (z8 jd):=FS
inductive sp_prog_is_pair(vs:List V)(H:Hp)(Q:VK)(E:XK):Prop
 |mk (p:Addr) (v:V) (rs:List V) (rule:List (List Int)) (pc:List Int×List Int):vs=[.ref p,v]->H p=some (.tup rs)->All2 Tup1 H rule rs->Pair1 pc v H->pc.2.length<=100->(∀H',Same H H'->Q (.bl (yi rule pc)) H')->sp_prog_is_pair vs H Q E
theorem ok_is_pair(T:Txt P w K mg A):FnOk P w K mg base CX0 3 A.a56 A.f56 ["rule","pair"] sp_prog_is_pair:=by
 refine T.x56.F.ok sc_is_pair (by walk_at "n") fun _ _ _ s H vs Q E hr h=>?_
 ·obtain⟨p,v,rs,rule,pc,rfl,hp,h2,hv,hln,k⟩:=h;refine⟨_,(z7 (zD (km (zG (pcl (ok_is_choice T) hr T.x55 (pa2 (pv 0 (hv:=Or.inr (Or.inl rfl))) (pix zR (pv 1 (hv:=Or.inr (Or.inl rfl))) zc))) (fun _=>rfl)))
     (z9 (zj pe_bl)) zk)
    (z9 (zj (zq (kC rfl) rfl T.w0 boot_all (pa1 (zY (ls:=["number"]) (fr:=[("rule",0),("pair",1)]) (csf (z8 jd) n_is_pair) rfl (jP (pix zR (pv 1 (hv:=Or.inr (Or.inl rfl))) zc)) (fun _ _ _ _=>pgc 0 (by decide+kernel) rfl rfl) (fun _ _ _ _=>yf) (fun _ _ _ _=>(ka (ok_lies_in T) (hr.mono (by decide)) (glc (z8 jd)) T.x39.g T.x39.F.kp T.x39.b .nil yX (pa2 (pix (ix_tupK K rfl) (pvc (z8 jd) 1) (pvc (z8 jd) 0)) (pix (ix_tupK K rfl) (pvc (z8 jd) 2) zc)))))))))),?_⟩
  obtain⟨q,a,b,rfl,g1,g2,g3⟩:=hv;have hrl:=h2.length;refine⟨_,rfl,_,rfl,q,_,_,_,rfl,rfl,SqT.of g1,zu (j:=1) rfl,p,b,rs,pc.2,rfl,hp,g3,_,rfl,?_⟩;rw[<-hrl];cases hc:isCh rule.length 0 pc.2 with
  |false =>
   refine iteT ?_;have:=k H fun _ _ z=>z;unfold yi at this;rw[hc,Bool.false_and]at this;exact this
  |true =>
   refine iteF ?_;refine⟨_,rfl,q,_,_,_,rfl,rfl,SqT.of g1,zu (j:=1) rfl,b,rfl,⟨_,SqT.of g3⟩,comp_tup (xs:=pc.2.map V.int) (fun i ys σ' H'=>Same H H'/\(∃v,σ'=[v,some (.ref p),some (.ref q)])/\ys=((pc.2.take i).map fun j=>lies (rule.getD j.toNat []) pc.1).map V.bl) ⟨fun _ _ z=>z,⟨_,rfl⟩,rfl⟩ ?_ ?_ ?_⟩
   ·rintro i ys σ' H' hi ⟨s,_,rfl⟩;refine⟨SqT.of (s _ _ g3),?_⟩;rw[length_map,length_map,length_take];exact le_trans (m:=100) (by omega) (by decide)
   ·rintro i x ys σ' H' hx ⟨s,⟨v,rfl⟩,rfl⟩;obtain⟨z,hz,rfl⟩:=jr hx;obtain⟨hi,ez⟩:=List.getElem?_eq_some_iff.mp hz;have hb:=kY hc z (mem_of_getElem? hz);obtain⟨x,hx,c,rfl,gc⟩:=pick_at (h2.mv s.tups) hb.1 hb.2;refine⟨_,rfl,_,rfl,p,_,_,_,rfl,rfl,SqT.of (s _ _ hp),hx,?_⟩;refine⟨_,rfl,q,_,_,_,rfl,rfl,SqT.of (s _ _ g1),zu (j:=0) rfl,c,a,_,pc.1,rfl,gc,s _ _ g2,s,⟨_,rfl⟩,?_⟩;rw[take_succ_eq_append_getElem hi,map_append,map_append,ez];rfl
   ·rintro ys σ' H' ⟨s,_,rfl⟩ l hl;rw[length_map,take_length];refine⟨l,_,rfl,SqL.of z6,?_⟩;have:=k _ (s.trans (Same.new (o:=.lst ((pc.2.map fun j=>lies (rule.getD j.toNat []) pc.1).map V.bl)) hl));unfold yi at this;rw[hc,Bool.true_and]at this;rw[all_map];exact this
def n_rule_on:List Str:=["sided","side"]
theorem sc_rule_on:FnScope n_rule_on ["sided","side"] (z8 s_rule_on):=FS
inductive sp_rule_on(A:Adr)(vs:List V)(H:Hp)(Q:VK)(E:XK):Prop
 |mk (x p q:Addr) (rs qs:List V) (one other:List (List Int)) (s:Int):vs=[.ref x,.int s]->Sided A.w11 H x p q rs qs one other->((s=1\/s=2))->((∀H',Same H H'->Q (.ref (if s=1 then p else q)) H'))->sp_rule_on A vs H Q E
theorem ok_rule_on(T:Txt P w K mg A):FnOk P w K mg base CX0 2 A.a57 A.f57 ["sided","side"] (sp_rule_on A):=by
 refine T.x57.F.ok sc_rule_on (by walk_at "n") fun _ _ _ s H vs Q E hr h=>?_
 ·obtain⟨x,p,q,rs,qs,one,other,s,rfl,S,hs,k⟩:=h;refine⟨_,(z7 (zD (zi kI (pv 1) (ym (pa2 zc zc)) rfl)
     (z9 zN) zk)
    (z9 (zj (pix zR (pe_meth0 (pv 0) T.w39 T.x51.mt (j9 T) (hr.mono (by decide)) T.x51.b .nil yX) (zw op_sub (pv 1) zc))))),?_⟩
  refine⟨_,rfl,by show 2<=sizeLine;decide,fun t ht=>⟨t,_,rfl,.inr (SqT.of z6),rfl,rfl,_,rfl,?_⟩⟩;have s1:=Same.new (o:=.tup [V.int 1,V.int 2]) ht;rw[if_pos rfl,inV2];generalize upd H t (.tup [V.int 1,V.int 2])=H1 at s1
  ·have e:(decide (s=1)||decide (s=2))=true:=by rcases hs with h|h <;>rw[h] <;>rfl
   rw[e];obtain⟨dx,hx⟩:=S.ob;refine iteF ⟨_,rfl,x,dx,_,rfl,s1 _ _ hx,fl2_no _ _ (by decide+kernel) (by decide+kernel),x,dx,p,q,rfl,s1 _ _ hx,fun t2 H2 ht2 s2=>?_⟩;refine⟨_,rfl,_,_,rfl,rfl,t2,_,s-1,_,rfl,rfl,SqT.of ht2,?_,k H2 (s1.trans s2)⟩;rcases hs with h|h <;>rw[h]
   ·rw[if_pos rfl];exact zu (j:=0) rfl
   ·rw[if_neg (by decide)];exact zu (j:=1) rfl
def n_crossed:List Str:=["sided","place","side","heap","choice","here","beyond","rest"]
theorem kA:FnScope n_crossed ["sided","place"] (z8 s_crossed):=FS
inductive sp_crossed(A:Adr)(vs:List V)(H:Hp)(Q:VK)(E:XK):Prop
 |mk (x p q:Addr) (rs qs:List V) (one other:List (List Int)) (pl:Plc) (v:V) (n:Int) (i:Nat):vs=[.ref x,v]->Sided A.w11 H x p q rs qs one other->Rul one other->yH pl v H->WP one other n i pl->n<=60->(∀v' H',yH (j5 one other pl) v' H'->Same H H'->Q v' H')->sp_crossed A vs H Q E
theorem ok_crossed(T:Txt P w K mg A):FnOk P w K mg base CX0 4 A.a58 A.f58 ["sided","place"] (sp_crossed A):=by
 refine T.x58.F.ok kA (by walk_at "n") fun _ _ _ s H vs Q E hr h=>?_
 ·obtain⟨x,p,q,rs,qs,one,other,pl,v,n,i,rfl,S,R,hv,w,hn,k⟩:=h;refine⟨_,(z7 (pset 2 kA.nd (pix zR (pv 1) zc))
    (z7 (pset 3 kA.nd (pix zR (pv 1) zc))
    (z7 (pset 4 kA.nd (pix zR (pv 1) zc))
    (z7 (pset 5 kA.nd (pcl (ok_rule_on T) hr T.x57 (pa2 (pv 0) (pv 2))))
    (z7 (zD (km (zG (pcl (ok_is_pair T) hr T.x56 (pa2 (pv 5) (ym (pa2 (pv 3) (pv 4))))) (fun _=>rfl)))
     (z9 zN) zk)
    (z7 (pset 6 kA.nd (pcl (ok_rule_on T) hr T.x57 (pa2 (pv 0) (zw op_sub zc (pv 2)))))
    (z7 (pset 7 kA.nd (pcl (ok_taken T) hr T.x54 (pa2 (pcl (js T) hr T.x32 (pa2 (pv 5) (pv 4))) (pv 3))))
    (z9 (zj (ym (pa3 (zw op_sub zc (pv 2)) (pcl (ok_put T) hr T.x53 (pa2 (pv 7) (pcl (js T) hr T.x32 (pa2 (pv 6) (pv 4))))) (pv 4)))))))))))),?_⟩
  obtain⟨t,hh,hc,rfl,g1,g2,g3⟩:=hv;have hcl:=w.chl R;have hln:=w.hep.len;have hcr:=w.clen R;have hpos:=w.pos;obtain⟨hs,hpr⟩:=ya w.ip;obtain⟨sd,heap,ch⟩:=pl;dsimp only at g1 g2 g3 hcl hln hcr hs hpr hpos;refine⟨_,rfl,t,_,_,_,rfl,rfl,SqT.of g1,zu (j:=0) rfl,?_⟩;refine⟨_,rfl,t,_,_,_,rfl,rfl,SqT.of g1,zu (j:=1) rfl,?_⟩;refine⟨_,rfl,t,_,_,_,rfl,rfl,SqT.of g1,zu (j:=2) rfl,?_⟩;have hR:∀s:Int,(s=1\/s=2)-> ∀H',Same H H'-> ∃rv:List V,H' (if s=1 then p else q)=some (.tup rv)/\All2 Tup1 H' (onR one other s) rv:=fun s hs H' s'=>by
   rcases hs with h|h <;>subst h
   ·exact⟨rs,s' _ _ S.hp,S.h2.mv s'.tups⟩
   ·exact⟨qs,s' _ _ S.hq,S.g2.mv s'.tups⟩
  refine⟨_,rfl,_,rfl,x,p,q,rs,qs,one,other,sd,rfl,S,hs,fun H1 s1=>?_⟩;obtain⟨rv,hrv,arv⟩:=hR sd hs H1 s1;refine⟨_,rfl,_,rfl,_,rfl,by show 2<=sizeLine;decide,fun t2 ht2=>?_⟩;have s2:=Same.new (o:=.tup [V.ref hh,V.ref hc]) ht2;have s12:=s1.trans s2;refine⟨_,_,rv,onR one other sd,(heap,ch),rfl,s2 _ _ hrv,arv.mv s2.tups,⟨t2,hh,hc,rfl,z6,s12 _ _ g2,s12 _ _ g3⟩,le_trans hcl (by decide),fun H3 s3=>⟨_,rfl,?_⟩⟩;have s03:=s12.trans s3;rw[hpr];have S3:=S.mv s03;have hs':3-sd=1\/3-sd=2:=by omega
  have chb:∀s:Int,∀j∈ch,0<=j/\j<(onR one other s).length:=fun s j hj=>by
   have h1:=kY (pair_all hpr).1 j hj;rw[onR_len S.ln]at h1 ⊢;exact h1
  refine iteF ⟨_,rfl,_,rfl,_,_,rfl,rfl,x,p,q,rs,qs,one,other,3-sd,rfl,S3,hs',fun H4 s4=>?_⟩;have s04:=s03.trans s4;obtain⟨rv4,hrv4,arv4⟩:=hR sd hs H4 s04;obtain⟨rb4,hrb4,arb4⟩:=hR (3-sd) hs' H4 s04;refine⟨_,rfl,_,rfl,_,hc,rv4,onR one other sd,ch,rfl,hrv4,arv4,s04 _ _ g3,⟨(R.jR sd).pick hcl,le_trans hcl (by decide)⟩,chb sd,fun j1 ms H5 hj1 hjn hlm s5 _=>?_⟩;have e1:=joinX_eq hjn;have s05:=s04.trans s5;have hlj:lies ms heap=true:=by rw[<-e1];exact pair_join hpr
  refine⟨_,rfl,j1,hh,ms,heap,rfl,hj1,s05 _ _ g2,le_trans (show heap.length<=60 by omega) (by decide),hlj,fun t6 H6 ht6 s6=>?_⟩;have s06:=s05.trans s6;refine⟨_,rfl,_,_,rfl,rfl,_,rfl,_,rfl,_,rfl,_,hc,rb4,onR one other (3-sd),ch,rfl,(s5.trans s6) _ _ hrb4,arb4.mv (s5.trans s6).tups,s06 _ _ g3,⟨(R.jR (3-sd)).pick hcl,le_trans hcl (by decide)⟩,chb (3-sd),fun j2 ms2 H7 hj2 hjn2 hlm2 s7 _=>?_⟩;have e2:=joinX_eq hjn2;rw[e1,e2]at hcr;refine⟨t6,j2,yt ms heap,ms2,rfl,s7 _ _ ht6,hj2,by omega,fun y hy=>?_,fun p8 H8 hp8 s8=>?_⟩
  ·rcases mem_append.mp hy with hy|hy
   ·exact hpos y (takeOut_mem hy)
   ·rw[<-e2]at hy;exact join_pos (R.bR (3-sd)) y hy
  refine⟨_,rfl,by show 3<=sizeLine;decide,fun t9 ht9=>?_⟩;have s9:=Same.new (o:=.tup [V.int (3-sd),V.ref p8,V.ref hc]) ht9;have s09:=s06.trans (s7.trans (s8.trans s9));refine k _ _ ⟨t9,p8,hc,rfl,z6,?_,s09 _ _ g3⟩ s09;show _=some (HO.tup ((jF (yt (yc (zI (onR one other sd) ch)) heap++yc (zI (onR one other (3-sd)) ch))).map V.int));rw[e1,e2];exact s9 _ _ hp8
def n_partner_of:List Str:=["rule","pair","heap","choice","number"]
theorem kZ:FnScope n_partner_of ["rule","pair"] (z8 s_partner_of):=FS
inductive sp_partner_of(A:Adr)(vs:List V)(H:Hp)(Q:VK)(E:XK):Prop
 |mk (p:Addr) (v:V) (rs:List V) (rule:List (List Int)) (pc:List Int×List Int):vs=[.ref p,v]->H p=some (.tup rs)->All2 Tup1 H rule rs->Pair1 pc v H->pc.2.length<=100->rule.length<=60->((yi rule pc=true/\(y9 rule pc=none-> ∀H',Same H H'->Q .non H')/\ ∀pc',y9 rule pc=some pc'-> ∀v' H',Pair1 pc' v' H'->Same H H'->Q v' H'))->sp_partner_of A vs H Q E
theorem ok_partner_of(T:Txt P w K mg A):FnOk P w K mg base CX0 5 A.a59 A.f59 ["rule","pair"] (sp_partner_of A):=by
 refine T.x59.F.ok kZ (by walk_at "n") fun _ _ _ s H vs Q E hr h=>?_
 ·obtain⟨p,v,rs,rule,pc,rfl,hp,h2,hv,hln,hlr,h⟩:=h;refine⟨_,(z7 (zD (km (zG (pcl (ok_is_pair T) hr T.x56 (pa2 (pv 0) (pv 1))) (fun _=>rfl)))
     (z9 zN) zk)
    (z7 (pset 2 kZ.nd (pix zR (pv 1) zc))
    (z7 (pset 3 kZ.nd (pix zR (pv 1) zc))
    (z7 (pset 4 kZ.nd (pcl (ok_first_in T) hr T.x41 (pa2 (pv 0) (pv 2))))
    (z7 (zD (zi op_isN (pv 4) yV (zr _))
     (z9 (zj yV)) zk)
    (z7 (zD (zi op_in_seq (pv 4) (pv 3) rfl)
     (z9 (zj (ym (pa2 (pv 2) (jt sl_tupA (pv 3) (po_some zc) po_none))))) zk)
    (z9 (zj (ym (pa2 (pv 2) (zw op_catA (ym (pa1 (pv 4))) (pv 3)))))))))))),?_⟩
  obtain⟨q,a,b,rfl,g1,g2,g3⟩:=hv;refine⟨_,rfl,_,rfl,p,_,rs,rule,pc,rfl,hp,h2,⟨q,a,b,rfl,g1,g2,g3⟩,hln,fun H1 s1=>⟨_,rfl,?_⟩⟩;obtain⟨hc,kN,kS⟩:=h
  ·rw[hc];refine iteF ?_;refine⟨_,rfl,q,_,_,_,rfl,rfl,SqT.of (s1 _ _ g1),zu (j:=0) rfl,?_⟩;refine⟨_,rfl,q,_,_,_,rfl,rfl,SqT.of (s1 _ _ g1),zu (j:=1) rfl,?_⟩;refine⟨_,rfl,_,rfl,p,a,rs,rule,pc.1,rfl,s1 _ _ hp,h2.mv s1.tups,s1 _ _ g2,hlr,fun H2 s2=>?_⟩;have sn:=s1.trans s2;unfold y9 at kN kS;cases hf:zB rule pc.1 with
   |none =>
    rw[hf]at kN;refine⟨_,rfl,rfl,_,rfl,ite2 (fun _=>?_) (fun z=>absurd (decide_eq_true rfl) z)⟩;exact kN rfl H2 sn
   |some m =>
    rw[hf]at kS;refine⟨_,rfl,rfl,_,rfl,ite2 (fun z=>?_) (fun _=>?_)⟩
    ·have:=of_decide_eq_true z;cases this
    refine⟨_,rfl,_,rfl,b,_,rfl,.inr (SqT.of (sn _ _ g3)),rfl,j6 _,_,rfl,?_⟩;have ei:inV (optV (some m)) (pc.2.map V.int)=decide (m∈pc.2):=inV_ints m _;rw[if_neg Bool.false_ne_true,ei];refine ite2 (fun z=>?_) (fun z=>?_)
    ·have hm:m∈pc.2:=of_decide_eq_true z;refine⟨_,rfl,_,rfl,_,rfl,?_⟩;dsimp only[wg,tNil];refine slice_tail (sn _ _ g3) fun t H3 ht s3=>?_;refine⟨by show 2<=sizeLine;decide,fun r hr=>?_⟩;have s4:=Same.new (o:=.tup [.ref a,.ref t]) hr;exact kS _ (if_pos hm) _ _ ⟨r,a,t,rfl,z6,s4 _ _ (s3 _ _ (sn _ _ g2)),s4 _ _ ht⟩ (sn.trans (s3.trans s4))
    ·have hm:¬m∈pc.2:=fun e=>z (decide_eq_true e);refine⟨_,rfl,_,rfl,by show 1<=sizeLine;decide,fun t ht=>⟨_,rfl,?_⟩⟩;have s3:=Same.new (o:=.tup [V.int m]) ht;refine cat_front (z:=m) (s3 _ _ (sn _ _ g3)) z6 hln fun v H4 hv s4=>?_;obtain⟨c,rfl,gc⟩:=hv;refine⟨by show 2<=sizeLine;decide,fun r hr=>?_⟩;have s5:=Same.new (o:=.tup [.ref a,.ref c]) hr;exact kS _ (if_neg hm) _ _ ⟨r,a,c,rfl,z6,s5 _ _ (s4 _ _ (s3 _ _ (sn _ _ g2))),s5 _ _ gc⟩ (sn.trans (s3.trans (s4.trans s5)))
def n_toggled:List Str:=["sided","place","side","partner"]
theorem sc_toggled:FnScope n_toggled ["sided","place"] (z8 s_toggled):=FS
inductive sp_tog(A:Adr)(vs:List V)(H:Hp)(Q:VK)(E:XK):Prop
 |mk (x p q:Addr) (rs qs:List V) (one other:List (List Int)) (pl:Plc) (v:V):vs=[.ref x,v]->Sided A.w11 H x p q rs qs one other->yH pl v H->pl.2.2.length<=100->isPl one other pl=true->fstP one other pl≠none->(∀v' H',yH (togG one other pl) v' H'->Same H H'->Q v' H')->sp_tog A vs H Q E
theorem ok_toggled(T:Txt P w K mg A):FnOk P w K mg base CX0 6 A.a60 A.f60 ["sided","place"] (sp_tog A):=by
 refine T.x60.F.ok sc_toggled (by walk_at "n") fun _ _ _ s H vs Q E hr h=>?_
 ·obtain⟨x,p,q,rs,qs,one,other,pl,v,rfl,S,hv,hl2,hip,hf,k⟩:=h;refine⟨_,(z7 (pset 2 sc_toggled.nd (pix zR (pv 1) zc))
    (z7 (pset 3 sc_toggled.nd (pcl (ok_partner_of T) hr T.x59 (pa2 (pcl (ok_rule_on T) hr T.x57 (pa2 (pv 0) (pv 2))) (ym (pa2 (pix zR (pv 1) zc) (pix zR (pv 1) zc))))))
    (z7 (zD (zi op_isN (pv 3) yV (zr _))
     (z9 zN) zk)
    (z9 (zj (ym (pa3 (pv 2) (pix zR (pv 3) zc) (pix zR (pv 3) zc)))))))),?_⟩
  obtain⟨t,hh,hc,rfl,g1,g2,g3⟩:=hv;obtain⟨pc,hpc⟩:=partner_of_fst hf;rw[tog_of hpc]at k;obtain⟨hs,hpr⟩:=ya hip;obtain⟨sd,heap,ch⟩:=pl;dsimp only at g1 g2 g3 hl2 k hs hpr hpc;refine⟨_,rfl,t,_,_,_,rfl,rfl,SqT.of g1,zu (j:=0) rfl,?_⟩;refine⟨_,rfl,_,rfl,x,p,q,rs,qs,one,other,sd,rfl,S,hs,fun H1 s1=>?_⟩;obtain⟨rv,hrv,arv⟩:∃rv:List V,H1 (if sd=1 then p else q)=some (.tup rv)/\All2 Tup1 H1 (onR one other sd) rv:=by
   rcases hs with h|h <;>subst h
   ·exact⟨rs,s1 _ _ S.hp,S.h2.mv s1.tups⟩
   ·exact⟨qs,s1 _ _ S.hq,S.g2.mv s1.tups⟩
  refine⟨_,rfl,t,_,_,_,rfl,rfl,SqT.of (s1 _ _ g1),zu (j:=1) rfl,_,rfl,t,_,_,_,rfl,rfl,SqT.of (s1 _ _ g1),zu (j:=2) rfl,by show 2<=sizeLine;decide,fun t2 ht2=>?_⟩;have s2:=Same.new (o:=.tup [V.ref hh,V.ref hc]) ht2;have s12:=s1.trans s2;refine⟨_,_,rv,onR one other sd,(heap,ch),rfl,s2 _ _ hrv,arv.mv s2.tups,⟨t2,hh,hc,rfl,z6,s12 _ _ g2,s12 _ _ g3⟩,hl2,by rw[onR_len S.ln];have:=S.l6;omega,hpr,(fun z=>by rw[hpc]at z;cases z),fun pc' hpc' v' H3 hv' s3=>?_⟩;rw[hpc]at hpc';cases hpc';obtain⟨q',a',b',rfl,h1,h2,h3⟩:=hv';refine⟨_,rfl,rfl,_,rfl,ite2 (fun z=>?_) (fun _=>?_)⟩
  ·have:=of_decide_eq_true z;cases this
  refine⟨_,rfl,_,rfl,q',_,_,_,rfl,rfl,SqT.of h1,zu (j:=0) rfl,_,rfl,q',_,_,_,rfl,rfl,SqT.of h1,zu (j:=1) rfl,by show 3<=sizeLine;decide,fun t9 ht9=>?_⟩;have s9:=Same.new (o:=.tup [V.int sd,V.ref a',V.ref b']) ht9;exact k _ _ ⟨t9,a',b',rfl,z6,s9 _ _ h2,s9 _ _ h3⟩ (s12.trans (s3.trans s9))
def n_next_place:List Str:=["sided","walk"]
theorem sc_next_place:FnScope n_next_place ["sided","walk"] (z8 s_next_place):=FS
noncomputable def stepG(one other:List (List Int))(i:Nat)(pl:Plc):Plc:=if i%2=0 then j5 one other pl else togG one other pl
inductive sp_next(A:Adr)(vs:List V)(H:Hp)(Q:VK)(E:XK):Prop
 |mk (x l p q:Addr) (rs qs:List V) (one other:List (List Int)) (pl:Plc) (v:V) (ys:List V) (n:Int):vs=[.ref x,.ref l]->Sided A.w11 H x p q rs qs one other->Rul one other->H l=some (.lst (ys++[v]))->yH pl v H->WP one other n ys.length pl->n<=60->((ys.length%2=1->fstP one other pl≠none))->(∀v' H',yH (stepG one other ys.length pl) v' H'->Same H H'->Q v' H')->sp_next A vs H Q E
theorem ok_next_place(T:Txt P w K mg A):FnOk P w K mg base CX0 7 A.a61 A.f61 ["sided","walk"] (sp_next A):=by
 refine T.x61.F.ok sc_next_place (by walk_at "n") fun _ _ _ s H vs Q E hr h=>?_
 ·obtain⟨x,l,p,q,rs,qs,one,other,pl,v,ys,n,rfl,S,R,hl,hv,w,hn,hf,k⟩:=h;refine⟨_,(z7 (zD (zi yO (zw op_mod (zq zp rfl T.w5 PySem.boot_len (pa1 (pv 1))) zc) zc (zr _))
     (z9 (zj (pcl (ok_crossed T) hr T.x58 (pa2 (pv 0) (pix zA (pv 1) (pe_un un_neg zc)))))) zk)
    (z9 (zj (pcl (ok_toggled T) hr T.x60 (pa2 (pv 0) (pix zA (pv 1) (pe_un un_neg zc))))))),?_⟩
  have hlen:((ys++[v]).length:Int)%2=1↔ys.length%2=0:=by
   rw[length_append];show((ys.length+1:Nat):Int)%2=1↔_;omega
  refine⟨_,rfl,l,_,rfl,.inl (SqL.of hl),_,_,rfl,rfl,by omega,rfl,_,rfl,?_⟩;refine ite2 (fun h1=>?_) (fun h1=>?_)
  ·have e0:ys.length%2=0:=hlen.mp (V.int.inj (of_decide_eq_true h1));refine⟨_,rfl,_,rfl,_,rfl,l,_,_,_,rfl,rfl,SqL.of hl,atI_last _ _,x,p,q,rs,qs,one,other,pl,v,n,_,rfl,S,R,hv,w,hn,fun v' H' hv' s'=>k v' H' ?_ s'⟩;unfold stepG;rw[if_pos e0];exact hv'
  ·have e0:¬ys.length%2=0:=fun z=>h1 (decide_eq_true (congrArg V.int (hlen.mpr z)));refine⟨_,rfl,_,rfl,_,rfl,l,_,_,_,rfl,rfl,SqL.of hl,atI_last _ _,x,p,q,rs,qs,one,other,pl,v,rfl,S,hv,le_trans (w.chl R) (by decide),w.ip,hf (by omega),fun v' H' hv' s'=>k v' H' ?_ s'⟩;unfold stepG;rw[if_neg e0];exact hv'
def n_first_places:List Str:=["sided","heap","most","walk"]
theorem sc_first_places:FnScope n_first_places ["sided","heap","most"] (z8 s_first_places):=FS
inductive sp_places(A:Adr)(vs:List V)(H:Hp)(Q:VK)(E:XK):Prop
 |mk (x h p q:Addr) (rs qs:List V) (one other:List (List Int)) (hs:List Int) (n:Int) (mo:V) (B:Nat):vs=[.ref x,.ref h,mo]->Sided A.w11 H x p q rs qs one other->Rul one other->H h=some (.tup (hs.map V.int))->Hep n hs->n<=60->((mo= .non\/mo= .int (B:Int)))->B<=1000000->((mo= .non-> ∀k,Live one other hs k->k<B))->(∀(l:Addr)(k:Nat)(xs:List V)(H':Hp),H' l=some (.lst xs)->All2 yH H' (walkL one other hs k) xs->Live one other hs k->(EndAt one other hs k\/(mo= .int (B:Int)/\ ¬EndAt one other hs k/\B<=k+1/\(k=0\/k+1<=B)))->Same H H'->H l=none->Q (.ref l) H')->sp_places A vs H Q E
theorem ok_first_places(T:Txt P w K mg A):FnOk P w K mg base CX0 8 A.a62 A.f62 ["sided","heap","most"] (sp_places A):=by
 refine T.x62.F.ok sc_first_places (by walk_at "n") fun _ _ _ s H vs Q E hr h=>?_
 ·obtain⟨x,h,p,q,rs,qs,one,other,hs,n,mo,B,rfl,S,R,gh,hh,hn,hm,hB,hBk,k⟩:=h;refine⟨_,(z7 (pset 3 sc_first_places.nd (y8 (pa1 (ym (pa3 zc (pv 1) (ym ye))))))
    (z7 (ps_while PassesOwn.never (PW.pt (pw_and (km (zG (pcl (ok_is_end T) hr T.x52 (pa2 (pv 0) (pix zA (pv 3) (pe_un un_neg zc)))) (fun _=>rfl))) (pw_and1 (PW.pt (jQ (zi op_isN (pv 2) yV (zr _)) (jS (zi op_lt (zq zp rfl T.w5 PySem.boot_len (pa1 (pv 3))) (pv 2) (zr _))))))))
     (z9 (zV (yP PySem.F.plainAttrs_list PySem.F.slot_list_append PySem.F.type_list_append yk (pv 3) (pa1 (pcl (ok_next_place T) hr T.x61 (pa2 (pv 0) (pv 3))))))))
    (z9 (zj (pv 3))))),?_⟩
  refine⟨_,rfl,by show 0<=sizeLine;decide,fun c0 hc0=>⟨by show 3<=sizeLine;decide,fun t ht=>⟨by show 1<=sizeLine;decide,fun l hl=>?_⟩⟩⟩;have sT:=(Same.new (o:=.tup []) hc0).trans (Same.new (o:=.tup [V.int 1,V.ref h,V.ref c0]) ht);have sL:=sT.trans (Same.new (o:=.lst [V.ref t]) hl);have nl:H l=none:=sT.free hl;have gt:=Same.new (o:=.lst [V.ref t]) hl _ _ (z6 (H:=upd H c0 (.tup [])) (a:=t) (o:=.tup [V.int 1,V.ref h,V.ref c0]));have gc:=Same.new (o:=.lst [V.ref t]) hl _ _ (Same.new (o:=.tup [V.int 1,V.ref h,V.ref c0]) ht _ _ (z6 (H:=H) (a:=c0) (o:=.tup [])));refine⟨fun m σ' H'=>∃(k:Nat)(xs:List V),m=B+1-k/\ σ'=[some (.ref x),some (.ref h),some mo,some (.ref l)]/\H' l=some (.lst xs)/\All2 yH H' (walkL one other hs k) xs/\Live one other hs k/\(k=0\/mo= .non\/k+1<=B)/\Same H H',⟨_,0,[V.ref t],rfl,rfl,z6,.cons ⟨t,h,c0,rfl,gt,sL _ _ gh,gc⟩ .nil,fun i hi=>absurd hi (Nat.not_lt_zero _),.inl rfl,sL⟩,?_⟩;clear gt gc sL sT hl ht hc0;rintro m σ' H' ⟨k',xs,rfl,rfl,gl,a2,L,hk,s⟩;obtain⟨ys,v,rfl,hy,hv⟩:=walk_last a2;have w:=wk_ok R hh k' L;have we:=wk_end R hh L;refine⟨_,rfl,_,rfl,_,rfl,l,_,_,_,rfl,rfl,SqL.of gl,atI_last _ _,x,p,q,rs,qs,one,other,_,v,rfl,S.mv s,hv,fun H1 s1=>⟨_,rfl,?_⟩⟩;have s01:=s.trans s1;have hlt:(ys++[v]).length<sizeLine->True:=fun _=>trivial;cases he:isEndB other (wk one other hs k')with
  |true =>
   obtain⟨e1,e2⟩:=we.mp he;exact iteF (iteF ⟨_,rfl,k l k' _ H1 (s1 _ _ gl) (a2.imp fun _ _ z=>z.mv s1.tups) L (.inl ⟨L,e1,e2⟩) s01 nl⟩)
  |false =>
   have hne:¬EndAt one other hs k':=fun z=>by rw[we.mpr ⟨z.od,z.no⟩]at he;cases he
   have hf:ys.length%2=1->fstP one other (wk one other hs k')≠none:=fun o z=>hne ⟨L,by rw[<-hy];exact o,z⟩;have hk6:k'<=1000000:=by
    rcases hm with z|z
    ·have:=hBk z k' L;omega
    ·rcases hk with e|e|e
     ·omega
     ·rw[z]at e;cases e
     ·omega
   have hly:(ys++[v]).length<sizeLine:=by
    rw[length_append,hy];exact lt_of_le_of_lt (show k'+1<=1000001 by omega) (by decide)
   have wy:WP one other n ys.length (wk one other hs k'):=by rw[hy];exact w
   refine iteT ⟨_,rfl,rfl,_,rfl,?_⟩;have fin:∀(H2:Hp)(v':V),yH (stepG one other ys.length (wk one other hs k')) v' H2->Same H' H2->(mo= .non\/k'+2<=B)->B+1-(k'+1)<B+1-k'-> ∃m',m'<B+1-k'/\ ∃(k:Nat)(xs:List V),m'=B+1-k/\[some (V.ref x),some (V.ref h),some mo,some (V.ref l)]=[some (.ref x),some (.ref h),some mo,some (.ref l)]/\upd H2 l (.lst (ys++[v]++[v'])) l=some (.lst xs)/\All2 yH (upd H2 l (.lst (ys++[v]++[v']))) (walkL one other hs k) xs/\Live one other hs k/\(k=0\/mo= .non\/k+1<=B)/\Same H (upd H2 l (.lst (ys++[v]++[v']))):=fun H2 v' hv' s2 hc hlt=>by
    rw[hy]at hv';have tS:Tups H2 (upd H2 l (.lst (ys++[v]++[v']))):=Tups.set (s2 _ _ gl);refine⟨_,hlt,k'+1,_,rfl,rfl,z6,walk_snoc a2 (s2.tups.trans tS) (yH.mv tS ?_),L.next hne,.inr (hc.imp_right fun z=>by omega),(s.trans s2).updN nl⟩;exact hv'
   rcases hm with rfl|rfl
   ·have hb:=hBk rfl k' L;refine ite2 (fun _=>?_) (fun z=>absurd (decide_eq_true rfl) z);refine iteT ⟨_,fun σ' H' h=>h,?_⟩;exact⟨_,rfl,.inl ⟨rfl,_,SqL.of (s1 _ _ gl)⟩,_,rfl,_,rfl,x,l,p,q,rs,qs,one,other,_,v,ys,n,rfl,S.mv s01,R,s1 _ _ gl,hv.mv s1.tups,wy,hn,hf,fun v' H2 hv' s2=>⟨l,_,_,rfl,rfl,s2 _ _ (s1 _ _ gl),hly,fin H2 v' hv' (s1.trans s2) (.inl rfl) (by omega)⟩⟩
   ·refine ite2 (fun z=>by have:=of_decide_eq_true z;cases this) (fun _=>?_);refine⟨_,rfl,l,_,rfl,.inl (SqL.of (s1 _ _ gl)),_,rfl,_,_,rfl,rfl,_,rfl,ite2 (fun hc=>?_) (fun hc=>?_)⟩
    ·have hc':k'+2<=B:=by
      have:=of_decide_eq_true hc;rw[length_append,hy]at this;simp at this;omega
     refine⟨_,fun σ' H' h=>h,?_⟩;exact⟨_,rfl,.inl ⟨rfl,_,SqL.of (s1 _ _ gl)⟩,_,rfl,_,rfl,x,l,p,q,rs,qs,one,other,_,v,ys,n,rfl,S.mv s01,R,s1 _ _ gl,hv.mv s1.tups,wy,hn,hf,fun v' H2 hv' s2=>⟨l,_,_,rfl,rfl,s2 _ _ (s1 _ _ gl),hly,fin H2 v' hv' (s1.trans s2) (.inr hc') (by omega)⟩⟩
    ·have hc':B<=k'+1:=by
      refine Nat.le_of_not_lt fun z=>hc (decide_eq_true ?_);rw[length_append,hy];simp;omega
     exact⟨_,rfl,k l k' _ H1 (s1 _ _ gl) (a2.imp fun _ _ z=>z.mv s1.tups) L (.inr ⟨rfl,hne,hc',hk.imp_right fun z=>z.resolve_left (fun y=>by cases y)⟩) s01 nl⟩
def n_whole_walk:List Str:=["sided","heap"]
theorem sc_whole_walk:FnScope n_whole_walk ["sided","heap"] (z8 s_whole_walk):=FS
inductive sp_whole(A:Adr)(vs:List V)(H:Hp)(Q:VK)(E:XK):Prop
 |mk (x h p q:Addr) (rs qs:List V) (one other:List (List Int)) (hs:List Int) (m:Nat):vs=[.ref x,.ref h]->Sided A.w11 H x p q rs qs one other->Rul one other->H h=some (.tup (hs.map V.int))->Hep (m:Int) hs->m<=24->zB one hs=none->(∀(l:Addr)(k:Nat)(xs:List V)(H':Hp),H' l=some (.lst xs)->All2 yH H' (walkL one other hs k) xs->EndAt one other hs k->Same H H'->H l=none->Q (.ref l) H')->sp_whole A vs H Q E
theorem ok_whole_walk(T:Txt P w K mg A):FnOk P w K mg base CX0 9 A.a63 A.f63 ["sided","heap"] (sp_whole A):=by
 refine T.x63.F.ok sc_whole_walk (by walk_at "n") fun _ _ _ s H vs Q E hr h=>?_
 ·obtain⟨x,h,p,q,rs,qs,one,other,hs,m,rfl,S,R,gh,hh,hm,h0,k⟩:=h;refine⟨_,(z7 (zV (pcl (kU T) hr T.x33 (pa2 (pcl (ok_sum_of T) hr T.x26 (pa1 (pv 1))) (yx (v:=.int 24) rfl T.w21.choose_spec ⟨_,rfl⟩))))
    (z7 (zV (pcl (ok_refuse_unkept T) hr T.x50 (pa2 (pix zR (pe_meth0 (pv 0) T.w39 T.x51.mt (j9 T) (hr.mono (by decide)) T.x51.b .nil yX) zc) (pv 1))))
    (z9 (zj (pcl (ok_first_places T) hr T.x62 (pa3 (pv 0) (pv 1) yV)))))),?_⟩
  obtain⟨dx,hx⟩:=S.ob;have l6:=S.l6;refine⟨_,rfl,h,hs,rfl,SqT.of gh,hs.sum,24,rfl,⟨by decide,by decide⟩,.inl ⟨by rw[hh.sum];omega,by rw[hh.sum];omega,?_⟩⟩;refine⟨_,rfl,x,dx,_,rfl,hx,fl2_no _ _ (by decide+kernel) (by decide+kernel),x,dx,p,q,rfl,hx,fun t2 H2 ht2 s2=>?_⟩;refine⟨t2,_,0,_,rfl,rfl,SqT.of ht2,zu (j:=0) rfl,_,rfl,p,h,rs,one,hs,rfl,s2 _ _ S.hp,S.h2.mv s2.tups,s2 _ _ gh,by omega,h0,fun H3 s3=>?_⟩;have s23:=s2.trans s3;refine⟨_,rfl,_,rfl,x,h,p,q,rs,qs,one,other,hs,(m:Int),.non,201600,rfl,S.mv s23,R,s23 _ _ gh,hh,by omega,.inl rfl,by decide,fun _ k L=>wk_few R hh hm h0 L,fun l k' xs H' gl a2 L he s' nl=>?_⟩;refine k l k' xs H' gl a2 (he.resolve_right fun z=>by cases z.1) (s23.trans s') (s23.free nl)
def n_end_of:List Str:=["sided","heap"]
theorem sc_end_of:FnScope n_end_of ["sided","heap"] (z8 s_end_of):=FS
inductive sp_end_of(A:Adr)(vs:List V)(H:Hp)(Q:VK)(E:XK):Prop
 |mk (x h p q:Addr) (rs qs:List V) (one other:List (List Int)) (hs:List Int) (m:Nat):vs=[.ref x,.ref h]->Sided A.w11 H x p q rs qs one other->Rul one other->H h=some (.tup (hs.map V.int))->Hep (m:Int) hs->m<=24->zB one hs=none->(∀(e:Addr)(H':Hp),H' e=some (.tup ((endH one other hs).map V.int))->Same H H'->Q (.ref e) H')->sp_end_of A vs H Q E
theorem ok_end_of(T:Txt P w K mg A):FnOk P w K mg base CX0 10 A.a64 A.f64 ["sided","heap"] (sp_end_of A):=by
 refine T.x64.F.ok sc_end_of (by walk_at "n") fun _ _ _ s H vs Q E hr h=>?_
 ·obtain⟨x,h,p,q,rs,qs,one,other,hs,m,rfl,S,R,gh,hh,hm,h0,k⟩:=h;refine⟨_,(z9 (zj (pix zR (pix zA (pcl (ok_whole_walk T) hr T.x63 (pa2 (pv 0) (pv 1))) (pe_un un_neg zc)) zc))),?_⟩;refine⟨_,rfl,_,rfl,x,h,p,q,rs,qs,one,other,hs,m,rfl,S,R,gh,hh,hm,h0,fun l k' xs H' gl a2 he s nl=>?_⟩;obtain⟨ys,v,rfl,hy,t,e,c,rfl,g1,g2,g3⟩:=walk_last a2;refine⟨_,rfl,l,_,_,_,rfl,rfl,SqL.of gl,atI_last _ _,t,_,1,_,rfl,rfl,SqT.of g1,zu (j:=1) rfl,k e H' ?_ s⟩;rw[endH_eq he];exact g2
def n_Beside___init__:List Str:=["self","one","other","unlike"]
theorem jv:FnScope n_Beside___init__ ["self","one","other"] (z8 jV):=FS
inductive sp_bes_init(A:Adr)(vs:List V)(H:Hp)(Q:VK)(E:XK):Prop
 |mk (x dx p q:Addr) (rs qs:List V) (one other:List (List Int)):vs=[.ref x,.ref p,.ref q]->H x=some (.ins A.w11 dx [])->H p=some (.tup rs)->All2 Tup1 H one rs->H q=some (.tup qs)->All2 Tup1 H other qs->Rul one other->(∀(H':Hp),H' x=some (.ins A.w11 dx (fl2 p q))->(∀b o,H b=some o->b≠x->H' b=some o)->Q .non H')->sp_bes_init A vs H Q E
theorem ok_Beside___init__(T:Txt P w K mg A):FnOk P w K mg base CX0 6 A.a65 A.f65 ["self","one","other"] (sp_bes_init A):=by
 refine T.x65.F.ok jv (by walk_at "n") fun _ _ _ s H vs Q E hr h=>?_
 ·obtain⟨x,dx,p,q,rs,qs,one,other,rfl,hx,hp,h2,hq,g2,R,k⟩:=h;refine⟨_,(z7 (pset 3 jv.nd (pcl (ok_first_unlike T) hr T.x48 (pa2 (pv 1) (pv 2))))
    (z7 (zD (zi op_notN (pv 3) yV (zr _))
     (z9 zN) zk)
    (z7 (ps_fld (pv 0) (pv 1) rfl)
    (z9 (ps_fld (pv 0) (pv 2) rfl))))),?_⟩
  refine⟨_,rfl,_,rfl,p,q,rs,qs,one,other,rfl,hp,h2,hq,g2,R.ln,R.l6,R.j1,R.j2,R.eq,fun H1 s1=>?_⟩;refine⟨_,rfl,rfl,_,rfl,ite2 (fun z=>by simp at z) (fun _=>?_)⟩;refine⟨_,rfl,_,rfl,x,A.w11,dx,[],rfl,s1 _ _ hx,T.w39,T.w43,(by show 0<1000;decide),_,rfl,_,rfl,x,A.w11,dx,_,rfl,z6,T.w39,T.w44,(by show 1<1000;decide),?_⟩;refine k _ z6 fun b o e hb=>?_;rw[zh hb,zh hb];exact s1 _ _ e
def n_sided_of:List Str:=["standing","given"]
theorem sc_sided_of:FnScope n_sided_of ["standing","given"] (z8 s_sided_of):=FS
inductive sp_sided_of(A:Adr)(vs:List V)(H:Hp)(Q:VK)(E:XK):Prop
 |mk (d g:Addr) (kvs:List (Key×V)) (gs:List V) (S:Std) (n m:Str) (as:List DArg) (r1 r2:List (List Int)):vs=[.ref d,.ref g]->H d=some (.dK kvs)->StdV H S kvs->H g=some (.lst gs)->All2 ArgV H (.name n:: .name m::as) gs->zX S n=some r1->zX S m=some r2->Rul r1 r2->(∀(x p q:Addr)(rs qs:List V)(H':Hp),Sided A.w11 H' x p q rs qs r1 r2->Same H H'->Q (.ref x) H')->sp_sided_of A vs H Q E
theorem ok_sided_of(T:Txt P w K mg A):FnOk P w K mg base CX0 8 A.a66 A.f66 ["standing","given"] (sp_sided_of A):=by
 refine T.x66.F.ok sc_sided_of (by walk_at "n") fun _ _ _ s H vs Q E hr h=>?_
 ·obtain⟨d,g,kvs,gs,S,n,m,as,r1,r2,rfl,hd,sd,hg,ha,hl,hl2,R,k⟩:=h;refine⟨_,(z9 (zj (pe_make T.w41 (ok_Beside___init__ T) (hr.mono (by decide)) rfl T.w36 T.x65.b .nil yX (pa2 (pe_dget (huR hr) (pv 0) (pix zA (pv 1) zc) (fun _ _=>rfl)) (pe_dget (huR hr) (pv 0) (pix zA (pv 1) zc) (fun _ _=>rfl)))))),?_⟩;cases ha with
  |cons h1 ha =>
   cases ha with
   |cons h2 ha =>
    cases h1;cases h2;obtain⟨p,xs,dg,gp,a2⟩:=std_get hd sd hl;obtain⟨p2,xs2,dg2,gp2,a22⟩:=std_get hd sd hl2;refine⟨_,rfl,_,rfl,g,_,0,_,rfl,rfl,SqL.of hg,zu (j:=0) rfl,d,_,rfl,dg,_,rfl,_,rfl,g,_,1,_,rfl,rfl,SqL.of hg,zu (j:=1) rfl,d,_,rfl,dg2,fun x dx hx hdx ne=>?_⟩;have hx':upd H dx (.own x) x=none:=by rw[zh ne.symm];exact hx
    have s1:=(Same.new (o:=.own x) hdx).trans (Same.new (o:=.ins A.w11 dx []) hx');refine⟨x,dx,p,p2,xs,xs2,r1,r2,rfl,z6,s1 _ _ gp,a2.mv s1.tups,s1 _ _ gp2,a22.mv s1.tups,R,fun H' gx kk=>⟨rfl,?_⟩⟩;have s2:Same H H':=fun b o e=>kk b o (s1 b o e) (fun z=>by rw[z,hx]at e;cases e);exact k x p p2 xs xs2 H' ⟨⟨dx,gx⟩,s2 _ _ gp,a2.mv s2.tups,s2 _ _ gp2,a22.mv s2.tups,R.ln,R.l6,R.b1,R.b2⟩ s2
def n_tell_end:List Str:=["standing","given"]
theorem sc_tell_end:FnScope n_tell_end ["standing","given"] (z8 s_tell_end):=FS
inductive sp_tell_end(A:Adr)(vs:List V)(H:Hp)(Q:VK)(E:XK):Prop
 |mk (d g:Addr) (kvs:List (Key×V)) (gs:List V) (S:Std) (n m:Str) (r1 r2:List (List Int)) (h0:List Int) (c:Nat):vs=[.ref d,.ref g]->H d=some (.dK kvs)->StdV H S kvs->H g=some (.lst gs)->All2 ArgV H [.name n,.name m,.heap h0] gs->zX S n=some r1->zX S m=some r2->Rul r1 r2->Hep (c:Int) h0->c<=24->zB r1 h0=none->(∀(H':Hp),Same H H'->Q (.str (txt (endH r1 r2 h0))) H')->sp_tell_end A vs H Q E
theorem ok_tell_end(T:Txt P w K mg A):FnOk P w K mg base CX0 12 A.a67 A.f67 ["standing","given"] (sp_tell_end A):=by
 refine T.x67.F.ok sc_tell_end (by walk_at "n") fun _ _ _ s H vs Q E hr h=>?_
 ·obtain⟨d,g,kvs,gs,S,n,m,r1,r2,h0,c,rfl,hd,sd,hg,ha,hl,hl2,R,hp,h24,hf,k⟩:=h;refine⟨_,(z9 (zj (pcl (ok_heap_text T) hr T.x13 (pa1 (pcl (ok_end_of T) hr T.x64 (pa2 (pcl (ok_sided_of T) hr T.x66 (pa2 (pv 0) (pv 1))) (pix zA (pv 1) zc))))))),?_⟩;cases ha with
  |cons h1 ha =>
   cases ha with
   |cons h2 ha =>
    cases ha with
    |cons h3 ha =>
     cases ha;cases h1;cases h2;obtain⟨q0,rfl,gq⟩:=h3;refine⟨_,rfl,_,rfl,d,g,kvs,_,S,n,m,[.heap h0],r1,r2,rfl,hd,sd,hg,.cons rfl (.cons rfl (.cons ⟨q0,rfl,gq⟩ .nil)),hl,hl2,R,fun x p q rs qs H1 Sd s1=>?_⟩;refine⟨_,rfl,g,_,2,_,rfl,rfl,SqL.of (s1 _ _ hg),zu (j:=2) rfl,x,q0,p,q,rs,qs,r1,r2,h0,c,rfl,Sd,R,s1 _ _ gq,hp,h24,hf,fun e H2 ge s2=>?_⟩;obtain⟨he,_⟩:=endH_hep R hp h24 hf;have hl24:=he.len;refine⟨e,endH r1 r2 h0,rfl,ge,by omega,fun y hy=>⟨he.pos y hy,Int.le_trans (hep_le he hy) (Int.le_trans (show(c:Int)<=24 by omega) (by decide))⟩,fun H3 s3=>k H3 (s1.trans (s2.trans s3))⟩
def n_tell_steps:List Str:=["standing","given"]
theorem sc_tell_steps:FnScope n_tell_steps ["standing","given"] (z8 s_tell_steps):=FS
inductive sp_tell_steps(A:Adr)(vs:List V)(H:Hp)(Q:VK)(E:XK):Prop
 |mk (d g:Addr) (kvs:List (Key×V)) (gs:List V) (S:Std) (n m:Str) (r1 r2:List (List Int)) (h0:List Int) (c:Nat):vs=[.ref d,.ref g]->H d=some (.dK kvs)->StdV H S kvs->H g=some (.lst gs)->All2 ArgV H [.name n,.name m,.heap h0] gs->zX S n=some r1->zX S m=some r2->Rul r1 r2->Hep (c:Int) h0->c<=24->zB r1 h0=none->(∀(H':Hp),Same H H'->Q (.str (numS ((stepsX r1 r2 h0:Nat):Int))) H')->sp_tell_steps A vs H Q E
theorem ok_tell_steps(T:Txt P w K mg A):FnOk P w K mg base CX0 12 A.a68 A.f68 ["standing","given"] (sp_tell_steps A):=by
 refine T.x68.F.ok sc_tell_steps (by walk_at "n") fun _ _ _ s H vs Q E hr h=>?_
 ·obtain⟨d,g,kvs,gs,S,n,m,r1,r2,h0,c,rfl,hd,sd,hg,ha,hl,hl2,R,hp,h24,hf,k⟩:=h;refine⟨_,(z9 (zj (zH yT rfl T.w11 boot_str (pa1 (zq zp rfl T.w5 PySem.boot_len (pa1 (pcl (ok_whole_walk T) hr T.x63 (pa2 (pcl (ok_sided_of T) hr T.x66 (pa2 (pv 0) (pv 1))) (pix zA (pv 1) zc))))))))),?_⟩;cases ha with
  |cons h1 ha =>
   cases ha with
   |cons h2 ha =>
    cases ha with
    |cons h3 ha =>
     cases ha;cases h1;cases h2;obtain⟨q0,rfl,gq⟩:=h3;refine⟨_,rfl,_,rfl,d,g,kvs,_,S,n,m,[.heap h0],r1,r2,rfl,hd,sd,hg,.cons rfl (.cons rfl (.cons ⟨q0,rfl,gq⟩ .nil)),hl,hl2,R,fun x p q rs qs H1 Sd s1=>?_⟩;refine⟨_,rfl,g,_,2,_,rfl,rfl,SqL.of (s1 _ _ hg),zu (j:=2) rfl,x,q0,p,q,rs,qs,r1,r2,h0,c,rfl,Sd,R,s1 _ _ gq,hp,h24,hf,fun l j xs H2 gl a2 he s2 _=>?_⟩;have hlen:=a2.length;rw[walkL_len]at hlen;have hj:=wk_few R hp h24 hf he.lv;have ex:(xs.length:Int)=((stepsX r1 r2 h0:Nat):Int):=by rw[stepsX_eq he,<-hlen]
     refine⟨l,_,rfl,.inl (SqL.of gl),_,rfl,?_,?_⟩
     ·exact numS_log (by omega) (Int.le_trans (show(xs.length:Int)<=201600 by omega) (by decide))
     ·rw[ex];exact k H2 (s1.trans s2)
def n_put_new:List Str:=["standing","given"]
theorem sc_put_new:FnScope n_put_new ["standing","given"] (z8 s_put_new):=FS
inductive sp_put_new(vs:List V)(H:Hp)(Q:VK)(E:XK):Prop
 |mk (d g:Addr) (gs:List V) (n:Str) (r:List (List Int)):vs=[.ref d,.ref g]->H g=some (.lst gs)->All2 ArgV H [.name n,.rule r] gs->(∀(t:Addr)(v:V)(H':Hp),H' t=some (.tup [.str n,v])->RuleV r v H'->Same H H'->Q (.ref t) H')->sp_put_new vs H Q E
theorem ok_put_new(T:Txt P w K mg A):FnOk P w K mg base CX0 3 A.a69 A.f69 ["standing","given"] sp_put_new:=by
 refine T.x69.F.ok sc_put_new (by walk_at "n") fun _ _ _ s H vs Q E hr h=>?_
 ·obtain⟨d,g,gs,n,r,rfl,hg,ha,k⟩:=h;refine⟨_,(z9 (zj (ym (pa2 (pix zA (pv 1) zc) (pix zA (pv 1) zc))))),?_⟩;cases ha with
  |cons h1 ha =>
   cases ha with
   |cons h2 ha =>
    cases ha;cases h1;refine⟨_,rfl,g,_,0,_,rfl,rfl,SqL.of hg,zu (j:=0) rfl,_,rfl,g,_,1,_,rfl,rfl,SqL.of hg,zu (j:=1) rfl,by show 2<=sizeLine;decide,fun t ht=>?_⟩;exact k t _ _ z6 (RuleV.mv (Same.new ht).tups h2) (Same.new ht)
def n_Desk_tell:List Str:=["self","line","said","word","given","named"]
theorem kQ:FnScope n_Desk_tell ["self","line"] (z8 s_Desk_tell):=FS
def G_ASKS(A:Adr)(f:Addr)(sp:Sp):Prop:=(f=A.a38/\sp=sp_tell_count)\/(f=A.a46/\sp=sp_tell_list)\/(f=A.a49/\sp=sp_tell_match)\/(f=A.a67/\sp=sp_tell_end A)\/(f=A.a68/\sp=sp_tell_steps A)
def G_PUTS(A:Adr)(f:Addr)(sp:Sp):Prop:=f=A.a69/\sp=sp_put_new
def TAsk(A:Adr)(S:Std)(wd:Str)(as:List DArg)(H:Hp)(Q:VK):Prop :=
 (wd=Str.ofString "count"/\ ∃(n:Str)(r:List (List Int))(m:Nat),as=[.name n,.num (m:Int)]/\zX S n=some r/\CountOk r m/\ ∀H',Same H H'->Q (.str (numS (countX r m))) H')\/
 (wd=Str.ofString "list"/\ ∃(n:Str)(r:List (List Int))(m:Nat),as=[.name n,.num (m:Int)]/\zX S n=some r/\r.length<=60/\m<=24/\ ∀H',Same H H'->Q (.str (listT r m)) H')\/
 (wd=Str.ofString "match"/\ ∃(n m:Str)(r r2:List (List Int)),as=[.name n,.name m]/\zX S n=some r/\zX S m=some r2/\Rul r r2/\ ∀H',Same H H'->Q (.str (Str.ofString "yes")) H')\/
 (wd=Str.ofString "send"/\ ∃(n m:Str)(r r2:List (List Int))(h:List Int)(c:Nat),as=[.name n,.name m,.heap h]/\zX S n=some r/\zX S m=some r2/\Rul r r2/\Hep (c:Int) h/\c<=24/\zB r h=none/\ ∀H',Same H H'->Q (.str (txt (endH r r2 h))) H')\/
 (wd=Str.ofString "steps"/\ ∃(n m:Str)(r r2:List (List Int))(h:List Int)(c:Nat),as=[.name n,.name m,.heap h]/\zX S n=some r/\zX S m=some r2/\Rul r r2/\Hep (c:Int) h/\c<=24/\zB r h=none/\ ∀H',Same H H'->Q (.str (numS ((stepsX r r2 h:Nat):Int))) H')
inductive sp_tell(A:Adr)(vs:List V)(H:Hp)(Q:VK)(E:XK):Prop
 |mk (x:Addr) (z:Str) (O:List Addr) (S:Std) (past und:List Std) (wd:Str) (as:List DArg):vs=[.ref x,.str z]->z.length<=100000->DeskAt A.w12 H x O S past und->readL z=some (wd,as)->S.length<=50->past.length<=1000->und.length<=1000->((TAsk A S wd as H Q\/
  (wd=Str.ofString "rule"/\ ∃n r,as=[.name n,.rule r]/\FineW r/\ ∀(H':Hp)(O':List Addr),After A.w12 H H' x O O' (putS S n r) (past++[S]) []->Q (.str (rtxt r)) H')))->sp_tell A vs H Q E
theorem y1(T:Txt P w K mg A):FnOk P w K mg base CX0 30 A.a70 A.f70 ["self","line"] (sp_tell A):=by
 refine T.x70.F.ok kQ (by walk_at "n") fun _ _ _ s H vs Q E hr h=>?_
 ·obtain⟨x,z,O,S,past,und,wd,as,rfl,hz,D,hR,l50,lp,lu,h⟩:=h;refine⟨_,(z7 (pset 2 kQ.nd (pcl (ok_read_line T) hr T.x22 (pa1 (pv 1))))
    (z7 (pset 3 kQ.nd (pix zR (pv 2) zc))
    (z7 (pset 4 kQ.nd (pix zR (pv 2) zc))
    (z7 (zV (pcl (ok_refuse_nameless T) hr T.x23 (pa3 (pe_fld (pv 0) rfl) (pv 3) (pv 4))))
    (z7 (zD (zi op_inKD (pv 3) (yx (v:=.ref A.w15) rfl T.w50 rfl) rfl)
     (z9 (zj (pe_callE (G:=G_ASKS A) (E:=E0) (fun f sp g=>by rcases g with⟨rfl,rfl⟩|⟨rfl,rfl⟩|⟨rfl,rfl⟩|⟨rfl,rfl⟩|⟨rfl,rfl⟩ <;>first|exact CallsOk.of (ok_tell_count T) (hr.mono (by decide)) T.x38.F.kp T.x38.b pass0A|exact CallsOk.of (ok_tell_list T) (hr.mono (by decide)) T.x46.F.kp T.x46.b pass0A|exact CallsOk.of (ok_tell_match T) (hr.mono (by decide)) T.x49.F.kp T.x49.b pass0A|exact CallsOk.of (ok_tell_end T) (hr.mono (by decide)) T.x67.F.kp T.x67.b pass0A|exact CallsOk.of (ok_tell_steps T) (hr.mono (by decide)) T.x68.F.kp T.x68.b pass0A) (pe_kdget (yx (v:=.ref A.w15) rfl T.w50 rfl) (pv 3) (fun _ _=>rfl)) (pa2 (pe_fld (pv 0) rfl) (pv 4)) (fun h=>Call_ h)))) zk)
    (z7 (zD (zi op_inKD (pv 3) (yx (v:=.ref A.w14) rfl T.w49 rfl) rfl)
     (z7 (pset 5 kQ.nd (pe_callE (G:=G_PUTS A) (E:=E0) (fun f sp g=>by rcases g with⟨rfl,rfl⟩ <;>first|exact CallsOk.of (ok_put_new T) (hr.mono (by decide)) T.x69.F.kp T.x69.b pass0A) (pe_kdget (yx (v:=.ref A.w14) rfl T.w49 rfl) (pv 3) (fun _ _=>rfl)) (pa2 (pe_fld (pv 0) rfl) (pv 4)) (fun h=>Call_ h)))
    (z7 (zV (ja (pv 0) T.w40 T.x25.mt (ok_Desk_do_put T) (hr.mono (by decide)) T.x25.b .nil yX (pa2 (pix zR (pv 5) zc) (pix zR (pv 5) zc))))
    (z9 (zj (pcl (ok_rule_text T) hr T.x14 (pa1 (pix zR (pv 5) zc))))))) zk)
    (z7 zN
    (z9 zN)))))))),?_⟩
  obtain⟨form,_,hf,_⟩:=readL_inv hR;obtain⟨ln,nms⟩:=readL_names hR hf;refine cut4 fun nxt hnt=>?_;refine⟨_,rfl,z,wd,as,rfl,hz,hR,fun t g gs H1 gt gg ga s1=>?_⟩;refine⟨_,rfl,t,_,0,_,rfl,rfl,SqT.of gt,zu (j:=0) rfl,?_⟩;refine⟨_,rfl,t,_,1,_,rfl,rfl,SqT.of gt,zu (j:=1) rfl,?_⟩;obtain⟨mx,al,dx,d,pl,ul,xs,ys,hx,⟨_,kvs,ed,md,hd,sd⟩,hp,ap,hu,au,mp,mu,npu⟩:=D.same s1;cases ed;refine⟨_,rfl,x,A.w12,dx,_,_,rfl,hx,T.w40,T.w46,rfl,_,rfl,_,rfl,d,g,kvs,gs,S,wd,form,as,rfl,hd,sd,hf,gg,ga,ln,nms,?_,fun H2 s2=>?_⟩
  ·rcases h with(⟨rfl,n,r,m,rfl,hl,hb,k⟩|⟨rfl,n,r,m,rfl,hl,hb,hm,k⟩|⟨rfl,n,m,r,r2,rfl,hl,hl2,hR,k⟩|⟨rfl,n,m,r,r2,h1,c,rfl,hl,hl2,hR,hp,h24,h0,k⟩|⟨rfl,n,m,r,r2,h1,c,rfl,hl,hl2,hR,hp,h24,h0,k⟩)|⟨rfl,n,r,rfl,_⟩
   ·rw[form_count]at hf;cases hf;rw[j8 _ _ _ hl];simp[zE]
   ·rw[form_list]at hf;cases hf;rw[j8 _ _ _ hl];simp[zE]
   ·rw[form_match]at hf;cases hf;rw[j8 _ _ _ hl,j8 _ _ _ hl2];simp[zE]
   ·rw[form_send]at hf;cases hf;rw[j8 _ _ _ hl,j8 _ _ _ hl2];simp[zE]
   ·rw[form_steps]at hf;cases hf;rw[j8 _ _ _ hl,j8 _ _ _ hl2];simp[zE]
   ·exact nl_put (.inl ⟨rfl,rfl⟩) hf
  dsimp only;subst hnt;refine cut1 fun nxt hnt=>?_;have s12:=s1.trans s2;have D2:=D.same s12;obtain⟨wsA,kdA,keysA,fsA⟩:=T.w53;obtain⟨wsP,kdP,keysP,fsP⟩:=T.w52;have hx2:=s2 _ _ hx;have hd2:=s2 _ _ hd;have sd2:=sd.mv s2.tups;have gg2:=s2 _ _ gg;have ga2:All2 ArgV H2 as gs:=ga.imp fun _ _ z=>z.mv s2.tups;refine⟨_,rfl,_,wsA,wd,rfl,rfl,kdA,_,rfl,?_⟩;rw[valueAt_none keysA];by_cases hA:wd∈words_ASKS
  ·rw[decide_eq_true hA];refine iteT ?_;rcases h with(⟨rfl,n,r,m,rfl,hl,hb,k⟩|⟨rfl,n,r,m,rfl,hl,hb,hm,k⟩|⟨rfl,n,m,r,r2,rfl,hl,hl2,hR,k⟩|⟨rfl,n,m,r,r2,h1,c,rfl,hl,hl2,hR,hp,h24,h0,k⟩|⟨rfl,n,m,r,r2,h1,c,rfl,hl,hl2,hR,hp,h24,h0,k⟩)|⟨rfl,_⟩
   ·exact⟨_,rfl,_,_,wsA,_,rfl,rfl,kdA,fsA ("count",A.a38) (by simp),_,_,rfl,.inl ⟨rfl,rfl⟩,_,rfl,x,A.w12,dx,_,_,rfl,hx2,T.w40,T.w46,rfl,_,rfl,d,g,kvs,gs,S,n,r,m,rfl,hd2,sd2,gg2,ga2,hl,hb,fun H' s'=>k H' (s12.trans s')⟩
   ·exact⟨_,rfl,_,_,wsA,_,rfl,rfl,kdA,fsA ("list",A.a46) (by simp),_,_,rfl,.inr (.inl ⟨rfl,rfl⟩),_,rfl,x,A.w12,dx,_,_,rfl,hx2,T.w40,T.w46,rfl,_,rfl,d,g,kvs,gs,S,n,r,m,rfl,hd2,sd2,gg2,ga2,hl,hb,hm,fun H' s'=>k H' (s12.trans s')⟩
   ·exact⟨_,rfl,_,_,wsA,_,rfl,rfl,kdA,fsA ("match",A.a49) (by simp),_,_,rfl,.inr (.inr (.inl ⟨rfl,rfl⟩)),_,rfl,x,A.w12,dx,_,_,rfl,hx2,T.w40,T.w46,rfl,_,rfl,d,g,kvs,gs,S,n,m,r,r2,rfl,hd2,sd2,gg2,ga2,hl,hl2,hR,fun H' s'=>k H' (s12.trans s')⟩
   ·exact⟨_,rfl,_,_,wsA,_,rfl,rfl,kdA,fsA ("send",A.a67) (by simp),_,_,rfl,.inr (.inr (.inr (.inl ⟨rfl,rfl⟩))),_,rfl,x,A.w12,dx,_,_,rfl,hx2,T.w40,T.w46,rfl,_,rfl,d,g,kvs,gs,S,n,m,r,r2,h1,c,rfl,hd2,sd2,gg2,ga2,hl,hl2,hR,hp,h24,h0,fun H' s'=>k H' (s12.trans s')⟩
   ·exact⟨_,rfl,_,_,wsA,_,rfl,rfl,kdA,fsA ("steps",A.a68) (by simp),_,_,rfl,.inr (.inr (.inr (.inr ⟨rfl,rfl⟩))),_,rfl,x,A.w12,dx,_,_,rfl,hx2,T.w40,T.w46,rfl,_,rfl,d,g,kvs,gs,S,n,m,r,r2,h1,c,rfl,hd2,sd2,gg2,ga2,hl,hl2,hR,hp,h24,h0,fun H' s'=>k H' (s12.trans s')⟩
   ·exact absurd hA (by decide+kernel)
  rw[decide_eq_false hA];refine iteF ?_;dsimp only[tNext];subst hnt;refine cut1 fun nxt hnt=>?_;refine⟨_,rfl,_,wsP,wd,rfl,rfl,kdP,_,rfl,?_⟩;rw[valueAt_none keysP];rcases h with h|⟨rfl,n,r,rfl,hb,k⟩
  ·rcases h with⟨rfl,_⟩|⟨rfl,_⟩|⟨rfl,_⟩|⟨rfl,_⟩|⟨rfl,_⟩ <;>exact absurd (by decide+kernel) hA
  rw[decide_eq_true (show Str.ofString "rule"∈words_PUTS by decide+kernel)];refine iteT ?_;refine⟨_,rfl,_,_,wsP,_,rfl,rfl,kdP,fsP ("rule",A.a69) (by simp),_,_,rfl,⟨rfl,rfl⟩,_,rfl,x,A.w12,dx,_,_,rfl,hx2,T.w40,T.w46,rfl,_,rfl,d,g,gs,n,r,rfl,gg2,ga2,fun tt v H3 gt3 hv3 s3=>?_⟩;refine⟨_,rfl,x,dx,_,rfl,s3 _ _ hx2,rfl,_,rfl,tt,_,0,_,rfl,rfl,SqT.of gt3,zu (j:=0) rfl,_,rfl,tt,_,1,_,rfl,rfl,SqT.of gt3,zu (j:=1) rfl,x,n,v,r,O,S,past,und,rfl,D2.same s3,hv3,by omega,lp,fun H4 O4 A4=>?_⟩;obtain⟨p,rs,rfl,gp,a2⟩:=hv3.mv A4.tups;refine⟨_,rfl,tt,_,1,_,rfl,rfl,SqT.of (A4.tups _ _ gt3),zu (j:=1) rfl,p,r,rs,rfl,gp,a2,hb.1,hb.2,fun H5 s5=>?_⟩;exact k H5 O4 ((A4.post s5).pre (s12.trans s3))
def n__law_listed:List Str:=["_law_desk","_law_name_here","_law_rule_here","_law_n","_law_told","_law_many","_law_texts","_law_heaps","_law_text","_law_word","_law_heap_here","_law_later"]
theorem zC:FnScope n__law_listed ["_law_desk","_law_name_here","_law_rule_here","_law_n"] (z8 s__law_listed):=FS
inductive sp_listed(A:Adr)(vs:List V)(H:Hp)(Q:VK)(E:XK):Prop
 |mk (x:Addr) (n:Str) (p:Addr) (m:Nat) (O:List Addr) (S:Std) (past und:List Std) (r:List (List Int)) (xs:List V):vs=[.ref x,.str n,.ref p,.int (m:Int)]->DeskAt A.w12 H x O S past und->zO n=true->zX S n=some r->r.length<=6->CountOk r m->m<=7->H p=some (.tup xs)->All2 Tup1 H r xs->(∀h∈r,GoodH 64 h)->S.length<=50->past.length<=1000->und.length<=1000->(∀(l:Addr)(H':Hp),H' l=some (.lst (((zJ r m).map txt).map V.str))->Same H H'->H l=none->Q (.ref l) H')->sp_listed A vs H Q E
theorem ok__law_listed(T:Txt P w K mg A):FnOk P w K mg base CX0 32 A.a71 A.f71 ["_law_desk","_law_name_here","_law_rule_here","_law_n"] (sp_listed A):=by
 refine T.x71.F.ok zC (by walk_at "n") fun _ _ _ s H vs Q E hr h=>?_
 ·obtain⟨x,n,p,m,O,S,past,und,r,xs,rfl,D,hn,hl,l6,hc,hm,hp,a2,gd,l50,lp,lu,k⟩:=h;refine⟨_,(z7 (pset 4 zC.nd (ja (pv 0) T.w40 T.x70.mt (y1 T) (hr.mono (by decide)) T.x70.b .nil yX (pa1 (pe_js (yn (yy (pv 1) (yn (yy (pv 3) pj_nil))))))))
    (z7 (pset 5 zC.nd (ja (pv 0) T.w40 T.x70.mt (y1 T) (hr.mono (by decide)) T.x70.b .nil yX (pa1 (pe_js (yn (yy (pv 1) (yn (yy (pv 3) pj_nil))))))))
    (z7 (zD (km (zG (zq call_isi rfl T.w4 boot_isinstance (pa2 (pv 4) (pe_bltn (v:=.ty "str") rfl T.w11 boot_str rfl))) (fun _=>rfl)))
     (z9 (zj yV)) zk)
    (z7 (pset 6 zC.nd (yP PySem.F.plainAttrs_str PySem.F.slot_str_split PySem.F.type_str_split mt_split (pv 4) (pa1 zK)))
    (z7 (zD (zi yO (pv 4) zK (zr _))
     (z9 (pset 6 zC.nd (y8 ye))) zk)
    (z7 (pset 7 zC.nd (y8 ye))
    (z7 (yo PassesOwn.never rfl (y4 (pv 6)) (pgn 8 zC.nd)
     (z7 (yo PassesOwn.never rfl (y4 (yP PySem.F.plainAttrs_str PySem.F.slot_str_split PySem.F.type_str_split mt_split (pv 8) (pa1 zK))) (pgn 9 zC.nd)
     (z9 (zD (PW.pt (pw_and (zi op_ne (pv 8) zK (zr _)) (pw_and1 (PW.pt (jQ (zi yO (pv 9) zK (zr _)) (jQ (zi op_gt (zq yd rfl T.w5 PySem.boot_len (pa1 (pv 9))) zc (zr _)) (jS (km (zG (pe_bm0 PySem.F.plainAttrs_str PySem.F.slot_str_isdigit PySem.F.type_str_isdigit mt_isdigit (pv 9)) (fun _=>rfl))))))))))
     (z9 (zj yV)) zk)))
    (z9 (zV (yP PySem.F.plainAttrs_list PySem.F.slot_list_append PySem.F.type_list_append yk (pv 7) (pa1 (pcl (ok__law_parts T) hr T.x12 (pa1 (pv 8)))))))))
    (z7 (zD (PW.pt (jQ (km (zG (pcl (ok__law_is T) hr T.x9 (pa2 (pv 5) (zH yT rfl T.w11 boot_str (pa1 (zq zp rfl T.w5 PySem.boot_len (pa1 (pv 7))))))) (fun _=>rfl))) (jS (zi (op_neL' (eqk_tup eqk_int det_int) (huR hr)) (pv 7) (pe_sortU so_tup [] (huR hr) rfl T.w10 (pv 7)) (zr _)))))
     (z9 (zj yV)) zk)
    (z7 (yo PassesOwn.never rfl (pi_zip false false rfl T.w14 (pa2 (pv 7) (jt sl_list (pv 7) (po_some zc) po_none))) (pg_tup rfl (zS (pgn 10 zC.nd) (zS (pgn 11 zC.nd) jD)))
     (z9 (zD (zi (op_eqT' eqk_int (huR hr)) (pv 10) (pv 11) (zr _))
     (z9 (zj yV)) zk)))
    (z7 (yo PassesOwn.never rfl (pi_zip false false rfl T.w14 (pa2 (pv 7) (pv 6))) (pg_tup rfl (zS (pgn 10 zC.nd) (zS (pgn 8 zC.nd) jD)))
     (z9 (zD (PW.pt (jQ (zi op_ne (zq (call_sum_ints rfl) rfl T.w12 boot_sum (pa1 (pv 10))) (pv 3) (zr _)) (jQ (zi op_notN (pcl (ok__law_first T) hr T.x11 (pa2 (pv 2) (pv 10))) yV (zr _)) (jS (zi op_ne (pv 8) (pcl (jN T) hr T.x7 (pa1 (pv 10))) (zr _))))))
     (z9 (zj yV)) zk)))
    (z9 (zj (pv 6))))))))))))),?_⟩
  obtain⟨mx,al,dx,d,pl,ul,vs',ys',hx,_⟩:=id D;have e1:=lineM_len (w:=Str.ofString "list ") (m:=m) hn (by decide+kernel) (by omega);have e2:=lineM_len (w:=Str.ofString "count ") (m:=m) hn (by decide+kernel) (by omega);refine cut4 fun nx hnx=>?_;refine⟨_,rfl,x,dx,_,rfl,hx,rfl,jsM rfl rfl (by omega) e1 ?_⟩;refine⟨x,_,O,S,past,und,_,_,rfl,le_trans e1 (by decide),D,read_list hn (by omega),l50,lp,lu,.inl (.inr (.inl ⟨rfl,n,r,m,rfl,hl,by omega,by omega,fun H1 s1=>?_⟩))⟩;refine⟨_,rfl,x,dx,_,rfl,s1 _ _ hx,rfl,jsM rfl rfl (by omega) e2 ?_⟩;refine⟨x,_,O,S,past,und,_,_,rfl,le_trans e2 (by decide),D.same s1,read_count hn (by omega),l50,lp,lu,.inl (.inl ⟨rfl,n,r,m,rfl,hl,hc,fun H2 s2=>?_⟩)⟩;have s02:=s1.trans s2;clear hx e1 e2 D hc;refine⟨_,rfl,_,_,_,true,rfl,TyOf.str _,wc,true,rfl,iteF ?_⟩;refine⟨_,rfl,rfl,_,_,rfl,rfl,rfl,listT_len hm,fun l0 h0=>?_⟩;dsimp only[jL];subst hnx;refine kh (fun σ' H'=>∃ l,σ'=[some (.ref x),some (.str n),some (.ref p),some (.int (m:Int)),some (.str (listT r m)),some (.str (numS (countX r m))),some (.ref l),none,none,none,none,none]/\H' l=some (.lst (((zJ r m).map txt).map V.str))/\Same H H'/\H l=none) (fun nx hnx=>?_) ?_
  ·refine⟨_,rfl,rfl,_,rfl,?_⟩;by_cases hk:zJ r m=[]
   ·have e:listT r m=Str.ofString "no partings" :=by unfold listT;rw[if_pos hk]
    refine ite2 (fun _=>⟨by show 0<=sizeLine;decide,fun l hl=>hnx _ _ ⟨l,rfl,by rw[hk];exact z6,s02.trans ((Same.new h0).trans (Same.new hl)),s02.free ((Same.new h0).free hl)⟩⟩) fun z=>absurd (decide_eq_true (by rw[e])) z
   ·obtain⟨e,ne⟩:=list_split (r:=r) (m:=m) (by omega) hk;refine ite2 (fun z=>absurd (by simpa using z) ne) fun _=>hnx _ _ ⟨l0,rfl,by rw[<-e];exact z6,s02.trans (Same.new h0),s02.free h0⟩
  rintro _ H3 ⟨l,rfl,gl,s03,nl⟩;refine⟨by show 0<=sizeLine;decide,fun q hq=>?_⟩;have gl1:=(Same.new (o:=.lst []) hq) _ _ gl;refine⟨_,rfl,l,rfl,⟨_,SqL.of gl1⟩,kX (xs:=((zJ r m).map txt).map V.str) (fun i σ' H'=>Same H3 H'/\(∃v w,σ'=[some (.ref x),some (.str n),some (.ref p),some (.int (m:Int)),some (.str (listT r m)),some (.str (numS (countX r m))),some (.ref l),some (.ref q),v,w,none,none])/\ ∃ys,H' q=some (.lst ys)/\All2 Tup1 H' ((zJ r m).take i) ys) ⟨Same.new hq,⟨_,_,rfl⟩,[],z6,.nil⟩ ?_ ?_ ?_⟩
  ·rintro i σ' H' _ ⟨s,_⟩;exact SqL.of (s _ _ gl)
  ·rintro i u σ' H' hu ⟨s4,⟨v,w,rfl⟩,ys,gq,ay⟩;rw[map_map,getElem?_map]at hu;cases hi:(zJ r m)[i]? with
   |none=>rw[hi]at hu;cases hu
   |some h =>
    rw[hi]at hu;have hu':u=V.str (txt h):=(Option.some.inj hu).symm;subst hu';have hmem:=mem_of_getElem? hi;have hep:=(yZ hmem (by omega)).1;have hh:=hep.heap (by omega);have hlt:(txt h).length<=10000:=txt_len (by have:=hep.len;omega) fun x hx=>⟨(hh.bd x hx).1,le_of_lt (hh.bd x hx).2⟩;refine cut1 fun nx hnx=>?_;refine⟨_,rfl,rfl,_,_,rfl,rfl,rfl,by omega,fun l2 hl2=>?_⟩;refine⟨l2,rfl,⟨_,SqL.of z6⟩,kX (xs:=(Txt.split (txt h) (Str.ofString " ")).map V.str) (fun i σ' H5=>H5=upd H' l2 (.lst ((Txt.split (txt h) (Str.ofString " ")).map V.str))/\(∃w,σ'=[some (.ref x),some (.str n),some (.ref p),some (.int (m:Int)),some (.str (listT r m)),some (.str (numS (countX r m))),some (.ref l),some (.ref q),some (.str (txt h)),w,none,none])) ⟨rfl,_,rfl⟩ ?_ ?_ ?_⟩
    ·rintro j σ' H5 _ ⟨rfl,_⟩;exact SqL.of z6
    ·rintro j y σ' H5 hy ⟨rfl,w2,rfl⟩;rw[getElem?_map]at hy;cases hj:(Txt.split (txt h) (Str.ofString " "))[j]? with
     |none=>rw[hj]at hy;cases hy
     |some z =>
      rw[hj]at hy;have hy':y=V.str z:=(Option.some.inj hy).symm;subst hy';refine⟨_,rfl,rfl,_,rfl,?_⟩;rcases words_ok hep (by omega)with e|ok
      ·exact iteNS (by rw[e]) (iteF ⟨rfl,_,rfl⟩)
      ·obtain⟨o1,o2,o3⟩:=ok z (mem_of_getElem? hj);refine ite2 (fun _=>?_) fun _=>iteF ⟨rfl,_,rfl⟩;refine⟨_,rfl,rfl,_,rfl,ite2 (fun z=>absurd (by simpa using z) o1) fun _=>⟨_,rfl,_,rfl,zU (by omega),_,_,rfl,rfl,_,rfl,ite2 (fun z=>absurd (of_decide_eq_true z) (by omega)) fun _=>⟨_,rfl,rfl,_,rfl,rfl,true,by rw[o3];rfl,iteF ⟨rfl,_,rfl⟩⟩⟩⟩
    rintro σ' H5 ⟨rfl,w2,rfl⟩;subst hnx;have s5:=Same.new (o:=.lst ((Txt.split (txt h) (Str.ofString " ")).map V.str)) hl2;refine⟨_,rfl,.inl ⟨rfl,_,SqL.of (s5 _ _ gq)⟩,?_⟩;refine⟨_,rfl,h,rfl,hh.ln,hh.bd,fun pp H6 gp s6 np=>?_⟩;have yl:=ay.length;rw[length_take]at yl;have few:=kept22 (rule:=r) (m:=m) (by omega);have gq6:=s6 _ _ (s5 _ _ gq);refine⟨q,ys,_,rfl,rfl,gq6,zU (by omega),?_⟩;have tq:=tups_upd (o:=.lst (ys++[V.ref pp])) gq6 (fun _ z=>by cases z);refine⟨(s4.trans (s5.trans s6)).updN hq,⟨_,_,rfl⟩,_,z6,?_⟩;have hil:=(List.getElem?_eq_some_iff.mp hi).1;have ez:=(List.getElem?_eq_some_iff.mp hi).2;rw[take_succ_eq_append_getElem hil,ez];exact(ay.mv (s5.tups.trans (s6.tups.trans tq))).snoc ⟨pp,rfl,tq _ _ gp⟩
  rintro σ' H4 ⟨s4,⟨v,w,rfl⟩,ys,gq,ay⟩;rw[length_map,length_map,take_length]at ay;have pos:∀h∈r,∀x∈h,1<=x:=fun h hh x hx=>((gd h hh).bd x hx).1;have few:=kept22 (rule:=r) (m:=m) (by omega);have yl:=ay.length;have en:=kept_num (r:=r) (m:=m) pos (by omega);refine⟨_,rfl,_,rfl,q,ys,rfl,.inl (SqL.of gq),_,rfl,numS_log (by omega) (Int.le_trans (show(ys.length:Int)<=22 by omega) (by decide)),_,_,rfl,true,?_,iteF ?_⟩
  ·rw[en,yl,decide_eq_true (show numS (ys.length:Int)=Str.ofString (toString (ys.length:Int))from rfl)];rfl
  refine⟨_,rfl,_,rfl,q,ys,_,rfl,SqL.of gq,ay,by omega,kept_good (by omega),(kept_pair r (by omega)).imp (fun h=>(lexGt_lt _ _ h).1),fun gs zs w5 hgp hgo ays hw5=>?_⟩;have egs:=kept_sorted (by omega) hgp hgo;subst egs;have s5:=Same.new (o:=.lst zs) hw5;refine⟨_,_,⟨q,_,rfl,SqL.of (s5 _ _ gq),all2_rtu (ay.mv s5.tups)⟩,⟨w5,_,rfl,SqL.of z6,all2_rtu (ays.mv s5.tups)⟩,_,rfl,iteNS rfl ?_⟩;have s45:=s4.trans s5;have gq5:=s5 _ _ gq;have ay5:=ay.mv s5.tups;clear s5 ays hgo hgp gl1;generalize upd H4 w5 (.lst zs)=H5 at s45 gq5 ay5 ⊢;refine⟨_,rfl,slF rfl gq5 fun w6 hw6=>?_⟩;have s6:=Same.new (o:=.lst (ys.drop 1)) hw6;have gw6:=z6 (H:=H5) (a:=w6) (o:=.lst (ys.drop 1));have s46:=s45.trans s6;have gq6:=s6 _ _ gq5;have ay6:=ay5.mv s6.tups;generalize upd H5 w6 (.lst (ys.drop 1))=H6 at s46 gq6 ay6 gw6 ⊢;refine⟨q,w6,rfl,⟨_,SqL.of gq6⟩,⟨_,SqL.of gw6⟩,for_zip (xs:=ys) (ys:=ys.drop 1) (fun i σ' H'=>Same H6 H'/\ ∃v8 v9 v10 v11,σ'=[some (.ref x),some (.str n),some (.ref p),some (.int (m:Int)),some (.str (listT r m)),some (.str (numS (countX r m))),some (.ref l),some (.ref q),v8,v9,v10,v11]) ⟨Same.refl _,_,_,_,_,rfl⟩ ?_ ?_ ?_⟩
  ·rintro i σ' H' _ ⟨s',_⟩;exact⟨SqL.of (s' _ _ gq6),SqL.of (s' _ _ gw6)⟩
  ·rintro i a b σ' H' T' ha hb ⟨s',v8,v9,v10,v11,rfl⟩ hT;rw[List.getElem?_drop,Nat.add_comm]at hb;obtain⟨h1,e1,q1,rfl,g1⟩:=ay6.get ha;obtain⟨h2,e2,q2,rfl,g2⟩:=ay6.get hb;have sT:=Same.new (o:=.tup [V.ref q1,V.ref q2]) hT;have gT:=z6 (H:=H') (a:=T') (o:=.tup [V.ref q1,V.ref q2]);generalize upd H' T' (.tup [V.ref q1,V.ref q2])=H7 at sT gT;refine⟨T',_,rfl,SqT.of gT,rfl,_,_,rfl,_,_,rfl,rfl,?_⟩;refine⟨_,rfl,_,rfl,h1,h2,RTup.ints (SqT.of (sT _ _ (s' _ _ g1))),RTup.ints (SqT.of (sT _ _ (s' _ _ g2))),_,rfl,ite2 (fun z=>absurd (of_decide_eq_true z) (keptNe (by omega) e1 e2)) fun _=>⟨s'.trans sT,_,_,_,_,rfl⟩⟩
  rintro σ' H7 ⟨s67,v8,v9,v10,v11,rfl⟩;have s37:=s46.trans s67;have gl7:=s37 _ _ gl;have gq7:=s67 _ _ gq6;have ay7:=ay6.mv s67.tups;refine⟨_,rfl,_,rfl,q,l,rfl,⟨_,SqL.of gq7⟩,⟨_,SqL.of gl7⟩,for_zip (xs:=ys) (ys:=((zJ r m).map txt).map V.str) (fun i σ' H'=>Same H7 H'/\ ∃v8 v9 v10 v11,σ'=[some (.ref x),some (.str n),some (.ref p),some (.int (m:Int)),some (.str (listT r m)),some (.str (numS (countX r m))),some (.ref l),some (.ref q),v8,v9,v10,v11]) ⟨Same.refl _,_,_,_,_,rfl⟩ ?_ ?_ ?_⟩
  ·rintro i σ' H' _ ⟨s',_⟩;exact⟨SqL.of (s' _ _ gq7),SqL.of (s' _ _ gl7)⟩
  ·rintro i a b σ' H' T' ha hb ⟨s',v8,v9,v10,v11,rfl⟩ hT;obtain⟨h1,e1,q1,rfl,g1⟩:=ay7.get ha;rw[map_map,getElem?_map,e1]at hb;have hb':b=V.str (txt h1):=(Option.some.inj hb).symm;subst hb';have hmem:=mem_of_getElem? e1;obtain⟨hep,hf1⟩:=yZ hmem (show m<=24 by omega);have hh:=hep.heap (by omega);have sT:=Same.new (o:=.tup [V.ref q1,V.str (txt h1)]) hT;have gT:=z6 (H:=H') (a:=T') (o:=.tup [V.ref q1,V.str (txt h1)]);generalize upd H' T' (.tup [V.ref q1,V.str (txt h1)])=H8 at sT gT;have g8:=sT _ _ (s' _ _ g1);have s08:=s03.trans (s37.trans (s'.trans sT));refine⟨T',_,rfl,SqT.of gT,rfl,_,_,rfl,_,_,rfl,rfl,?_⟩;refine⟨_,rfl,q1,h1,rfl,.inr (SqT.of g8),_,rfl,rfl,_,rfl,iteNS (congrArg V.int hep.sum) ?_⟩;refine⟨_,rfl,_,rfl,p,q1,xs,r,h1,rfl,s08 _ _ hp,a2.mv s08.tups,g8,by omega,fun h hh=>le_trans (gd h hh).ln (by decide),fun H9 s9=>⟨rfl,_,rfl,iteNS (by rw[hf1];rfl) ?_⟩⟩;refine⟨_,rfl,_,rfl,q1,h1,rfl,s9 _ _ g8,by have:=hep.len;omega,fun x hx=>⟨(hh.bd x hx).1,le_of_lt (hh.bd x hx).2⟩,fun HA sA=>⟨rfl,_,rfl,iteNS rfl ?_⟩⟩;exact⟨s'.trans (sT.trans (s9.trans sA)),_,_,_,_,rfl⟩
  rintro σ' H' ⟨s',v8,v9,v10,v11,rfl⟩;exact⟨_,rfl,k l H' (s' _ _ gl7) (s03.trans (s37.trans s')) nl⟩
def n__law_steps_right:List Str:=["_law_desk","_law_one","_law_two","_law_text","_law_other","_law_many"]
theorem jm:FnScope n__law_steps_right ["_law_desk","_law_one","_law_two","_law_text","_law_other"] (z8 ju):=FS
inductive sp_steps_right(A:Adr)(vs:List V)(H:Hp)(Q:VK)(E:XK):Prop
 |mk (x:Addr) (n m:Str) (h:List Int) (c:Nat) (O:List Addr) (S:Std) (past und:List Std) (r r2:List (List Int)):vs=[.ref x,.str n,.str m,.str (txt h),.str (txt (endH r r2 h))]->DeskAt A.w12 H x O S past und->zO n=true->zO m=true->zX S n=some r->zX S m=some r2->Rul r r2->Hep (c:Int) h->c<=24->zB r h=none->S.length<=50->past.length<=1000->und.length<=1000->(∀(H':Hp),Same H H'->Q (.bl true) H')->sp_steps_right A vs H Q E
theorem ok__law_steps_right(T:Txt P w K mg A):FnOk P w K mg base CX0 32 A.a72 A.f72 ["_law_desk","_law_one","_law_two","_law_text","_law_other"] (sp_steps_right A):=by
 refine T.x72.F.ok jm (by walk_at "n") fun _ _ _ s H vs Q E hr h=>?_
 ·obtain⟨x,n,m,h,c,O,S,past,und,r,r2,rfl,D,hn,hm,hl,hl2,R,p,hc,hf,l50,lp,lu,k⟩:=h;refine⟨_,(z7 (pset 5 jm.nd (ja (pv 0) T.w40 T.x70.mt (y1 T) (hr.mono (by decide)) T.x70.b .nil yX (pa1 (pe_js (yn (yy (pv 1) (yn (yy (pv 2) (yn (yy (pv 3) pj_nil))))))))))
    (z7 (zD (PW.pt (jQ (km (zG (zq call_isi rfl T.w4 boot_isinstance (pa2 (pv 5) (pe_bltn (v:=.ty "str") rfl T.w11 boot_str rfl))) (fun _=>rfl))) (jQ (zi op_gt (zq yd rfl T.w5 PySem.boot_len (pa1 (pv 5))) zc (zr _)) (jQ (km (zG (pe_bm0 PySem.F.plainAttrs_str PySem.F.slot_str_isdigit PySem.F.type_str_isdigit mt_isdigit (pv 5)) (fun _=>rfl))) (jS (zi op_ne (zw op_mod (zH kW rfl T.w3 boot_int (pa1 (pv 5))) zc) zc (zr _)))))))
     (z9 (zj pe_bl)) zk)
    (z9 (zj (pcl (ok__law_is T) hr T.x9 (pa2 (ja (pv 0) T.w40 T.x70.mt (y1 T) (hr.mono (by decide)) T.x70.b .nil yX (pa1 (pe_js (yn (yy (pv 2) (yn (yy (pv 1) (yn (yy (pv 4) pj_nil))))))))) (pv 5))))))),?_⟩
  obtain⟨o1,o2,o3⟩:=steps_ok R p hc hf;obtain⟨p',hf'⟩:=endH_hep R p hc hf;obtain⟨mx,al,dx,d,pl,ul,xs,ys,hx,_⟩:=id D;have e4:=lineS_len (w:=Str.ofString "steps ") (by decide+kernel) hn hm p hc;have e5:=lineS_len (w:=Str.ofString "steps ") (by decide+kernel) hm hn p' hc;refine⟨_,rfl,x,dx,_,rfl,hx,rfl,js3 rfl rfl rfl e4 ?_⟩;refine⟨x,_,O,S,past,und,_,_,rfl,le_trans e4 (by decide),D,read_steps hn hm p hc,l50,lp,lu,.inl (.inr (.inr (.inr (.inr ⟨rfl,n,m,r,r2,h,c,rfl,hl,hl2,R,p,hc,hf,fun H1 s1=>?_⟩))))⟩;refine⟨_,rfl,_,_,_,true,rfl,TyOf.str _,wc,true,rfl,iteF ?_⟩;have ln:(numS ((stepsX r r2 h:Nat):Int)).length<=6:=by rw[yg];exact kD (by omega) (by decide) (by omega)
  refine⟨_,rfl,_,rfl,zU (by omega),_,_,rfl,rfl,_,rfl,?_⟩;refine ite2 (fun z=>absurd (of_decide_eq_true z) (by omega)) fun _=>?_;refine⟨_,rfl,rfl,_,rfl,rfl,true,?_,iteF ?_⟩
  ·rw[numS_isdigit (by omega)];rfl
  refine⟨_,rfl,_,_,rfl,numS_reads (by omega) (Int.lt_trans (show((stepsX r r2 h:Nat):Int)<1000000 by omega) (by decide+kernel)),by omega,_,_,rfl,rfl,(by show(0:Int)<4;decide),rfl,_,rfl,iteNS (congrArg V.int (show((stepsX r r2 h:Nat):Int)%4=2 by omega)) ?_⟩;have D1:=D.same s1;refine⟨_,rfl,x,dx,_,rfl,s1 _ _ hx,rfl,js3 rfl rfl rfl e5 ?_⟩;refine⟨x,_,O,S,past,und,_,_,rfl,le_trans e5 (by decide),D1,read_steps hm hn p' hc,l50,lp,lu,.inl (.inr (.inr (.inr (.inr ⟨rfl,m,n,r2,r,_,c,rfl,hl2,hl,R.swap,p',hc,hf',fun H2 s2=>?_⟩))))⟩;rw[o3];refine⟨_,rfl,_,_,rfl,?_⟩;rw[decide_eq_true rfl];exact k H2 (s1.trans s2)
def n_Desk___init__:List Str:=["self"]
theorem sc_Desk___init__:FnScope n_Desk___init__ ["self"] (z8 s_Desk___init__):=FS
inductive sp_desk_init(A:Adr)(vs:List V)(H:Hp)(Q:VK)(E:XK):Prop
 |mk (x dx:Addr):vs=[.ref x]->H x=some (.ins A.w12 dx [])->(∀(H':Hp)(O:List Addr),DeskAt A.w12 H' x O [] [] []->(∀b o,H b=some o->b≠x->H' b=some o)->(∀b∈O,b=x\/H b=none)->Q .non H')->sp_desk_init A vs H Q E
theorem ok_Desk___init__(T:Txt P w K mg A):FnOk P w K mg base CX0 1 A.a73 A.f73 ["self"] (sp_desk_init A):=by
 refine T.x73.F.ok sc_Desk___init__ (by walk_at "n") fun _ _ _ s H vs Q E hr h=>?_
 ·obtain⟨x,dx,rfl,hx,k⟩:=h;refine⟨_,(z7 (ps_fld (pv 0) pe_dnewK rfl)
    (z7 (ps_fld (pv 0) (y8 ye) rfl)
    (z9 (ps_fld (pv 0) (y8 ye) rfl)))),?_⟩
  refine fun d hd=>⟨_,rfl,x,A.w12,dx,[],rfl,by rw[zh (zo hx hd)];exact hx,T.w40,T.w46,(by show 0<1000;decide),?_⟩;have nxd:=zo hx hd;refine⟨by show 0<=sizeLine;decide,fun pl hpl=>⟨_,rfl,x,A.w12,dx,[("standing",.ref d)],rfl,?_,T.w40,T.w45,(by show 1<1000;decide),?_⟩⟩
  ·have:x≠pl:=fun e=>by rw[<-e,z6]at hpl;cases hpl
   rw[zh this,z6];rfl
  have nxp:pl≠x:=fun e=>by rw[e,z6]at hpl;cases hpl
  rw[zh nxp]at hpl;have npd:pl≠d:=fun e=>by rw[e,z6]at hpl;cases hpl
  rw[zh npd]at hpl;refine⟨by show 0<=sizeLine;decide,fun ul hul=>⟨_,rfl,x,A.w12,dx,[("standing",.ref d),("past",.ref pl)],rfl,?_,T.w40,T.w47,(by show 2<1000;decide),?_⟩⟩
  ·have:x≠ul:=fun e=>by rw[<-e,z6]at hul;cases hul
   rw[zh this,z6];rfl
  have nxu:ul≠x:=fun e=>by rw[e,z6]at hul;cases hul
  rw[zh nxu]at hul;have nup:ul≠pl:=fun e=>by rw[e,z6]at hul;cases hul
  rw[zh nup,zh nxu]at hul;have nud:ul≠d:=fun e=>by rw[e,z6]at hul;cases hul
  rw[zh nud]at hul;refine k _ [x,d,pl,ul] ⟨by simp,fun b hb=>?_,dx,d,pl,ul,[],[],z6,⟨d,[],rfl,by simp,?_,.nil⟩,?_,.nil,?_,.nil,by simp,by simp,nup.symm⟩ (fun b o hb hne=>?_) (fun b hb=>?_)
  ·have:b=x\/b=d\/b=pl\/b=ul:=by simpa using hb
   rcases this with rfl|rfl|rfl|rfl
   ·exact⟨_,z6⟩
   ·exact⟨_,by rw[zh nxd.symm,zh nud.symm,zh nxd.symm,zh npd.symm,zh nxd.symm,z6]⟩
   ·exact⟨_,by rw[zh nxp,zh nup.symm,zh nxp,z6]⟩
   ·exact⟨_,by rw[zh nxu,z6]⟩
  ·rw[zh nxd.symm,zh nud.symm,zh nxd.symm,zh npd.symm,zh nxd.symm,z6]
  ·rw[zh nxp,zh nup.symm,zh nxp,z6]
  ·rw[zh nxu,z6]
  ·rw[zh hne,zh (zo hb hul),zh hne,zh (zo hb hpl),zh hne,zh (zo hb hd)];exact hb
  ·have:b=x\/b=d\/b=pl\/b=ul:=by simpa using hb
   rcases this with rfl|rfl|rfl|rfl
   ·exact .inl rfl
   ·exact .inr hd
   ·exact .inr hpl
   ·exact .inr hul
def n_law:List Str:=["_law_script","_law_state","_law_one","_law_two","_law_rule_here","_law_other","_law_n","_law_desk","_law_first_here","_law_second","_law_ends","_law_text","_law_end"]
theorem sc_law:FnScope n_law ["_law_script"] (z8 s_law):=FS
inductive sp_law(K:W.Frag)(vs:List V)(H:Hp)(Q:VK)(E:XK):Prop
 |mk (a:Addr) (ns:List Int):vs=[.ref a]->SqL K H a (ns.map V.int)->ns.length<=63->(∀H',Q (.bl true) H')->sp_law K vs H Q E
theorem ok_law(T:Txt P w K mg A):FnOk P w K mg base CX0 40 A.a74 A.f74 ["_law_script"] (sp_law K):=by
 refine T.x74.F.ok sc_law (by walk_at "n") fun _ _ _ s H vs Q E hr h=>?_
 ·obtain⟨a,ns,rfl,hS,hl,k⟩:=h;refine⟨_,(z7 (pset 1 sc_law.nd (pcl (ok__law_start T) hr T.x0 (pa1 (pv 0))))
    (z7 (pset 2 sc_law.nd (pcl (ok__law_name T) hr T.x6 (pa2 (pv 1) (y8 ye))))
    (z7 (pset 3 sc_law.nd (pcl (ok__law_name T) hr T.x6 (pa2 (pv 1) (y8 (pa1 (pv 2))))))
    (z7 (ps_asg (pcl (ok__law_matched T) hr T.x5 (pa2 (pv 1) zc)) (pg_tup rfl (zS (pgn 4 sc_law.nd) (zS (pgn 5 sc_law.nd) jD))))
    (z7 (pset 6 sc_law.nd (pcl (zF T) hr T.x2 (pa2 (pv 1) zc)))
    (z7 (pset 7 sc_law.nd (pe_make0 T.w42 (ok_Desk___init__ T) (hr.mono (by decide)) rfl T.w37 T.x73.b .nil yX))
    (z7 (zV (ja (pv 7) T.w40 T.x70.mt (y1 T) (hr.mono (by decide)) T.x70.b .nil yX (pa1 (zw j3 (pe_js (yn (yy (pv 2) (yn pj_nil)))) (pcl (jO T) hr T.x8 (pa1 (pv 4)))))))
    (z7 (zV (ja (pv 7) T.w40 T.x70.mt (y1 T) (hr.mono (by decide)) T.x70.b .nil yX (pa1 (zw j3 (pe_js (yn (yy (pv 3) (yn pj_nil)))) (pcl (jO T) hr T.x8 (pa1 (pv 5)))))))
    (z7 (ps_par (i:=8) (j:=9) rfl sc_law.nd rfl rfl (by decide) rfl rfl (pa2 (pcl (ok__law_listed T) hr T.x71 (kr (pv 7) (pa3 (pv 2) (pv 4) (pv 6)))) (pcl (ok__law_listed T) hr T.x71 (kr (pv 7) (pa3 (pv 3) (pv 5) (pv 6))))) rfl)
    (z7 (zD (PW.pt (jQ (zi op_isN (pv 8) yV (zr _)) (jQ (zi op_isN (pv 9) yV (zr _)) (jS (zi op_ne (zq zp rfl T.w5 PySem.boot_len (pa1 (pv 8))) (zq zp rfl T.w5 PySem.boot_len (pa1 (pv 9))) (zr _))))))
     (z9 (zj pe_bl)) zk)
    (z7 (pset 10 sc_law.nd (y8 ye))
    (z7 (yo PassesOwn.never rfl (y4 (pv 8)) (pgn 11 sc_law.nd)
     (z7 (pset 12 sc_law.nd (ja (pv 7) T.w40 T.x70.mt (y1 T) (hr.mono (by decide)) T.x70.b .nil yX (pa1 (pe_js (yn (yy (pv 2) (yn (yy (pv 3) (yn (yy (pv 11) pj_nil))))))))))
    (z7 (zD (PW.pt (jQ (km (zG (zq call_isi rfl T.w4 boot_isinstance (pa2 (pv 12) (pe_bltn (v:=.ty "str") rfl T.w11 boot_str rfl))) (fun _=>rfl))) (jQ (zi kI (pv 12) (pv 9) rfl) (jS (zi op_in_seq (pv 12) (pv 10) rfl)))))
     (z9 (zj pe_bl)) zk)
    (z7 (zV (yP PySem.F.plainAttrs_list PySem.F.slot_list_append PySem.F.type_list_append yk (pv 10) (pa1 (pv 12))))
    (z7 (zD (km (zG (pcl (ok__law_is T) hr T.x9 (pa2 (ja (pv 7) T.w40 T.x70.mt (y1 T) (hr.mono (by decide)) T.x70.b .nil yX (pa1 (pe_js (yn (yy (pv 3) (yn (yy (pv 2) (yn (yy (pv 12) pj_nil))))))))) (pv 11))) (fun _=>rfl)))
     (z9 (zj pe_bl)) zk)
    (z9 (zD (km (zG (pcl (ok__law_steps_right T) hr T.x72 (kr (pv 7) (kr (pv 2) (pa3 (pv 3) (pv 11) (pv 12))))) (fun _=>rfl)))
     (z9 (zj pe_bl)) zk)))))))
    (z9 (zj (pcl (ok__law_is T) hr T.x9 (pa2 (ja (pv 7) T.w40 T.x70.mt (y1 T) (hr.mono (by decide)) T.x70.b .nil yX (pa1 (pe_js (yn (yy (pv 2) (yn (yy (pv 3) pj_nil))))))) zK)))))))))))))))),?_⟩
  refine cut8 fun nx0 hx0=>?_;refine⟨_,rfl,a,ns,rfl,hS,hl,fun st ga ca H1 S1 n1 n2 n3 s1=>?_⟩;refine⟨_,rfl,by show 0<=sizeLine;decide,fun l0 hl0=>?_⟩;have S2:=S1.same (Same.new (o:=.lst []) hl0);refine⟨st,ga,ca,_,l0,[],rfl,S2,by decide,z6,S1.nin hl0,by decide,(fun _ h=>by cases h),fun n H3 hn _ S3 K3=>?_⟩;refine⟨_,rfl,_,rfl,by show 1<=sizeLine;decide,fun nl hnl=>?_⟩;have S4:=S3.same (Same.new (o:=.lst [V.str n]) hnl);refine⟨st,ga,ca,_,nl,[n],rfl,S4,by decide,z6,S3.nin hnl,by show 1<=20;decide,fun z hz=>by rw[List.mem_singleton.mp hz];exact hn,fun m H5 hm hne5 S5 K5=>?_⟩;have hne:m≠n:=fun e=>hne5 (by rw[e];simp);refine⟨_,rfl,st,ga,ca,_,3,rfl,S5,by decide,by decide,by decide,fun R p q rs qs one other nn H6 hR hp a1 hq a2 mt w1 w2 hnn S6 K6=>?_⟩;refine⟨R,_,rfl,SqT.of hR,rfl,_,_,rfl,_,_,rfl,rfl,?_⟩;refine⟨_,rfl,st,ga,ca,_,8,rfl,S6,by decide,by decide,by decide,fun z H7 z0 z1 S7 K7=>?_⟩;obtain⟨c,rfl⟩:∃c:Nat,z=(c:Int):=⟨z.toNat,by omega⟩;refine fun x dx nx ndx ne=>⟨x,dx,rfl,z6,fun H8 O D8 k8 o8=>⟨rfl,?_⟩⟩;obtain⟨s78,f8⟩:=deskAt_new nx ndx (.inr ne) k8 o8;have t68:=(K7.tups S6).trans s78.tups;have hp8:=t68 _ _ hp;have hq8:=t68 _ _ hq;have a18:=a1.mv t68;have a28:=a2.mv t68;have hW1:=mt.heapW (by omega) w1;have hW2:=mt.swap.heapW (by omega) w2;clear k8 o8 f8 s78 nx ndx ne S7 K7 S6 K6 hR hp a1 hq a2 t68 S5 K5 S4 S3 K3 S2 hnl hl0 s1 n1 n2 n3 S1 w1 w2 hne5;obtain⟨_,_,dx8,_,_,_,_,_,hx8,_⟩:=id D8;have lw1:=hW1.len;have lw2:=hW2.len;have ln:=rl_len hn;have lm:=rl_len hm;have big:∀k:Nat,k<=100000->k<=sizeLine:=fun k h=>by rw[sizeLine_eq];omega
  refine⟨_,rfl,x,dx8,_,rfl,hx8,rfl,jsT (a:=n) rfl (by omega) ?_⟩;refine⟨_,rfl,p,one,rs,rfl,hp8,a18,hW1.1,hW1.fine.2,fun H9 s9=>?_⟩;refine⟨_,_,rfl,rfl,big _ (by omega),?_⟩;refine⟨x,_,O,[],[],[],_,_,rfl,by rw[yC];omega,D8.same s9,read_rule57 hn hW1,by decide,by decide,by decide,.inr ⟨rfl,n,one,rfl,hW1.fine,fun HA OA AA=>?_⟩⟩;have tA:=s9.tups.trans AA.tups;have hpA:=tA _ _ hp8;have hqA:=tA _ _ hq8;have a1A:=a18.mv tA;have a2A:=a28.mv tA;have DA:=AA.desk;clear AA tA s9 hp8 hq8 a18 a28 D8 hx8;obtain⟨_,_,dxA,_,_,_,_,_,hxA,_⟩:=id DA;refine⟨_,rfl,x,dxA,_,rfl,hxA,rfl,jsT (a:=m) rfl (by omega) ?_⟩;refine⟨_,rfl,q,other,qs,rfl,hqA,a2A,hW2.1,hW2.fine.2,fun HB sB=>?_⟩;refine⟨_,_,rfl,rfl,big _ (by omega),?_⟩;refine⟨x,_,OA,_,_,_,_,_,rfl,by rw[yC];omega,DA.same sB,read_rule57 hm hW2,by show 1<=50;decide,by show 1<=1000;decide,by decide,.inr ⟨rfl,m,other,rfl,hW2.fine,fun HC OC AC=>?_⟩⟩;have tC:=sB.tups.trans AC.tups;have hpC:=tC _ _ hpA;have hqC:=tC _ _ hqA;have a1C:=a1A.mv tC;have a2C:=a2A.mv tC;have DC:=AC.desk;clear AC tC sB hpA hqA a1A a2A DA hxA;dsimp only[jL];subst hx0;refine cut2 fun nx0 hx0=>?_;have l1:zX (putS (putS [] n one) m other) n=some one:=by rw[lookS_put,if_neg fun e=>hne e.symm,lookS_put,if_pos rfl]
  have l2:zX (putS (putS [] n one) m other) m=some other:=by rw[lookS_put,if_pos rfl]
  have hS2:(putS (putS [] n one) m other).length<=50:=by
   show(putS [(n,one)] m other).length<=50;unfold putS;split <;>simp
  generalize putS (putS [] n one) m other=SS at DC l1 l2 hS2;have hP2:(([]:List Std)++[[]]++[putS [] n one]).length<=1000:=by show 2<=1000;decide
  generalize([]:List Std)++[[]]++[putS [] n one]=PP at DC hP2;have RR:Rul one other:=Rul.of mt (by omega);have hc:c<=7:=by omega
  have ps1:∀h∈one,∀x∈h,1<=x:=fun h hh x hx=>((mt.g1 h hh).2.1 x hx).1;have ps2:∀h∈other,∀x∈h,1<=x:=fun h hh x hx=>((mt.g2 h hh).2.1 x hx).1;have C1:CountOk one c:=⟨hW1.1,mt.J,by omega,count_log ps1 (by omega)⟩;have C2:CountOk other c:=⟨hW2.1,mt.swap.J,by omega,count_log ps2 (by omega)⟩;have G1:∀h∈one,GoodH 64 h:=fun h hh=>⟨(mt.g1 h hh).1,fun x hx=>⟨((mt.g1 h hh).2.1 x hx).1,Int.le_trans ((mt.g1 h hh).2.1 x hx).2 (by decide)⟩,(mt.g1 h hh).2.2⟩;have G2:∀h∈other,GoodH 64 h:=fun h hh=>⟨(mt.g2 h hh).1,fun x hx=>⟨((mt.g2 h hh).2.1 x hx).1,Int.le_trans ((mt.g2 h hh).2.1 x hx).2 (by decide)⟩,(mt.g2 h hh).2.2⟩;have hkl:=mt.kept (show c<=24 by omega);refine⟨_,rfl,_,rfl,_,rfl,_,rfl,x,n,p,c,OC,SS,PP,[],one,rs,rfl,DC,hn,l1,hW1.1,C1,hc,hpC,a1C,G1,hS2,hP2,by decide,fun l HD gD sD nD=>?_⟩;refine⟨_,rfl,_,rfl,_,rfl,_,rfl,x,m,q,c,OC,SS,PP,[],other,qs,rfl,DC.same sD,hm,l2,hW2.1,C2,hc,sD _ _ hqC,a2C.mv sD.tups,G2,hS2,hP2,by decide,fun l' HE gE sE nE=>?_⟩;refine⟨_,_,rfl,?_⟩;refine⟨_,rfl,rfl,_,rfl,ite2 (fun z=>absurd (of_decide_eq_true z) (fun e=>by cases e)) fun _=>?_⟩;refine⟨_,rfl,rfl,_,rfl,ite2 (fun z=>absurd (of_decide_eq_true z) (fun e=>by cases e)) fun _=>?_⟩;refine⟨_,rfl,l,_,rfl,.inl (SqL.of (sE _ _ gD)),_,rfl,l',_,rfl,.inl (SqL.of gE),rfl,_,rfl,iteNS (by rw[length_map,length_map,length_map,length_map,hkl]) ?_⟩;dsimp only[jL];subst hx0;refine⟨by show 0<=sizeLine;decide,fun en hen=>?_⟩;have gl1:=(Same.new (o:=.lst []) hen) _ _ (sE _ _ gD);have DE:=(DC.same sD).same sE;refine⟨_,rfl,l,rfl,⟨_,SqL.of gl1⟩,kX (xs:=((zJ one c).map txt).map V.str) (fun i σ' H'=>Same HE H'/\(∃v11 v12,σ'=[some (.ref a),some (.ref st),some (.str n),some (.str m),some (.ref p),some (.ref q),some (.int (c:Int)),some (.ref x),some (.ref l),some (.ref l'),some (.ref en),v11,v12])/\H' en=some (.lst ((((zJ one c).take i).map fun h=>txt (endH one other h)).map V.str))) ⟨Same.new hen,⟨_,_,rfl⟩,z6⟩ ?_ ?_ ?_⟩
  ·rintro i σ' H' _ ⟨s',_⟩;exact SqL.of (s' _ _ (sE _ _ gD))
  ·rintro i u σ' H' hu ⟨s',⟨v11,v12,rfl⟩,ge⟩;rw[map_map,getElem?_map]at hu;cases hi:(zJ one c)[i]? with
   |none=>rw[hi]at hu;cases hu
   |some h =>
    rw[hi]at hu;have hu':u=V.str (txt h):=(Option.some.inj hu).symm;subst hu';have hmem:=mem_of_getElem? hi;obtain⟨hep,hf⟩:=yZ hmem (show c<=24 by omega);obtain⟨hep',hf'⟩:=endH_hep RR hep (by omega) hf;have Dx:=DE.same s';obtain⟨_,_,dxx,_,_,_,_,_,hxx,_⟩:=id Dx;have e4:=lineS_len (w:=Str.ofString "send ") (by decide+kernel) hn hm hep (by omega);have e5:=lineS_len (w:=Str.ofString "send ") (by decide+kernel) hm hn hep' (by omega);refine cut2 fun nx1 hx1=>?_;refine⟨_,rfl,x,dxx,_,rfl,hxx,rfl,js3 rfl rfl rfl e4 ?_⟩;refine⟨x,_,OC,SS,PP,[],_,_,rfl,le_trans e4 (by decide),Dx,read_send hn hm hep (by omega),hS2,hP2,by decide,.inl (.inr (.inr (.inr (.inl ⟨rfl,n,m,one,other,h,c,rfl,l1,l2,RR,hep,by omega,hf,fun H1 s1=>?_⟩))))⟩;refine⟨_,rfl,_,_,_,true,rfl,TyOf.str _,wc,true,rfl,iteF ?_⟩;have sH:=s'.trans s1;have ge1:=s1 _ _ ge;have fl:∀zs:List Str,(zs.map V.str).all flatV=true:=fun zs=>by rw[all_map];exact all_eq_true.mpr fun _ _=>rfl
    have ei:inV (.str (txt (endH one other h))) (((zJ other c).map txt).map V.str)=true:=by rw[inV_str];exact decide_eq_true (end_in RR (by omega) hmem)
    have ej:inV (.str (txt (endH one other h))) ((((zJ one c).take i).map fun h=>txt (endH one other h)).map V.str)=false:=by rw[inV_str];exact decide_eq_false (end_new RR (by omega) hi)
    refine⟨_,rfl,_,rfl,l',_,rfl,.inl (SqL.of (sH _ _ gE)),rfl,fl _,_,rfl,?_⟩;rw[ei];refine iteF ⟨_,rfl,_,rfl,en,_,rfl,.inl (SqL.of ge1),rfl,fl _,_,rfl,?_⟩;rw[ej];refine iteF ?_;dsimp only[jL];subst hx1;have few:=kept22 (rule:=one) (m:=c) (by omega);refine⟨_,rfl,.inl ⟨rfl,_,SqL.of ge1⟩,_,rfl,en,_,_,rfl,rfl,ge1,zU (by rw[length_map,length_map,length_take];omega),?_⟩;have sU:=sH.updN (o:=.lst ((((zJ one c).take i).map fun h=>txt (endH one other h)).map V.str++[V.str (txt (endH one other h))])) hen;have gU:=z6 (H:=H1) (a:=en) (o:=.lst ((((zJ one c).take i).map fun h=>txt (endH one other h)).map V.str++[V.str (txt (endH one other h))]));generalize upd H1 en (.lst ((((zJ one c).take i).map fun h=>txt (endH one other h)).map V.str++[V.str (txt (endH one other h))]))=HU at sU gU ⊢;have DU:=DE.same sU;obtain⟨_,_,dxu,_,_,_,_,_,hxu,_⟩:=id DU;dsimp only[tNext,jL];refine cut1 fun nx1 hx1=>?_;refine⟨_,rfl,x,dxu,_,rfl,hxu,rfl,js3 rfl rfl rfl e5 ?_⟩;refine⟨x,_,OC,SS,PP,[],_,_,rfl,le_trans e5 (by decide),DU,read_send hm hn hep' (by omega),hS2,hP2,by decide,.inl (.inr (.inr (.inr (.inl ⟨rfl,m,n,other,one,_,c,rfl,l2,l1,RR.swap,hep',by omega,hf',fun H2 s2=>?_⟩))))⟩;rw[endH_back RR hep (by omega) hf];refine⟨_,rfl,_,_,rfl,true,by rw[decide_eq_true rfl];rfl,iteF ?_⟩;dsimp only[jL];subst hx1;refine⟨_,rfl,_,rfl,_,rfl,_,rfl,_,rfl,x,n,m,h,c,OC,SS,PP,[],one,other,rfl,DU.same s2,hn,hm,l1,l2,RR,hep,by omega,hf,hS2,hP2,by decide,fun H3 s3=>⟨true,rfl,iteF ⟨sU.trans (s2.trans s3),⟨_,_,rfl⟩,?_⟩⟩⟩;have g3:=s3 _ _ (s2 _ _ gU);have hil:=(List.getElem?_eq_some_iff.mp hi).1;have ez:=(List.getElem?_eq_some_iff.mp hi).2;rw[g3,take_succ_eq_append_getElem hil,ez];simp
  rintro σ' H' ⟨s',⟨v11,v12,rfl⟩,ge⟩;have Dx:=DE.same s';obtain⟨_,_,dxx,_,_,_,_,_,hxx,_⟩:=id Dx;have ll:(((Str.ofString "match "++n)++Str.ofString " ")++m).length<=20000:=by
   have i1:=yD hn;have i2:=yD hm;have lr:(Str.ofString "match ").length=6:=by decide+kernel
   have lb:(Str.ofString " ").length=1:=by decide+kernel
   simp only[yC];omega
  refine⟨_,rfl,x,dxx,_,rfl,hxx,rfl,js2 rfl rfl ll ?_⟩;refine⟨x,_,OC,SS,PP,[],_,_,rfl,le_trans ll (by decide),Dx,line2 form_match (by decide+kernel) (kG hn) (line2_cps (by decide+kernel) n m) (yF hn).1 (yF hm).1,hS2,hP2,by decide,.inl (.inr (.inr (.inl ⟨rfl,n,m,one,other,rfl,l1,l2,RR,fun H1 s1=>?_⟩)))⟩;refine⟨_,_,rfl,?_⟩;rw[decide_eq_true rfl];exact k _
end
theorem all_mk{l:W.OpenLaw}{w:World}{K:W.Frag}{mg:Str->Option Value}{fa:Addr}{A:Adr}(hfa:mg "law"=some (.ref fa))(T:Txt l.prog w K mg A) :
  ∃fd:FuncData,(∀(s:Shared)(v:Value),BindsTo s fd ⟨[v],[]⟩ [("_law_script",v)])/\ ∀base:Heap,K.In base->base.Ns mainGlobals mg->FnOk l.prog w K mg base CX0 40 fa fd ["_law_script"] (sp_law K):=by
 have e:=hfa.symm.trans T.x74.g;cases e;obtain⟨_,_,_,_,_,_,_,_,_,e,_⟩:=T.x74.F.ex;exact⟨A.f74,fun s v=>by rw[e];exact .of_eq rfl,fun base _ _=>ok_law T⟩
theorem walk{l:W.OpenLaw}{q:Program}{loose:List Str}{XP:(Str->Option Value)->Heap->Prop}{YP:World->Heap->Prop}{d:DefRec}{K:Params->W.Frag}(hn:l.most=some 63)(hdf:d.params.defaults=[])(hY:∀(w:World) (h:Heap),YP w h->(K w.params).In h)(F:∀(w:World) (mg:Str->Option Value) (fa:Addr) (h:Heap),(K w.params).In h->h.Ns mainGlobals mg->mg d.name=some (.ref fa)->
   ∃fd:FuncData,(∀(s:Shared) (u:Value),BindsTo s fd ⟨[u],[]⟩ [("_law_script",u)])/\ ∀base:Heap,(K w.params).In base->base.Ns mainGlobals mg->FnOk l.prog w (K w.params) mg base CX0 40 fa fd ["_law_script"] (sp_law (K w.params))) :
  W.WalkO q loose XP YP l.row.toRowW d [] (fun f vs=>PySem.call f vs) :=
 L2.walk_of (n:=63) (k:=40) (x :="_law_script") (CX:=fun _=>CX0) (sp:=fun w=>sp_law (K w.params)) hn (by decide) hdf ⟨fun _=>rfl,by decide,by decide⟩ hY F (fun _ _ a ns hl _ hS=>⟨a,ns,rfl,hS,hl,fun _=>rfl⟩) fun _ _ _ _ _ z=>z
end My
namespace PySem.W.Fast
def Z:=Nat
def tw2725448741724978813:=Z
def tw10647040354229979122:=Z
def tw5385384505467899924:=Z
def tw14120853401369365574:=Z
def tw15667890648609419233:=Z
def tw3923197600237186754:=Z
def tw14620527961699521750:=Z
def tw230103756372026679:=Z
def tw890111763985835483:=Z
def tw9875653183203341901:=Z
def tw9764990859260616502:=Z
def tw9194557979394098404:=Z
def tw15521584856336206834:=Z
def tw4038907565363361166:=Z
def tw868298002870120067:=Z
def tw9481760653298680199:=Z
def tw1425908046186876752:=Z
def tw1750827139256419073:=Z
def tw4468895565006310908:=Z
def tw2837394019116611485:=Z
def tw14499481159911947080:=Z
def tw13527085492966876823:=Z
def tw11605924081088589613:=Z
def tw16766376214478597244:=Z
def tw9690022224291391991:=Z
def tw3838499596069728372:=Z
def tw10057776748544730261:=Z
def tw15835431337353404352:=Z
def tw15864347961986239250:=Z
def tw14249511219586256317:=Z
def tw16780826711900335631:=Z
def tw4988824373382284422:=Z
def tw4144616605826199305:=Z
def tw11953447745243389072:=Z
def tw2003243517709365302:=Z
def tw13386457579936961004:=Z
def tw7612626227925884516:=Z
def tw1204344676027222570:=Z
def tw4063688900435265175:=Z
def tw1490588509340882100:=Z
def tw16616388305234145215:=Z
def tw16901698155475806395:=Z
def tw1606709693710848481:=Z
def tw8850528475372722844:=Z
def tw9929665623919460668:=Z
def tw7954400071031540832:=Z
def tw16651602077930101959:=Z
def tw18104827367792068114:=Z
def tw2892530423361174482:=Z
def tw14755576142984730214:=Z
def tw13567483425972478209:=Z
def tw11331918365065383601:=Z
def tw10733540458302006783:=Z
def tw1829645202737620002:=Z
def tw10480012877946240551:=Z
def tw3531647607666772337:=Z
def tw7574983652945698599:=Z
def tw5815029367716393701:=Z
def tw12383790940767711111:=Z
def tw6750444390270686440:=Z
def tw15348139435521721314:=Z
def tw16941832939780661452:=Z
def tw13519030942481247418:=Z
def tw7699770005825699557:=Z
def tw6444380656772561127:=Z
def tw6886234582810832551:=Z
def tw17390651765460271631:=Z
def tw3188900735494734852:=Z
def tw6758808309160738878:=Z
def tw5342298169807040608:=Z
def tw3887744029643621671:=Z
def tw9168835479173766575:=Z
def tw17872167661143088896:=Z
def tw16958014858520227080:=Z
def tw7283179985605670459:=Z
def tw2772999777590771383:=Z
def tw277053759888967987:=Z
def tw10650889887563538885:=Z
def tw17606422927693075392:=Z
def tw14458851449861957445:=Z
def tw5928443907425873360:=Z
def tw11516272113488418728:=Z
def tw9857859421865708220:=Z
def tw7111899973293294066:=Z
def tw15349738149595612765:=Z
def tw11111612187888606018:=Z
def tw6606584400023087090:=Z
def tw13827866713341656369:=Z
def tw15278529048121676856:=Z
def tw807006232055749021:=Z
def tw15813517729987428129:=Z
def tw3076664640033296150:=Z
def tw14066932519137862198:=Z
def tw12140827273701785144:=Z
def tw4854246631007106845:=Z
def tw4632999850198128230:=Z
def tw5820424695035425951:=Z
def tw14047361929813414729:=Z
def tw9965831617192423433:=Z
def tw13810121694971642712:=Z
def tw2634995714371460677:=Z
def tw128098554193925618:=Z
def tw12166520631738738282:=Z
def tw4718715126660869456:=Z
def tw10122028917795617402:=Z
def tw12104154976977792199:=Z
def tw15663760591134293149:=Z
def tw18162752792403557937:=Z
def tw14060372237232636612:=Z
def tw12187551324986696515:=Z
def tw4427061463651478609:=Z
def tw17887645199392516653:=Z
def tw11389322513247254270:=Z
def tw16616683932762303634:=Z
def tw3984261519484834995:=Z
def tw5685423433454931780:=Z
def tw16855962356188345827:=Z
def tw17665778233846618178:=Z
def tw1526388388672577177:=Z
def tw8721838670178154696:=Z
def tw6996916276972176081:=Z
def tw7972595596784338985:=Z
def tw16535047400979098215:=Z
def tw1118355865361331687:=Z
def tw5754408328240839619:=Z
def tw2591982960735372658:=Z
def tw2683254680621820589:=Z
def tw14411303285519779596:=Z
def tw354554057637078146:=Z
def tw18054052775480062791:=Z
def tw12232423962631113264:=Z
def tw4520538149542851878:=Z
def tw2504045465805200845:=Z
def tw1041082322670083041:=Z
def tw15528600318210407698:=Z
def tw10872821738491664901:=Z
def tw18232479998403691715:=Z
def tw12315726308811394383:=Z
def tw9103370315570147325:=Z
def tw16088421145853349606:=Z
def tw14877897119076972236:=Z
def tw14286278938148927621:=Z
def tw7824913243958528880:=Z
def tw10401917952532218525:=Z
def tw6676862569248665836:=Z
def tw3005267643349093283:=Z
def tw6799696597684303179:=Z
def tw17389367137617856647:=Z
def tw9893675075466106317:=Z
def tw14557737734121149372:=Z
def tw2236869128624187071:=Z
def tw13253406716141236527:=Z
def tw2343925204443057069:=Z
def tw6637706866416548563:=Z
def tw1130274448285357714:=Z
def tw18373674139017568506:=Z
def tw6805850063084999704:=Z
def tw13109857029126219379:=Z
def tw12748661822177549135:=Z
def tw9181871943846372400:=Z
def tw7883049957074076784:=Z
def tw5155995235696609312:=Z
def tw17232537884293967701:=Z
def tw9973473745258873878:=Z
def tw7058261859657583396:=Z
def tw116991220752015736:=Z
def tw9152056919066407330:=Z
def tw1471638139687080658:=Z
def tw5069512217930631299:=Z
def tw4401546969165962042:=Z
def tw18054847444759262538:=Z
def tw14056991715012819481:=Z
def tw15118307118883727840:=Z
def tw4270992003139465900:=Z
def tw4381804426974513053:=Z
def tw2760699725852612246:=Z
def tw9160520730931065861:=Z
def tw16714260042173631571:=Z
def tw13999696182840826534:=Z
def tw5575582959133731735:=Z
def tw3916623828499961865:=Z
def tw4324602292370301467:=Z
def tw1228161201933239895:=Z
def tw11124182971929451363:=Z
def tw13124562982364302760:=Z
def tw12559502098400656132:=Z
def tw6509412833662768005:=Z
def tw11018579530931986015:=Z
def tw14447028695057064235:=Z
def tw14663248647483692241:=Z
def tw15022957032836368805:=Z
def tw12088871831042196413:=Z
def tw6413162647198209241:=Z
def tw892908665927400898:=Z
def tw3404689511044922764:=Z
def tw13395978231651182876:=Z
def tw3062573986872428338:=Z
def tw16975646586933671246:=Z
def tw14806013026751339067:=Z
def tw16080297010496892119:=Z
def tw15006379399733016533:=Z
def tw11604816494992945774:=Z
def tw15073228450969150890:=Z
def tw14320150943097317889:=Z
def tw3104164689332537713:=Z
def tw6806565181966882732:=Z
def tw9907166054587812393:=Z
def tw15487573648178943729:=Z
def tw10656413543641302812:=Z
def tw334505136979786696:=Z
def tw6830608254146603159:=Z
def tw4633588636923305670:=Z
def tw2274909204984727236:=Z
def tw11087358390517473287:=Z
def tw10503173163422965702:=Z
def tw4949332298964616670:=Z
def tw13558092885174864546:=Z
def tw5463154122318614935:=Z
def tw2614315762771156632:=Z
def tw11292641512580136607:=Z
def tw16753344640253718009:=Z
def tw6829966879064339280:=Z
def tw15486574624944459284:=Z
def tw10655069934291421320:=Z
def tw18166476079369614742:=Z
def tw9357278247136175943:=Z
def tw6869045626653423268:=Z
def tw17513357573500126159:=Z
def tw6005307248043392400:=Z
def tw13071243922437281884:=Z
def tw6869557476310271921:=Z
def tw998536490432739481:=Z
def tw2456091769454523443:=Z
def tw230976096965427268:=Z
def tw14541032004829778870:=Z
def tw4381539181011836204:=Z
def tw18370730878889099917:=Z
def tw17653296528912312790:=Z
def tw15568376604389508359:=Z
def tw357820227468553550:=Z
def tw18230042947377939475:=Z
def tw16890128879931636058:=Z
def tw16407504019232056094:=Z
def tw10021507732031339023:=Z
def tw16956667555924422187:=Z
def tw14240514154397562688:=Z
def tw8139871303571946287:=Z
def tw4635217956159636101:=Z
def tw8953484553460881670:=Z
def tw5934257254098264914:=Z
def tw4689483785217247326:=Z
def tw6654574590650239558:=Z
def tw9116980811380899377:=Z
def tw6806226734405288543:=Z
def tw9583718195598117927:=Z
def tw17793265562889619423:=Z
def tw3814366464662066715:=Z
def tw7177436305469735086:=Z
def tw14954586852598329002:=Z
def tw8010118674119013927:=Z
def tw5942474304484234664:=Z
def tw14633185334927567596:=Z
def tw15062525805568203400:=Z
def tw3695011984704683055:=Z
def tw8483038725348941084:=Z
def tw17904018444960639134:=Z
def tw7971855470949415848:=Z
def tw14114992945208842215:=Z
def tw8080750632153450566:=Z
def tw11928804139711780816:=Z
def tw9929982735044814399:=Z
def tw9616491615389669325:=Z
def tw17531296573743908993:=Z
def tw1367797973628418334:=Z
def tw17363018170673158979:=Z
def tw10161604581205830050:=Z
def tw15317887578134632986:=Z
def tw5620439024437498363:=Z
def tw3373581937540078964:=Z
def tw4954506997141976585:=Z
def tw13017764832276226287:=Z
def tw11714325290416801165:=Z
def tw10376896565654162219:=Z
def tw16213984411231453505:=Z
def tw6246445414201680812:=Z
def tw13054805112488499975:=Z
def tw10505099780680334822:=Z
def tw6265881421512804131:=Z
def tw17094213859113095349:=Z
def tw14392744465130254209:=Z
def tw10753293482416660041:=Z
def tw9929495389426110912:=Z
def tw7483599564054379271:=Z
def tw11689395074875947903:=Z
def tw9109742811671714892:=Z
def tw16340638766656959376:=Z
def tw8589494759701049744:=Z
def tw18231511676982411382:=Z
def tw16008751043656519524:=Z
def tw16271639757239761623:=Z
def tw1989192896533436342:=Z
def tw10827819801253417516:=Z
def tw439927858539023871:=Z
def tw9955140450927249660:=Z
def tw10607301181330177174:=Z
def tw18066689329780794271:=Z
def tw2176703067245035484:=Z
def tw3664965514969055598:=Z
def tw2388122826628948892:=Z
def tw11862882040542207070:=Z
def tw5695877412529213070:=Z
def tw11181180428816867776:=Z
def tw13533998957588284674:=Z
def tw13094000821978303837:=Z
def tw17599656611892648344:=Z
def tw6256030093108819295:=Z
def tw7098845302675709230:=Z
def tw12174708443850917821:=Z
def tw13892048584663964844:=Z
def tw6661789927014322722:=Z
def tw13517464111444572927:=Z
def tw4349409889293393721:=Z
def tw4462007816002126458:=Z
def tw8797842823524051238:=Z
def tw15968127595795873196:=Z
def tw5045226139600255952:=Z
def tw17206840140396216639:=Z
def tw8251440806195933280:=Z
def tw4243641093694148966:=Z
def tw16241528611100662469:=Z
def tw7830333008361311745:=Z
def tw5143680213862295801:=Z
def tw3149865934777239516:=Z
def tw7289152726535293530:=Z
def tw4442315418130295333:=Z
def tw11340084666918040111:=Z
def tw14785142930588625288:=Z
def tw16936462510839422028:=Z
def tw13095142380908596704:=Z
def tw76805176432551259:=Z
def tw16554935506012852263:=Z
def tw13662677235803924850:=Z
def tw17505213503712116498:=Z
def tw3793712399888529207:=Z
def tw6103881984519414127:=Z
def tw11869914377071230502:=Z
def tw2283963670852254111:=Z
def tw1754849379393301250:=Z
def tw924799134695887756:=Z
def tw16878427893058687869:=Z
def tw13318841454346326465:=Z
def tw2573676450877518313:=Z
def tw16650609125206045513:=Z
def tw13785103737412261322:=Z
def tw106161166960766384:=Z
def tw16484418250863879318:=Z
def tw4443553043867801636:=Z
def tw14564886144620699548:=Z
def tw9660149414943416009:=Z
def tw16026435857758190609:=Z
def tw3242449257681748504:=Z
def tw5067977948454299452:=Z
def tw17639868691004805041:=Z
def tw7207215365946138806:=Z
def tw15034947799620572594:=Z
def tw12064265277160096102:=Z
def tw3198690062501637089:=Z
def tw11382022830209007826:=Z
def tw9631202089562925297:=Z
def tw1823212352075874392:=Z
def tw1858679310176404267:=Z
def tw14473168706837276220:=Z
def tw12435018379532269078:=Z
def tw13913295285818164304:=Z
def tw3302061180735027320:=Z
def tw17586867124185781873:=Z
def tw7249228795135328461:=Z
def tw11049283972413631801:=Z
def tw11448672503450356310:=Z
def tw10870774041060900324:=Z
def tw13304764868240398641:=Z
def tw11123073524160803089:=Z
def tw17501450779935035418:=Z
def tw16836476336809698054:=Z
def tw17333745976228088670:=Z
def tw8219638457195337889:=Z
def tw16231235903771258197:=Z
def tw6153789607029031855:=Z
def tw11880896144658922895:=Z
def tw8597218669272271919:=Z
def tw10085894997063585499:=Z
def tw7502073103746452985:=Z
def tw4660440894489737347:=Z
def tw1928061597729449600:=Z
end PySem.W.Fast
open PySem PySem.W PyProof.Rows
set_option maxRecDepth 100000 in
set_option maxHeartbeats 0 in
theorem PySem.Challenge.cw_shutpairs_k57_whole_all_are_sent_holds : PySem.Challenge.rw_shutpairs_k57_whole_all_are_sent.Holds := by
 w_on;o_law;k_head;(case hw=>w_witness2)
 k_fill
 refine My.walk (l:=PySem.Challenge.rw_shutpairs_k57_whole_all_are_sent) rfl rfl (fun w h Y=>W.kIn_of Y) ?F
 case F =>
  intro w mg fa h KX G hmg;apply My.all_mk (A:=⟨_,_,_,_,_,_,_,_,_,_,_,_,_,_,_,_,_,_,_,_,_,_,_,_,_,_,_,_,_,_,_,_,_,_,_,_,_,_,_,_,_,_,_,_,_,_,_,_,_,_,_,_,_,_,_,_,_,_,_,_,_,_,_,_,_,_,_,_,_,_,_,_,_,_,_,_,_,_,_,_,_,_,_,_,_,_,_,_,_,_,_,_,_,_,_,_,_,_,_,_,_,_,_,_,_,_,_,_,_,_,_,_,_,_,_,_,_,_,_,_,_,_,_,_,_,_,_,_,_,_,_,_,_,_,_,_,_,_,_,_,_,_,_,_,_,_,_,_,_,_,_,_,_,_,_,_,_,_,_,_,_,_,_,_,_,_⟩) hmg;constructor
  all_goals try dsimp only
  iterate 69 (refine' L2.FB.of KX G ?n ?l ?c ?k ?b;(case n=>k_is);(case l=>k_is);(case c=>k_is);(case k=>k_is);(case b=>(intro _ _ _ _ _ _;(repeat intro _);exact rfl)))
  iterate 15 (refine' W.mg_none_of KX G ?z;(case z=>k_is))
  iterate 4 (refine' L2.mgI KX G ?z;(case z=>k_is))
  (refine' L2.mgS KX G ?z;(case z=>k_is))
  iterate 2 (refine' L2.mgI KX G ?z;(case z=>k_is))
  (refine' L2.mgS KX G ?z;(case z=>k_is))
  iterate 2 (refine' L2.mgI KX G ?z;(case z=>k_is))
  (exact⟨_,KX⟩)
  iterate 13 (refine' W.mg_of KX G ?z;(case z=>k_is))
  (refine'⟨?x,?y⟩;(case x=>k_exc);(case y=>k_is))
  iterate 6 (refine' L2.MB.of ?n ?i ?l ?c ?k ?b;(case n=>k_is);(case i=>k_is);(case l=>k_is);(case c=>k_is);(case k=>k_is);(case b=>(intro _ _ _ _ _ _;(repeat intro _);exact rfl)))
  iterate 4 (constructor <;>k_is)
  iterate 5 (unfold L2.NoAttr;k_is)
  iterate 3 (refine' W.mg_of KX G ?z;(case z=>k_is))
  (refine' L2.KForms.lit [L2.rowI "rule",L2.rowI "add",L2.rowI "take",L2.rowI "copy",L2.rowI "drop",L2.rowI "undo",L2.rowI "again",L2.rowI "names",L2.rowI "show",L2.rowI "keeps",L2.rowI "count",L2.rowI "list",L2.rowI "match",L2.rowI "send",L2.rowI "steps"] _ rfl ?l (show(["rule","add","take","copy","drop","undo","again","names","show","keeps","count","list","match","send","steps"]:List Str).Nodup by decide+kernel) rfl ⟨⟨0,_,_,rfl,L2.KTup.lit [L2.colI "FREE",L2.colI "RULE"] ?k0 (show 2<=100 by decide)⟩,⟨1,_,_,rfl,L2.KTup.lit [L2.colI "NAME",L2.colI "HEAP"] ?k1 (show 2<=100 by decide)⟩,⟨2,_,_,rfl,L2.KTup.lit [L2.colI "NAME",L2.colI "NUMBER"] ?k2 (show 2<=100 by decide)⟩,⟨3,_,_,rfl,L2.KTup.lit [L2.colI "NAME",L2.colI "FREE"] ?k3 (show 2<=100 by decide)⟩,⟨4,_,_,rfl,L2.KTup.lit [L2.colI "NAME"] ?k4 (show 1<=100 by decide)⟩,⟨5,_,_,rfl,L2.KTup.lit [] ?k5 (show 0<=100 by decide)⟩,⟨6,_,_,rfl,L2.KTup.lit [] ?k6 (show 0<=100 by decide)⟩,⟨7,_,_,rfl,L2.KTup.lit [] ?k7 (show 0<=100 by decide)⟩,⟨8,_,_,rfl,L2.KTup.lit [L2.colI "NAME"] ?k8 (show 1<=100 by decide)⟩,⟨9,_,_,rfl,L2.KTup.lit [L2.colI "NAME",L2.colI "HEAP"] ?k9 (show 2<=100 by decide)⟩,⟨10,_,_,rfl,L2.KTup.lit [L2.colI "NAME",L2.colI "NUMBER"] ?k10 (show 2<=100 by decide)⟩,⟨11,_,_,rfl,L2.KTup.lit [L2.colI "NAME",L2.colI "NUMBER"] ?k11 (show 2<=100 by decide)⟩,⟨12,_,_,rfl,L2.KTup.lit [L2.colI "NAME",L2.colI "NAME"] ?k12 (show 2<=100 by decide)⟩,⟨13,_,_,rfl,L2.KTup.lit [L2.colI "NAME",L2.colI "NAME",L2.colI "HEAP"] ?k13 (show 3<=100 by decide)⟩,⟨14,_,_,rfl,L2.KTup.lit [L2.colI "NAME",L2.colI "NAME",L2.colI "HEAP"] ?k14 (show 3<=100 by decide)⟩,trivial⟩;(case l=>k_is);(case k0=>k_is);(case k1=>k_is);(case k2=>k_is);(case k3=>k_is);(case k4=>k_is);(case k5=>k_is);(case k6=>k_is);(case k7=>k_is);(case k8=>k_is);(case k9=>k_is);(case k10=>k_is);(case k11=>k_is);(case k12=>k_is);(case k13=>k_is);(case k14=>k_is))
  (refine' L2.KFns.lit [L2.rowI "rule",L2.rowI "add",L2.rowI "take",L2.rowI "copy"] _ rfl ?l (show(["rule","add","take","copy"]:List Str).Nodup by decide+kernel) _ rfl ⟨⟨0,_,rfl⟩,trivial⟩;(case l=>k_is))
  (refine' L2.KFns.lit [L2.rowI "names",L2.rowI "show",L2.rowI "keeps",L2.rowI "count",L2.rowI "list",L2.rowI "match",L2.rowI "send",L2.rowI "steps"] _ rfl ?l (show(["names","show","keeps","count","list","match","send","steps"]:List Str).Nodup by decide+kernel) _ rfl ⟨⟨3,_,rfl⟩,⟨4,_,rfl⟩,⟨5,_,rfl⟩,⟨6,_,rfl⟩,⟨7,_,rfl⟩,trivial⟩;(case l=>k_is))
