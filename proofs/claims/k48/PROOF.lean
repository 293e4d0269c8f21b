import PyProof.Rows.All
import Wide.All
import OpenK.AllK
import Wide.FinOn
import PyProof.EqAt
import PyProof.EqKinds
import PyProof.TupleCall
import PyProof.NeKinds
import PyProof.StrLawsTight
import PyProof.ExcClass3
import PyProof.StationsW
import PyProof.ExcBaseAll.ValueError
import PyProof.NsDelKeeps
import PyProof.RulesAs
import PyProof.ExcArgsOwn
import PyProof.ExcAttrAll.ValueError
import PyProof.ZipIter
import PyProof.ListMulRoad
import KE.KDictSum
import PyProof.ListRange
import PyProof.Draws
import PyProof.EnumMake
import PyProof.Rows.Range3
import PyProof.Rows.SortShell
import PyProof.Conv_int_bool
import PyProof.Rows.SetFrom
import PyProof.Rows.SetObj
import PyProof.WalksMore
import KE.IntBitsLaws
import KE.KRevSl
import PyProof.FitsBits
import PyProof.CollectIter
import PyProof.IsRules
import PyProof.AttrMissHeap
import PyProof.WalksS
import KE.KDictOf
import PyProof.PureStr
import PyProof.StrOps2
import PyProof.SliceStr2
import PyProof.StrBlockI
import PyProof.CompFree
import PyProof.Rows.StrSplitJoin
import PyProof.StrCalls6
import PyProof.ConsumeWalk
import PyProof.StrLawsReplace
import PyProof.DictItems
import PyProof.Rows.SortRuns
import KE.KFind
import PyProof.Rows.StrSplitMax
import PyProof.Rows.SortStr
import Lean
import PySem.Challenge.RW_shutpairs_k48_what_keeps_on_the_desk
set_option compiler.extract_closed false
local macro_rules | `(tactic| omega)=>`(tactic| first | lia | omega (config:={}))
set_option Elab.async false
set_option linter.all false
set_option maxRecDepth 100000
open List (length_map mem_cons map_cons size_toArray mem_map length_cons mem_cons_of_mem replicate getElem?_map length_append length_take take_length mem_of_getElem? mem_cons_self map_append getElem?_eq_getElem mem_append take_succ_eq_append_getElem mem_append_right all_eq_true mem_range take_of_length_le map_map getD_eq_getElem?_getD append_nil not_mem_nil length_drop mem_filter length find?_cons filter_cons all_map any_cons map_congr_left filterMap_cons nodup_cons flatten_cons append_assoc pairwise_cons take_succ drop_zero drop_eq_getElem_cons getElem_mem count_eq_zero)
open Nat (le_trans le_refl ne_of_lt zero_le lt_of_lt_of_le lt_irrefl le_succ lt_succ_of_lt lt_of_le_of_lt)
open Bool (and_eq_true false_eq_true)
open Option (map_eq_some_iff)
open Int (toNat_natCast le_of_lt)
namespace L2
open PySem PySem.Spec PyProof.Rows
abbrev Key:=Sum Int Str
def dw:Key->Value->Bool
 | .inl k,v=>Value.isInt k v
 | .inr x,v=>Value.isStrOf x v
def keyH(w:World):Key->Int
 | .inl k=>hashInt k
 | .inr x=>hashStr w x
theorem zO:∀{k:Key}{v:Value},dw k v=true->(∃i t,k=Sum.inl i/\v=Value.int i t)\/(∃x t,k=Sum.inr x/\v=Value.str x t)
 | .inl i,v,h=>by
  obtain⟨t,e⟩:=Value.isInt_shape (k:=i) (v:=v) h;exact .inl ⟨i,t,rfl,e⟩
 | .inr x,v,h=>by
  obtain⟨t,e⟩:=Value.isStrOf_shape (x:=x) (v:=v) h;exact .inr ⟨x,t,rfl,e⟩
theorem lq(i:Int)(t:Tok):dw (.inl i) (.int i t)=true:=by simp[dw,Value.isInt]
theorem qA(x:Str)(t:Tok):dw (.inr x) (.str x t)=true:=by simp[dw,Value.isStrOf]
theorem YD(a b:Int):decide ((Sum.inl a:Key)=Sum.inl b)=(a==b):=by
 by_cases e:a=b
 ·subst e;simp
 ·have h:¬(Sum.inl a:Key)=Sum.inl b:=fun q=>e (Sum.inl.inj q);rw[decide_eq_false h];exact(beq_eq_false_iff_ne.mpr e).symm
theorem Zo(a b:Str):decide ((Sum.inr a:Key)=Sum.inr b)=decide (a=b):=by
 by_cases e:a=b
 ·subst e;simp
 ·have h:¬(Sum.inr a:Key)=Sum.inr b:=fun q=>e (Sum.inr.inj q);rw[decide_eq_false h,decide_eq_false e]
theorem YE(a:Int)(b:Str):decide ((Sum.inl a:Key)=Sum.inr b)=false:=decide_eq_false (fun q=>nomatch q)
theorem YF(a:Str)(b:Int):decide ((Sum.inr a:Key)=Sum.inl b)=false:=decide_eq_false (fun q=>nomatch q)
def yg(prog:Program)(w:World):PySem.KeyKind prog w Key where
 is:=dw
 hash:=keyH w
 inj:=fun v a b ha hb=>by
  rcases zO ha with⟨i,t,rfl,rfl⟩|⟨x,t,rfl,rfl⟩
  ·rcases zO hb with⟨j,u,rfl,e⟩|⟨y,u,rfl,e⟩
   ·injection e with e1 _;rw[e1]
   ·exact nomatch e
  ·rcases zO hb with⟨j,u,rfl,e⟩|⟨y,u,rfl,e⟩
   ·exact nomatch e
   ·injection e with e1 _;rw[e1]
 byValue:=fun k v h=>by
  rcases zO h with⟨i,t,rfl,rfl⟩|⟨x,t,rfl,rfl⟩ <;>rfl
 pyHash:=fun hv h=>by
  rcases zO hv with⟨i,t,rfl,rfl⟩|⟨x,t,rfl,rfl⟩
  ·exact wpAny_pyHash_int h
  ·exact wpAny_pyHash_str h
 eqBool:=fun hu hv h=>by
  rcases zO hu with⟨i,t,rfl,rfl⟩|⟨x,t,rfl,rfl⟩
  ·rcases zO hv with⟨j,u,rfl,rfl⟩|⟨y,u,rfl,rfl⟩
   ·rw[YD]at h;exact wpAny_eqBool_int h
   ·rw[YE]at h;exact SeqAt.EqAt.int_str i t y u _ _ _ _ h
  ·rcases zO hv with⟨j,u,rfl,rfl⟩|⟨y,u,rfl,rfl⟩
   ·rw[YF]at h;exact SeqAt.EqAt.str_int x t j u _ _ _ _ h
   ·rw[Zo]at h;exact wpAny_eqBool_str h
 «strs»:=fun k x t v h=>by
  rcases zO h with⟨i,u,rfl,e⟩|⟨y,u,rfl,e⟩
  ·exact nomatch e
  ·injection e with e1 _
   subst e1;cases v <;>rfl
theorem bX(prog:Program)(w:World)(i:Int)(t:Tok):(yg prog w).is (.inl i) (.int i t)=true:=lq i t
theorem bY(prog:Program)(w:World)(x:Str)(t:Tok):(yg prog w).is (.inr x) (.str x t)=true:=qA x t
inductive V where
 |non|bl (b:Bool)|int (i:Int)|str (x:Str)|byt (b:Array UInt8)|flt (b:UInt64)|ref (a:Addr)|ty (n:String)
 deriving DecidableEq
def RelV:V->Value->Prop
 | .non,u=>u=Value.none
 | .bl b,u=>u=Value.bool b
 | .int i,u=>∃ t,u=Value.int i t
 | .str x,u=>∃ t,u=Value.str x t
 | .byt b,u=>∃ t,u=Value.bytes b t
 | .flt b,u=>∃ t,u=Value.float b t
 | .ref a,u=>u=Value.ref a
 | .ty n,u=>u=Value.type n
abbrev Vals:List V->List Value->Prop:=Paired RelV
theorem Vals.length{xs:List V}{us:List Value}(r:Vals xs us):xs.length=us.length:=Paired.length r
theorem Vals.get:∀{xs:List V}{us:List Value}{i:Nat}{x:V},Vals xs us->xs[i]? =some x-> ∃u,us[i]? =some u/\RelV x u
 | _,_,_,_,.nil,e=>by simp at e
 | _,_,0,_,.cons r _,e=>by simp at e;subst e;exact⟨_,rfl,r⟩
 | _,_,i+1,x,.cons _ t,e=>by
  obtain⟨u,h1,h2⟩:=Vals.get (i:=i) (x:=x) t (by simpa using e);exact⟨u,by simpa using h1,h2⟩
theorem Vals.set{x:V}{u:Value}(r:RelV x u):∀{xs:List V}{us:List Value}(i:Nat),Vals xs us->Vals (xs.set i x) (us.set i u)
 | _,_,_,.nil=>.nil
 | _,_,0,.cons _ t=>.cons r t
 | _,_,i+1,.cons q t=>.cons q (Vals.set r i t)
theorem Vals.append:∀{xs ys:List V}{us ws:List Value},Vals xs us->Vals ys ws->Vals (xs++ys) (us++ws)
 | _,_,_,_,.nil,s=>s
 | _,_,_,_,.cons r t,s=>.cons r (Vals.append t s)
theorem Vals.take:∀{xs:List V}{us:List Value}(n:Nat),Vals xs us->Vals (xs.take n) (us.take n)
 | _,_,0,_=>.nil
 | _,_,_+1,.nil=>.nil
 | _,_,n+1,.cons r t=>.cons r (Vals.take n t)
theorem Vals.drop:∀{xs:List V}{us:List Value}(n:Nat),Vals xs us->Vals (xs.drop n) (us.drop n)
 | _,_,0,r=>r
 | _,_,_+1,.nil=>.nil
 | _,_,n+1,.cons _ t=>Vals.drop n t
def RelO:Option V->Option Value->Prop
 |some v,some u=>RelV v u
 |none,none=>True
 | _,_=>False
def KV{κ:Type}:List (κ×V)->List (κ×Value)->Prop:=Paired fun(p:κ×V)(q:κ×Value)=>p.1=q.1/\RelV p.2 q.2
def kV:Key->V
 | .inl i=>.int i
 | .inr x=>.str x
inductive HO where
  |lst (xs:List V)
  |tup (xs:List V)
  |dK (kvs:List (Key×V))|dT (kvs:List (List Key×V))
  |set (S:Int->Bool) (n:Nat)
  |ins (C dx:Addr) (fs:List (Str×V))
  |own (x:Addr)
  |xd (fs:List (Str×V))
  |met (f x:Addr)
  |rng (lo hi:Int)
  |frz (o:Obj) (u:HO)
  |tbl (ps:Array Value)
  |ext (φ:Heap->Prop)
abbrev Hp:=Addr->Option HO
def upd(H:Hp)(a:Addr)(o:HO):Hp:=fun b=>if b=a then some o else H b
theorem z6{H:Hp}{a:Addr}{o:HO}:upd H a o a=some o:=by unfold upd;rw[if_pos rfl]
theorem zh{H:Hp}{a b:Addr}{o:HO}(h:b≠a):upd H a o b=H b:=by unfold upd;rw[if_neg h]
theorem o8{H:Hp}{a:Addr}{o u:HO}:upd (upd H a o) a u=upd H a u:=by
 funext b;unfold upd;split <;>rfl
theorem jb{H:Hp}{a b:Addr}{o u:HO}(h:H a=some o)(h':H b=some u)(d:o≠u):a≠b:=by
 intro e;subst e;rw[h]at h';exact d (Option.some.inj h')
theorem zj{H:Hp}{a b:Addr}{o:HO}(h:H a=some o)(h':H b=none):a≠b:=by
 intro e;subst e;rw[h]at h';cases h'
section
variable(P:Program)(w:World)
def zS(H:Hp)(h:Heap)(a:Addr):HO->Prop
 | .lst xs=>xs.length<=sizeLine/\ ∃(its:List Value)(n:Nat),Vals xs its/\h.get? a=some {cls:=.type "list",data:=.seq its.toArray n}
 | .tup xs=>xs.length<=sizeLine/\ ∃its:List Value,Vals xs its/\IsTup h a its.toArray/\ ∀o,h.get? a=some o->o.dict=none
 | .dK kvs=>kvs.length<=sizeLine/\(a==sysModules)=false/\ ∃vs,KV kvs vs/\h.DictOf (yg P w) a vs
 | .dT kvs=>kvs.length<=sizeLine/\(a==sysModules)=false/\ ∃xs:List (List Key×Addr×Value),
   Paired (fun(p:List Key×V)(q:List Key×Addr×Value)=>p.1=q.1/\H q.2.1=some (.tup (p.1.map kV))/\RelV p.2 q.2.2) kvs xs/\
   ∃o es ep,h.get? a=some o/\o.ExactDict/\o.data= .dict es ep/\es.toList=xs.map (entryOfKey (tupleKind (yg P w)))/\(xs.map (·.1)).Nodup
 | .set S n=>h.SetOf (intKind P w) a S n
 | .ins C dx fs=>H dx=some (.own a)/\fs.length<=1000/\dx≠a/\h.get? a=some (W.instObj C dx)/\
   ∃mA,h.Ns1 dx mA/\(∀f,RelO (fs.lookup f) (mA f))/\PySem.Within mA (fs.map (·.1))
 | .own _=>∃ o,h.get? a=some o
 | .xd fs=>∃ mA,h.Ns1 a mA/\ ∀f,RelO (fs.lookup f) (mA f)
 | .rng lo hi=>∃ t u v,h.get? a=some {cls:=.type "range",data:=.fields #[.int lo t,.int hi u,.int 1 v]}
 | .frz o u=>h.get? a=some o/\zS H h a u
 | .tbl ps=>h.get? a=some {cls:=.none,data:=.fields ps}
 | .met f x=>h.get? a=some (W.methodObj (.ref f) (.ref x))
 | .ext φ=>φ h/\(∃o,h.get? a=some o)/\ ∀h1 h2:Heap,φ h1->(∀o,h1.get? a=some o->h2.get? a=some o)-> φ h2
theorem jS{h:Heap}{its:Array Value}:∀o,(h.push {cls:=.type "tuple",data:=.seq its}).get? h.objs.size=some o->o.dict=none:=by
 intro o e;rw[Heap.get?_push_size _ rfl]at e;cases e;rfl
def HOk(H:Hp)(h:Heap):Prop:=∀ a o,H a=some o->zS P w H h a o
end
section
variable{P:Program}{w:World}{H H':Hp}{h h':Heap}{a:Addr}{o:HO}
theorem zS.lt(x:zS P w H h a o):a<h.objs.size:=by
 cases o with
 |lst xs=>obtain⟨_,_,_,_,e⟩:=x;exact Heap.lt_size e
 |tup xs=>obtain⟨_,_,_,p,_⟩:=x;exact p.lt
 |dK kvs=>obtain⟨_,_,_,_,o,_,_,e,_⟩:=x;exact Heap.lt_size e
 |dT kvs=>obtain⟨_,_,_,_,o,_,_,e,_⟩:=x;exact Heap.lt_size e
 |set S n=>obtain⟨o,_,_,_,e,_⟩:=x;exact Heap.lt_size e
 |ins C dx fs=>obtain⟨_,_,_,e,_⟩:=x;exact Heap.lt_size e
 |own y=>obtain⟨_,e⟩:=x;exact Heap.lt_size e
 |xd fs=>obtain⟨_,⟨_,_,_,e,_⟩,_⟩:=x;exact Heap.lt_size e
 |rng lo hi=>obtain⟨_,_,_,e⟩:=x;exact Heap.lt_size e
 |frz ob u=>obtain⟨e,_⟩:=x;exact Heap.lt_size e
 |tbl ps=>exact Heap.lt_size (show h.get? a=some _ from x)
 |met f y=>exact Heap.lt_size (show h.get? a=some _ from x)
 |ext φ=>obtain⟨_,⟨_,e⟩,_⟩:=x;exact Heap.lt_size e
theorem Paired.mapP{α β:Type}{F G:α-> β->Prop}:∀{l₁:List α}{l₂:List β},Paired F l₁ l₂->(∀a b,F a b->G a b)->Paired G l₁ l₂
 | _,_,.nil,_=>.nil
 | _,_,.cons r t,f=>.cons (f _ _ r) (Paired.mapP t f)
theorem zS.stay(x:zS P w H h a o)(k:∀b u,(b=a\/H b=some (.own a))->h.get? b=some u->h'.get? b=some u)(ho:∀b,H b=some (.own a)->H' b=some (.own a))(ht:∀b xs,H b=some (.tup xs)->H' b=some (.tup xs)):zS P w H' h' a o:=by
 induction o with
 |lst xs=>obtain⟨z,its,n,r,e⟩:=x;exact⟨z,its,n,r,k _ _ (.inl rfl) e⟩
 |tup xs =>
  obtain⟨z,its,r,⟨ob,e,c⟩,nd⟩:=x;have e':=k _ _ (.inl rfl) e;exact⟨z,its,r,⟨ob,e',c⟩,fun o q=>by rw[e']at q;cases q;exact nd ob e⟩
 |dK kvs=>obtain⟨z,y,vs,r,ob,es,ep,e,c⟩:=x;exact⟨z,y,vs,r,ob,es,ep,k _ _ (.inl rfl) e,c⟩
 |dT kvs =>
  obtain⟨z,y,xs,r,ob,es,ep,e,c⟩:=x;exact⟨z,y,xs,Paired.mapP r fun p q z=>⟨z.1,ht _ _ z.2.1,z.2.2⟩,ob,es,ep,k _ _ (.inl rfl) e,c⟩
 |set S n=>obtain⟨ob,es,ep,t,e,c⟩:=x;exact⟨ob,es,ep,t,k _ _ (.inl rfl) e,c⟩
 |ins C dx fs =>
  obtain⟨d,z,ne,e,mA,⟨od,es,ep,e2,c⟩,r⟩:=x;exact⟨ho _ d,z,ne,k _ _ (.inl rfl) e,mA,⟨od,es,ep,k _ _ (.inr d) e2,c⟩,r⟩
 |own y=>obtain⟨ob,e⟩:=x;exact⟨ob,k _ _ (.inl rfl) e⟩
 |xd fs=>obtain⟨mA,⟨od,es,ep,e,c⟩,r⟩:=x;exact⟨mA,⟨od,es,ep,k _ _ (.inl rfl) e,c⟩,r⟩
 |rng lo hi=>obtain⟨t,u,v,e⟩:=x;exact⟨t,u,v,k _ _ (.inl rfl) e⟩
 |frz ob u ih=>obtain⟨e,q⟩:=x;exact⟨k _ _ (.inl rfl) e,ih q⟩
 |tbl ps =>
  have e:h.get? a=some {cls:=.none,data:=.fields ps}:=x;show h'.get? a=some {cls:=.none,data:=.fields ps};exact k a _ (.inl rfl) e
 |met f y =>
  have e:h.get? a=some (W.methodObj (.ref f) (.ref y)):=x;show h'.get? a=some (W.methodObj (.ref f) (.ref y));exact k a _ (.inl rfl) e
 |ext φ=>obtain⟨p,⟨o,e⟩,st⟩:=x;exact⟨st _ _ p fun o q=>k _ _ (.inl rfl) q,⟨o,k _ _ (.inl rfl) e⟩,st⟩
theorem HOk.lt(x:HOk P w H h)(e:H a=some o):a<h.objs.size:=(x a o e).lt
theorem HOk.fresh(x:HOk P w H h)(e:h.objs.size<=a):H a=none:=by
 cases q:H a with
 |none=>rfl
 |some u=>exact absurd (lt_of_lt_of_le (x.lt q) e) (lt_irrefl _)
theorem HOk.kept(x:HOk P w H h)(k:∀b u,h.get? b=some u->h'.get? b=some u):HOk P w H h':=fun a o e =>
 (x a o e).stay (fun b u _ q=>k b u q) (fun _ q=>q) fun _ _ q=>q
theorem HOk.laid(x:HOk P w H h)(k:∀b u,h.get? b=some u->h'.get? b=some u)(hp:h.objs.size<=a)(new:zS P w (upd H a o) h' a o):HOk P w (upd H a o) h':=fun b u e=>by
 have hn:=x.fresh hp;by_cases hb:b=a
 ·subst hb;rw[z6]at e;cases e;exact new
 ·rw[zh hb]at e;exact(x b u e).stay (fun c v _ q=>k c v q) (fun c q=>by rw[zh (zj q hn)];exact q) fun c xs q=>by rw[zh (zj q hn)];exact q
end
def Rd(H:Hp)(a:Addr)(u:HO):Prop:=H a=some u\/ ∃o,H a=some (.frz o u)
theorem Rd.ok{P:Program}{w:World}{H:Hp}{h:Heap}{a:Addr}{u:HO}(r:Rd H a u)(x:HOk P w H h):zS P w H h a u:=by
 rcases r with r|⟨o,r⟩
 ·exact x a u r
 ·obtain⟨_,q⟩:=x a _ r;exact q
def Mut:Option HO->Prop
 |some (.lst _)=>True
 |some (.dK _)=>True
 |some (.dT _)=>True
 |some (.set _ _)=>True
 |some (.ins _ _ _)=>True
 |some (.ext _)=>True
 | _=>False
section
variable{P:Program}{w:World}{H:Hp}{h h':Heap}{x e:Addr}{o':HO}
theorem HOk.write(ok:HOk P w H h)(mu:Mut (H x))(he:e=x\/H e=some (.own x))(k:∀b u,b≠e->h.get? b=some u->h'.get? b=some u)(heo:∃u,h'.get? e=some u)(new:zS P w (upd H x o') h' x o'):HOk P w (upd H x o') h':=fun b u q=>by
 have nown:∀c y,H c=some (.own y)->c≠x:=fun c y r z=>by subst z;rw[r]at mu;exact mu
 have ntup:∀c xs,H c=some (.tup xs)->c≠x:=fun c xs r z=>by subst z;rw[r]at mu;exact mu
 by_cases hb:b=x
 ·subst hb;rw[z6]at q;cases q;exact new
 ·rw[zh hb]at q;by_cases hbe:b=e
  ·have q':H b=some (.own x):=by
    rcases he with z|z
    ·exact absurd (hbe.trans z) hb
    ·rw[hbe];exact z
   rw[q]at q';cases q';obtain⟨v,hv⟩:=heo;exact⟨v,by rw[hbe];exact hv⟩
  ·refine(ok b u q).stay (fun c v hc r=>k c v ?_ r) (fun c r=>by rw[zh (nown c b r)];exact r) fun c xs r=>by rw[zh (ntup c xs r)];exact r
   rcases hc with rfl|hc
   ·exact hbe
   ·rintro rfl;rcases he with z|z
    ·exact nown c b hc z
    ·rw[hc]at z;cases z;exact hb rfl
end
structure Un(fs ex:List Addr)(H H':Hp)(h h':Heap):Prop where
 keep:∀b o,h.get? b=some o->H b=none->b∉fs->b∉ex->h'.get? b=some o
 slot:∀b o,h.get? b=some o->H b=none->b∈fs->b∉ex-> ∃sl,h'.get? b=some {o with slots:=sl}
 free:∀b o,h.get? b=some o->H b=none->b∉ex->H' b=none
 there:∀b o,h.get? b=some o->b∉ex-> ∃o',h'.get? b=some o'
 tups:∀b xs,H b=some (.tup xs)->H' b=some (.tup xs)
 frzs:∀b o u,H b=some (.frz o u)->H' b=some (.frz o u)
 tbls:∀b ps,H b=some (.tbl ps)-> ∃more,H' b=some (.tbl (ps++more))
section
variable{fs fs' ex ex':List Addr}{H H1 H2:Hp}{h h1 h2 h':Heap}{a x e:Addr}{o:HO}
theorem Un.any(u:Un fs ex H H1 h h1){b:Addr}{ob:Obj}(q:h.get? b=some ob)(n:H b=none)(hx:b∉ex):∃sl,h1.get? b=some {ob with slots:=sl}:=by
 by_cases hb:b∈fs
 ·exact u.slot b ob q n hb hx
 ·exact⟨ob.slots,u.keep b ob q n hb hx⟩
theorem Un.trans(a:Un fs ex H H1 h h1)(b:Un fs ex H1 H2 h1 h2):Un fs ex H H2 h h2 where
 keep:=fun c ob q n hc hx=>b.keep c ob (a.keep c ob q n hc hx) (a.free c ob q n hx) hc hx
 slot:=fun c ob q n hc hx=>by
  obtain⟨sl,e1⟩:=a.slot c ob q n hc hx;obtain⟨sl',e2⟩:=b.slot c _ e1 (a.free c ob q n hx) hc hx;exact⟨sl',e2⟩
 free:=fun c ob q n hx=>by
  obtain⟨o',e1⟩:=a.there c ob q hx;exact b.free c o' e1 (a.free c ob q n hx) hx
 there:=fun c ob q hx=>by
  obtain⟨o',e1⟩:=a.there c ob q hx;exact b.there c o' e1 hx
 tups:=fun c xs q=>b.tups c xs (a.tups c xs q)
 frzs:=fun c ob xs q=>b.frzs c ob xs (a.frzs c ob xs q)
 tbls:=fun c ps q=>by
  obtain⟨m1,e1⟩:=a.tbls c ps q;obtain⟨m2,e2⟩:=b.tbls c _ e1;exact⟨m1++m2,by rw[e2,Array.append_assoc]⟩
theorem Un.kept(k:∀b u,h.get? b=some u->h'.get? b=some u):Un fs ex H H h h' :=
 ⟨fun b ob q _ _ _=>k b ob q,fun b ob q _ _ _=>⟨ob.slots,k b ob q⟩,fun _ _ _ n _=>n,fun b ob q _=>⟨ob,k b ob q⟩,fun _ _ q=>q,fun _ _ _ q=>q,fun _ ps q=>⟨#[],by rw[q];simp⟩⟩
theorem Un.refl:Un fs ex H H h h:=Un.kept fun _ _ q=>q
theorem Un.laid(k:∀b u,h.get? b=some u->h'.get? b=some u)(hp:h.objs.size<=a)(hn:H a=none):Un fs ex H (upd H a o) h h' where
 keep:=fun b u q _ _ _=>k b u q
 slot:=fun b u q _ _ _=>⟨u.slots,k b u q⟩
 free:=fun b u q n _=>by rw[zh (ne_of_lt (lt_of_lt_of_le (Heap.lt_size q) hp))];exact n
 there:=fun b u q _=>⟨u,k b u q⟩
 tups:=fun b xs q=>by rw[zh (zj q hn)];exact q
 frzs:=fun b u xs q=>by rw[zh (zj q hn)];exact q
 tbls:=fun b ps q=>⟨#[],by rw[zh (zj q hn),q];simp⟩
theorem Un.write(mu:Mut (H x))(he:e=x\/H e=some (.own x))(k:∀b u,b≠e->h.get? b=some u->h'.get? b=some u)(heo:∃u,h'.get? e=some u):Un fs ex H (upd H x o) h h':=by
 have hx:∀b,H b=none->b≠x:=fun b n z=>by subst z;rw[n]at mu;exact mu
 have hb:∀b,H b=none->b≠e:=fun b n z=>by
  subst z;rcases he with r|r
  ·exact hx b n r
  ·rw[n]at r;cases r
 have hm:∀b u,H b=some u-> ¬Mut (some u)->b≠x:=fun b u q nm z=>by subst z;rw[q]at mu;exact nm mu
 refine⟨fun b u q n _ _=>k b u (hb b n) q,fun b u q n _ _=>⟨u.slots,k b u (hb b n) q⟩,fun b u q n _=>by rw[zh (hx b n)];exact n,fun b u q _=>?_,
  fun b xs q=>by rw[zh (hm b _ q fun z=>z)];exact q,fun b u xs q=>by rw[zh (hm b _ q fun z=>z)];exact q,fun b ps q=>⟨#[],by rw[zh (hm b _ q fun z=>z),q];simp⟩⟩
 by_cases hbe:b=e
 ·subst hbe;exact heo
 ·exact⟨u,k b u hbe q⟩
end
def trk(h:Heap)(H:Hp):List Addr:=(List.range h.objs.size).filter fun a=>(H a).isSome
def hidT(h:Heap)(H:Hp):Heap:=W.hideAll h (trk h H)
theorem iX(h:Heap)(H:Hp):(hidT h H).objs.size=h.objs.size:=W.hideAll_size _ _
theorem oG{h:Heap}{H:Hp}{b:Addr}{o:Obj}(e:h.get? b=some o)(n:H b=none):(hidT h H).get? b=some o :=
 W.hideAll_get _ e fun hm=>by
  have q:(H b).isSome=true:=(mem_filter.mp hm).2;rw[n]at q;simp at q
theorem ZW{h:Heap}{H:Hp}{b:Addr}{o:Obj}(e:(hidT h H).get? b=some o):h.get? b=some o/\H b=none:=by
 have e':h.get? b=some o:=W.of_hideAll (trk h H) e;refine⟨e',?_⟩;cases q:H b with
 |none=>rfl
 |some x =>
  have hm:b∈trk h H:=mem_filter.mpr ⟨mem_range.mpr (Heap.lt_size e'),by simp[q]⟩;have z:(hidT h H).get? b=none:=W.hideAll_none (trk h H) hm;rw[z]at e;cases e
def ZC(g h:Heap)(L:Addr):List (Addr×Obj):=(List.range h.objs.size).filterMap fun a=>if a=L\/(g.get? a).isSome=true then none else(h.get? a).map fun o=>(a,o)
def rest(g h:Heap)(L d:Addr):List (Addr×Obj):=(ZC g h L).filter fun p=>decide (p.1≠d)
structure Mod(K:W.Frag)(mg:Str->Option Value)(base:Heap):Prop where
 kin:K.In base
 glob:base.Ns mainGlobals mg
 blt:∃mb,base.Ns builtinsNs mb/\ ∀x:Str,x≠"__name__"->mb x=bootBuiltins x
 nolimit:base.NoLimit
structure Cx where
 prog:Program
 w:World
 K:W.Frag
 mg:Str->Option Value
 base:Heap
 A:Around
 N:List Str
 s₀:Shared
 H₀:Hp
 env:Env
 outer:List Env
 stack:List Env
 ex:List Addr
 fn:Str->Bool
 calm:Bool
 pn:List (Addr×Obj)
 xe:Value->Shared->Prop
def frs(l:List Env):List Addr:=l.filterMap (·.frame)
abbrev Cx.fs(X:Cx):List Addr:=frs X.outer
def Vis(sc:Scope)(x:Str):Prop:=sc.names.lookup x=some .local\/sc.names.lookup x=some .cell\/sc.names.lookup x=some .free
def Loc(sc:Scope)(x:Str):Prop:=sc.names.lookup x=some .local\/sc.names.lookup x=some .cell
def Look(env:Env)(h:Heap)(m:Str->Option Value)(x:Str)(u:Value):Prop :=
 (env.kindOf x=some .local/\m x=some u)\/((env.kindOf x=some .cell\/env.kindOf x=some .free)/\ ∃c,env.cells.lookup x=some c/\h.IsCell c (some u))
structure Cx.Ok(X:Cx):Prop where
 mod:Mod X.K X.mg X.base
 kind:X.env.scope.kind= .function
 glob:X.env.globals=mainGlobals
 blt:X.env.builtins=builtinsNs
 above:X.s₀.heap.objs.size<=X.env.locals
 inj:∀x y c,X.env.cells.lookup x=some c->X.env.cells.lookup y=some c->x=y
 has:∀x,(X.env.kindOf x=some .cell\/X.env.kindOf x=some .free)-> ∃c,X.env.cells.lookup x=some c
 cab:∀x c,X.fn x=true->X.env.cells.lookup x=some c->X.s₀.heap.objs.size<=c
 hd:X.calm=true->X.A.handled=none
 frames:X.A.frames=some X.stack
 stk:X.stack=X.outer\/(X.stack=X.env::X.outer/\X.env.frame=some X.env.locals)
 exf:∀b∈X.ex,b≠X.env.locals/\ ∀x c,X.env.cells.lookup x=some c->c≠b
 bs:∀b o,X.base.get? b=some o->X.s₀.heap.get? b=some o/\X.H₀ b=none
 bsz:X.base.objs.size<=X.s₀.heap.objs.size
 noex:∀b o,X.base.get? b=some o->b∉X.ex
 exfs:∀b∈X.ex,b∉X.fs
 funs:X.s₀.heap.FunFrames X.base X.outer
 frf:∀b∈X.fs,X.H₀ b=none
structure Inv(X:Cx)(pins:List (Addr×Obj))(σ:List (Option V))(H:Hp)(s:Shared):Prop where
 ok:X.Ok
 os:s.os=X.s₀.os
 bare:AllBare s.gens
 base:Un X.fs X.ex X.H₀ H X.s₀.heap s.heap
 loc:∃m,s.heap.Ns X.env.locals m/\ ∀(i:Nat)(x:Str)(v:V),X.N[i]? =some x-> σ[i]? =some (some v)->Vis X.env.scope x-> ∃u,RelV v u/\Look X.env s.heap m x u
 cell:∀x c,X.env.cells.lookup x=some c-> ∃v,s.heap.IsCell c v
 free:H X.env.locals=none
 freeC:∀x c,X.env.cells.lookup x=some c->H c=none
 pin:∀p∈X.pn++pins,s.heap.get? p.1=some p.2/\H p.1=none/\p.1≠X.env.locals/\p.1∉X.fs/\ ∀v,p.2.data≠ .cell v
 hok:HOk X.prog X.w H s.heap
 len:σ.length=X.N.length
section
variable{X:Cx}{pins:List (Addr×Obj)}{σ:List (Option V)}{H H':Hp}{s:Shared}{h':Heap}
theorem Cx.Ok.nofr(ok:X.Ok){b:Addr}{o:Obj}(e:X.base.get? b=some o):b∉X.fs:=fun hb=>by
 have:=(ok.funs.mem hb).1;rw[e]at this;cases this
theorem Inv.bs(I:Inv X pins σ H s):∀b o,X.base.get? b=some o->s.heap.get? b=some o/\H b=none:=fun b o e =>
 ⟨I.base.keep b o (I.ok.bs b o e).1 (I.ok.bs b o e).2 (I.ok.nofr e) (I.ok.noex b o e),I.base.free b o (I.ok.bs b o e).1 (I.ok.bs b o e).2 (I.ok.noex b o e)⟩
theorem Inv.bk(I:Inv X pins σ H s):∀b o,X.base.get? b=some o->s.heap.get? b=some o:=fun b o e=>(I.bs b o e).1
theorem Inv.mod(I:Inv X pins σ H s):Mod X.K X.mg X.base:=I.ok.mod
theorem Inv.kIn(I:Inv X pins σ H s):X.K.In s.heap:=I.ok.mod.kin.keeps I.bk
theorem Inv.lt(I:Inv X pins σ H s):X.env.locals<s.heap.objs.size:=let⟨_,hn,_⟩:=I.loc;hn.lt
theorem Inv.sz(I:Inv X pins σ H s):X.s₀.heap.objs.size<=s.heap.objs.size:=le_trans I.ok.above (Nat.le_of_lt I.lt)
theorem Inv.nofs(I:Inv X pins σ H s){a:Addr}(h:s.heap.objs.size<=a):a∉X.fs:=fun hb=>by
 obtain⟨_,o,ho,_⟩:=I.ok.funs.mem hb;exact absurd (lt_of_lt_of_le (Heap.lt_size ho) (le_trans I.sz h)) (lt_irrefl _)
theorem Inv.cne(I:Inv X pins σ H s):∀x c,X.env.cells.lookup x=some c->c≠X.env.locals:=fun x c e z=>by
 obtain⟨v,o,ho,hd⟩:=I.cell x c e;obtain⟨m,⟨o',es,ep,ho',hd',_⟩,_⟩:=I.loc;rw[z,ho']at ho;cases ho;rw[hd']at hd;cases hd
theorem Inv.funs(I:Inv X pins σ H s):s.heap.FunFrames X.base X.outer:=by
 have all:∀(l:List Env),(∀b∈frs l,b∈X.fs)->X.s₀.heap.FunFrames X.base l->s.heap.FunFrames X.base l:=by
  intro l
  induction l with
  |nil=>intro _ _;trivial
  |cons env r ih =>
   intro hs hl;obtain⟨hk,⟨L,o,hf,hn,ho,hd⟩,hr⟩:=hl;have hL:L∈X.fs:=hs L (by unfold frs;rw[filterMap_cons,hf];exact mem_cons_self);obtain⟨sl,e⟩:=I.base.slot L o ho (I.ok.frf L hL) hL fun z=>I.ok.exfs L z hL;exact⟨hk,⟨L,_,hf,hn,e,hd⟩,ih (fun b hb=>hs b (by unfold frs;rw[filterMap_cons,hf];exact mem_cons_of_mem _ hb)) hr⟩
 exact all X.outer (fun _ hb=>hb) I.ok.funs
theorem Inv.stack(I:Inv X pins σ H s):s.heap.FunFrames X.base X.stack:=by
 rcases I.ok.stk with e|⟨e,hf⟩
 ·rw[e];exact I.funs
 ·rw[e];obtain⟨m,hn,_⟩:=I.loc;refine .cons (by rw[I.ok.kind];decide) hf hn ?_ I.funs;exact Heap.get?_none_of_le (le_trans I.ok.bsz I.ok.above)
theorem Inv.stkSub(I:Inv X pins σ H s):∀b∈frs X.stack,b∈X.env.locals::X.fs:=fun b hb=>by
 rcases I.ok.stk with e|⟨e,hf⟩
 ·rw[e]at hb;exact mem_cons_of_mem _ hb
 ·rw[e]at hb;unfold frs at hb;rw[filterMap_cons,hf]at hb;exact hb
theorem Inv.stkFree(I:Inv X pins σ H s):∀b∈frs X.stack,H b=none:=fun b hb=>by
 rcases mem_cons.mp (I.stkSub b hb)with e|hb
 ·rw[e];exact I.free
 ·obtain⟨_,o,ho,_⟩:=I.ok.funs.mem hb;exact I.base.free b o ho (I.ok.frf b hb) fun z=>I.ok.exfs b z hb
theorem Inv.step{g':Array GenState}{t':Nat}{d':Drawn}{ch:List Addr}(I:Inv X pins σ H s)(hch:∀b∈ch,(b∈X.ex\/X.s₀.heap.objs.size<=b)/\b≠X.env.locals/\(∀x c,X.env.cells.lookup x=some c->c≠b)/\ ∀p∈X.pn++pins,p.1≠b)(keep:∀b o,b≠X.env.locals->b∉X.fs->b∉ch->s.heap.get? b=some o->H b=none->h'.get? b=some o)(slot:∀b o,b≠X.env.locals->b∈X.fs->b∉ch->s.heap.get? b=some o->H b=none-> ∃sl,h'.get? b=some {o with slots:=sl})(free:∀b o,b∉ch->s.heap.get? b=some o->H b=none->H' b=none)(there:∀b o,b∉ch->s.heap.get? b=some o-> ∃o',h'.get? b=some o')(tups:∀b xs,H b=some (.tup xs)->H' b=some (.tup xs))(frzs:∀b o u,H b=some (.frz o u)->H' b=some (.frz o u))(tbls:∀b ps,H b=some (.tbl ps)-> ∃more,H' b=some (.tbl (ps++more)))(ns:∀m,s.heap.Ns X.env.locals m->h'.Ns X.env.locals m)(hok:HOk X.prog X.w H' h')(hg:AllBare g') :
  Inv X pins σ H' {s with heap:=h',gens:=g',drawn:=d',toks:=t'}:=by
 have neL:∀b o,X.s₀.heap.get? b=some o->b≠X.env.locals:=fun b o e=>ne_of_lt (lt_of_lt_of_le (Heap.lt_size e) I.ok.above);have neC:∀b o,X.s₀.heap.get? b=some o->b∉X.ex->b∉ch:=fun b o e hx hb=>by
  rcases(hch b hb).1 with z|z
  ·exact hx z
  ·exact absurd (lt_of_lt_of_le (Heap.lt_size e) z) (lt_irrefl _)
 have cellK:∀x c,X.env.cells.lookup x=some c-> ∀v,s.heap.IsCell c v->h'.IsCell c v:=fun x c e v ⟨o,ho,hd⟩=>by
  have nch:c∉ch:=fun z=>(hch c z).2.2.1 x c e rfl;by_cases hc:c∈X.fs
  ·obtain⟨sl,q⟩:=slot c o (I.cne x c e) hc nch ho (I.freeC x c e);exact⟨_,q,hd⟩
  ·exact⟨o,keep c o (I.cne x c e) hc nch ho (I.freeC x c e),hd⟩
 refine⟨I.ok,I.os,hg,⟨fun b o e n hb hx=>?_,fun b o e n hb hx=>?_,fun b o e n hx=>?_,fun b o e hx=>?_,fun b xs e=>tups b xs (I.base.tups b xs e),fun b o xs e=>frzs b o xs (I.base.frzs b o xs e),fun b ps e=>?_⟩,?_,fun x c e=>?_,?_,fun x c e=>?_,fun p hp=>?_,hok,I.len⟩
 ·exact keep b o (neL b o e) hb (neC b o e hx) (I.base.keep b o e n hb hx) (I.base.free b o e n hx)
 ·obtain⟨sl,e1⟩:=I.base.slot b o e n hb hx;obtain⟨sl',e2⟩:=slot b _ (neL b o e) hb (neC b o e hx) e1 (I.base.free b o e n hx);exact⟨sl',e2⟩
 ·obtain⟨o',e1⟩:=I.base.there b o e hx;exact free b o' (neC b o e hx) e1 (I.base.free b o e n hx)
 ·obtain⟨o',e1⟩:=I.base.there b o e hx;exact there b o' (neC b o e hx) e1
 ·obtain⟨m1,e1⟩:=I.base.tbls b ps e;obtain⟨m2,e2⟩:=tbls b _ e1;exact⟨m1++m2,by rw[e2,Array.append_assoc]⟩
 ·obtain⟨m,hn,hl⟩:=I.loc;refine⟨m,ns m hn,fun i x v e1 e2 e3=>?_⟩;obtain⟨u,r,l⟩:=hl i x v e1 e2 e3;refine⟨u,r,?_⟩;rcases l with l|⟨k,c,e,z⟩
  ·exact .inl l
  ·exact .inr ⟨k,c,e,cellK x c e _ z⟩
 ·obtain⟨v,z⟩:=I.cell x c e;exact⟨v,cellK x c e v z⟩
 ·obtain⟨m,⟨o,_,_,ho,_⟩,_⟩:=I.loc;exact free _ o (fun z=>(hch _ z).2.1 rfl) ho I.free
 ·obtain⟨v,o,ho,hd⟩:=I.cell x c e;exact free c o (fun z=>(hch c z).2.2.1 x c e rfl) ho (I.freeC x c e)
 ·obtain⟨e,n,ne,nf,d⟩:=I.pin p hp;have nch:p.1∉ch:=fun z=>(hch p.1 z).2.2.2 p hp rfl;exact⟨keep p.1 p.2 ne nf nch e n,free p.1 p.2 nch e n,ne,nf,d⟩
theorem Inv.un{t':Nat}(I:Inv X pins σ H s)(u:Un X.fs [] H H' s.heap h')(hok:HOk X.prog X.w H' h'):Inv X pins σ H' {s with heap:=h',toks:=t'}:=by
 obtain⟨m,⟨o,es,ep,ho,r⟩,_⟩:=id I.loc;obtain⟨sl,hL⟩:=u.any ho I.free (by simp);exact I.step (g':=s.gens) (d':=s.drawn) (ch:=[]) (fun _ z=>nomatch z) (fun b o _ hb _ e n=>u.keep b o e n hb (by simp)) (fun b o _ hb _ e n=>u.slot b o e n hb (by simp)) (fun b o _ e n=>u.free b o e n (by simp)) (fun b o _ e=>u.there b o e (by simp)) u.tups u.frzs u.tbls (fun m' hm=>by
  obtain⟨o',es',ep',ho',r'⟩:=hm;rw[ho]at ho';cases ho';exact⟨_,es',ep',hL,r'⟩) hok I.bare
theorem Inv.call{g':Array GenState}{t':Nat}{d':Drawn}{ch:List Addr}(I:Inv X pins σ H s)(u:Un (frs X.stack) ch H H' s.heap h')(hok:HOk X.prog X.w H' h')(hg:AllBare g')(hch:∀b∈ch,(b∈X.ex\/X.s₀.heap.objs.size<=b)/\b≠X.env.locals/\(∀x c,X.env.cells.lookup x=some c->c≠b)/\ ∀p∈X.pn++pins,p.1≠b) :
  Inv X pins σ H' {s with heap:=h',gens:=g',drawn:=d',toks:=t'}:=by
 obtain⟨m,⟨o,es,ep,ho,r⟩,_⟩:=id I.loc;obtain⟨sl,hL⟩:=u.any ho I.free fun z=>(hch _ z).2.1 rfl;exact I.step (ch:=ch) hch (fun b o hL hb hc e n=>u.keep b o e n (fun z=>(mem_cons.mp (I.stkSub b z)).elim hL hb) hc) (fun b o _ _ hc e n=>u.any e n hc) (fun b o hc e n=>u.free b o e n hc) (fun b o hc e=>u.there b o e hc) u.tups u.frzs u.tbls (fun m' hm=>by
  obtain⟨o',es',ep',ho',r'⟩:=hm;rw[ho]at ho';cases ho';exact⟨_,es',ep',hL,r'⟩) hok hg
theorem Inv.turned{t':Nat}{it:Addr}(I:Inv X pins σ H s)(k:∀b o,b≠it->s.heap.get? b=some o->h'.get? b=some o)(hn:H it=none)(hL:it≠X.env.locals)(h1:it∈X.ex\/X.s₀.heap.objs.size<=it)(h2:∀x c,X.env.cells.lookup x=some c->c≠it)(h3:∀p∈X.pn++pins,p.1≠it):Inv X pins σ H {s with heap:=h',toks:=t'}:=by
 have nit:∀b u,H b=some u->b≠it:=fun b u e z=>by rw[z,hn]at e;cases e
 refine I.step (g':=s.gens) (d':=s.drawn) (ch:=[it]) (fun b hb=>?_) (fun b o _ _ hc e _=>k b o (fun z=>hc (by simp[z])) e) (fun b o _ _ hc e _=>⟨o.slots,k b o (fun z=>hc (by simp[z])) e⟩) (fun _ _ _ _ n=>n)
  (fun b o hc e=>⟨o,k b o (fun z=>hc (by simp[z])) e⟩) (fun _ _ e=>e) (fun _ _ _ e=>e) (fun b ps e=>⟨#[],by rw[e];simp⟩) (fun m hm=>?_) (fun b u e=>?_) I.bare
 ·have e:b=it:=by simpa using hb
  subst e;exact⟨h1,hL,h2,h3⟩
 ·obtain⟨o,es,ep,ho,r⟩:=hm;exact⟨o,es,ep,k _ o (Ne.symm hL) ho,r⟩
 ·refine(I.hok b u e).stay (fun c v hc q=>k c v ?_ q) (fun _ q=>q) fun _ _ q=>q;rcases hc with z|z
  ·rw[z];exact nit b u e
  ·exact nit c _ z
theorem Inv.tok(I:Inv X pins σ H s)(t:Nat):Inv X pins σ H {s with toks:=t}:=I.un (h':=s.heap) (t':=t) Un.refl I.hok
theorem Inv.kept{t':Nat}(I:Inv X pins σ H s)(k:∀b u,s.heap.get? b=some u->h'.get? b=some u):Inv X pins σ H {s with heap:=h',toks:=t'}:=I.un (Un.kept k) (I.hok.kept k)
theorem Inv.laid{a:Addr}{o:HO}{t':Nat}(I:Inv X pins σ H s)(k:∀b u,s.heap.get? b=some u->h'.get? b=some u)(hp:s.heap.objs.size<=a)(new:zS X.prog X.w (upd H a o) h' a o) :
  Inv X pins σ (upd H a o) {s with heap:=h',toks:=t'}:=I.un (Un.laid k hp (I.hok.fresh hp)) (I.hok.laid k hp new)
theorem Inv.write{x e:Addr}{o:HO}{t':Nat}(I:Inv X pins σ H s)(mu:Mut (H x))(he:e=x\/H e=some (.own x))(k:∀b u,b≠e->s.heap.get? b=some u->h'.get? b=some u)(heo:∃u,h'.get? e=some u)(new:zS X.prog X.w (upd H x o) h' x o):Inv X pins σ (upd H x o) {s with heap:=h',toks:=t'}:=I.un (Un.write mu he k heo) (I.hok.write mu he k heo new)
theorem Inv.pins_of{pins':List (Addr×Obj)}(I:Inv X pins σ H s)(h:∀p∈pins',s.heap.get? p.1=some p.2/\H p.1=none/\p.1≠X.env.locals/\p.1∉X.fs/\ ∀v,p.2.data≠ .cell v):Inv X pins' σ H s :=
 ⟨I.ok,I.os,I.bare,I.base,I.loc,I.cell,I.free,I.freeC,fun p hp=>(mem_append.mp hp).elim (fun z=>I.pin p (List.mem_append_left _ z)) (h p),I.hok,I.len⟩
theorem tS{N:List Str}(hN:N.Nodup){i j:Nat}{x:Str}(a:N[i]? =some x)(b:N[j]? =some x):i=j:=by
 obtain⟨h1,e1⟩:=List.getElem?_eq_some_iff.mp a;obtain⟨h2,e2⟩:=List.getElem?_eq_some_iff.mp b;exact(List.getElem_inj hN).mp (e1.trans e2.symm)
theorem ba{M:Model}{A:Around}{E:Value->Shared->Prop}{i:Nat}{x:Str}{v:V}{u:Value}{Q:Unit->Shared->Prop}(I:Inv X pins σ H s)(hN:X.N.Nodup)(hi:X.N[i]? =some x)(hx:Loc X.env.scope x)(r:RelV v u)(h:∀s',Inv X pins (σ.set i (some v)) H s'->(∃a,Heap.SameBut a s.heap s'.heap/\(a=X.env.locals\/X.env.cells.lookup x=some a))->Q () s')(hf:X.fn x=true\/X.env.scope.names.lookup x=some .local:=by first|exact .inl rfl|exact .inr rfl|assumption):wpAny M A (storeName X.env x u) Q E s:=by
 obtain⟨m,hn,hl⟩:=id I.loc;have hcls:(X.env.scope.kind== .class||(X.env.scope.kind== .module&&X.env.locals !=X.env.globals))=false:=by rw[I.ok.kind];rfl
 have hiσ:i< σ.length:=by rw[I.len];exact(List.getElem?_eq_some_iff.mp hi).1
 have cne:=I.cne;have tracked:∀{a:Addr}{h':Heap},(∃o,s.heap.get? a=some o/\H a=none)->Heap.SameBut a s.heap h'->HOk X.prog X.w H h':=fun{a h'} ha hs b ob e=>by
  obtain⟨_,_,hfree⟩:=ha;refine(I.hok b ob e).stay (fun c w' hc q=>(hs.2 c ?_).trans q) (fun _ q=>q) fun _ _ q=>q;rintro rfl;rcases hc with rfl|hc
  ·rw[hfree]at e;cases e
  ·rw[hfree]at hc;cases hc
 rcases hx with hk|hk
 ·refine wpAny_storeName_local hk hn (fun h' hn' hs=>?_) hcls;obtain⟨oL,_,_,hoL,_⟩:=id hn;refine h _ ⟨I.ok,I.os,I.bare,⟨fun b o e n hb hx=>?_,fun b o e n hb hx=>?_,I.base.free,fun b o e hx=>?_,I.base.tups,I.base.frzs,I.base.tbls⟩,⟨_,hn',fun j y v' e1 e2 e3=>?_⟩,fun y c e=>?_,I.free,I.freeC,fun p hp=>?_,tracked ⟨oL,hoL,I.free⟩ hs,by simpa using I.len⟩ ⟨_,hs,.inl rfl⟩
  ·exact(hs.2 b (ne_of_lt (lt_of_lt_of_le (Heap.lt_size e) I.ok.above))).trans (I.base.keep b o e n hb hx)
  ·obtain⟨sl,e1⟩:=I.base.slot b o e n hb hx;exact⟨sl,(hs.2 b (ne_of_lt (lt_of_lt_of_le (Heap.lt_size e) I.ok.above))).trans e1⟩
  ·obtain⟨o',e1⟩:=I.base.there b o e hx;exact⟨o',(hs.2 b (ne_of_lt (lt_of_lt_of_le (Heap.lt_size e) I.ok.above))).trans e1⟩
  ·by_cases hj:j=i
   ·subst hj;rw[hi]at e1;cases e1;rw[List.getElem?_set_self hiσ]at e2;cases e2;exact⟨u,r,.inl ⟨hk,by simp⟩⟩
   ·rw[List.getElem?_set_ne (Ne.symm hj)]at e2;obtain⟨u',r',q⟩:=hl j y v' e1 e2 e3;refine⟨u',r',?_⟩;rcases q with⟨k,e⟩|⟨k,c,e,z⟩
    ·refine .inl ⟨k,?_⟩;have:y≠x:=fun e=>hj (tS hN e1 (e▸hi));simp[this,e]
    ·exact .inr ⟨k,c,e,z.sameBut hs (cne y c e)⟩
  ·obtain⟨w',z⟩:=I.cell y c e;exact⟨w',z.sameBut hs (cne y c e)⟩
  ·obtain⟨e,n,ne,nf,d⟩:=I.pin p hp;exact⟨(hs.2 p.1 ne).trans e,n,ne,nf,d⟩
 ·have hfn:X.fn x=true:=by
   rcases hf with z|z
   ·exact z
   ·rw[z]at hk;cases hk
  obtain⟨c,hc⟩:=I.ok.has x (.inl hk);obtain⟨w',z⟩:=I.cell x c hc;refine wpAny_storeName_cell I.ok.kind hk hc z (fun h' hc' hs=>?_);obtain⟨oc,hoc,hocd⟩:=id z;refine h {s with heap:=h'} ⟨I.ok,I.os,I.bare,⟨fun b o e n hb hx=>?_,fun b o e n hb hx=>?_,I.base.free,fun b o e hx=>?_,I.base.tups,I.base.frzs,I.base.tbls⟩,⟨m,hn.sameBut hs (Ne.symm (cne x c hc)),fun j y v' e1 e2 e3=>?_⟩,fun y c' e=>?_,I.free,I.freeC,fun p hp=>?_,tracked ⟨oc,hoc,I.freeC x c hc⟩ hs,by simpa using I.len⟩ ⟨c,hs,.inr hc⟩
  ·exact(hs.2 b (ne_of_lt (lt_of_lt_of_le (Heap.lt_size e) (I.ok.cab x c hfn hc)))).trans (I.base.keep b o e n hb hx)
  ·obtain⟨sl,e1⟩:=I.base.slot b o e n hb hx;exact⟨sl,(hs.2 b (ne_of_lt (lt_of_lt_of_le (Heap.lt_size e) (I.ok.cab x c hfn hc)))).trans e1⟩
  ·obtain⟨o',e1⟩:=I.base.there b o e hx;exact⟨o',(hs.2 b (ne_of_lt (lt_of_lt_of_le (Heap.lt_size e) (I.ok.cab x c hfn hc)))).trans e1⟩
  ·by_cases hj:j=i
   ·subst hj;rw[hi]at e1;cases e1;rw[List.getElem?_set_self hiσ]at e2;cases e2;exact⟨u,r,.inr ⟨.inl hk,c,hc,hc'⟩⟩
   ·rw[List.getElem?_set_ne (Ne.symm hj)]at e2;obtain⟨u',r',q⟩:=hl j y v' e1 e2 e3;refine⟨u',r',?_⟩;rcases q with q|⟨k,c',e,z'⟩
    ·exact .inl q
    ·refine .inr ⟨k,c',e,z'.sameBut hs ?_⟩;rintro rfl;exact hj (tS hN e1 (I.ok.inj _ _ _ e hc▸hi))
  ·by_cases hcc:c'=c
   ·subst hcc;exact⟨_,hc'⟩
   ·obtain⟨w2,z2⟩:=I.cell y c' e;exact⟨w2,z2.sameBut hs hcc⟩
  ·obtain⟨e,n,ne,nf,d⟩:=I.pin p hp;refine⟨(hs.2 p.1 ?_).trans e,n,ne,nf,d⟩;intro q;rw[q,hoc]at e;have q':oc=p.2:=Option.some.inj e;exact d w' (by rw[<-q'];exact hocd)
theorem wb{M:Model}{A:Around}{E:Value->Shared->Prop}{i:Nat}{x:Str}{v:V}{u:Value}{Q:Unit->Shared->Prop}(I:Inv X pins σ H s)(hN:X.N.Nodup)(hi:X.N[i]? =some x)(hx:Loc X.env.scope x)(r:RelV v u)(h:∀s',Inv X pins (σ.set i (some v)) H s'->Q () s')(hf:X.fn x=true\/X.env.scope.names.lookup x=some .local:=by first|exact .inl rfl|exact .inr rfl|assumption):wpAny M A (storeName X.env x u) Q E s :=
 ba I hN hi hx r (fun s' I' _=>h s' I') hf
theorem Inv.call'{s':Shared}{ch:List Addr}(I:Inv X pins σ H s)(ho:s'.os=s.os)(u:Un (frs X.stack) ch H H' s.heap s'.heap)(hok:HOk X.prog X.w H' s'.heap)(hg:AllBare s'.gens)(hch:∀b∈ch,(b∈X.ex\/X.s₀.heap.objs.size<=b)/\b≠X.env.locals/\(∀x c,X.env.cells.lookup x=some c->c≠b)/\ ∀p∈X.pn++pins,p.1≠b):Inv X pins σ H' s':=by
 obtain⟨h',g',d',t',o'⟩:=s';have e:o'=s.os:=ho;subst e;exact I.call (g':=g') (t':=t') (d':=d') u hok hg hch
end
abbrev XK:=Value->Option Addr->Hp->Prop
abbrev St:=List (Option V)
abbrev VK:=V->Hp->Prop
abbrev TE:=St->Hp->VK->Prop
abbrev TT:=St->Hp->(Bool->Hp->Prop)->Prop
abbrev TA:=St->Hp->(List V->Hp->Prop)->Prop
structure Ends where
 nx:St->Hp->Prop
 rt:VK
 bk:St->Hp->Prop:=fun _ _=>False
 ct:St->Hp->Prop:=fun _ _=>False
abbrev TS:=Ends->St->Hp->Prop
def EP(X:Cx)(pins:List (Addr×Obj))(σ:St)(Q:VK)(u:Value)(s':Shared):Prop:=∃ v H',Inv X pins σ H' s'/\RelV v u/\Q v H'
def TP(X:Cx)(pins:List (Addr×Obj))(σ:St)(Q:Bool->Hp->Prop)(b:Bool)(s':Shared):Prop:=∃ H',Inv X pins σ H' s'/\Q b H'
def AP(X:Cx)(pins:List (Addr×Obj))(σ:St)(Q:List V->Hp->Prop)(us:List Value)(s':Shared):Prop:=∃ vs H',Inv X pins σ H' s'/\Vals vs us/\Q vs H'
def SP(X:Cx)(pins:List (Addr×Obj))(D:Ends)(f:Flow)(s':Shared):Prop :=
 match f with
 | .next=>∃ σ' H',Inv X pins σ' H' s'/\D.nx σ' H'
 | .brk=>∃ σ' H',Inv X pins σ' H' s'/\D.bk σ' H'
 | .cont=>∃ σ' H',Inv X pins σ' H' s'/\D.ct σ' H'
 | .ret u=>∃ v σ' H',Inv X pins σ' H' s'/\RelV v u/\D.rt v H'
def PE(X:Cx)(e:Expr)(t:TE):Prop :=
 ∀(pins:List (Addr×Obj))(s:Shared)(σ:St)(H:Hp)(Q:VK),Inv X pins σ H s->t σ H Q->wpAny (model X.prog X.w) X.A (eval e X.env) (EP X pins σ Q) X.xe s
def PT(X:Cx)(e:Expr)(t:TT):Prop :=
 ∀(pins:List (Addr×Obj))(s:Shared)(σ:St)(H:Hp)(Q:Bool->Hp->Prop),Inv X pins σ H s->t σ H Q->wpAny (model X.prog X.w) X.A (isTrue e X.env (eval e X.env)) (TP X pins σ Q) X.xe s
def PW(X:Cx)(e:Expr)(t:TT):Prop :=
 ∀(whole:Sem Value)(pins:List (Addr×Obj))(s:Shared)(σ:St)(H:Hp)(Q:Bool->Hp->Prop),Inv X pins σ H s->t σ H Q->wpAny (model X.prog X.w) X.A (isTrue e X.env whole) (TP X pins σ Q) X.xe s
theorem PW.pt{X:Cx}{e:Expr}{t:TT}(h:PW X e t):PT X e t:=h _
def PA(X:Cx)(es:List Expr)(t:TA):Prop :=
 ∀(pos:Pos)(pins:List (Addr×Obj))(s:Shared)(σ:St)(H:Hp)(Q:List V->Hp->Prop),Inv X pins σ H s->t σ H Q->wpAny (model X.prog X.w) X.A (spliced (backTo pos (starEach es X.env))) (AP X pins σ Q) X.xe s
def PS(X:Cx)(st:Stmt)(t:TS):Prop :=
 ∀(pins:List (Addr×Obj))(s:Shared)(σ:St)(H:Hp)(D:Ends),Inv X pins σ H s->t D σ H->wpAny (model X.prog X.w) X.A (exec st X.env) (SP X pins D) X.xe s
def PSs(X:Cx)(st:List Stmt)(t:TS):Prop :=
 ∀(pins:List (Addr×Obj))(s:Shared)(σ:St)(H:Hp)(D:Ends),Inv X pins σ H s->t D σ H->wpAny (model X.prog X.w) X.A (execs st X.env) (SP X pins D) X.xe s
theorem thn{α:Type}{t:Sem α}{Q Q':α->Shared->Prop}{M:Model}{A:Around}{E:Value->Shared->Prop}{s:Shared}(h:wpAny M A t Q E s)(hQ:∀a s,Q a s->Q' a s):wpAny M A t Q' E s:=wpAny_mono h hQ fun _ _ x=>x
section
variable{X:Cx}
def tVar(i:Nat):TE:=fun σ H Q=>∃ v,σ[i]? =some (some v)/\Q v H
def tC(v:V):TE:=fun _ H Q=>Q v H
theorem nr{i:Nat}{x:Str}{pos:Pos}(hN:X.N[i]? =some x)(hv:Vis X.env.scope x)(hd:(x==("__debug__" : Str))=false:=by decide)(hcd:(x==("__classdict__" : Str))=false:=by decide):PE X (.Name x pos) (tVar i):=by
 intro pins s σ H Q I h;obtain⟨v,e,h⟩:=h;obtain⟨m,hn,hl⟩:=I.loc;obtain⟨u,r,l⟩:=hl i x v hN e hv;have fin:EP X pins σ Q u s:=⟨v,H,I,r,h⟩;rcases l with⟨hk,hm⟩|⟨hk,c,hc,hcell⟩
 ·exact wpAny_Name (wpAny_loadName_local I.ok.kind hk hn hm fin) hd
 ·rcases hk with hk|hk
  ·exact wpAny_Name (wpAny_loadName_cell I.ok.kind hk hc hcell fin) hd
  ·exact wpAny_Name (wpAny_loadName_free I.ok.kind hk hc hcell fin hcd) hd
theorem zc{i j pos}:PE X (.Constant (.int i) j pos) (tC (.int i)):=fun _ _ _ H _ I h=>wpAny_Constant_int ⟨.int i,H,I.tok _,⟨_,rfl⟩,h⟩
theorem aB{b j pos}:PE X (.Constant (.bool b) j pos) (tC (.bl b)):=fun _ _ _ H _ I h=>Constant_bool ⟨.bl b,H,I,rfl,h⟩
theorem rj{j pos}:PE X (.Constant .none j pos) (tC .non):=fun _ _ _ H _ I h=>Constant_none ⟨.non,H,I,rfl,h⟩
theorem zC{x j pos}:PE X (.Constant (.str x) j pos) (tC (.str x)):=fun _ _ _ H _ I h=>Calls.Constant_str ⟨.str x,H,I.tok _,⟨_,rfl⟩,h⟩
def Gl(X:Cx)(x:Str):Prop:=X.env.kindOf x=some .globalImplicit
theorem vq{E:Value->Shared->Prop}{pins:List (Addr×Obj)}{s:Shared}{σ:St}{H:Hp}{x:Str}{u:Value}{pos:Pos}{Q:Value->Shared->Prop}(I:Inv X pins σ H s)(hg:Gl X x)(hm:X.mg x=some u)(h:Q u s)(hd:(x==("__debug__" : Str))=false:=by decide):wpAny (model X.prog X.w) X.A (eval (.Name x pos) X.env) Q E s :=
 Calls.Name_function_global I.ok.kind hg (Calls.loadGlobal_global (by rw[I.ok.glob];exact I.mod.glob.keeps I.bk) hm h) hd
theorem wj{E:Value->Shared->Prop}{pins:List (Addr×Obj)}{s:Shared}{σ:St}{H:Hp}{x:Str}{u:Value}{pos:Pos}{Q:Value->Shared->Prop}(I:Inv X pins σ H s)(hg:Gl X x)(hm:X.mg x=none)(hv:bootBuiltins x=some u)(h:Q u s)(hn:x≠"__name__" :=by decide)(hd:(x==("__debug__" : Str))=false:=by decide):wpAny (model X.prog X.w) X.A (eval (.Name x pos) X.env) Q E s:=by
 obtain⟨mb,h1,h2⟩:=I.mod.blt;exact Calls.Name_function_global I.ok.kind hg (Calls.loadGlobal_builtin (by rw[I.ok.glob];exact I.mod.glob.keeps I.bk) hm (by rw[I.ok.blt];exact h1.keeps I.bk) ((h2 x hn).trans hv) h) hd
theorem yx{x:Str}{v:V}{u:Value}{pos:Pos}(hg:Gl X x)(hm:X.mg x=some u)(r:RelV v u)(hd:(x==("__debug__" : Str))=false:=by decide):PE X (.Name x pos) (tC v) :=
 fun _ _ _ H _ I h=>vq I hg hm ⟨v,H,I,r,h⟩ hd
theorem nj{x:Str}{v:V}{u:Value}{pos:Pos}(hg:Gl X x)(hm:X.mg x=none)(hv:bootBuiltins x=some u)(r:RelV v u)(hn:x≠"__name__" :=by decide)(hd:(x==("__debug__" : Str))=false:=by decide):PE X (.Name x pos) (tC v) :=
 fun _ _ _ H _ I h=>wj I hg hm hv ⟨v,H,I,r,h⟩ hn hd
variable{a b:Expr}{ta tb:TE}{pos:Pos}
def tB(t:TE):TT:=fun σ H Q=>t σ H fun x H1=>∃ c,x= .bl c/\Q c H1
variable{tA tB':TT}{rest:List Expr}
def tAnd(t u:TT):TT:=fun σ H Q=>t σ H fun c H1=>if c=true then u σ H1 Q else Q false H1
def tOr(t u:TT):TT:=fun σ H Q=>t σ H fun c H1=>if c=true then Q true H1 else u σ H1 Q
def tNot(t:TT):TT:=fun σ H Q=>t σ H fun c H1=>Q (!c) H1
theorem vG(ha:PT X a tA):PW X (.BoolOp .And [a] pos) tA:=by
 intro wh pins s σ H Q I h;refine isTrue_and (thn (ha pins s σ H Q I h) fun c s1 e=>?_);cases c with
 |true=>exact isTrue_and_nil e
 |false=>exact e
theorem gP(ha:PT X a tA):PW X (.BoolOp .Or [a] pos) tA:=by
 intro wh pins s σ H Q I h;refine isTrue_or (thn (ha pins s σ H Q I h) fun c s1 e=>?_);cases c with
 |false=>exact isTrue_or_nil e
 |true=>exact e
theorem gO(ha:PT X a tA)(hb:PW X (.BoolOp .And (b::rest) pos) tB'):PW X (.BoolOp .And (a::b::rest) pos) (tAnd tA tB'):=by
 intro wh pins s σ H Q I h;refine isTrue_and (thn (ha pins s σ H _ I h) fun c s1 ⟨H1,I1,q1⟩=>?_);cases c with
 |true=>exact hb wh pins s1 σ H1 Q I1 q1
 |false=>exact⟨H1,I1,q1⟩
theorem cE(ha:PT X a tA)(hb:PW X (.BoolOp .Or (b::rest) pos) tB'):PW X (.BoolOp .Or (a::b::rest) pos) (tOr tA tB'):=by
 intro wh pins s σ H Q I h;refine isTrue_or (thn (ha pins s σ H _ I h) fun c s1 ⟨H1,I1,q1⟩=>?_);cases c with
 |true=>exact⟨H1,I1,q1⟩
 |false=>exact hb wh pins s1 σ H1 Q I1 q1
theorem gM(ha:PT X a tA):PT X (.UnaryOp .Not a pos) (tNot tA):=by
 intro pins s σ H Q I h;exact isTrue_not (ha pins s σ H (fun c H1=>Q (!c) H1) I h)
def Ju(ta tb:TE):TE:=fun σ H Q=>ta σ H fun x H1=>∃ c,x= .bl c/\if c=true then tb σ H1 Q else Q (.bl false) H1
theorem Kf{op}{t:TE}(h:PE X a t):PE X (.BoolOp op [a] pos) t:=fun pins s σ H Q I hw=>BoolOp_one (h pins s σ H Q I hw)
theorem Ke(ha:PE X a ta)(hb:PE X (.BoolOp .And (b::rest) pos) tb):PE X (.BoolOp .And (a::b::rest) pos) (Ju ta tb):=by
 intro pins s σ H Q I h;refine BoolOp_and (thn (ha pins s σ H _ I h) fun v s1 ⟨x,H1,I1,r1,q1⟩=>?_);obtain⟨c,rfl,q1⟩:=q1;cases r1;refine wpAny_truthy_bool ?_;cases c with
 |true=>exact hb pins s1 σ H1 Q I1 q1
 |false=>exact⟨.bl false,H1,I1,rfl,q1⟩
def tIf(t:TT)(ta tb:TE):TE:=fun σ H Q=>t σ H fun c H1=>if c=true then ta σ H1 Q else tb σ H1 Q
theorem eP{c:Expr}(hc:PT X c tA)(ha:PE X a ta)(hb:PE X b tb):PE X (.IfExp c a b pos) (tIf tA ta tb):=by
 intro pins s σ H Q I h;refine wpAny_IfExp (thn (hc pins s σ H _ I h) fun d s1 ⟨H1,I1,q1⟩=>?_);cases d with
 |true=>exact ha pins s1 σ H1 Q I1 q1
 |false=>exact hb pins s1 σ H1 Q I1 q1
end
def SqL(K:W.Frag)(H:Hp)(a:Addr)(xs:List V):Prop :=
 Rd H a (.lst xs)\/
  ∃(o:Obj)(its:Array Value)(n:Nat),K.lookup a=some o/\o.cls= .type "list"/\o.dict=none/\o.data= .seq its n/\its.size<=sizeLine/\Vals xs its.toList
def SqT(K:W.Frag)(H:Hp)(a:Addr)(xs:List V):Prop :=
 Rd H a (.tup xs)\/
  ∃(o:Obj)(its:Array Value)(n:Nat),K.lookup a=some o/\o.cls= .type "tuple"/\o.data= .seq its n/\its.size<=sizeLine/\Vals xs its.toList
def absV:Value->Option V
 | .none=>some .non
 | .bool b=>some (.bl b)
 | .int i _=>some (.int i)
 | .str x _=>some (.str x)
 | .bytes b _=>some (.byt b)
 | .float b _=>some (.flt b)
 | .ref a=>some (.ref a)
 | .type n=>some (.ty n)
 | _=>none
theorem RelV.abs{x:V}{u:Value}(r:RelV x u):absV u=some x:=by
 cases x with
 |non=>cases r;rfl
 |bl _=>cases r;rfl
 |int _=>obtain⟨t,rfl⟩:=r;rfl
 |str _=>obtain⟨t,rfl⟩:=r;rfl
 |byt _=>obtain⟨t,rfl⟩:=r;rfl
 |flt _=>obtain⟨t,rfl⟩:=r;rfl
 |ref _=>cases r;rfl
 |ty _=>cases r;rfl
theorem RelV.inj{x y:V}{u:Value}(r:RelV x u)(q:RelV y u):x=y:=Option.some.inj (r.abs.symm.trans q.abs)
theorem Vals.inj:∀{xs ys:List V}{us:List Value},Vals xs us->Vals ys us->xs=ys
 | _,_,_,.nil,.nil=>rfl
 | _,_,_,.cons r t,.cons r' t'=>by rw[r.inj r',Vals.inj t t']
section
variable{X:Cx}{pins:List (Addr×Obj)}{σ:St}{H:Hp}{s:Shared}{a:Addr}{xs ys:List V}
theorem SqL.of{K:W.Frag}(h:H a=some (.lst xs)):SqL K H a xs:=.inl (.inl h)
theorem SqT.of{K:W.Frag}(h:H a=some (.tup xs)):SqT K H a xs:=.inl (.inl h)
theorem Inv.list(I:Inv X pins σ H s)(h:SqL X.K H a xs):∃its:List Value,Vals xs its/\PlainL s.heap a its.toArray/\xs.length<=sizeLine:=by
 rcases h with h|⟨o,its,n,hk,hc,hd,hs,hz,r⟩
 ·obtain⟨z,its,n,r,e⟩:=h.ok I.hok;exact⟨its,r,⟨_,n,e,rfl,rfl,rfl⟩,z⟩
 ·refine⟨its.toList,r,⟨o,n,I.kIn a o hk,hc,hd,by simpa using hs⟩,?_⟩;have e:=r.length;simp only[Array.length_toList]at e;omega
theorem Inv.tuple(I:Inv X pins σ H s)(h:SqT X.K H a xs):∃its:List Value,Vals xs its/\IsTup s.heap a its.toArray/\xs.length<=sizeLine:=by
 rcases h with h|⟨o,its,n,hk,hc,hs,hz,r⟩
 ·obtain⟨z,its,r,p,_⟩:=h.ok I.hok;exact⟨its,r,p,z⟩
 ·refine⟨its.toList,r,⟨o,I.kIn a o hk,hc,n,by simpa using hs⟩,?_⟩;have e:=r.length;simp only[Array.length_toList]at e;omega
theorem Inv.list_inj(I:Inv X pins σ H s)(h:SqL X.K H a xs)(h':SqL X.K H a ys):xs=ys:=by
 obtain⟨its,r,⟨o,n,e,_,_,d⟩,_⟩:=I.list h;obtain⟨its',r',⟨o',n',e',_,_,d'⟩,_⟩:=I.list h';rw[e]at e';cases e';rw[d]at d';injection d' with d1 _
 have:its=its':=by simpa using congrArg Array.toList d1
 subst this;exact r.inj r'
theorem Inv.tuple_inj(I:Inv X pins σ H s)(h:SqT X.K H a xs)(h':SqT X.K H a ys):xs=ys:=by
 obtain⟨its,r,⟨o,e,_,n,d⟩,_⟩:=I.tuple h;obtain⟨its',r',⟨o',e',_,n',d'⟩,_⟩:=I.tuple h';rw[e]at e';cases e';rw[d]at d';injection d' with d1 _
 have:its=its':=by simpa using congrArg Array.toList d1
 subst this;exact r.inj r'
end
abbrev Cx.wish(X:Cx)(E:Value->Shared->Prop):Cx:={X with xe:=E}
abbrev Cx.nox(X:Cx):Cx:=X.wish fun _ _=>False
theorem Cx.Ok.wish{X:Cx}(ok:X.Ok)(E:Value->Shared->Prop):(X.wish E).Ok :=
 ⟨ok.mod,ok.kind,ok.glob,ok.blt,ok.above,ok.inj,ok.has,ok.cab,ok.hd,ok.frames,ok.stk,ok.exf,ok.bs,ok.bsz,ok.noex,ok.exfs,ok.funs,ok.frf⟩
theorem Cx.Ok.unwish{X:Cx}{E:Value->Shared->Prop}(ok:(X.wish E).Ok):X.Ok :=
 ⟨ok.mod,ok.kind,ok.glob,ok.blt,ok.above,ok.inj,ok.has,ok.cab,ok.hd,ok.frames,ok.stk,ok.exf,ok.bs,ok.bsz,ok.noex,ok.exfs,ok.funs,ok.frf⟩
section
variable{X:Cx}{pins:List (Addr×Obj)}{σ:St}{H:Hp}{s:Shared}{E:Value->Shared->Prop}
theorem Inv.wish(I:Inv X pins σ H s)(E:Value->Shared->Prop):Inv (X.wish E) pins σ H s:=⟨I.ok.wish E,I.os,I.bare,I.base,I.loc,I.cell,I.free,I.freeC,I.pin,I.hok,I.len⟩
theorem Inv.unwish(I:Inv (X.wish E) pins σ H s):Inv X pins σ H s:=⟨I.ok.unwish,I.os,I.bare,I.base,I.loc,I.cell,I.free,I.freeC,I.pin,I.hok,I.len⟩
theorem SP.unwish{D:Ends}{f:Flow}{s':Shared}(h:SP (X.wish E) pins D f s'):SP X pins D f s':=by
 cases f with
 |next=>obtain⟨σ',H',I,q⟩:=h;exact⟨σ',H',I.unwish,q⟩
 |brk=>obtain⟨σ',H',I,q⟩:=h;exact⟨σ',H',I.unwish,q⟩
 |cont=>obtain⟨σ',H',I,q⟩:=h;exact⟨σ',H',I.unwish,q⟩
 |ret u=>obtain⟨v,σ',H',I,r,q⟩:=h;exact⟨v,σ',H',I.unwish,r,q⟩
theorem PSs.nox{st:List Stmt}{t:TS}(h:PSs X.nox st t):PSs X st t:=fun pins s σ H D I hw =>
 wpAny_mono (h pins s σ H D (I.wish _) hw) (fun _ _ q=>q.unwish) fun _ _ z=>False.elim z
end
section
variable{X:Cx}{st:Stmt}{rest:List Stmt}{t u:TS}{e:Expr}{te:TE}{pos:Pos}
def bc:TS:=fun D σ H=>D.nx σ H
def tSeq(t u:TS):TS:=fun D σ H=>t {D with nx:=u D} σ H
theorem zq:PSs X [] bc:=fun _ _ σ H _ I h=>wpAny_execs_nil ⟨σ,H,I,h⟩
theorem z8(h1:PS X st t)(h2:PSs X rest u):PSs X (st::rest) (tSeq t u):=by
 intro pins s σ H D I h;refine wpAny_execs_cons (thn (h1 pins s σ H {D with nx:=u D} I h) fun f s1 q=>?_);cases f with
 |next =>
  obtain⟨σ',H',I',q⟩:=q;exact h2 pins s1 σ' H' D I' q
 |ret v=>exact q
 |brk=>exact q
 |cont=>exact q
theorem z9(h1:PS X st t):PSs X [st] t:=by
 intro pins s σ H D I h;refine wpAny_execs_cons (thn (h1 pins s σ H D I h) fun f s1 q=>?_);cases f with
 |next=>exact wpAny_execs_nil q
 |ret v=>exact q
 |brk=>exact q
 |cont=>exact q
theorem Inv.quiet{pins:List (Addr×Obj)}{σ:St}{H:Hp}{s:Shared}(I:Inv X pins σ H s):interactive X.env=false:=by simp[interactive,I.ok.kind]
def Jx(te:TE):TS:=fun D σ H=>te σ H fun _ H1=>D.nx σ H1
theorem zM(he:PE X e te)(hs:swapsWith e none pos.line X.env=pure false:=by rfl):PS X (.Expr e pos) (Jx te):=by
 intro pins s σ H D I h;exact wpAny_Expr_any (thn (he pins s σ H _ I h) fun v s1 ⟨x,H1,I1,r1,q1⟩=>⟨σ,H1,I1,q1⟩) I.quiet hs
def tRet(te:TE):TS:=fun D σ H=>te σ H D.rt
theorem zo(he:PE X e te):PS X (.Return (some e) pos) (tRet te):=by
 intro pins s σ H D I h;exact wpAny_Return_some (thn (he pins s σ H _ I h) fun v s1 ⟨x,H1,I1,r1,q1⟩=>⟨x,σ,H1,I1,r1,q1⟩)
def tIfS(c:TT)(t u:TS):TS:=fun D σ H=>c σ H fun b H1=>if b=true then t D σ H1 else u D σ H1
theorem zG{c:Expr}{a b:List Stmt}{tc:TT}(hc:PT X c tc)(ha:PSs X a t)(hb:PSs X b u):PS X (.If c a b pos) (tIfS tc t u):=by
 intro pins s σ H D I h;refine wpAny_If (thn (hc pins s σ H _ I h) fun d s1 ⟨H1,I1,q1⟩=>?_);cases d with
 |true=>exact ha pins s1 σ H1 D I1 q1
 |false=>exact hb pins s1 σ H1 D I1 q1
def Kw:TS:=fun _ _ _=>False
theorem qc:PS X st Kw:=fun _ _ _ _ _ _ h=>h.elim
end
abbrev TG:=V->St->Hp->(St->Hp->Prop)->Prop
abbrev TGs:=List V->St->Hp->(St->Hp->Prop)->Prop
def PG(X:Cx)(target:Expr)(t:TG):Prop :=
 ∀(pins:List (Addr×Obj))(s:Shared)(σ:St)(H:Hp)(v:V)(u:Value)(Q:St->Hp->Prop),Inv X pins σ H s->RelV v u->t v σ H Q->
  wpAny (model X.prog X.w) X.A (assign target X.env u) (fun _ s'=>∃ σ' H',Inv X pins σ' H' s'/\Q σ' H') X.xe s
def PGs(X:Cx)(ts:List Expr)(t:TGs):Prop :=
 ∀(pins:List (Addr×Obj))(s:Shared)(σ:St)(H:Hp)(vs:List V)(us:List Value)(Q:St->Hp->Prop),Inv X pins σ H s->Vals vs us->t vs σ H Q->
  wpAny (model X.prog X.w) X.A (assignInOrder ((assignEach ts X.env).map (·.2)) us) (fun _ s'=>∃ σ' H',Inv X pins σ' H' s'/\Q σ' H') X.xe s
abbrev TSet:=V->V->V->Hp->(Hp->Prop)->Prop
def PSet(X:Cx)(t:TSet):Prop :=
 ∀(pins:List (Addr×Obj))(s:Shared)(σ:St)(H:Hp)(o i v:V)(ov iv u:Value)(Q:Hp->Prop),Inv X pins σ H s->RelV o ov->RelV i iv->RelV v u->t o i v H Q->
  wpAny (model X.prog X.w) X.A (setItem ov iv u) (fun _ s'=>∃ H',Inv X pins σ H' s'/\Q H') X.xe s
abbrev TIp:=V->V->Hp->VK->Prop
def PIp(X:Cx)(op:Operator)(t:TIp):Prop :=
 ∀(pins:List (Addr×Obj))(s:Shared)(σ:St)(H:Hp)(x y:V)(v u:Value)(Q:VK),Inv X pins σ H s->RelV x v->RelV y u->t x y H Q->
  wpAny (model X.prog X.w) X.A (inplaceOp op v u) (EP X pins σ Q) X.xe s
section
variable{X:Cx}{pos:Pos}
def kc(i:Nat):TG:=fun v σ H Q=>Q (σ.set i (some v)) H
theorem aD{i:Nat}{x:Str}(hN:X.N.Nodup)(hi:X.N[i]? =some x)(hx:Loc X.env.scope x)(hf:X.fn x=true\/X.env.scope.names.lookup x=some .local:=by first|exact .inl rfl|exact .inr rfl|assumption):PG X (.Name x pos) (kc i):=by
 intro pins s σ H v u Q I r h;exact wpAny_assign_Name (wb I hN hi hx r (fun s' I'=>⟨_,H,I',h⟩) hf)
def gNil:TGs:=fun vs σ H Q=>vs=[]/\Q σ H
def ZK(t:TG)(u:TGs):TGs:=fun vs σ H Q=>∃ v r,vs=v::r/\t v σ H fun σ' H'=>u r σ' H' Q
theorem vF:PGs X [] gNil:=by
 intro pins s σ H vs us Q I r h;obtain⟨e,h⟩:=h;subst e;cases r;exact assignInOrder_nil ⟨σ,H,I,h⟩
theorem yR{e:Expr}{es:List Expr}{t:TG}{u:TGs}(h1:PG X e t)(h2:PGs X es u)(hs:(assignEach (e::es) X.env).map (·.2)=assign e X.env::(assignEach es X.env).map (·.2):=by rfl):PGs X (e::es) (ZK t u):=by
 intro pins s σ H vs us Q I r h;obtain⟨v,vr,e1,h⟩:=h;subst e1;cases r with
 |cons r rr =>
  rw[hs];refine assignInOrder_cons (thn (h1 pins s σ H _ _ _ I r h) fun _ s1 ⟨σ1,H1,I1,q1⟩=>?_);exact h2 pins s1 σ1 H1 _ _ Q I1 rr q1
def gTup(K:W.Frag)(n:Nat)(t:TGs):TG:=fun v σ H Q=>∃ a xs,v= .ref a/\SqT K H a xs/\xs.length=n/\t xs σ H Q
theorem eS{es:List Expr}{k:Nat}{t:TGs}{n:Nat}(hc:X.calm=true)(h:PGs X es t)(hn:(assignEach es X.env).length=n:=by rfl)(hst:(assignEach es X.env).findIdx? (·.1)=none:=by rfl):PG X (.Tuple es k pos) (gTup X.K n t):=by
 intro pins s σ H v u Q I r hw;obtain⟨a,xs,e1,hq,hl,hw⟩:=hw;subst e1;cases r;obtain⟨its,rv,ht,hz⟩:=I.tuple hq;refine assign_Tuple_tuple (I.ok.hd hc) ht (by simp[hn,<-hl,rv.length]) hst fun h' hx=>?_;have I1:Inv X pins σ H {s with heap:=h'}:=I.kept (t':=s.toks) fun b o e=>hx b o (ne_of_lt (Heap.lt_size e)) e;exact h pins _ σ H xs _ Q I1 (by simpa using rv) hw
def gSub(to ti:TE)(t:TSet):TG:=fun v σ H Q=>to σ H fun o H1=>ti σ H1 fun i H2=>t o i v H2 fun H3=>Q σ H3
theorem Zt{o i:Expr}{to ti:TE}{t:TSet}(ho:PE X o to)(hi:PE X i ti)(hs:PSet X t)(ha:∀v,assign (.Subscript o i pos) X.env v=(do
   let ov <-holding [v] (eval o X.env)
   let iv <-holding [v,ov] (eval i X.env)
   standAt pos
   holding [v,ov,iv] (setItem ov iv v)
   release [v,ov,iv] []):=by intro _;rfl):PG X (.Subscript o i pos) (gSub to ti t):=by
 intro pins s σ H v u Q I r h;rw[ha];refine wpAny_bind (wpAny_holding (thn (ho pins s σ H _ I h) fun ov s1 ⟨x,H1,I1,r1,q1⟩=>?_));refine wpAny_bind (wpAny_holding (thn (hi pins s1 σ H1 _ I1 q1) fun iv s2 ⟨y,H2,I2,r2,q2⟩=>?_));refine wpAny_bind (wpAny_standAt (wpAny_bind (wpAny_holding (thn (hs pins s2 σ H2 x y v ov iv u _ I2 r1 r2 r q2) fun _ s3 ⟨H3,I3,q3⟩=>?_))));exact wpAny_release ⟨σ,H3,I3,q3⟩
def tAsg(te:TE)(g:TG):TS:=fun D σ H=>te σ H fun x H1=>g x σ H1 D.nx
theorem nA{tg e:Expr}{te:TE}{g:TG}(he:PE X e te)(hg:PG X tg g)(hs:swapsWithSole [tg] e pos.line X.env=pure false:=by rfl)(hw:swappedStores [tg] e X.env=pure none:=by rfl)(h1:(assignEach [tg] X.env).map (·.2)=[assign tg X.env]:=by rfl):PS X (.Assign [tg] e pos) (tAsg te g):=by
 intro pins s σ H D I h;refine wpAny_Assign_stores (thn (he pins s σ H _ I h) fun v s1 ⟨x,H1,I1,r1,q1⟩=>?_) hs hw;rw[h1];exact thn (hg pins s1 σ H1 x v _ I1 r1 q1) fun _ s2 q=>q
theorem Ki{i:Nat}{x:Str}{e:Expr}{te:TE}{pos':Pos}(hN:X.N.Nodup)(hi:X.N[i]? =some x)(hx:Loc X.env.scope x)(he:PE X e te)(hs:swapsWith e (some (.Name x pos')) pos.line X.env=pure false:=by rfl)(hf:X.fn x=true\/X.env.scope.names.lookup x=some .local:=by first|exact .inl rfl|exact .inr rfl|assumption) :
  PS X (.Assign [.Name x pos'] e pos) (tAsg te (kc i)):=by
 intro pins s σ H D I h;refine wpAny_Assign_Name (thn (he pins s σ H _ I h) fun v s1 ⟨y,H1,I1,r1,q1⟩=>?_) hs;exact wb I1 hN hi hx r1 (fun s2 I2=>⟨_,H1,I2,q1⟩) hf
def tPar(i j:Nat)(ta:TA):TS:=fun D σ H=>ta σ H fun vs H1=>∃ v w,vs=[v,w]/\D.nx ((σ.set i (some v)).set j (some w)) H1
theorem nE{i j:Nat}{x y:Str}{a b:Expr}{ta:TA}{px py pt:Pos}{kt k2 pt2}(hc:X.calm=true)(hN:X.N.Nodup)(hi:X.N[i]? =some x)(hj:X.N[j]? =some y)(hij:i≠j)(hx:X.env.scope.names.lookup x=some .local)(hy:X.env.scope.names.lookup y=some .local)(ha:PA X [a,b] ta)(hw:swappedStores [.Tuple [.Name x px,.Name y py] kt pt] (.Tuple [a,b] k2 pt2) X.env=pure (some [x,y]))(hs:swapsWithSole [.Tuple [.Name x px,.Name y py] kt pt] (.Tuple [a,b] k2 pt2) pos.line X.env=pure false:=by rfl) :
  PS X (.Assign [.Tuple [.Name x px,.Name y py] kt pt] (.Tuple [a,b] k2 pt2) pos) (tPar i j ta):=by
 intro pins s σ H D I h;rw[exec_Assign_arm];refine wpAny_bind (wpAny_standAt ?_);rw[hs];refine wpAny_bind (wpAny_pure ?_);rw[if_neg (by decide)];refine wpAny_bind (Tuple_ (thn (ha _ pins s σ H _ I h) fun us s1 ⟨vs,H1,I1,r1,q1⟩=>?_));obtain⟨v,w,e1,q1⟩:=q1;subst e1;obtain⟨u1,u2,rfl,rv,rw'⟩:∃u1 u2,us=[u1,u2]/\RelV v u1/\RelV w u2:=by
  cases r1 with
  |cons p q =>
   cases q with
   |cons p' q' =>
    cases q';exact⟨_,_,rfl,p,p'⟩
 refine wpAny_newObj_type ?_ (by show 2<=sizeLine;decide);have I2:Inv X pins σ H1 {s1 with heap:=s1.heap.push {cls:=.type "tuple",data:=.seq [u1,u2].toArray}}:=I1.kept (t':=s1.toks) fun b o e=>Heap.get?_push_of_some _ e;rw[hw];refine wpAny_bind (wpAny_pure ?_);show wpAny (model X.prog X.w) X.A (do rule "assign.swapped-stores";let items <-unpackItems (.ref s1.heap.objs.size) 2 none;assignInOrder [fun v=>bindName X.env y v,fun v=>bindName X.env x v] items.reverse;pure Flow.next) _ _ _;refine wpAny_bind (wpAny_rule (wpAny_bind (unpackItems_tuple (items:=#[u1,u2]) (I.ok.hd hc) (IsTup.new s1.heap _) fun h' hx'=>?_)));have I3:=I2.kept (h':=h') (t':=s1.toks) fun b o e=>hx' b o (ne_of_lt (Heap.lt_size e)) e;show wpAny _ _ (assignInOrder [fun v=>bindName X.env y v,fun v=>bindName X.env x v] [u2,u1] >>= fun _=>pure Flow.next) _ _ _;refine wpAny_bind (assignInOrder_cons (wpAny_bindName (wb I3 hN hj (.inl hy) rw' (fun s2 I4=>?_) (.inr hy))));refine assignInOrder_cons (wpAny_bindName (wb I4 hN hi (.inl hx) rv (fun s3 I5=>assignInOrder_nil (wpAny_pure ?_)) (.inr hx)));rw[List.set_comm _ _ (Ne.symm hij)]at I5;exact⟨_,H1,I5,q1⟩
def tAug(i:Nat)(te:TE)(ti:TIp):TS:=fun D σ H=>∃ x,σ[i]? =some (some x)/\te σ H fun y H1=>ti x y H1 fun z H2=>D.nx (σ.set i (some z)) H2
theorem rq{i:Nat}{x:Str}{e:Expr}{te:TE}{op:Operator}{ti:TIp}{pos':Pos}(hN:X.N.Nodup)(hi:X.N[i]? =some x)(hx:Loc X.env.scope x)(he:PE X e te)(ho:PIp X op ti)(hf:X.fn x=true\/X.env.scope.names.lookup x=some .local:=by first|exact .inl rfl|exact .inr rfl|assumption) :
  PS X (.AugAssign (.Name x pos') op e pos) (tAug i te ti):=by
 intro pins s σ H D I h;obtain⟨v,e1,h⟩:=h;obtain⟨m,hn,hl⟩:=I.loc;have vis:Vis X.env.scope x:=by rcases hx with k|k;exact .inl k;exact .inr (.inl k)
 obtain⟨u,r,l⟩:=hl i x v hi e1 vis;refine wpAny_AugAssign_Name ?_;have go:wpAny (model X.prog X.w) X.A (eval e X.env) (fun w s₂=>wpAny (model X.prog X.w) X.A (inplaceOp op u w) (fun r s₃=>wpAny (model X.prog X.w) X.A (storeName X.env x r) (fun _=>SP X pins D .next) X.xe s₃) X.xe s₂) X.xe s:=by
  refine thn (he pins s σ H _ I h) fun w s1 ⟨y,H1,I1,r1,q1⟩=>?_;refine thn (ho pins s1 σ H1 v y u w _ I1 r r1 q1) fun z s2 ⟨zv,H2,I2,r2,q2⟩=>?_;exact wb I2 hN hi hx r2 (fun s3 I3=>⟨_,H2,I3,q2⟩) hf
 rcases l with⟨hk,hm⟩|⟨hk,c,hc,hcell⟩
 ·exact wpAny_loadName_local I.ok.kind hk hn hm go
 ·rcases hk with hk|hk
  ·exact wpAny_loadName_cell I.ok.kind hk hc hcell go
  ·rcases hx with k|k
   ·have:X.env.scope.names.lookup x=some .free:=hk;rw[k]at this;cases this
   ·have:X.env.scope.names.lookup x=some .free:=hk;rw[k]at this;cases this
def Jv(to ti te:TE)(tget:V->V->Hp->VK->Prop)(tip:TIp)(tset:TSet):TS:=fun D σ H=>to σ H fun o H1=>ti σ H1 fun i H2=>tget o i H2 fun x H3=>te σ H3 fun y H4=>tip x y H4 fun z H5=>tset o i z H5 fun H6=>D.nx σ H6
def PGet(X:Cx)(t:V->V->Hp->VK->Prop):Prop :=
 ∀(pins:List (Addr×Obj))(s:Shared)(σ:St)(H:Hp)(o i:V)(ov iv:Value)(Q:VK),Inv X pins σ H s->RelV o ov->RelV i iv->t o i H Q->
  wpAny (model X.prog X.w) X.A (getItem ov iv) (EP X pins σ Q) X.xe s
theorem nB{o i e:Expr}{to ti te:TE}{tget:V->V->Hp->VK->Prop}{tip:TIp}{tset:TSet}{op:Operator}{tpos:Pos}(ho:PE X o to)(hi:PE X i ti)(hg:PGet X tget)(he:PE X e te)(hp:PIp X op tip)(hs:PSet X tset)(ha:∀ov iv new,augStore i ov iv new=(do holding [new,ov,iv] (setItem ov iv new);release [new,ov,iv] [];pure .next):=by intros;rfl):PS X (.AugAssign (.Subscript o i tpos) op e pos) (Jv to ti te tget tip tset):=by
 intro pins s σ H D I h;refine wpAny_AugAssign_SubscriptAny (thn (ho pins s σ H _ I h) fun ov s1 ⟨x1,H1,I1,r1,q1⟩=>?_) ha;refine thn (hi pins s1 σ H1 _ I1 q1) fun iv s2 ⟨x2,H2,I2,r2,q2⟩=>?_;refine thn (hg pins s2 σ H2 x1 x2 ov iv _ I2 r1 r2 q2) fun old s3 ⟨x3,H3,I3,r3,q3⟩=>?_;refine thn (he pins s3 σ H3 _ I3 q3) fun v s4 ⟨x4,H4,I4,r4,q4⟩=>?_;refine thn (hp pins s4 σ H4 x3 x4 old v _ I4 r3 r4 q4) fun new s5 ⟨x5,H5,I5,r5,q5⟩=>?_;exact thn (hs pins s5 σ H5 x1 x2 x5 ov iv new _ I5 r1 r2 r5 q5) fun _ s6 ⟨H6,I6,q6⟩=>⟨σ,H6,I6,q6⟩
def ipI(f:Int->Int->Int):TIp:=fun x y H Q=>∃ i j,x= .int i/\y= .int j/\Q (.int (f i j)) H
theorem qy:PIp X .Add (ipI fun i j=>i+j):=by
 intro pins s σ H x y v u Q I r1 r2 h;obtain⟨i,j,e1,e2,q⟩:=h;subst e1;subst e2;obtain⟨t,rfl⟩:=r1;obtain⟨t',rfl⟩:=r2;exact iadd_int ⟨.int _,H,I.tok _,⟨_,rfl⟩,q⟩
end
section
variable{X:Cx}{pos:Pos}
def KK(c:TT)(tb:TS):TS:=fun D σ H=>∃ W0:Nat->St->Hp->Prop,(∃m,W0 m σ H)/\ ∀m σ H,W0 m σ H->
 c σ H fun b H1=>if b=true then ∃N:St->Hp->Prop,(∀ σ' H',N σ' H'-> ∃m',m'<m/\W0 m' σ' H')/\tb {D with nx:=N,ct:=N,bk:=D.nx} σ H1 else D.nx σ H1
theorem ma{c:Expr}{body:List Stmt}{tc:TT}{tb:TS}(hp:PassesOwn (model X.prog X.w) X.A X.env X.xe)(hc:PT X c tc)(hb:PSs X body tb):PS X (.While c body [] pos) (KK tc tb):=by
 intro pins s σ H D I h;obtain⟨W0,⟨m0,w0⟩,turn⟩:=h;refine wpAny_While (codeAny_whileLoop (fun n s'=>∃ σ' H',Inv X pins σ' H' s'/\W0 n σ' H') ?_ m0 ⟨σ,H,I,w0⟩);rintro n s1 ⟨σ1,H1,I1,w1⟩;refine wpAny_passesOwn hp (thn (hc pins s1 σ1 H1 _ I1 (turn n σ1 H1 w1)) fun b s2 ⟨H2,I2,q2⟩=>?_);cases b with
 |true =>
  obtain⟨N,hN,q2⟩:=q2;rw[if_pos rfl];refine wpAny_passesOwn hp (thn (hb pins s2 σ1 H2 _ I2 q2) fun f s3 q3=>?_);cases f with
  |next =>
   obtain⟨σ3,H3,I3,n3⟩:=q3;obtain⟨m',hm,w3⟩:=hN σ3 H3 n3;exact⟨m',hm,σ3,H3,I3,w3⟩
  |cont =>
   obtain⟨σ3,H3,I3,n3⟩:=q3;obtain⟨m',hm,w3⟩:=hN σ3 H3 n3;exact⟨m',hm,σ3,H3,I3,w3⟩
  |brk=>exact q3
  |ret v=>exact q3
 |false =>
  rw[if_neg Bool.false_ne_true];exact wpAny_execs_nil ⟨σ1,H2,I2,q2⟩
end
structure It where
 go:Nat->Hp->Prop
 yld:Nat->Hp->V->Hp->Prop
 stop:Nat->Hp->Prop
def FpOk(X:Cx)(pins:List (Addr×Obj))(H:Hp)(b:Addr):Prop :=
 H b=none/\b≠X.env.locals/\b∉X.fs/\(b∈X.ex\/X.s₀.heap.objs.size<=b)/\(∀x c,X.env.cells.lookup x=some c->c≠b)/\ ∀p∈X.pn++pins,p.1≠b
theorem Inv.fpOk{X:Cx}{pins:List (Addr×Obj)}{σ:St}{H H':Hp}{s:Shared}{b:Addr}(I:Inv X pins σ H s)(hb:s.heap.objs.size<=b)(hn:H' b=none):FpOk X pins H' b:=by
 refine⟨hn,Nat.ne_of_gt (lt_of_lt_of_le I.lt hb),I.nofs hb,.inr (le_trans I.sz hb),fun x c e z=>?_,fun p hp z=>?_⟩
 ·obtain⟨v,q⟩:=I.cell x c e;exact absurd (lt_of_lt_of_le q.lt (by rw[z];exact hb)) (lt_irrefl _)
 ·exact absurd (lt_of_lt_of_le (Heap.lt_size (I.pin p hp).1) (by rw[z];exact hb)) (lt_irrefl _)
structure Turn(P:Program)(w:World)(K:W.Frag)(tg:Expr)(J:It)(fp:List Addr)(it:Addr)(tn:Nat->Heap->Prop):Prop where
 mem:it∈fp
 obj:∀i h,tn i h-> ∀b∈fp,∃o,h.get? b=some o/\ ∀v,o.data≠ .cell v
 keep:∀i h h',tn i h->(∀b∈fp,∀o,h.get? b=some o->h'.get? b=some o)->tn i h'
 item:∀(X:Cx),X.prog=P->X.w=w->X.K=K->X.calm=true-> ∀(i:Nat)(pins:List (Addr×Obj))(s:Shared)(σ:St)(H:Hp)(E:Value->Shared->Prop),Inv X pins σ H s->(∀b∈fp,FpOk X pins H b)->tn i s.heap->J.go i H->
  wpAny (model P w) X.A (pyNext (.ref it)) (fun r s1=>∃ u,r=some u/\
   wpAny (model P w) X.A (letOwnedTupleGo tg (.ref it) u) (fun _ s2=>∃ x H',Inv X pins σ H' s2/\RelV x u/\J.yld i H x H'/\tn (i+1) s2.heap/\ ∀b∈fp,H' b=none) E s1) E s
 done:∀(X:Cx),X.prog=P->X.w=w->X.K=K->X.calm=true-> ∀(i:Nat)(pins:List (Addr×Obj))(s:Shared)(σ:St)(H:Hp)(E:Value->Shared->Prop),Inv X pins σ H s->(∀b∈fp,FpOk X pins H b)->tn i s.heap->J.stop i H->
  wpAny (model P w) X.A (pyNext (.ref it)) (fun r s1=>r=none/\Inv X pins σ H s1) E s
 self:∀(A:Around)(i:Nat)(s:Shared)(Q:Value->Shared->Prop)(E:Value->Shared->Prop),tn i s.heap->Q (.ref it) s->wpAny (model P w) A (pyIter (.ref it)) Q E s
abbrev TI:=St->Hp->(It->Hp->Prop)->Prop
def PIE(X:Cx)(pins:List (Addr×Obj))(σ:St)(tg:Expr)(R:It->Hp->Prop)(itv:Value)(s2:Shared):Prop :=
 ∃(it:Addr)(fp:List Addr)(tn:Nat->Heap->Prop)(J:It)(H':Hp),itv= .ref it/\Inv X pins σ H' s2/\Turn X.prog X.w X.K tg J fp it tn/\tn 0 s2.heap/\(∀b∈fp,FpOk X pins H' b)/\R J H'
def PI(X:Cx)(tg iter:Expr)(wi:TI):Prop :=
 ∀(pins:List (Addr×Obj))(s:Shared)(σ:St)(H:Hp)(R:It->Hp->Prop),Inv X pins σ H s->wi σ H R->
  wpAny (model X.prog X.w) X.A (eval iter X.env) (fun v s1=>wpAny (model X.prog X.w) X.A (pyIter v) (PIE X pins σ tg R) X.xe s1) X.xe s
theorem iW{M:Model}{A:Around}{E:Value->Shared->Prop}{s:Shared}{tg:Expr}{it:Addr}{u:Value}{o:Obj}{n:String}{vs:Array Value}{Q:Unit->Shared->Prop}(ho:s.heap.get? it=some o)(hc:o.cls= .type n)(hd:o.data= .fields vs)(hn:["enumerate","zip","dict_itemiterator","dict_reverseitemiterator","odict_iterator","itertools.zip_longest","itertools.pairwise"].contains n=false)(hQ:Q () s):wpAny M A (letOwnedTupleGo tg (.ref it) u) Q E s:=by
 unfold letOwnedTupleGo;cases tg <;>first
  |exact wpAny_pure hQ
  |(cases u <;>first
    |exact wpAny_pure hQ
    |(refine wpAny_bind (wpAny_load ho ?_)
      rw[hc,hd];show wpAny M A (if(["enumerate","zip","dict_itemiterator","dict_reverseitemiterator","odict_iterator","itertools.zip_longest","itertools.pairwise"].contains n&&vs[0]? ==some (rawInt _))=true then _ else _) Q E s;rw[if_neg (by intro h;rw[hn,Bool.false_and]at h;cases h)];exact wpAny_pure hQ))
def Itl(K:W.Frag)(a:Addr):It :=
 ⟨fun i H=>∃ xs x,SqL K H a xs/\xs[i]? =some x,fun i H x H'=>H'=H/\ ∀xs,SqL K H a xs->xs[i]? =some x,fun i H=>∃ xs,SqL K H a xs/\xs.length<=i⟩
def Itt(K:W.Frag)(a:Addr):It :=
 ⟨fun i H=>∃ xs x,SqT K H a xs/\xs[i]? =some x,fun i H x H'=>H'=H/\ ∀xs,SqT K H a xs->xs[i]? =some x,fun i H=>∃ xs,SqT K H a xs/\xs.length<=i⟩
def Itr(lo:Int)(n:Nat):It:=⟨fun i _=>i<n,fun i H x H'=>H'=H/\x= .int (lo+i),fun i _=>n<=i⟩
theorem o6{P:Program}{w:World}{K:W.Frag}{tg:Expr}(a it:Addr):Turn P w K tg (Itl K a) [it] it (fun i h=>h.IsListIter it a i) where
 mem:=by simp
 obj:=fun i h st b hb=>by
  have e:b=it:=by simpa using hb
  subst e;obtain⟨o,e,c,d⟩:=st;exact⟨o,e,fun v z=>by rw[d]at z;cases z⟩
 keep:=fun i h h' st k=>st.at fun o e=>k it (by simp) o e
 item:=by
  intro X hP hw hK hc i pins s σ H E I hf st hg;subst hP hw hK;obtain⟨xs,x,hq,hx⟩:=hg;obtain⟨its,rv,p,hz⟩:=I.list hq;obtain⟨u,hu,ru⟩:=rv.get hx;obtain⟨f0,f1,f2,f3,f4,f5⟩:=hf it (by simp);refine wpAny_pyNext_list_item st p.isList (x:=u) (by simpa using hu) fun h' st' sb=>?_;have I1:Inv X pins σ H {s with heap:=h'}:=I.turned (t':=s.toks) (fun b o hb e=>(sb.2 b hb).trans e) f0 f1 f3 f4 f5;obtain⟨o,e,c,d⟩:=id st';exact⟨u,rfl,iW (s:={s with heap:=h'}) e c d (by decide) ⟨x,H,I1,ru,⟨rfl,fun ys hy=>by rw[I.list_inj hy hq];exact hx⟩,st',fun b hb=>(hf b hb).1⟩⟩
 done:=by
  intro X hP hw hK hc i pins s σ H E I hf st hg;subst hP hw hK;obtain⟨xs,hq,hx⟩:=hg;obtain⟨its,rv,p,hz⟩:=I.list hq;obtain⟨f0,f1,f2,f3,f4,f5⟩:=hf it (by simp);have hl:=rv.length;exact wpAny_pyNext_list_end (I.ok.hd hc) st p.isList (by simp;omega) fun h' eb=>⟨rfl,I.turned (t':=s.toks) (fun b o hb e=>eb b o hb e) f0 f1 f3 f4 f5⟩
 self:=fun _ _ _ _ _ st h=>wpAny_pyIter_listiter st h
theorem ip{P:Program}{w:World}{K:W.Frag}{tg:Expr}(a it:Addr):Turn P w K tg (Itt K a) [it] it (fun i h=>h.IsTupleIter it a i) where
 mem:=by simp
 obj:=fun i h st b hb=>by
  have e:b=it:=by simpa using hb
  subst e;obtain⟨o,e,c,d⟩:=st;exact⟨o,e,fun v z=>by rw[d]at z;cases z⟩
 keep:=fun i h h' st k=>st.at fun o e=>k it (by simp) o e
 item:=by
  intro X hP hw hK hc i pins s σ H E I hf st hg;subst hP hw hK;obtain⟨xs,x,hq,hx⟩:=hg;obtain⟨its,rv,p,hz⟩:=I.tuple hq;obtain⟨u,hu,ru⟩:=rv.get hx;obtain⟨f0,f1,f2,f3,f4,f5⟩:=hf it (by simp);refine wpAny_pyNext_tuple_item st (show s.heap.IsTuple a its.toArray from p) (x:=u) (by simpa using hu) fun h' st' sb=>?_;have I1:Inv X pins σ H {s with heap:=h'}:=I.turned (t':=s.toks) (fun b o hb e=>(sb.2 b hb).trans e) f0 f1 f3 f4 f5;obtain⟨o,e,c,d⟩:=id st';exact⟨u,rfl,iW (s:={s with heap:=h'}) e c d (by decide) ⟨x,H,I1,ru,⟨rfl,fun ys hy=>by rw[I.tuple_inj hy hq];exact hx⟩,st',fun b hb=>(hf b hb).1⟩⟩
 done:=by
  intro X hP hw hK hc i pins s σ H E I hf st hg;subst hP hw hK;obtain⟨xs,hq,hx⟩:=hg;obtain⟨its,rv,p,hz⟩:=I.tuple hq;obtain⟨f0,f1,f2,f3,f4,f5⟩:=hf it (by simp);have hl:=rv.length;exact wpAny_pyNext_tuple_end (I.ok.hd hc) st (show s.heap.IsTuple a its.toArray from p) (by simp;omega) fun h' eb=>⟨rfl,I.turned (t':=s.toks) (fun b o hb e=>eb b o hb e) f0 f1 f3 f4 f5⟩
 self:=fun _ _ _ _ _ st h=>wpAny_pyIter_tupleiter st h
theorem io{P:Program}{w:World}{K:W.Frag}{tg:Expr}(it:Addr)(lo:Int)(n:Nat):Turn P w K tg (Itr lo n) [it] it (fun i h=>IsRangeIter h it (lo+(i:Nat)*1) ((n:Int)-(i:Nat)) 1) where
 mem:=by simp
 obj:=fun i h st b hb=>by
  have e:b=it:=by simpa using hb
  subst e;exact⟨_,st,fun v z=>by
   have z':Data.fields _=Data.cell v:=z;cases z'⟩
 keep:=fun i h h' st k=>k it (by simp) _ st
 item:=by
  intro X hP hw hK hc i pins s σ H E I hf st hg;subst hP hw hK;obtain⟨f0,f1,f2,f3,f4,f5⟩:=hf it (by simp);have W0:=Walks.range (prog:=X.prog) (w:=X.w) (I.ok.hd hc) it lo 1 n;refine W0.item i s _ _ hg st fun v h' tk hv st' kk=>?_;obtain⟨t,rfl⟩:=hv;have I1:Inv X pins σ H {s with heap:=h',toks:=tk}:=I.turned (fun b o hb e=>kk b o (by simpa using hb) e) f0 f1 f3 f4 f5;refine⟨_,rfl,iW (s:={s with heap:=h',toks:=tk}) (n :="range_iterator") st' rfl rfl (by decide) ⟨.int (lo+i),H,I1,⟨t,?_⟩,⟨rfl,rfl⟩,st',fun b hb=>(hf b hb).1⟩⟩;rw[Int.mul_one]
 done:=by
  intro X hP hw hK hc i pins s σ H E I hf st hg;subst hP hw hK;obtain⟨f0,f1,f2,f3,f4,f5⟩:=hf it (by simp);exact wpAny_pyNext_range_end (I.ok.hd hc) st (by have:n<=i:=hg;omega) fun h' eb=>⟨rfl,I.turned (t':=s.toks) (fun b o hb e=>eb b o hb e) f0 f1 f3 f4 f5⟩
 self:=fun _ _ _ _ _ st h=>wpAny_pyIter_rangeiter st h
section
variable{X:Cx}{tg:Expr}
def YB(K:W.Frag)(tl:TE):TI:=fun σ H R=>tl σ H fun x H1=>∃ a,x= .ref a/\(∃xs,SqL K H1 a xs)/\R (Itl K a) H1
def iTup(K:W.Frag)(tl:TE):TI:=fun σ H R=>tl σ H fun x H1=>∃ a,x= .ref a/\(∃xs,SqT K H1 a xs)/\R (Itt K a) H1
theorem zT{l:Expr}{tl:TE}(hl:PE X l tl):PI X tg l (YB X.K tl):=by
 intro pins s σ H R I h;refine thn (hl pins s σ H _ I h) fun v s1 ⟨x,H1,I1,r1,q1⟩=>?_;obtain⟨a,e,⟨xs,hq⟩,q⟩:=q1;subst e;cases r1;obtain⟨its,rv,p,hz⟩:=I1.list hq;refine wpAny_pyIter_list p.isList ?_;refine⟨s1.heap.objs.size,[s1.heap.objs.size],_,_,H1,rfl,I1.kept (t':=s1.toks) fun b o e=>Heap.get?_push_of_some _ e,o6 a _,⟨_,Heap.get?_push_size _ rfl,rfl,rfl⟩,fun b hb=>?_,q⟩;have e:b=s1.heap.objs.size:=by simpa using hb
 subst e;exact I1.fpOk (le_refl _) (I1.hok.fresh (le_refl _))
theorem wO{l:Expr}{tl:TE}(hl:PE X l tl):PI X tg l (iTup X.K tl):=by
 intro pins s σ H R I h;refine thn (hl pins s σ H _ I h) fun v s1 ⟨x,H1,I1,r1,q1⟩=>?_;obtain⟨a,e,⟨xs,hq⟩,q⟩:=q1;subst e;cases r1;obtain⟨its,rv,p,hz⟩:=I1.tuple hq;refine wpAny_pyIter_tuple (show s1.heap.IsTuple a its.toArray from p) ?_;refine⟨s1.heap.objs.size,[s1.heap.objs.size],_,_,H1,rfl,I1.kept (t':=s1.toks) fun b o e=>Heap.get?_push_of_some _ e,ip a _,⟨_,Heap.get?_push_size _ rfl,rfl,rfl⟩,fun b hb=>?_,q⟩;have e:b=s1.heap.objs.size:=by simpa using hb
 subst e;exact I1.fpOk (le_refl _) (I1.hok.fresh (le_refl _))
theorem eU{pins:List (Addr×Obj)}{σ:St}{H:Hp}{s:Shared}{R:It->Hp->Prop}{E:Value->Shared->Prop}{lo hi:Int}{t u v:Tok}{tk:Nat}(I:Inv X pins σ H s)(h1:-(2^62)<=lo)(h2:lo<2^62)(h3:-(2^62)<=hi)(h4:hi<2^62)(q:R (Itr lo (hi-lo).toNat) H):wpAny (model X.prog X.w) X.A (pyIter (.ref s.heap.objs.size)) (PIE X pins σ tg R) E {s with heap:=s.heap.push {cls:=.type "range",data:=.fields #[.int lo t,.int hi u,.int 1 v]},toks:=tk}:=by
 refine wpAny_pyIter_range (IsRange.new ..) (small_one h1 h2 h3 h4) ?_;have I1:Inv X pins σ H {s with heap:=s.heap.push {cls:=.type "range",data:=.fields #[.int lo t,.int hi u,.int 1 v]},toks:=tk}:=I.kept fun b o e=>Heap.get?_push_of_some _ e;refine⟨(s.heap.push {cls:=.type "range",data:=.fields #[.int lo t,.int hi u,.int 1 v]}).objs.size,[(s.heap.push {cls:=.type "range",data:=.fields #[.int lo t,.int hi u,.int 1 v]}).objs.size],_,_,H,rfl,
  I1.kept (t':=tk) fun b o e=>Heap.get?_push_of_some _ e,io _ lo (hi-lo).toNat,?_,fun b hb=>?_,q⟩
 ·have e1:lo+((0:Nat):Int)*1=lo:=by simp
  have e2:(((hi-lo).toNat:Nat):Int)-((0:Nat):Int)=Builtin.Range.rangeSize lo hi 1:=by rw[rangeSize_one];split <;>omega
  show IsRangeIter _ _ (lo+((0:Nat):Int)*1) ((((hi-lo).toNat:Nat):Int)-((0:Nat):Int)) 1;rw[e1,e2];exact Heap.get?_push_size _ rfl
 ·have e:b=(s.heap.push {cls:=.type "range",data:=.fields #[.int lo t,.int hi u,.int 1 v]}).objs.size:=by simpa using hb
  subst e;exact I1.fpOk (le_refl _) (I1.hok.fresh (le_refl _))
def J6(ta:TA):TI:=fun σ H R=>ta σ H fun vs H1=>∃ j:Int,vs=[.int j]/\ -(2^62)<=j/\j<2^62/\R (Itr 0 j.toNat) H1
def J9(ta:TA):TI:=fun σ H R=>ta σ H fun vs H1=>∃ i j:Int,vs=[.int i,.int j]/\(-(2^62)<=i/\i<2^62/\ -(2^62)<=j/\j<2^62)/\R (Itr i (j-i).toNat) H1
theorem jd{a:Expr}{ta:TA}{p pos:Pos}(hg:Gl X "range")(hm:X.mg "range"=none)(ha:PA X [a] ta)(hs:starEach [a] X.env=[(false,eval a X.env)]:=by rfl):PI X tg (.Call (.Name "range" p) [a] [] pos) (J6 ta):=by
 intro pins s σ H R I h;refine Call_ (wj I hg hm boot_range (PyProof.Rows.callWith_type1 (thn (ha pos pins s σ H _ I h) fun us s1 ⟨vs,H1,I1,r1,q1⟩=>?_) hs rfl));obtain⟨j,e,q1,q2,q⟩:=q1;subst e;cases r1 with
 |cons r rr =>
  cases rr;obtain⟨t,rfl⟩:=r;exact call_range_1 (eU I1 (by omega) (by omega) q1 q2 (by simpa using q))
theorem cB{a b:Expr}{ta:TA}{p pos:Pos}(hg:Gl X "range")(hm:X.mg "range"=none)(ha:PA X [a,b] ta)(hs:starEach [a,b] X.env=[(false,eval a X.env),(false,eval b X.env)]:=by rfl)(hs2:starEach [b] X.env=[(false,eval b X.env)]:=by rfl) :
  PI X tg (.Call (.Name "range" p) [a,b] [] pos) (J9 ta):=by
 intro pins s σ H R I h;refine Call_ (wj I hg hm boot_range (PyProof.Rows.callWith_type1 (thn (ha pos pins s σ H _ I h) fun us s1 ⟨vs,H1,I1,r1,q1⟩=>?_) (by rw[hs,hs2]) (by rw[hs2];rfl)));obtain⟨i,j,e,⟨q1,q2,q3,q4⟩,q⟩:=q1;subst e;cases r1 with
 |cons r rr =>
  cases rr with
  |cons r' rr =>
   cases rr;obtain⟨t,rfl⟩:=r;obtain⟨t',rfl⟩:=r';exact call_range_2 (eU I1 q1 q2 q3 q4 q)
def tFor(wi:TI)(g:TG)(tb:TS):TS:=fun D σ H=>wi σ H fun J H1=>∃ W0:Nat->Nat->St->Hp->Prop,(∃m,W0 0 m σ H1)/\ ∀i m σ H,W0 i m σ H->
 (J.stop i H/\D.nx σ H)\/(J.go i H/\ ∃N:St->Hp->Prop,(∀ σ' H',N σ' H'-> ∃m',m'<m/\W0 (i+1) m' σ' H')/\ ∀x H',J.yld i H x H'->g x σ H' fun σ2 H2=>tb {D with nx:=N,ct:=N,bk:=D.nx} σ2 H2)
def rn(fp:List Addr)(h:Heap):List (Addr×Obj):=fp.filterMap fun b=>(h.get? b).map fun o=>(b,o)
theorem j4{fp:List Addr}{h:Heap}{b:Addr}{o:Obj}(hb:b∈fp)(e:h.get? b=some o):(b,o)∈rn fp h:=List.mem_filterMap.mpr ⟨b,hb,by rw[e];rfl⟩
theorem lX{fp:List Addr}{h:Heap}{p:Addr×Obj}(hp:p∈rn fp h):p.1∈fp/\h.get? p.1=some p.2:=by
 obtain⟨b,hb,e⟩:=List.mem_filterMap.mp hp;cases q:h.get? b with
 |none=>rw[q]at e;cases e
 |some o =>
  rw[q]at e;have e':(b,o)=p:=Option.some.inj e;subst e';exact⟨hb,q⟩
theorem Inv.pinned{pins:List (Addr×Obj)}{σ:St}{H:Hp}{s:Shared}{fp:List Addr}(I:Inv X pins σ H s)(hf:∀b∈fp,FpOk X pins H b)(ho:∀b∈fp,∃o,s.heap.get? b=some o/\ ∀v,o.data≠ .cell v):Inv X (pins++rn fp s.heap) σ H s :=
 I.pins_of fun p hp=>(mem_append.mp hp).elim (fun z=>I.pin p (mem_append_right _ z)) fun z=>by
  obtain⟨hb,e⟩:=lX z;obtain⟨f0,f1,f2,_⟩:=hf p.1 hb;obtain⟨o,e',d⟩:=ho p.1 hb;rw[e]at e';cases e';exact⟨e,f0,f1,f2,d⟩
theorem Inv.unpinned{pins pl:List (Addr×Obj)}{σ:St}{H:Hp}{s:Shared}(I:Inv X (pins++pl) σ H s):Inv X pins σ H s:=I.pins_of fun p hp=>I.pin p (mem_append_right _ (List.mem_append_left _ hp))
theorem yK{iter:Expr}{body:List Stmt}{wi:TI}{g:TG}{tb:TS}{pos:Pos}(hp:PassesOwn (model X.prog X.w) X.A X.env X.xe)(hc:X.calm=true)(hi:PI X tg iter wi)(hg:PG X tg g)(hb:PSs X body tb)(hs:∀x,foldedSetIterable iter X.env x=pure x:=by intro _;rfl):PS X (.For tg iter body [] pos) (tFor wi g tb):=by
 intro pins s σ H D I h;refine wpAny_For (thn (hi pins s σ H _ I h) fun v s1 h1=>thn h1 fun itv s2 h2=>?_) hs;obtain⟨it,fp,tn,J,H2,e,I2,T,st2,f2,W0,⟨m0,w0⟩,turn⟩:=h2;subst e
 -- what stays true of the iterator's objects through the loop
 have stat:∀{H':Hp},(∀b∈fp,H' b=none)-> ∀b∈fp,FpOk X pins H' b:=fun hn b hb=>⟨hn b hb,(f2 b hb).2⟩;refine codeAny_forLoop_any (fun n s'=>∃ i σ' H',Inv X pins σ' H' s'/\tn i s'.heap/\(∀b∈fp,H' b=none)/\W0 i n σ' H') ?_ m0 ⟨0,σ,H2,I2,st2,fun b hb=>(f2 b hb).1,w0⟩;rintro n s3 ⟨i,σ3,H3,I3,st3,fr3,w3⟩;rcases turn i n σ3 H3 w3 with⟨stop,qn⟩|⟨go,N,hN,step⟩
 ·refine wpAny_passesOwn hp (thn (T.done X rfl rfl rfl hc i pins s3 σ3 H3 X.xe I3 (stat fr3) st3 stop) fun r s4 ⟨hr,I4⟩=>?_);subst hr;exact wpAny_execs_nil ⟨σ3,H3,I4,qn⟩
 ·refine wpAny_passesOwn hp (thn (T.item X rfl rfl rfl hc i pins s3 σ3 H3 X.xe I3 (stat fr3) st3 go) fun r s4 ⟨u,hr,h4⟩=>?_);subst hr;refine wpAny_passesOwn hp (thn h4 fun _ s5 ⟨x,H5,I5,r5,y5,st5,fr5⟩=>?_);have I5':=I5.pinned (stat fr5) (T.obj _ _ st5);refine wpAny_passesOwn hp (thn (hg _ s5 σ3 H5 x u _ I5' r5 (step x H5 y5)) fun _ s6 ⟨σ6,H6,I6,q6⟩=>?_);refine wpAny_passesOwn hp (thn (hb _ s6 σ6 H6 _ I6 q6) fun f s7 q7=>?_);have again:∀{σ7:St}{H7:Hp},Inv X (pins++rn fp s5.heap) σ7 H7 s7->N σ7 H7-> ∃m,m<n/\ ∃i σ' H',Inv X pins σ' H' s7/\tn i s7.heap/\(∀b∈fp,H' b=none)/\W0 i m σ' H':=fun{σ7 H7} I7 n7=>by
   obtain⟨m',hm,w7⟩:=hN σ7 H7 n7;refine⟨m',hm,i+1,σ7,H7,I7.unpinned,T.keep _ _ _ st5 fun b hb o e=>(I7.pin (b,o) (mem_append_right _ (mem_append_right _ (j4 hb e)))).1,fun b hb=>?_,w7⟩;obtain⟨o,e,d⟩:=T.obj _ _ st5 b hb;exact(I7.pin (b,o) (mem_append_right _ (mem_append_right _ (j4 hb e)))).2.1
  cases f with
  |next=>obtain⟨σ7,H7,I7,n7⟩:=q7;exact again I7 n7
  |cont=>obtain⟨σ7,H7,I7,n7⟩:=q7;exact again I7 n7
  |brk=>obtain⟨σ7,H7,I7,q7⟩:=q7;exact⟨σ7,H7,I7.unpinned,q7⟩
  |ret v=>obtain⟨x7,σ7,H7,I7,r7,q7⟩:=q7;exact⟨x7,σ7,H7,I7.unpinned,r7,q7⟩
end
theorem jq{K:W.Frag}{a:Addr}{xs:List V}{g:TG}{tb:TS}{D:Ends}{σ:St}{H:Hp}(Pv:Nat->St->Hp->Prop)(h0:Pv 0 σ H)(hl:∀i σ H,i<=xs.length->Pv i σ H->SqL K H a xs)(hs:∀i x σ H,xs[i]? =some x->Pv i σ H->g x σ H fun σ2 H2=>tb {D with nx:=Pv (i+1),ct:=Pv (i+1),bk:=D.nx} σ2 H2)(hd:∀ σ H,Pv xs.length σ H->D.nx σ H) :
  ∃W0:Nat->Nat->St->Hp->Prop,(∃m,W0 0 m σ H)/\ ∀i m σ H,W0 i m σ H->
   ((Itl K a).stop i H/\D.nx σ H)\/((Itl K a).go i H/\ ∃N:St->Hp->Prop,(∀ σ' H',N σ' H'-> ∃m',m'<m/\W0 (i+1) m' σ' H')/\ ∀x H',(Itl K a).yld i H x H'->g x σ H' fun σ2 H2=>tb {D with nx:=N,ct:=N,bk:=D.nx} σ2 H2):=by
 refine⟨fun i m σ H=>m=xs.length-i/\i<=xs.length/\Pv i σ H,⟨xs.length,by simp,zero_le _,h0⟩,?_⟩;rintro i m σ H ⟨rfl,hi,p⟩;have q:=hl i σ H hi p;by_cases hlt:i<xs.length
 ·refine .inr ⟨⟨xs,xs[i],q,by simp[hlt]⟩,Pv (i+1),fun σ' H' p'=>⟨xs.length-(i+1),by omega,rfl,hlt,p'⟩,fun x H' y=>?_⟩;obtain⟨e,y⟩:=y;subst e;exact hs i x σ _ (y xs q) p
 ·have e:i=xs.length:=by omega
  subst e;exact .inl ⟨⟨xs,q,le_refl _⟩,hd σ H p⟩
theorem tu{K:W.Frag}{a:Addr}{xs:List V}{g:TG}{tb:TS}{D:Ends}{σ:St}{H:Hp}(Pv:Nat->St->Hp->Prop)(h0:Pv 0 σ H)(hl:∀i σ H,i<=xs.length->Pv i σ H->SqT K H a xs)(hs:∀i x σ H,xs[i]? =some x->Pv i σ H->g x σ H fun σ2 H2=>tb {D with nx:=Pv (i+1),ct:=Pv (i+1),bk:=D.nx} σ2 H2)(hd:∀ σ H,Pv xs.length σ H->D.nx σ H) :
  ∃W0:Nat->Nat->St->Hp->Prop,(∃m,W0 0 m σ H)/\ ∀i m σ H,W0 i m σ H->
   ((Itt K a).stop i H/\D.nx σ H)\/((Itt K a).go i H/\ ∃N:St->Hp->Prop,(∀ σ' H',N σ' H'-> ∃m',m'<m/\W0 (i+1) m' σ' H')/\ ∀x H',(Itt K a).yld i H x H'->g x σ H' fun σ2 H2=>tb {D with nx:=N,ct:=N,bk:=D.nx} σ2 H2):=by
 refine⟨fun i m σ H=>m=xs.length-i/\i<=xs.length/\Pv i σ H,⟨xs.length,by simp,zero_le _,h0⟩,?_⟩;rintro i m σ H ⟨rfl,hi,p⟩;have q:=hl i σ H hi p;by_cases hlt:i<xs.length
 ·refine .inr ⟨⟨xs,xs[i],q,by simp[hlt]⟩,Pv (i+1),fun σ' H' p'=>⟨xs.length-(i+1),by omega,rfl,hlt,p'⟩,fun x H' y=>?_⟩;obtain⟨e,y⟩:=y;subst e;exact hs i x σ _ (y xs q) p
 ·have e:i=xs.length:=by omega
  subst e;exact .inl ⟨⟨xs,q,le_refl _⟩,hd σ H p⟩
theorem j9{lo:Int}{n:Nat}{g:TG}{tb:TS}{D:Ends}{σ:St}{H:Hp}(Pv:Nat->St->Hp->Prop)(h0:Pv 0 σ H)(hs:∀i σ H,i<n->Pv i σ H->g (.int (lo+i)) σ H fun σ2 H2=>tb {D with nx:=Pv (i+1),ct:=Pv (i+1),bk:=D.nx} σ2 H2)(hd:∀ σ H,Pv n σ H->D.nx σ H) :
  ∃W0:Nat->Nat->St->Hp->Prop,(∃m,W0 0 m σ H)/\ ∀i m σ H,W0 i m σ H->
   ((Itr lo n).stop i H/\D.nx σ H)\/((Itr lo n).go i H/\ ∃N:St->Hp->Prop,(∀ σ' H',N σ' H'-> ∃m',m'<m/\W0 (i+1) m' σ' H')/\ ∀x H',(Itr lo n).yld i H x H'->g x σ H' fun σ2 H2=>tb {D with nx:=N,ct:=N,bk:=D.nx} σ2 H2):=by
 refine⟨fun i m σ H=>m=n-i/\i<=n/\Pv i σ H,⟨n,by simp,zero_le _,h0⟩,?_⟩;rintro i m σ H ⟨rfl,hi,p⟩;by_cases hlt:i<n
 ·refine .inr ⟨hlt,Pv (i+1),fun σ' H' p'=>⟨n-(i+1),by omega,rfl,hlt,p'⟩,fun x H' y=>?_⟩;obtain⟨e,y⟩:=y;subst e y;exact hs i σ _ hlt p
 ·have e:i=n:=by omega
  subst e;exact .inl ⟨le_refl _,hd σ H p⟩
abbrev R2:=V->V->Hp->VK->Prop
def OpR(X:Cx)(f:Value->Value->Sem Value)(r:R2):Prop :=
 ∀(pins:List (Addr×Obj))(s:Shared)(σ:St)(H:Hp)(x y:V)(v u:Value)(Q:VK),Inv X pins σ H s->RelV x v->RelV y u->r x y H Q->
  wpAny (model X.prog X.w) X.A (f v u) (EP X pins σ Q) X.xe s
def UnR(X:Cx)(f:Value->Sem Value)(r:V->Hp->VK->Prop):Prop :=
 ∀(pins:List (Addr×Obj))(s:Shared)(σ:St)(H:Hp)(x:V)(v:Value)(Q:VK),Inv X pins σ H s->RelV x v->r x H Q->
  wpAny (model X.prog X.w) X.A (f v) (EP X pins σ Q) X.xe s
def wv(X:Cx)(f:Value)(r:List V->Hp->VK->Prop):Prop :=
 ∀(pins:List (Addr×Obj))(s:Shared)(σ:St)(H:Hp)(xs:List V)(us:List Value)(Q:VK),Inv X pins σ H s->Vals xs us->r xs H Q->
  wpAny (model X.prog X.w) X.A (call f us) (EP X pins σ Q) X.xe s
def TruR(X:Cx)(r:V->Hp->(Bool->Hp->Prop)->Prop):Prop :=
 ∀(pins:List (Addr×Obj))(s:Shared)(σ:St)(H:Hp)(x:V)(v:Value)(Q:Bool->Hp->Prop),Inv X pins σ H s->RelV x v->r x H Q->
  wpAny (model X.prog X.w) X.A (truthy v) (TP X pins σ Q) X.xe s
def tOp(r:R2)(ta tb:TE):TE:=fun σ H Q=>ta σ H fun x H1=>tb σ H1 fun y H2=>r x y H2 Q
def tUn(r:V->Hp->VK->Prop)(ta:TE):TE:=fun σ H Q=>ta σ H fun x H1=>r x H1 Q
def rI(C:Int->Int->Prop)(g:Int->Int->V):R2:=fun x y H Q=>∃ i j,x= .int i/\y= .int j/\C i j/\Q (g i j) H
def rI0(g:Int->Int->V):R2:=fun x y H Q=>∃ i j,x= .int i/\y= .int j/\Q (g i j) H
def rU(g:Int->V):V->Hp->VK->Prop:=fun x H Q=>∃ i,x= .int i/\Q (g i) H
section
variable{X:Cx}{a b c:Expr}{ta tb tc:TE}{pos:Pos}
theorem binT(ha:PE X a ta)(hb:PE X b tb){pins:List (Addr×Obj)}{s:Shared}{σ:St}{H:Hp}{R:V->V->Hp->Prop}(I:Inv X pins σ H s)(h:ta σ H fun x H1=>tb σ H1 fun y H2=>R x y H2){Q:Value->Shared->Prop}{f:Value->Value->Sem Value}(hf:∀v u s2 x y H2,Inv X pins σ H2 s2->RelV x v->RelV y u->R x y H2->wpAny (model X.prog X.w) X.A (f v u) Q X.xe s2) :
  wpAny (model X.prog X.w) X.A (eval a X.env) (fun v s₁=>wpAny (model X.prog X.w) X.A (eval b X.env) (fun u s₂=>wpAny (model X.prog X.w) X.A (f v u) Q X.xe s₂) X.xe s₁) X.xe s:=by
 refine thn (ha pins s σ H _ I h) fun v s1 ⟨x,H1,I1,r1,q1⟩=>?_;refine thn (hb pins s1 σ H1 _ I1 q1) fun u s2 ⟨y,H2,I2,r2,q2⟩=>?_;exact hf v u s2 x y H2 I2 r1 r2 q2
theorem zu{op:Operator}{r:R2}(ho:OpR X (binaryOp op) r)(ha:PE X a ta)(hb:PE X b tb):PE X (.BinOp a op b pos) (tOp r ta tb):=by
 intro pins s σ H Q I h;exact wpAny_BinOp (binT ha hb I h fun v u s2 x y H2 I2 rx ry q=>ho pins s2 σ H2 x y v u Q I2 rx ry q)
theorem cA{op:UnaryOp}{r:V->Hp->VK->Prop}(ho:UnR X (unaryOp op) r)(ha:PE X a ta):PE X (.UnaryOp op a pos) (tUn r ta):=by
 intro pins s σ H Q I h;exact UnaryOp_ (thn (ha pins s σ H _ I h) fun v s1 ⟨x,H1,I1,r1,q1⟩=>ho pins s1 σ H1 x v Q I1 r1 q1)
theorem opI{f:Value->Value->Sem Value}{C:Int->Int->Prop}{g:Int->Int->Int}(rule:∀(i j:Int) (t u:Tok) (s:Shared) (Q:Value->Shared->Prop) (E:Value->Shared->Prop),C i j->Q (.int (g i j) s.toks) {s with toks:=s.toks+1}->wpAny (model X.prog X.w) X.A (f (.int i t) (.int j u)) Q E s) :
  OpR X f (rI C fun i j=>.int (g i j)):=by
 intro pins s σ H x y v u Q I rx ry h;obtain⟨i,j,rfl,rfl,hc,q⟩:=h;obtain⟨t,rfl⟩:=rx;obtain⟨t',rfl⟩:=ry;exact rule i j t t' s _ _ hc ⟨.int (g i j),H,I.tok _,⟨_,rfl⟩,q⟩
theorem opI0{f:Value->Value->Sem Value}{g:Int->Int->Int}(rule:∀(i j:Int) (t u:Tok) (s:Shared) (Q:Value->Shared->Prop) (E:Value->Shared->Prop),Q (.int (g i j) s.toks) {s with toks:=s.toks+1}->wpAny (model X.prog X.w) X.A (f (.int i t) (.int j u)) Q E s) :
  OpR X f (rI0 fun i j=>.int (g i j)):=by
 intro pins s σ H x y v u Q I rx ry h;obtain⟨i,j,rfl,rfl,q⟩:=h;obtain⟨t,rfl⟩:=rx;obtain⟨t',rfl⟩:=ry;exact rule i j t t' s _ _ ⟨.int (g i j),H,I.tok _,⟨_,rfl⟩,q⟩
theorem opB0{f:Value->Value->Sem Value}{g:Int->Int->Bool}(rule:∀(i j:Int) (t u:Tok) (s:Shared) (Q:Value->Shared->Prop) (E:Value->Shared->Prop),Q (.bool (g i j)) s->wpAny (model X.prog X.w) X.A (f (.int i t) (.int j u)) Q E s) :
  OpR X f (rI0 fun i j=>.bl (g i j)):=by
 intro pins s σ H x y v u Q I rx ry h;obtain⟨i,j,rfl,rfl,q⟩:=h;obtain⟨t,rfl⟩:=rx;obtain⟨t',rfl⟩:=ry;exact rule i j t t' s _ _ ⟨.bl (g i j),H,I,rfl,q⟩
def CPow(i j:Int):Prop:=0<=j/\j<=1000000/\i.natAbs<2^64
def CMul(i j:Int):Prop:=(-(2^64)<i/\i<2^64)\/(-(2^64)<j/\j<2^64)
theorem CMul.ok{i j:Int}(h:CMul i j):IntMulOk i j:=by
 rcases h with⟨h1,h2⟩|⟨h1,h2⟩
 ·exact .of_left (intBits_le_64 h1 h2)
 ·exact .of_right (intBits_le_64 h1 h2)
theorem kr:OpR X (binaryOp .Add) (rI0 fun i j=>.int (i+j)):=opI0 fun _ _ _ _ _ _ _ q=>add_int q
theorem wN:OpR X (binaryOp .Sub) (rI0 fun i j=>.int (i-j)):=opI0 fun _ _ _ _ _ _ _ q=>sub_int q
theorem yN:OpR X (binaryOp .Mult) (rI CMul fun i j=>.int (i*j)):=opI fun _ _ _ _ _ _ _ hc q=>mul_int q hc.ok
theorem p9:OpR X (binaryOp .Mod) (rI (fun _ j=>0<j) fun i j=>.int (i%j)):=opI fun i j _ _ _ _ _ hc q=>by
 have h1:(0:Int)<j:=hc;exact mod_int' (by omega) (by rw[Int.fmod_eq_emod_of_nonneg i (by omega)];exact q)
theorem YN:OpR X (binaryOp .Pow) (rI CPow fun i j=>.int (i^j.toNat)):=opI fun _ _ _ _ _ _ _ hc q=>pow_int_small hc.1 hc.2.1 hc.2.2 q
theorem unI{f:Value->Sem Value}{g:Int->Int}(rule:∀(i:Int) (t:Tok) (s:Shared) (Q:Value->Shared->Prop) (E:Value->Shared->Prop),Q (.int (g i) s.toks) {s with toks:=s.toks+1}->wpAny (model X.prog X.w) X.A (f (.int i t)) Q E s) :
  UnR X f (rU fun i=>.int (g i)):=by
 intro pins s σ H x v Q I rx h;obtain⟨i,rfl,q⟩:=h;obtain⟨t,rfl⟩:=rx;exact rule i t s _ _ ⟨.int (g i),H,I.tok _,⟨_,rfl⟩,q⟩
theorem pD:UnR X (unaryOp .USub) (rU fun i=>.int (-i)):=unI fun _ _ _ _ _ q=>neg_int q
end
def scal:V->V->Bool
 | .non,.non=>true| .non,.int _=>true| .int _,.non=>true| .non,.bl _=>true| .bl _,.non=>true| .non,.str _=>true| .str _,.non=>true
 | .int _,.int _=>true| .bl _,.bl _=>true| .str _,.str _=>true| .byt _,.byt _=>true
 | .int _,.str _=>true| .str _,.int _=>true| .bl _,.str _=>true| .str _,.bl _=>true
 | _,_=>false
def rEq:R2:=fun x y H Q=>scal x y=true/\Q (.bl (decide (x=y))) H
def rNe:R2:=fun x y H Q=>scal x y=true/\Q (.bl (!decide (x=y))) H
theorem iL{i j:Int}:decide (V.int i=V.int j)=(i==j):=by
 rw[Bool.eq_iff_iff];simp
theorem Zk{i j:Bool}:decide (V.bl i=V.bl j)=(i==j):=by
 rw[Bool.eq_iff_iff];simp
theorem iM{i j:Str}:decide (V.str i=V.str j)=(i==j):=by
 rw[Bool.eq_iff_iff];simp
theorem iK{i j:Array UInt8}:decide (V.byt i=V.byt j)=(i.toList==j.toList):=by
 rw[Bool.eq_iff_iff];cases i;cases j;simp
section
variable{X:Cx}{a b c:Expr}{ta tb tc:TE}{pos:Pos}
theorem zL{pins:List (Addr×Obj)}{σ:St}{H:Hp}{s:Shared}{Q:VK}{k k':Bool}(I:Inv X pins σ H s)(q:Q (.bl k) H)(e:k=k'):EP X pins σ Q (.bool k') s:=by
 subst e;exact⟨.bl k,H,I,rfl,q⟩
theorem yM:OpR X (compareOp .Eq) rEq:=by
 intro pins s σ H x y v u Q I rx ry h;obtain⟨hs,q⟩:=h;cases x with
 |non =>
  cases rx;cases y with
  |non=>cases ry;exact PySem.EqNone.eq_none_none (zL I q (by simp))
  |bl j=>cases ry;exact PySem.EqNone.eq_none_bool (zL I q (by simp))
  |int j=>obtain⟨t',rfl⟩:=ry;exact PySem.EqNone.eq_none_int (zL I q (by simp))
  |str j=>obtain⟨t',rfl⟩:=ry;exact PySem.EqNone.eq_none_str (zL I q (by simp))
  | _=>exact absurd (show false=true from hs) Bool.false_ne_true
 |bl i =>
  cases rx;cases y with
  |non=>cases ry;exact PySem.EqNone.eq_bool_none (zL I q (by simp))
  |bl j=>cases ry;exact eq_bool (zL I q Zk)
  |str j=>obtain⟨t',rfl⟩:=ry;exact PySem.EqMixed.eq_bool_str (zL I q (by simp))
  | _=>exact absurd (show false=true from hs) Bool.false_ne_true
 |int i =>
  obtain⟨t,rfl⟩:=rx;cases y with
  |non=>cases ry;exact PySem.EqNone.eq_int_none (zL I q (by simp))
  |int j=>obtain⟨t',rfl⟩:=ry;exact eq_int (zL I q iL)
  |str j=>obtain⟨t',rfl⟩:=ry;exact PySem.EqMixed.eq_int_str (zL I q (by simp))
  | _=>exact absurd (show false=true from hs) Bool.false_ne_true
 |str i =>
  obtain⟨t,rfl⟩:=rx;cases y with
  |non=>cases ry;exact PySem.EqNone.eq_str_none (zL I q (by simp))
  |bl j=>cases ry;exact PySem.EqMixed.eq_str_bool (zL I q (by simp))
  |int j=>obtain⟨t',rfl⟩:=ry;exact PySem.EqMixed.eq_str_int (zL I q (by simp))
  |str j=>obtain⟨t',rfl⟩:=ry;exact eq_str (zL I q iM)
  | _=>exact absurd (show false=true from hs) Bool.false_ne_true
 |byt i =>
  obtain⟨t,rfl⟩:=rx;cases y with
  |byt j=>obtain⟨t',rfl⟩:=ry;exact W.eq_bytes (zL I q iK)
  | _=>exact absurd (show false=true from hs) Bool.false_ne_true
 | _=>cases y <;>exact absurd (show false=true from hs) Bool.false_ne_true
theorem YM:OpR X (compareOp .NotEq) rNe:=by
 intro pins s σ H x y v u Q I rx ry h;obtain⟨hs,q⟩:=h;cases x with
 |non =>
  cases rx;cases y with
  |non=>cases ry;exact PySem.EqNone.ne_none_none (zL I q (by simp))
  |bl j=>cases ry;exact PySem.EqNone.ne_none_bool (zL I q (by simp))
  |int j=>obtain⟨t',rfl⟩:=ry;exact PySem.EqNone.ne_none_int (zL I q (by simp))
  |str j=>obtain⟨t',rfl⟩:=ry;exact PySem.EqNone.ne_none_str (zL I q (by simp))
  | _=>exact absurd (show false=true from hs) Bool.false_ne_true
 |bl i =>
  cases rx;cases y with
  |non=>cases ry;exact PySem.EqNone.ne_bool_none (zL I q (by simp))
  |bl j=>cases ry;exact ne_bool (zL I q (congrArg not Zk))
  |str j=>obtain⟨t',rfl⟩:=ry;exact PySem.EqMixed.ne_bool_str (zL I q (by simp))
  | _=>exact absurd (show false=true from hs) Bool.false_ne_true
 |int i =>
  obtain⟨t,rfl⟩:=rx;cases y with
  |non=>cases ry;exact PySem.EqNone.ne_int_none (zL I q (by simp))
  |int j=>obtain⟨t',rfl⟩:=ry;exact ne_int (zL I q (congrArg not iL))
  |str j=>obtain⟨t',rfl⟩:=ry;exact PySem.EqMixed.ne_int_str (zL I q (by simp))
  | _=>exact absurd (show false=true from hs) Bool.false_ne_true
 |str i =>
  obtain⟨t,rfl⟩:=rx;cases y with
  |non=>cases ry;exact PySem.EqNone.ne_str_none (zL I q (by simp))
  |bl j=>cases ry;exact PySem.EqMixed.ne_str_bool (zL I q (by simp))
  |int j=>obtain⟨t',rfl⟩:=ry;exact PySem.EqMixed.ne_str_int (zL I q (by simp))
  |str j=>obtain⟨t',rfl⟩:=ry;exact ne_str (zL I q (congrArg not iM))
  | _=>exact absurd (show false=true from hs) Bool.false_ne_true
 |byt i =>
  obtain⟨t,rfl⟩:=rx;cases y with
  |byt j=>obtain⟨t',rfl⟩:=ry;exact W.ne_bytes (zL I q (congrArg not iK))
  | _=>exact absurd (show false=true from hs) Bool.false_ne_true
 | _=>cases y <;>exact absurd (show false=true from hs) Bool.false_ne_true
theorem hV:OpR X (compareOp .Lt) (rI0 fun i j=>.bl (decide (i<j))):=opB0 fun _ _ _ _ _ _ _ q=>lt_int q
theorem hU:OpR X (compareOp .LtE) (rI0 fun i j=>.bl (decide (i<=j))):=opB0 fun _ _ _ _ _ _ _ q=>le_int q
theorem ay:OpR X (compareOp .Gt) (rI0 fun i j=>.bl (decide (j<i))):=opB0 fun _ _ _ _ _ _ _ q=>gt_int q
theorem sr:OpR X (compareOp .GtE) (rI0 fun i j=>.bl (decide (j<=i))):=opB0 fun _ _ _ _ _ _ _ q=>ge_int q
theorem cw:OpR X (compareOp .In) (fun x y H Q=>∃ i j,x= .str i/\y= .str j/\Q (.bl (!(Builtin.Str.occurrences j i 0 j.length 1).isEmpty)) H):=by
 intro pins s σ H x y v u Q I rx ry h;obtain⟨i,j,rfl,rfl,q⟩:=h;obtain⟨t,rfl⟩:=rx;obtain⟨t',rfl⟩:=ry;exact in_str (zL I q rfl)
theorem n9:OpR X (compareOp .Is) (fun x y H Q=>y= .non/\Q (.bl (decide (x= .non))) H):=by
 intro pins s σ H x y v u Q I rx ry h;obtain⟨rfl,q⟩:=h;cases ry;refine is_none_gen (zL I q ?_);cases x <;>first
  |(cases rx;rfl)
  |(obtain⟨t,rfl⟩:=rx;rfl)
theorem ZY:OpR X (compareOp .IsNot) (fun x y H Q=>y= .non/\Q (.bl (!decide (x= .non))) H):=by
 intro pins s σ H x y v u Q I rx ry h;obtain⟨rfl,q⟩:=h;cases ry;refine isnot_none_gen (zL I q ?_);cases x <;>first
  |(cases rx;rfl)
  |(obtain⟨t,rfl⟩:=rx;rfl)
theorem zA(b:Expr){op:CmpOp}(h:op≠ .In:=by decide)(h2:op≠ .NotIn:=by decide):behindInMarks op b=false:=by
 have e1:(op==CmpOp.In)=false:=by cases op <;>first|rfl|exact absurd rfl h
 have e2:(op==CmpOp.NotIn)=false:=by cases op <;>first|rfl|exact absurd rfl h2
 cases b <;>simp[behindInMarks,e1,e2]
theorem aC{op:CmpOp}{r:R2}(ho:OpR X (compareOp op) r)(ha:PE X a ta)(hb:PE X b tb)(hm:behindInMarks op b=false):PE X (.Compare a [op] [b] pos) (tOp r ta tb):=by
 intro pins s σ H Q I h;exact wpAny_Compare1 (binT ha hb I h fun v u s2 x y H2 I2 rx ry q=>ho pins s2 σ H2 x y v u Q I2 rx ry q) hm
def JC(t:TE):TT:=fun σ H Q=>t σ H fun x H'=>∃ k,x= .bl k/\Q k H'
theorem zi{op:CmpOp}{r:R2}(ho:OpR X (compareOp op) r)(ha:PE X a ta)(hb:PE X b tb)(hm:behindInMarks op b=false):PT X (.Compare a [op] [b] pos) (JC (tOp r ta tb)):=by
 intro pins s σ H Q I h;refine wpAny_isTrue_Compare1 (thn (ha pins s σ H _ I h) fun v s1 ⟨x,H1,I1,r1,q1⟩=>thn (hb pins s1 σ H1 _ I1 q1) fun u s2 ⟨y,H2,I2,r2,q2⟩ =>
  thn (ho pins s2 σ H2 x y v u _ I2 r1 r2 q2) fun c s3 ⟨z,H3,I3,r3,k,e,q3⟩=>?_) hm
 subst e;cases r3;exact wpAny_truthy_bool ⟨H3,I3,q3⟩
def TruV(K:W.Frag)(x:V)(H:Hp)(k:Bool):Prop :=
 match x with
 | .non=>k=false
 | .bl b=>k=b
 | .int i=>k=(i !=0)
 | .str y=>y.length<=sizeLine/\k=((y.length:Int) !=0)
 | .byt y=>y.size<=sizeLine/\k=((y.size:Int) !=0)
 | .ref p=>(∃xs,SqL K H p xs/\k= !xs.isEmpty)\/(∃xs,SqT K H p xs/\k= !xs.isEmpty)\/ ∃kvs,H p=some (.dK kvs)/\k= !kvs.isEmpty
 | _=>False
theorem fG{κ:Type}{kvs:List (κ×V)}{vs:List (κ×Value)}(r:KV kvs vs):(!vs.isEmpty)= !kvs.isEmpty:=by
 cases r <;>rfl
theorem xX{xs:List V}{its:List Value}(r:Vals xs its):(!its.toArray.isEmpty)= !xs.isEmpty:=by
 cases r <;>simp
theorem vX:(sizeLine:Nat)<2^63:=by rw[sizeLine_eq];decide
theorem KL:TruR X (fun x H Q=>∃ k,TruV X.K x H k/\Q k H):=by
 intro pins s σ H x v Q I rx h;obtain⟨k,e,q⟩:=h;have hl:=vX;have hs:sizeLine=16777216:=sizeLine_eq;cases x with
 |non =>
  cases rx;have e':k=false:=e;subst e';exact truthy_none ⟨H,I,q⟩
 |bl b =>
  cases rx;have e':k=b:=e;subst e';exact wpAny_truthy_bool ⟨H,I,q⟩
 |int i =>
  obtain⟨t,rfl⟩:=rx;have e':k=(i !=0):=e;subst e';exact PySem.P.truthy_int ⟨H,I,q⟩
 |str y =>
  obtain⟨t,rfl⟩:=rx;obtain⟨hy,e'⟩:y.length<=sizeLine/\k=((y.length:Int) !=0):=e;subst e';exact PySem.P.truthy_str (by omega) ⟨H,I.tok _,q⟩
 |byt y =>
  obtain⟨t,rfl⟩:=rx;obtain⟨hy,e'⟩:y.size<=sizeLine/\k=((y.size:Int) !=0):=e;subst e';exact W.truthy_bytes (by omega) ⟨H,I.tok _,q⟩
 |ref p =>
  cases rx;have e':(∃xs,SqL X.K H p xs/\k= !xs.isEmpty)\/(∃xs,SqT X.K H p xs/\k= !xs.isEmpty)\/ ∃kvs,H p=some (.dK kvs)/\k= !kvs.isEmpty:=e;rcases e' with⟨xs,hx,e'⟩|⟨xs,hx,e'⟩|⟨kvs,hx,e'⟩
  ·subst e';obtain⟨its,r,pl,hz⟩:=I.list hx;have hlen:=r.length;exact wpAny_truthy_list pl.isList (by simp only[size_toArray];omega) ⟨H,I.tok _,by rw[xX r];exact q⟩
  ·subst e';obtain⟨its,r,pl,hz⟩:=I.tuple hx;have hlen:=r.length;exact truthy_tuple pl (by simp only[size_toArray];omega) ⟨H,I.tok _,by rw[xX r];exact q⟩
  ·subst e';obtain⟨hz,hS,vs,r,m⟩:kvs.length<=sizeLine/\(p==sysModules)=false/\ ∃vs,KV kvs vs/\s.heap.DictOf (yg X.prog X.w) p vs:=I.hok p _ hx;have hlen:kvs.length=vs.length:=Paired.length r;exact wpAny_truthy_dict hS m (by omega) ⟨H,I.tok _,by rw[fG r];exact q⟩
 | _=>exact(show False from e).elim
theorem yh(ha:PE X a ta)(he:∀whole,isTrue a X.env whole=(do let v <-whole;standAt a.pos;holding [v] (truthy v))) :
  PT X a (fun σ H Q=>ta σ H fun x H'=>∃ k,TruV X.K x H' k/\Q k H'):=by
 intro pins s σ H Q I h;exact isTrue_plain (thn (ha pins s σ H _ I h) fun v s1 ⟨x,H1,I1,r1,q1⟩=>KL pins s1 σ H1 x v Q I1 r1 q1) (he _)
theorem yI:OpR X (binaryOp .Add) (fun x y H Q=>∃ i j,x= .str i/\y= .str j/\i.length+j.length<=sizeLine/\Q (.str (i++j)) H):=by
 intro pins s σ H x y v u Q I rx ry h;obtain⟨i,j,rfl,rfl,hz,q⟩:=h;obtain⟨t,rfl⟩:=rx;obtain⟨t',rfl⟩:=ry;exact add_str (fun t' tk=>⟨.str (i++j),H,I.tok _,⟨_,rfl⟩,q⟩) hz
theorem bP:OpR X (inplaceOp .Add) (fun x y H Q=>∃ i j,x= .str i/\y= .str j/\i.length+j.length<=sizeLine/\Q (.str (i++j)) H):=by
 intro pins s σ H x y v u Q I rx ry h;obtain⟨i,j,rfl,rfl,hz,q⟩:=h;obtain⟨t,rfl⟩:=rx;obtain⟨t',rfl⟩:=ry;exact iadd_str (fun t' tk=>⟨.str (i++j),H,I.tok _,⟨_,rfl⟩,q⟩) hz
theorem ua{x:V}{us:List Value}(r:Vals [x] us):∃u,us=[u]/\RelV x u:=by
 cases r with
 |cons r1 r2=>cases r2;exact⟨_,rfl,r1⟩
theorem KM{x y:V}{us:List Value}(r:Vals [x,y] us):∃u w',us=[u,w']/\RelV x u/\RelV y w':=by
 cases r with
 |cons r1 r2 =>
  cases r2 with
  |cons r3 r4=>cases r4;exact⟨_,_,rfl,r1,r3⟩
theorem mY(hc:X.calm=true):wv X (.builtin "min") (fun xs H Q=>∃ i j,xs=[.int i,.int j]/\Q (.int (if j<i then j else i)) H):=by
 intro pins s σ H xs us Q I r h;obtain⟨i,j,rfl,q⟩:=h;obtain⟨u,w',rfl,⟨t,rfl⟩,⟨t',rfl⟩⟩:=KM r;refine min_two_ints (I.ok.hd hc) fun h' tk k=>⟨_,H,I.kept k,?_,q⟩;by_cases hj:j<i
 ·rw[if_pos hj,if_pos hj];exact⟨_,rfl⟩
 ·rw[if_neg hj,if_neg hj];exact⟨_,rfl⟩
theorem kK:wv X (.type "str") (fun xs H Q=>∃ i,xs=[.int i]/\i.natAbs.log2<1920/\Q (.str (toString i)) H):=by
 intro pins s σ H xs us Q I r h;obtain⟨i,rfl,hz,q⟩:=h;obtain⟨u,rfl,t,rfl⟩:=ua r;exact PySem.P.str_of_int hz ⟨.str _,H,I.tok _,⟨_,rfl⟩,q⟩
end
structure ObjM(h:Heap)(x dx C:Addr)(mA:Str->Option Value):Prop where
 obj:h.get? x=some (W.instObj C dx)
 ns:h.Ns1 dx mA
 ne:dx≠x
theorem dD{h:Heap}{dx:Addr}{mA:Str->Option Value}(n:h.Ns1 dx mA):∃od,h.get? dx=some od/\ ∀name,W.lookIn name od=some (mA name):=by
 obtain⟨o,es,ep,ho,hd,hk,_,hm⟩:=n;refine⟨o,ho,fun name=>?_⟩;have e:=hm name;unfold nsFind findBy at e;rw[<-Array.find?_toList]at e;unfold W.lookIn;rw[hd];dsimp only;split
 ·rename_i y q;rw[q]at e;exact congrArg some e
 ·rename_i q;rw[q]at e;have a:es.toList.any (·.refKey)=false:=by
   rw[List.any_eq_false];intro y hy;obtain⟨z,t,hkey⟩:=hk y (Array.mem_toList_iff.mp hy);simp[DictEntry.refKey,hkey]
  have a':¬es.toList.any (·.refKey)=true:=by rw[a];exact Bool.false_ne_true
  rw[if_neg a'];exact congrArg some e
theorem ObjM.look{h:Heap}{x dx C:Addr}{mA:Str->Option Value}(I:ObjM h x dx C mA):∃od,W.InstAt h x (W.instObj C dx) C (some od)/\ ∀name,W.lookIn name od=some (mA name) :=
 let⟨od,ho,hl⟩:=dD I.ns
 ⟨od,⟨I.obj,rfl,rfl,ho⟩,hl⟩
section
variable{prog:Program}{w:World}{A:Around}{E:Value->Shared->Prop}{s:Shared}{K:W.Frag}{x dx C f:Addr}{mA:Str->Option Value}{name:Str}{v:Value}
theorem ZL{expr:Bool}{Q:Value->Shared->Prop}(X:K.In s.heap)(I:ObjM s.heap x dx C mA)(hg:W.plainGet K C name=true)(hh:W.hasDictIn K C=true)(ha:W.findIn K (.ref C) name=some none)(hv:mA name=some v)(hv':W.handedIn v=true)(h:Q v {s with toks:=s.toks+1}) :
  wpAny (model prog w) A (getAttr (.ref x) name expr) Q E s:=by
 obtain⟨od,J,hl⟩:=I.look;exact W.get_value X J (W.plainGet_of hg).1 (W.findObj_own hh ha rfl (by rw[hl,hv])) hv' h
theorem oF{pl:Sem Bool}{Q:Value×List Value->Shared->Prop}(X:K.In s.heap)(I:ObjM s.heap x dx C mA)(hg:W.plainGet K C name=true)(hf:W.findIn K (.ref C) name=some (some (.ref f)))(ht:W.isFn K (.ref f)=true)(hv:mA name=none)(h:Q (.ref f,[.ref x]) s) :
  wpAny (model prog w) A (getMethod (.ref x) name pl) Q E s:=by
 obtain⟨od,J,hl⟩:=I.look;exact W.method_fn X J (W.plainGet_of hg).1 (W.plainGet_of hg).2 hf (beq_iff_eq.mp ht) (by show(W.lookIn name od).map (·.isSome)=some false;rw[hl,hv];rfl) h
theorem Yd{ns:List Str}{Q:Unit->Shared->Prop}(X:K.In s.heap)(I:ObjM s.heap x dx C mA)(hs:W.findIn K (.ref C) "__setattr__"=some (some (.builtin "object.__setattr__")))(hp:W.plainOver K C=true)(ht:W.takerIn K C name=some none)(hh:W.hasDictIn K C=true)(hw:PySem.Within mA ns)(hsz:ns.length<=sizeLine)(h:∀h',ObjM h' x dx C (fun y=>if y=name then some v else mA y)->Heap.SameBut dx s.heap h'->Q () {s with heap:=h',toks:=s.toks+2}) :
  wpAny (model prog w) A (setAttr (.ref x) name v) Q E s:=by
 obtain⟨od,J,hl⟩:=I.look;refine W.set_plain X J hs (W.osa_open (s:={s with toks:=s.toks+1}) (r:=none) X J hp ht fun b=>?_);obtain⟨cd,hc,hd'⟩:=W.any_some hh;have hx:s.heap.get? x=some ⟨.ref C,some dx,.plain,#[]⟩:=I.obj;refine wpAny_bind (wpAny_pure (wpAny_bind (wpAny_bind (wpAny_loadPart hx (wpAny_bind (W.Looks.here (s:={s with toks:=s.toks+1}) (W.looks_clsIn X hc) ?_))))));rw[hd'];refine wpAny_pure (a:=some dx) (wpAny_bind (wpAny_pure (wpAny_bind ?_)));refine wpAny_nsSet1 (s:={s with toks:=s.toks+1}) I.ns fun h' hn2 hs2=>?_;obtain⟨oD,esD,epD,hoD,hdD,hcD⟩:=hn2.count (PySem.Within.cons name v hw);refine wpAny_bind (wpAny_lookBehind hoD (by rw[hdD];exact pastItsLine_dict (le_trans hcD (by rw[length_cons];omega))) ?_);exact wpAny_pure (h _ ⟨(hs2.2 _ (Ne.symm I.ne)).trans I.obj,hn2,I.ne⟩ hs2)
theorem oV{R:Result->Shared->Prop}{vs:List Value}{kw:List (Str×Value)}(X:K.In s.heap)(hm:W.makesIn K C=true)(hi:W.findIn K (.ref C) "__init__"=some (some (.ref f)))(hf:W.typeIn K (.ref f)=some (.type "function"))(h:codeAny (model prog w) (A.under (.builtin "type.__call__" ⟨.ref C::vs,kw⟩)) (.call (.ref f) ⟨.ref (s.heap.objs.size+1)::vs,kw⟩) (W.InitBack (s.heap.objs.size+1) R)
   {s with heap:=(s.heap.push W.emptyDict).push (W.instObj C s.heap.objs.size)}) :
  codeAny (model prog w) A (.call (.ref C) ⟨vs,kw⟩) R s:=by
 obtain⟨hh,g,d,t,os⟩:=s;exact W.make_core (W.makes_of X hm) (W.looks_findIn X hi) (fun self=>W.bind_fn X self hf) (.inl rfl) h
end
def putF(f:Str)(v:V):List (Str×V)->List (Str×V)
 | []=>[(f,v)]
 |(g,x)::r=>if g=f then(g,v)::r else(g,x)::putF f v r
theorem qJ(f g:Str)(v:V):∀fs:List (Str×V),(putF f v fs).lookup g=if g=f then some v else fs.lookup g
 | []=>by
  show List.lookup g [(f,v)]=_;by_cases h:g=f
  ·have hb:(g==f)=true:=beq_iff_eq.mpr h;simp only[List.lookup,hb,if_pos h]
  ·have hb:(g==f)=false:=beq_eq_false_iff_ne.mpr h;simp only[List.lookup,hb,if_neg h]
 |(k,x)::r=>by
  have ih:=qJ f g v r;rw[show putF f v ((k,x)::r)=(if k=f then(k,v)::r else(k,x)::putF f v r)from rfl];by_cases hk:k=f
  ·rw[if_pos hk];by_cases h:g=k
   ·have hb:(g==k)=true:=beq_iff_eq.mpr h;simp only[List.lookup,hb,if_pos (h.trans hk)]
   ·have hb:(g==k)=false:=beq_eq_false_iff_ne.mpr h;simp only[List.lookup,hb,if_neg (fun e:g=f=>h (e.trans hk.symm))]
  ·rw[if_neg hk];by_cases h:g=k
   ·have hb:(g==k)=true:=beq_iff_eq.mpr h;simp only[List.lookup,hb,if_neg (fun e:g=f=>hk (h.symm.trans e))]
   ·have hb:(g==k)=false:=beq_eq_false_iff_ne.mpr h;simp only[List.lookup,hb];exact ih
theorem qB(f:Str)(v:V):∀fs:List (Str×V),f∈(putF f v fs).map (·.1)/\ ∀g,g∈fs.map (·.1)->g∈(putF f v fs).map (·.1)
 | []=>⟨by simp[putF],fun g h=>by simp at h⟩
 |(k,x)::r=>by
  obtain⟨i1,i2⟩:=qB f v r;rw[show putF f v ((k,x)::r)=(if k=f then(k,v)::r else(k,x)::putF f v r)from rfl];by_cases hk:k=f
  ·rw[if_pos hk];subst hk;exact⟨by simp,fun g h=>by simpa using h⟩
  ·rw[if_neg hk];refine⟨?_,fun g h=>?_⟩
   ·rw[map_cons];exact mem_cons_of_mem _ i1
   ·rw[map_cons]at h ⊢;rcases mem_cons.mp h with e|e
    ·exact mem_cons.mpr (.inl e)
    ·exact mem_cons_of_mem _ (i2 g e)
theorem qC(f:Str)(v:V):∀fs:List (Str×V),(putF f v fs).length<=fs.length+1
 | []=>by simp[putF]
 |(k,x)::r=>by
  have ih:=qC f v r;rw[show putF f v ((k,x)::r)=(if k=f then(k,v)::r else(k,x)::putF f v r)from rfl];by_cases hk:k=f
  ·rw[if_pos hk,length_cons,length_cons];omega
  ·rw[if_neg hk,length_cons,length_cons];omega
theorem RelO.some_of{v:V}{o:Option Value}(r:RelO (some v) o):∃u,o=some u/\RelV v u:=by
 cases o with
 |none=>exact(show False from r).elim
 |some u=>exact⟨u,rfl,r⟩
theorem RelO.none_of{o:Option Value}(r:RelO none o):o=none:=by
 cases o with
 |none=>rfl
 |some u=>exact(show False from r).elim
theorem dh{v:V}{u:Value}(r:RelV v u):W.handedIn u=true:=by
 cases v with
 |non=>cases(show u=Value.none from r);rfl
 |bl b=>cases(show u=Value.bool b from r);rfl
 |int i=>obtain⟨t,e⟩:=(show ∃t,u=Value.int i t from r);cases e;rfl
 |str x=>obtain⟨t,e⟩:=(show ∃t,u=Value.str x t from r);cases e;rfl
 |byt b=>obtain⟨t,e⟩:=(show ∃t,u=Value.bytes b t from r);cases e;rfl
 |flt b=>obtain⟨t,e⟩:=(show ∃t,u=Value.float b t from r);cases e;rfl
 |ref a=>cases(show u=Value.ref a from r);rfl
 |ty n=>cases(show u=Value.type n from r);rfl
section
variable{P:Program}{w:World}{H H':Hp}{h h':Heap}{a C dx:Addr}{fs fs':List (Str×V)}
theorem tD(hok:HOk P w H h)(e:H a=some (.ins C dx fs)):∃mA,ObjM h a dx C mA/\(∀f,RelO (fs.lookup f) (mA f))/\PySem.Within mA (fs.map (·.1))/\fs.length<=1000/\H dx=some (.own a):=by
 obtain⟨d,z,ne,ob,mA,n,r,q⟩:=(show zS P w H h a (.ins C dx fs)from hok a _ e);exact⟨mA,⟨ob,n,ne⟩,r,q,z,d⟩
end
structure Cls(K:W.Frag)(C:Addr):Prop where
 pg:W.plainGet K C Str.empty=true
 hd:W.hasDictIn K C=true
 po:W.plainOver K C=true
 sa:W.findIn K (.ref C) "__setattr__"=some (some (.builtin "object.__setattr__"))
theorem Cls.get{K:W.Frag}{C:Addr}(c:Cls K C)(f:Str):W.plainGet K C f=true:=c.pg
def kX(K:W.Frag)(C:Addr)(f:Str):Prop:=W.findIn K (.ref C) f=some none
theorem kX.taker{K:W.Frag}{C:Addr}{f:Str}(n:kX K C f):W.takerIn K C f=some none:=by
 unfold W.takerIn;rw[show W.findIn K (.ref C) f=some none from n];rfl
structure Meth(K:W.Frag)(C:Addr)(m:Str)(f:Addr):Prop where
 at_:W.findIn K (.ref C) m=some (some (.ref f))
 fn:W.isFn K (.ref f)=true
 kp:W.keepIn K (.ref f)=true
section
variable{X:Cx}{pins:List (Addr×Obj)}{σ:St}{H:Hp}{s:Shared}{a C dx:Addr}{fs:List (Str×V)}{f:Str}{v:V}{A:Around}{E:Value->Shared->Prop}
theorem fE{b:Bool}{Q:Value->Shared->Prop}(I:Inv X pins σ H s)(e:H a=some (.ins C dx fs))(c:Cls X.K C)(n:kX X.K C f)(l:fs.lookup f=some v)(h:∀u s',Inv X pins σ H s'->RelV v u->Q u s'):wpAny (model X.prog X.w) A (getAttr (.ref a) f b) Q E s:=by
 obtain⟨mA,O,r,_,_,_⟩:=tD I.hok e;obtain⟨u,hu,ru⟩:=RelO.some_of (v:=v) (o:=mA f) (by rw[<-l];exact r f);exact ZL I.kIn O (c.get f) c.hd n hu (dh ru) (h u _ (I.tok _) ru)
theorem vm{m:Str}{g:Addr}{pl:Sem Bool}{Q:Value×List Value->Shared->Prop}(I:Inv X pins σ H s)(e:H a=some (.ins C dx fs))(c:Cls X.K C)(k:Meth X.K C m g)(l:fs.lookup m=none)(h:Q (.ref g,[.ref a]) s):wpAny (model X.prog X.w) A (getMethod (.ref a) m pl) Q E s:=by
 obtain⟨mA,O,r,_,_,_⟩:=tD I.hok e;have hn:mA m=none:=RelO.none_of (by rw[<-l];exact r m);exact oF I.kIn O (c.get m) k.at_ k.fn hn h
theorem ik{y:V}{u:Value}{Q:Unit->Shared->Prop}(I:Inv X pins σ H s)(e:H a=some (.ins C dx fs))(c:Cls X.K C)(n:kX X.K C f)(hl:fs.length<1000)(ry:RelV y u)(h:∀s',Inv X pins σ (upd H a (.ins C dx (putF f y fs))) s'->Q () s'):wpAny (model X.prog X.w) A (setAttr (.ref a) f u) Q E s:=by
 obtain⟨mA,O,r,wi,_,ho⟩:=tD I.hok e;have hz:(fs.map (·.1)).length<=sizeLine:=by rw[length_map,sizeLine_eq];omega
 refine Yd I.kIn O c.sa c.po n.taker c.hd wi hz fun h' O' sb=>h _ ?_;have hd:∃o,h'.get? dx=some o:=let⟨o,_,_,e',_⟩:=O'.ns;⟨o,e'⟩
 refine I.write (x:=a) (e:=dx) (by rw[e];exact True.intro) (.inr ho) (fun b q hb z=>(sb.2 b hb).trans z) hd ?_;refine⟨by rw[zh O.ne];exact ho,?_,O.ne,O'.obj,_,O'.ns,fun g=>?_,fun g hg=>?_⟩
 ·have:=qC f y fs;omega
 ·show RelO ((putF f y fs).lookup g) (if g=f then some u else mA g);rw[qJ];by_cases q:g=f
  ·rw[if_pos q,if_pos q];exact ry
  ·rw[if_neg q,if_neg q];exact r g
 ·by_cases q:g=f
  ·rw[q];exact(qB f y fs).1
  ·refine(qB f y fs).2 g (wi g fun z=>hg ?_);show(if g=f then some u else mA g)=none;rw[if_neg q];exact z
theorem Inv.made(I:Inv X pins σ H s):Inv X pins σ (upd (upd H s.heap.objs.size (.own (s.heap.objs.size+1))) (s.heap.objs.size+1) (.ins C s.heap.objs.size []))
  {s with heap:=(s.heap.push W.emptyDict).push (W.instObj C s.heap.objs.size)}:=by
 have e1:(s.heap.push W.emptyDict).get? s.heap.objs.size=some W.emptyDict:=Heap.get?_push_size s.heap rfl;have e2:((s.heap.push W.emptyDict).push (W.instObj C s.heap.objs.size)).get? (s.heap.objs.size+1)=some (W.instObj C s.heap.objs.size):=by
  have:=Heap.get?_push_size (s.heap.push W.emptyDict) (o:=W.instObj C s.heap.objs.size) rfl
  rwa [Heap.size_push]at this
 have e3:(s.heap.push W.emptyDict).Ns s.heap.objs.size (fun _=>none):=⟨W.emptyDict,#[],_,e1,rfl,(fun e he=>absurd he (by simp)),fun _=>rfl⟩;have I1:=I.laid (a:=s.heap.objs.size) (o:=.own (s.heap.objs.size+1)) (h':=s.heap.push W.emptyDict) (t':=s.toks) (fun b u q=>Heap.get?_push_of_some _ q) (le_refl _) ⟨_,e1⟩;refine I1.laid (a:=s.heap.objs.size+1) (o:=.ins C s.heap.objs.size []) (t':=s.toks) (fun b u q=>Heap.get?_push_of_some _ q) (Nat.le_of_eq (Heap.size_push _ _)) ?_;have ne:s.heap.objs.size≠s.heap.objs.size+1:=ne_of_lt (Nat.lt_succ_self _);refine⟨by rw[zh ne,z6],zero_le _,ne,e2,fun _=>none,(Heap.Ns1.of_empty e3).at fun o q=>Heap.get?_push_of_some _ q,fun _=>True.intro,fun y hy=>absurd rfl hy⟩
theorem iz{prog:Program}{w:World}{env:Env}{e:Expr}{f:Str}{pos:Pos}{s:Shared}{Q:Value->Shared->Prop}(hb:attributeBase e f env (eval e env)=eval e env)(h:wpAny (model prog w) A (eval e env) (fun o s₁=>wpAny (model prog w) A (getAttr o f true) Q E s₁) E s):wpAny (model prog w) A (eval (.Attribute e f pos) env) Q E s :=
 Attribute_any_ h (by rw[arm_eval_Attribute,hb])
end
def tFld(K:W.Frag)(ta:TE)(f:Str):TE:=fun σ H Q=>ta σ H fun x H1=>∃ a C dx fs v,x= .ref a/\H1 a=some (.ins C dx fs)/\Cls K C/\kX K C f/\fs.lookup f=some v/\Q v H1
def sFld(K:W.Frag)(ta tv:TE)(f:Str):TS:=fun D σ H=>tv σ H fun y H1=>ta σ H1 fun x H2=>∃ a C dx fs,x= .ref a/\H2 a=some (.ins C dx fs)/\Cls K C/\kX K C f/\fs.length<1000/\
 D.nx σ (upd H2 a (.ins C dx (putF f y fs)))
section
variable{X:Cx}{o e value:Expr}{f:Str}{pos pos' tpos:Pos}{ta tv:TE}
theorem kY(he:PE X e ta)(hb:attributeBase e f X.env (eval e X.env)=eval e X.env):PE X (.Attribute e f pos) (tFld X.K ta f):=by
 intro pins s σ H Q I h;refine iz hb (thn (he pins s σ H _ I h) fun u s1 ⟨x,H1,I1,rx,a,C,dx,fs,v,ex,ea,c,n,l,q⟩=>?_);subst ex;obtain rfl:u=Value.ref a:=rx;exact fE I1 ea c n l fun u' s2 I2 ru=>⟨v,H1,I2,ru,q⟩
theorem gL(ha:PE X o ta)(hv:PE X value tv)(hs:swapsWith value (some (.Attribute o f pos')) pos.line X.env=pure false):PS X (.Assign [.Attribute o f pos'] value pos) (sFld X.K ta tv f):=by
 intro pins s σ H D I h;refine plainObj_wpAny_Assign_Attribute (thn (hv pins s σ H _ I h) fun u s1 ⟨y,H1,I1,ry,q⟩=>thn (ha pins s1 σ H1 _ I1 q) fun ov s2 ⟨x,H2,I2,rx,a,C,dx,fs,ex,ea,c,n,l,q2⟩=>?_) hs;subst ex;obtain rfl:ov=Value.ref a:=rx;exact ik I2 ea c n l ry fun s3 I3=>⟨σ,_,I3,q2⟩
end
section
variable{X:Cx}{pins:List (Addr×Obj)}{σ:St}{H:Hp}{s:Shared}{A:Around}{E:Value->Shared->Prop}{Q:Value->Shared->Prop}{c:Value}{b:Bool}
inductive TyOf(K:W.Frag)(H:Hp):V->Value->Prop where
 |non:TyOf K H .non (.type "NoneType")
 |bl (x:Bool):TyOf K H (.bl x) (.type "bool")
 |int (i:Int):TyOf K H (.int i) (.type "int")
 |str (x:Str):TyOf K H (.str x) (.type "str")
 |flt (x:UInt64):TyOf K H (.flt x) (.type "float")
 |lst {a:Addr} {xs:List V} (e:H a=some (.lst xs)):TyOf K H (.ref a) (.type "list")
 |frz {a:Addr} {o:Obj} {xs:List V} (e:H a=some (.frz o (.lst xs))):TyOf K H (.ref a) (.type "list")
 |tup {a:Addr} {xs:List V} (e:H a=some (.tup xs)):TyOf K H (.ref a) (.type "tuple")
 |dK {a:Addr} {kvs:List (Key×V)} (e:H a=some (.dK kvs)):TyOf K H (.ref a) (.type "dict")
 |dT {a:Addr} {kvs:List (List Key×V)} (e:H a=some (.dT kvs)):TyOf K H (.ref a) (.type "dict")
 |ins {a C dx:Addr} {fs:List (Str×V)} (e:H a=some (.ins C dx fs)) (cl:Cls K C) (ha:W.findIn K (.ref C) "__class__"=some (some (.builtin "object.__class__")))
   (hn:W.specialIn K (.builtin "object.__class__") "__get__"=some (some (.builtin "getset_descriptor.__get__"))) (htk:W.takesIn K (.builtin "object.__class__")=some true)
   (hm:W.mroIn K C (.type "object")=some true):TyOf K H (.ref a) (.ref C)
theorem li{x:V}{u t:Value}(I:Inv X pins σ H s)(rx:RelV x u)(ty:TyOf X.K H x t)(e:W.kitOne X.K t c=some b)(h:∀tk,Q (.bool b) {s with toks:=tk}) :
  wpAny (model X.prog X.w) A (call (.builtin "isinstance") [u,c]) Q E s:=by
 cases ty with
 |non=>cases(show u=Value.none from rx);exact W.kia_one W.kitx_none I.kIn True.intro e (fun z=>nomatch z) h
 |bl y=>cases(show u=Value.bool y from rx);exact W.kia_one W.kitx_bool I.kIn True.intro e (fun z=>nomatch z) h
 |int i=>obtain⟨t,q⟩:=(show ∃t,u=Value.int i t from rx);cases q;exact W.kia_one W.kitx_int I.kIn True.intro e (fun z=>nomatch z) h
 |str y=>obtain⟨t,q⟩:=(show ∃t,u=Value.str y t from rx);cases q;exact W.kia_one W.kitx_str I.kIn True.intro e (fun z=>nomatch z) h
 |flt y=>obtain⟨t,q⟩:=(show ∃t,u=Value.float y t from rx);cases q;exact W.kia_one W.kitx_float I.kIn True.intro e (fun z=>nomatch z) h
 | @lst a xs ea =>
  cases(show u=Value.ref a from rx);obtain⟨_,_,n,_,h1⟩:=(show zS X.prog X.w H s.heap a (.lst xs)from I.hok a _ ea);exact W.kia_one W.kitx_list I.kIn ⟨_,h1,rfl⟩ e (fun z=>nomatch z) h
 | @frz a ob xs ea =>
  cases(show u=Value.ref a from rx);obtain⟨_,_,_,n,_,h1⟩:=(show zS X.prog X.w H s.heap a (.frz ob (.lst xs))from I.hok a _ ea);exact W.kia_one W.kitx_list I.kIn ⟨_,h1,rfl⟩ e (fun z=>nomatch z) h
 | @tup a xs ea =>
  cases(show u=Value.ref a from rx);obtain⟨_,_,_,p,_⟩:=(show zS X.prog X.w H s.heap a (.tup xs)from I.hok a _ ea);obtain⟨o,h1,h2,_⟩:=p;exact W.kia_one W.kitx_tuple I.kIn ⟨o,h1,h2⟩ e (fun z=>nomatch z) h
 | @dK a kvs ea =>
  cases(show u=Value.ref a from rx);obtain⟨_,_,vs,_,p⟩:=(show zS X.prog X.w H s.heap a (.dK kvs)from I.hok a _ ea);obtain⟨o,es,ep,h1,h2,_⟩:=p;exact W.kia_one W.kitx_dict I.kIn ⟨o,h1,h2.1⟩ e (fun z=>nomatch z) h
 | @dT a kvs ea =>
  cases(show u=Value.ref a from rx);obtain⟨_,_,xs,_,o,es,ep,h1,h2,_⟩:=(show zS X.prog X.w H s.heap a (.dT kvs)from I.hok a _ ea);exact W.kia_one W.kitx_dict I.kIn ⟨o,h1,h2.1⟩ e (fun z=>nomatch z) h
 | @ins a C dx fs ea cl ha hn htk hm =>
  cases(show u=Value.ref a from rx);obtain⟨mA,O,_⟩:=tD I.hok ea;obtain⟨od,J,_⟩:=O.look;exact W.kia_one (W.kitx_own (cl.get _) cl.hd ha hn htk hm) I.kIn J e (fun z=>nomatch z) h
end
structure Room(k:Nat)(A:Around)(cm:Bool:=true):Prop where
 hd:cm=true->A.handled=none
 dp:A.depth+3*k+5<recursionLimit
 un:A.units+16*k+200<cLine
theorem Room.mono{j k:Nat}{A:Around}{cm:Bool}(r:Room k A cm)(h:j<=k):Room j A cm:=⟨r.hd,by have:=r.dp;omega,by have:=r.un;omega⟩
theorem Room.deeper{k:Nat}{A:Around}{cm:Bool}(r:Room (k+1) A cm)(env:Env):Room k (A.deeper env) cm :=
 ⟨r.hd,by have:=r.dp;show A.depth+1+3*k+5<_;omega,by have:=r.un;show A.units+3+16*k+200<_;omega⟩
theorem fH{A:Around}{C:Addr}{us:List Value}{kw:List (Str×Value)}:(A.under (.builtin "type.__call__" ⟨.ref C::us,kw⟩)).depth=A.depth+1:=by
 first|rfl|simp[Around.under,Code.weight,Code.isCreation,Code.isGuard,Code.isCaller,Code.frames,Code.isFrame,guardIds]
theorem fJ{A:Around}{C:Addr}{us:List Value}{kw:List (Str×Value)}:(A.under (.builtin "type.__call__" ⟨.ref C::us,kw⟩)).units=A.units+1:=by
 first|rfl|simp[Around.under,Code.cUnits,Code.frames,Code.isFrame]
theorem Room.make{k:Nat}{A:Around}{cm:Bool}(r:Room (k+1) A cm)(C:Addr)(us:List Value)(kw:List (Str×Value)):Room k (A.under (.builtin "type.__call__" ⟨.ref C::us,kw⟩)) cm :=
 ⟨r.hd,by have:=r.dp;rw[fH];omega,by have:=r.un;rw[fJ];omega⟩
theorem Room.depth{k:Nat}{A:Around}{cm:Bool}(r:Room k A cm):A.depth<recursionLimit:=by have:=r.dp;omega
theorem Room.units{k:Nat}{A:Around}{cm:Bool}(r:Room k A cm):A.units+64<cLine:=by have:=r.un;omega
def tNil:TA:=fun _ H Q=>Q [] H
def aO(ta:TE)(tr:TA):TA:=fun σ H Q=>ta σ H fun x H1=>tr σ H1 fun xs H2=>Q (x::xs) H2
section
variable{X:Cx}{e:Expr}{es:List Expr}{te:TE}{t:TA}{pos:Pos}
theorem ku:PA X [] tNil:=fun _ _ _ _ H Q I h=>Calls.spliced_nil ⟨[],H,I,.nil,h⟩
theorem zW(ha:PE X e te)(hr:PA X es t)(hs:starEach (e::es) X.env=(false,eval e X.env)::starEach es X.env:=by rfl):PA X (e::es) (aO te t):=by
 intro pos pins s σ H Q I h;rw[hs];show wpAny _ _ (spliced ((false,eval e X.env)::backTo pos (starEach es X.env))) _ _ s;refine Calls.spliced_cons (thn (ha pins s σ H _ I h) fun u s1 ⟨x,H1,I1,r1,q1⟩=>?_);exact thn (hr pos pins s1 σ H1 _ I1 q1) fun us s2 ⟨xs,H2,I2,r2,q2⟩=>⟨x::xs,H2,I2,.cons r1 r2,q2⟩
def tTup(t:TA):TE:=fun σ H Q=>t σ H fun xs H1=>xs.length<=sizeLine/\ ∀p,H1 p=none->Q (.ref p) (upd H1 p (.tup xs))
def tLst(t:TA):TE:=fun σ H Q=>t σ H fun xs H1=>xs.length<=sizeLine/\ ∀p,H1 p=none->Q (.ref p) (upd H1 p (.lst xs))
theorem zI{x1}(h:PA X es t):PE X (.Tuple es x1 pos) (tTup t):=by
 intro pins s σ H Q I hq;refine wpAny_Tuple_spliced (thn (h pos pins s σ H _ I hq) fun us s1 ⟨xs,H1,I1,r,z,q⟩=>⟨by rw[<-r.length];exact z,?_⟩);have hf:H1 s1.heap.objs.size=none:=I1.hok.fresh (le_refl _);refine⟨.ref s1.heap.objs.size,upd H1 s1.heap.objs.size (.tup xs),I1.laid (t':=s1.toks) (fun b u e=>Heap.get?_push_of_some _ e) (le_refl _) ?_,rfl,q _ hf⟩;exact⟨z,us,r,⟨_,Heap.get?_push_size _ rfl,rfl,_,rfl⟩,jS⟩
theorem yd(h:PA X es t):PE X (.List es pos) (tLst t):=by
 intro pins s σ H Q I hq;refine wpAny_List_spliced (thn (h pos pins s σ H _ I hq) fun us s1 ⟨xs,H1,I1,r,z,q⟩=>⟨by rw[<-r.length];exact z,?_⟩);have hf:H1 s1.heap.objs.size=none:=I1.hok.fresh (le_refl _);refine⟨.ref s1.heap.objs.size,upd H1 s1.heap.objs.size (.lst xs),I1.laid (t':=s1.toks) (fun b u e=>Heap.get?_push_of_some _ e) (le_refl _) ?_,rfl,q _ hf⟩;exact⟨z,us,0,r,Heap.get?_push_size _ rfl⟩
end
abbrev Sp:=List V->Hp->VK->XK->Prop
abbrev CXT:=List Env->Hp->Shared->XK->Value->Shared->Prop
structure Env0(P:Program)(w:World)(K:W.Frag)(mg:Str->Option Value)(base:Heap)(A:Around)(outer:List Env)(s:Shared)(H:Hp):Prop where
 frames:A.frames=some outer
 mod:Mod K mg base
 bs:∀b o,base.get? b=some o->s.heap.get? b=some o/\H b=none
 bsz:base.objs.size<=s.heap.objs.size
 funs:s.heap.FunFrames base outer
 frf:∀b∈frs outer,H b=none
 hok:HOk P w H s.heap
 bare:AllBare s.gens
def CE(outer:List Env)(P:Program)(w:World)(H:Hp)(s:Shared)(Q:VK)(u:Value)(s':Shared):Prop :=
 ∃v H',s'.os=s.os/\AllBare s'.gens/\Un (frs outer) [] H H' s.heap s'.heap/\HOk P w H' s'.heap/\RelV v u/\Q v H'
def CR(CX:CXT)(outer:List Env)(P:Program)(w:World)(H:Hp)(s:Shared)(Q:VK)(E:XK)(r:Result)(s':Shared):Prop :=
 match r with
 | .ok (.ret u)=>CE outer P w H s Q u s'
 | .ok _=>False
 | .error e=>CX outer H s E e s'
structure FnOk(P:Program)(w:World)(K:W.Frag)(mg:Str->Option Value)(base:Heap)(CX:CXT)(k:Nat)(f:Addr)(fd:FuncData)(ps:List Str)(sp:Sp)(cm:Bool:=true):Prop where
 len:∀vs H Q E,sp vs H Q E->vs.length=ps.length
 run:∀(A:Around)(outer:List Env)(s:Shared)(H:Hp)(args:Args)(us:List Value)(vs:List V)(Q:VK)(E:XK),Room k A cm->Env0 P w K mg base A outer s H->BindsTo s fd args (ps.zip us)->Vals vs us->sp vs H Q E->
  codeAny (model P w) A (.call (.ref f) args) (CR CX outer P w H s Q E) s
theorem Env0.make{P:Program}{w:World}{K:W.Frag}{mg:Str->Option Value}{base:Heap}{A:Around}{outer:List Env}{s:Shared}{H:Hp}(e:Env0 P w K mg base A outer s H)(C:Addr)(us:List Value)(kw:List (Str×Value)) :
  Env0 P w K mg base (A.under (.builtin "type.__call__" ⟨.ref C::us,kw⟩)) outer s H:=⟨by first|exact e.frames|(simpa [Around.under,Code.envs,Code.isFrame,pushEnvs]using e.frames),e.mod,e.bs,e.bsz,e.funs,e.frf,e.hok,e.bare⟩
section
variable{X:Cx}{pins:List (Addr×Obj)}{σ:St}{H:Hp}{s s':Shared}
theorem Inv.env0(I:Inv X pins σ H s):Env0 X.prog X.w X.K X.mg X.base X.A X.stack s H :=
 ⟨I.ok.frames,I.ok.mod,I.bs,le_trans I.ok.bsz I.sz,I.stack,I.stkFree,I.hok,I.bare⟩
theorem Inv.after{Q:VK}{u:Value}(I:Inv X pins σ H s)(h:CE X.stack X.prog X.w H s Q u s'):EP X pins σ Q u s':=by
 obtain⟨v,H',os,bare,un,hok,r,q⟩:=h;obtain⟨hh,g,d,t,os'⟩:=s';obtain rfl:os'=s.os:=os;exact⟨v,H',I.call (h':=hh) (g':=g) (d':=d) (t':=t) (ch:=[]) un hok bare (fun b z=>absurd z (by simp)),r,q⟩
end
def Kq(sp:Sp)(dvs:List V)(E:XK)(t:TA):TE:=fun σ H Q=>t σ H fun vs H1=>sp (vs++dvs) H1 Q E
def Kv(C:Addr)(m:Str)(sp:Sp)(dvs:List V)(E:XK)(ta:TE)(t:TA):TE:=fun σ H Q=>ta σ H fun x H1=>∃ a dx fs,x= .ref a/\H1 a=some (.ins C dx fs)/\fs.lookup m=none/\
 t σ H1 fun vs H2=>sp (x::(vs++dvs)) H2 Q E
def Jz(C:Addr)(sp:Sp)(dvs:List V)(E:XK)(t:TA):TE:=fun σ H Q=>t σ H fun vs H1=>∀ x dx,H1 x=none->H1 dx=none->dx≠x->
 sp (.ref x::(vs++dvs)) (upd (upd H1 dx (.own x)) x (.ins C dx [])) (fun v H2=>v= .non/\Q (.ref x) H2) E
def ux(K:W.Frag)(fd:FuncData)(ps:List Str)(ds:List Value):Prop :=
 ∀(s:Shared)(us:List Value),K.In s.heap->(us++ds).length=ps.length->BindsTo s fd ⟨us,[]⟩ (ps.zip (us++ds))
theorem ux.all{K:W.Frag}{fd:FuncData}{ps:List Str}(h:∀us:List Value,us.length=ps.length->bindArgs fd ⟨us,[]⟩=pure (ps.zip us)):ux K fd ps []:=fun s us _ hl=>by
 rw[append_nil]at hl ⊢;exact .of_eq (h us hl)
def jE(CX:CXT)(X:Cx)(E:XK):Prop:=∀(pins:List (Addr×Obj))(σ:St)(H:Hp)(s:Shared)(e:Value)(s':Shared),Inv X pins σ H s->CX X.stack H s E e s'->X.xe e s'
section
variable{cm:Bool}{X:Cx}{CX:CXT}{k:Nat}{f C:Addr}{fd:FuncData}{ps:List Str}{sp:Sp}{dvs:List V}{ds:List Value}{E:XK}{x m:Str}{p pos apos:Pos}{e o:Expr}{es:List Expr}{ta:TE}{t:TA}
theorem eV{pins:List (Addr×Obj)}{σ:St}{H:Hp}{s:Shared}{Q:VK}{us:List Value}{vs:List V}(F:FnOk X.prog X.w X.K X.mg X.base CX k f fd ps sp cm)(hr:Room k X.A cm)(hb:ux X.K fd ps ds)(hd:Vals dvs ds)(hx:jE CX X E)(I:Inv X pins σ H s)(r:Vals vs us)(h:sp (vs++dvs) H Q E):wpAny (model X.prog X.w) X.A (call (.ref f) us) (EP X pins σ Q) X.xe s:=by
 have r2:Vals (vs++dvs) (us++ds):=r.append hd;have hl:(us++ds).length=ps.length:=by rw[<-r2.length];exact F.len _ _ _ _ h
 refine wpAny_call (codeAny_mono (F.run X.A X.stack s H ⟨us,[]⟩ (us++ds) (vs++dvs) Q E hr I.env0 (hb s us I.kIn hl) r2 h) fun r s' hq=>?_);cases r with
 |error e=>exact hx pins σ H s e s' I hq
 |ok fl =>
  cases fl with
  |ret u=>exact I.after hq
  |next=>exact False.elim hq
  |brk=>exact False.elim hq
  |cont=>exact False.elim hq
theorem yc(F:FnOk X.prog X.w X.K X.mg X.base CX k f fd ps sp cm)(hr:Room k X.A cm)(hg:Gl X x)(hm:X.mg x=some (.ref f))(hk:W.keepIn X.K (.ref f)=true)(hb:ux X.K fd ps ds)(hd:Vals dvs ds)(hx:jE CX X E)(ha:PA X (e::es) t)(hdb:(x==("__debug__" : Str))=false:=by decide)(he:starEach (e::es) X.env=(false,eval e X.env)::starEach es X.env:=by rfl)(hpl:(backTo pos (starEach es X.env)).any (·.1)=false:=by rfl) :
  PE X (.Call (.Name x p) (e::es) [] pos) (Kq sp dvs E t):=by
 intro pins s σ H Q I h;refine wpAny_Call_Name_kw (vq I hg hm ?_ hdb);refine W.callWith_K (h₀:=X.base) I.ok.mod.kin hk (thn (ha pos pins s σ H _ I h) fun us s1 ⟨vs,H1,I1,r,q⟩=>⟨I1.kIn,?_⟩) he hpl;exact eV F hr hb hd hx I1 r q
theorem m7{pl:Sem Bool}(he:PE X o ta)(c:Cls X.K C)(hm:Meth X.K C m f)(F:FnOk X.prog X.w X.K X.mg X.base CX k f fd ps sp cm)(hr:Room k X.A cm)(hb:ux X.K fd ps ds)(hd:Vals dvs ds)(hx:jE CX X E)(ha:PA X (e::es) t)(hst:starEach (e::es) X.env=(false,eval e X.env)::starEach es X.env:=by rfl)(hpl:(backTo pos (starEach es X.env)).any (·.1)=false:=by rfl)(ht:eval (.Call (.Attribute o m apos) (e::es) [] pos) X.env=(do
   let ov <-eval o X.env
   standAt apos.atName
   let(f,first) <-holding [ov] (getMethod ov m pl)
   callWith pos f first (backTo pos (starEach (e::es) X.env)) (backToKw pos (keywordEach [] X.env))):=by rfl) :
  PE X (.Call (.Attribute o m apos) (e::es) [] pos) (Kv C m sp dvs E ta t):=by
 intro pins s σ H Q I h;refine W.methodCall_KW (pl:=pl) (thn (he pins s σ H _ I h) fun u s1 ⟨x,H1,I1,rx,a,dx,fs,ex,ea,l,q⟩=>?_) ht;subst ex;obtain rfl:u=Value.ref a:=rx;refine vm I1 ea c hm l ?_;refine W.callWith_K (first:=[.ref a]) (h₀:=X.base) I.ok.mod.kin hm.kp (thn (ha pos pins s1 σ H1 _ I1 q) fun us s2 ⟨vs,H2,I2,r,q2⟩=>⟨I2.kIn,?_⟩) hst hpl;exact eV (us:=.ref a::us) (vs:=.ref a::vs) F hr hb hd hx I2 (.cons rfl r) q2
theorem eQ{pl:Sem Bool}(he:PE X o ta)(c:Cls X.K C)(hm:Meth X.K C m f)(F:FnOk X.prog X.w X.K X.mg X.base CX k f fd ps sp cm)(hr:Room k X.A cm)(hb:ux X.K fd ps ds)(hd:Vals dvs ds)(hx:jE CX X E)(ht:eval (.Call (.Attribute o m apos) [] [] pos) X.env=(do
   let ov <-eval o X.env
   standAt apos.atName
   let(f,first) <-holding [ov] (getMethod ov m pl)
   callWith pos f first (backTo pos (starEach [] X.env)) (backToKw pos (keywordEach [] X.env))):=by rfl) :
  PE X (.Call (.Attribute o m apos) [] [] pos) (Kv C m sp dvs E ta tNil):=by
 intro pins s σ H Q I h;refine W.methodCall_KW (pl:=pl) (thn (he pins s σ H _ I h) fun u s1 ⟨x,H1,I1,rx,a,dx,fs,ex,ea,l,q⟩=>?_) ht;subst ex;obtain rfl:u=Value.ref a:=rx;refine vm I1 ea c hm l ?_;exact W.callWith_K0 (first:=[.ref a]) I1.kIn hm.kp (eV (us:=[.ref a]) (vs:=[.ref a]) F hr hb hd hx I1 (.cons rfl .nil) q)
structure Mk(K:W.Frag)(C f:Addr):Prop where
 makes:W.makesIn K C=true
 init:W.findIn K (.ref C) "__init__"=some (some (.ref f))
 fn:W.isFn K (.ref f)=true
 kp:W.keepIn K (.ref C)=true
theorem Z2{pins:List (Addr×Obj)}{σ:St}{H:Hp}{s:Shared}{Q:VK}{us:List Value}{vs:List V}(M:Mk X.K C f)(F:FnOk X.prog X.w X.K X.mg X.base CX k f fd ps sp cm)(hr:Room (k+1) X.A cm)(hb:ux X.K fd ps ds)(hd:Vals dvs ds)(hx:jE CX X E)(I:Inv X pins σ H s)(r:Vals vs us)(h:∀x dx,H x=none->H dx=none->dx≠x->sp (.ref x::(vs++dvs)) (upd (upd H dx (.own x)) x (.ins C dx [])) (fun v H2=>v= .non/\Q (.ref x) H2) E) :
  wpAny (model X.prog X.w) X.A (call (.ref C) us) (EP X pins σ Q) X.xe s:=by
 have hq:=h (s.heap.objs.size+1) s.heap.objs.size (I.hok.fresh (le_succ _)) (I.hok.fresh (le_refl _)) (ne_of_lt (Nat.lt_succ_self _));have I2:=Inv.made (C:=C) I;have r2:Vals (V.ref (s.heap.objs.size+1)::(vs++dvs)) (Value.ref (s.heap.objs.size+1)::(us++ds)):=.cons rfl (r.append hd);have hl:(Value.ref (s.heap.objs.size+1)::us++ds).length=ps.length:=by
  have e:=r2.length;rw[F.len _ _ _ _ hq]at e;exact e.symm
 refine wpAny_call (oV (f:=f) I.kIn M.makes M.init (beq_iff_eq.mp M.fn) (codeAny_mono (F.run _ X.stack _ _ ⟨Value.ref (s.heap.objs.size+1)::us,[]⟩ (Value.ref (s.heap.objs.size+1)::(us++ds)) _ _ E (hr.make C us [])
  (I2.env0.make C us []) (hb _ (Value.ref (s.heap.objs.size+1)::us) I2.kIn hl) r2 hq) fun r s' hq'=>?_))
 cases r with
 |error e=>exact hx pins σ _ _ e s' I2 hq'
 |ok fl =>
  cases fl with
  |ret u =>
   obtain⟨v,H',I3,rv,ev,q3⟩:=I2.after hq';subst ev;exact⟨rv,⟨V.ref (s.heap.objs.size+1),H',I3,rfl,q3⟩⟩
  |next=>exact False.elim hq'
  |brk=>exact False.elim hq'
  |cont=>exact False.elim hq'
theorem sw(M:Mk X.K C f)(F:FnOk X.prog X.w X.K X.mg X.base CX k f fd ps sp cm)(hr:Room (k+1) X.A cm)(hg:Gl X x)(hm:X.mg x=some (.ref C))(hb:ux X.K fd ps ds)(hd:Vals dvs ds)(hx:jE CX X E)(hdb:(x==("__debug__" : Str))=false:=by decide):PE X (.Call (.Name x p) [] [] pos) (Jz C sp dvs E tNil):=by
 intro pins s σ H Q I h;refine wpAny_Call_Name_kw (vq I hg hm ?_ hdb);exact W.callWith_K0 I.kIn M.kp (Z2 (us:=[]) M F hr hb hd hx I .nil h)
end
structure FnScope(N P:List Str)(sc:Scope):Prop where
 kind:sc.kind= .function
 co:sc.isCoroutine=false
 gen:sc.isGenerator=false
 nd:N.Nodup
 pre:N.take P.length=P
 par:∀x∈P,sc.names.lookup x=some .local\/sc.names.lookup x=some .cell
 nofree:∀y∈sc.names,y.2≠ .free
theorem mW{kindOf:Str->Option NameKind}{x:Str}:∀{binds:List (Str×Value)}{m:Str->Option Value},(∀v,(x,v)∉binds)->bindL kindOf binds m x=m x
 | [],_,_=>rfl
 |(n,v)::r,m,h=>by
  unfold bindL;rw[mW fun w hw=>h w (mem_cons_of_mem _ hw)];split
  ·have:x≠n:=by rintro rfl;exact h v mem_cons_self
   simp[this]
  ·rfl
theorem mU{kindOf:Str->Option NameKind}{x:Str}:∀{binds:List (Str×Value)}{m:Str->Option Value},(∀v,(x,v)∉binds)->bindC kindOf binds m x=m x
 | [],_,_=>rfl
 |(n,v)::r,m,h=>by
  unfold bindC;rw[mU fun w hw=>h w (mem_cons_of_mem _ hw)];split
  ·rfl
  ·have:x≠n:=by rintro rfl;exact h v mem_cons_self
   simp[this]
theorem mV{kindOf:Str->Option NameKind}{x:Str}{v:Value}:∀{P:List Str}{vs:List Value}{i:Nat}{m:Str->Option Value},P.Nodup->P[i]? =some x->vs[i]? =some v->kindOf x=some .local->
  bindL kindOf (P.zip vs) m x=some v
 | [],_,_,_,_,h,_,_=>by simp at h
 | _::_,[],_,_,_,_,h,_=>by simp at h
 |p::P,w::vs,0,m,nd,h1,h2,hk=>by
  simp at h1 h2;subst h1;subst h2;show bindL kindOf ((p,w)::P.zip vs) m p=_;unfold bindL;rw[mW fun v hv=>(nodup_cons.mp nd).1 (List.of_mem_zip hv).1,if_pos hk];simp
 |p::P,w::vs,i+1,m,nd,h1,h2,hk=>by
  show bindL kindOf ((p,w)::P.zip vs) m x=_;unfold bindL;exact mV (i:=i) (nodup_cons.mp nd).2 (by simpa using h1) (by simpa using h2) hk
theorem mT{kindOf:Str->Option NameKind}{x:Str}{v:Value}:∀{P:List Str}{vs:List Value}{i:Nat}{m:Str->Option Value},P.Nodup->P[i]? =some x->vs[i]? =some v->kindOf x≠some .local->
  bindC kindOf (P.zip vs) m x=some v
 | [],_,_,_,_,h,_,_=>by simp at h
 | _::_,[],_,_,_,_,h,_=>by simp at h
 |p::P,w::vs,0,m,nd,h1,h2,hk=>by
  simp at h1 h2;subst h1;subst h2;show bindC kindOf ((p,w)::P.zip vs) m p=_;unfold bindC;rw[mU fun v hv=>(nodup_cons.mp nd).1 (List.of_mem_zip hv).1,if_neg hk];simp
 |p::P,w::vs,i+1,m,nd,h1,h2,hk=>by
  show bindC kindOf ((p,w)::P.zip vs) m x=_;unfold bindC;exact mT (i:=i) (nodup_cons.mp nd).2 (by simpa using h1) (by simpa using h2) hk
def mF(N:List Str)(vs:List V):St:=vs.map some++replicate (N.length-vs.length) none
def cxOf(CX:CXT)(P:Program)(w:World)(K:W.Frag)(mg:Str->Option Value)(base:Heap)(N:List Str)(qual:Str)(scope:Scope)(f:Addr)(cd:Value)(A:Around)(outer:List Env)(s:Shared)(H:Hp)(E:XK)(cm:Bool:=true):Cx where
 prog:=P
 w:=w
 K:=K
 mg:=mg
 base:=base
 A:=A.deeper (envOfC qual scope s.heap.objs.size f cd)
 N:=N
 s₀:=s
 H₀:=H
 env:=envOfC qual scope s.heap.objs.size f cd
 outer:=outer
 stack:=envOfC qual scope s.heap.objs.size f cd::outer
 ex:=[]
 calm:=cm
 fn:=fun _=>true
 pn:=[]
 xe:=fun e s'=>wpAny (model P w) (A.deeper (envOfC qual scope s.heap.objs.size f cd)) (leaving (envOfC qual scope s.heap.objs.size f cd) e) (fun _ s''=>CX outer H s E e s'') (fun e' s''=>CX outer H s E e' s'') s'
theorem aR{sc:Scope}{n:Nat}{x:Str}(h:sc.names.lookup x=some .cell):∃c,(cellsFrom n sc.names []).lookup x=some c:=by
 have q:=W.cellsFrom_some sc.names n [] (.inl h);exact Option.isSome_iff_exists.mp q
theorem lh{CX:CXT}{P:Program}{w:World}{K:W.Frag}{mg:Str->Option Value}{base:Heap}{N ps:List Str}{qual:Str}{scope:Scope}{f:Addr}{cd:Value}{A:Around}{outer:List Env}{s s1:Shared}{H:Hp}{E:XK}{cm:Bool}{us:List Value}{vs:List V}(S:FnScope N ps scope)(hd:cm=true->A.handled=none)(e0:Env0 P w K mg base A outer s H)(hl:vs.length=ps.length)(r:Vals vs us)(x:InCallC s s.heap.objs.size (bindL (envOfC qual scope s.heap.objs.size f cd).kindOf (ps.zip us) fun _=>none) (cellsFrom (s.heap.objs.size+1) scope.names []) (bindC (envOfC qual scope s.heap.objs.size f cd).kindOf (ps.zip us) fun _=>none) s1) :
  Inv (cxOf CX P w K mg base N qual scope f cd A outer s H E cm) [] (mF N vs) H s1:=by
 have hpl:ps.length<=N.length:=by have:=congrArg length S.pre;rw[length_take]at this;omega
 obtain⟨h1,tk,rfl,hk⟩:=x.done;have noA:∀b:Addr,b∉(cxOf CX P w K mg base N qual scope f cd A outer s H E cm).ex:=fun b z=>absurd (show b∈([]:List Addr)from z) (by simp);refine⟨⟨e0.mod,S.kind,rfl,rfl,le_refl _,fun y z c h1 h2=>?_,fun y hy=>?_,fun y c _ h=>?_,hd,Around.frames_deeper e0.frames,.inr ⟨rfl,rfl⟩,fun b z=>absurd z (noA b),e0.bs,e0.bsz,fun b _ _=>noA b,fun b z=>absurd z (noA b),e0.funs,e0.frf⟩,
  rfl,e0.bare,Un.kept hk,⟨_,x.toInCall.ns,fun i y v h1 h2 h3=>?_⟩,fun y c h=>⟨_,x.cell y c h⟩,e0.hok.fresh (le_refl _),fun y c h=>?_,fun p hp=>absurd (show p∈([]:List (Addr×Obj))from hp) (by simp),e0.hok.kept hk,?_⟩
 ·exact name_of_addr x.apart (PySem.mem_of_lookup h1) (PySem.mem_of_lookup h2)
 ·have hy:scope.names.lookup y=some .cell\/scope.names.lookup y=some .free:=hy;rcases hy with hy|hy
  ·exact aR hy
  ·exact absurd rfl (S.nofree _ (PySem.mem_of_lookup hy))
 ·exact Nat.le_of_lt (x.above y c (PySem.mem_of_lookup h))
 ·have hi:i<vs.length:=by
   unfold mF at h2;by_cases hi:i<vs.length
   ·exact hi
   ·rw[List.getElem?_append_right (by simpa using hi)]at h2;rw[List.getElem?_replicate]at h2;split at h2 <;>cases h2
  have ha:vs[i]? =some v:=by
   unfold mF at h2;rw[List.getElem?_append_left (by simpa using hi),getElem?_map]at h2;cases e:vs[i]? with
   |none=>rw[e]at h2;cases h2
   |some a=>rw[e]at h2;cases h2;rfl
  obtain⟨u,hu,rv⟩:=r.get ha;have hp:ps[i]? =some y:=by
   rw[<-S.pre,List.getElem?_take_of_lt (by omega)];exact h1
  have ndP:ps.Nodup:=by rw[<-S.pre];exact S.nd.sublist (List.take_sublist _ _)
  refine⟨u,rv,?_⟩;rcases S.par y (mem_of_getElem? hp)with k|k
  ·exact .inl ⟨k,mV ndP hp hu k⟩
  ·obtain⟨c,e⟩:=aR (n:=s.heap.objs.size+1) k;refine .inr ⟨.inl k,c,e,?_⟩;have q:=x.cell y c e;rw[mT ndP hp hu (by show scope.names.lookup y≠_;rw[k];decide)]at q;exact q
 ·exact e0.hok.fresh (Nat.le_of_lt (x.above y c (PySem.mem_of_lookup h)))
 ·unfold mF;show _=N.length;rw[length_append,length_map,List.length_replicate];omega
theorem Yz{CX:CXT}{P:Program}{w:World}{K:W.Frag}{mg:Str->Option Value}{base:Heap}{k:Nat}{f:Addr}{name qual:Str}{params:Arguments}{body:List Stmt}{scope:Scope}{dV kV doc pm cdv ct oc:Value}{an od:Option Addr}{osl:Array (Option Value)}{N ps:List Str}{sp:Sp}{cm:Bool}(lk:K.lookup f=some ⟨oc,od,.func (W.fnOf name qual params body scope dV kV doc pm an cdv ct),osl⟩)(hcd:W.codeIn K cdv qual=true)(S:FnScope N ps scope)(len:∀vs H Q E,sp vs H Q E->vs.length=ps.length)(hbody:∀(A:Around) (outer:List Env) (s:Shared) (H:Hp) (vs:List V) (Q:VK) (E:XK),Room k (A.deeper (envOfC qual scope s.heap.objs.size f cdv)) cm->sp vs H Q E->
   ∃t,PSs (cxOf CX P w K mg base N qual scope f cdv A outer s H E cm) body t/\t {nx:=fun _ H'=>Q .non H',rt:=Q} (mF N vs) H) :
  FnOk P w K mg base CX (k+1) f (W.fnOf name qual params body scope dV kV doc pm an cdv ct) ps sp cm:=by
 refine⟨len,fun A outer s H args us vs Q E hr e0 hb r hsp=>?_⟩;have hl:=len _ _ _ _ hsp;have KX:K.In s.heap:=e0.mod.kin.keeps fun b o e=>(e0.bs b o e).1;have lim:s.heap.NoLimit:=e0.mod.nolimit.keeps fun b o e=>(e0.bs b o e).1;have hkind:∀y∈ps.zip us,scope.names.lookup y.1=some .local\/(scope.names.lookup y.1=some .cell/\((cellsFrom (s.heap.objs.size+1) scope.names []).lookup y.1).isSome=true):=fun⟨n,v⟩ hy=>by
  rcases S.par n (List.of_mem_zip hy).1 with q|q
  ·exact .inl q
  ·exact .inr ⟨q,W.cellsFrom_some _ _ _ (.inl q)⟩
 refine codeAny_call_function hr.depth (KX _ _ lk) rfl S.co S.gen rfl (W.codeRec_of KX hcd) (hb _ _ _ _ ?_);refine wpAny_newFunctionEnv_cells S.kind hkind fun env he s1 x=>?_;subst he;refine⟨lim.keeps x.toInCall.keep,codeAny_func ?_⟩;obtain⟨t,ht,hq⟩:=hbody A outer s H vs Q E (hr.deeper _) hsp;have I:Inv (cxOf CX P w K mg base N qual scope f cdv A outer s H E cm) [] (mF N vs) H s1:=lh S hr.hd e0 hl r x;refine wpAny_mono (ht [] s1 (mF N vs) H _ I hq) (fun fl s' hs=>?_) fun e s' hs=>hs;have fin:∀{σ':St}{H':Hp}{v:V}{u:Value},Inv (cxOf CX P w K mg base N qual scope f cdv A outer s H E cm) [] σ' H' s'->RelV v u->Q v H'->CE outer P w H s Q u s' :=
  fun{σ' H' v u} J rv q=>⟨v,H',J.os,J.bare,J.base,J.hok,rv,q⟩
 cases fl with
 |ret u =>
  obtain⟨v,σ',H',J,rv,q⟩:=hs;exact fin J rv q
 |next =>
  obtain⟨σ',H',J,q⟩:=hs;exact fin (v:=V.non) (u:=Value.none) J rfl q
 |brk =>
  obtain⟨_,_,_,q⟩:=hs;exact False.elim q
 |cont =>
  obtain⟨_,_,_,q⟩:=hs;exact False.elim q
section
variable{X:Cx}{x:Str}{p pos:Pos}{e:Expr}{es:List Expr}{t:TA}{id T:String}{r:List V->Hp->VK->Prop}
def tCB(r:List V->Hp->VK->Prop)(t:TA):TE:=fun σ H Q=>t σ H fun vs H1=>r vs H1 Q
theorem zp(hc:wv X (.builtin id) r)(hg:Gl X x)(hm:X.mg x=none)(hv:bootBuiltins x=some (.builtin id))(ha:PA X (e::es) t)(hn:x≠"__name__" :=by decide)(hdb:(x==("__debug__" : Str))=false:=by decide)(he:starEach (e::es) X.env=(false,eval e X.env)::starEach es X.env:=by rfl)(hpl:(backTo pos (starEach es X.env)).any (·.1)=false:=by rfl):PE X (.Call (.Name x p) (e::es) [] pos) (tCB r t):=by
 intro pins s σ H Q I h;refine wpAny_Call_Name_kw (wj I hg hm hv ?_ hn hdb);exact PyProof.Rows.callWith_builtin1 (thn (ha pos pins s σ H _ I h) fun us s1 ⟨vs,H1,I1,r1,q1⟩=>hc pins s1 σ H1 vs us Q I1 r1 q1) he hpl
theorem zH(hc:wv X (.type T) r)(hg:Gl X x)(hm:X.mg x=none)(hv:bootBuiltins x=some (.type T))(ha:PA X (e::es) t)(hn:x≠"__name__" :=by decide)(hdb:(x==("__debug__" : Str))=false:=by decide)(he:starEach (e::es) X.env=(false,eval e X.env)::starEach es X.env:=by rfl)(hpl:(backTo pos (starEach es X.env)).any (·.1)=false:=by rfl):PE X (.Call (.Name x p) (e::es) [] pos) (tCB r t):=by
 intro pins s σ H Q I h;refine wpAny_Call_Name_kw (wj I hg hm hv ?_ hn hdb);exact PyProof.Rows.callWith_type1 (thn (ha pos pins s σ H _ I h) fun us s1 ⟨vs,H1,I1,r1,q1⟩=>hc pins s1 σ H1 vs us Q I1 r1 q1) he hpl
end
end L2
namespace HT
open PySem PyProof.Rows
section
variable{prog:Program}{w:World}{A:Around}{E:Value->Shared->Prop}{s:Shared}
theorem cat_tup{t b:Addr}{vs ws:List Value}{Q:Value->Shared->Prop}(ht:IsTup s.heap t vs.toArray)(hb:IsTup s.heap b ws.toArray)(hv:vs≠[])(h1:ws=[]->Q (.ref t) s)(h2:ws≠[]->Q (.ref s.heap.objs.size) {s with heap:=s.heap.push {cls:=.type "tuple",data:=.seq (vs++ws).toArray}})(hsz:vs.length+ws.length<=sizeLine):wpAny (model prog w) A (binaryOp .Add (.ref t) (.ref b)) Q E s:=by
 obtain⟨⟨cls,dd,data,sl⟩,ho,hc,n,hd⟩:=id ht;obtain⟨⟨cls2,dd2,data2,sl2⟩,ho2,hc2,n2,hd2⟩:=id hb;simp only at hc hd hc2 hd2;subst hc hd hc2 hd2;have e:vs.toArray++ws.toArray=(vs++ws).toArray:=by simp
 by_cases hw:ws=[]
 ·exact concat_meets ⟨_,ho,rfl⟩ ⟨_,ho2,rfl⟩ noFill_tuple_add seq_tuple_add PySem.F.slot_tuple_add PySem.F.entry_tuple_add (PySem.F.args_tuple_add_2 _ _)
   (tuple_addW1 t b vs.toArray ws.toArray n n2 dd dd2 sl sl2 (by simpa using hv) (by simp[hw])) ⟨ho,ho2,h1 hw⟩
 ·refine concat_meets ⟨_,ho,rfl⟩ ⟨_,ho2,rfl⟩ noFill_tuple_add seq_tuple_add PySem.F.slot_tuple_add PySem.F.entry_tuple_add (PySem.F.args_tuple_add_2 _ _)
   (tuple_addW2 t b vs.toArray ws.toArray n n2 dd dd2 sl sl2 (by simpa using hv) (by simpa using hw) (by rw[size_toArray,size_toArray];exact hsz)) ⟨ho,ho2,?_⟩
  rw[e];exact h2 hw
def sIx(n d:Nat):Option Int->Nat
 |none=>d
 |some v=>if v<0 then(v+(n:Int)).toNat else min v.toNat n
theorem sIx_none(n d:Nat):sIx n d none=d:=rfl
theorem sIx_nat(n d k:Nat):sIx n d (some (k:Int))=min k n:=by
 show(if(k:Int)<0 then((k:Int)+(n:Int)).toNat else min (k:Int).toNat n)=min k n;rw[if_neg (by omega),toNat_natCast]
theorem Ko(n d:Nat)(hd:d<=n)(o:Option Int):sIx n d o<=n:=by
 cases o with
 |none=>exact hd
 |some v =>
  show(if v<0 then(v+(n:Int)).toNat else min v.toNat n)<=n;by_cases hv:v<0
  ·rw[if_pos hv];omega
  ·rw[if_neg hv];exact Nat.min_le_right _ _
theorem iC(v:Int)(n d:Nat):(if v<0 then max (v+(n:Int)) 0 else min v (n:Int))=((sIx n d (some v):Nat):Int):=by
 show(if v<0 then max (v+(n:Int)) 0 else min v (n:Int))=(((if v<0 then(v+(n:Int)).toNat else min v.toNat n):Nat):Int);by_cases hv:v<0
 ·simp only[if_pos hv];exact(Int.ofNat_toNat _).symm
 ·simp only[if_neg hv];obtain⟨k,rfl⟩:=Int.eq_ofNat_of_zero_le (Int.not_lt.mp hv);rw[toNat_natCast,Int.min_def,Nat.min_def];simp only[Int.ofNat_le];split <;>rfl
theorem fq(lo hi:Option Int)(n:Nat):Builtin.Slice.sliceAdjust lo hi 1 (n:Int)=(((sIx n 0 lo:Nat):Int),((sIx n n hi:Nat):Int)):=by
 have h1:¬((1:Int)<0):=by omega
 unfold Builtin.Slice.sliceAdjust;simp only[h1,if_false];refine Prod.ext ?_ ?_
 ·cases lo with
  |none=>rfl
  |some v=>exact iC v n 0
 ·cases hi with
  |none=>rfl
  |some v=>exact iC v n n
theorem i0(i j:Nat):Builtin.Slice.slicePlaces (i:Int) (j:Int) 1=j-i:=by
 unfold Builtin.Slice.slicePlaces;have h1:(1:Int)>0:=by omega
 simp only[h1,if_true,Int.ediv_one];split <;>omega
theorem rL{v:Value}{o:Option Int}{Q:Option Int->Shared->Prop}(p:IsPart v o)(h:Q o s):wpAny (model prog w) A (Builtin.Slice.slicePartIndex v) Q E s:=by
 cases p with
 |none=>exact slicePart_none h
 |int i t=>exact slicePart_int h
theorem wp{sl:Addr}{vl vu:Value}{lo hi:Option Int}{n:Nat}{Q:Int×Int×Nat->Shared->Prop}(hs:s.heap.IsSliceOf sl vl vu .none)(pl:IsPart vl lo)(pu:IsPart vu hi)(h:Q (((sIx n 0 lo:Nat):Int),1,sIx n n hi-sIx n 0 lo) s):wpAny (model prog w) A (Builtin.Slice.sliceApplied (.ref sl) (pure (n:Int))) Q E s:=by
 obtain⟨os,hos,hcs,hds⟩:=id hs;unfold Builtin.Slice.sliceApplied Builtin.Slice.sliceFields;refine wpAny_bind (wpAny_bind (wpAny_field hos hds (x:=vl) rfl (wpAny_bind (wpAny_field hos hds (x:=vu) rfl (wpAny_bind (wpAny_field hos hds (x:=.none) rfl (wpAny_pure ?_)))))));refine wpAny_bind (slicePart_none ?_);show wpAny _ _ (if((1:Int)==0)=true then _ else _) _ _ s;rw[if_neg (by decide)];refine wpAny_bind (rL pl (wpAny_bind (rL pu (wpAny_bind (wpAny_pure ?_)))));show wpAny _ _ (match Builtin.Slice.sliceAdjust lo hi 1 (n:Int)with|(lo,hi)=>pure (lo,(1:Int),Builtin.Slice.slicePlaces lo hi 1)) _ _ s;rw[fq lo hi n];show wpAny _ _ (pure (((sIx n 0 lo:Nat):Int),(1:Int),Builtin.Slice.slicePlaces ((sIx n 0 lo:Nat):Int) ((sIx n n hi:Nat):Int) 1)) _ _ s;rw[i0];exact wpAny_pure h
theorem sI(xs:Array Value)(i k:Nat):((List.range k).filterMap fun(m:Nat)=>xs[((i:Int)+(m:Int)*1).toNat]?).toArray=((xs.toList.drop i).take k).toArray:=by
 have e:(fun(m:Nat)=>xs[((i:Int)+(m:Int)*1).toNat]?)=fun m=>xs[i+m]?:=by
  funext m
  have:((i:Int)+(m:Int)*1).toNat=i+m:=by omega
  rw[this]
 rw[e];have:=pick_run xs i k;rw[List.filterMap_map]at this;have e2:((fun x=>xs[x]?)∘fun x=>i+x)=fun m=>xs[i+m]?:=rfl;rw[e2]at this;rw[this]
theorem getItem_tuple_cut{t sl:Addr}{items:Array Value}{vl vu:Value}{lo hi:Option Int}{Q:Value->Shared->Prop}(ht:IsTup s.heap t items)(hs:s.heap.IsSliceOf sl vl vu .none)(pl:IsPart vl lo)(pu:IsPart vu hi)(hw:¬(sIx items.size 0 lo=0/\sIx items.size items.size hi=items.size))(h:Q (.ref s.heap.objs.size) {s with heap:=s.heap.push {cls:=.type "tuple",data:=.seq ((items.toList.drop (sIx items.size 0 lo)).take (sIx items.size items.size hi-sIx items.size 0 lo)).toArray}})(hsz:items.size<=sizeLine):wpAny (model prog w) A (getItem (.ref t) (.ref sl)) Q E s:=by
 have htake:sizeOk (.seq ((items.toList.drop (sIx items.size 0 lo)).take (sIx items.size items.size hi-sIx items.size 0 lo)).toArray):=by
  show((items.toList.drop (sIx items.size 0 lo)).take (sIx items.size items.size hi-sIx items.size 0 lo)).toArray.size<=sizeLine;rw[size_toArray,length_take,length_drop,Array.length_toList];exact le_trans (Nat.min_le_right _ _) (le_trans (Nat.sub_le _ _) hsz)
 have hj:sIx items.size items.size hi<=items.size:=Ko _ _ (le_refl _) hi;obtain⟨os,hos,hcs,hds⟩:=id hs;have hTs:s.TypeIs (.ref sl) "slice" :=⟨os,hos,hcs⟩;unfold getItem
 try with_reducible refine wpAny_holding ?_
 first|refine wpAny_bind (wpAny_pure ?_)|skip
 refine wpAny_bind (wpAny_sequenceKey ht.typeIs (by decide) ?_);refine wpAny_bind (wpAny_callSpecial?_slot (name:=Str.ofString "__getitem__") ht.typeIs PyProof.Rows.slot_tuple_getitem
  (wpAny_call_entry PyProof.Rows.slot_tuple_getitem ht.typeIs entry_tuple_getitem ?_ (args_tuple_getitem _ _)))
 show wpAny _ _ (Builtin.Tuple.tupleItemsOf (.ref t) >>= _) _ _ s;refine wpAny_bind (tupleItemsOf_ ht ?_);refine wpAny_bind (wpAny_typeOf hTs ?_);rw[if_pos (by decide)];refine wpAny_bind (wp hs pl pu ?_);have hno:¬((((sIx items.size 0 lo:Nat):Int)==0&&(1:Int)==1&&(sIx items.size items.size hi-sIx items.size 0 lo)==items.size)=true):=by
  intro q;rw[and_eq_true,and_eq_true]at q;have q1:((sIx items.size 0 lo:Nat):Int)=0:=eq_of_beq q.1.1;have q2:sIx items.size items.size hi-sIx items.size 0 lo=items.size:=eq_of_beq q.2;exact hw ⟨by omega,by omega⟩
 show wpAny _ _ (if(((sIx items.size 0 lo:Nat):Int)==0&&(1:Int)==1&&(sIx items.size items.size hi-sIx items.size 0 lo)==items.size)=true then _ else _) _ _ s;rw[if_neg hno,sI]
 first
  |exact wpAny_bind (m:=Builtin.Tuple.tupleExact _) (wpAny_newObj_type (wpAny_pure ⟨_,rfl,wpAny_pure h⟩) htake)
  |exact wpAny_bind (m:=Builtin.Tuple.tupleExact _) (wpAny_newObj_type (wpAny_bind (wpAny_pure (wpAny_pure ⟨_,rfl,wpAny_pure h⟩))) htake)
  |exact wpAny_bind (wpAny_bind (m:=Builtin.Tuple.tupleExact _) (wpAny_newObj_type (wpAny_pure (wpAny_pure ⟨_,rfl,wpAny_pure h⟩)) htake))
  |exact wpAny_bind (wpAny_bind (m:=Builtin.Tuple.tupleExact _) (wpAny_newObj_type (wpAny_pure ⟨_,rfl,wpAny_pure h⟩) htake))
end
end HT
namespace L2
open PySem PySem.Spec PyProof.Rows
abbrev TO:=St->Hp->(Option Int->Hp->Prop)->Prop
def PO(X:Cx)(e:Option Expr)(t:TO):Prop :=
 ∀(pins:List (Addr×Obj))(s:Shared)(σ:St)(H:Hp)(Q:Option Int->Hp->Prop),Inv X pins σ H s->t σ H Q->
  wpAny (model X.prog X.w) X.A (evalPart e X.env) (fun u s'=>∃ o H',Inv X pins σ H' s'/\IsPart u o/\Q o H') X.xe s
def yH:TO:=fun _ H Q=>Q none H
def JA(t:TE):TO:=fun σ H Q=>t σ H fun x H1=>∃ i,x= .int i/\Q (some i) H1
theorem vo{ns:List Int}:∀{us:List Value},Vals (ns.map V.int) us->IntsAre us ns:=by
 induction ns with
 |nil=>intro us r;rw[List.map_nil]at r;cases r;exact .nil
 |cons n ns ih =>
  intro us r;rw[map_cons]at r;cases r with
  |cons r1 r2 =>
   obtain⟨t,e⟩:=r1;subst e;exact .cons n t (ih r2)
section
variable{X:Cx}{e:Expr}{te:TE}{lo hi:Option Expr}{tl th:TO}{pos p2:Pos}
theorem kf:PO X none yH:=by
 intro pins s σ H Q I h;rw[evalPart_none];exact wpAny_pure ⟨none,H,I,.none,h⟩
theorem kg(h:PE X e te):PO X (some e) (JA te):=by
 intro pins s σ H Q I hw;rw[evalPart_some];refine thn (h pins s σ H _ I hw) fun u s1 ⟨x,H1,I1,r1,q1⟩=>?_;obtain⟨i,rfl,q⟩:=q1;obtain⟨t,rfl⟩:=r1;exact⟨some i,H1,I1,.int i t,q⟩
def SlR(X:Cx)(r:V->Option Int->Option Int->Hp->VK->Prop):Prop :=
 ∀(pins:List (Addr×Obj))(s:Shared)(σ:St)(H:Hp)(x:V)(v vl vu:Value)(lo hi:Option Int)(sl:Addr)(Q:VK),Inv X pins σ H s->RelV x v->s.heap.IsSliceOf sl vl vu .none->IsPart vl lo->IsPart vu hi->r x lo hi H Q->
  ∃T id,typeLookup (.type T) "__getitem__"=pure (some (.builtin id))/\s.TypeIs v T/\wpAny (model X.prog X.w) X.A (getItem v (.ref sl)) (EP X pins σ Q) X.xe s
theorem SlR.or{r r':V->Option Int->Option Int->Hp->VK->Prop}(h:SlR X r)(h':SlR X r'):SlR X (fun x lo hi H Q=>r x lo hi H Q\/r' x lo hi H Q):=by
 intro pins s σ H x v vl vu lo hi sl Q I rx hs pl pu q;rcases q with q|q
 ·exact h pins s σ H x v vl vu lo hi sl Q I rx hs pl pu q
 ·exact h' pins s σ H x v vl vu lo hi sl Q I rx hs pl pu q
def tSl(r:V->Option Int->Option Int->Hp->VK->Prop)(te:TE)(tl th:TO):TE:=fun σ H Q=>te σ H fun x H1=>tl σ H1 fun l H2=>th σ H2 fun u H3=>r x l u H3 Q
theorem yr{r:V->Option Int->Option Int->Hp->VK->Prop}(hr:SlR X r)(he:PE X e te)(hl:PO X lo tl)(hu:PO X hi th):PE X (.Subscript e (.Slice lo hi none p2) pos) (tSl r te tl th):=by
 intro pins s σ H Q I h;refine Subscript_ (thn (he pins s σ H _ I h) fun v s1 ⟨x,H1,I1,r1,q1⟩=>?_);refine wpAny_Slice (thn (hl pins s1 σ H1 _ I1 q1) fun vl s2 ⟨l,H2,I2,pl,q2⟩=>thn (hu pins s2 σ H2 _ I2 q2) fun vu s3 ⟨u,H3,I3,pu,q3⟩=>?_);rw[evalPart_none];refine wpAny_pure ?_;have I4:Inv X pins σ H3 {s3 with heap:=s3.heap.push {cls:=.type "slice",data:=.fields #[vl,vu,.none]}}:=I3.kept (t':=s3.toks) fun b ob q=>Heap.get?_push_of_some _ q;obtain⟨T,id,hT,ht,hg⟩:=hr pins {s3 with heap:=s3.heap.push {cls:=.type "slice",data:=.fields #[vl,vu,.none]}} σ H3 x v vl vu l u s3.heap.objs.size Q I4 r1 (Heap.IsSliceOf.new ..) pl pu q3;show wpAny (model X.prog X.w) X.A (subscriptTail e (.Slice lo hi none p2) v (.ref s3.heap.objs.size)) (EP X pins σ Q) X.xe {s3 with heap:=s3.heap.push {cls:=.type "slice",data:=.fields #[vl,vu,.none]}};exact tail_any (ops:=[.ref s3.heap.objs.size,v]) ht hT hg (by with_unfolding_all rfl)
def cutV(xs:List V)(lo hi:Option Int):List V:=(xs.drop (HT.sIx xs.length 0 lo)).take (HT.sIx xs.length xs.length hi-HT.sIx xs.length 0 lo)
theorem qq(xs:List V)(lo hi:Option Int):(cutV xs lo hi).length<=xs.length:=by
 unfold cutV;rw[length_take,length_drop];omega
def rSlT(K:W.Frag):V->Option Int->Option Int->Hp->VK->Prop:=fun x lo hi H Q=>∃ a xs,x= .ref a/\SqT K H a xs/\
 ¬(HT.sIx xs.length 0 lo=0/\HT.sIx xs.length xs.length hi=xs.length)/\ ∀p,H p=none->Q (.ref p) (upd H p (.tup (cutV xs lo hi)))
theorem Kp:SlR X (rSlT X.K):=by
 intro pins s σ H x v vl vu lo hi sl Q I rx hs pl pu h;obtain⟨a,xs,rfl,hx,hw,q⟩:=h;cases rx;obtain⟨its,r,ht,hz⟩:=I.tuple hx;have hlen:its.toArray.size=xs.length:=by rw[size_toArray];exact r.length.symm
 refine⟨"tuple",_,PyProof.Rows.slot_tuple_getitem.lookup,ht.typeIs,?_⟩;refine HT.getItem_tuple_cut ht hs pl pu (by rw[hlen];exact hw) ?_ (by rw[hlen];exact hz);rw[hlen];refine⟨.ref s.heap.objs.size,_,I.laid (t':=s.toks) (o:=.tup (cutV xs lo hi)) (fun b ob q=>Heap.get?_push_of_some _ q) (le_refl _) ?_,rfl,q _ (I.hok.fresh (le_refl _))⟩;exact⟨le_trans (qq xs lo hi) hz,_,(r.drop (HT.sIx xs.length 0 lo)).take (HT.sIx xs.length xs.length hi-HT.sIx xs.length 0 lo),IsTup.new _ _,jS⟩
def Jq(K:W.Frag):R2:=fun x y H Q=>∃ a b xs ys,x= .ref a/\y= .ref b/\SqT K H a xs/\SqT K H b ys/\xs≠[]/\xs.length+ys.length<=sizeLine/\
 (ys=[]->Q (.ref a) H)/\(ys≠[]-> ∀p,H p=none->Q (.ref p) (upd H p (.tup (xs++ys))))
theorem Vals.nil_iff{xs:List V}{us:List Value}(r:Vals xs us):us=[]↔xs=[]:=by
 cases r with
 |nil=>simp
 |cons _ _=>simp
theorem ZX:OpR X (binaryOp .Add) (Jq X.K):=by
 intro pins s σ H x y v u Q I rx ry h;obtain⟨a,b,xs,ys,rfl,rfl,ha,hb,hx,hz,q1,q2⟩:=h;cases rx;cases ry;obtain⟨its,r1,p1,_⟩:=I.tuple ha;obtain⟨its2,r2,p2,_⟩:=I.tuple hb;refine HT.cat_tup p1 p2 (fun z=>hx (r1.nil_iff.mp z)) (fun z=>⟨.ref a,H,I,rfl,q1 (r2.nil_iff.mp z)⟩) (fun z=>?_) (by rw[<-r1.length,<-r2.length];exact hz);refine⟨.ref s.heap.objs.size,_,I.laid (t':=s.toks) (o:=.tup (xs++ys)) (fun b ob q=>Heap.get?_push_of_some _ q) (le_refl _) ?_,rfl,q2 (fun w=>z (r2.nil_iff.mpr w)) _ (I.hok.fresh (le_refl _))⟩;exact⟨by rw[length_append];exact hz,_,r1.append r2,IsTup.new _ _,jS⟩
end
def ixN(n:Nat)(i:Int):Option Nat:=if 0<=i then(if i<n then some i.toNat else none)else if -(n:Int)<=i then some (i+n).toNat else none
def atI{α:Type}(xs:List α)(i:Int):Option α:=(ixN xs.length i).bind fun j=>xs[j]?
theorem lj{n:Nat}{i:Int}{j:Nat}(h:ixN n i=some j):seqIndex? i n=some j/\j<n/\ -(n:Int)<=i/\i<n:=by
 unfold ixN at h;by_cases h0:0<=i
 ·rw[if_pos h0]at h;by_cases h1:i<n
  ·rw[if_pos h1]at h;have e:i.toNat=j:=Option.some.inj h;exact⟨by rw[seqIndex_of h0 h1,e],by omega,by omega,h1⟩
  ·rw[if_neg h1]at h;cases h
 ·rw[if_neg h0]at h;by_cases h1:-(n:Int)<=i
  ·rw[if_pos h1]at h;have e:(i+n).toNat=j:=Option.some.inj h;exact⟨by rw[seqIndex_neg (by omega) h1,e],by omega,h1,by omega⟩
  ·rw[if_neg h1]at h;cases h
theorem bp{α:Type}{xs:List α}{i:Int}{v:α}(h:atI xs i=some v):∃j,seqIndex? i xs.length=some j/\xs[j]? =some v/\j<xs.length/\ -(xs.length:Int)<=i/\i<xs.length:=by
 unfold atI at h;cases e:ixN xs.length i with
 |none=>rw[e]at h;cases h
 |some j =>
  rw[e]at h;obtain⟨h1,h2,h3,h4⟩:=lj e;exact⟨j,h1,h,h2,h3,h4⟩
theorem zr{α:Type}{xs:List α}{j:Nat}{v:α}(h:xs[j]? =some v):atI xs (j:Int)=some v:=by
 have hj:j<xs.length:=(List.getElem?_eq_some_iff.mp h).1;have e:ixN xs.length (j:Int)=some j:=by
  unfold ixN;rw[if_pos (by omega),if_pos (by omega)];simp
 unfold atI;rw[e];exact h
def ix(b:Expr):Prop:=∀ o i,subscripted b false o i=operate [o,i] (getItem o i)
def IxR(X:Cx)(r:R2):Prop :=
 ∀(value slice:Expr)(pins:List (Addr×Obj))(s:Shared)(σ:St)(H:Hp)(x y:V)(v u:Value)(Q:VK),Inv X pins σ H s->RelV x v->RelV y u->r x y H Q->
  subscripted slice false v u=operate [v,u] (getItem v u)->wpAny (model X.prog X.w) X.A (subscriptTail value slice v u) (EP X pins σ Q) X.xe s
def MtR(X:Cx)(id:String)(r:V->List V->Hp->VK->Prop):Prop :=
 ∀(pins:List (Addr×Obj))(s:Shared)(σ:St)(H:Hp)(x:V)(xs:List V)(v:Value)(us:List Value)(Q:VK),Inv X pins σ H s->RelV x v->Vals xs us->r x xs H Q->
  wpAny (model X.prog X.w) X.A (call (.builtin id) (v::us)) (EP X pins σ Q) X.xe s
section
variable{X:Cx}{a b:Expr}{ta tb:TE}{pos:Pos}
theorem Jp{r:R2}(hr:IxR X r)(ha:PE X a ta)(hb:PE X b tb)(hs:ix b):PE X (.Subscript a b pos) (tOp r ta tb):=by
 intro pins s σ H Q I h;exact Subscript_ (binT ha hb I h fun v u s2 x y H2 I2 rx ry q=>hr a b pins s2 σ H2 x y v u Q I2 rx ry q (hs _ _))
def rIxL(K:W.Frag):R2:=fun x y H Q=>∃ p xs i v,x= .ref p/\y= .int i/\SqL K H p xs/\atI xs i=some v/\Q v H
def rIxT(K:W.Frag):R2:=fun x y H Q=>∃ p xs i v,x= .ref p/\y= .int i/\SqT K H p xs/\atI xs i=some v/\Q v H
def rIxS:R2:=fun x y H Q=>∃ z i c,x= .str z/\y= .int i/\z.length<=sizeLine/\atI z.cps.toList i=some c/\Q (.str ⟨#[c]⟩) H
theorem zt:IxR X (rIxL X.K):=by
 intro value slice pins s σ H x y v u Q I rx ry h hs;obtain⟨p,xs,i,z,rfl,rfl,hq,he,q⟩:=h;cases rx;obtain⟨t,rfl⟩:=ry;obtain⟨its,r,pl,hz⟩:=I.list hq;obtain⟨j,h1,h2,h3,h4,h5⟩:=bp he;obtain⟨w,ew,rw'⟩:=r.get h2;have hl:=r.length;have hn:=vX;have fin:EP X pins σ Q w s:=⟨z,H,I,rw',q⟩;by_cases h0:0<=i
 ·have hj:i.toNat=j:=by
   rw[seqIndex_of h0 h5]at h1;exact Option.some.inj h1
  exact item_listR pl.isList h0 (by omega) (by rw[hj];simpa using ew) fin hs
 ·have hj:(i+(its.toArray.size:Int)).toNat=j:=by
   rw[seqIndex_neg (by omega) h4]at h1;rw[size_toArray,<-hl];exact Option.some.inj h1
  exact subscriptTail_builtinR (x:=w) pl.isList.typeIs slot_list_getitem.lookup
   (wpAny_getItem_list_neg (Q:=fun r s'=>r=w/\EP X pins σ Q r s') pl.isList (by omega) (by rw[size_toArray] <;>omega) (by omega) (by rw[hj];simpa using ew) ⟨rfl,fin⟩) hs
theorem uE:IxR X (rIxT X.K):=by
 intro value slice pins s σ H x y v u Q I rx ry h hs;obtain⟨p,xs,i,z,rfl,rfl,hq,he,q⟩:=h;cases rx;obtain⟨t,rfl⟩:=ry;obtain⟨its,r,pl,hz⟩:=I.tuple hq;obtain⟨j,h1,h2,h3,h4,h5⟩:=bp he;obtain⟨w,ew,rw'⟩:=r.get h2;have hl:=r.length;have hn:=vX;have fin:EP X pins σ Q w s:=⟨z,H,I,rw',q⟩;exact subscriptTail_builtinR (x:=w) pl.typeIs slot_tuple_getitem.lookup
  (getItem_tuple (j:=j) (Q:=fun r s'=>r=w/\EP X pins σ Q r s') pl (by omega) (by omega) (by rw[size_toArray,<-hl];exact h1) (by simpa using ew) ⟨rfl,fin⟩) hs
theorem eC:IxR X rIxS:=by
 intro value slice pins s σ H x y v u Q I rx ry h hs;obtain⟨z,i,c,rfl,rfl,hz,he,q⟩:=h;obtain⟨t,rfl⟩:=rx;obtain⟨t',rfl⟩:=ry;obtain⟨j,h1,h2,h3,h4,h5⟩:=bp he;have hl:z.cps.toList.length=z.length:=by simp[Str.length]
 rw[hl]at h1 h4 h5;have hn:=vX;exact tail_any (typeIs_str s z t) slot_str_getitem.lookup (getItem_str (c:=c) (by
  have e1:decide (i< -(2^63:Int))=false:=decide_eq_false (by omega);have e2:decide (i>=2^63)=false:=decide_eq_false (by omega);rw[e1,e2,Bool.or_false]) (by rw[h1];simpa using h2) ⟨.str ⟨#[c]⟩,H,I.tok _,⟨_,rfl⟩,q⟩) hs
theorem fK(its:List Value)(n j:Nat)(u:Value):Obj.mapSeq (·.setIfInBounds j u) {cls:=.type "list",data:=.seq its.toArray n}={cls:=.type "list",data:=.seq (its.set j u).toArray n}:=by
 simp[Obj.mapSeq]
theorem Inv.lst{pins:List (Addr×Obj)}{σ:St}{H:Hp}{s:Shared}{p:Addr}{xs:List V}(I:Inv X pins σ H s)(h:H p=some (.lst xs)) :
  ∃(its:List Value)(n:Nat),Vals xs its/\s.heap.get? p=some {cls:=.type "list",data:=.seq its.toArray n}/\xs.length<=sizeLine:=by
 obtain⟨z,its,n,r,e⟩:=I.hok p _ h;exact⟨its,n,r,e,z⟩
theorem Inv.lstUpd{pins:List (Addr×Obj)}{σ:St}{H:Hp}{s:Shared}{p:Addr}{xs ys:List V}{its its':List Value}{n n':Nat}{f:Obj->Obj}(I:Inv X pins σ H s)(h:H p=some (.lst xs))(ho:s.heap.get? p=some {cls:=.type "list",data:=.seq its.toArray n})(hf:f {cls:=.type "list",data:=.seq its.toArray n}={cls:=.type "list",data:=.seq its'.toArray n'})(r:Vals ys its')(hz:ys.length<=sizeLine)(t:Nat) :
  Inv X pins σ (upd H p (.lst ys)) {s with heap:=s.heap.update p f,toks:=t}:=by
 have e:(s.heap.update p f).get? p=some {cls:=.type "list",data:=.seq its'.toArray n'}:=by
  rw[Heap.get?_update_self f ho (by rw[hf] <;>rfl),hf]
 refine I.write (x:=p) (e:=p) (by rw[h];trivial) (.inl rfl) (fun b u hb q=>(Heap.get?_update_other _ _ (Ne.symm hb)).trans q) ⟨_,e⟩ ?_;exact⟨hz,its',n',r,e⟩
def Jr:V->V->V->Hp->(Hp->Prop)->Prop:=fun o i v H Q=>∃ p xs k j,o= .ref p/\i= .int k/\H p=some (.lst xs)/\ixN xs.length k=some j/\Q (upd H p (.lst (xs.set j v)))
theorem qe:PSet X Jr:=by
 intro pins s σ H o i v ov iv u Q I ro ri rv h;obtain⟨p,xs,k,j,rfl,rfl,hp,hj,q⟩:=h;cases ro;obtain⟨t,rfl⟩:=ri;obtain⟨its,n,r,ho,hz⟩:=I.lst hp;obtain⟨h1,h2,h3,h4⟩:=lj hj;have hl:=r.length;have hn:=vX;have I':Inv X pins σ (upd H p (.lst (xs.set j v))) {s with heap:=s.heap.update p (Obj.mapSeq (·.setIfInBounds j u))} :=
  I.lstUpd hp ho (fK its n j u) (r.set rv j) (by rw[List.length_set];exact hz) s.toks
 by_cases h0:0<=k
 ·have hk:k.toNat=j:=by
   rw[seqIndex_of h0 h4]at h1;exact Option.some.inj h1
  exact W.ki_setAt ho h0 (by omega) (by rw[size_toArray,<-hl];exact h4) (by rw[hk];exact⟨_,I',q⟩)
 ·have hk:(k+(its.toArray.size:Int)).toNat=j:=by
   rw[seqIndex_neg (by omega) h3]at h1;rw[size_toArray,<-hl];exact Option.some.inj h1
  exact W.ki_setBack ho (by omega) (by rw[size_toArray,<-hl];exact h3) (by omega) (by rw[hk];exact⟨_,I',q⟩)
theorem Yt(n:Nat)(i:Int):max 0 (min (if i<0 then i+n else i) n)=((if i<0 then(i+n).toNat else min i.toNat n:Nat):Int):=by
 split
 ·next h=>rw[Int.min_eq_left (Int.add_le_of_le_sub_right (by rw[Int.sub_self];exact le_of_lt h)),Int.ofNat_toNat,Int.max_comm]
 ·next h =>
  obtain⟨k,rfl⟩:=Int.eq_ofNat_of_zero_le (Int.not_lt.mp h);rw[toNat_natCast,Int.min_def,Nat.min_def];simp only[Int.ofNat_le];split <;>exact Int.max_eq_right (Int.natCast_nonneg _)
theorem cY(lo hi:Option Int)(n:Nat):(sliceBounds lo hi none n).1=((HT.sIx n 0 lo:Nat):Int)/\(sliceBounds lo hi none n).2.1=((HT.sIx n n hi:Nat):Int)/\(sliceBounds lo hi none n).2.2=1 :=
 ⟨by cases lo with|none=>rfl|some i=>exact Yt n i,by cases hi with|none=>rfl|some i=>exact Yt n i,rfl⟩
theorem mC(its:List Value)(lo hi:Option Int):slicePick its.toArray lo hi none=((its.drop (HT.sIx its.length 0 lo)).take (HT.sIx its.length its.length hi-HT.sIx its.length 0 lo)).toArray:=by
 obtain⟨h1,h2,h3⟩:=cY lo hi its.toArray.size;unfold slicePick;rw[h1,h2,h3];simp only[sliceRange_one,pick_run,size_toArray] <;>rfl
def rSlL(K:W.Frag):V->Option Int->Option Int->Hp->VK->Prop:=fun x lo hi H Q=>∃ a xs,x= .ref a/\SqL K H a xs/\ ∀p,H p=none->Q (.ref p) (upd H p (.lst (cutV xs lo hi)))
theorem aL:SlR X (rSlL X.K):=by
 intro pins s σ H x v vl vu lo hi sl Q I rx hs pl pu h;obtain⟨a,xs,rfl,hx,q⟩:=h;cases rx;obtain⟨its,r,ht,hz⟩:=I.list hx;have hlen:=r.length;refine⟨"list",_,slot_list_getitem.lookup,ht.isList.typeIs,?_⟩;refine wpAny_getItem_list_slice ht.isList hs pl pu .none (by simp) ?_ (by rw[size_toArray] <;>omega);rw[mC,<-hlen];refine⟨.ref s.heap.objs.size,_,I.laid (t':=s.toks) (o:=.lst (cutV xs lo hi)) (fun b ob q=>Heap.get?_push_of_some _ q) (le_refl _) ?_,rfl,q _ (I.hok.fresh (le_refl _))⟩;exact⟨le_trans (qq xs lo hi) hz,_,0,(r.drop (HT.sIx xs.length 0 lo)).take (HT.sIx xs.length xs.length hi-HT.sIx xs.length 0 lo),Heap.get?_push_size _ rfl⟩
def uD:V->Bool
 | .non=>true
 | .bl _=>true
 | .int _=>true
 | .str _=>true
 | _=>false
def eqV:V->V->Bool
 | .non,.non=>true
 | .bl a,.bl b=>a==b
 | .bl a,.int b=>(if a then 1 else 0)==b
 | .int a,.bl b=>a==(if b then 1 else 0)
 | .int a,.int b=>a==b
 | .str a,.str b=>a==b
 | _,_=>false
theorem Yv{A:Around}{s:Shared}{y x:V}{u v:Value}(ry:RelV y u)(rx:RelV x v)(fy:uD y=true)(fx:uD x=true):SeqAt.EqAt A s u v (eqV y x):=by
 cases y with
 |non =>
  cases ry;cases x with
  |non=>cases rx;exact SeqAt.EqAt.same _
  |bl b=>cases rx;exact SeqAt.EqAt.none_bool b
  |int b=>obtain⟨t,rfl⟩:=rx;exact SeqAt.EqAt.none_int b t
  |str b=>obtain⟨t,rfl⟩:=rx;exact SeqAt.EqAt.none_str b t
  | _=>exact absurd (show false=true from fx) Bool.false_ne_true
 |bl a =>
  cases ry;cases x with
  |non=>cases rx;exact SeqAt.EqAt.bool_none a
  |bl b=>cases rx;exact SeqAt.EqAt.bool_bool a b
  |int b=>obtain⟨t,rfl⟩:=rx;exact SeqAt.EqAt.bool_int a b t
  |str b=>obtain⟨t,rfl⟩:=rx;exact SeqAt.EqAt.bool_str a b t
  | _=>exact absurd (show false=true from fx) Bool.false_ne_true
 |int a =>
  obtain⟨t',rfl⟩:=ry;cases x with
  |non=>cases rx;exact SeqAt.EqAt.int_none a t'
  |bl b=>cases rx;exact SeqAt.EqAt.int_bool a t' b
  |int b=>obtain⟨t,rfl⟩:=rx;exact SeqAt.EqAt.int_int a t' b t
  |str b=>obtain⟨t,rfl⟩:=rx;exact SeqAt.EqAt.int_str a t' b t
  | _=>exact absurd (show false=true from fx) Bool.false_ne_true
 |str a =>
  obtain⟨t',rfl⟩:=ry;cases x with
  |non=>cases rx;exact SeqAt.EqAt.str_none a t'
  |bl b=>cases rx;exact SeqAt.EqAt.str_bool a t' b
  |int b=>obtain⟨t,rfl⟩:=rx;exact SeqAt.EqAt.str_int a t' b t
  |str b=>obtain⟨t,rfl⟩:=rx;exact SeqAt.EqAt.str_str a t' b t
  | _=>exact absurd (show false=true from fx) Bool.false_ne_true
 | _=>exact absurd (show false=true from fy) Bool.false_ne_true
def eqU(x:V)(u:Value):Bool:=match u with
 | .none=>eqV .non x
 | .bool b=>eqV (.bl b) x
 | .int i _=>eqV (.int i) x
 | .str z _=>eqV (.str z) x
 | _=>false
theorem iQ{x y:V}{u:Value}(r:RelV y u)(f:uD y=true):eqU x u=eqV y x:=by
 cases y with
 |non=>cases r;rfl
 |bl b=>cases r;rfl
 |int i=>obtain⟨t,rfl⟩:=r;rfl
 |str z=>obtain⟨t,rfl⟩:=r;rfl
 | _=>exact absurd (show false=true from f) Bool.false_ne_true
theorem bn{x:V}:∀{xs:List V}{us:List Value},Vals xs us->xs.all uD=true->us.any (eqU x)=xs.any fun y=>eqV y x
 | _,_,.nil,_=>rfl
 |y::xs,u::us,.cons r t,f=>by
  rw[List.all_cons,and_eq_true]at f;rw[any_cons,any_cons,iQ r f.1,bn t f.2]
theorem uH{A:Around}{s:Shared}{x:V}{v:Value}(rx:RelV x v)(fx:uD x=true):∀{xs:List V}{us:List Value},Vals xs us->xs.all uD=true-> ∀u∈us,SeqAt.EqAt A s u v (eqU x u)
 | _,_,.nil,_=>fun u hu=>by cases hu
 |y::xs,u::us,.cons r t,f=>fun u' hu=>by
  rw[List.all_cons,and_eq_true]at f;rcases mem_cons.mp hu with rfl|hu
  ·rw[iQ r f.1];exact Yv r rx f.1 fx
  ·exact uH rx fx t f.2 u' hu
def inV(x:V)(xs:List V):Bool:=xs.any fun y=>eqV y x
def rIn(K:W.Frag)(neg:Bool):R2:=fun x y H Q=>∃ p xs,y= .ref p/\(SqL K H p xs\/SqT K H p xs)/\uD x=true/\xs.all uD=true/\Q (.bl (if neg then !inV x xs else inV x xs)) H
theorem cu:OpR X (compareOp .In) (rIn X.K false):=by
 intro pins s σ H x y v u Q I rx ry h;obtain⟨p,xs,rfl,hq,fx,fs,q⟩:=h;cases ry;rcases hq with hq|hq
 ·obtain⟨its,r,pl,hz⟩:=I.list hq;refine SeqAt.in_listAt (eqU x) pl.isList (fun w hw=>uH rx fx r fs w (by simpa using hw)) ⟨.bl _,H,I,rfl,?_⟩;rw[show its.toArray.any (eqU x)=its.any (eqU x)by simp,bn r fs];exact q
 ·obtain⟨its,r,pl,hz⟩:=I.tuple hq;refine SeqAt.in_tupleAt (eqU x) pl (fun w hw=>uH rx fx r fs w (by simpa using hw)) ⟨.bl _,H,I,rfl,?_⟩;rw[show its.toArray.any (eqU x)=its.any (eqU x)by simp,bn r fs];exact q
theorem zk:wv X (.builtin "len") (fun xs H Q=>∃ p ys,xs=[.ref p]/\(SqL X.K H p ys\/SqT X.K H p ys)/\Q (.int ys.length) H):=by
 intro pins s σ H xs us Q I r h;obtain⟨p,ys,rfl,hq,q⟩:=h;obtain⟨u,rfl,rx⟩:=ua r;cases rx;have hn:=vX;rcases hq with hq|hq
 ·obtain⟨its,r',pl,hz⟩:=I.list hq;have hlen:=r'.length;exact Calls.call_len_list pl.isList (by simp only[size_toArray] <;>omega) ⟨.int ys.length,H,I.tok _,⟨s.toks+1,by rw[size_toArray,hlen]⟩,q⟩
 ·obtain⟨its,r',pl,hz⟩:=I.tuple hq;have hlen:=r'.length;exact len_tuple pl (by simp only[size_toArray] <;>omega) ⟨.int ys.length,H,I.tok _,⟨s.toks+1,by rw[size_toArray,hlen]⟩,q⟩
theorem yY:wv X (.builtin "len") (fun xs H Q=>∃ z,xs=[.str z]/\z.length<=sizeLine/\Q (.int z.length) H):=by
 intro pins s σ H xs us Q I r h;obtain⟨z,rfl,hz,q⟩:=h;obtain⟨u,rfl,t,rfl⟩:=ua r;have hn:=vX;exact len_str (by omega) ⟨.int z.length,H,I.tok _,⟨_,rfl⟩,q⟩
theorem zU:wv X (.type "tuple") (fun xs H Q=>∃ p ys,xs=[.ref p]/\((SqL X.K H p ys/\ ∀l,H l=none->Q (.ref l) (upd H l (.tup ys)))\/(SqT X.K H p ys/\Q (.ref p) H))):=by
 intro pins s σ H xs us Q I r h;obtain⟨p,ys,rfl,h⟩:=h;obtain⟨u,rfl,rx⟩:=ua r;cases rx;rcases h with⟨hq,q⟩|⟨hq,q⟩
 ·obtain⟨its,r',pl,hz⟩:=I.list hq;have hlen:=r'.length;refine call_tuple_list pl.isList (fun h' kp=>?_) (by simp only[size_toArray] <;>omega);have I1:Inv X pins σ H {s with heap:=h'}:=I.kept (t':=s.toks) kp;have I2:Inv X pins σ (upd H h'.objs.size (.tup ys)) {s with heap:=h'.push {cls:=.type "tuple",data:=.seq its.toArray}} :=
   I1.laid (t':=s.toks) (fun b o e=>Heap.get?_push_of_some _ e) (le_refl _) (show zS X.prog X.w _ _ _ (.tup ys)from⟨hz,its,r',IsTup.new _ _,jS⟩)
  exact⟨.ref h'.objs.size,_,I2,rfl,q _ (I1.hok.fresh (le_refl _))⟩
 ·obtain⟨its,r',pl,hz⟩:=I.tuple hq;exact call_tuple_same pl ⟨.ref p,H,I,rfl,q⟩
def tyV(K:W.Frag)(T:String)(x:V)(H:Hp):Prop:=match x with
 | .str _=>T="str"
 | .int _=>T="int"
 | .ref p=>(T="list"/\ ∃xs,SqL K H p xs)\/(T="tuple"/\((∃o,K.lookup p=some o/\o.cls= .type "tuple"/\o.dict=none)\/ ∃xs,H p=some (.tup xs)))\/
   (T="dict"/\((∃kvs,H p=some (.dK kvs))\/ ∃kvs,H p=some (.dT kvs)))\/(T="set"/\ ∃S n,H p=some (.set S n))
 | _=>False
theorem ZA{pins:List (Addr×Obj)}{σ:St}{H:Hp}{s:Shared}{T:String}{x:V}{v:Value}(I:Inv X pins σ H s)(r:RelV x v)(ty:tyV X.K T x H) :
  s.TypeIs v T/\ ∀a,v= .ref a-> ∃ob,s.heap.get? a=some ob/\ob.dict=none:=by
 cases x with
 |str z =>
  obtain⟨t,rfl⟩:=r;cases(show T="str" from ty);exact⟨typeIs_str s z t,fun _ e=>nomatch e⟩
 |int i =>
  obtain⟨t,rfl⟩:=r;cases(show T="int" from ty);exact⟨typeIs_int s i t,fun _ e=>nomatch e⟩
 |ref p =>
  cases r;rcases ty with⟨rfl,xs,hq⟩|⟨rfl,⟨o,hk,hc,hd⟩|⟨xs,hk⟩⟩|⟨rfl,hk⟩|⟨rfl,S,n,hk⟩
  ·obtain⟨its,_,pl,_⟩:=I.list hq;refine⟨pl.isList.typeIs,fun a e=>?_⟩;cases e;obtain⟨o,n,e,c,hd,_⟩:=pl;exact⟨o,e,hd⟩
  ·refine⟨⟨o,I.kIn p o hk,hc⟩,fun a e=>?_⟩;cases e;exact⟨o,I.kIn _ o hk,hd⟩
  ·obtain⟨_,_,_,⟨o,e,hc,_⟩,nd⟩:=(show zS X.prog X.w H s.heap p (.tup xs)from I.hok p _ hk);refine⟨⟨o,e,hc⟩,fun a e2=>?_⟩;cases e2;exact⟨o,e,nd o e⟩
  ·have z:∃o,s.heap.get? p=some o/\o.ExactDict:=by
    rcases hk with⟨kvs,hk⟩|⟨kvs,hk⟩
    ·obtain⟨_,_,_,_,o,_,_,e,ex,_⟩:=I.hok p _ hk;exact⟨o,e,ex⟩
    ·obtain⟨_,_,_,_,o,_,_,e,ex,_⟩:=I.hok p _ hk;exact⟨o,e,ex⟩
   obtain⟨o,e,ex⟩:=z;refine⟨⟨o,e,ex.1⟩,fun a e2=>?_⟩;cases e2;exact⟨o,e,ex.2.1⟩
  ·obtain⟨o,_,_,_,e,ex,_⟩:=I.hok p _ hk;refine⟨⟨o,e,ex.1⟩,fun a e2=>?_⟩;cases e2;exact⟨o,e,ex.2.1⟩
 | _=>exact False.elim ty
def tBM0(K:W.Frag)(T:String)(r:V->List V->Hp->VK->Prop)(to:TE):TE:=fun σ H Q=>to σ H fun x H1=>tyV K T x H1/\r x [] H1 Q
def tBM(K:W.Frag)(T:String)(r:V->List V->Hp->VK->Prop)(to:TE)(t:TA):TE:=fun σ H Q=>to σ H fun x H1=>tyV K T x H1/\t σ H1 fun xs H2=>r x xs H2 Q
variable{o e:Expr}{es:List Expr}{to:TE}{t:TA}{name:Str}{apos cpos:Pos}{T id:String}{r:V->List V->Hp->VK->Prop}
theorem Zr(pa:PlainAttrs T)(slot:Slot T name id)(hty:typeOf (.builtin id)=pure (.type "method_descriptor"))(hm:MtR X id r)(ho:PE X o to)(hbase:attributeBase o name X.env (eval o X.env)=eval o X.env:=by rfl)(hline:(apos.endLine==cpos.line)=true:=by rfl):PE X (.Call (.Attribute o name apos) [] [] cpos) (tBM0 X.K T r to):=by
 intro pins s σ H Q I h;refine wpAny_Call_method0_late hbase hline (thn (ho pins s σ H _ I h) fun v s1 ⟨x,H1,I1,r1,ty,q1⟩=>?_);obtain⟨h1,h2⟩:=ZA I1 r1 ty;exact⟨T,id,pa,slot,hty,h1,h2,Calls.callWith_builtin rfl (PySem.evalArgs_none (hm pins s1 σ H1 x [] v [] Q I1 r1 .nil q1))⟩
theorem yU(pa:PlainAttrs T)(slot:Slot T name id)(hty:typeOf (.builtin id)=pure (.type "method_descriptor"))(hm:MtR X id r)(ho:PE X o to)(ha:PA X (e::es) t)(hbase:attributeBase o name X.env (eval o X.env)=eval o X.env:=by rfl)(hfew:((backTo cpos (starEach (e::es) X.env)).all (fun x=>!x.1)&&(backToKw cpos (keywordEach [] X.env)).all (fun x=>x.1.isSome)
   &&decide ((e::es).length+([]:List Keyword).length+(if([]:List Keyword).isEmpty then 0 else 1)<30))=true:=by rfl)(hline:(apos.endLine==cpos.line)=true:=by rfl)(hs:starEach (e::es) X.env=(false,eval e X.env)::starEach es X.env:=by rfl)(hplain:(backTo cpos (starEach es X.env)).any (·.1)=false:=by rfl) :
  PE X (.Call (.Attribute o name apos) (e::es) [] cpos) (tBM X.K T r to t):=by
 intro pins s σ H Q I h;refine wpAny_Call_method_late hbase hfew hline rfl (thn (ho pins s σ H _ I h) fun v s1 ⟨x,H1,I1,r1,ty,q1⟩=>?_);obtain⟨h1,h2⟩:=ZA I1 r1 ty;refine⟨T,id,pa,slot,hty,h1,h2,?_⟩;have hA:=ha cpos pins s1 σ H1 _ I1 q1;rw[hs]at hA ⊢;refine Calls.callWith_builtin (by show(false||(backTo cpos (starEach es X.env)).any (·.1))=false;rw[hplain] <;>rfl) (Calls.evalArgs_plain ?_);exact thn hA fun us s2 ⟨vs,H2,I2,r2,q2⟩=>hm pins s2 σ H2 x vs v us Q I2 r1 r2 q2
/- xs.append(e),list.index on a module's tuple .. are MtR facts of 06m -/
end
def MtM(X:Cx)(id:String)(r:V->List V->Hp->VK->Prop):Prop :=
 ∀(pins:List (Addr×Obj))(s:Shared)(σ:St)(H:Hp)(x:V)(xs:List V)(v:Value)(us:List Value)(Q:VK),Inv X pins σ H s->RelV x v->Vals xs us->r x xs H Q->
  wpAny (model X.prog X.w) X.A (call (.builtin id) (v::us)) (EP X pins σ Q) X.xe s
theorem Vals.one:∀{x:V}{us:List Value},Vals [x] us-> ∃u,us=[u]/\RelV x u
 | _,_,.cons r .nil=>⟨_,rfl,r⟩
theorem Vals.zero:∀{us:List Value},Vals [] us->us=[]
 | _,.nil=>rfl
theorem Vals.dropLast{xs:List V}{us:List Value}(h:Vals xs us):Vals xs.dropLast us.dropLast:=by
 induction h with
 |nil=>exact .nil
 |cons r t ih =>
  cases t with
  |nil=>exact .nil
  |cons q t'=>exact .cons r ih
theorem Vals.eraseIdx:∀{xs:List V}{us:List Value}(i:Nat),Vals xs us->Vals (xs.eraseIdx i) (us.eraseIdx i)
 | _,_,_,.nil=>.nil
 | _,_,0,.cons _ t=>t
 | _,_,i+1,.cons r t=>.cons r (Vals.eraseIdx i t)
theorem Vals.rep{xs:List V}{us:List Value}(h:Vals xs us):∀k:Nat,Vals (replicate k xs).flatten (replicate k us).flatten
 | 0=>.nil
 |k+1=>by
  rw[List.replicate_succ,List.replicate_succ,flatten_cons,flatten_cons];exact Vals.append h (Vals.rep h k)
theorem fB{α:Type}(l:List α):l.eraseIdx (l.length-1)=l.dropLast:=by
 induction l with
 |nil=>rfl
 |cons a r ih =>
  cases r with
  |nil=>rfl
  |cons b r =>
   have e:(a::b::r).length-1=((b::r).length-1)+1:=by
    have h1:(a::b::r).length=r.length+2:=rfl;have h2:(b::r).length=r.length+1:=rfl;omega
   rw[e,List.eraseIdx_cons_succ,ih]
   all_goals rfl
theorem dy{α:Type}:∀(l:List α)(i:Nat),(l.eraseIdx i).length<=l.length
 | [],_=>le_refl _
 | _::_,0=>le_succ _
 | _::r,i+1=>Nat.succ_le_succ (dy r i)
theorem dc(its:List Value):∀(k:Nat)(acc:List Value),
  List.foldl (fun x1 x2=>x1++x2) acc.toArray (replicate k its.toArray)=(acc++(replicate k its).flatten).toArray
 | 0,acc=>by simp
 |k+1,acc=>by
  have e:acc.toArray++its.toArray=(acc++its).toArray:=by simp
  have e2:(acc++its)++(replicate k its).flatten=acc++(replicate (k+1) its).flatten:=by
   rw[List.replicate_succ,flatten_cons,append_assoc]
  rw[<-e2,<-dc its k (acc++its),<-e,List.replicate_succ,List.foldl_cons]
section
variable{X:Cx}{pins:List (Addr×Obj)}{σ:St}{H:Hp}{s:Shared}{l b:Addr}{xs ys zs:List V}
theorem Inv.lset{its its':List Value}{n:Nat}{f:Array Value->Array Value}{t':Nat}(I:Inv X pins σ H s)(hH:H l=some (.lst xs))(e:s.heap.get? l=some {cls:=.type "list",data:=.seq its.toArray n})(hf:f its.toArray=its'.toArray)(hv:Vals ys its')(hz:ys.length<=sizeLine) :
  Inv X pins σ (upd H l (.lst ys)) {s with heap:=s.heap.update l (Obj.mapSeq f),toks:=t'}:=by
 have q:=PySem.IsL.update e f;rw[hf]at q;refine I.write (x:=l) (e:=l) (by rw[hH];exact trivial) (.inl rfl) (fun b' u hb hu=>(Heap.get?_update_other s.heap (Obj.mapSeq f) (Ne.symm hb)).trans hu) ⟨_,q⟩ ?_;exact⟨hz,its',_,hv,q⟩
theorem Inv.lnew{its:List Value}{t':Nat}(I:Inv X pins σ H s)(hv:Vals ys its)(hz:ys.length<=sizeLine) :
  Inv X pins σ (upd H s.heap.objs.size (.lst ys)) {s with heap:=s.heap.push {cls:=.type "list",data:=.seq its.toArray},toks:=t'} :=
 I.laid (fun _ _ q=>Heap.get?_push_of_some _ q) (le_refl _) ⟨hz,its,0,hv,Heap.get?_push_size _ rfl⟩
theorem Inv.fresh(I:Inv X pins σ H s):H s.heap.objs.size=none:=I.hok.fresh (le_refl _)
theorem Inv.lstM(I:Inv X pins σ H s)(hH:H l=some (.lst xs)):xs.length<=sizeLine/\ ∃(its:List Value)(n:Nat),Vals xs its/\xs.length=its.length/\s.heap.get? l=some {cls:=.type "list",data:=.seq its.toArray n}:=by
 obtain⟨z,its,n,r,e⟩:=I.hok l _ hH;exact⟨z,its,n,r,r.length,e⟩
theorem eJ{n:Nat}(h:n<=sizeLine):Builtin.List.listTooLong n=false:=by
 unfold Builtin.List.listTooLong;exact decide_eq_false (by omega)
end
section
variable{X:Cx}
def Y8:V->List V->Hp->VK->Prop:=fun x vs H Q=>∃ l xs y,x= .ref l/\vs=[y]/\H l=some (.lst xs)/\xs.length<sizeLine/\Q .non (upd H l (.lst (xs++[y])))
theorem yw:MtM X "list.append" Y8:=by
 intro pins s σ H x vs v us Q I rx rv h;obtain⟨l,xs,y,rfl,rfl,hH,hz,q⟩:=h;cases rx;obtain⟨u,rfl,ru⟩:=rv.one;obtain⟨z,its,n,r,hl,e⟩:=I.lstM hH;refine call_meets F.slot_list_append ⟨_,e,rfl⟩ F.entry_list_append (F.args_list_append_2 _ _) (PySem.list_append l its.toArray n u (by rw[size_toArray];omega)) ⟨e,?_⟩;refine⟨.non,_,I.lset (its':=its++[u]) hH e (by simp) (r.append (.cons ru .nil)) ?_,rfl,q⟩;rw[length_append,List.length_singleton];omega
def Y9:V->List V->Hp->VK->Prop:=fun x vs H Q=>∃ l b xs zs,x= .ref l/\vs=[.ref b]/\H l=some (.lst xs)/\H b=some (.lst zs)/\xs.length+zs.length<=sizeLine/\Q .non (upd H l (.lst (xs++zs)))
theorem qM:MtM X "list.extend" Y9:=by
 intro pins s σ H x vs v us Q I rx rv h;obtain⟨l,b,xs,zs,rfl,rfl,hH,hB,hz,q⟩:=h;cases rx;obtain⟨u,rfl,ru⟩:=rv.one;cases ru;obtain⟨z,its,n,r,hl,e⟩:=I.lstM hH;obtain⟨z2,its2,n2,r2,hl2,e2⟩:=I.lstM hB;have hsz:its.toArray.size+its2.toArray.size<=sizeLine:=by rw[size_toArray,size_toArray];omega
 have hlong:¬(!its.toArray.isEmpty&&Builtin.List.listTooLong (its.toArray.size+its2.toArray.size))=true:=by
  rw[eJ hsz,Bool.and_false];exact Bool.false_ne_true
 refine call_meets F.slot_list_extend ⟨_,e,rfl⟩ F.entry_list_extend (F.args_list_extend_2 _ _)
  (AutoSeq1.list_extend_list_list_0 l its.toArray n b its2.toArray n2 hlong (by rw[size_toArray];omega) (by omega)) ⟨e,e2,?_⟩
 refine⟨.non,_,I.lset (its':=its++its2) hH e (by simp) (r.append r2) ?_,rfl,q⟩;rw[length_append];omega
def rPop:V->List V->Hp->VK->Prop:=fun x vs H Q=>∃ l xs y,x= .ref l/\vs=[]/\H l=some (.lst xs)/\xs[xs.length-1]? =some y/\Q y (upd H l (.lst xs.dropLast))
theorem Zp:MtM X "list.pop" rPop:=by
 intro pins s σ H x vs v us Q I rx rv h;obtain⟨l,xs,y,rfl,rfl,hH,hy,q⟩:=h;cases rx;have hus:=rv.zero;subst hus;obtain⟨z,its,n,r,hl,e⟩:=I.lstM hH;obtain⟨u,hu,ru⟩:=r.get hy;have hy':its.toArray[its.toArray.size-1]? =some u:=by
  show its.toArray[its.length-1]? =some u;rw[<-Array.getElem?_toList,<-hl];exact hu
 refine call_meets F.slot_list_pop ⟨_,e,rfl⟩ F.entry_list_pop (F.args_list_pop_1 _) (MeetsSeq.list_pop_last l its.toArray n u hy' (by rw[size_toArray];omega)) ⟨e,?_⟩;refine⟨y,_,I.lset (its':=its.dropLast) hH e ?_ r.dropLast ?_,ru,q⟩
 ·show its.toArray.eraseIdxIfInBounds (its.toArray.size-1)=its.dropLast.toArray;rw[size_toArray,List.eraseIdxIfInBounds_toArray,fB]
 ·rw[List.length_dropLast];omega
def Kj:V->List V->Hp->VK->Prop:=fun x vs H Q=>∃ l xs i k y,x= .ref l/\vs=[.int i]/\H l=some (.lst xs)/\ -(2^63)<=i/\i<2^63/\seqIndex? i xs.length=some k/\xs[k]? =some y/\Q y (upd H l (.lst (xs.eraseIdx k)))
theorem oW:MtM X "list.pop" Kj:=by
 intro pins s σ H x vs v us Q I rx rv h;obtain⟨l,xs,i,k,y,rfl,rfl,hH,h1,h2,hk,hy,q⟩:=h;cases rx;obtain⟨u,rfl,ru⟩:=rv.one;obtain⟨t,rfl⟩:=ru;obtain⟨z,its,n,r,hl,e⟩:=I.lstM hH;obtain⟨w,hw,rw'⟩:=r.get hy;refine call_meets F.slot_list_pop ⟨_,e,rfl⟩ F.entry_list_pop (F.args_list_pop_2 _ _)
  (MeetsSeq.list_pop_at l its.toArray n i t k w (fitsIndex_both h1 h2) (by rw[size_toArray,<-hl];exact hk) (by rw[<-Array.getElem?_toList];exact hw) (by rw[size_toArray];omega)) ⟨e,?_⟩
 refine⟨y,_,I.lset (its':=its.eraseIdx k) hH e ?_ (r.eraseIdx k) ?_,rw',q⟩
 ·show its.toArray.eraseIdxIfInBounds k=(its.eraseIdx k).toArray;rw[List.eraseIdxIfInBounds_toArray]
 ·have:=dy xs k;omega
def rCat:R2:=fun x y H Q=>∃ l b xs zs,x= .ref l/\y= .ref b/\H l=some (.lst xs)/\H b=some (.lst zs)/\xs.length+zs.length<=sizeLine/\ ∀p,H p=none->Q (.ref p) (upd H p (.lst (xs++zs)))
theorem kO:OpR X (binaryOp .Add) rCat:=by
 intro pins s σ H x y v u Q I rx ry h;obtain⟨l,b,xs,zs,rfl,rfl,hH,hB,hz,q⟩:=h;cases rx;cases ry;obtain⟨z,its,n,r,hl,e⟩:=I.lstM hH;obtain⟨z2,its2,n2,r2,hl2,e2⟩:=I.lstM hB;refine PySem.P.add_list e e2 ?_ (by rw[size_toArray,size_toArray];omega);have ea:its.toArray++its2.toArray=(its++its2).toArray:=by simp
 rw[ea];exact⟨.ref _,_,I.lnew (t':=s.toks) (r.append r2) (by rw[length_append];omega),rfl,q _ I.fresh⟩
def rRep:R2:=fun x y H Q=>∃ l k xs,x= .ref l/\y= .int k/\H l=some (.lst xs)/\ -(2^63)<=k/\k<2^63/\xs.length*k.toNat<=sizeLine/\
 ∀p,H p=none->Q (.ref p) (upd H p (.lst (replicate k.toNat xs).flatten))
theorem ZP{α:Type}(xs:List α)(k:Nat):(replicate k xs).flatten.length=k*xs.length:=by
 induction k with
 |zero=>simp
 |succ k ih=>rw[List.replicate_succ,flatten_cons,length_append,ih,Nat.succ_mul,Nat.add_comm]
theorem Zq:OpR X (binaryOp .Mult) rRep:=by
 intro pins s σ H x y v u Q I rx ry h;obtain⟨l,k,xs,rfl,rfl,hH,h1,h2,hz,q⟩:=h;cases rx;obtain⟨t,rfl⟩:=ry;obtain⟨z,its,n,r,hl,e⟩:=I.lstM hH;have hlen:its.toArray.size*k.toNat<=sizeLine:=by rw[size_toArray,<-hl];exact hz
 have hcap:¬its.toArray.size*k.toNat>(2^63-1) / 8:=by
  have:(sizeLine:Nat)<=(2^63-1) / 8:=by decide
  omega
 have hfit:¬(!Builtin.List.listFitsIndex k)=true:=by
  rw[fitsIndex_both h1 h2];exact Bool.false_ne_true
 have hlong:¬Builtin.List.listTooLong (its.toArray.size*k.toNat)=true:=by
  rw[eJ hlen];exact Bool.false_ne_true
 have hnew:List.foldl (fun x1 x2=>x1++x2) #[] (replicate (if its.toArray.isEmpty=true then 0 else k.toNat) its.toArray)=(replicate k.toNat its).flatten.toArray:=by
  have f0:∀m:Nat,List.foldl (fun x1 x2=>x1++x2) #[] (replicate m its.toArray)=(replicate m its).flatten.toArray:=fun m=>by
   have:=dc its m [];rw[List.nil_append]at this;exact this
  rw[f0];cases its with
  |nil=>simp
  |cons a r'=>rw[if_neg (by simp)]
 refine wpAny_binaryOp_repeat_ref (T :="list") (U :="int") (by decide) ⟨_,e,rfl⟩ (fun s'=>typeIs_int s' k t) noFill_list_mul F.fills_int_mul F.slot_int_rmul repeat_list F.slot_int_index.lookup
  (call_meets F.slot_int_rmul (typeIs_int s k t) F.entry_int_rmul (F.args_int_rmul_2 _ _) (int___rmul___int_list k t l its.toArray n)
   ⟨e,rfl,⟨_,e,rfl⟩,call_meets F.slot_list_mul ⟨_,e,rfl⟩ F.entry_list_mul (F.args_list_mul_2 _ _) (AutoListH.list___mul___list_int_3 l its.toArray n k t hfit hcap hlong) ⟨e,?_⟩⟩)
 rw[hnew];exact⟨.ref _,_,I.lnew (t':=s.toks) (r.rep k.toNat) (by rw[ZP,Nat.mul_comm];exact hz),rfl,q _ I.fresh⟩
end
end L2
namespace Att
open PySem PySem.W PySem.Calls PyProof.Rows
theorem qx{P:Params}{h:Heap}:∀(ns:List Int)(vs:List Value),WellAll P h vs (ns.map WData.int)->IntsAre vs ns:=by
 intro ns
 induction ns with
 |nil =>
  intro vs w;rw[List.map_nil]at w;cases w;exact .nil
 |cons n ns ih =>
  intro vs w;rw[map_cons]at w;cases w with
  |cons a b =>
   cases a;exact .cons _ _ (ih _ b)
theorem nS{l:OpenLaw}{n:Nat}(hn:l.most=some n){P:Params}{h:Heap}{args:List WData}{vals:List Value}(hpre:l.row.toRowW.claim.pre args=true)(hwl:WellAll P h vals args) :
  ∃a vs ns,vals=[Value.ref a]/\args=[WData.list (ns.map WData.int)]/\h.get? a=some {cls:=.type "list",data:=.seq vs.toArray}/\IntsAre vs ns/\ns.length<=n:=by
 have hsh:WShape.hasAll [] args [.list .int]=true:=(pre_splitW hpre).1;have hc:l.pre.holds [] {args:=args}=true:=(pre_splitW hpre).2;obtain⟨d,r,rfl,h1,h2⟩:=hasAllW_cons hsh;obtain rfl:=hasAllW_nil h2;obtain⟨xs,rfl,h3⟩:=hasW_list h1;obtain⟨ns,rfl⟩:=items_int h3;have hlen:ns.length<=n:=by
  unfold OpenLaw.pre at hc;have h4:(WTm.not (.lt (.lit (.int (n:Int))) (.len (.arg 0)))).holds [] {args:=[.list (ns.map .int)]}=true:=by
   have h4:=(holds_andW hc).1;rw[hn]at h4;exact h4
  have h5:=condW_of h4 (w_not (w_lt w_lit (w_len_list (w_arg rfl))));rw[length_map]at h5;refine Nat.le_of_not_lt fun q=>?_;have q':(n:Int)<((ns.length:Nat):Int):=by omega
  first
   |(rw[decide_eq_true q']at h5;exact absurd h5 (by decide))
   |(simp at h5;omega)
 cases hwl with
 |cons w1 w2 =>
  cases w2;cases w1 with
  |list ho hall=>exact⟨_,_,ns,rfl,rfl,ho,qx ns _ hall,hlen⟩
theorem ny(l:OpenLaw)(args:List WData):l.row.toRowW.claim.post args (.bool true) args=true :=
 postW_of (r:=l.row.toRowW) (X:=(true==true))
  (show WShape.has [] (.bool true) .bool=true by first|rfl|decide|simp[WShape.has,WShape.arms,WShape.armsAll])
  (show(WTm.eq .res (.lit (.bool true))).value [] {args:=args,res:=some (.bool true),after:=args}=some (.bool (true==true))from w_eq_bool (w_res rfl) w_lit) rfl
theorem attach_call{l:OpenLaw}{n:Nat}{q:Program}{loose:List Str}{XP:(Str->Option Value)->Heap->Prop}{YP:World->Heap->Prop}{d:DefRec}(hn:l.most=some n)(hdf:d.params.defaults=[])(call:∀(w:World) (s₀ s₁:Shared) (mg mb:Str->Option Value) (fa:Addr) (o:Obj) (pm cd doc:Value) (a:Addr) (vs:List Value) (ns:List Int),
   Ground q loose [] XP w s₀ mg mb s₁.heap->YP w s₁.heap->
   s₁.heap.get? fa=some o->o.data= .func (docDef d.name d.params d.body d.scope pm cd doc)->s₁.heap.CodeRec cd d.name->mg d.name=some (.ref fa)->
   s₁.heap.get? a=some {cls:=.type "list",data:=.seq vs.toArray}->IntsAre vs ns->ns.length<=n->s₁.gens= #[]->
   codeAny (model l.prog w) callerA (.call (.ref fa) ⟨[.ref a],[]⟩) (fun r s'=>r= .ok (.ret (.bool true))/\OldK s₁.heap s'.heap/\s'.os=s₁.os/\AllBare s'.gens) s₁) :
  WalkO q loose XP YP l.row.toRowW d [] (fun f vs=>PySem.call f vs):=by
 intro w s₀ s₁ mg mb G Y fa o pm cd doc dV kV ho hd hcd hD hmg hg args vals as hpre hlay hrd hwl hlo;obtain rfl:dV= .none:=Dflts.none hD hdf;obtain rfl:kV= .none:=Dflts.noKw hD;obtain⟨a,vs,ns,rfl,rfl,hobj,hints,hlen⟩:=nS hn hpre hwl;refine enter_call (codeAny_mono (call w s₀ s₁ mg mb fa o pm cd doc a vs ns G Y ho (fd_plain hd) hcd hmg hobj hints hlen hg) fun r s' hq=>?_);obtain⟨rfl,h2,h3,h4⟩:=hq;exact⟨.inl ⟨.bool true,.bool true,[],rfl,fun _=>rfl,.bool true,ny l _,fun _=>⟨List.Pairwise.nil,fun _ hm=>(nomatch hm)⟩⟩,h2,h3,h4⟩
section
variable{prog:Program}{w:World}{A:Around}{E:Value->Shared->Prop}{s:Shared}{K:Frag}
def JJ(h:Heap)(L d:Addr):List (Addr×Obj):=(List.range h.objs.size).filterMap fun a=>if a=L\/a=d then none else(h.get? a).map fun o=>(a,o)
end
end Att
namespace L2
open PySem PySem.Spec PyProof.Rows
theorem wY:∀{vs:List Value}{ns:List Int},IntsAre vs ns->Vals (ns.map V.int) vs
 | _,_,.nil=>.nil
 | _,_,.cons n t h=>.cons ⟨t,rfl⟩ (wY h)
def Only(H:Hp):Prop:=∀ b,H b=none\/ ∃o xs,H b=some (.frz o (.lst xs))
theorem oU{P:Program}{w:World}{K:W.Frag}{mg mb:Str->Option Value}{CX:CXT}{k:Nat}{fa a:Addr}{fd:FuncData}{x:Str}{sp:Sp}{s₁:Shared}{vs:List Value}{ns:List Int}(KX:K.In s₁.heap)(hns:s₁.heap.Ns mainGlobals mg)(hb:s₁.heap.Ns builtinsNs mb)(hbb:∀x:Str,x≠"__name__"->mb x=bootBuiltins x)(hlim:s₁.heap.NoLimit)(hg:s₁.gens= #[])(ha:s₁.heap.get? a=some {cls:=.type "list",data:=.seq vs.toArray})(hi:IntsAre vs ns)(hl:ns.length<=sizeLine)(hr:Room k callerA)(F:∀base:Heap,K.In base->base.Ns mainGlobals mg->FnOk P w K mg base CX k fa fd [x] sp)(hbind:∀(s:Shared) (u:Value),BindsTo s fd ⟨[u],[]⟩ [(x,u)])(hsp:∀H:Hp,Only H->SqL K H a (ns.map V.int)->sp [.ref a] H (fun v _=>v= .bl true) fun _ _ _=>False)(hCX:∀H e s',CX [] H s₁ (fun _ _ _=>False) e s'->False) :
  codeAny (model P w) callerA (.call (.ref fa) ⟨[.ref a],[]⟩) (fun r s'=>r= .ok (.ret (.bool true))/\OldK s₁.heap s'.heap/\s'.os=s₁.os/\AllBare s'.gens) s₁:=by
 have rv:=wY hi;have lenV:=hi.length
 -- from an abstract heap in which nothing but the script may be tracked
 have core:∀H:Hp,Only H->SqL K H a (ns.map V.int)->HOk P w H s₁.heap->(∀b,H b≠none->b=a)->(H a≠none->K.lookup a=none)->
   codeAny (model P w) callerA (.call (.ref fa) ⟨[.ref a],[]⟩) (fun r s'=>r= .ok (.ret (.bool true))/\OldK s₁.heap s'.heap/\s'.os=s₁.os/\AllBare s'.gens) s₁:=by
  intro H hO hS hok hA hK;have base_of:∀{b:Addr}{o:Obj},s₁.heap.get? b=some o->H b=none->(hidT s₁.heap H).get? b=some o:=fun e n=>oG e n;have noA:∀{b:Addr}{o:Obj}{es:Array DictEntry}{ep:Nat},s₁.heap.get? b=some o->o.data= .dict es ep->H b=none:=fun{b o es ep} e d=>by
   cases q:H b with
   |none=>rfl
   |some u =>
    have e':b=a:=hA b (by rw[q];simp);subst e';rw[ha]at e;cases e;have d':Data.seq vs.toArray _=Data.dict es ep:=d;cases d'
  have nsK:∀{b:Addr}{m:Str->Option Value},s₁.heap.Ns b m->(hidT s₁.heap H).Ns b m:=fun{b m} ⟨o,es,ep,e,d,r⟩=>⟨o,es,ep,base_of e (noA e d),d,r⟩;have hKb:K.In (hidT s₁.heap H):=fun b o e=>base_of (KX b o e) (by
   cases q:H b with
   |none=>rfl
   |some u =>
    have e':b=a:=hA b (by rw[q];simp);subst e';rw[hK (by rw[q];simp)]at e;cases e)
  have hM:Mod K mg (hidT s₁.heap H):=⟨hKb,nsK hns,⟨mb,nsK hb,hbb⟩,let⟨mc,h1,h2⟩:=hlim;⟨mc,nsK h1,h2⟩⟩;have e0:Env0 P w K mg (hidT s₁.heap H) callerA [] s₁ H:=⟨rfl,hM,fun b o e=>ZW e,Nat.le_of_eq (iX _ _),trivial,fun b hb=>absurd (show b∈([]:List Addr)from hb) (by simp),hok,.of_eq hg⟩;refine codeAny_mono ((F _ hKb (nsK hns)).run callerA [] s₁ H ⟨[.ref a],[]⟩ [.ref a] [.ref a] _ _ hr e0 (hbind s₁ (.ref a)) (.cons rfl .nil) (hsp H hO hS)) fun r s' h=>?_;cases r with
  |error e=>exact(hCX H e s' h).elim
  |ok fl =>
   cases fl with
   |next=>exact False.elim h
   |brk=>exact False.elim h
   |cont=>exact False.elim h
   |ret u =>
    obtain⟨v,H',os,bare,un,hok',r',q⟩:=h;have q':v= .bl true:=q;subst q';obtain rfl:u=Value.bool true:=r';refine⟨rfl,OldK.of_keep fun b o e=>?_,os,bare⟩;cases q:H b with
    |none=>exact un.keep b o e q (by intro z;exact absurd (show b∈([]:List Addr)from z) (by simp)) (by simp)
    |some u =>
     rcases hO b with z|⟨ob,xs,z⟩
     ·rw[q]at z;cases z
     ·have z2:=un.frzs b ob _ z;obtain⟨e1,_⟩:=hok b _ z;obtain⟨e2,_⟩:=hok' b _ z2;rw[e]at e1;cases e1;exact e2
 cases hk:K.lookup a with
 |some o =>
  -- the script is one of the module's own objects
  have e:=KX a o hk;rw[ha]at e;cases e;refine core (fun _=>none) (fun _=>.inl rfl) (.inr ⟨_,vs.toArray,_,hk,rfl,rfl,rfl,by rw[size_toArray,lenV];exact hl,by simpa using rv⟩) (fun b u z=>by have z':(none:Option HO)=some u:=z;cases z') (fun b z=>absurd rfl z) fun z=>absurd rfl z
 |none =>
  refine core (fun b=>if b=a then some (.frz {cls:=.type "list",data:=.seq vs.toArray} (.lst (ns.map V.int)))else none) (fun b=>?_) (.inl (.inr ⟨{cls:=.type "list",data:=.seq vs.toArray},if_pos rfl⟩)) (fun b u z=>?_) (fun b z=>?_) fun _=>hk
  ·by_cases hb:b=a
   ·exact .inr ⟨_,_,if_pos hb⟩
   ·exact .inl (if_neg hb)
  ·by_cases hb:b=a
   ·have z':=(if_pos hb).symm.trans z;cases z';subst hb;exact⟨ha,by rw[length_map];exact hl,vs,_,rv,ha⟩
   ·have z':=(if_neg hb).symm.trans z;cases z'
  ·by_cases hb:b=a
   ·exact hb
   ·exact absurd (if_neg hb) z
theorem JF{l:W.OpenLaw}{n k:Nat}{q:Program}{loose:List Str}{XP:(Str->Option Value)->Heap->Prop}{YP:World->Heap->Prop}{d:DefRec}{K:Params->W.Frag}{CX:World->CXT}{sp:World->Sp}{x:Str}(hn:l.most=some n)(hn2:n<=sizeLine)(hdf:d.params.defaults=[])(hr:Room k callerA)(hY:∀(w:World) (h:Heap),YP w h->(K w.params).In h)(F:∀(w:World) (mg:Str->Option Value) (fa:Addr) (h:Heap),(K w.params).In h->h.Ns mainGlobals mg->mg d.name=some (.ref fa)->
   ∃fd:FuncData,(∀(s:Shared) (u:Value),BindsTo s fd ⟨[u],[]⟩ [(x,u)])/\
    ∀base:Heap,(K w.params).In base->base.Ns mainGlobals mg->FnOk l.prog w (K w.params) mg base (CX w) k fa fd [x] (sp w))(hsp:∀(w:World) (H:Hp) (a:Addr) (ns:List Int),ns.length<=n->Only H->SqL (K w.params) H a (ns.map V.int)->sp w [.ref a] H (fun v _=>v= .bl true) fun _ _ _=>False)(hCX:∀(w:World) (H:Hp) (s:Shared) (e:Value) (s':Shared),CX w [] H s (fun _ _ _=>False) e s'->False) :
  W.WalkO q loose XP YP l.row.toRowW d [] (fun f vs=>PySem.call f vs):=by
 refine Att.attach_call hn hdf fun w s₀ s₁ mg mb fa o pm cd doc a vs ns G Y ho hd hcd hmg hobj hints hlen hg=>?_;have KX:=hY w _ Y;obtain⟨fd,hb,hF⟩:=F w mg fa _ KX G.T.g hmg;exact oU KX G.T.g G.T.b G.T.builtins G.T.nolimit hg hobj hints (le_trans hlen hn2) hr hF hb (fun H hO hS=>hsp w H a ns hlen hO hS) fun H e s'=>hCX w H s₁ e s'
end L2
/- THE LAST THEOREM (shape;LID,My.* are yours):
  My.Adr: a structure of the addresses that your layer names (classes,functions);My.Txt K t: a structure (Prop) of the equations over K;
  My.txt_mk:{K} {implicit addresses ..} (e1:nsIn K mainGlobals "law"=some (some (.ref f))) (e2:K.lookup f=some ⟨oc,od,.func (fnOf "law" "law" params body scope dV kV doc pm an cdv ct),sl⟩) (e3:codeIn K cdv "law"=true) ..:∃t,My.Txt K t
(the tactic k_is has no namespace: write k_is) -/
namespace L2
open PySem PySem.Spec PyProof.Rows
def wB(s:Stmt)(j:Nat):Stmt:=match s with
 | .ClassDef _ _ _ body _ _ _ _ _ _ _=>body.getD j (.Pass ⟨0,0,0,0⟩)
 | _=>.Pass ⟨0,0,0,0⟩
def jW(s:Stmt):Arguments:=match s with
 | .FunctionDef _ a _ _ _ _ _ _ _ _=>a
 | _=>{posonlyargs:=[],args:=[],vararg:=none,kwonlyargs:=[],kw_defaults:=[],kwarg:=none,defaults:=[]}
def j8(s:Stmt):List Stmt:=match s with
 | .FunctionDef _ _ b _ _ _ _ _ _ _=>b
 | _=>[]
def z7(s:Stmt):Scope:=match s with
 | .FunctionDef _ _ _ _ _ _ sc _ _ _=>sc
 | _=>{kind:=.function,names:=[],isGenerator:=false,isCoroutine:=false}
abbrev CX0:CXT:=fun _ _ _ _ _ _=>False
abbrev E0:XK:=fun _ _ _=>False
theorem wu{X:Cx}:jE CX0 X E0:=fun _ _ _ _ _ _ _ h=>h.elim
structure Fun(K:W.Frag)(x qual:Str)(st:Stmt)(f:Addr)(fd:FuncData):Prop where
 ex:∃(oc:Value)(od:Option Addr)(kV doc pm:Value)(an:Option Addr)(cdv ct:Value)(osl:Array (Option Value)),
  fd=W.fnOf x qual (jW st) (j8 st) (z7 st) .none kV doc pm an cdv ct/\K.lookup f=some ⟨oc,od,.func fd,osl⟩/\W.codeIn K cdv qual=true
 kp:W.keepIn K (.ref f)=true
section
variable{P:Program}{w:World}{K:W.Frag}{mg:Str->Option Value}{base:Heap}
theorem Fun.ok{x qual:Str}{st:Stmt}{f:Addr}{fd:FuncData}{N ps:List Str}{k:Nat}{sp:Sp}{cm:Bool}(F:Fun K x qual st f fd)(S:FnScope N ps (z7 st))(len:∀vs H Q E,sp vs H Q E->vs.length=ps.length)(hbody:∀(cdv:Value) (A:Around) (outer:List Env) (s:Shared) (H:Hp) (vs:List V) (Q:VK) (E:XK),Room k (A.deeper (envOfC qual (z7 st) s.heap.objs.size f cdv)) cm->sp vs H Q E->
   ∃t,PSs (cxOf CX0 P w K mg base N qual (z7 st) f cdv A outer s H E cm).nox (j8 st) t/\t {nx:=fun _ H'=>Q .non H',rt:=Q} (mF N vs) H):FnOk P w K mg base CX0 (k+1) f fd ps sp cm:=by
 obtain⟨oc,od,kV,doc,pm,an,cdv,ct,osl,rfl,lk,hcd⟩:=F.ex;refine Yz lk hcd S len fun A outer s H vs Q E hr hsp=>?_;obtain⟨t,h,q⟩:=hbody cdv A outer s H vs Q E hr hsp;exact⟨t,h.nox,q⟩
theorem Fun.binds{x qual:Str}{st:Stmt}{f:Addr}{fd:FuncData}{ps:List Str}(F:Fun K x qual st f fd)(h:∀(kV doc pm:Value) (an:Option Addr) (cdv ct:Value) (us:List Value),us.length=ps.length->bindArgs (W.fnOf x qual (jW st) (j8 st) (z7 st) .none kV doc pm an cdv ct) ⟨us,[]⟩=pure (ps.zip us)):ux K fd ps []:=by
 obtain⟨oc,od,kV,doc,pm,an,cdv,ct,osl,rfl,lk,hcd⟩:=F.ex;exact .all (h kV doc pm an cdv ct)
theorem eA{x qual:Str}{st:Stmt}{f:Addr}{oc:Value}{od an:Option Addr}{osl:Array (Option Value)}{kV doc pm cdv ct:Value}(l:K.lookup f=some ⟨oc,od,.func (W.fnOf x qual (jW st) (j8 st) (z7 st) .none kV doc pm an cdv ct),osl⟩)(c:W.codeIn K cdv qual=true)(k:W.keepIn K (.ref f)=true):Fun K x qual st f (W.fnOf x qual (jW st) (j8 st) (z7 st) .none kV doc pm an cdv ct):=⟨⟨oc,od,kV,doc,pm,an,cdv,ct,osl,rfl,l,c⟩,k⟩
end
section
variable{X:Cx}
theorem pv(i:Nat){x:Str}{pos:Pos}(hN:X.N[i]? =some x:=by rfl)(hv:Vis X.env.scope x:=by first|exact Or.inl rfl|exact Or.inr (Or.inl rfl)|exact Or.inr (Or.inr rfl))(hd:(x==("__debug__" : Str))=false:=by decide)(hcd:(x==("__classdict__" : Str))=false:=by decide):PE X (.Name x pos) (tVar i):=nr hN hv hd hcd
end
theorem iteF{A B:Prop}(h:B):if false=true then A else B:=by
 rw[if_neg Bool.false_ne_true];exact h
theorem iteT{A B:Prop}(h:A):if true=true then A else B:=by
 rw[if_pos rfl];exact h
theorem ite2{c A B:Prop}[Decidable c](h1:c->A)(h2:¬c->B):if c then A else B:=by
 by_cases h:c
 ·rw[if_pos h];exact h1 h
 ·rw[if_neg h];exact h2 h
theorem oM{c A B:Prop}[Decidable c](hc:c)(h:B):if(!decide c)=true then A else B:=by
 rw[decide_eq_true hc];exact iteF h
def Same(H H':Hp):Prop:=∀ b o,H b=some o->H' b=some o
theorem Same.refl(H:Hp):Same H H:=fun _ _ h=>h
theorem Same.trans{H H1 H2:Hp}(a:Same H H1)(b:Same H1 H2):Same H H2:=fun c o h=>b c o (a c o h)
theorem Same.free{H H':Hp}(e:Same H H'){l:Addr}(h:H' l=Option.none):H l=Option.none:=by
 cases q:H l with
 |none=>rfl
 |some o =>
  rw[e l o q]at h;cases h
theorem Same.seq{K:W.Frag}{H H':Hp}{a:Addr}{xs:List V}(e:Same H H')(h:SqL K H a xs):SqL K H' a xs:=by
 rcases h with(h|⟨o,h⟩)|h
 ·exact .inl (.inl (e _ _ h))
 ·exact .inl (.inr ⟨o,e _ _ h⟩)
 ·exact .inr h
section
variable{prog:Program}{w:World}{A:Around}{R:Result->Shared->Prop}{s:Shared}
theorem uB{elt target iter:Expr}{ifs:List Expr}{scope:Scope}{pos:Pos}{it acc:Value}{env:Env}(I:Nat->Shared->Prop)(turn:∀n s,I n s->wpAny (model prog w) A (pyNext it) (fun r s₁=>match r with
   |none=>R (.ok .next) s₁
   |some v=>wpAny (model prog w) A (letOwnedTupleGo target it v) (fun _ s₁'=>wpAny (model prog w) A (assign target env v) (fun _ s₂ =>
     wpAny (model prog w) A (forIn ifs true fun c r=>if r=true then do let ok <-isTrue c env (eval c env);pure (ForInStep.yield ok)else pure (ForInStep.yield r)) (fun ok s₃ =>
      if ok=true then wpAny (model prog w) A (eval elt env) (fun x s₄ =>
       wpAny (model prog w) A (call (.builtin "list.append") [acc,x]) (fun _ s₅=>∃ m,m<n/\I m s₅) (notedBy (model prog w) A env fun e s'=>R (.error e) s') s₄) (notedBy (model prog w) A env fun e s'=>R (.error e) s') s₃
      else ∃m,m<n/\I m s₃) (notedBy (model prog w) A env fun e s'=>R (.error e) s') s₂) (notedBy (model prog w) A env fun e s'=>R (.error e) s') s₁') (notedBy (model prog w) A env fun e s'=>R (.error e) s') s₁) (notedBy (model prog w) A env fun e s'=>R (.error e) s') s)(n:Nat)(h:I n s) :
  codeAny (model prog w) A (.compLoop (.ListComp elt [⟨target,iter,ifs,0⟩] scope pos) 0 it acc env) R s:=by
 refine codeAny_loop rfl I (fun n s hI=>?_) n h;show wpAny _ A ((compTurn (.ListComp elt [⟨target,iter,ifs,0⟩] scope pos) 0 it acc env).onRaise (fun x=>do noteFrame x env;theTreesLotGoes x)) _ _ s;refine wpAny_noted ?_;rw[compTurn_list];refine wpAny_bind (wpAny_standAt (wpAny_bind (wpAny_mono (turn n s hI) (fun r s₁ h₁=>?_) fun _ _ h'=>h')));cases r with
 |none=>exact wpAny_pure h₁
 |some v =>
  refine wpAny_bind (wpAny_mono h₁ (fun _ s₁' h₁=>?_) fun _ _ h'=>h');refine wpAny_bind (wpAny_mono h₁ (fun _ s₂ h₂=>wpAny_bind (wpAny_mono h₂ (fun ok s₃ h₃=>?_) fun _ _ h'=>h')) fun _ _ h'=>h');cases ok with
  |false=>exact wpAny_pure ⟨rfl,h₃⟩
  |true =>
   exact wpAny_bind (wpAny_bind (wpAny_mono h₃ (fun x s₄ h₄=>wpAny_bind (wpAny_mono h₄ (fun _ s₅ h₅=>wpAny_pure (wpAny_pure ⟨rfl,h₅⟩)) fun _ _ h'=>h')) fun _ _ h'=>h'))
end
def bE(env:Env):List (Str×NameKind)->List (Str×Addr)->List (Str×Addr)
 | [],cs=>cs
 |(n,k)::r,cs=>bE env r (if k== .free then(n,(env.cells.lookup n).getD 0)::cs else cs)
def clos(scope:Scope)(env:Env):List (Str×Addr):=bE env scope.names []
theorem um{env:Env}:∀(ns:List (Str×NameKind))(cs:List (Str×Addr)),(∀x∈ns,x.2= .free-> ∃c,env.cells.lookup x.1=some c)->
  (forIn ns cs fun(x:Str×NameKind)(r:List (Str×Addr))=>(match x with|(name,kind)=>if kind== .free then do let c <-cellOf env name;pure (ForInStep.yield ((name,c)::r))else pure (ForInStep.yield r):Sem (ForInStep (List (Str×Addr)))))=(pure (bE env ns cs):Sem (List (Str×Addr)))
 | [],cs,_=>rfl
 |(n,k)::r,cs,h=>by
  rw[List.forIn_cons];by_cases hk:k= .free
  ·subst hk;obtain⟨c,hc⟩:=h (n,.free) mem_cons_self rfl;have e:cellOf env n=pure c:=by
    have hc':env.cells.lookup n=some c:=hc;unfold cellOf;rw[hc']
   simp only[beq_self_eq_true,if_true,e,pure_bind];rw[um r _ fun x hx=>h x (mem_cons_of_mem _ hx)];have hc':env.cells.lookup n=some c:=hc;simp[bE,hc']
  ·have hb:(k==NameKind.free)=false:=by simpa using hk
   simp only[hb,false_eq_true,if_false,pure_bind];rw[um r _ fun x hx=>h x (mem_cons_of_mem _ hx)];simp[bE,hb]
theorem jU{scope:Scope}{env:Env}(h:∀x∈scope.names,x.2= .free-> ∃c,env.cells.lookup x.1=some c):closureFor scope env=pure (clos scope env):=by
 unfold closureFor clos;have:=um (env:=env) scope.names [] h;simp only[bind_pure];exact this
theorem xP{env:Env}{x:Str}{c:Addr}:∀(ns:List (Str×NameKind))(cs:List (Str×Addr)),(∀y∈ns,y.2= .free-> ∃c,env.cells.lookup y.1=some c)->(∀c,cs.lookup x=some c->env.cells.lookup x=some c)->
  (bE env ns cs).lookup x=some c->env.cells.lookup x=some c
 | [],cs,_,hc,e=>hc c e
 |(n,k)::r,cs,h,hc,e=>by
  refine xP r _ (fun y hy=>h y (mem_cons_of_mem _ hy)) (fun c' e'=>?_) e;by_cases hk:k= .free
  ·subst hk;obtain⟨c₁,h₁⟩:=h (n,.free) mem_cons_self rfl;have h₁':env.cells.lookup n=some c₁:=h₁;simp only[beq_self_eq_true,if_true,List.lookup_cons]at e';cases hx:x==n with
   |true =>
    rw[hx]at e';have hxn:x=n:=by simpa using hx
    subst hxn;rw[h₁']at e' ⊢;exact e'
   |false=>rw[hx]at e';exact hc c' e'
  ·have hb:(k==NameKind.free)=false:=by simpa using hk
   simp only[hb,false_eq_true,if_false]at e';exact hc c' e'
theorem qk{env:Env}{x:Str}:∀(ns:List (Str×NameKind))(cs:List (Str×Addr)),((x,NameKind.free)∈ns\/ ∃c,cs.lookup x=some c)-> ∃c,(bE env ns cs).lookup x=some c
 | [],cs,h=>h.elim (fun z=>nomatch z) fun z=>z
 |(n,k)::r,cs,h=>by
  refine qk r _ ?_;rcases h with h|⟨c,h⟩
  ·rcases mem_cons.mp h with e|h
   ·cases e;right;simp
   ·exact .inl h
  ·right;by_cases hk:k= .free
   ·subst hk;simp only[beq_self_eq_true,if_true,List.lookup_cons];cases x==n with
    |true=>exact⟨_,rfl⟩
    |false=>exact⟨c,h⟩
   ·have hb:(k==NameKind.free)=false:=by simpa using hk
    simp only[hb,false_eq_true,if_false];exact⟨c,h⟩
theorem wQ{env:Env}{x:Str}{k':NameKind}:∀{names:List (Str×NameKind)},
  (names.map fun(n,k)=>if(k==NameKind.free&&env.scope.kind== .function&&env.kindOf n==some .cell)then(n,NameKind.cell)else(n,k)).lookup x=some k'->
  ∃k,names.lookup x=some k/\(x,k)∈names/\(k'=k\/(k= .free/\k'= .cell))
 | [],h=>by simp at h
 |(n,k)::r,h=>by
  have ih:=@wQ env x k' r;have h':List.lookup x ((if(k==NameKind.free&&env.scope.kind== .function&&env.kindOf n==some .cell)=true then(n,NameKind.cell)else(n,k))::r.map fun(n,k)=>if(k==NameKind.free&&env.scope.kind== .function&&env.kindOf n==some .cell)then(n,NameKind.cell)else(n,k))=some k':=h;cases hx:x==n with
  |true =>
   have hxn:x=n:=by simpa using hx
   subst hxn;refine⟨k,by simp,mem_cons_self,?_⟩;by_cases hc:(k==NameKind.free&&env.scope.kind== .function&&env.kindOf x==some .cell)=true
   ·rw[if_pos hc]at h';simp at h';have hk:k= .free:=by
     cases k <;>simp at hc ⊢
    exact .inr ⟨hk,h'.symm⟩
   ·rw[if_neg hc]at h';simp at h';exact .inl h'.symm
  |false =>
   have h2:(r.map fun(n,k)=>if(k==NameKind.free&&env.scope.kind== .function&&env.kindOf n==some .cell)then(n,NameKind.cell)else(n,k)).lookup x=some k':=by
    by_cases hc:(k==NameKind.free&&env.scope.kind== .function&&env.kindOf n==some .cell)=true
    ·rw[if_pos hc]at h';simp only[List.lookup_cons,hx]at h';exact h'
    ·rw[if_neg hc]at h';simp only[List.lookup_cons,hx]at h';exact h'
   obtain⟨k0,e1,e2,e3⟩:=ih h2;exact⟨k0,by simp only[List.lookup_cons,hx];exact e1,mem_cons_of_mem _ e2,e3⟩
def cxC(X:Cx)(scope:Scope)(N:List Str)(C:Addr)(s:Shared)(H:Hp)(ex:List Addr):Cx :=
 {X with N:=N,s₀:=s,H₀:=H,env:=compEnvC scope (clos scope X.env) C X.env,outer:=X.stack,stack:=X.stack,ex:=ex,fn:=fun _=>false,pn:=[],xe:=fun _ _=>False}
structure CScope(X:Cx)(scope:Scope)(ls:List Str)(fr:List (Str×Nat)):Prop where
 kind:scope.kind= .function
 nocell:∀y∈scope.names,y.2≠ .cell
 names:∀y∈scope.names,y.2= .local->scope.names.lookup y.1=some .local
 free:∀y∈scope.names,y.2= .free->X.env.kindOf y.1=some .cell\/X.env.kindOf y.1=some .free
 slots:∀p∈fr,X.N[p.2]? =some p.1/\scope.names.lookup p.1=some .free
def wq(ls:List Str)(fr:List (Str×Nat))(σ:St):St:=ls.map (fun _=>none)++fr.map fun p=>(σ[p.2]?).join
section
variable{X:Cx}{scope:Scope}{ls:List Str}{fr:List (Str×Nat)}
theorem CScope.cells{pins:List (Addr×Obj)}{σ:St}{H:Hp}{s:Shared}(S:CScope X scope ls fr)(I:Inv X pins σ H s):∀x∈scope.names,x.2= .free-> ∃c,X.env.cells.lookup x.1=some c :=
 fun x hx hk=>I.ok.has x.1 (S.free x hx hk)
theorem CScope.look{pins:List (Addr×Obj)}{σ:St}{H:Hp}{s:Shared}(S:CScope X scope ls fr)(I:Inv X pins σ H s){x:Str}{c:Addr}(e:(clos scope X.env).lookup x=some c):X.env.cells.lookup x=some c :=
 xP scope.names [] (S.cells I) (fun _ z=>by simp at z) e
theorem bJ{pins:List (Addr×Obj)}{σ:St}{H:Hp}{s:Shared}{C:Addr}{ex:List Addr}(S:CScope X scope ls fr)(I:Inv X pins σ H s)(hC:s.heap.objs.size<=C)(hex:∀b∈ex,FpOk X pins H b/\b<s.heap.objs.size) :
  (cxC X scope (ls++fr.map (·.1)) C s H ex).Ok where
 mod:=I.ok.mod
 kind:=S.kind
 glob:=I.ok.glob
 blt:=I.ok.blt
 above:=hC
 inj:=fun x y c e1 e2=>I.ok.inj x y c (S.look I e1) (S.look I e2)
 has:=fun x h=>by
  have h':∃k',(relabel scope X.env).names.lookup x=some k'/\(k'= .cell\/k'= .free):=h.elim (fun z=>⟨_,z,.inl rfl⟩) fun z=>⟨_,z,.inr rfl⟩;obtain⟨k',e,hk⟩:=h';obtain⟨k,e1,e2,e3⟩:=wQ e;refine qk scope.names [] (.inl ?_);have hn:=S.nocell _ e2;rcases e3 with rfl|⟨rfl,_⟩
  ·rcases hk with rfl|rfl
   ·exact absurd rfl hn
   ·exact e2
  ·exact e2
 cab:=fun x c h=>nomatch h
 hd:=I.ok.hd
 frames:=I.ok.frames
 stk:=.inl rfl
 exf:=fun b hb=>by
  obtain⟨⟨f0,f1,f2,f3,f4,f5⟩,hl⟩:=hex b hb;exact⟨ne_of_lt (lt_of_lt_of_le hl hC),fun x c e=>f4 x c (S.look I e)⟩
 bs:=I.bs
 bsz:=le_trans I.ok.bsz I.sz
 noex:=fun b o e hb=>by
  obtain⟨⟨f0,f1,f2,f3,f4,f5⟩,hl⟩:=hex b hb;rcases f3 with z|z
  ·exact I.ok.noex b o e z
  ·exact absurd (lt_of_lt_of_le (Heap.lt_size e) (le_trans I.ok.bsz z)) (lt_irrefl _)
 exfs:=fun b hb hf=>by
  obtain⟨⟨f0,f1,f2,f3,f4,f5⟩,hl⟩:=hex b hb;exact(mem_cons.mp (I.stkSub b hf)).elim f1 f2
 funs:=I.stack
 frf:=I.stkFree
theorem aW{pins:List (Addr×Obj)}{σ:St}{H:Hp}{s s':Shared}{C:Addr}{m:Str->Option Value}{ex:List Addr}(S:CScope X scope ls fr)(I:Inv X pins σ H s)(hC:s.heap.objs.size<=C)(hex:∀b∈ex,FpOk X pins H b/\b<s.heap.objs.size)(ho:s'.os=s.os)(hg:AllBare s'.gens)(k:∀b o,s.heap.get? b=some o->s'.heap.get? b=some o)(hn:s'.heap.Ns C m):Inv (cxC X scope (ls++fr.map (·.1)) C s H ex) [] (wq ls fr σ) H s' where
 ok:=bJ S I hC hex
 os:=ho
 bare:=hg
 base:=Un.kept k
 loc:=by
  refine⟨m,hn,fun i x v e1 e2 e3=>?_⟩;have e2':(ls.map (fun _=>(none:Option V))++fr.map fun p=>(σ[p.2]?).join)[i]? =some (some v):=e2;have e1':(ls++fr.map (·.1))[i]? =some x:=e1;by_cases hi:i<ls.length
  ·rw[List.getElem?_append_left (by simpa using hi),getElem?_map]at e2';cases q:ls[i]? with
   |none=>rw[q]at e2';cases e2'
   |some y=>rw[q]at e2';cases e2'
  ·have hi':ls.length<=i:=Nat.le_of_not_lt hi;rw[List.getElem?_append_right (by simpa using hi'),getElem?_map,length_map]at e2';rw[List.getElem?_append_right hi',getElem?_map]at e1';cases q:fr[i-ls.length]? with
   |none=>rw[q]at e1';cases e1'
   |some p =>
    rw[q]at e1' e2';have ex1:p.1=x:=Option.some.inj e1';have hp:p∈fr:=mem_of_getElem? q;obtain⟨hsl,hfree⟩:=S.slots p hp;subst ex1;have hv:σ[p.2]? =some (some v):=by
     have z:(σ[p.2]?).join=some v:=Option.some.inj e2';cases w:σ[p.2]? with
     |none=>rw[w]at z;cases z
     |some o=>rw[w]at z;exact congrArg some z
    obtain⟨m0,hn0,hl⟩:=id I.loc;have vis':∃k',(relabel scope X.env).names.lookup p.1=some k'/\(k'= .local\/k'= .cell\/k'= .free):=by
     rcases e3 with z|z|z
     ·exact⟨_,z,.inl rfl⟩
     ·exact⟨_,z,.inr (.inl rfl)⟩
     ·exact⟨_,z,.inr (.inr rfl)⟩
    obtain⟨k',ek,_⟩:=vis';obtain⟨k0,f1,f2,f3⟩:=wQ ek;rw[hfree]at f1;cases f1;have hk:=S.free _ f2 rfl;have hk':k'= .cell\/k'= .free:=f3.elim .inr fun z=>.inl z.2;have hvis:Vis X.env.scope p.1:=hk.elim (fun z=>.inr (.inl z)) fun z=>.inr (.inr z);obtain⟨u,ru,lk⟩:=hl p.2 p.1 v hsl hv hvis;obtain⟨c',hc'⟩:∃c,(clos scope X.env).lookup p.1=some c:=qk scope.names [] (.inl f2);refine⟨u,ru,.inr ⟨hk'.elim (fun z=>.inl (z▸ek)) fun z=>.inr (z▸ek),c',hc',?_⟩⟩;rcases lk with⟨z,_⟩|⟨_,c,ec,ic⟩
    ·rcases hk with y|y <;>(rw[y]at z;cases z)
    ·have:=S.look I hc';rw[ec]at this;cases this;exact ic.keeps k
 cell:=fun x c e=>by
  obtain⟨v,z⟩:=I.cell x c (S.look I e);exact⟨v,z.keeps k⟩
 free:=I.hok.fresh hC
 freeC:=fun x c e=>I.freeC x c (S.look I e)
 pin:=fun p hp=>nomatch hp
 hok:=I.hok.kept k
 len:=by simp[wq,cxC]
def PF(X:Cx)(ifs:List Expr)(t:TT):Prop :=
 ∀(pins:List (Addr×Obj))(s:Shared)(σ:St)(H:Hp)(Q:Bool->Hp->Prop),Inv X pins σ H s->t σ H Q->
  wpAny (model X.prog X.w) X.A (forIn ifs true fun c r=>if r=true then do let ok <-isTrue c X.env (eval c X.env);pure (ForInStep.yield ok)else pure (ForInStep.yield r)) (TP X pins σ Q) X.xe s
def tYes:TT:=fun _ H Q=>Q true H
theorem yy{X:Cx}:PF X [] tYes:=fun pins s σ H Q I h=>wpAny_tests_nil ⟨H,I,h⟩
theorem eR{X:Cx}{c:Expr}{t:TT}(h:PT X c t):PF X [c] t:=fun pins s σ H Q I hw=>wpAny_tests_one (h pins s σ H Q I hw)
theorem HOk.add{P:Program}{w:World}{H:Hp}{h:Heap}{a:Addr}{o:HO}(x:HOk P w H h)(hn:H a=none)(new:zS P w (upd H a o) h a o):HOk P w (upd H a o) h:=fun b u e=>by
 by_cases hb:b=a
 ·subst hb;rw[z6]at e;cases e;exact new
 ·rw[zh hb]at e;exact(x b u e).stay (fun _ _ _ q=>q) (fun c q=>by rw[zh (zj q hn)];exact q) fun c xs q=>by rw[zh (zj q hn)];exact q
theorem Un.add{fs ex:List Addr}{H H':Hp}{h h':Heap}{a:Addr}{o:HO}(u:Un fs ex H H' h h')(ha:h.objs.size<=a)(hn:H' a=none):Un fs ex H (upd H' a o) h h' where
 keep:=u.keep
 slot:=u.slot
 free:=fun b ob q n hx=>by rw[zh (ne_of_lt (lt_of_lt_of_le (Heap.lt_size q) ha))];exact u.free b ob q n hx
 there:=u.there
 tups:=fun b xs q=>by
  have z:=u.tups b xs q;rw[zh (zj z hn)];exact z
 frzs:=fun b ob xs q=>by
  have z:=u.frzs b ob xs q;rw[zh (zj z hn)];exact z
 tbls:=fun b ps q=>by
  obtain⟨more,z⟩:=u.tbls b ps q;exact⟨more,by rw[zh (zj z hn)];exact z⟩
def uj(g:TG)(tf:TT)(te:TE)(σ0:St)(J:It)(H:Hp)(Q:VK):Prop :=
 ∃W0:Nat->Nat->List V->St->Hp->Prop,(∃m,W0 0 m [] σ0 H)/\ ∀i m ys σ H,W0 i m ys σ H->
  (J.stop i H/\ys.length<=sizeLine/\ ∀p,H p=none->Q (.ref p) (upd H p (.lst ys)))\/
  (J.go i H/\ys.length<=sizeLine/\ ∃N:List V->St->Hp->Prop,(∀ys σ' H',N ys σ' H'-> ∃m',m'<m/\W0 (i+1) m' ys σ' H')/\ ∀x H1,J.yld i H x H1->g x σ H1 fun σ2 H2=>tf σ2 H2 fun b H3=>if b=true then te σ2 H3 fun v H4=>N (ys++[v]) σ2 H4 else N ys σ2 H3)
def o3(wi:TI)(ls:List Str)(fr:List (Str×Nat))(g:TG)(tf:TT)(te:TE):TE:=fun σ H Q=>wi σ H fun J H1=>uj g tf te (wq ls fr σ) J H1 Q
theorem xS{pins:List (Addr×Obj)}{σ:St}{H:Hp}{s:Shared}{it:Addr}{fp:List Addr}{tn:Nat->Heap->Prop}{J:It}{tg elt iter:Expr}{ifs:List Expr}{pos:Pos}{g:TG}{tf:TT}{te:TE}{Q:VK}{E:Value->Shared->Prop}{RR:Value->Addr->Result->Shared->Prop}(S:CScope X scope ls fr)(hc:X.calm=true)(I:Inv X pins σ H s)(T:Turn X.prog X.w X.K tg J fp it tn)(st:tn 0 s.heap)(hf:∀b∈fp,FpOk X pins H b)(hq:uj g tf te (wq ls fr σ) J H Q)(hg:∀C s H ex,PG (cxC X scope (ls++fr.map (·.1)) C s H ex) tg g)(ht:∀C s H ex,PF (cxC X scope (ls++fr.map (·.1)) C s H ex) ifs tf)(he:∀C s H ex,PE (cxC X scope (ls++fr.map (·.1)) C s H ex) elt te)(hRR:∀(D C:Addr) (s':Shared) (H':Hp) (m:Str->Option Value),Inv X pins σ H' s'->s'.heap.Ns C m->s.heap.objs.size<=C->H' C=none->Q (.ref D) H'->RR (.ref D) C (.ok .next) s') :
  wpAny (model X.prog X.w) X.A (newList []) (fun acc s₃=>wpAny (model X.prog X.w) X.A (newFunctionEnv scope X.env.globals (clos scope X.env) [] X.env.qual none .none (some X.env)) (fun cenv s₄ =>
   codeAny (model X.prog X.w) X.A (.compStart (.ListComp elt [⟨tg,iter,ifs,0⟩] scope pos) 0 (.ref it) acc {cenv with scope:=relabel scope X.env}) (RR acc cenv.locals) s₄) E s₃) E s:=by
 refine wpAny_newObj_type (wpAny_newFunctionEnv S.nocell (by intro y hy;simp at hy) (fun h₁ hns₁ hsb₁=>?_) S.kind);dsimp only at hns₁ hsb₁ ⊢;generalize hH2:s.heap.push {cls:=.type "list",dict:=none,data:=.seq ([]:List Value).toArray}=H2 at hns₁ hsb₁ ⊢;have hC:H2.objs.size=s.heap.objs.size+1:=by rw[<-hH2,Heap.size_push]
 have hDC:s.heap.objs.size≠H2.objs.size:=by rw[hC];exact ne_of_lt (Nat.lt_succ_self _)
 have hCle:s.heap.objs.size<=H2.objs.size:=by rw[hC];exact le_succ _
 have below:∀b,b<s.heap.objs.size->b≠H2.objs.size/\b≠s.heap.objs.size:=fun b hb=>⟨by rw[hC];exact ne_of_lt (lt_succ_of_lt hb),ne_of_lt hb⟩;have old:∀b o,s.heap.get? b=some o->h₁.get? b=some o:=fun b o e=>hsb₁.extBut b o (below b (Heap.lt_size e)).1 (Heap.get?_push_of_some _ (hH2▸Heap.get?_push_of_some _ e));have hacc:h₁.PlainList s.heap.objs.size #[]:=⟨_,hsb₁.extBut _ _ hDC (Heap.get?_push_of_some _ (hH2▸Heap.get?_push_size _ rfl))⟩;have hfl:∀b∈fp,b<s.heap.objs.size:=fun b hb=>by
  obtain⟨o,e,_⟩:=T.obj _ _ st b hb;exact Heap.lt_size e
 have hex:∀b∈fp,FpOk X pins H b/\b<s.heap.objs.size:=fun b hb=>⟨hf b hb,hfl b hb⟩;generalize hs4:({s with heap:=h₁,toks:=s.toks+([]:List (Str×Value)).length}:Shared)=s4;generalize hX:cxC X scope (ls++fr.map (·.1)) H2.objs.size s H fp=Y;have I4:Inv Y [] (wq ls fr σ) H s4:=by
  rw[<-hX,<-hs4];exact aW S I hCle hex rfl I.bare old hns₁
 have YP:Y.prog=X.prog:=by rw[<-hX];rfl
 have Yw:Y.w=X.w:=by rw[<-hX];rfl
 have YK:Y.K=X.K:=by rw[<-hX];rfl
 have YA:Y.A=X.A:=by rw[<-hX];rfl
 have Yc:Y.calm=true:=by rw[<-hX];exact hc
 have Yx:Y.xe=fun _ _=>False:=by rw[<-hX];rfl
 have Yl:Y.env.locals=H2.objs.size:=by rw[<-hX];rfl
 have Yok:(cxC X scope (ls++fr.map (·.1)) H2.objs.size s H fp).Ok:=bJ S I hCle hex;have fpY:∀{H':Hp}{o:Obj},(∀b∈fp,H' b=none)-> ∀b∈fp,FpOk Y [(s.heap.objs.size,o)] H' b:=fun{H' o} hn b hb=>by
  rw[<-hX];obtain⟨f0,f1,f2,f3,f4,f5⟩:=hf b hb;refine⟨hn b hb,(below b (hfl b hb)).1,fun z=>Yok.exfs b hb z,.inl hb,fun x c e=>f4 x c (S.look I e),fun p hp=>?_⟩;have e:p=(s.heap.objs.size,o):=by simpa [cxC]using hp
  subst e;exact Ne.symm (below b (hfl b hb)).2
 have pinD:∀{σ':St}{H':Hp}{s':Shared}{its:Array Value}{n:Nat},Inv Y [] σ' H' s'->H' s.heap.objs.size=none->s'.heap.get? s.heap.objs.size=some {cls:=.type "list",data:=.seq its n}->
   Inv Y [(s.heap.objs.size,{cls:=.type "list",data:=.seq its n})] σ' H' s':=fun{σ' H' s' its n} I' hn e=>I'.pins_of fun p hp=>by
  have ep:p=(s.heap.objs.size,{cls:=.type "list",data:=.seq its n}):=by simpa using hp
  subst ep;refine⟨e,hn,by rw[Yl];exact hDC,?_,fun v z=>nomatch z⟩;rw[<-hX];exact fun hb=>I.nofs (le_refl _) ((mem_cons.mp (I.stkSub _ hb)).resolve_left fun z=>absurd I.lt (by rw[<-z];exact lt_irrefl _))
 obtain⟨W0,⟨m0,w0⟩,turn⟩:=hq;have E1:∀{α:Type}{t:Sem α}{Q1:α->Shared->Prop}{s1:Shared}{E1:Value->Shared->Prop},wpAny (model X.prog X.w) X.A t Q1 Y.xe s1->wpAny (model X.prog X.w) X.A t Q1 E1 s1:=fun h=>wpAny_mono h (fun _ _ z=>z) fun _ _ z=>by rw[Yx]at z;exact z.elim
 have endC:∀{σ':St}{H':Hp}{s':Shared}{its:List Value}{ys:List V},Inv Y [] σ' H' s'->H' s.heap.objs.size=none->s'.heap.PlainList s.heap.objs.size its.toArray->Vals ys its->ys.length<=sizeLine->
   (∀p,H' p=none->Q (.ref p) (upd H' p (.lst ys)))->RR (.ref s.heap.objs.size) H2.objs.size (.ok .next) s':=fun{σ' H' s' its ys} I' hn ⟨n,e⟩ rv hz q=>by
  subst hX;obtain⟨m,hm,_⟩:=id I'.loc;have hCn:H' H2.objs.size=none:=I'.free;refine hRR _ _ s' (upd H' s.heap.objs.size (.lst ys)) m (I.call' I'.os (Un.add I'.base (le_refl _) hn) (I'.hok.add hn ⟨hz,its,n,rv,e⟩) I'.bare fun b hb=>?_) hm hCle (by rw[zh (Ne.symm hDC)];exact hCn) (q _ hn);obtain⟨f0,f1,f2,f3,f4,f5⟩:=hf b hb;exact⟨f3,f1,f4,f5⟩
 have loop:codeAny (model X.prog X.w) X.A (.compLoop (.ListComp elt [⟨tg,iter,ifs,0⟩] scope pos) 0 (.ref it) (.ref s.heap.objs.size) Y.env) (RR (.ref s.heap.objs.size) H2.objs.size) s4:=by
  refine uB (fun n s'=>∃(i:Nat)(σ':St)(H':Hp)(ys:List V)(its:List Value),Inv Y [] σ' H' s'/\tn i s'.heap/\(∀b∈fp,H' b=none)/\H' s.heap.objs.size=none/\s'.heap.PlainList s.heap.objs.size its.toArray/\Vals ys its/\W0 i n ys σ' H') ?_ m0
   ⟨0,wq ls fr σ,H,[],[],I4,T.keep _ _ _ st fun b _ o e=>by rw[<-hs4];exact old b o e,fun b hb=>(hf b hb).1,I.hok.fresh (le_refl _),by rw[<-hs4];exact hacc,.nil,w0⟩
  rintro n s5 ⟨i,σ5,H5,ys,its,I5,st5,fr5,hn5,⟨nn,e5⟩,rv,w5⟩;have I5p:=pinD I5 hn5 e5;rcases turn i n ys σ5 H5 w5 with⟨stop,hz,qn⟩|⟨go,hz,NN,hNN,step⟩
  ·rw[<-YA];refine thn (T.done Y YP Yw YK Yc i _ s5 σ5 H5 _ I5p (fpY fr5) st5 stop) fun r s6 ⟨hr,I6⟩=>?_;subst hr;exact endC (I6.pins_of fun p hp=>nomatch hp) hn5 ⟨nn,(I6.pin _ (mem_append_right _ mem_cons_self)).1⟩ rv hz qn
  ·have hit:=T.item Y YP Yw YK Yc i _ s5 σ5 H5 (notedBy (model X.prog X.w) X.A Y.env fun e s'=>RR (Value.ref s.heap.objs.size) H2.objs.size (Except.error e) s') I5p (fpY fr5) st5 go;rw[YA]at hit;refine thn hit fun r s6 ⟨u,hr,h6⟩=>?_;subst hr;refine thn h6 fun _ s7 ⟨x,H7,I7,r7,y7,st7,fr7⟩=>?_;have I7':=I7.pinned (fpY fr7) (T.obj _ _ st7);have h8:=hg H2.objs.size s H fp;have h9:=ht H2.objs.size s H fp;have h10:=he H2.objs.size s H fp;rw[hX]at h8 h9 h10;have a8:=h8 _ s7 σ5 H7 x u _ I7' r7 (step x H7 y7);rw[YP,Yw,YA]at a8;refine thn (E1 a8) fun _ s8 ⟨σ8,H8,I8,q8⟩=>?_;have a9:=h9 _ s8 σ8 H8 _ I8 q8;rw[YP,Yw,YA]at a9;refine thn (E1 a9) fun b s9 ⟨H9,I9,q9⟩=>?_;have back:∀{σ':St}{H':Hp}{s':Shared},Inv Y ([(s.heap.objs.size,{cls:=.type "list",data:=.seq its.toArray nn})]++rn fp s7.heap) σ' H' s'->
     tn (i+1) s'.heap/\(∀b∈fp,H' b=none)/\H' s.heap.objs.size=none/\s'.heap.PlainList s.heap.objs.size its.toArray:=fun{σ' H' s'} I'=>by
    have hp:=I'.pin (s.heap.objs.size,{cls:=.type "list",data:=.seq its.toArray nn}) (mem_append_right _ (List.mem_append_left _ mem_cons_self));refine⟨T.keep _ _ _ st7 fun b hb o e=>(I'.pin (b,o) (mem_append_right _ (mem_append_right _ (j4 hb e)))).1,fun b hb=>?_,hp.2.1,⟨nn,hp.1⟩⟩;obtain⟨o,e,d⟩:=T.obj _ _ st7 b hb;exact(I'.pin (b,o) (mem_append_right _ (mem_append_right _ (j4 hb e)))).2.1
   cases b with
   |false =>
    rw[if_neg Bool.false_ne_true]at q9 ⊢;obtain⟨m',hm,w9⟩:=hNN _ _ _ q9;obtain⟨z1,z2,z3,z4⟩:=back I9;exact⟨m',hm,i+1,σ8,H9,ys,its,I9.pins_of (fun p hp=>nomatch hp),z1,z2,z3,z4,rv,w9⟩
   |true =>
    rw[if_pos rfl]at q9 ⊢;have a10:=h10 _ s9 σ8 H9 _ I9 q9;rw[YP,Yw,YA]at a10;refine thn (E1 a10) fun xv s10 ⟨v,H10,I10,rx,q10⟩=>?_;obtain⟨m',hm,w10⟩:=hNN _ _ _ q10;obtain⟨z1,z2,z3,z4⟩:=back I10;have hlen:its.length=ys.length:=(rv.length).symm;refine wpAny_list_append_plain z4 (fun h' pl sb=>?_) (by rw[size_toArray,hlen];exact hz);refine⟨m',hm,i+1,σ8,H10,ys++[v],its++[xv],?_,?_,z2,z3,?_,rv.append (.cons rx .nil),w10⟩
    ·have I10':Inv Y [] σ8 H10 s10:=I10.pins_of fun p hp=>nomatch hp
     refine I10'.turned (t':=s10.toks) (it:=s.heap.objs.size) (fun b o hb e=>(sb.2 b hb).trans e) z3 (by rw[Yl];exact hDC) (.inr ?_) (fun x c e=>?_) fun p hp=>?_
     ·rw[<-hX];exact le_refl _
     ·rw[<-hX]at e;intro z;obtain⟨v0,q0⟩:=I.cell x c (S.look I e);exact absurd q0.lt (by rw[z];exact lt_irrefl _)
     ·rw[<-hX]at hp;exact nomatch hp
    ·refine T.keep _ _ _ z1 fun b hb o e=>(sb.2 b (below b (hfl b hb)).2).trans e
    ·have:(its++[xv]).toArray=its.toArray.push xv:=by simp
     rw[this];exact pl
 have hYe:Y.env={newEnv scope H2.objs.size X.env.globals (clos scope X.env) X.env.qual none .none (some X.env) builtinsNs with scope:=relabel scope X.env}:=by rw[<-hX];rfl
 rw[<-hYe];rw[hYe]at loop ⊢;refine codeAny_compStart_list loop ?_;exact T.self _ 0 _ _ _ (T.keep _ _ _ st fun b _ o e=>by rw[<-hs4];exact old b o e) loop
theorem zP{wi:TI}{tg elt iter:Expr}{ifs:List Expr}{pos:Pos}{g:TG}{tf:TT}{te:TE}(S:CScope X scope ls fr)(hc:X.calm=true)(hi:PI X tg iter wi)(hg:∀C s H ex,PG (cxC X scope (ls++fr.map (·.1)) C s H ex) tg g)(ht:∀C s H ex,PF (cxC X scope (ls++fr.map (·.1)) C s H ex) ifs tf)(he:∀C s H ex,PE (cxC X scope (ls++fr.map (·.1)) C s H ex) elt te)(hs:∀x,foldedSetIterable iter X.env x=pure x:=by intro _;rfl):PE X (.ListComp elt [⟨tg,iter,ifs,0⟩] scope pos) (o3 wi ls fr g tf te):=by
 intro pins s σ H Q I h;rw[eval_ListComp];refine wpAny_comprehension_free (use:=none) rfl hs (jU (S.cells I)) S.kind S.names (thn (hi pins s σ H _ I h) fun xv s₁ h₁=>thn h₁ fun itv s₂ h₂=>?_);obtain⟨it,fp,tn,J,H2,rfl,I2,T,st,hf,q⟩:=h₂;refine xS (RR:=fun acc C=>compPost (model X.prog X.w) X.A X.xe none (EP X pins σ Q) acc C) S hc I2 T st hf q hg ht he ?_;intro D C s' H' m I' hn hC hCn hq;refine⟨m,hn,fun h' sb=>?_⟩;have nC:∀{b:Addr},b<s₂.heap.objs.size->b≠C:=fun hb=>ne_of_lt (lt_of_lt_of_le hb hC);refine⟨.ref D,H',I'.turned (t':=s'.toks) (it:=C) (fun b o hb e=>(sb.2 b hb).trans e) hCn (Ne.symm (nC I2.lt)) (.inr (le_trans I2.sz hC)) (fun x c e=>?_) fun p hp=>?_,rfl,hq⟩
 ·obtain⟨v0,q0⟩:=I2.cell x c e;exact nC q0.lt
 ·exact nC (Heap.lt_size (I2.pin p hp).1)
theorem aF{wi:TI}{tg elt iter:Expr}{ifs:List Expr}{pos spos py:Pos}{y:Str}{i:Nat}{g:TG}{tf:TT}{te:TE}(S:CScope X scope ls fr)(hc:X.calm=true)(hi:PI X tg iter wi)(hg:∀C s H ex,PG (cxC X scope (ls++fr.map (·.1)) C s H ex) tg g)(ht:∀C s H ex,PF (cxC X scope (ls++fr.map (·.1)) C s H ex) ifs tf)(he:∀C s H ex,PE (cxC X scope (ls++fr.map (·.1)) C s H ex) elt te)(hN:X.N.Nodup)(hy:X.N[i]? =some y)(hl:X.env.scope.names.lookup y=some .local)(hsw:swapsWith (.ListComp elt [⟨tg,iter,ifs,0⟩] scope pos) (some (.Name y py)) spos.line X.env=pure true)(hs:∀x,foldedSetIterable iter X.env x=pure x:=by intro _;rfl):PS X (.Assign [.Name y py] (.ListComp elt [⟨tg,iter,ifs,0⟩] scope pos) spos) (tAsg (o3 wi ls fr g tf te) (kc i)):=by
 intro pins s σ H D I h;rw[exec_Assign_Name_used _ _ _ _ hsw];refine wpAny_bind (wpAny_standAt (wpAny_bind ?_));show wpAny _ X.A (do let _ <-comprehension (.ListComp elt [⟨tg,iter,ifs,0⟩] scope pos) scope X.env _ (newList []) false (eval iter X.env) (some (assign (.Name y py) X.env))) _ _ s;refine wpAny_bind (wpAny_mono (wpAny_comprehension_free (use:=some (assign (.Name y py) X.env)) (Q:=fun _ s'=>SP X pins D .next s') rfl hs (jU (S.cells I)) S.kind S.names
  (thn (hi pins s σ H _ I h) fun xv s₁ h₁=>thn h₁ fun itv s₂ h₂=>?_)) (fun _ s' hq=>wpAny_pure (wpAny_pure hq)) fun _ _ e=>e)
 obtain⟨it,fp,tn,J,H2,rfl,I2,T,st,hf,q⟩:=h₂;refine xS (RR:=fun acc C=>compPost (model X.prog X.w) X.A X.xe (some (assign (.Name y py) X.env)) (fun _ s'=>SP X pins D .next s') acc C) S hc I2 T st hf q hg ht he ?_;intro D1 C s' H' m I' hn hC hCn hq;have nC:∀{b:Addr},b<s₂.heap.objs.size->b≠C:=fun hb=>ne_of_lt (lt_of_lt_of_le hb hC);have cC:∀x c,X.env.cells.lookup x=some c->c≠C:=fun x c e=>by
  obtain⟨v0,q0⟩:=I2.cell x c e;exact nC q0.lt
 show wpAny _ X.A (assign (.Name y py) X.env (.ref D1)) _ _ _;refine wpAny_assign_Name (ba I' hN hy (.inl hl) (v:=.ref D1) rfl (fun s3 I3 hsb=>?_) (.inr hl));obtain⟨a,sb1,ha⟩:=hsb;have haC:C≠a:=by
  rcases ha with rfl|e
  ·exact Ne.symm (nC I2.lt)
  ·exact Ne.symm (cC _ _ e)
 refine⟨m,hn.sameBut sb1 haC,fun h' sb=>⟨_,H',I3.turned (t':=s3.toks) (it:=C) (fun b o hb e=>(sb.2 b hb).trans e) hCn (Ne.symm (nC I2.lt)) (.inr (le_trans I2.sz hC)) cC fun p hp=>nC (Heap.lt_size (I2.pin p hp).1),hq⟩⟩
end
theorem yt{K:W.Frag}{a:Addr}{xs:List V}{g:TG}{tf:TT}{te:TE}{σ:St}{H:Hp}{Q:VK}(Pv:Nat->List V->St->Hp->Prop)(h0:Pv 0 [] σ H)(hl:∀i ys σ H,i<=xs.length->Pv i ys σ H->SqL K H a xs/\ys.length<=sizeLine)(hs:∀i x ys σ H,xs[i]? =some x->Pv i ys σ H->g x σ H fun σ2 H2=>tf σ2 H2 fun b H3=>if b=true then te σ2 H3 fun v H4=>Pv (i+1) (ys++[v]) σ2 H4 else Pv (i+1) ys σ2 H3)(hd:∀ys σ H,Pv xs.length ys σ H-> ∀p,H p=none->Q (.ref p) (upd H p (.lst ys))):uj g tf te σ (Itl K a) H Q:=by
 refine⟨fun i m ys σ H=>m=xs.length-i/\i<=xs.length/\Pv i ys σ H,⟨xs.length,by simp,zero_le _,h0⟩,?_⟩;rintro i m ys σ H ⟨rfl,hi,p⟩;obtain⟨q,hz⟩:=hl i ys σ H hi p;by_cases hlt:i<xs.length
 ·refine .inr ⟨⟨xs,xs[i],q,by simp[hlt]⟩,hz,Pv (i+1),fun ys' σ' H' p'=>⟨xs.length-(i+1),by omega,rfl,hlt,p'⟩,fun x H' y=>?_⟩;obtain⟨e,y⟩:=y;subst e;exact hs i x ys σ _ (y xs q) p
 ·have e:i=xs.length:=by omega
  subst e;exact .inl ⟨⟨xs,q,le_refl _⟩,hz,hd ys σ H p⟩
theorem u0{K:W.Frag}{a:Addr}{xs:List V}{g:TG}{tf:TT}{te:TE}{σ:St}{H:Hp}{Q:VK}(Pv:Nat->List V->St->Hp->Prop)(h0:Pv 0 [] σ H)(hl:∀i ys σ H,i<=xs.length->Pv i ys σ H->SqT K H a xs/\ys.length<=sizeLine)(hs:∀i x ys σ H,xs[i]? =some x->Pv i ys σ H->g x σ H fun σ2 H2=>tf σ2 H2 fun b H3=>if b=true then te σ2 H3 fun v H4=>Pv (i+1) (ys++[v]) σ2 H4 else Pv (i+1) ys σ2 H3)(hd:∀ys σ H,Pv xs.length ys σ H-> ∀p,H p=none->Q (.ref p) (upd H p (.lst ys))):uj g tf te σ (Itt K a) H Q:=by
 refine⟨fun i m ys σ H=>m=xs.length-i/\i<=xs.length/\Pv i ys σ H,⟨xs.length,by simp,zero_le _,h0⟩,?_⟩;rintro i m ys σ H ⟨rfl,hi,p⟩;obtain⟨q,hz⟩:=hl i ys σ H hi p;by_cases hlt:i<xs.length
 ·refine .inr ⟨⟨xs,xs[i],q,by simp[hlt]⟩,hz,Pv (i+1),fun ys' σ' H' p'=>⟨xs.length-(i+1),by omega,rfl,hlt,p'⟩,fun x H' y=>?_⟩;obtain⟨e,y⟩:=y;subst e;exact hs i x ys σ _ (y xs q) p
 ·have e:i=xs.length:=by omega
  subst e;exact .inl ⟨⟨xs,q,le_refl _⟩,hz,hd ys σ H p⟩
theorem xU{lo:Int}{n:Nat}{g:TG}{tf:TT}{te:TE}{σ:St}{H:Hp}{Q:VK}(Pv:Nat->List V->St->Hp->Prop)(h0:Pv 0 [] σ H)(hl:∀i ys σ H,i<=n->Pv i ys σ H->ys.length<=sizeLine)(hs:∀i ys σ H,i<n->Pv i ys σ H->g (.int (lo+i)) σ H fun σ2 H2=>tf σ2 H2 fun b H3=>if b=true then te σ2 H3 fun v H4=>Pv (i+1) (ys++[v]) σ2 H4 else Pv (i+1) ys σ2 H3)(hd:∀ys σ H,Pv n ys σ H-> ∀p,H p=none->Q (.ref p) (upd H p (.lst ys))):uj g tf te σ (Itr lo n) H Q:=by
 refine⟨fun i m ys σ H=>m=n-i/\i<=n/\Pv i ys σ H,⟨n,by simp,zero_le _,h0⟩,?_⟩;rintro i m ys σ H ⟨rfl,hi,p⟩;have hz:=hl i ys σ H hi p;by_cases hlt:i<n
 ·refine .inr ⟨hlt,hz,Pv (i+1),fun ys' σ' H' p'=>⟨n-(i+1),by omega,rfl,hlt,p'⟩,fun x H' y=>?_⟩;obtain⟨e,y⟩:=y;subst e y;exact hs i ys σ _ hlt p
 ·have e:i=n:=by omega
  subst e;exact .inl ⟨le_refl _,hz,hd ys σ H p⟩
def bK(sc:Scope)(N:List Str)(scope:Scope)(fr:List (Str×Nat)):Bool :=
 (scope.kind== .function)&&scope.names.all (fun y=>y.2 != .cell)&&scope.names.all (fun y=>y.2 != .local||scope.names.lookup y.1==some .local)&&
 scope.names.all (fun y=>y.2 != .free||sc.names.lookup y.1==some .cell||sc.names.lookup y.1==some .free)&&fr.all (fun p=>N[p.2]? ==some p.1&&scope.names.lookup p.1==some .free)
theorem KS{X:Cx}{scope:Scope}{ls:List Str}{fr:List (Str×Nat)}(sc:Scope)(N:List Str)(h1:X.env.scope=sc)(h2:X.N=N)(h:bK sc N scope fr=true):CScope X scope ls fr:=by
 subst h1 h2;simp only[bK,and_eq_true,all_eq_true,Bool.or_eq_true,bne_iff_ne,beq_iff_eq,ne_eq]at h;obtain⟨⟨⟨⟨a,b⟩,c⟩,d⟩,e⟩:=h;refine⟨a,b,fun y hy hk=>(c y hy).resolve_left fun z=>z hk,fun y hy hk=>?_,e⟩;rcases d y hy with(z|z)|z
 ·exact absurd hk z
 ·exact .inl z
 ·exact .inr z
theorem pgc{X:Cx}{scope:Scope}{ls:List Str}{fr:List (Str×Nat)}{C:Addr}{s:Shared}{H:Hp}{ex:List Addr}{x:Str}{pos:Pos}(i:Nat)(hN:(ls++fr.map (·.1)).Nodup)(hi:(ls++fr.map (·.1))[i]? =some x)(hx:scope.names.lookup x=some .local) :
  PG (cxC X scope (ls++fr.map (·.1)) C s H ex) (.Name x pos) (kc i) :=
 aD hN hi (.inl (lookup_relabel_local hx)) (.inr (lookup_relabel_local hx))
def relN(scope sc:Scope):List (Str×NameKind):=scope.names.map fun(n,k)=>if(k== .free&&sc.kind== .function&&sc.names.lookup n==some .cell)then(n,.cell)else(n,k)
def visB(scope sc:Scope)(x:Str):Bool:=match(relN scope sc).lookup x with|some .local=>true|some .cell=>true|some .free=>true| _=>false
theorem pvc(sc:Scope)(i:Nat){X:Cx}{scope:Scope}{N:List Str}{C:Addr}{s:Shared}{H:Hp}{ex:List Addr}{x:Str}{pos:Pos}(hN:N[i]? =some x:=by rfl)(hs:X.env.scope=sc:=by rfl)(hv:visB scope sc x=true:=by decide+kernel)(hd:(x==("__debug__" : Str))=false:=by decide+kernel)(hcd:(x==("__classdict__" : Str))=false:=by decide+kernel):PE (cxC X scope N C s H ex) (.Name x pos) (tVar i):=by
 subst hs;refine nr hN ?_ hd hcd;have hv':visB scope X.env.scope x=true:=hv;unfold visB at hv';show(relN scope X.env.scope).lookup x=some .local\/(relN scope X.env.scope).lookup x=some .cell\/(relN scope X.env.scope).lookup x=some .free;split at hv'
 ·rename_i e;exact .inl e
 ·rename_i e;exact .inr (.inl e)
 ·rename_i e;exact .inr (.inr e)
 ·cases hv'
theorem glc(sc:Scope){X:Cx}{scope:Scope}{N:List Str}{C:Addr}{s:Shared}{H:Hp}{ex:List Addr}{x:Str}(hs:X.env.scope=sc:=by rfl)(h:((relN scope sc).lookup x==some .globalImplicit)=true:=by decide+kernel):Gl (cxC X scope N C s H ex) x:=by
 subst hs;exact eq_of_beq h
def insD(x:Int):List Int->List Int
 | []=>[x]
 |y::r=>if y<=x then x::y::r else y::insD x r
def cZ:List Int->List Int
 | []=>[]
 |x::r=>insD x (cZ r)
theorem qw(x:Int):∀l:List Int,(insD x l).Perm (x::l)
 | []=>.refl _
 |y::r=>by
  unfold insD;split
  ·exact .refl _
  ·exact((qw x r).cons y).trans (.swap x y r)
theorem rM:∀l:List Int,(cZ l).Perm l
 | []=>.refl _
 |x::r=>(qw x _).trans ((rM r).cons x)
theorem l5(x:Int):∀{l:List Int},l.Pairwise (· >= ·)->(insD x l).Pairwise (· >= ·)
 | [],_=>by simp[insD]
 |y::r,h=>by
  obtain⟨h1,h2⟩:=pairwise_cons.mp h;unfold insD;split
  ·rename_i hy;refine pairwise_cons.mpr ⟨fun z hz=>?_,h⟩;rcases mem_cons.mp hz with rfl|hz
   ·exact hy
   ·exact Int.le_trans (h1 z hz) hy
  ·rename_i hy;refine pairwise_cons.mpr ⟨fun z hz=>?_,l5 x h2⟩;rcases mem_cons.mp ((qw x r).mem_iff.mp hz)with rfl|hz
   ·show z<=y;omega
   ·exact h1 z hz
theorem mD:∀l:List Int,(cZ l).Pairwise (· >= ·)
 | []=>.nil
 |x::r=>l5 x (mD r)
theorem rm{a b:List Int}(ha:a.Pairwise (· >= ·))(hb:b.Pairwise (· >= ·))(p:a.Perm b):a=b :=
 p.eq_of_pairwise (le:=fun x y=>x>=y) (fun x y _ _ h1 h2=>Int.le_antisymm h2 h1) ha hb
theorem eY{a l:List Int}(p:a.Perm l)(h:a.Pairwise (· >= ·)):a=cZ l:=rm h (mD l) (p.trans (rM l).symm)
theorem Z6{l:List Int}(h:l.Pairwise (· >= ·)):cZ l=l:=(eY (.refl l) h).symm
section
variable{prog:Program}{w:World}{A:Around}{E:Value->Shared->Prop}{s:Shared}
theorem pR{l:Addr}{vs:List Value}{ns:List Int}{b:Bool}{Q:Value->Shared->Prop}(hl:IsTup s.heap l vs.toArray)(hI:IntsAre vs ns)(h64:vs.length<64)(h:∀(out:List Value) (n:Nat) (h1 h':Heap) (ns':List Int),(∀b o,s.heap.get? b=some o->h1.get? b=some o)->(∀b o,h1.get? b=some o->h'.get? b=some o)->h'.get? h1.objs.size=some (seqObj "list" out.toArray n)->IntsAre out ns'->ns'.Perm ns->Ordered b ns'->Q (.ref h1.objs.size) {s with heap:=h'}) :
  wpAny (model prog w) A (call (.builtin "sorted") [.ref l] [(Str.ofString "reverse",.bool b)]) Q E s:=by
 refine call_function_entry_kw kind_sorted plain_sorted entry_sorted (args_sorted_rev _ _) ?_;unfold Builtin.«sorted»;refine wpAny_bind (m:=checkCount "sorted" 1 1 _) (wpAny_pure ?_);obtain⟨o,ho,hc,n,hd⟩:=hl;refine wpAny_bind (wpAny_collect_seq l (.inr rfl) ho hc hd (fun h1 hk1=>?_) (by simp[sizeLine_eq];omega));refine wpAny_bind (wpAny_newList ?_);have hoL:(h1.push (seqObj "list" vs.toArray 0)).get? h1.objs.size=some (seqObj "list" vs.toArray 0):=Heap.get?_push_size _ rfl;refine wpAny_bind (wpAny_holding (wpAny_call_entry_kw slot_list_sort ⟨_,hoL,rfl⟩ entry_list_sort (list_sort_tree_rev hoL hI h64 fun out ns' a1 a2 a3=>⟨_,rfl,?_⟩) (args_list_sort_rev _ _)));obtain⟨e,he⟩:=sortedHeap_at (vs:=vs) (out:=out) hoL;refine wpAny_pure ⟨_,rfl,h out.toList e h1 _ ns' hk1 (fun b o hb=>?_) he a1 a2 a3⟩;have hlt:=Heap.lt_size hb;rw[sortedHeap_old (ne_of_lt hlt) (by rw[Heap.size_push];exact lt_succ_of_lt hlt)];exact Heap.get?_push_of_some _ hb
end
section
variable{X:Cx}
def Zx(K:W.Frag)(b:Bool):V->Hp->VK->Prop:=fun x H Q=>∃ a ns,x= .ref a/\(SqL K H a (ns.map V.int)\/SqT K H a (ns.map V.int))/\ns.length<64/\ ∀ns' p,ns'.Perm ns->Ordered b ns'->H p=none->Q (.ref p) (upd H p (.lst (ns'.map V.int)))
def Kz(K:W.Frag)(b:Bool)(te:TE):TE:=fun σ H Q=>te σ H fun x H1=>Zx K b x H1 Q
theorem yW{n:Nat}(h:n<64):n<=sizeLine:=le_trans (Nat.le_of_lt h) (by decide)
theorem pZ{e:Expr}{te:TE}{b:Bool}{p kp cp pos:Pos}{j:Nat}(hg:Gl X "sorted")(hm:X.mg "sorted"=none)(he:PE X e te)(hse:starEach [e] X.env=[(false,eval e X.env)]:=by rfl):PE X (.Call (.Name "sorted" p) [e] [⟨some "reverse",.Constant (.bool b) j cp,kp⟩] pos) (Kz X.K b te):=by
 intro pins s σ H Q I h;refine wpAny_Call_Name_kw (wj I hg hm boot_sorted ?_ (by decide) (by decide));refine callWith_kw (thn (zW he ku hse pos pins s σ H (fun vs H1=>match vs with| [x]=>Zx X.K b x H1 Q| _=>False) I h) fun us s1 ⟨vs,H1,I1,r1,q1⟩=>?_) (by rw[hse];rfl) (by rw[hse];rfl)
 match vs,r1,q1 with
 | [x],r1,q =>
  obtain⟨u,rfl,ru⟩:=ua r1;refine kws_cons (Constant_bool (kws_nil ?_));obtain⟨a,ns,rfl,hq,hl,q⟩:=q;cases ru;show wpAny _ _ (call (.builtin "sorted") [.ref a] [(Str.ofString "reverse",.bool b)]) _ _ _;rcases hq with hq|hq
  ·obtain⟨its,r',pl,hz⟩:=I1.list hq;have hlen:=r'.length;rw[length_map]at hlen;refine sorted_ints_rev pl.isList (vo r') (by omega) fun out ns' a1 a2 a3=>?_;obtain⟨n,hn⟩:=sortedAll_at s1.heap its out;have hz':(ns'.map V.int).length<=sizeLine:=by rw[length_map,a2.length_eq];exact yW hl
   exact⟨.ref _,_,I1.laid (t':=s1.toks) (fun _ _=>sortedAll_old) (le_succ _) (show zS X.prog X.w _ _ _ (.lst (ns'.map V.int))from⟨hz',out.toList,n,wY a1,by simpa [seqObj]using hn⟩),rfl,q ns' _ a2 a3 (I1.hok.fresh (le_succ _))⟩
  ·obtain⟨its,r',pl,hz⟩:=I1.tuple hq;have hlen:=r'.length;rw[length_map]at hlen;refine pR pl (vo r') (by omega) fun out n h1 h' ns' k1 k2 e a1 a2 a3=>?_;have hz':(ns'.map V.int).length<=sizeLine:=by rw[length_map,a2.length_eq];exact yW hl
   have I2:Inv X pins σ H1 {s1 with heap:=h1}:=I1.kept (t':=s1.toks) k1;exact⟨.ref _,_,I2.laid (t':=s1.toks) k2 (le_refl _) (show zS X.prog X.w _ _ _ (.lst (ns'.map V.int))from⟨hz',out,n,wY a1,by simpa [seqObj]using e⟩),rfl,q ns' _ a2 a3 (I2.hok.fresh (le_refl _))⟩
theorem gK(ns:List Int):∀j,preSum (fun i=>ns.getD i 0) j=(ns.take j).sum
 | 0=>by simp[preSum]
 |j+1=>by
  rw[preSum,gK ns j];by_cases h:j<ns.length
  ·rw[take_succ_eq_append_getElem h,List.sum_append,List.sum_cons,List.sum_nil];have e:ns.getD j 0=ns[j]:=by simp[h]
   rw[e];omega
  ·rw[take_of_length_le (by omega),take_of_length_le (by omega)];have:ns[j]? =none:=List.getElem?_eq_none (by omega);simp[List.getD,this]
theorem yX{ns:List Int}{its:List Value}(r:Vals (ns.map V.int) its)(i:Nat)(v:Value)(e:its.toArray[i]? =some v):∃t,v= .int (ns.getD i 0) t:=by
 have e':its[i]? =some v:=by simpa using e
 have hi:i<its.length:=(List.getElem?_eq_some_iff.mp e').1;have hl:=r.length;rw[length_map]at hl;have hx:(ns.map V.int)[i]? =some (V.int (ns.getD i 0)):=by
  have hi':i<ns.length:=by omega
  simp[hi']
 obtain⟨u,hu,t,rfl⟩:=r.get hx;rw[e']at hu;cases hu;exact⟨t,rfl⟩
theorem uz(hc:X.calm=true):wv X (.builtin "sum") (fun xs H Q=>∃(a:Addr)(ns:List Int),xs=[.ref a]/\(SqL X.K H a (ns.map V.int)\/SqT X.K H a (ns.map V.int))/\Q (.int ns.sum) H):=by
 intro pins s σ H xs us Q I r h;obtain⟨a,ns,rfl,hq,q⟩:=h;obtain⟨u,rfl,ru⟩:=ua r;cases ru;have hh:X.A.in1.handled=none:=I.ok.hd hc;have fin:∀{its:List Value}(h':Heap)(tk:Nat)(t':Tok),Vals (ns.map V.int) its->(∀b o,s.heap.get? b=some o->h'.get? b=some o)->EP X pins σ Q (.int (preSum (fun i=>ns.getD i 0) its.toArray.size) t') {s with heap:=h',toks:=tk}:=fun{its} h' tk t' r' hk=>by
  have hl:=r'.length;rw[length_map]at hl;refine⟨.int ns.sum,H,I.kept hk,⟨t',?_⟩,q⟩;rw[gK,size_toArray,<-hl,take_length]
 rcases hq with hq|hq
 ·obtain⟨its,r',pl,hz⟩:=I.list hq;have hlt:a<s.heap.objs.size:=by obtain⟨_,e,_⟩:=pl.isList;exact Heap.lt_size e
  refine call_sum_walkG (wpAny_pyIter_list pl.isList ⟨_,_,_,_,_,_,fun i=>ns.getD i 0,rfl,Walks.list (A:=X.A.in1) hh _ a (ne_of_lt hlt) its.toArray,⟨⟨_,Heap.get?_push_size _ rfl,rfl,rfl⟩,pl.isList.push _⟩,fun b hb=>?_,yX r',fun h' tk t' hk=>fin h' tk t' r' fun b o e=>hk b o (by simpa using ne_of_lt (Heap.lt_size e)) (Heap.get?_push_of_some _ e)⟩);show b<(s.heap.push _).objs.size;rw[Heap.size_push];rcases mem_cons.mp hb with rfl|hb
  ·exact Nat.lt_succ_self _
  ·rcases mem_cons.mp hb with rfl|hb
   ·exact lt_succ_of_lt hlt
   ·cases hb
 ·obtain⟨its,r',pl,hz⟩:=I.tuple hq;have pl':s.heap.IsTuple a its.toArray:=pl;have hlt:a<s.heap.objs.size:=by obtain⟨_,e,_⟩:=pl;exact Heap.lt_size e
  refine call_sum_walkG (wpAny_pyIter_tuple pl' ⟨_,_,_,_,_,_,fun i=>ns.getD i 0,rfl,Walks.tuple (A:=X.A.in1) hh _ a (ne_of_lt hlt) its.toArray,⟨⟨_,Heap.get?_push_size _ rfl,rfl,rfl⟩,pl'.at fun o e=>Heap.get?_push_of_some _ e⟩,fun b hb=>?_,yX r',fun h' tk t' hk=>fin h' tk t' r' fun b o e=>hk b o (by simpa using ne_of_lt (Heap.lt_size e)) (Heap.get?_push_of_some _ e)⟩);show b<(s.heap.push _).objs.size;rw[Heap.size_push];rcases mem_cons.mp hb with rfl|hb
  ·exact Nat.lt_succ_self _
  ·rcases mem_cons.mp hb with rfl|hb
   ·exact lt_succ_of_lt hlt
   ·cases hb
def cntV(y:V)(xs:List V):Nat:=xs.countP fun x=>eqV x y
theorem bF{x:V}:∀{xs:List V}{us:List Value},Vals xs us->xs.all uD=true->us.countP (eqU x)=cntV x xs
 | _,_,.nil,_=>rfl
 |y::xs,u::us,.cons r t,f=>by
  rw[List.all_cons,and_eq_true]at f;unfold cntV;rw[List.countP_cons,List.countP_cons,iQ r f.1,bF t f.2];rfl
def eT(K:W.Frag)(SQ:W.Frag->Hp->Addr->List V->Prop):V->List V->Hp->VK->Prop:=fun x vs H Q=>∃ a xs y,x= .ref a/\vs=[y]/\SQ K H a xs/\uD y=true/\xs.all uD=true/\Q (.int (cntV y xs)) H
theorem qL:MtR X "tuple.count" (eT X.K SqT):=by
 intro pins s σ H x vs v us Q I rx rv h;obtain⟨a,xs,y,rfl,rfl,hq,fy,fs,q⟩:=h;cases rx;obtain⟨u,rfl,ru⟩:=rv.one;obtain⟨its,r,pl,hz⟩:=I.tuple hq;obtain⟨o,ho,hc,n,hd⟩:=pl;obtain⟨c,dd,dt,sl⟩:=o;cases hc;cases hd;refine call_meets F.slot_tuple_count ⟨_,ho,rfl⟩ F.entry_tuple_count (F.args_tuple_count_2 _ _) (SeqAt.tuple_countAt a its.toArray n dd sl u (eqU y)) ⟨ho,fun w hw=>uH ru fy r fs w (by simpa using hw),?_⟩;refine⟨.int _,H,I.tok _,⟨s.toks,?_⟩,q⟩;rw[show its.toArray.toList=its from rfl,bF r fs]
theorem lJ:MtR X "list.count" (eT X.K SqL):=by
 intro pins s σ H x vs v us Q I rx rv h;obtain⟨a,xs,y,rfl,rfl,hq,fy,fs,q⟩:=h;cases rx;obtain⟨u,rfl,ru⟩:=rv.one;obtain⟨its,r,pl,hz⟩:=I.list hq;obtain⟨o,ho,hc,n,hd⟩:=pl.isList;obtain⟨c,dd,dt,sl⟩:=o;cases hc;cases hd;refine call_meets F.slot_list_count ⟨_,ho,rfl⟩ F.entry_list_count (F.args_list_count_2 _ _) (SeqAt.list_countAt a its.toArray n dd sl u (eqU y)) ⟨ho,fun w hw=>uH ru fy r fs w (by simpa using hw),?_⟩;refine⟨.int _,H,I.tok _,⟨s.toks,?_⟩,q⟩;rw[show its.toArray.toList=its from rfl,bF r fs]
theorem ww(k:Int)(ns:List Int):cntV (.int k) (ns.map V.int)=ns.count k:=by
 unfold cntV;rw[List.countP_map,List.count_eq_countP];congr 1
theorem wA(ns:List Int):(ns.map V.int).all uD=true:=by
 rw[all_map];simp[uD]
theorem aQ:wv X (.builtin "isinstance") (fun xs H Q=>∃ x T t b,xs=[x,.ty T]/\TyOf X.K H x t/\W.kitOne X.K t (.type T)=some b/\Q (.bl b) H):=by
 intro pins s σ H xs us Q I r h;obtain⟨x,T,t,b,rfl,ty,hk,q⟩:=h;obtain⟨u,v,rfl,ru,rv⟩:=KM r;cases(show v=Value.type T from rv);exact li I ru ty hk fun tk=>⟨.bl b,H,I.tok tk,rfl,q⟩
end
theorem bU{K:W.Frag}:W.kitOne K (.type "tuple") (.type "tuple")=some true:=by unfold W.kitOne;rw[if_pos (by decide+kernel)]
theorem bS{K:W.Frag}:W.kitOne K (.type "str") (.type "str")=some true:=by unfold W.kitOne;rw[if_pos (by decide+kernel)]
theorem dU{x y:Int}(h0:0<y)(h:y<=10^100):Builtin.divisionGoesByPylong x y=false:=by
 refine PyProof.noPylong_of_log2 ?_;have hn:y.natAbs≠0:=by omega
 have h1:y.natAbs<=10^100:=by omega
 refine(Nat.log2_lt hn).mpr (lt_of_le_of_lt h1 (by decide+kernel))
def KO(i j:Int):Prop:=0<j/\j<=10^100
theorem uP{X:Cx}:OpR X (binaryOp .FloorDiv) (rI KO fun i j=>.int (i / j)):=opI fun i j _ _ _ _ _ hc q=>by
 refine floordiv_int (by have:=hc.1;omega) ?_ (.inl (dU hc.1 hc.2));rw[Int.fdiv_eq_ediv_of_nonneg _ (le_of_lt hc.1)];exact q
theorem eB{X:Cx}:PGet X (fun x y H Q=>∃ p xs i v,x= .ref p/\y= .int i/\SqL X.K H p xs/\0<=i/\xs[i.toNat]? =some v/\Q v H):=by
 intro pins s σ H o i ov iv Q I ro ri h;obtain⟨p,xs,k,v,rfl,rfl,hq,h0,hv,q⟩:=h;cases ro;obtain⟨t,rfl⟩:=ri;obtain⟨its,r,pl,hz⟩:=I.list hq;have hlen:=r.length;have hn:=vX;obtain⟨u,hu,ru⟩:=r.get hv;have hk:=(List.getElem?_eq_some_iff.mp hv).1;exact wpAny_getItem_list pl.isList h0 (by omega) (by simpa using hu) ⟨v,H,I,ru,q⟩
theorem ye{A B:TS}{D:Ends}{σ:St}{H:Hp}(R:St->Hp->Prop)(h:∀nx:St->Hp->Prop,(∀ σ' H',R σ' H'->nx σ' H')->A {D with nx:=nx} σ H)(hR:∀ σ' H',R σ' H'->B D σ' H'):tSeq A B D σ H:=h (B D) hR
def Keep(S:List Addr)(H H':Hp):Prop:=∀ b o,H b=some o->b∉S->H' b=some o
theorem Keep.refl(S:List Addr)(H:Hp):Keep S H H:=fun _ _ h _=>h
theorem Keep.trans{S:List Addr}{H H1 H2:Hp}(a:Keep S H H1)(b:Keep S H1 H2):Keep S H H2:=fun c o h n=>b c o (a c o h n) n
theorem Keep.set{S:List Addr}{H:Hp}{p:Addr}{o:HO}(h:p∈S):Keep S H (upd H p o):=fun b u e n=>by
 have hb:b≠p:=fun z=>n (by rw[z];exact h);rw[zh hb];exact e
theorem Same.keep{S:List Addr}{H H':Hp}(h:Same H H'):Keep S H H':=fun b o e _=>h b o e
structure StAt(H:Hp)(st ga ca:Addr)(N:Nat):Prop where
 ex:∃(gs cs:List Int)(q n:Int),H st=some (.lst [.ref ga,.int q,.ref ca,.int n])/\H ga=some (.lst (gs.map V.int))/\H ca=some (.lst (cs.map V.int))/\
  gs.length<=63/\(∀x∈gs,0<x)/\0<=q/\0<=n/\n<=N
 gc:ga≠ca
 sg:st≠ga
 sc:st≠ca
theorem StAt.nin{H:Hp}{st ga ca:Addr}{N:Nat}(S:StAt H st ga ca N){p:Addr}(h:H p=none):p∉[st,ga]:=by
 obtain⟨gs,cs,q,n,h1,h2,_⟩:=S.ex;intro z;rcases mem_cons.mp z with rfl|z
 ·rw[h1]at h;cases h
 ·rcases mem_cons.mp z with rfl|z
  ·rw[h2]at h;cases h
  ·cases z
theorem StAt.mono{H:Hp}{st ga ca:Addr}{N M:Nat}(S:StAt H st ga ca N)(h:N<=M):StAt H st ga ca M:=by
 obtain⟨gs,cs,q,n,h1,h2,h3,h4,h5,h6,h7,h8⟩:=S.ex;exact⟨⟨gs,cs,q,n,h1,h2,h3,h4,h5,h6,h7,by omega⟩,S.gc,S.sg,S.sc⟩
theorem StAt.same{H H':Hp}{st ga ca:Addr}{N:Nat}(S:StAt H st ga ca N)(h:Same H H'):StAt H' st ga ca N:=by
 obtain⟨gs,cs,q,n,h1,h2,h3,r⟩:=S.ex;exact⟨⟨gs,cs,q,n,h _ _ h1,h _ _ h2,h _ _ h3,r⟩,S.gc,S.sg,S.sc⟩
theorem Same.new{H:Hp}{p:Addr}{o:HO}(h:H p=none):Same H (upd H p o):=fun b u e=>by rw[zh (zj e h)];exact e
theorem Keep.at{S:List Addr}{H H':Hp}(k:Keep S H H'){b:Addr}{o:HO}(h:H b=some o)(n:b∉S):H' b=some o:=k b o h n
theorem Keep.free{S:List Addr}{H H':Hp}(k:Keep S H H'){b:Addr}(h:H' b=none)(n:b∉S):H b=none:=by
 cases q:H b with
 |none=>rfl
 |some o=>rw[k b o q n]at h;cases h
theorem jI{ns:List Int}{i:Nat}{x:V}(h:(ns.map V.int)[i]? =some x):∃z,ns[i]? =some z/\x= .int z:=by
 rw[getElem?_map]at h;cases hn:ns[i]? with
 |none=>rw[hn]at h;cases h
 |some z=>rw[hn]at h;exact⟨z,rfl,(Option.some.inj h).symm⟩
def lies(ns ms:List Int):Bool:=ns.all fun x=>decide (ns.count x<=ms.count x)
theorem oo{α:Type}{p:α->Bool}{l:List α}{i:Nat}{x:α}(hx:l[i]? =some x):(l.take (i+1)).all p=((l.take i).all p&&p x):=by
 have hi:=(List.getElem?_eq_some_iff.mp hx).1;have ex:=(List.getElem?_eq_some_iff.mp hx).2;rw[take_succ_eq_append_getElem hi,List.all_append,ex];simp
theorem iy{α:Type}{p:α->Bool}{l:List α}{x:α}(hx:x∈l)(h:p x=false):l.all p=false:=by
 rw[List.all_eq_false];exact⟨x,hx,by simp[h]⟩
theorem StAt.nin3{H:Hp}{st ga ca:Addr}{N:Nat}(S:StAt H st ga ca N){p:Addr}(h:H p=none):p∉[st,ga,ca]:=by
 obtain⟨gs,cs,q,n,h1,h2,h3,_⟩:=S.ex;intro z;simp only[mem_cons,not_mem_nil,or_false]at z;rcases z with rfl|rfl|rfl
 ·rw[h1]at h;cases h
 ·rw[h2]at h;cases h
 ·rw[h3]at h;cases h
theorem nin2{st ga ca p:Addr}(h:p∉[st,ga,ca]):p∉[st,ga]:=fun z=>h (by
 simp only[mem_cons,not_mem_nil,or_false]at z ⊢;rcases z with z|z
 ·exact .inl z
 ·exact .inr (.inl z))
theorem StAt.upd{H:Hp}{st ga ca:Addr}{N:Nat}{p:Addr}{o:HO}(S:StAt H st ga ca N)(h:p∉[st,ga,ca]):StAt (upd H p o) st ga ca N:=by
 obtain⟨gs,cs,q,n,h1,h2,h3,r⟩:=S.ex;have n1:st≠p:=fun z=>h (by simp[z]);have n2:ga≠p:=fun z=>h (by simp[z]);have n3:ca≠p:=fun z=>h (by simp[z]);exact⟨⟨gs,cs,q,n,by rw[zh n1];exact h1,by rw[zh n2];exact h2,by rw[zh n3];exact h3,r⟩,S.gc,S.sg,S.sc⟩
theorem ZO{n j:Nat}(h:j<n):ixN n (j:Int)=some j:=by
 unfold ixN;rw[if_pos (by omega),if_pos (by omega)];simp
theorem map_set(ms:List Int)(j:Nat)(x:Int):(ms.map V.int).set j (V.int x)=(ms.set j x).map V.int:=by rw[List.map_set]
def EqK(X:Cx)(α:Type)[DecidableEq α](R:α->V->Hp->Prop)(n:Nat):Prop :=
 ∀(pins:List (Addr×Obj))(σ:St)(H:Hp)(s:Shared)(A:Around)(a b:α)(v w:V)(u u':Value),Inv X pins σ H s->A.units+n<cLine->R a v H->R b w H->RelV v u->RelV w u'->SeqAt.EqAt A s u u' (decide (a=b))
inductive All2{α:Type}(R:α->V->Hp->Prop)(H:Hp):List α->List V->Prop
 |nil:All2 R H [] []
 |cons {a:α} {v:V} {l:List α} {xs:List V}:R a v H->All2 R H l xs->All2 R H (a::l) (v::xs)
theorem All2.length{α:Type}{R:α->V->Hp->Prop}{H:Hp}:∀{l:List α}{xs:List V},All2 R H l xs->l.length=xs.length
 | _,_,.nil=>rfl
 | _,_,.cons _ t=>by simp[t.length]
theorem All2.get{α:Type}{R:α->V->Hp->Prop}{H:Hp}:∀{l:List α}{xs:List V}{i:Nat}{x:V},All2 R H l xs->xs[i]? =some x-> ∃a,l[i]? =some a/\R a x H
 | _,_,_,_,.nil,e=>by simp at e
 | _,_,0,_,.cons r _,e=>by simp at e;subst e;exact⟨_,rfl,r⟩
 | _,_,i+1,x,.cons _ t,e=>by
  obtain⟨u,h1,h2⟩:=All2.get (i:=i) (x:=x) t (by simpa using e);exact⟨u,by simpa using h1,h2⟩
theorem All2.append{α:Type}{R:α->V->Hp->Prop}{H:Hp}:∀{l l':List α}{xs xs':List V},All2 R H l xs->All2 R H l' xs'->All2 R H (l++l') (xs++xs')
 | _,_,_,_,.nil,s=>s
 | _,_,_,_,.cons r t,s=>.cons r (t.append s)
theorem All2.imp{α:Type}{R:α->V->Hp->Prop}{H H':Hp}(f:∀a v,R a v H->R a v H'):∀{l:List α}{xs:List V},All2 R H l xs->All2 R H' l xs
 | _,_,.nil=>.nil
 | _,_,.cons r t=>.cons (f _ _ r) (t.imp f)
def RInt:Int->V->Hp->Prop:=fun i v _=>v= .int i
def RStr:Str->V->Hp->Prop:=fun i v _=>v= .str i
theorem mQ{H:Hp}:∀(ns:List Int),All2 RInt H ns (ns.map V.int)
 | []=>.nil
 | _::r=>.cons rfl (mQ r)
theorem qi{H:Hp}:∀(ns:List Str),All2 RStr H ns (ns.map V.str)
 | []=>.nil
 | _::r=>.cons rfl (qi r)
def RTup(K:W.Frag){α:Type}(R:α->V->Hp->Prop):List α->V->Hp->Prop:=fun l v H=>∃ p xs,v= .ref p/\SqT K H p xs/\All2 R H l xs
theorem mS{α:Type}[DecidableEq α]{l m:List α}{e:Nat->Bool}(h:∀j a b,l[j]? =some a->m[j]? =some b->e j=decide (a=b)):((List.range (min l.length m.length)).all e&&l.length==m.length)=decide (l=m):=by
 rw[Bool.eq_iff_iff];simp only[and_eq_true,all_eq_true,mem_range,beq_iff_eq,decide_eq_true_eq];constructor
 ·rintro⟨h1,h2⟩;refine List.ext_getElem h2 fun j j1 j2=>?_;have:=h1 j (by omega);rw[h j _ _ (getElem?_eq_getElem j1) (getElem?_eq_getElem j2)]at this;exact of_decide_eq_true this
 ·rintro rfl;refine⟨fun j hj=>?_,rfl⟩;have hj':j<l.length:=by omega
  rw[h j _ _ (getElem?_eq_getElem hj') (getElem?_eq_getElem hj')];exact decide_eq_true rfl
section
variable{X:Cx}
theorem ZG:EqK X Int RInt 0:=fun pins σ H s A a b v w u u' I hu r1 r2 q1 q2=>by
 unfold RInt at r1 r2;subst r1 r2;obtain⟨t,rfl⟩:=q1;obtain⟨t',rfl⟩:=q2;have:=SeqAt.EqAt.int_int (A:=A) (s:=s) a t b t'
 rwa [show(a==b)=decide (a=b)from rfl]at this
theorem ZH:EqK X Str RStr 0:=fun pins σ H s A a b v w u u' I hu r1 r2 q1 q2=>by
 unfold RStr at r1 r2;subst r1 r2;obtain⟨t,rfl⟩:=q1;obtain⟨t',rfl⟩:=q2;have:=SeqAt.EqAt.str_str (A:=A) (s:=s) a t b t'
 rwa [Bool.beq_eq_decide_eq]at this
variable{α:Type}[DecidableEq α]{R:α->V->Hp->Prop}{n:Nat}
theorem iR(h:EqK X α R n){pins:List (Addr×Obj)}{σ:St}{H:Hp}{s:Shared}{A:Around}{l m:List α}{xs ys:List V}{us ws:List Value}(I:Inv X pins σ H s)(hu:A.units+(n+1)<cLine)(r1:All2 R H l xs)(r2:All2 R H m ys)(q1:Vals xs us)(q2:Vals ys ws) :
  ∃e:Nat->Bool,(∀j (h1:j<us.toArray.size) (h2:j<ws.toArray.size),SeqAt.EqAt A.in1 s us.toArray[j] ws.toArray[j] (e j))/\(∀j a b,l[j]? =some a->m[j]? =some b->e j=decide (a=b)):=by
 refine⟨fun j=>match l[j]?,m[j]? with|some a,some b=>decide (a=b)| _,_=>false,fun j h1 h2=>?_,fun j a b e1 e2=>by simp only[e1,e2]⟩;have l1:=q1.length;have l2:=q2.length;have l3:=r1.length;have l4:=r2.length;simp only[size_toArray]at h1 h2;have hx:xs[j]? =some xs[j]:=getElem?_eq_getElem (by omega);have hy:ys[j]? =some ys[j]:=getElem?_eq_getElem (by omega);obtain⟨a,ea,ra⟩:=r1.get hx;obtain⟨b,eb,rb⟩:=r2.get hy;obtain⟨u,eu,ru⟩:=q1.get hx;obtain⟨w,ew,rw'⟩:=q2.get hy;have e1:us.toArray[j]'(by simpa using h1)=u:=by
  have:=(List.getElem?_eq_some_iff.mp eu).2;simpa using this
 have e2:ws.toArray[j]'(by simpa using h2)=w:=by
  have:=(List.getElem?_eq_some_iff.mp ew).2;simpa using this
 rw[e1,e2];simp only[ea,eb];exact h pins σ H s A.in1 a b _ _ u w I (by show A.units+1+n<cLine;omega) ra rb ru rw'
theorem na(h:EqK X α R n)(hu:X.A.units+(n+1)<cLine):OpR X (compareOp .NotEq) (fun x y H Q=>∃ l m,RTup X.K R l x H/\RTup X.K R m y H/\Q (.bl (!decide (l=m))) H):=by
 intro pins s σ H x y v u Q I rx ry hq;obtain⟨l,m,r1,r2,q⟩:=hq;obtain⟨p,xs,rfl,h1,a1⟩:=r1;obtain⟨p',ys,rfl,h2,a2⟩:=r2;cases rx;cases ry;obtain⟨us,v1,t1,z1⟩:=I.tuple h1;obtain⟨ws,v2,t2,z2⟩:=I.tuple h2;obtain⟨e,he,hd⟩:=iR h I hu a1 a2 v1 v2;have ee:=mS hd;have this:=SeqAt.RcNeAt.tuples (e:=e) t1 t2 (by omega) he;rw[size_toArray,size_toArray,<-v1.length,<-v2.length,<-a1.length,<-a2.length,ee]at this;exact this X.prog X.w X.xe _ ⟨.bl _,H,I,rfl,q⟩
end
theorem RTup.ints{K:W.Frag}{H:Hp}{p:Addr}{ns:List Int}(h:SqT K H p (ns.map V.int)):RTup K RInt ns (.ref p) H:=⟨p,_,rfl,h,mQ ns⟩
theorem huR{A:Around}{k n:Nat}{cm:Bool}(hr:Room k A cm)(h:n<=64:=by decide):A.units+n<cLine:=lt_of_le_of_lt (Nat.add_le_add_left h _) hr.units
end L2
namespace HT
open PySem PySem.Spec PyProof.Rows
section
variable{prog:Program}{w:World}{A:Around}{E:Value->Shared->Prop}{s:Shared}
theorem getItem_tuple_whole{t sl:Addr}{items:Array Value}{vl vu:Value}{lo hi:Option Int}{Q:Value->Shared->Prop}(ht:IsTup s.heap t items)(hs:s.heap.IsSliceOf sl vl vu .none)(pl:IsPart vl lo)(pu:IsPart vu hi)(hw:sIx items.size 0 lo=0/\sIx items.size items.size hi=items.size)(h:Q (.ref t) s):wpAny (model prog w) A (getItem (.ref t) (.ref sl)) Q E s:=by
 obtain⟨os,hos,hcs,hds⟩:=id hs;have hTs:s.TypeIs (.ref sl) "slice" :=⟨os,hos,hcs⟩;unfold getItem
 try with_reducible refine wpAny_holding ?_
 first|refine wpAny_bind (wpAny_pure ?_)|skip
 refine wpAny_bind (wpAny_sequenceKey ht.typeIs (by decide) ?_);refine wpAny_bind (wpAny_callSpecial?_slot (name:=Str.ofString "__getitem__") ht.typeIs PyProof.Rows.slot_tuple_getitem
  (wpAny_call_entry PyProof.Rows.slot_tuple_getitem ht.typeIs entry_tuple_getitem ?_ (args_tuple_getitem _ _)))
 show wpAny _ _ (Builtin.Tuple.tupleItemsOf (.ref t) >>= _) _ _ s;refine wpAny_bind (tupleItemsOf_ ht ?_);refine wpAny_bind (wpAny_typeOf hTs ?_);rw[if_pos (by decide)];refine wpAny_bind (wp hs pl pu ?_);have hyes:(((sIx items.size 0 lo:Nat):Int)==0&&(1:Int)==1&&(sIx items.size items.size hi-sIx items.size 0 lo)==items.size)=true:=by
  rw[hw.1,hw.2];simp
 show wpAny _ _ (if(((sIx items.size 0 lo:Nat):Int)==0&&(1:Int)==1&&(sIx items.size items.size hi-sIx items.size 0 lo)==items.size)=true then _ else _) _ _ s;rw[if_pos hyes];refine wpAny_bind ?_;unfold Builtin.Tuple.tupleIsExact;refine wpAny_bind (wpAny_typeOf ht.typeIs (wpAny_pure ?_));rw[if_pos (by decide)]
 first
  |exact wpAny_bind (wpAny_rule (wpAny_bind (wpAny_pure (wpAny_pure ⟨_,rfl,wpAny_pure h⟩))))
  |exact wpAny_bind (wpAny_rule (wpAny_pure ⟨_,rfl,wpAny_pure h⟩))
end
end HT
namespace L2
open PySem PySem.Spec PyProof.Rows
section
variable{X:Cx}
theorem Ye:SlR X (fun x lo hi H Q=>∃ a xs,x= .ref a/\SqT X.K H a xs/\(HT.sIx xs.length 0 lo=0/\HT.sIx xs.length xs.length hi=xs.length)/\Q (.ref a) H):=by
 intro pins s σ H x v vl vu lo hi sl Q I rx hs pl pu h;obtain⟨a,xs,rfl,hx,hw,q⟩:=h;cases rx;obtain⟨its,r,ht,hz⟩:=I.tuple hx;have hlen:its.toArray.size=xs.length:=by rw[size_toArray];exact r.length.symm
 refine⟨"tuple",_,PyProof.Rows.slot_tuple_getitem.lookup,ht.typeIs,?_⟩;exact HT.getItem_tuple_whole ht hs pl pu (by rw[hlen];exact hw) ⟨.ref a,H,I,rfl,q⟩
def Ya(K:W.Frag):V->Option Int->Option Int->Hp->VK->Prop:=fun x lo hi H Q=>(∃a xs,x= .ref a/\SqT K H a xs/\(HT.sIx xs.length 0 lo=0/\HT.sIx xs.length xs.length hi=xs.length)/\Q (.ref a) H)\/rSlT K x lo hi H Q
theorem uu:SlR X (Ya X.K):=Ye.or Kp
end
end L2
namespace HT
open PySem PySem.Spec PyProof.Rows
def lexGt:List Int->List Int->Bool
 | [],[]=>false
 | [],_::_=>false
 | _::_,[]=>true
 |x::xs,y::ys=>if x=y then lexGt xs ys else decide (y<x)
end HT
namespace L2
open PySem PySem.Spec PyProof.Rows
section
variable{X:Cx}
theorem vO{ys:List Str}:∀{us:List Value},Vals (ys.map V.str) us->StrsAre us ys:=by
 induction ys with
 |nil=>intro us r;cases r;exact .nil
 |cons y ys ih =>
  intro us r;cases r with
  |cons r t =>
   obtain⟨tk,rfl⟩:=r;exact .cons _ _ (ih t)
theorem wE:MtR X "str.join" (fun x vs H Q=>∃ sep a ys,x= .str sep/\vs=[.ref a]/\SqL X.K H a (ys.map V.str)/\(ys.map (·.length)).sum+ys.length*sep.length<=16777216/\Q (.str (Txt.join sep ys)) H):=by
 intro pins s σ H x vs v us Q I rx rv h;obtain⟨sep,a,ys,rfl,rfl,hq,hz,q⟩:=h;obtain⟨t,rfl⟩:=rx;obtain⟨u,rfl,ru⟩:=rv.one;cases ru;obtain⟨its,r,pl,_⟩:=I.list hq;exact join_list pl.isList (by simpa using vO r) hz fun t' k=>⟨.str _,H,I.tok _,⟨t',rfl⟩,q⟩
theorem xz:∀(l:List (Str×Tok)),Vals ((l.map (·.1)).map V.str) (strValues l)
 | []=>.nil
 |(x,t)::r=>.cons ⟨t,rfl⟩ (xz r)
theorem tM:MtR X "str.split" (fun x vs H Q=>∃ z sep,x= .str z/\vs=[.str sep]/\(sep.length==0)=false/\z.length<=1000000/\ ∀l,H l=none->Q (.ref l) (upd H l (.lst ((Txt.split z sep).map V.str)))):=by
 intro pins s σ H x vs v us Q I rx rv h;obtain⟨z,sep,rfl,rfl,hy,hz,q⟩:=h;obtain⟨t,rfl⟩:=rx;obtain⟨u,rfl,ru⟩:=rv.one;obtain⟨u',rfl⟩:=ru;have hl:(Builtin.Str.partsBetween z (Builtin.Str.occurrences z sep 0 z.length (z.length+1)) sep.length).length<=z.length+2:=by
  unfold Builtin.Str.partsBetween;have:=StrLaws.occ_length_le z sep 0 z.length (z.length+1);simp;omega
 have hsz:z.length<=sizeLine:=by rw[sizeLine_eq];omega
 have fin:∀(l:List (Str×Tok))(tk:Nat),l.map (·.1)=Txt.split z sep->EP X pins σ Q (.ref s.heap.objs.size) {s with heap:=s.heap.push {cls:=.type "list",data:=.seq (strValues l).toArray},toks:=tk}:=fun l tk e=>by
  have hlen:((Txt.split z sep).map V.str).length<=sizeLine:=by
   rw[length_map];unfold Txt.split;split
   ·show 1<=sizeLine;decide
   ·split
    ·show 1<=sizeLine;decide
    ·rw[sizeLine_eq];omega
  refine⟨.ref s.heap.objs.size,_,I.laid (fun b o e=>Heap.get?_push_of_some _ e) (le_refl _) (show zS X.prog X.w _ _ _ (.lst ((Txt.split z sep).map V.str))from⟨hlen,strValues l,0,?_,Heap.get?_push_size _ rfl⟩),rfl,q _ (I.hok.fresh (le_refl _))⟩;rw[<-e];exact xz l
 cases h1:(decide (z.length<sep.length)||decide (Builtin.Str.strKind z<Builtin.Str.strKind sep))
 ·cases hf:(Builtin.Str.occurrences z sep 0 z.length (z.length+1)).isEmpty
  ·refine call_meets F.slot_str_split (typeIs_str _ _ _) F.entry_str_split (F.args_str_split_2 _ _) (meets_str_split_sep z sep t u' h1 hy hf hsz (by rw[sizeLine_eq];omega)) ?_;show wants _ _ _ {s with toks:=_,heap:=s.heap.push {cls:=.type "list",data:=.seq (strsFrom s.toks (Builtin.Str.partsBetween z (Builtin.Str.occurrences z sep 0 z.length (z.length+1)) sep.length)).toArray}};rw[strsFrom_eq];exact fin (numbered s.toks _) _ ((numbered_texts _ _).trans ((if_neg (ne_true_of_eq_false h1)).trans (if_neg (ne_true_of_eq_false hf))).symm)
  ·exact call_meets F.slot_str_split (typeIs_str _ _ _) F.entry_str_split (F.args_str_split_2 _ _) (meets_str_split_not_found z sep t u' h1 hy hf)
    (fin [(z,t)] s.toks ((if_neg (ne_true_of_eq_false h1)).trans (if_pos hf)).symm)
 ·exact call_meets F.slot_str_split (typeIs_str _ _ _) F.entry_str_split (F.args_str_split_2 _ _) (meets_str_split_cannot_occur z sep t u' h1)
   (fin [(z,t)] s.toks (if_pos h1).symm)
def Its(z:Str):It:=⟨fun i _=>i<z.cps.size,fun i H x H'=>H'=H/\ ∃c,z.cps[i]? =some c/\x= .str ⟨#[c]⟩,fun i _=>z.cps.size<=i⟩
end
theorem fi{P:Program}{w:World}{K:W.Frag}{tg:Expr}(it:Addr)(z:Str)(t:Tok)(kind:String)(hk:["enumerate","zip","dict_itemiterator","dict_reverseitemiterator","odict_iterator","itertools.zip_longest","itertools.pairwise"].contains kind=false)(W0:∀A:Around,A.handled=none->Walks P w A it [it] [it] z.cps.size (SignAt z) (fun i h=>h.IsStrIter it kind z t i))(dn:∀(A:Around) (s:Shared) (i:Nat) (Q:Option Value->Shared->Prop) (E:Value->Shared->Prop),A.handled=none->s.heap.IsStrIter it kind z t i->z.cps[i]? =none->(∀h',Heap.ExtBut it s.heap h'->Q none {s with heap:=h'})->wpAny (model P w) A (pyNext (.ref it)) Q E s)(sf:∀(A:Around) (i:Nat) (s:Shared) (Q:Value->Shared->Prop) (E:Value->Shared->Prop),s.heap.IsStrIter it kind z t i->Q (.ref it) s->wpAny (model P w) A (pyIter (.ref it)) Q E s) :
  Turn P w K tg (Its z) [it] it (fun i h=>h.IsStrIter it kind z t i) where
 mem:=by simp
 obj:=fun i h st b hb=>by
  have e:b=it:=by simpa using hb
  subst e;obtain⟨o,e,c,d⟩:=st;exact⟨o,e,fun v z=>by rw[d]at z;cases z⟩
 keep:=fun i h h' st k=>let⟨o,ho,r⟩:=st;⟨o,k it (by simp) o ho,r⟩
 item:=by
  intro X hP hw hK hc i pins s σ H E I hf st hg;subst hP hw hK;obtain⟨f0,f1,f2,f3,f4,f5⟩:=hf it (by simp);refine(W0 X.A (I.ok.hd hc)).item i s _ _ hg st fun v h' tk hv st' kk=>?_;obtain⟨c,u,hc',rfl⟩:=hv;have I1:Inv X pins σ H {s with heap:=h',toks:=tk}:=I.turned (fun b o hb e=>kk b o (by simpa using hb) e) f0 f1 f3 f4 f5;obtain⟨o,e,c',d⟩:=id st';exact⟨_,rfl,iW (s:={s with heap:=h',toks:=tk}) (n:=kind) e c' d hk ⟨.str ⟨#[c]⟩,H,I1,⟨u,rfl⟩,⟨rfl,c,hc',rfl⟩,st',fun b hb=>(hf b hb).1⟩⟩
 done:=by
  intro X hP hw hK hc i pins s σ H E I hf st hg;subst hP hw hK;obtain⟨f0,f1,f2,f3,f4,f5⟩:=hf it (by simp);exact dn X.A s i _ _ (I.ok.hd hc) st (by have:z.cps.size<=i:=hg;simp;omega) fun h' eb=>⟨rfl,I.turned (t':=s.toks) (fun b o hb e=>eb b o hb e) f0 f1 f3 f4 f5⟩
 self:=fun A i s Q E st h=>sf A i s Q E st h
section
variable{X:Cx}{tg:Expr}
def iStr(tl:TE):TI:=fun σ H R=>tl σ H fun x H1=>∃ z,x= .str z/\R (Its z) H1
theorem Zu{l:Expr}{tl:TE}(hl:PE X l tl):PI X tg l (iStr tl):=by
 intro pins s σ H R I h;refine thn (hl pins s σ H _ I h) fun v s1 ⟨x,H1,I1,r1,q1⟩=>?_;obtain⟨z,e,q⟩:=q1;subst e;obtain⟨t,rfl⟩:=r1;have fp:∀b∈[s1.heap.objs.size],FpOk X pins H1 b:=fun b hb=>by
  have e:b=s1.heap.objs.size:=by simpa using hb
  subst e;exact I1.fpOk (le_refl _) (I1.hok.fresh (le_refl _))
 cases ha:z.cps.all (· <128)
 ·refine wpAny_pyIter_wide ha ?_;exact⟨s1.heap.objs.size,[s1.heap.objs.size],_,_,H1,rfl,I1.kept (t':=s1.toks) fun b o e=>Heap.get?_push_of_some _ e,
   fi _ z t "str_iterator" (by decide) (fun A hA=>Walks.strWide hA _ z t) (fun A s i Q E hA st hx hQ=>wpAny_pyNext_wide_end hA st hx hQ) (fun A i s Q E st h=>wpAny_pyIter_striter_wide st h),⟨_,Heap.get?_push_size _ rfl,rfl,rfl⟩,fp,q⟩
 ·refine wpAny_pyIter_ascii ha ?_;exact⟨s1.heap.objs.size,[s1.heap.objs.size],_,_,H1,rfl,I1.kept (t':=s1.toks) fun b o e=>Heap.get?_push_of_some _ e,
   fi _ z t "str_ascii_iterator" (by decide) (fun A hA=>Walks.strAscii hA _ z t) (fun A s i Q E hA st hx hQ=>wpAny_pyNext_ascii_end hA st hx hQ) (fun A i s Q E st h=>wpAny_pyIter_striter_ascii st h),⟨_,Heap.get?_push_size _ rfl,rfl,rfl⟩,fp,q⟩
end
theorem aX{z:Str}{g:TG}{tf:TT}{te:TE}{σ:St}{H:Hp}{Q:VK}(Pv:Nat->List V->St->Hp->Prop)(h0:Pv 0 [] σ H)(hl:∀i ys σ H,i<=z.cps.size->Pv i ys σ H->ys.length<=sizeLine)(hs:∀i c ys σ H,z.cps[i]? =some c->Pv i ys σ H->g (.str ⟨#[c]⟩) σ H fun σ2 H2=>tf σ2 H2 fun b H3=>if b=true then te σ2 H3 fun v H4=>Pv (i+1) (ys++[v]) σ2 H4 else Pv (i+1) ys σ2 H3)(hd:∀ys σ H,Pv z.cps.size ys σ H-> ∀p,H p=none->Q (.ref p) (upd H p (.lst ys))):uj g tf te σ (Its z) H Q:=by
 refine⟨fun i m ys σ H=>m=z.cps.size-i/\i<=z.cps.size/\Pv i ys σ H,⟨z.cps.size,by simp,zero_le _,h0⟩,?_⟩;rintro i m ys σ H ⟨rfl,hi,p⟩;have hz:=hl i ys σ H hi p;by_cases hlt:i<z.cps.size
 ·refine .inr ⟨hlt,hz,Pv (i+1),fun ys' σ' H' p'=>⟨z.cps.size-(i+1),by omega,rfl,hlt,p'⟩,fun x H' y=>?_⟩;obtain⟨e,c,hc,rfl⟩:=y;subst e;exact hs i c ys σ _ hc p
 ·have e:i=z.cps.size:=by omega
  subst e;exact .inl ⟨le_refl _,hz,hd ys σ H p⟩
section
variable{X:Cx}
theorem jz(hc:X.calm=true):wv X (.builtin "all") (fun xs H Q=>∃(a:Addr)(bs:List Bool),xs=[.ref a]/\SqL X.K H a (bs.map V.bl)/\Q (.bl (bs.all id)) H):=by
 intro pins s σ H xs us Q I r h;obtain⟨a,bs,rfl,hq,q⟩:=h;obtain⟨u,rfl,ru⟩:=ua r;cases ru;have hh:X.A.in1.handled=none:=I.ok.hd hc;obtain⟨its,r',pl,hz⟩:=I.list hq;have hl:=r'.length;rw[length_map]at hl;have hlt:a<s.heap.objs.size:=by obtain⟨_,e,_⟩:=pl.isList;exact Heap.lt_size e
 refine call_all_walk (wpAny_pyIter_list pl.isList ⟨_,_,_,_,_,_,fun i=>bs.getD i false,rfl,Walks.list (A:=X.A.in1) hh _ a (ne_of_lt hlt) its.toArray,⟨⟨_,Heap.get?_push_size _ rfl,rfl,rfl⟩,pl.isList.push _⟩,?_,fun h' tk hk=>?_⟩)
 ·intro i v s' Q' E' hv hQ;have hv':its[i]? =some v:=by simpa using hv
  have hi:i<bs.length:=by have:=(List.getElem?_eq_some_iff.mp hv').1;omega
  have hx:(bs.map V.bl)[i]? =some (V.bl (bs.getD i false)):=by simp[hi]
  obtain⟨u,hu,ru⟩:=r'.get hx;rw[hv']at hu;cases hu;cases ru;exact wpAny_truthy_bool hQ
 ·have e:(List.range its.toArray.size).all (fun i=>bs.getD i false)=bs.all id:=by
   rw[size_toArray,<-hl,Bool.eq_iff_iff];simp only[all_eq_true,mem_range,id];constructor
   ·intro h b hb;obtain⟨i,hi,rfl⟩:=List.mem_iff_getElem.mp hb;have:=h i hi;simpa [hi]using this
   ·intro h i hi;have:=h bs[i] (getElem_mem hi);simpa [hi]using this
  rw[e];exact⟨.bl _,H,I.kept fun b o e=>hk b o (by simpa using ne_of_lt (Heap.lt_size e)) (Heap.get?_push_of_some _ e),rfl,q⟩
theorem uy:wv X (.type "int") (fun xs H Q=>∃(z:Str)(n:Int),xs=[.str z]/\PySem.intText? z=some n/\z.length<=640/\Q (.int n) H):=by
 intro pins s σ H xs us Q I r h;obtain⟨z,n,rfl,hn,hl,q⟩:=h;obtain⟨u,rfl,t,rfl⟩:=ua r;exact W.KIN.call_text hn hl ⟨.int n,H,I.tok _,⟨_,rfl⟩,q⟩
end
end L2
namespace L2
open PySem PySem.Spec PyProof.Rows PySem.NumText PySem.Calls
def numS(n:Int):Str:=Str.ofString (toString n)
theorem vc(m:Nat)(h:10<=m):Nat.toDigits 10 m=Nat.toDigits 10 (m / 10)++[Nat.digitChar (m%10)]:=by
 have hm:m%10<10:=Nat.mod_lt _ (by decide);have t:=Nat.toDigits_append_toDigits (b:=10) (n:=m / 10) (d:=m%10) (by decide) (by omega) hm;rw[show 10*(m / 10)+m%10=m by omega]at t;rw[<-t,Nat.toDigits_of_lt_base hm]
theorem bf(m:Nat):∀k:Nat,0<k->m<10^k->(Nat.toDigits 10 m).length<=k:=by
 induction m using Nat.strongRecOn with
 | _ m ih =>
  intro k hk h;by_cases h10:m<10
  ·rw[Nat.toDigits_of_lt_base h10];exact hk
  ·rw[vc m (by omega),length_append,List.length_singleton];cases k with
   |zero=>omega
   |succ k =>
    cases k with
    |zero=>simp at h;omega
    |succ k =>
     have:m / 10<10^(k+1):=by
      rw[Nat.pow_succ]at h;omega
     have:=ih (m / 10) (by omega) (k+1) (by omega) this;omega
theorem mH(m:Nat)(h:0<m):∃c r,Nat.toDigits 10 m=c::r/\c≠ '0':=by
 induction m using Nat.strongRecOn with
 | _ m ih =>
  by_cases h10:m<10
  ·rw[Nat.toDigits_of_lt_base h10];refine⟨_,[],rfl,?_⟩;have:∀d:Nat,0<d->d<10->Nat.digitChar d≠ '0':=by
    intro d h1 h2;rcases d with _| _| _| _| _| _| _| _| _| _|d
    ·omega
    all_goals first|decide|omega
   exact this m h h10
  ·obtain⟨c,r,e,hc⟩:=ih (m / 10) (by omega) (by omega);rw[vc m (by omega),e];exact⟨c,r++[Nat.digitChar (m%10)],rfl,hc⟩
theorem uJ{n:Int}(h:0<=n):(numS n).cps.toList=(Nat.toDigits 10 n.toNat).map Char.toNat:=by
 obtain⟨m,rfl⟩:=Int.eq_ofNat_of_zero_le h;exact W.KIN.signs_num m
theorem jc{n:Int}(h:0<=n):AllDigits (numS n).cps.toList:=by
 intro c hc;rw[uJ h]at hc;obtain⟨ch,hch,e⟩:=mem_map.mp hc;have r:=digit_range (Nat.isDigit_of_mem_toDigits (by decide) (by decide) hch);rw[<-e];exact r
theorem aq{n:Int}(h:1<=n):∃c r,(numS n).cps.toList=c::r/\c≠48:=by
 obtain⟨c,r,e,hc⟩:=mH n.toNat (by omega);rw[uJ (by omega),e];refine⟨c.toNat,r.map Char.toNat,rfl,fun z=>hc ?_⟩;exact Char.ext (UInt32.toNat_inj.mp z)
theorem yq{n:Int}(h:0<=n){k:Nat}(hk:0<k)(h2:n<10^k):(numS n).cps.toList.length<=k:=by
 rw[uJ h,length_map];refine bf _ k hk ?_;have:((n.toNat:Nat):Int)<((10^k:Nat):Int):=by
  rw[Int.toNat_of_nonneg h];simpa using h2
 exact_mod_cast this
theorem fS{n:Int}(h:0<=n)(h2:n<10^600):PySem.intText? (numS n)=some n:=by
 have hl:=yq h (k:=600) (by decide) h2;have hne:(numS n).cps.toList≠[]:=by
  rw[uJ h];intro e;have h:=toDigits_len_ge 10 n.toNat;rw[List.map_eq_nil_iff.mp e]at h;exact absurd h (by decide)
 have e:=intText_digits (jc h) hne (by show(numS n).cps.size<=4300;rw[<-Array.length_toList];omega);rw[uJ h,W.KIN.val_back]at e;rw[e];congr 1;omega
def kA(c:Nat):List (List Nat)->List Nat
 | []=>[]
 | [x]=>x
 |x::y::r=>x++c::kA c (y::r)
theorem Zi{c:Nat}:∀{x y a b:List Nat},c∉x->c∉y->x++c::a=y++c::b->x=y/\a=b
 | [],[],a,b,_,_,e=>by simp at e;exact⟨rfl,e⟩
 | [],y::ys,a,b,_,hy,e=>by
  simp at e;exact absurd (by rw[e.1];exact mem_cons_self) hy
 |x::xs,[],a,b,hx,_,e=>by
  simp at e;exact absurd (by rw[<-e.1];exact mem_cons_self) hx
 |x::xs,y::ys,a,b,hx,hy,e=>by
  simp only[List.cons_append,List.cons.injEq]at e;obtain⟨e1,e2⟩:=Zi (fun z=>hx (mem_cons_of_mem _ z)) (fun z=>hy (mem_cons_of_mem _ z)) e.2;exact⟨by rw[e.1,e1],e2⟩
theorem Zj{c:Nat}{x y a:List Nat}(hx:c∉x)(e:x=y++c::a):False:=hx (by rw[e];simp)
theorem dk{c:Nat}:∀{xs ys:List (List Nat)},xs≠[]->ys≠[]->(∀x∈xs,c∉x)->(∀x∈ys,c∉x)->kA c xs=kA c ys->xs=ys
 | [],_,h,_,_,_,_=>absurd rfl h
 | _::_,[],_,h,_,_,_=>absurd rfl h
 | [x],[y],_,_,_,_,e=>by simp only[kA]at e;rw[e]
 | [x],y::y2::r,_,_,hx,_,e=>by
  simp only[kA]at e;exact(Zj (hx x (by simp)) e).elim
 |x::x2::r,[y],_,_,_,hy,e=>by
  simp only[kA]at e;exact(Zj (hy y (by simp)) e.symm).elim
 |x::x2::r,y::y2::r',_,_,hx,hy,e=>by
  simp only[kA]at e;obtain⟨e1,e2⟩:=Zi (hx x (by simp)) (hy y (by simp)) e;have:=dk (xs:=x2::r) (ys:=y2::r') (by simp) (by simp) (fun z hz=>hx z (mem_cons_of_mem _ hz)) (fun z hz=>hy z (mem_cons_of_mem _ hz)) e2;rw[e1,this]
theorem jY(c:Nat):∀ws:List Str,(Str.join ⟨#[c]⟩ ws).cps.toList=kA c (ws.map fun w=>w.cps.toList)
 | []=>rfl
 | [x]=>rfl
 |x::y::r=>by
  show((x++(⟨#[c]⟩:Str))++Str.join ⟨#[c]⟩ (y::r)).cps.toList=x.cps.toList++c::kA c ((y::r).map fun w=>w.cps.toList);rw[<-jY c (y::r)];show(x.cps++ #[c]++(Str.join ⟨#[c]⟩ (y::r)).cps).toList=_;simp
theorem yG{x y:Str}(h:x.cps.toList=y.cps.toList):x=y:=by
 obtain⟨a⟩:=x;obtain⟨b⟩:=y;have:a=b:=Array.toList_inj.mp h;rw[this]
theorem fb(x y:Str):Txt.split x y≠[]:=by
 unfold Txt.split;split
 ·simp
 ·split
  ·simp
  ·simp[Builtin.Str.partsBetween]
theorem xN{c:Nat}{ws:List Str}(h0:ws≠[])(h:∀w∈ws,c∉w.cps.toList):Txt.split (Txt.join ⟨#[c]⟩ ws) ⟨#[c]⟩=ws:=by
 have e1:Txt.join ⟨#[c]⟩ ws=Str.join ⟨#[c]⟩ ws:=StrLaws.glued_eq_join _ _;have e2:=StrLaws.join_split (Txt.join ⟨#[c]⟩ ws) ⟨#[c]⟩;have e3:kA c ((Txt.split (Txt.join ⟨#[c]⟩ ws) ⟨#[c]⟩).map fun w=>w.cps.toList)=kA c (ws.map fun w=>w.cps.toList):=by
  rw[<-jY,<-jY,e2,e1]
 have e4:=dk (by simpa using fb _ _) (by simpa using h0) (fun x hx=>by
  obtain⟨w,hw,rfl⟩:=mem_map.mp hx;exact StrLaws.split_free _ c w hw) (fun x hx=>by
  obtain⟨w,hw,rfl⟩:=mem_map.mp hx;exact h w hw) e3
 have inj:∀(xs ys:List Str),(xs.map fun w=>w.cps.toList)=(ys.map fun w=>w.cps.toList)->xs=ys:=by
  intro xs
  induction xs with
  |nil=>intro ys e;cases ys with|nil=>rfl|cons y r=>cases e
  |cons x r ih =>
   intro ys e;cases ys with
   |nil=>cases e
   |cons y r' =>
    simp only[map_cons,List.cons.injEq]at e;rw[yG e.1,ih _ e.2]
 exact inj _ _ e4
theorem dl(c:Nat):∀ws:List (List Nat),(kA c ws).length<=(ws.map length).sum+ws.length
 | []=>by simp[kA]
 | [x]=>by simp[kA]
 |x::y::r=>by
  have:=dl c (y::r);simp only[kA,length_append,length_cons,map_cons,List.sum_cons]at this ⊢;omega
end L2
namespace L2
open PySem PySem.Spec PyProof.Rows PySem.NumText
def xF:Str:=Str.ofString "none"
theorem kH:Str.ofString " "=⟨#[32]⟩:=by decide+kernel
theorem tT:xF.cps.toList=[110,111,110,101]:=by decide+kernel
def txt(ns:List Int):Str:=if ns=[]then xF else Txt.join (Str.ofString " ") (ns.map numS)
theorem rQ{α:Type}{f:α->Nat}{B:Nat}:∀{l:List α},(∀x∈l,f x<=B)->(l.map f).sum<=l.length*B
 | [],_=>by simp
 |x::r,h=>by
  have h1:=h x mem_cons_self;have h2:=rQ (l:=r) fun y hy=>h y (mem_cons_of_mem _ hy);rw[map_cons,List.sum_cons,length_cons,Nat.succ_mul];omega
theorem zV(x:Str):x.length=x.cps.toList.length:=by
 show x.cps.size=_;simp
theorem jr{n:Int}(h0:0<=n)(h:n<=10^60):n.natAbs.log2<1920:=by
 by_cases hz:n.natAbs=0
 ·rw[hz];decide
 ·have h1:n.natAbs<=10^60:=by omega
  exact(Nat.log2_lt hz).mpr (lt_of_le_of_lt h1 (by decide+kernel))
theorem lV{n:Int}(h:0<=n):32∉(numS n).cps.toList:=fun z=>by
 have:=jc h 32 z;omega
theorem uw{ns:List Int}(hl:ns.length<=64)(hb:∀x∈ns,1<=x/\x<=10^60):(txt ns).length<=10000:=by
 unfold txt;split
 ·rw[zV,tT];decide
 ·rw[kH,zV,show Txt.join ⟨#[32]⟩ (ns.map numS)=Str.join ⟨#[32]⟩ (ns.map numS)from StrLaws.glued_eq_join _ _,jY];refine le_trans (dl _ _) ?_;have h1:((((ns.map numS).map fun w=>w.cps.toList)).map length).sum<=ns.length*61:=by
   rw[map_map,map_map];exact rQ fun x hx=>yq (by have:=hb x hx;omega) (by decide) (Int.lt_of_le_of_lt (hb x hx).2 (by decide))
  simp only[length_map];omega
theorem Z8{ns:List Int}(hb:∀x∈ns,1<=x):txt ns=xF↔ns=[]:=by
 constructor
 ·intro e;unfold txt at e;split at e
  ·assumption
  ·rename_i h;cases ns with
   |nil=>rfl
   |cons n r =>
    exfalso;rw[kH,show Txt.join ⟨#[32]⟩ ((n::r).map numS)=Str.join ⟨#[32]⟩ ((n::r).map numS)from StrLaws.glued_eq_join _ _]at e;have e2:=congrArg (fun x:Str=>x.cps.toList) e;simp only[jY,tT]at e2;have hn:=hb n mem_cons_self;obtain⟨c,cr,hc,_⟩:=aq hn;have hd:=jc (n:=n) (by omega) c (by rw[hc];exact mem_cons_self);cases r with
    |nil =>
     simp only[map_cons,List.map_nil,kA,hc,List.cons.injEq]at e2;omega
    |cons m r' =>
     simp only[map_cons,kA,hc,List.cons_append,List.cons.injEq]at e2;omega
 ·rintro rfl;rfl
theorem xy{ns:List Int}(h0:ns≠[])(hb:∀x∈ns,1<=x):Txt.split (txt ns) (Str.ofString " ")=ns.map numS:=by
 unfold txt;rw[if_neg h0,kH];refine xN (by simpa using h0) fun w hw=>?_;obtain⟨n,hn,rfl⟩:=mem_map.mp hw;exact lV (by have:=hb n hn;omega)
def kR(w:Str):Bool:=match w.cps.toList with
 | []=>false
 |c::r=>decide ((c::r).length<=60)&&decide (c≠48)&&(c::r).all fun d=>decide (48<=d/\d<=57)
theorem vz{n:Int}(h:1<=n)(h2:n<10^60):kR (numS n)=true:=by
 obtain⟨c,r,e,hc⟩:=aq h;have hl:=yq (n:=n) (by omega) (k:=60) (by decide) h2;have hd:=jc (n:=n) (by omega);unfold kR;rw[e]at hl hd ⊢;simp only[and_eq_true,decide_eq_true_eq,all_eq_true];exact⟨⟨hl,hc⟩,fun d hd'=>hd d hd'⟩
theorem oE:(Str.ofString "0123456789").cps.toList=[48,49,50,51,52,53,54,55,56,57]:=by decide+kernel
theorem ZM(c:Nat):(!(Builtin.Str.occurrences (Str.ofString "0123456789") ⟨#[c]⟩ 0 (Str.ofString "0123456789").length 1).isEmpty)=decide (48<=c/\c<=57):=by
 rw[StrLaws.found_one,oE];congr 1;rw[show([48,49,50,51,52,53,54,55,56,57]:List Nat)=(List.range 10).map (48+ ·)by decide+kernel];simp only[mem_map,mem_range,eq_iff_iff];exact⟨fun⟨k,hk,e⟩=>⟨by omega,by omega⟩,fun h=>⟨c-48,by omega,by omega⟩⟩
theorem Yn:Str.ofString "0"=⟨#[48]⟩:=by decide+kernel
theorem atI0{α:Type}(x:α)(r:List α):atI (x::r) 0=some x:=zr (j:=0) rfl
theorem KN(c:Nat):decide ((V.str ⟨#[c]⟩)=V.str (Str.ofString "0"))=decide (c=48):=by
 rw[Yn];congr 1;simp
structure IsHeap(n:Nat)(B:Int)(hs:List Int):Prop where
 ln:hs.length<=n
 bd:∀x∈hs,1<=x/\x<B
 pw:hs.Pairwise (· >= ·)
end L2
namespace L2
open PySem PySem.Spec PyProof.Rows
theorem lC(f:Array Value->Array Value)(o:Obj):(Obj.mapFields f o).dict=o.dict:=by
 obtain⟨c,d,dat,sl⟩:=o;cases dat <;>rfl
def TrD(h base:Heap)(e:Addr)(C:Value)(dd:Option Addr)(fl:Value):Prop :=
 ∃oe vs T oT ts,h.get? e=some oe/\(oe.cls=C/\oe.dict=dd)/\oe.data= .fields vs/\vs[1]? =some (.ref T)/\
  base.get? T=none/\T≠e/\h.get? T=some oT/\oT.data= .fields ts/\ts[3]? =some fl
def FlyD(base:Heap)(l:List Env)(e:Addr)(C:Value)(dd:Option Addr)(h:Heap):Prop:=base.StaysIn h/\base.get? e=none/\h.FunFrames base l/\TrD h base e C dd .none
def vf(base:Heap)(l:List Env)(e:Addr)(C:Value)(dd:Option Addr)(L:Addr)(h:Heap):Prop:=base.StaysIn h/\base.get? e=none/\h.FunFrames base l/\TrD h base e C dd (rawInt L)
def UpS(h h':Heap):Prop:=∀ b o,h.get? b=some o->(∀vs,o.data≠ .fields vs)-> ∃sl,h'.get? b=some {o with slots:=sl}
theorem UpS.same(h:Heap):UpS h h:=fun _ o q _=>⟨o.slots,q⟩
theorem UpS.trans{h1 h2 h3:Heap}(x:UpS h1 h2)(y:UpS h2 h3):UpS h1 h3:=fun b o q n=>by
 obtain⟨sl,q2⟩:=x b o q n;obtain⟨sl2,q3⟩:=y b {o with slots:=sl} q2 n;exact⟨sl2,q3⟩
section
variable{M:Model}{A:Around}{E:Value->Shared->Prop}{s:Shared}{base:Heap}{env:Env}{outer:List Env}{L e:Addr}{C:Value}{dd:Option Addr}{Q:Unit->Shared->Prop}
theorem mJ{h:Heap}{T:Addr}{oT:Obj}{ts:Array Value}(hT:h.get? T=some oT)(hd:oT.data= .fields ts)(f:Array Value->Array Value) :
  (∀b,b≠T->(h.update T (Obj.mapFields f)).get? b=h.get? b)/\(∀b o,h.get? b=some o->(∀vs,o.data≠ .fields vs)->(h.update T (Obj.mapFields f)).get? b=some o)/\(h.update T (Obj.mapFields f)).get? T=some (Obj.mapFields f oT):=by
 have far:∀b,b≠T->(h.update T (Obj.mapFields f)).get? b=h.get? b:=fun b n=>Heap.get?_update_other _ _ (Ne.symm n);refine⟨far,fun b o q n=>?_,Heap.get?_update_self _ hT (Obj.isFreed_of_fields (Obj.data_mapFields hd _))⟩;refine(far b fun z=>?_).trans q;subst z;rw[hT]at q;cases q;exact n ts hd
theorem wX{l:List Env}{fl:Value}(f:Option Addr)(k1:base.StaysIn s.heap)(k2:s.heap.FunFrames base l)(k3:TrD s.heap base e C dd fl)(q:∀h',base.StaysIn h'->h'.FunFrames base l->TrD h' base e C dd (f.elim Value.none fun f=>rawInt f)->UpS s.heap h'->Q () {s with heap:=h'}):wpAny M A (setFlight (.ref e) f) Q E s:=by
 obtain⟨oe,vs,T,oT,ts,g1,g2,g3,g4,g5,g6,g7,g8,g9⟩:=k3;have z3:3<ts.size:=(Array.getElem?_eq_some_iff.mp g9).1;obtain⟨far,non,own⟩:=mJ g7 g8 (·.setIfInBounds 3 (f.elim Value.none fun f=>rawInt f));unfold setFlight;refine wpAny_bind (wpAny_field g1 g3 g4 ?_);rw[if_pos (by simp)];refine wpAny_setField g7 g8 z3 (q _ ?_ ?_ ?_ fun b o q n=>⟨o.slots,non b o q n⟩)
 ·intro b o qb;refine(far b fun z=>?_).trans (k1 b o qb);rw[z,g5]at qb;cases qb
 ·exact k2.of_keeps fun b o qb n=>⟨o,non b o qb n,rfl⟩
 ·exact⟨oe,vs,T,_,_,(far e (Ne.symm g6)).trans g1,g2,g3,g4,g5,g6,own,Obj.data_mapFields g8 _,by simp[z3]⟩
theorem fg{oe:Obj}{vs:Array Value}{head:Value}{more:Bool}(fr:A.frames=some (env::outer))(k2:s.heap.FunFrames base (env::outer))(hL:env.frame=some L)(g1:s.heap.get? e=some oe)(k1:base.StaysIn s.heap)(ne:base.get? e=none)(g3:oe.data= .fields vs)(z1:1<vs.size)(q:∀h',base.StaysIn h'->h'.FunFrames base (env::outer)->TrD h' base e oe.cls oe.dict (rawInt L)->UpS s.heap h'->Q () {s with heap:=h'}) :
  wpAny M A (do
   let a <-frameOf env
   let pl <-entryPlaceOf L more
   let b <-EntryCells.newEntry head a .none (rawInt L) .none pl
   setField (.ref e) 1 b) Q E s:=by
 have nf:e∉(env::outer).filterMap (·.frame):=fun z=>by
  obtain⟨_,o,ho,n⟩:=k2.mem z;rw[g1]at ho;cases ho;exact n vs g3
 refine wpAny_bind (wpAny_frameOf_fun fr k2 hL fun h1 x1=>?_);refine wpAny_bind (wpAny_entryPlaceOf fun pl hpl=>?_);unfold EntryCells.newEntry newFields;refine wpAny_bind (wpAny_newObj_type ?_ (hpl.sizeOk5 _ _ _ _ _));have e1:h1.get? e=some oe:=by rw[x1.2.1 e nf];exact g1
 have b1:base.StaysIn h1:=fun b o qb=>by
  rw[x1.2.1 b fun z=>by rw[(k2.mem z).1]at qb;cases qb];exact k1 b o qb
 generalize hR:({cls:=.type "traceback",dict:=none,data:=.fields ([head,.ref L,.none,rawInt L,.none]++(if pl.isEmpty then replicate 6 Value.none else pl)).toArray}:Obj)=R;have dR:R.data= .fields ([head,.ref L,.none,rawInt L,.none]++(if pl.isEmpty then replicate 6 Value.none else pl)).toArray:=by rw[<-hR]
 have fR:R.isFreed=false:=Obj.isFreed_of_fields dR;have e2:(h1.push R).get? e=some oe:=Heap.get?_push_of_some _ e1;refine wpAny_setField e2 g3 z1 ?_;have nT:h1.objs.size≠e:=Nat.ne_of_gt (Heap.lt_size e1);obtain⟨far,non,own⟩:=mJ e2 g3 (·.setIfInBounds 1 (Value.ref h1.objs.size));have keep:∀b o,b≠e->h1.get? b=some o->((h1.push R).update e (Obj.mapFields (·.setIfInBounds 1 (Value.ref h1.objs.size)))).get? b=some o:=fun b o n qb=>by
  rw[far b n];exact Heap.get?_push_of_some _ qb
 have ne':∀b o,s.heap.get? b=some o->(∀vs,o.data≠ .fields vs)->b≠e:=fun b o qb n z=>by
  rw[z,g1]at qb;cases qb;exact n vs g3
 refine q _ ?_ ?_ ?_ ?_
 ·exact fun b o qb=>keep b o (fun z=>by rw[z,ne]at qb;cases qb) (b1 b o qb)
 ·refine k2.of_keeps fun b o qb n=>?_;obtain⟨sl,y⟩:=x1.2.2 b o qb;exact⟨_,keep b _ (ne' b o qb n) y,rfl⟩
 ·refine⟨_,_,h1.objs.size,R,_,own,⟨Obj.cls_mapFields _ _,lC _ _⟩,Obj.data_mapFields g3 _,by simp[z1],b1.fresh,nT,?_,dR,?_⟩
  ·rw[far _ nT];exact Heap.get?_push_size h1 fR
  ·simp
 ·intro b o qb n;obtain⟨sl,y⟩:=x1.2.2 b o qb;exact⟨sl,keep b _ (ne' b o qb n) y⟩
theorem aN(fr:A.frames=some (env::outer))(hL:env.frame=some L)(x:FlyD base (env::outer) e C dd s.heap)(q:∀h',vf base (env::outer) e C dd L h'->UpS s.heap h'->Q () {s with heap:=h'}):wpAny M A (noteFrame (.ref e) env) Q E s:=by
 obtain⟨k1,ne,k2,oe,vs,T,oT,ts,g1,⟨rfl,rfl⟩,g3,g4,g5,g6,g7,g8,g9⟩:=x;obtain⟨far,non,own⟩:=mJ g7 g8 (·.setIfInBounds 3 Value.none);unfold noteFrame;simp only[hL];refine wpAny_bind (wpAny_field g1 g3 g4 ?_);rw[if_pos (by simp)];refine wpAny_bind (wpAny_field g7 g8 g9 ?_);rw[if_neg (by simp[rawInt])];refine wpAny_bind (wpAny_setField g7 g8 (Array.getElem?_eq_some_iff.mp g9).1 ?_);refine fg fr (k2.of_keeps fun b o qb n=>⟨o,non b o qb n,rfl⟩) hL ((far e (Ne.symm g6)).trans g1) (fun b o qb=>?_) ne g3 (Array.getElem?_eq_some_iff.mp g4).1 fun h' y1 y2 y3 y4=>q h' ⟨y1,ne,y2,y3⟩ fun b o qb n=>y4 b o (non b o qb n) n;refine(far b fun z=>?_).trans (k1 b o qb);rw[z,g5]at qb;cases qb
theorem fc{fl:Value}(hL:env.frame=some L)(x:TrD s.heap base e C dd (rawInt L))(q:Q () s):wpAny M A (noteFrame (.ref e) env) Q E s:=by
 obtain⟨oe,vs,T,oT,ts,g1,g2,g3,g4,g5,g6,g7,g8,g9⟩:=x;unfold noteFrame;simp only[hL];refine wpAny_bind (wpAny_field g1 g3 g4 ?_);rw[if_pos (by simp)];refine wpAny_bind (wpAny_field g7 g8 g9 ?_);rw[if_pos (by simp)];exact wpAny_pure q
theorem fh{oe:Obj}{vs:Array Value}(fr:A.frames=some (env::outer))(k2:s.heap.FunFrames base (env::outer))(hL:env.frame=some L)(g1:s.heap.get? e=some oe)(k1:base.StaysIn s.heap)(ne:base.get? e=none)(g3:oe.data= .fields vs)(g4:vs[1]? =some .none)(q:∀h',vf base (env::outer) e oe.cls oe.dict L h'->UpS s.heap h'->Q () {s with heap:=h'}):wpAny M A (noteFrame (.ref e) env) Q E s:=by
 unfold noteFrame;simp only[hL];refine wpAny_bind (wpAny_field g1 g3 g4 ?_);rw[if_neg (by decide)];exact fg fr k2 hL g1 k1 ne g3 (Array.getElem?_eq_some_iff.mp g4).1 fun h' y1 y2 y3 y4=>q h' ⟨y1,ne,y2,y3⟩ y4
end
structure Cov(s₀:Heap)(H₀:Hp)(fr ex:List Addr)(H':Hp)(B:Heap):Prop where
 trk:∀b u,H' b=some u-> ∃o,B.get? b=some o
 old:∀b o,s₀.get? b=some o->H₀ b=none->b∉fr->b∉ex->B.get? b=some o
 all:∀b o,s₀.get? b=some o->b∉fr->b∉ex-> ∃o',B.get? b=some o'
def CX1(P:Program)(w:World):CXT:=fun outer H s E ev s'=>∃(e:Addr)(C:Value)(dd:Option Addr)(H':Hp),ev= .ref e/\E C dd H'/\s'.os=s.os/\AllBare s'.gens/\Un (frs outer) [] H H' s.heap s'.heap/\HOk P w H' s'.heap/\H' e=none/\
 ∃B,FlyD B outer e C dd s'.heap/\Cov s.heap H (frs outer) [] H' B
inductive ExcSt(B:Heap)(l:List Env)(L e:Addr)(C:Value)(dd:Option Addr)(h:Heap):Prop where
 |made (oe:Obj) (vs:Array Value):B.StaysIn h->h.FunFrames B l->B.get? e=none->h.get? e=some oe->oe.cls=C->oe.dict=dd->oe.data= .fields vs->vs[1]? =some .none->ExcSt B l L e C dd h
 |fly:FlyD B l e C dd h->ExcSt B l L e C dd h
 |held:vf B l e C dd L h->ExcSt B l L e C dd h
theorem ExcSt.stays{B:Heap}{l:List Env}{L e:Addr}{C:Value}{dd:Option Addr}{h:Heap}(x:ExcSt B l L e C dd h):B.StaysIn h:=by
 cases x with
 |made oe vs a b c=>exact a
 |fly a=>exact a.1
 |held a=>exact a.1
theorem ExcSt.frames{B:Heap}{l:List Env}{L e:Addr}{C:Value}{dd:Option Addr}{h:Heap}(x:ExcSt B l L e C dd h):h.FunFrames B l:=by
 cases x with
 |made oe vs a b c=>exact b
 |fly a=>exact a.2.2.1
 |held a=>exact a.2.2.1
structure ExcAt(X:Cx)(H':Hp)(e:Addr)(C:Value)(dd:Option Addr)(s':Shared):Prop where
 os:s'.os=X.s₀.os
 bare:AllBare s'.gens
 un:Un X.fs X.ex X.H₀ H' X.s₀.heap s'.heap
 hok:HOk X.prog X.w H' s'.heap
 fe:H' e=none
 st:∃B,Cov X.s₀.heap X.H₀ (frs X.stack) X.ex H' B/\ExcSt B X.stack X.env.locals e C dd s'.heap
theorem Cov.turn{P:Program}{w:World}{s₀ h h':Heap}{H₀ H':Hp}{fr fs ex:List Addr}{B:Heap}(c:Cov s₀ H₀ fr ex H' B)(hs:∀b∈fs,b∈fr)(hnf:∀b∈fr,∃o,h.get? b=some o/\ ∀vs,o.data≠ .fields vs)(b1:B.StaysIn h)(b2:B.StaysIn h')(up:∀b o,h.get? b=some o->(∀vs,o.data≠ .fields vs)-> ∃sl,h'.get? b=some {o with slots:=sl})(un:Un fs ex H₀ H' s₀ h)(hok:HOk P w H' h)(hfs:∀b o,s₀.get? b=some o->b∈fr->b∈fs):Un fs ex H₀ H' s₀ h'/\HOk P w H' h':=by
 refine⟨⟨fun b o q n hb hx=>?_,fun b o q n hb hx=>?_,un.free,fun b o q hx=>?_,un.tups,un.frzs,un.tbls⟩,fun b u e=>?_⟩
 ·by_cases hf:b∈fr
  ·exact absurd (hfs b o q hf) hb
  ·exact b2 b o (c.old b o q n hf hx)
 ·obtain⟨sl,e1⟩:=un.slot b o q n hb hx;obtain⟨o1,e2,nf⟩:=hnf b (hs b hb);rw[e1]at e2;cases e2;obtain⟨sl',e3⟩:=up b _ e1 nf;exact⟨sl',e3⟩
 ·by_cases hf:b∈fr
  ·obtain⟨o1,e2,nf⟩:=hnf b hf;obtain⟨sl',e3⟩:=up b _ e2 nf;exact⟨_,e3⟩
  ·obtain⟨o',e⟩:=c.all b o q hf hx;exact⟨o',b2 b o' e⟩
 ·refine(hok b u e).stay (fun d v hd q=>?_) (fun _ q=>q) fun _ _ q=>q;have hd':∃u',H' d=some u':=by
   rcases hd with rfl|hd
   ·exact⟨u,e⟩
   ·exact⟨_,hd⟩
  obtain⟨u',hu'⟩:=hd';obtain⟨o,ho⟩:=c.trk d u' hu';have:=b1 d o ho;rw[q]at this;cases this;exact b2 d v ho
theorem kM{B h:Heap}{l:List Env}(x:h.FunFrames B l):∀b∈frs l,∃o,h.get? b=some o/\ ∀vs,o.data≠ .fields vs:=fun b hb=>by
 obtain⟨_,o,ho,hnf⟩:=x.mem hb;exact⟨o,ho,hnf⟩
def XE(X:Cx)(E:XK):Value->Shared->Prop:=fun ev s'=>∃(e:Addr)(C:Value)(dd:Option Addr)(H':Hp),ev= .ref e/\E C dd H'/\ExcAt X H' e C dd s'
section
variable{X:Cx}{outer:List Env}
structure Own(X:Cx):Prop where
 ok:X.Ok
 top:X.stack=X.env::X.outer
 fr:X.env.frame=some X.env.locals
theorem Own.sub(o:Own X):∀b∈X.fs,b∈frs X.stack:=fun b hb=>by
 rw[o.top];unfold frs;rw[filterMap_cons,o.fr];exact mem_cons_of_mem _ hb
theorem Own.old(o:Own X):∀b ob,X.s₀.heap.get? b=some ob->b∈frs X.stack->b∈X.fs:=fun b ob q hb=>by
 rw[o.top]at hb;unfold frs at hb;rw[filterMap_cons,o.fr]at hb;rcases mem_cons.mp hb with rfl|hb
 ·exact absurd (lt_of_lt_of_le (Heap.lt_size q) o.ok.above) (lt_irrefl _)
 ·exact hb
theorem ExcAt.note{M:Model}{E':Value->Shared->Prop}{H':Hp}{e:Addr}{C:Value}{dd:Option Addr}{s':Shared}{Q:Unit->Shared->Prop}(o:Own X)(x:ExcAt X H' e C dd s')(h:∀s'',ExcAt X H' e C dd s''->(∃B,vf B X.stack e C dd X.env.locals s''.heap/\Cov X.s₀.heap X.H₀ (frs X.stack) X.ex H' B)->Q () s''):wpAny M X.A (noteFrame (.ref e) X.env) Q E' s':=by
 obtain⟨B,c,st⟩:=x.st;have fin:∀{h':Heap},vf B X.stack e C dd X.env.locals h'->UpS s'.heap h'->Q () {s' with heap:=h'}:=fun{h'} hh up=>by
  obtain⟨u,k⟩:=c.turn o.sub (kM st.frames) st.stays hh.1 up x.un x.hok o.old;exact h _ ⟨x.os,x.bare,u,k,x.fe,B,c,.held hh⟩ ⟨B,hh,c⟩
 have hfr:X.A.frames=some (X.env::X.outer):=by rw[<-o.top];exact o.ok.frames
 cases st with
 |made oe vs b1 b2 b3 he hc hdd hd h1 =>
  subst hc hdd;rw[o.top]at b2;exact fh hfr b2 o.fr he b1 b3 hd h1 fun h' hh up=>fin (by rw[o.top];exact hh) up
 |fly hf =>
  rw[o.top]at hf;exact aN hfr o.fr hf fun h' hh up=>fin (by rw[o.top];exact hh) up
 |held hh =>
  exact fc (fl:=.none) o.fr hh.2.2.2 (fin hh (UpS.same _))
theorem ExcAt.back{M:Model}{E':Value->Shared->Prop}{H':Hp}{e:Addr}{C:Value}{dd:Option Addr}{s':Shared}{Q:Unit->Shared->Prop}(o:Own X)(x:ExcAt X H' e C dd s')(hx:∃B,vf B X.stack e C dd X.env.locals s'.heap/\Cov X.s₀.heap X.H₀ (frs X.stack) X.ex H' B)(h:∀s'',ExcAt X H' e C dd s''->Q () s''):wpAny M X.A (do
   if(<-field (.ref e) 1)== .none then unsupported "frame.own-activation:exception-without-traceback"
   setFlight (.ref e) X.env.frame) Q E' s':=by
 obtain⟨B,⟨f1,f2,f3,f4⟩,c⟩:=hx;obtain⟨oe,vs,T,oT,ts,he,hcls,hd,h1,hnT,hTe,hT,hdT,h3⟩:=id f4;refine wpAny_bind (wpAny_field he hd h1 ?_);rw[if_neg (show ¬((Value.ref T==Value.none)=true)from by simp)];rw[o.fr];refine wX (some X.env.locals) f1 f3 f4 fun h' k1 k2 k3 up=>?_;obtain⟨u,k⟩:=c.turn o.sub (kM f3) f1 k1 up x.un x.hok o.old;exact h _ ⟨x.os,x.bare,u,k,x.fe,B,c,.held ⟨k1,f2,k2,k3⟩⟩
theorem XE.passes{E:XK}(o:Own X):PassesOwn (model X.prog X.w) X.A X.env (XE X E):=fun ev s' hx=>by
 obtain⟨e,C,dd,H',rfl,hE,x⟩:=hx;exact x.note o fun s'' x'' hh=>x''.back o hh fun s3 x3=>⟨e,C,dd,H',rfl,hE,x3⟩
theorem ExcAt.leave{M:Model}{E':Value->Shared->Prop}{H':Hp}{e:Addr}{C:Value}{dd:Option Addr}{s':Shared}{E:XK}(o:Own X)(hex:X.ex=[])(x:ExcAt X H' e C dd s')(hE:E C dd H') :
  wpAny M X.A (leaving X.env (.ref e)) (fun _ s''=>CX1 X.prog X.w X.outer X.H₀ X.s₀ E (.ref e) s'') E' s':=by
 unfold leaving;refine wpAny_bind (x.note o fun s2 x2 ⟨B,⟨f1,f2,f3,f4⟩,c⟩=>?_);refine wX none f1 f3 f4 fun h' k1 k2 k3 up=>?_;obtain⟨u,k⟩:=c.turn o.sub (kM f3) f1 k1 up x2.un x2.hok o.old;rw[hex]at u c;rw[o.top]at k2;obtain⟨_,_,k2⟩:=k2;exact⟨e,C,dd,H',rfl,hE,x2.os,x2.bare,u,k,x2.fe,B,⟨k1,f2,k2,k3⟩,c.trk,fun b ob q n hb hx=>c.old b ob q n (fun z=>hb (o.old b ob q z)) hx,fun b ob q hb hx=>c.all b ob q (fun z=>hb (o.old b ob q z)) hx⟩
theorem ExcAt.come{pins:List (Addr×Obj)}{σ:St}{H:Hp}{s:Shared}{E:XK}{ev:Value}{s':Shared}(o:Own X)(I:Inv X pins σ H s)(h:CX1 X.prog X.w X.stack H s E ev s') :
  ∃(e:Addr)(C:Value)(dd:Option Addr)(H':Hp),ev= .ref e/\E C dd H'/\ExcAt X H' e C dd s':=by
 obtain⟨e,C,dd,H',rfl,hE,hos,hb,un,hok,fe,B,hf,c⟩:=h;have neL:∀b ob,X.s₀.heap.get? b=some ob->b≠X.env.locals:=fun b ob q=>ne_of_lt (lt_of_lt_of_le (Heap.lt_size q) I.ok.above);refine⟨e,C,dd,H',rfl,hE,hos.trans I.os,hb,⟨fun b ob q n hb hx=>?_,fun b ob q n hb hx=>?_,fun b ob q n hx=>?_,fun b ob q hx=>?_,fun b xs q=>un.tups b xs (I.base.tups b xs q),fun b ob u q=>un.frzs b ob u (I.base.frzs b ob u q),fun b ps q=>?_⟩,hok,fe,B,⟨c.trk,fun b ob q n hb hx=>?_,fun b ob q hb hx=>?_⟩,.fly hf⟩
 ·refine un.keep b ob (I.base.keep b ob q n hb hx) (I.base.free b ob q n hx) (fun z=>?_) (by simp);exact hb (o.old b ob q z)
 ·obtain⟨sl,e1⟩:=I.base.slot b ob q n hb hx;obtain⟨sl',e2⟩:=un.any e1 (I.base.free b ob q n hx) (by simp);exact⟨sl',e2⟩
 ·obtain⟨o',e1⟩:=I.base.there b ob q hx;exact un.free b o' e1 (I.base.free b ob q n hx) (by simp)
 ·obtain⟨o',e1⟩:=I.base.there b ob q hx;exact un.there b o' e1 (by simp)
 ·obtain⟨m1,e1⟩:=I.base.tbls b ps q;obtain⟨m2,e2⟩:=un.tbls b _ e1;exact⟨m1++m2,by rw[e2,Array.append_assoc]⟩
 ·exact c.old b ob (I.base.keep b ob q n (fun z=>hb (o.sub b z)) hx) (I.base.free b ob q n hx) hb (by simp)
 ·obtain⟨o',e1⟩:=I.base.there b ob q hx;exact c.all b o' e1 hb (by simp)
end
theorem PSs.wished{X:Cx}{E:Value->Shared->Prop}{st:List Stmt}{t:TS}(h:PSs (X.wish E) st t)(hE:X.Ok-> ∀ev s',E ev s'->X.xe ev s'):PSs X st t:=fun pins s σ H D I hw =>
 wpAny_mono (h pins s σ H D (I.wish E) hw) (fun f s' q=>q.unwish) fun ev s' q=>hE I.ok ev s' q
section
variable{P:Program}{w:World}{K:W.Frag}{mg:Str->Option Value}{base:Heap}
theorem Fun.okE{x qual:Str}{st:Stmt}{f:Addr}{fd:FuncData}{N ps:List Str}{k:Nat}{sp:Sp}{cm:Bool}(F:Fun K x qual st f fd)(S:FnScope N ps (z7 st))(len:∀vs H Q E,sp vs H Q E->vs.length=ps.length)(hbody:∀(cdv:Value) (A:Around) (outer:List Env) (s:Shared) (H:Hp) (vs:List V) (Q:VK) (E:XK),Room k (A.deeper (envOfC qual (z7 st) s.heap.objs.size f cdv)) cm->sp vs H Q E->
   ∃t,PSs ((cxOf (CX1 P w) P w K mg base N qual (z7 st) f cdv A outer s H E cm).wish (XE (cxOf (CX1 P w) P w K mg base N qual (z7 st) f cdv A outer s H E cm) E)) (j8 st) t/\t {nx:=fun _ H'=>Q .non H',rt:=Q} (mF N vs) H):FnOk P w K mg base (CX1 P w) (k+1) f fd ps sp cm:=by
 obtain⟨oc,od,kV,doc,pm,an,cdv,ct,osl,rfl,lk,hcd⟩:=F.ex;refine Yz lk hcd S len fun A outer s H vs Q E hr hsp=>?_;obtain⟨t,h,q⟩:=hbody cdv A outer s H vs Q E hr hsp;refine⟨t,h.wished fun ok ev s' hx=>?_,q⟩;obtain⟨e,C,dd,H',rfl,hE,x⟩:=hx;exact ExcAt.leave (X:=cxOf (CX1 P w) P w K mg base N qual (z7 st) f cdv A outer s H E cm) ⟨ok,rfl,rfl⟩ rfl x hE
end
theorem Jn{X:Cx}{E E':XK}(top:X.stack=X.env::X.outer)(fr:X.env.frame=some X.env.locals)(h:∀C dd H',E' C dd H'->E C dd H'):jE (CX1 X.prog X.w) (X.wish (XE X E)) E':=fun pins σ H s e s' I hx=>by
 obtain⟨e,C,dd,H',rfl,hE,x⟩:=ExcAt.come (X:=X) ⟨I.unwish.ok,top,fr⟩ I.unwish hx;exact⟨e,C,dd,H',rfl,h C dd H' hE,x⟩
theorem own1{X:Cx}{E:XK}(top:X.stack=X.env::X.outer)(fr:X.env.frame=some X.env.locals)(ok:X.Ok):PassesOwn (model (X.wish (XE X E)).prog (X.wish (XE X E)).w) (X.wish (XE X E)).A (X.wish (XE X E)).env (X.wish (XE X E)).xe:=XE.passes (X:=X) ⟨ok,top,fr⟩
theorem zS.some{P:Program}{w:World}{H:Hp}{h:Heap}{a:Addr}{o:HO}(x:zS P w H h a o):∃ob,h.get? a=some ob:=by
 induction o with
 |lst xs=>obtain⟨_,_,_,_,e⟩:=x;exact⟨_,e⟩
 |tup xs=>obtain⟨_,_,_,⟨ob,e,_⟩,_⟩:=x;exact⟨_,e⟩
 |dK kvs=>obtain⟨_,_,_,_,o,_,_,e,_⟩:=x;exact⟨_,e⟩
 |dT kvs=>obtain⟨_,_,_,_,o,_,_,e,_⟩:=x;exact⟨_,e⟩
 |set S n=>obtain⟨ob,_,_,_,e,_⟩:=x;exact⟨_,e⟩
 |ins C dx fs=>obtain⟨_,_,_,e,_⟩:=x;exact⟨_,e⟩
 |own y=>exact x
 |xd fs=>obtain⟨_,⟨ob,_,_,e,_⟩,_⟩:=x;exact⟨_,e⟩
 |rng lo hi=>obtain⟨_,_,_,e⟩:=x;exact⟨_,e⟩
 |frz ob u _=>exact⟨_,x.1⟩
 |tbl ps=>exact⟨_,x⟩
 |met f y=>exact⟨_,x⟩
 |ext φ=>exact x.2.1
theorem ExcAt.made{X:Cx}{pins:List (Addr×Obj)}{σ:St}{H:Hp}{s:Shared}{h':Heap}{e:Addr}{C:Value}{args:List Value}(I:Inv X pins σ H s)(m:Heap.MadeExcOf s.heap h' e C args):ExcAt X H e C none {s with heap:=h'}:=by
 obtain⟨t,he,htn,ht⟩:=m.there;have k:∀b ob,s.heap.get? b=some ob->h'.get? b=some ob:=m.keeps;have hnone:H e=none:=by
  cases q:H e with
  |none=>rfl
  |some u =>
   obtain⟨ob,e1⟩:=(I.hok e u q).some;rw[m.new]at e1;cases e1
 have sub:∀b,b∉frs X.stack->b∉X.fs:=fun b hb z=>by
  rcases I.ok.stk with e|⟨e,hf⟩
  ·rw[e]at hb;exact hb z
  ·rw[e]at hb;unfold frs at hb;rw[filterMap_cons,hf]at hb;exact hb (mem_cons_of_mem _ z)
 refine⟨I.os,I.bare,I.base.trans (Un.kept k),I.hok.kept k,hnone,W.hideAll s.heap (frs X.stack),⟨fun b u q=>?_,fun b ob q n hb hx=>?_,fun b ob q hb hx=>?_⟩,?_⟩
 ·obtain⟨ob,e1⟩:=(I.hok b u q).some;exact⟨ob,W.hideAll_get _ e1 fun z=>by rw[I.stkFree b z]at q;cases q⟩
 ·exact W.hideAll_get _ (I.base.keep b ob q n (sub b hb) hx) hb
 ·obtain⟨o',e1⟩:=I.base.there b ob q hx;exact⟨o',W.hideAll_get _ e1 hb⟩
 ·refine .made _ _ (fun b ob q=>k b ob (W.of_hideAll _ q)) ?_ ?_ he rfl rfl rfl rfl
  ·refine(W.funFrames_hide I.stack fun env hm a ha=>List.mem_filterMap.mpr ⟨env,hm,ha⟩).of_keeps fun b ob q _=>⟨ob,k b ob q,rfl⟩
  ·cases q:(W.hideAll s.heap (frs X.stack)).get? e with
   |none=>rfl
   |some ob=>have:=W.of_hideAll _ q;rw[m.new]at this;cases this
def bmV:List Value:=[.type "ValueError",.type "Exception",.type "BaseException",.type "object"]
structure ExcC(K:W.Frag)(C:Addr):Prop where
 inn:W.excIn K C bmV "ValueError.__new__"=true
 kp:W.keepIn K (.ref C)=true
theorem ExcC.obj{K:W.Frag}{C:Addr}{h:Heap}(c:ExcC K C)(X:K.In h):∃(bm:List Value)(N:Addr)(nm q:Str)(bs:List Value)(hdct:Bool)(sn:List Str)(sub:List Value)(ab:Bool)(col:Option Bool)(dd:Option Addr)(k0 k1 k2 k3 k5:Option Value)(mN:Str->Option Value),
  h.get? C=some (excClassObj nm q C N bs bm hdct sn sub ab col dd k0 k1 k2 k3 k5 "ValueError.__new__")/\h.Ns N mN/\mN "__init__"=none/\OwnTail h bmV bm/\K.lookup C=some (excClassObj nm q C N bs bm hdct sn sub ab col dd k0 k1 k2 k3 k5 "ValueError.__new__"):=by
 have q:=c.inn;unfold W.excIn at q;split at q
 ·rename_i dd cd sl ho;split at q
  ·rename_i C' bm k0 k1 k2 k3 n k5 hm hs;simp only[and_eq_true,beq_iff_eq,Bool.not_eq_true']at q;obtain⟨⟨⟨⟨⟨rfl,rfl⟩,hdel⟩,ht⟩,hok⟩,hni⟩:=q;obtain⟨nm,bs,mro,ns,qn,hd,sn,sub,ab,col,del⟩:=cd;dsimp only at hm hdel hok hni;subst hm hdel;have hsl:sl= #[k0,k1,k2,k3,some (.builtin "ValueError.__new__"),k5]:=by
    obtain⟨l⟩:=sl;simp only at hs;rw[hs]
   subst hsl;exact⟨bm,ns,nm,qn,bs,hd,sn,sub,ab,col,dd,k0,k1,k2,k3,k5,_,X _ _ ho,.of_isNs (W.isNs_of_in X hok),W.nsMap_none_of_in X hok hni,W.tail_of_in X ht,ho⟩
  ·cases q
 ·cases q
def Kx(C:Addr)(E:XK)(ta:TA):TS:=fun _ σ H=>ta σ H fun vs H1=>vs.length<=sizeLine/\E (.ref C) none H1
theorem kh{X:Cx}{E:XK}{C:Addr}{x:Str}{a:Expr}{args:List Expr}{np cpos pos:Pos}{ta:TA}(hc:X.calm=true)(c:ExcC X.K C)(hg:Gl (X.wish (XE X E)) x)(hm:X.mg x=some (.ref C))(ha:PA (X.wish (XE X E)) (a::args) ta)(hd:(x==("__debug__" : Str))=false:=by decide)(he:starEach (a::args) X.env=(false,eval a X.env)::starEach args X.env:=by rfl)(hplain:(backTo cpos (starEach args X.env)).any (·.1)=false:=by rfl) :
  PS (X.wish (XE X E)) (.Raise (some (.Call (.Name x np) (a::args) [] cpos)) none pos) (Kx C E ta):=by
 intro pins s σ H D I hw;obtain⟨bm,N,nm,q,bs,hdct,sn,sub,ab,col,dd,k0,k1,k2,k3,k5,mN,hC,hn,hni,hT,hlk⟩:=c.obj I.ok.mod.kin;have hpl:(backTo cpos (starEach (a::args) X.env)).any (·.1)=false:=by
  rw[he];show(false||(backTo cpos (starEach args X.env)).any (·.1))=false;rw[hplain];rfl
 refine wpAny_Raise_call_subU (C:=C) (mN:=mN) (nm:=nm) (q:=q) (N:=N) (bs:=bs) (hdct:=hdct) (sn:=sn) (sub:=sub) (ab:=ab) (col:=col) (dd:=dd) (k0:=k0) (k1:=k1) (k2:=k2) (k3:=k3) (k5:=k5) (bmB:=bmV) PySem.F.excBase_ValueError (by decide) PySem.F.excBase_ValueError (hT.hasType (by decide)) (I.ok.hd hc) hpl hni ?_;refine vq I hg hm ⟨rfl,?_⟩ hd;have hA:=ha cpos pins s σ H _ I hw;rw[show(X.wish (XE X E)).env=X.env from rfl,he]at hA;rw[he];refine Calls.evalArgs_plain (thn hA fun us s1 ⟨vs,H1,I1,r,hl,hE⟩=>?_);have kb:∀b ob,X.base.get? b=some ob->s1.heap.get? b=some ob:=I1.bk;exact⟨rfl,by rw[<-r.length];exact hl,kb _ _ hC,hn.keeps kb,hT.keeps kb,fun h' e m=>⟨e,.ref C,none,H1,rfl,hE,ExcAt.made I1.unwish m⟩⟩
structure Lnd(X:Cx)(s:Shared)(H H':Hp)(e:Addr)(C:Value)(dd:Option Addr)(s3:Shared):Prop where
 os:s3.os=s.os
 bare:AllBare s3.gens
 un:Un (frs X.stack) [] H H' s.heap s3.heap
 hok:HOk X.prog X.w H' s3.heap
 fe:H' e=none
 st:∃B,FlyD B X.stack e C dd s3.heap/\Cov s.heap H (frs X.stack) [] H' B
def KP(e:Addr)(C:Value)(h:Heap):Prop:=∃ oe vs,h.get? e=some oe/\oe.cls=C/\oe.data= .fields vs
section
variable{X:Cx}{pins:List (Addr×Obj)}{σ:St}{H H':Hp}{s s3:Shared}{e:Addr}{C:Value}{dd:Option Addr}
theorem Lnd.inv(I:Inv X pins σ H s)(l:Lnd X s H H' e C dd s3):Inv X pins σ H' s3:=I.call' l.os l.un l.hok l.bare (fun b z=>nomatch z)
theorem CX1.lands{M:Model}{E:XK}{E':Value->Shared->Prop}{ev:Value}{s':Shared}{Q:Unit->Shared->Prop}(hfr:X.A.frames=some (X.env::X.outer))(top:X.stack=X.env::X.outer)(fr:X.env.frame=some X.env.locals)(h:CX1 X.prog X.w X.stack H s E ev s')(hQ:∀e C dd H' s3,ev= .ref e->E C dd H'->Lnd X s H H' e C dd s3->Q () s3):wpAny M X.A (noteFrame ev X.env) (fun _ s2=>wpAny M X.A (setFlight ev none) Q E' s2) E' s':=by
 obtain⟨e,C,dd,H',rfl,hE,hos,hb,un,hok,fe,B,hf,c⟩:=h;have hf':=hf;rw[top]at hf;refine aN hfr fr hf fun h2 hh up=>?_;obtain⟨f1,f2,f3,f4⟩:=hh;refine wX none f1 f3 f4 fun h3 k1 k2 k3 up3=>?_;obtain⟨u,k⟩:=c.turn (P:=X.prog) (w:=X.w) (fs:=frs X.stack) (fun _ z=>z) (kM hf'.2.2.1) hf.1 k1 (up.trans up3) un hok (fun _ _ _ z=>z);rw[<-top]at k2;exact hQ e C dd H' _ rfl hE ⟨hos,hb,u,k,fe,B,⟨k1,f2,k2,k3⟩,c⟩
theorem Lnd.again{M:Model}{A:Around}{E':Value->Shared->Prop}{Q:Unit->Shared->Prop}(l:Lnd X s H H' e C dd s3)(hQ:∀s4,Lnd X s H H' e C dd s4->Q () s4):wpAny M A (setFlight (.ref e) none) Q E' s3:=by
 obtain⟨B,⟨f1,f2,f3,f4⟩,c⟩:=l.st;refine wX none f1 f3 f4 fun h' k1 k2 k3 k4=>?_;obtain⟨u,k⟩:=c.turn (P:=X.prog) (w:=X.w) (fs:=frs X.stack) (fun _ z=>z) (kM f3) f1 k1 k4 l.un l.hok (fun _ _ _ z=>z);exact hQ _ ⟨l.os,l.bare,u,k,l.fe,B,⟨k1,f2,k2,k3⟩,c⟩
theorem Lnd.obj(l:Lnd X s H H' e C dd s3):KP e C s3.heap:=by
 obtain⟨B,⟨f1,f2,f3,oe,vs,T,oT,ts,he,hc,hd,_⟩,c⟩:=l.st;exact⟨oe,vs,he,hc.1,hd⟩
theorem Lnd.new(l:Lnd X s H H' e C dd s3):s.heap.get? e=none:=by
 obtain⟨oe,vs,he,hc,hd⟩:=l.obj;obtain⟨B,⟨f1,f2,f3,f4⟩,c⟩:=l.st;cases q:s.heap.get? e with
 |none=>rfl
 |some o =>
  by_cases hm:e∈frs X.stack
  ·obtain⟨o1,e1,nf⟩:=kM f3 e hm;rw[he]at e1;cases e1;exact absurd hd (nf vs)
  ·obtain⟨o',e'⟩:=c.all e o q hm (by simp);rw[f2]at e';cases e'
def vS(e:Addr)(C:Value)(dd:Option Addr)(h:Heap):Prop:=∃ oe vs,h.get? e=some oe/\oe.cls=C/\oe.dict=dd/\oe.data= .fields vs
theorem Lnd.objD(l:Lnd X s H H' e C dd s3):vS e C dd s3.heap:=by
 obtain⟨B,⟨f1,f2,f3,oe,vs,T,oT,ts,he,hc,hd,_⟩,c⟩:=l.st;exact⟨oe,vs,he,hc.1,hc.2,hd⟩
theorem Lnd.track(I:Inv X pins σ H s)(l:Lnd X s H H' e C dd s3){φ:Heap->Prop}(hφ:φ s3.heap)(mono:∀h h',φ h->(∀o,h.get? e=some o->h'.get? e=some o)-> φ h'):Inv X pins σ (upd H' e (.ext φ)) s3:=by
 have hnew:=l.new;have ne:∀b u,H b=some u->b≠e:=fun b u q z=>by
  obtain⟨o,ho⟩:=(I.hok b u q).some;rw[z,hnew]at ho;cases ho
 have ne':∀b o,s.heap.get? b=some o->b≠e:=fun b o q z=>by rw[z,hnew]at q;cases q
 have hn:∀b u,H' b=some u->b≠e:=fun b u q z=>by rw[z,l.fe]at q;cases q
 refine I.call' l.os ⟨l.un.keep,l.un.slot,fun b o q n hx=>?_,l.un.there,fun b xs q=>?_,fun b o u q=>?_,fun b ps q=>?_⟩ (fun b u q=>?_) l.bare (fun b z=>nomatch z)
 ·rw[zh (ne' b o q)];exact l.un.free b o q n hx
 ·rw[zh (ne b _ q)];exact l.un.tups b xs q
 ·rw[zh (ne b _ q)];exact l.un.frzs b o u q
 ·rw[zh (ne b _ q)];exact l.un.tbls b ps q
 ·by_cases hb:b=e
  ·subst hb;rw[z6]at q;cases q;obtain⟨oe,vs,he,hc,hd⟩:=l.obj;exact⟨hφ,⟨oe,he⟩,mono⟩
  ·rw[zh hb]at q;exact(l.hok b u q).stay (fun _ _ _ q=>q) (fun c q=>by rw[zh (hn c _ q)];exact q) fun c xs q=>by rw[zh (hn c _ q)];exact q
theorem Lnd.trackedD(I:Inv X pins σ H s)(l:Lnd X s H H' e C dd s3):Inv X pins σ (upd H' e (.ext (vS e C dd))) s3:=l.track I l.objD fun h h' ⟨oe,vs,he,hc,h1,hd⟩ k=>⟨oe,vs,k oe he,hc,h1,hd⟩
end
abbrev Cx.inH(X:Cx)(e:Addr):Cx:={X with A:=X.A.mark (some (.ref e)),calm:=false}
section
variable{X:Cx}{pins:List (Addr×Obj)}{σ:St}{H:Hp}{s:Shared}{e:Addr}
theorem Cx.Ok.inH(ok:X.Ok)(hfr:(X.A.mark (some (.ref e))).frames=X.A.frames:=by rfl):(X.inH e).Ok :=
 ⟨ok.mod,ok.kind,ok.glob,ok.blt,ok.above,ok.inj,ok.has,ok.cab,(fun z=>nomatch z),hfr.trans ok.frames,ok.stk,ok.exf,ok.bs,ok.bsz,ok.noex,ok.exfs,ok.funs,ok.frf⟩
theorem Inv.inH(I:Inv X pins σ H s):Inv (X.inH e) pins σ H s:=⟨I.ok.inH,I.os,I.bare,I.base,I.loc,I.cell,I.free,I.freeC,I.pin,I.hok,I.len⟩
theorem Inv.ofH(ok:X.Ok)(I:Inv (X.inH e) pins σ H s):Inv X pins σ H s:=⟨ok,I.os,I.bare,I.base,I.loc,I.cell,I.free,I.freeC,I.pin,I.hok,I.len⟩
theorem goes{M:Model}{A:Around}{E:Value->Shared->Prop}{i:Nat}{n:Str}{pos:Pos}{Q:Unit->Shared->Prop}(I:Inv X pins σ H s)(hN:X.N.Nodup)(hi:X.N[i]? =some n)(hk:X.env.scope.names.lookup n=some .local)(h:∀s',Inv X pins (σ.set i none) H s'->Q () s'):wpAny M A (do bindName X.env n .none;unbindBehindTheSuite X.env n pos) Q E s:=by
 obtain⟨m,hn,hl⟩:=id I.loc;have hcls:(X.env.scope.kind== .class||(X.env.scope.kind== .module&&X.env.locals !=X.env.globals))=false:=by rw[I.ok.kind];rfl
 have hiσ:i< σ.length:=by rw[I.len];exact(List.getElem?_eq_some_iff.mp hi).1
 have cne:=I.cne;refine wpAny_nameGoes_keeps hk hn hcls fun h' v hn' hs=>?_;obtain⟨oL,_,_,hoL,_⟩:=id hn;refine h _ ⟨I.ok,I.os,I.bare,⟨fun b o e n hb hx=>?_,fun b o e n hb hx=>?_,I.base.free,fun b o e hx=>?_,I.base.tups,I.base.frzs,I.base.tbls⟩,⟨_,hn',fun j y v' e1 e2 e3=>?_⟩,fun y c e=>?_,I.free,I.freeC,fun p hp=>?_,fun b ob e=>?_,by simpa using I.len⟩
 ·exact(hs.2 b (ne_of_lt (lt_of_lt_of_le (Heap.lt_size e) I.ok.above))).trans (I.base.keep b o e n hb hx)
 ·obtain⟨sl,e1⟩:=I.base.slot b o e n hb hx;exact⟨sl,(hs.2 b (ne_of_lt (lt_of_lt_of_le (Heap.lt_size e) I.ok.above))).trans e1⟩
 ·obtain⟨o',e1⟩:=I.base.there b o e hx;exact⟨o',(hs.2 b (ne_of_lt (lt_of_lt_of_le (Heap.lt_size e) I.ok.above))).trans e1⟩
 ·by_cases hj:j=i
  ·subst hj;rw[List.getElem?_set_self hiσ]at e2;cases e2
  ·rw[List.getElem?_set_ne (Ne.symm hj)]at e2;obtain⟨u',r',q⟩:=hl j y v' e1 e2 e3;refine⟨u',r',?_⟩;rcases q with⟨k,e⟩|⟨k,c,e,z⟩
   ·refine .inl ⟨k,?_⟩;have:y≠n:=fun e=>hj (tS hN e1 (e▸hi));simp[this,e]
   ·exact .inr ⟨k,c,e,z.sameBut hs (cne y c e)⟩
 ·obtain⟨w',z⟩:=I.cell y c e;exact⟨w',z.sameBut hs (cne y c e)⟩
 ·obtain⟨e,n,ne,nf,d⟩:=I.pin p hp;exact⟨(hs.2 p.1 ne).trans e,n,ne,nf,d⟩
 ·refine(I.hok b ob e).stay (fun c w' hc q=>(hs.2 c ?_).trans q) (fun _ q=>q) fun _ _ q=>q;rintro rfl;rcases hc with rfl|hc
  ·rw[I.free]at e;cases e
  ·rw[I.free]at hc;cases hc
end
end L2
namespace L2
open PySem PySem.Spec PyProof.Rows PySem.W PySem.Calls PySem.Builtin PySem.Builtin.ObjectAttr PySem.Builtin.Getset_descriptor
structure ClsE(K:Frag)(D:Addr):Prop where
 ga:findIn K (.ref D) "__getattribute__"=some (some (.builtin "BaseException.__getattribute__"))
 gn:findIn K (.ref D) "__getattr__"=some none
 fd:findIn K (.ref D) "__class__"=some (some (.builtin "object.__class__"))
 sp:specialIn K (.builtin "object.__class__") "__get__"=some (some (.builtin "getset_descriptor.__get__"))
 tk:takesIn K (.builtin "object.__class__")=some true
 ob:mroIn K D (.type "object")=some true
 be:mroIn K D (.type "BaseException")=some true
theorem bV{M:Model}{A:Around}{E:Value->Shared->Prop}{nm q nm' q':Str}{C N S N':Addr}{bs bm bs' bm':List Value}{hdct hdct':Bool}{sn sn':List Str}{sub sub':List Value}{ab ab':Bool}{col col':Option Bool}{dd dd':Option Addr}{k0 k1 k2 k3 k5 k0' k1' k2' k3' k5':Option Value}{newId newId':String}{h:Heap}{g:Array GenState}{d:Drawn}{t:Nat}{os:OsState}{e:Addr}{oe:Obj}{Q:Bool->Shared->Prop}(hC:h.get? C=some (excClassObj nm q C N bs bm hdct sn sub ab col dd k0 k1 k2 k3 k5 newId))(hS:h.get? S=some (excClassObj nm' q' S N' bs' bm' hdct' sn' sub' ab' col' dd' k0' k1' k2' k3' k5' newId'))(he:h.get? e=some oe)(hcls:oe.cls= .ref C)(hb:bm'.contains (.type "BaseException")=true)(hm:(Value.ref C::bm).contains (.ref S)=true)(hq:Q true ⟨h,g,d,t,os⟩):wpAny M A (excMatches (.ref e) (.ref S)) Q E ⟨h,g,d,t,os⟩:=by
 have hB:(Value.ref S::bm').contains (.type "BaseException")=true:=by rw[List.contains_cons,hb,Bool.or_true]
 have f:=tc_notTuple;unfold excMatches
 repeat (first|(with_reducible refine wpAny_loadPart_at he ?_;rw[hcls])|with_reducible refine wpAny_loadPart_at hS ?_|(with_reducible refine wpAny_isSubtype_exc hS ?_;rw[hB])|(with_reducible refine wpAny_isSubtype_exc hC ?_;rw[hm])|wp_step)
 exact hq
end L2
namespace L2
open PySem PySem.Spec PyProof.Rows PySem.W
abbrev TX:=St->Hp->VK->XK->Prop
def PX(X:Cx)(e:Expr)(t:TX):Prop:=∀(pins:List (Addr×Obj))(s:Shared)(σ:St)(H:Hp)(Q:VK)(E:XK),Inv X pins σ H s->t σ H Q E->
 wpAny (model X.prog X.w) X.A (eval e X.env) (EP X pins σ Q) (fun ev s'=>∃ H1 s1,Inv X pins σ H1 s1/\CX1 X.prog X.w X.stack H1 s1 E ev s') s
def IsXC(K:Frag)(c:Addr)(bm:List Value):Prop:=∃(nm q:Str)(N:Addr)(bs:List Value)(hdct:Bool)(sn:List Str)(sub:List Value)(ab:Bool)(col:Option Bool)(dd:Option Addr)(k0 k1 k2 k3 k5:Option Value)(newId:String),
 K.lookup c=some (excClassObj nm q c N bs bm hdct sn sub ab col dd k0 k1 k2 k3 k5 newId)
structure Takes(K:Frag)(c S:Addr):Prop where
 ex:∃bm bm',IsXC K c bm/\IsXC K S bm'/\bm'.contains (.type "BaseException")=true/\(Value.ref c::bm).contains (.ref S)=true
theorem Kh{X:Cx}{st:Stmt}{t:TS}(h:X.Ok->PS X st t):PS X st t:=fun pins s σ H D I hw=>h I.ok pins s σ H D I hw
theorem Kd{X:Cx}{P:Program}{w:World}:jE (CX1 P w) X E0:=fun _ _ _ _ _ _ _ ⟨_,_,_,_,_,h,_⟩=>h.elim
theorem ownE{X:Cx}{E:XK}(ok:(X.wish (XE X E)).Ok)(top:X.stack=X.env::X.outer:=by rfl)(fr:X.env.frame=some X.env.locals:=by rfl):PassesOwn (model (X.wish (XE X E)).prog (X.wish (XE X E)).w) (X.wish (XE X E)).A (X.wish (XE X E)).env (X.wish (XE X E)).xe:=own1 top fr ok.unwish
theorem gC{X:Cx}{E:XK}(top:X.stack=X.env::X.outer:=by rfl)(fr:X.env.frame=some X.env.locals:=by rfl):jE (CX1 X.prog X.w) (X.wish (XE X E)) E:=Jn top fr fun _ _ _ h=>h
end L2
namespace L2
open PySem PySem.Spec PyProof.Rows
def xY:Bool->String
 |true => "tuple_iterator"
 |false => "list_iterator"
def j5(k:Bool)(h:Heap)(it l:Addr)(i:Nat):Prop:=∃ o,h.get? it=some o/\o.cls= .type (xY k)/\o.data= .fields #[.ref l,.int i 0]
def kJ(k:Bool)(h:Heap)(l:Addr)(items:Array Value):Prop :=
 match k with
 |true=>h.IsTuple l items
 |false=>h.IsList l items
theorem j5.kept{k:Bool}{h h':Heap}{it l:Addr}{i:Nat}(x:j5 k h it l i)(f:∀o,h.get? it=some o->h'.get? it=some o):j5 k h' it l i :=
 let⟨o,e,r⟩:=x;⟨o,f o e,r⟩
theorem j5.lt{k:Bool}{h:Heap}{it l:Addr}{i:Nat}(x:j5 k h it l i):it<h.objs.size:=let⟨_,e,_⟩:=x;Heap.lt_size e
theorem kJ.kept{k:Bool}{h h':Heap}{l:Addr}{items:Array Value}(x:kJ k h l items)(f:∀o,h.get? l=some o->h'.get? l=some o):kJ k h' l items:=by
 cases k
 ·obtain⟨o,e,r⟩:=x;exact⟨o,f o e,r⟩
 ·obtain⟨o,e,r⟩:=x;exact⟨o,f o e,r⟩
theorem kJ.lt{k:Bool}{h:Heap}{l:Addr}{items:Array Value}(x:kJ k h l items):l<h.objs.size:=by
 cases k
 ·obtain⟨o,e,_⟩:=x;exact Heap.lt_size e
 ·obtain⟨o,e,_⟩:=x;exact Heap.lt_size e
section
variable{prog:Program}{w:World}{A:Around}{E:Value->Shared->Prop}{s:Shared}
theorem rf{it l:Addr}{i:Nat}{items:Array Value}{Q:Value->Shared->Prop}(hit:s.heap.IsTupleIter it l i)(ht:s.heap.IsTuple l items)(h:match items[i]? with
   |some x=>∀ h',h'.IsTupleIter it l (i+1)->Heap.SameBut it s.heap h'->Q x {s with heap:=h'}
   |none=>A.handled=none/\ ∀h' e,Heap.ExtBut it s.heap h'->(∃o,h'.get? e=some o/\o.cls= .type "StopIteration")->E (.ref e) {s with heap:=h'}) :
  wpAny (model prog w) A (Builtin.SmallTypes.nextOf (.ref it)) Q E s:=by
 obtain⟨oi,e1,c1,d1⟩:=id hit;obtain⟨ot,e2,_,m2,d2⟩:=ht;unfold Builtin.SmallTypes.nextOf;refine wpAny_bind (wpAny_callSpecial?_slot (name:=Str.ofString "__next__") hit.typeIs F.slot_tuple_iterator_next (wpAny_call_entry F.slot_tuple_iterator_next hit.typeIs F.entry_tuple_iterator_next ?_ (F.args_tuple_iterator_next_1 _)));show wpAny _ _ (field (.ref it) 0 >>= _) _ _ s;refine wpAny_bind (wpAny_field e1 d1 (x:=.ref l) rfl ?_);show wpAny _ _ (if(Value.ref l==Value.none)=true then _ else _) _ _ s;rw[if_neg (show ¬((Value.ref l==Value.none)=true)from Bool.false_ne_true)];show wpAny _ _ (field (.ref it) 1 >>= _) _ _ s;refine wpAny_bind (wpAny_field e1 d1 (x:=.int i 0) rfl ?_);show wpAny _ _ (seqItems? (.ref l) >>= _) _ _ s;refine wpAny_bind (wpAny_seqItems e2 d2 ?_);cases hx:items[i]? with
 |some x =>
  rw[hx]at h;simp only[toNat_natCast,hx];refine wpAny_bind (wpAny_setField e1 d1 (by simp) (wpAny_pure ⟨x,rfl,wpAny_pure (h _ ?_ (Heap.SameBut.update ..))⟩));refine⟨_,Heap.get?_update_self _ e1 (Obj.isFreed_of_fields (Obj.data_mapFields d1 _)),(Obj.cls_mapFields ..).trans c1,?_⟩;rw[Obj.data_mapFields d1];simp[rawInt]
 |none =>
  rw[hx]at h;obtain⟨hh,h⟩:=h;simp only[toNat_natCast,hx];refine wpAny_bind (wpAny_rule (wpAny_bind (wpAny_setField e1 d1 (by simp) ?_)));show wpAny _ _ (newExc (.type "StopIteration") [] >>= _) _ _ _;refine wpAny_bind ?_;simp only[newExc,newTuple];refine wpAny_bind (wpAny_newObj_type ?_ (by size_fits));refine wpAny_bind (m:=firstArgMember _ _) (wpAny_of_eq (a:=Value.none) (by first|rfl|(simp only[firstArgMember];rfl)) ?_);refine wpAny_newObj_type ?_ (by size_fits);simp only[raiseNew];refine wpAny_bind (wpAny_handled ?_)
  first|rw[show A.in1.handled=none from hh]|rw[hh]
  exact wpAny_bind (wpAny_pure (wpAny_throw (h _ _ (((Heap.SameBut.update ..).extBut.push _).push _) ⟨_,Heap.get?_push_size _ rfl,rfl⟩)))
theorem oY{k:Bool}{it l:Addr}{i:Nat}{items:Array Value}{x:Value}{Q:Value->Shared->Prop}(hit:j5 k s.heap it l i)(hl:kJ k s.heap l items)(hx:items[i]? =some x)(hQ:∀h',j5 k h' it l (i+1)->Heap.SameBut it s.heap h'->Q x {s with heap:=h'}):wpAny (model prog w) A (Builtin.SmallTypes.nextOf (.ref it)) Q E s:=by
 cases k
 ·exact wpAny_nextOf_list_item hit hl hx hQ
 ·exact rf hit hl (by rw[hx];exact hQ)
theorem endS{k:Bool}{it l:Addr}{i:Nat}{items:Array Value}{Q:Value->Shared->Prop}(hh:A.handled=none)(hit:j5 k s.heap it l i)(hl:kJ k s.heap l items)(hx:items[i]? =none)(hE:∀h' e,Heap.ExtBut it s.heap h'->(∃o,h'.get? e=some o/\o.cls= .type "StopIteration")->E (.ref e) {s with heap:=h'}):wpAny (model prog w) A (Builtin.SmallTypes.nextOf (.ref it)) Q E s:=by
 cases k
 ·exact wpAny_nextOf_list_end hh hit hl hx hE
 ·exact rf hit hl (by rw[hx];exact⟨hh,hE⟩)
theorem nH{k:Bool}{l:Addr}{items:Array Value}{Q:Value->Shared->Prop}(hl:kJ k s.heap l items)(hQ:Q (.ref s.heap.objs.size) {s with heap:=s.heap.push {cls:=.type (xY k),data:=.fields #[.ref l,.int 0 0]}}):wpAny (model prog w) A (pyIter (.ref l)) Q E s:=by
 cases k
 ·exact wpAny_pyIter_list hl hQ
 ·exact wpAny_pyIter_tuple hl hQ
structure ZipAt(k1 k2:Bool)(h:Heap)(z TI TO i1 i2 l1 l2:Addr)(f0:Value)(j1 j2:Nat):Prop where
 zz:IsZip h z TI TO f0
 ti:IsPair h TI (.ref i1) (.ref i2)
 tO:∃a b,IsPair h TO a b
 a1:j5 k1 h i1 l1 j1
 a2:j5 k2 h i2 l2 j2
theorem ZipAt.kept{k1 k2:Bool}{h h':Heap}{z TI TO i1 i2 l1 l2:Addr}{f0:Value}{j1 j2:Nat}(x:ZipAt k1 k2 h z TI TO i1 i2 l1 l2 f0 j1 j2)(f:∀b∈[z,TI,TO,i1,i2],∀o,h.get? b=some o->h'.get? b=some o) :
  ZipAt k1 k2 h' z TI TO i1 i2 l1 l2 f0 j1 j2:=by
 obtain⟨a,b,⟨c,d,e⟩,p,q⟩:=x;exact⟨f z (by simp) _ a,f TI (by simp) _ b,⟨c,d,f TO (by simp) _ e⟩,p.kept (f i1 (by simp)),q.kept (f i2 (by simp))⟩
theorem Ze{k1 k2:Bool}{z TI TO i1 i2 l1 l2:Addr}{j1 j2:Nat}{xs ys:Array Value}{x y:Value}{Q:Value->Shared->Prop}(D:ZipApart z TI TO i1 i2 l1 l2)(Z:ZipAt k1 k2 s.heap z TI TO i1 i2 l1 l2 .none j1 j2)(b1:kJ k1 s.heap l1 xs)(b2:kJ k2 s.heap l2 ys)(hx:xs[j1]? =some x)(hy:ys[j2]? =some y)(hQ:∀h',ZipAt k1 k2 h' z TI TO i1 i2 l1 l2 (rawInt s.heap.objs.size) (j1+1) (j2+1)->IsPair h' s.heap.objs.size x y->(∀c o,c∉[z,TO,i1,i2]->s.heap.get? c=some o->h'.get? c=some o)->Q (.ref s.heap.objs.size) {s with heap:=h'}) :
  wpAny (model prog w) A (Builtin.«zip.__next__» ⟨[.ref z],[]⟩) (fun fin s'=>∃ v,fin= .done (.ret v)/\Q v s') E s:=by
 obtain⟨g0,g1,⟨oa,ob,g2⟩,p1,p2⟩:=Z;show wpAny _ _ (field (.ref z) 2 >>= _) _ _ _;refine wpAny_bind (wpAny_field g0 rfl (x:=.bool false) rfl ?_);show wpAny _ _ (field (.ref z) 3 >>= _) _ _ _;refine wpAny_bind (wpAny_field g0 rfl (x:=.ref TI) rfl ?_);refine wpAny_bind (wpAny_seqItems g1 rfl ?_);show wpAny _ _ (Builtin.SmallTypes.ownedTupleIsFree (.ref z) >>= _) _ _ _;refine wpAny_bind ?_;unfold Builtin.SmallTypes.ownedTupleIsFree;refine wpAny_bind (wpAny_field g0 rfl (x:=.none) rfl (wpAny_pure ?_));simp only[if_true];refine wpAny_bind (wpAny_rule ?_);refine wpAny_bind (wpAny_field g0 rfl (x:=.ref TO) rfl ?_);refine wpAny_bind (wpAny_setField_rec g0 (by simp) fun ha za sa=>?_)
 replace za:IsZip ha z TI TO .ellipsis:=za
 refine wpAny_bind ?_;simp only[List.zipIdx_cons,List.zipIdx_nil,List.forIn_cons,List.forIn_nil];refine wpAny_bind (wpAny_bind (wpAny_onRaise ?_));show wpAny _ _ (Builtin.SmallTypes.nextOf (.ref i1) >>= _) _ _ _;refine wpAny_bind (oY (p1.kept fun o e=>sa.extBut _ _ D.i1z e) (b1.kept fun o e=>sa.extBut _ _ D.l1z e) hx fun hb p1b sb=>wpAny_pure ?_);have t2:IsPair hb TO oa ob:=sb.extBut _ _ D.TOi1 (sa.extBut _ _ D.TOz g2);refine wpAny_bind (wpAny_seqItems t2 rfl ?_);refine wpAny_bind (wpAny_updateSeq_pair t2 fun hc t3 sc=>?_)
 replace t3:IsPair hc TO x ob:=t3
 refine wpAny_bind (wpAny_letGo (wpAny_pure ?_));refine wpAny_bind (wpAny_bind (wpAny_onRaise ?_));show wpAny _ _ (Builtin.SmallTypes.nextOf (.ref i2) >>= _) _ _ _;refine wpAny_bind (oY (p2.kept fun o e=>sc.extBut _ _ D.TOi2.symm (sb.extBut _ _ D.i12.symm (sa.extBut _ _ D.i2z e))) (b2.kept fun o e=>sc.extBut _ _ D.l2TO (sb.extBut _ _ D.l2i1 (sa.extBut _ _ D.l2z e))) hy fun hd p2d sd=>wpAny_pure ?_);have t4:IsPair hd TO x ob:=sd.extBut _ _ D.TOi2 t3;refine wpAny_bind (wpAny_seqItems t4 rfl ?_);refine wpAny_bind (wpAny_updateSeq_pair t4 fun he t5 se=>?_)
 replace t5:IsPair he TO x y:=t5
 refine wpAny_bind (wpAny_letGo (wpAny_pure (wpAny_pure ?_)));refine wpAny_bind (wpAny_seqItems t5 rfl ?_);refine wpAny_bind (wpAny_newTuple ?_);have size:he.objs.size=s.heap.objs.size:=by rw[se.1,sd.1,sc.1,sb.1,sa.1]
 have ze:IsZip he z TI TO .ellipsis:=se.extBut _ _ D.TOz.symm (sd.extBut _ _ D.i2z.symm (sc.extBut _ _ D.TOz.symm (sb.extBut _ _ D.i1z.symm za)));have ke:∀c o,c∉[z,TO,i1,i2]->s.heap.get? c=some o->he.get? c=some o:=fun c o n e=>by
  simp only[mem_cons,not_mem_nil,or_false,not_or]at n;exact se.extBut _ _ n.2.1 (sd.extBut _ _ n.2.2.2 (sc.extBut _ _ n.2.1 (sb.extBut _ _ n.2.2.1 (sa.extBut _ _ n.1 e))))
 have q1:j5 k1 he i1 l1 (j1+1):=p1b.kept fun o e=>se.extBut _ _ D.TOi1.symm (sd.extBut _ _ D.i12 (sc.extBut _ _ D.TOi1.symm e));have q2:j5 k2 he i2 l2 (j2+1):=p2d.kept fun o e=>se.extBut _ _ D.TOi2.symm e;have tie:IsPair he TI (.ref i1) (.ref i2):=se.extBut _ _ D.TITO (sd.extBut _ _ D.TIi2 (sc.extBut _ _ D.TITO (sb.extBut _ _ D.TIi1 (sa.extBut _ _ D.TIz g1))));have zlt:z<he.objs.size:=Heap.lt_size ze;show wpAny _ _ (Builtin.SmallTypes.ownedTupleHandOut (.ref z) (.ref he.objs.size) >>= _) _ _ _;refine wpAny_bind ?_;unfold Builtin.SmallTypes.ownedTupleHandOut;have zf:IsZip (he.push {cls:=.type "tuple",data:=.seq #[x,y]}) z TI TO .ellipsis:=Heap.get?_push_of_some _ ze;refine wpAny_bind (wpAny_setField_rec zf (by simp) fun hg zg sg=>?_)
 replace zg:IsZip hg z TI TO (rawInt he.objs.size):=zg
 refine wpAny_setField_rec zg (by simp) fun hn zn sn=>?_
 replace zn:IsZip hn z TI TO (rawInt he.objs.size):=zn
 have up:∀c o,c≠z->he.get? c=some o->hn.get? c=some o:=fun c o n e=>sn.extBut _ _ n (sg.extBut _ _ n (Heap.get?_push_of_some _ e));have tn:IsPair hn he.objs.size x y:=sn.extBut _ _ (Nat.ne_of_gt zlt) (sg.extBut _ _ (Nat.ne_of_gt zlt) (Heap.get?_push_size _ rfl));rw[size]at zn tn;refine wpAny_pure ⟨_,rfl,?_⟩;show Q (.ref he.objs.size) _;rw[size];refine hQ hn ⟨zn,up _ _ D.TIz tie,⟨_,_,up _ _ D.TOz t5⟩,q1.kept fun o e=>up _ _ D.i1z e,q2.kept fun o e=>up _ _ D.i2z e⟩ tn fun c o n e=>up c o (fun z=>n (by simp[z])) (ke c o n e)
theorem Yo{k1 k2:Bool}{z TI TO i1 i2 l1 l2:Addr}{j1 j2:Nat}{xs ys:Array Value}{Q:Fin->Shared->Prop}(hh:A.handled=none)(D:ZipApart z TI TO i1 i2 l1 l2)(Z:ZipAt k1 k2 s.heap z TI TO i1 i2 l1 l2 .none j1 j2)(b1:kJ k1 s.heap l1 xs)(b2:kJ k2 s.heap l2 ys)(hend:xs[j1]? =none\/ys[j2]? =none)(hE:∀h' e,(∀c o,c∉[z,TO,i1,i2]->s.heap.get? c=some o->h'.get? c=some o)->(∃o,h'.get? e=some o/\o.cls= .type "StopIteration")->E (.ref e) {s with heap:=h'}) :
  wpAny (model prog w) A (Builtin.«zip.__next__» ⟨[.ref z],[]⟩) Q E s:=by
 obtain⟨g0,g1,⟨oa,ob,g2⟩,p1,p2⟩:=Z;show wpAny _ _ (field (.ref z) 2 >>= _) _ _ _;refine wpAny_bind (wpAny_field g0 rfl (x:=.bool false) rfl ?_);show wpAny _ _ (field (.ref z) 3 >>= _) _ _ _;refine wpAny_bind (wpAny_field g0 rfl (x:=.ref TI) rfl ?_);refine wpAny_bind (wpAny_seqItems g1 rfl ?_);show wpAny _ _ (Builtin.SmallTypes.ownedTupleIsFree (.ref z) >>= _) _ _ _;refine wpAny_bind ?_;unfold Builtin.SmallTypes.ownedTupleIsFree;refine wpAny_bind (wpAny_field g0 rfl (x:=.none) rfl (wpAny_pure ?_));simp only[if_true];refine wpAny_bind (wpAny_rule ?_);refine wpAny_bind (wpAny_field g0 rfl (x:=.ref TO) rfl ?_);refine wpAny_bind (wpAny_setField_rec g0 (by simp) fun ha za sa=>?_)
 replace za:IsZip ha z TI TO .ellipsis:=za
 refine wpAny_bind ?_;simp only[List.zipIdx_cons,List.zipIdx_nil,List.forIn_cons,List.forIn_nil];refine wpAny_bind (wpAny_bind (wpAny_onRaise ?_));show wpAny _ _ (Builtin.SmallTypes.nextOf (.ref i1) >>= _) _ _ _;cases hx:xs[j1]? with
 |none =>
  refine wpAny_bind (endS hh (p1.kept fun o e=>sa.extBut _ _ D.i1z e) (b1.kept fun o e=>sa.extBut _ _ D.l1z e) hx fun hb e sb te=>?_);obtain⟨oe,e1,e2⟩:=te;have zb:IsZip hb z TI TO .ellipsis:=sb _ _ D.i1z.symm za;have nez:e≠z:=fun q=>by subst q;rw[zb]at e1;cases e1;simp at e2
  refine wpAny_setField_rec zb (by simp) fun hc _ sc=>hE hc e (fun c o n q=>?_) ⟨oe,sc.extBut _ _ nez e1,e2⟩;simp only[mem_cons,not_mem_nil,or_false,not_or]at n;exact sc.extBut _ _ n.1 (sb _ _ n.2.2.1 (sa.extBut _ _ n.1 q))
 |some x =>
  have hy:ys[j2]? =none:=hend.resolve_left (by rw[hx];intro q;cases q);refine wpAny_bind (oY (p1.kept fun o e=>sa.extBut _ _ D.i1z e) (b1.kept fun o e=>sa.extBut _ _ D.l1z e) hx fun hb p1b sb=>wpAny_pure ?_);have t2:IsPair hb TO oa ob:=sb.extBut _ _ D.TOi1 (sa.extBut _ _ D.TOz g2);refine wpAny_bind (wpAny_seqItems t2 rfl ?_);refine wpAny_bind (wpAny_updateSeq_pair t2 fun hc t3 sc=>?_);refine wpAny_bind (wpAny_letGo (wpAny_pure ?_));refine wpAny_bind (wpAny_bind (wpAny_onRaise ?_));show wpAny _ _ (Builtin.SmallTypes.nextOf (.ref i2) >>= _) _ _ _;refine wpAny_bind (endS hh (p2.kept fun o e=>sc.extBut _ _ D.TOi2.symm (sb.extBut _ _ D.i12.symm (sa.extBut _ _ D.i2z e))) (b2.kept fun o e=>sc.extBut _ _ D.l2TO (sb.extBut _ _ D.l2i1 (sa.extBut _ _ D.l2z e))) hy fun hd e sd te=>?_);obtain⟨oe,e1,e2⟩:=te;have zd:IsZip hd z TI TO .ellipsis:=sd _ _ D.i2z.symm (sc.extBut _ _ D.TOz.symm (sb.extBut _ _ D.i1z.symm za));have nez:e≠z:=fun q=>by subst q;rw[zd]at e1;cases e1;simp at e2
  refine wpAny_setField_rec zd (by simp) fun he _ se=>hE he e (fun c o n q=>?_) ⟨oe,se.extBut _ _ nez e1,e2⟩;simp only[mem_cons,not_mem_nil,or_false,not_or]at n;exact se.extBut _ _ n.1 (sd _ _ n.2.2.2 (sc.extBut _ _ n.2.1 (sb.extBut _ _ n.2.2.1 (sa.extBut _ _ n.1 q))))
theorem i6{k1 k2:Bool}{z TI TO i1 i2 l1 l2:Addr}{j1 j2:Nat}{xs ys:Array Value}{x y:Value}{Q:Option Value->Shared->Prop}(D:ZipApart z TI TO i1 i2 l1 l2)(Z:ZipAt k1 k2 s.heap z TI TO i1 i2 l1 l2 .none j1 j2)(b1:kJ k1 s.heap l1 xs)(b2:kJ k2 s.heap l2 ys)(hx:xs[j1]? =some x)(hy:ys[j2]? =some y)(hQ:∀h',ZipAt k1 k2 h' z TI TO i1 i2 l1 l2 (rawInt s.heap.objs.size) (j1+1) (j2+1)->IsPair h' s.heap.objs.size x y->(∀c o,c∉[z,TO,i1,i2]->s.heap.get? c=some o->h'.get? c=some o)->Q (some (.ref s.heap.objs.size)) {s with heap:=h'}) :
  wpAny (model prog w) A (pyNext (.ref z)) Q E s:=by
 have ty:s.TypeIs (.ref z) "zip" :=⟨_,Z.zz,rfl⟩;unfold pyNext;exact wpAny_bind (wpAny_attempt (wpAny_callSpecial?_slot (name:=Str.ofString "__next__") ty F.slot_zip_next (wpAny_call_entry F.slot_zip_next ty F.entry_zip_next (Ze D Z b1 b2 hx hy fun h' r1 r2 r3=>wpAny_pure (hQ h' r1 r2 r3)) (F.args_zip_next_1 _))))
theorem mf{k1 k2:Bool}{z TI TO i1 i2 l1 l2:Addr}{j1 j2:Nat}{xs ys:Array Value}{Q:Option Value->Shared->Prop}(hh:A.handled=none)(D:ZipApart z TI TO i1 i2 l1 l2)(Z:ZipAt k1 k2 s.heap z TI TO i1 i2 l1 l2 .none j1 j2)(b1:kJ k1 s.heap l1 xs)(b2:kJ k2 s.heap l2 ys)(hend:xs[j1]? =none\/ys[j2]? =none)(hQ:∀h',(∀c o,c∉[z,TO,i1,i2]->s.heap.get? c=some o->h'.get? c=some o)->Q none {s with heap:=h'}):wpAny (model prog w) A (pyNext (.ref z)) Q E s:=by
 have ty:s.TypeIs (.ref z) "zip" :=⟨_,Z.zz,rfl⟩;unfold pyNext;refine wpAny_bind (wpAny_attempt (wpAny_callSpecial?_slot (name:=Str.ofString "__next__") ty F.slot_zip_next (wpAny_call_entry F.slot_zip_next ty F.entry_zip_next (Yo hh D Z b1 b2 hend fun h' e hk he=>?_) (F.args_zip_next_1 _))));obtain⟨o,e1,e2⟩:=he;exact wpAny_bind (wpAny_isInstance (T :="StopIteration") (b:=true) ⟨o,e1,e2⟩ isSubtype_stop (wpAny_pure (hQ _ hk)))
end
def zH1(k1:Bool)(h:Heap)(l1:Addr):Heap:=h.push {cls:=.type (xY k1),data:=.fields #[.ref l1,.int 0 0]}
def zH2(k1 k2:Bool)(h:Heap)(l1 l2:Addr):Heap:=(zH1 k1 h l1).push {cls:=.type (xY k2),data:=.fields #[.ref l2,.int 0 0]}
def zH3(k1 k2:Bool)(h:Heap)(l1 l2:Addr):Heap:=(zH2 k1 k2 h l1 l2).push {cls:=.type "tuple",data:=.seq #[.ref h.objs.size,.ref (zH1 k1 h l1).objs.size]}
def zH4(k1 k2:Bool)(h:Heap)(l1 l2:Addr):Heap:=(zH3 k1 k2 h l1 l2).push {cls:=.type "tuple",data:=.seq #[.none,.none]}
def zH5(k1 k2:Bool)(h:Heap)(l1 l2:Addr):Heap:=(zH4 k1 k2 h l1 l2).push {cls:=.type "zip",data:=.fields #[.none,.bool false,.bool false,.ref (zH2 k1 k2 h l1 l2).objs.size,.ref (zH3 k1 k2 h l1 l2).objs.size]}
theorem mK(k1 k2:Bool)(l1 l2:Addr)(xs ys:Array Value) :
  Meets (Builtin.«zip.__new__» ⟨[.type "zip",.ref l1,.ref l2],[]⟩) (fun _ R s=>kJ k1 s.heap l1 xs/\kJ k2 s.heap l2 ys/\R (.ok (.ret (.ref (zH4 k1 k2 s.heap l1 l2).objs.size))) {s with heap:=zH5 k1 k2 s.heap l1 l2}) :=
 .of_wp fun prog w A R s h=>by
  obtain⟨hp,gn,dr,tk,os⟩:=s;obtain⟨q1,q2,h⟩:=h;have hsub:=sub_zip;have r1:kJ k1 (Shared.heap ⟨hp,gn,dr,tk,os⟩) l1 xs:=q1;have r2:kJ k2 (Shared.heap ⟨hp.push {cls:=.type (xY k1),data:=.fields #[.ref l1,.int 0 0]},gn,dr,tk,os⟩) l2 ys:=kJ.kept q2 fun o e=>Heap.get?_push_of_some _ e
  wp_walk using nH r1,nH r2
  exact⟨_,rfl,h⟩
section
variable{prog:Program}{w:World}{A:Around}{E:Value->Shared->Prop}{s:Shared}
theorem ou{k1 k2:Bool}{l1 l2:Addr}{xs ys:Array Value}{Q:Value->Shared->Prop}(b1:kJ k1 s.heap l1 xs)(b2:kJ k2 s.heap l2 ys)(hQ:∀h',ZipAt k1 k2 h' (s.heap.objs.size+4) (s.heap.objs.size+2) (s.heap.objs.size+3) s.heap.objs.size (s.heap.objs.size+1) l1 l2 .none 0 0->(∀c o,s.heap.get? c=some o->h'.get? c=some o)->Q (.ref (s.heap.objs.size+4)) {s with heap:=h'}) :
  wpAny (model prog w) A (call (.type "zip") [.ref l1,.ref l2]) Q E s:=by
 refine callType_new F.called_zip (by decide) (F.typeCall_zip_2 _ _) (F.newCall_zip_2 _ _) (fun obj=>F.args_object_init_3 obj _ _) F.entry_zip_new (mK k1 k2 l1 l2 xs ys) ⟨b1,b2,?_⟩;have n1:(zH1 k1 s.heap l1).objs.size=s.heap.objs.size+1:=Heap.size_push ..;have n2:(zH2 k1 k2 s.heap l1 l2).objs.size=s.heap.objs.size+2:=by unfold zH2;rw[Heap.size_push,n1]
 have n3:(zH3 k1 k2 s.heap l1 l2).objs.size=s.heap.objs.size+3:=by unfold zH3;rw[Heap.size_push,n2]
 have n4:(zH4 k1 k2 s.heap l1 l2).objs.size=s.heap.objs.size+4:=by unfold zH4;rw[Heap.size_push,n3]
 have f5:(zH5 k1 k2 s.heap l1 l2).get? (zH4 k1 k2 s.heap l1 l2).objs.size=some _:=Heap.get?_push_size _ rfl;have f4:(zH5 k1 k2 s.heap l1 l2).get? (zH3 k1 k2 s.heap l1 l2).objs.size=some _:=Heap.get?_push_of_some _ (Heap.get?_push_size _ rfl);have f3:(zH5 k1 k2 s.heap l1 l2).get? (zH2 k1 k2 s.heap l1 l2).objs.size=some _:=Heap.get?_push_of_some _ (Heap.get?_push_of_some _ (Heap.get?_push_size _ rfl));have f2:(zH5 k1 k2 s.heap l1 l2).get? (zH1 k1 s.heap l1).objs.size=some _:=Heap.get?_push_of_some _ (Heap.get?_push_of_some _ (Heap.get?_push_of_some _ (Heap.get?_push_size _ rfl)));have f1:(zH5 k1 k2 s.heap l1 l2).get? s.heap.objs.size=some _:=Heap.get?_push_of_some _ (Heap.get?_push_of_some _ (Heap.get?_push_of_some _ (Heap.get?_push_of_some _ (Heap.get?_push_size _ rfl))));show _/\_;rw[n2,n3,n4]at f5;rw[n1,n2]at f3;rw[n3]at f4;rw[n1]at f2;rw[n4];exact⟨⟨_,f5,rfl⟩,hQ _ ⟨f5,f3,⟨_,_,f4⟩,⟨_,f1,rfl,rfl⟩,⟨_,f2,rfl,rfl⟩⟩ fun c o e=>Heap.get?_push_of_some _ (Heap.get?_push_of_some _ (Heap.get?_push_of_some _ (Heap.get?_push_of_some _ (Heap.get?_push_of_some _ e))))⟩
end
section
variable{X:Cx}{pins:List (Addr×Obj)}{σ:St}{H:Hp}{s:Shared}{h':Heap}
theorem Inv.turnedL{t':Nat}{ch:List Addr}(I:Inv X pins σ H s)(hf:∀b∈ch,FpOk X pins H b)(k:∀b o,b∉ch->s.heap.get? b=some o->h'.get? b=some o):Inv X pins σ H {s with heap:=h',toks:=t'}:=by
 have nch:∀b u,H b=some u->b∉ch:=fun b u e z=>by rw[(hf b z).1]at e;cases e
 refine I.step (g':=s.gens) (d':=s.drawn) (ch:=ch) (fun b hb=>⟨(hf b hb).2.2.2.1,(hf b hb).2.1,(hf b hb).2.2.2.2.1,(hf b hb).2.2.2.2.2⟩) (fun b o _ _ hc e _=>k b o hc e) (fun b o _ _ hc e _=>⟨o.slots,k b o hc e⟩) (fun _ _ _ _ n=>n)
  (fun b o hc e=>⟨o,k b o hc e⟩) (fun _ _ e=>e) (fun _ _ _ e=>e) (fun b ps e=>⟨#[],by rw[e];simp⟩) (fun m hm=>?_) (fun b u e=>?_) I.bare
 ·obtain⟨o,es,ep,ho,r⟩:=hm;exact⟨o,es,ep,k _ o (fun z=>(hf _ z).2.1 rfl) ho,r⟩
 ·refine(I.hok b u e).stay (fun c v hc q=>k c v ?_ q) (fun _ q=>q) fun _ _ q=>q;rcases hc with z|z
  ·rw[z];exact nch b u e
  ·exact nch c _ z
theorem Inv.turnedN{t':Nat}{ch:List Addr}{T:Addr}{o:HO}(I:Inv X pins σ H s)(hf:∀b∈ch,FpOk X pins H b)(k:∀b o,b∉ch->s.heap.get? b=some o->h'.get? b=some o)(hT:s.heap.objs.size<=T)(new:zS X.prog X.w (upd H T o) h' T o):Inv X pins σ (upd H T o) {s with heap:=h',toks:=t'}:=by
 have nch:∀b u,H b=some u->b∉ch:=fun b u e z=>by rw[(hf b z).1]at e;cases e
 have hn:H T=none:=I.hok.fresh hT;refine I.step (g':=s.gens) (d':=s.drawn) (ch:=ch) (fun b hb=>⟨(hf b hb).2.2.2.1,(hf b hb).2.1,(hf b hb).2.2.2.2.1,(hf b hb).2.2.2.2.2⟩) (fun b o _ _ hc e _=>k b o hc e) (fun b o _ _ hc e _=>⟨o.slots,k b o hc e⟩)
  (fun b u _ e n=>by rw[zh (ne_of_lt (lt_of_lt_of_le (Heap.lt_size e) hT))];exact n)
  (fun b o hc e=>⟨o,k b o hc e⟩) (fun b xs e=>by rw[zh (zj e hn)];exact e) (fun b u xs e=>by rw[zh (zj e hn)];exact e) (fun b ps e=>⟨#[],by rw[zh (zj e hn),e];simp⟩) (fun m hm=>?_) (fun b u e=>?_) I.bare
 ·obtain⟨o,es,ep,ho,r⟩:=hm;exact⟨o,es,ep,k _ o (fun z=>(hf _ z).2.1 rfl) ho,r⟩
 ·by_cases hb:b=T
  ·subst hb;rw[z6]at e;cases e;exact new
  ·rw[zh hb]at e;refine(I.hok b u e).stay (fun c v hc q=>k c v ?_ q) (fun c q=>by rw[zh (zj q hn)];exact q) fun c xs q=>by rw[zh (zj q hn)];exact q
   rcases hc with z|z
   ·rw[z];exact nch b u e
   ·exact nch c _ z
end
def Sq(k:Bool)(K:W.Frag)(H:Hp)(a:Addr)(xs:List V):Prop :=
 match k with
 |true=>SqT K H a xs
 |false=>SqL K H a xs
theorem Inv.sq{X:Cx}{pins:List (Addr×Obj)}{σ:St}{H:Hp}{s:Shared}{k:Bool}{a:Addr}{xs:List V}(I:Inv X pins σ H s)(h:Sq k X.K H a xs):∃its:List Value,Vals xs its/\kJ k s.heap a its.toArray/\xs.length<=sizeLine:=by
 cases k
 ·obtain⟨its,r,p,z⟩:=I.list h;exact⟨its,r,p.isList,z⟩
 ·exact I.tuple h
theorem Inv.sq_inj{X:Cx}{pins:List (Addr×Obj)}{σ:St}{H:Hp}{s:Shared}{k:Bool}{a:Addr}{xs ys:List V}(I:Inv X pins σ H s)(h:Sq k X.K H a xs)(h':Sq k X.K H a ys):xs=ys:=by
 cases k
 ·exact I.list_inj h h'
 ·exact I.tuple_inj h h'
def Itz(K:W.Frag)(k1 k2:Bool)(a b:Addr):It :=
 ⟨fun i H=>∃ xs ys x y,Sq k1 K H a xs/\Sq k2 K H b ys/\xs[i]? =some x/\ys[i]? =some y,
  fun i H v H'=>∃ T x y,H T=none/\v= .ref T/\H'=upd H T (.tup [x,y])/\(∀xs,Sq k1 K H a xs->xs[i]? =some x)/\ ∀ys,Sq k2 K H b ys->ys[i]? =some y,
  fun i H=>∃ xs ys,Sq k1 K H a xs/\Sq k2 K H b ys/\(xs.length<=i\/ys.length<=i)⟩
theorem nh{P:Program}{w:World}{H:Hp}{h:Heap}{T:Addr}{x y:V}{u v:Value}(r1:RelV x u)(r2:RelV y v)(e:IsPair h T u v):zS P w H h T (.tup [x,y]):=by
 refine⟨by show 2<=sizeLine;decide,[u,v],.cons r1 (.cons r2 .nil),⟨_,e,rfl,_,rfl⟩,fun o q=>?_⟩;rw[e]at q;cases q;rfl
theorem Z7{P:Program}{w:World}{K:W.Frag}{elts:List Expr}{x1:Nat}{pos:Pos}(k1 k2:Bool)(a b z TI TO i1 i2:Addr)(D:ZipApart z TI TO i1 i2 a b) :
  Turn P w K (.Tuple elts x1 pos) (Itz K k1 k2 a b) [z,TI,TO,i1,i2] z (fun i h=>ZipAt k1 k2 h z TI TO i1 i2 a b .none i i) where
 mem:=by simp
 obj:=fun i h st c hc=>by
  obtain⟨g0,g1,⟨oa,ob,g2⟩,⟨o1,e1,_,d1⟩,⟨o2,e2,_,d2⟩⟩:=st;simp only[mem_cons,not_mem_nil,or_false]at hc;rcases hc with rfl|rfl|rfl|rfl|rfl
  ·exact⟨_,g0,fun v q=>by cases q⟩
  ·exact⟨_,g1,fun v q=>by cases q⟩
  ·exact⟨_,g2,fun v q=>by cases q⟩
  ·exact⟨_,e1,fun v q=>by rw[d1]at q;cases q⟩
  ·exact⟨_,e2,fun v q=>by rw[d2]at q;cases q⟩
 keep:=fun i h h' st k=>st.kept k
 item:=by
  intro X hP hw hK hc i pins s σ H E I hf st hg;subst hP hw hK;obtain⟨xs,ys,x,y,hq1,hq2,hx,hy⟩:=hg;obtain⟨us,rv1,p1,_⟩:=I.sq hq1;obtain⟨ws,rv2,p2,_⟩:=I.sq hq2;obtain⟨u,hu,ru⟩:=rv1.get hx;obtain⟨v,hv,rv⟩:=rv2.get hy;refine i6 D st p1 p2 (x:=u) (y:=v) (by simpa using hu) (by simpa using hv) fun h' st' tp kk=>⟨_,rfl,?_⟩;refine wpAny_letOwnedTupleGo_zip st'.zz fun h2 hz2 sb=>?_;have up:∀c o,c≠z->h'.get? c=some o->h2.get? c=some o:=fun c o n e=>(sb.2 c n).trans e;have lt:z<s.heap.objs.size:=Heap.lt_size st.zz;have tp2:IsPair h2 s.heap.objs.size u v:=up _ _ (Nat.ne_of_gt lt) tp;have I1:Inv X pins σ (upd H s.heap.objs.size (.tup [x,y])) {s with heap:=h2}:=I.turnedN (t':=s.toks) (ch:=[z,TI,TO,i1,i2]) hf (fun c o n e=>up c o (fun q=>n (by simp[q])) (kk c o (fun q=>n (by
   simp only[mem_cons,not_mem_nil,or_false]at q ⊢;rcases q with q|q|q|q <;>simp[q])) e)) (le_refl _) (nh ru rv tp2)
  refine⟨.ref s.heap.objs.size,_,I1,rfl,⟨_,x,y,I.hok.fresh (le_refl _),rfl,rfl,fun xs' h=>by rw[I.sq_inj h hq1];exact hx,fun ys' h=>by rw[I.sq_inj h hq2];exact hy⟩,
   ⟨hz2,up _ _ D.TIz st'.ti,?_,st'.a1.kept (fun o e=>up _ _ D.i1z e),st'.a2.kept fun o e=>up _ _ D.i2z e⟩,fun c hc=>?_⟩
  ·obtain⟨oa,ob,e⟩:=st'.tO;exact⟨oa,ob,up _ _ D.TOz e⟩
  ·have hlt:c<s.heap.objs.size:=by
    obtain⟨g0,g1,⟨oa,ob,g2⟩,⟨o1,e1,_,d1⟩,⟨o2,e2,_,d2⟩⟩:=st;simp only[mem_cons,not_mem_nil,or_false]at hc;rcases hc with rfl|rfl|rfl|rfl|rfl
    ·exact Heap.lt_size g0
    ·exact Heap.lt_size g1
    ·exact Heap.lt_size g2
    ·exact Heap.lt_size e1
    ·exact Heap.lt_size e2
   rw[zh (ne_of_lt hlt)];exact(hf c hc).1
 done:=by
  intro X hP hw hK hc i pins s σ H E I hf st hg;subst hP hw hK;obtain⟨xs,ys,hq1,hq2,hend⟩:=hg;obtain⟨us,rv1,p1,_⟩:=I.sq hq1;obtain⟨ws,rv2,p2,_⟩:=I.sq hq2;have l1:=rv1.length;have l2:=rv2.length;refine mf (I.ok.hd hc) D st p1 p2 ?_ fun h' kk=>⟨rfl,I.turnedL (t':=s.toks) (ch:=[z,TI,TO,i1,i2]) hf fun c o n e=>kk c o (fun q=>n (by
   simp only[mem_cons,not_mem_nil,or_false]at q ⊢;rcases q with q|q|q|q <;>simp[q])) e⟩
  rcases hend with q|q
  ·exact .inl (by simp;omega)
  ·exact .inr (by simp;omega)
 self:=fun _ _ _ _ _ st h=>wpAny_pyIter_zip st.zz h
section
variable{X:Cx}{elts:List Expr}{x1:Nat}{tpos:Pos}
def iZip(K:W.Frag)(k1 k2:Bool)(ta:TA):TI:=fun σ H R=>ta σ H fun vs H1=>∃ a b,vs=[.ref a,.ref b]/\(∃xs,Sq k1 K H1 a xs)/\(∃ys,Sq k2 K H1 b ys)/\R (Itz K k1 k2 a b) H1
theorem Zv(k1 k2:Bool){a b:Expr}{ta:TA}{p pos:Pos}(hg:Gl X "zip")(hm:X.mg "zip"=none)(ha:PA X [a,b] ta)(hs:starEach [a,b] X.env=[(false,eval a X.env),(false,eval b X.env)]:=by rfl)(hs2:starEach [b] X.env=[(false,eval b X.env)]:=by rfl) :
  PI X (.Tuple elts x1 tpos) (.Call (.Name "zip" p) [a,b] [] pos) (iZip X.K k1 k2 ta):=by
 intro pins s σ H R I h;refine Call_ (wj I hg hm boot_zip (PyProof.Rows.callWith_type1 (thn (ha pos pins s σ H _ I h) fun us s1 ⟨vs,H1,I1,r1,q1⟩=>?_) (by rw[hs,hs2]) (by rw[hs2];rfl)));obtain⟨a,b,e,⟨xs,hq1⟩,⟨ys,hq2⟩,q⟩:=q1;subst e;cases r1 with
 |cons r rr =>
  cases rr with
  |cons r' rr =>
   cases rr;cases r;cases r';obtain⟨us,rv1,p1,_⟩:=I1.sq hq1;obtain⟨ws,rv2,p2,_⟩:=I1.sq hq2;refine ou p1 p2 fun h' Z kk=>?_;have D:=PyProof.Rows.zipApart_new p1.lt p2.lt;have I2:Inv X pins σ H1 {s1 with heap:=h'}:=I1.kept (t':=s1.toks) kk;refine wpAny_pyIter_zip (s:={s1 with heap:=h'}) Z.zz ⟨_,[s1.heap.objs.size+4,s1.heap.objs.size+2,s1.heap.objs.size+3,s1.heap.objs.size,s1.heap.objs.size+1],_,_,H1,rfl,I2,Z7 k1 k2 a b _ _ _ _ _ D,Z,fun c hc=>?_,q⟩;have hle:s1.heap.objs.size<=c:=by
    simp only[mem_cons,not_mem_nil,or_false]at hc;have hc':c=s1.heap.objs.size+4\/c=s1.heap.objs.size+2\/c=s1.heap.objs.size+3\/c=s1.heap.objs.size\/c=s1.heap.objs.size+1:=hc;rcases hc' with e|e|e|e|e <;>rw[e] <;>first|exact le_refl _|exact Nat.le_add_right _ _
   exact I1.fpOk hle (I1.hok.fresh hle)
end
theorem ow{K:W.Frag}{k1 k2:Bool}{a b:Addr}{xs ys:List V}{g:TG}{tf:TT}{te:TE}{σ:St}{H:Hp}{Q:VK}(Pv:Nat->List V->St->Hp->Prop)(h0:Pv 0 [] σ H)(hl:∀i zs σ H,i<=min xs.length ys.length->Pv i zs σ H->Sq k1 K H a xs/\Sq k2 K H b ys/\zs.length<=sizeLine)(hs:∀i x y zs σ H T,xs[i]? =some x->ys[i]? =some y->Pv i zs σ H->H T=none->g (.ref T) σ (upd H T (.tup [x,y])) fun σ2 H2=>tf σ2 H2 fun b H3=>if b=true then te σ2 H3 fun v H4=>Pv (i+1) (zs++[v]) σ2 H4 else Pv (i+1) zs σ2 H3)(hd:∀zs σ H,Pv (min xs.length ys.length) zs σ H-> ∀p,H p=none->Q (.ref p) (upd H p (.lst zs))):uj g tf te σ (Itz K k1 k2 a b) H Q:=by
 refine⟨fun i m zs σ H=>m=min xs.length ys.length-i/\i<=min xs.length ys.length/\Pv i zs σ H,⟨_,(Nat.sub_zero _).symm,zero_le _,h0⟩,?_⟩;rintro i m zs σ H ⟨rfl,hi,p⟩;obtain⟨q1,q2,hz⟩:=hl i zs σ H hi p;by_cases hlt:i<min xs.length ys.length
 ·have l1:i<xs.length:=by omega
  have l2:i<ys.length:=by omega
  refine .inr ⟨⟨xs,ys,xs[i],ys[i],q1,q2,by simp[l1],by simp[l2]⟩,hz,Pv (i+1),fun ys' σ' H' p'=>⟨min xs.length ys.length-(i+1),by omega,rfl,hlt,p'⟩,fun x H' y=>?_⟩;obtain⟨T,u,v,hT,rfl,rfl,e1,e2⟩:=y;exact hs i u v zs σ H T (e1 xs q1) (e2 ys q2) p hT
 ·have e:i=min xs.length ys.length:=by omega
  rw[e]at p;exact .inl ⟨⟨xs,ys,q1,q2,by omega⟩,hz,hd zs σ H p⟩
theorem ZJ{K:W.Frag}{k1 k2:Bool}{a b:Addr}{xs ys:List V}{g:TG}{tb:TS}{D:Ends}{σ:St}{H:Hp}(Pv:Nat->St->Hp->Prop)(h0:Pv 0 σ H)(hl:∀i σ H,i<=min xs.length ys.length->Pv i σ H->Sq k1 K H a xs/\Sq k2 K H b ys)(hs:∀i x y σ H T,xs[i]? =some x->ys[i]? =some y->Pv i σ H->H T=none->g (.ref T) σ (upd H T (.tup [x,y])) fun σ2 H2=>tb {D with nx:=Pv (i+1),ct:=Pv (i+1),bk:=D.nx} σ2 H2)(hd:∀ σ H,Pv (min xs.length ys.length) σ H->D.nx σ H) :
  ∃W0:Nat->Nat->St->Hp->Prop,(∃m,W0 0 m σ H)/\ ∀i m σ H,W0 i m σ H->
   ((Itz K k1 k2 a b).stop i H/\D.nx σ H)\/((Itz K k1 k2 a b).go i H/\ ∃N:St->Hp->Prop,(∀ σ' H',N σ' H'-> ∃m',m'<m/\W0 (i+1) m' σ' H')/\ ∀x H',(Itz K k1 k2 a b).yld i H x H'->g x σ H' fun σ2 H2=>tb {D with nx:=N,ct:=N,bk:=D.nx} σ2 H2):=by
 refine⟨fun i m σ H=>m=min xs.length ys.length-i/\i<=min xs.length ys.length/\Pv i σ H,⟨_,(Nat.sub_zero _).symm,zero_le _,h0⟩,?_⟩;rintro i m σ H ⟨rfl,hi,p⟩;obtain⟨q1,q2⟩:=hl i σ H hi p;by_cases hlt:i<min xs.length ys.length
 ·have l1:i<xs.length:=by omega
  have l2:i<ys.length:=by omega
  refine .inr ⟨⟨xs,ys,xs[i],ys[i],q1,q2,by simp[l1],by simp[l2]⟩,Pv (i+1),fun σ' H' p'=>⟨min xs.length ys.length-(i+1),by omega,rfl,hlt,p'⟩,fun x H' y=>?_⟩;obtain⟨T,u,v,hT,rfl,rfl,e1,e2⟩:=y;exact hs i u v σ H T (e1 xs q1) (e2 ys q2) p hT
 ·have e:i=min xs.length ys.length:=by omega
  rw[e]at p;exact .inl ⟨⟨xs,ys,q1,q2,by omega⟩,hd σ H p⟩
section
variable{prog:Program}{w:World}{A:Around}{E:Value->Shared->Prop}{s:Shared}
theorem mZ{id:String}{b:Builtin}{args:List Value}{kw:List (Str×Value)}{Q:Value->Shared->Prop}(hk:builtinKind id=none)(hp:plainId id=true)(hb:entryFor table id=some b)(ha:argsOk id ⟨args,kw⟩)(hc:wpAny (model prog w) A.in1 (b ⟨args,kw⟩) (fun fin s'=>match fin with
   | .done f=>(match(Except.ok f:Result)with| .ok (.ret v)=>Q v s'| .ok _=>False| .error e=>E e s')
   | .again c'=>c'.quiet=true/\codeAny (model prog w) A c' (fun r s'=>match r with| .ok (.ret v)=>Q v s'| .ok _=>False| .error e=>E e s') s') E s):wpAny (model prog w) A (call (.builtin id) args kw) Q E s:=by
 refine wpAny_call (codeAny_call_builtin hp hb ?_);simp only[checkBuiltinCall,hk];cases hsig:Manifest.signature? id with
 |none=>exact wpAny_pure hc
 |some sig =>
  have ha':Bind.checkArgs id sig ⟨args,kw⟩=pure ():=by simpa only[argsOk,hsig]using ha
  simp only[ha'];exact wpAny_pure hc
end
theorem bv{val:Nat->Int}:∀n j:Nat,j<=n->val j<=val (argBest (fun i j=>decide (val i>val j)) n)
 | 0,j,h=>by
  have:j=0:=by omega
  subst this;exact Int.le_refl _
 |n+1,j,h=>by
  unfold argBest;by_cases c:val (n+1)>val (argBest (fun i j=>decide (val i>val j)) n)
  ·simp only[decide_eq_true c,if_true];by_cases e:j=n+1
   ·rw[e];exact Int.le_refl _
   ·have:=bv (val:=val) n j (by omega);omega
  ·simp only[decide_eq_false c,false_eq_true,if_false];by_cases e:j=n+1
   ·rw[e];omega
   ·exact bv n j (by omega)
theorem bu{val:Nat->Int}:∀n j:Nat,j<=n->val (argBest (fun i j=>decide (val i<val j)) n)<=val j
 | 0,j,h=>by
  have:j=0:=by omega
  subst this;exact Int.le_refl _
 |n+1,j,h=>by
  unfold argBest;by_cases c:val (n+1)<val (argBest (fun i j=>decide (val i<val j)) n)
  ·simp only[decide_eq_true c,if_true];by_cases e:j=n+1
   ·rw[e];exact Int.le_refl _
   ·have:=bu (val:=val) n j (by omega);omega
  ·simp only[decide_eq_false c,false_eq_true,if_false];by_cases e:j=n+1
   ·rw[e];omega
   ·exact bu n j (by omega)
theorem bw(bt:Nat->Nat->Bool):∀n:Nat,argBest bt n<=n
 | 0=>le_refl _
 |n+1=>by
  unfold argBest;split
  ·exact le_refl _
  ·exact le_trans (bw bt n) (le_succ n)
section
variable{X:Cx}
def ZB(m:Int)(ns:List Int):Prop:=m∈ns/\ ∀x∈ns,x<=m
theorem oJ{ns:List Int}(hn:0<ns.length):ZB (ns.getD (argBest (fun i j=>decide (ns.getD i 0>ns.getD j 0)) (ns.length-1)) 0) ns:=by
 have hb:=bw (fun i j=>decide (ns.getD i 0>ns.getD j 0)) (ns.length-1);have at':∀j,j<ns.length->ns.getD j 0=ns[j]!:=fun j h=>by simp[h]
 refine⟨?_,fun x hx=>?_⟩
 ·have hl:argBest (fun i j=>decide (ns.getD i 0>ns.getD j 0)) (ns.length-1)<ns.length:=by omega
  generalize argBest (fun i j=>decide (ns.getD i 0>ns.getD j 0)) (ns.length-1)=k at hl;have:ns.getD k 0=ns[k]:=by simp[hl]
  rw[this];exact getElem_mem hl
 ·obtain⟨j,hj,rfl⟩:=List.mem_iff_getElem.mp hx;have h1:=bv (val:=fun i=>ns.getD i 0) (ns.length-1) j (by omega);have h2:ns.getD j 0=ns[j]:=by simp[hj]
  rw[<-h2];exact h1
theorem rY(hc:X.calm=true):wv X (.builtin "max") (fun xs H Q=>∃(a:Addr)(ns:List Int),xs=[.ref a]/\SqL X.K H a (ns.map V.int)/\ns≠[]/\ ∀m,ZB m ns->Q (.int m) H):=by
 intro pins s σ H xs us Q I r h;obtain⟨a,ns,rfl,hq,hne,q⟩:=h;obtain⟨u,rfl,ru⟩:=ua r;cases ru;have hh:X.A.in1.handled=none:=I.ok.hd hc;obtain⟨its,rv,p,hz⟩:=I.list hq;have hl:=rv.length;rw[length_map]at hl;have hlt:a<s.heap.objs.size:=by obtain⟨_,e,_⟩:=p.isList;exact Heap.lt_size e
 have hn:0<ns.length:=List.length_pos_iff.mpr hne;refine call_max_walk (wpAny_pyIter_list p.isList ⟨_,_,_,_,_,_,_,rfl,Walks.list (A:=X.A.in1) hh _ a (ne_of_lt hlt) its.toArray,⟨⟨_,Heap.get?_push_size _ rfl,rfl,rfl⟩,p.isList.push _⟩,fun b hb=>?_,by rw[size_toArray,<-hl];exact hn,CmpOf.ints_gt (fun i=>ns.getD i 0) (yX rv),fun v h' tk p1 kk=>?_⟩)
 ·show b<(s.heap.push _).objs.size;rw[Heap.size_push];rcases mem_cons.mp hb with rfl|hb
  ·exact Nat.lt_succ_self _
  ·rcases mem_cons.mp hb with rfl|hb
   ·exact lt_succ_of_lt hlt
   ·cases hb
 ·rw[size_toArray,<-hl]at p1;obtain⟨t,e⟩:=yX rv _ v p1;exact⟨.int _,H,I.kept fun b o e=>kk b o (by simpa using ne_of_lt (Heap.lt_size e)) (Heap.get?_push_of_some _ e),⟨t,e⟩,q _ (oJ hn)⟩
end
section
variable{prog:Program}{w:World}{A:Around}{R:Result->Shared->Prop}{I:Addr}{fp wr:List Addr}{n:Nat}{P:Nat->Value->Prop}{St:Nat->Heap->Prop}
theorem pF(a v:Value):argsOk "min" ⟨[a],[(Str.ofString "default",v)]⟩:=by unfold argsOk;kernel_rfl
theorem lG{kw:List (Str×Value)}(W0:Walks prog w A.in1 I fp wr n P St)(bt:Nat->Nat->Bool)(hc:CmpOf prog w A.in1 .Lt P bt)(S:Addr)(hSf:S∉fp):∀(k j:Nat)(s:Shared)(vb:Value)(c:Nat),n-(j+1)=k->j+1<=n->St (j+1) s.heap->P (argBest bt j) vb->
  s.heap.get? S=some {cls:=.type "list",dict:=none,data:=.seq #[vb,vb] c,slots:=#[]}->
  (∀v h' tk,P (argBest bt (n-1)) v->(∀b o,b∉wr->b≠S->s.heap.get? b=some o->h'.get? b=some o)->R (.ok (.ret v)) {s with heap:=h',toks:=tk})->
  codeAny (model prog w) A (.builtin "min.loop" ⟨[.ref I,.none,.ref S],kw⟩) R s:=by
 have hSw:S∉wr:=fun h=>hSf (W0.sub _ h);have nm:(toString "min"++toString ".loop" : String)="min.loop" :=by decide
 intro k
 induction k with
 |zero =>
  intro j s vb c hk hj st hP hS hR;have hn:j+1=n:=by omega
  refine codeAny_builtin F.entry_min_loop ?_;rw[Around.under_plainId F.plain_min_loop _];show wpAny _ A.in1 (seqItems? (.ref S) >>= _) _ _ s;refine wpAny_bind (wpAny_seqItems hS rfl ?_);show wpAny _ A.in1 (tryCatch (pyNext (.ref I)) _ >>= _) _ _ s;refine wpAny_bind (wpAny_tryCatch (W0.done s _ _ (hn▸st) fun h' tk kk=>?_));have hS':=kk S _ hSw hS;show wpAny _ A.in1 (updateSeq S (fun _=>#[]) >>= _) _ _ _;refine wpAny_bind (wpAny_updateSeq hS' rfl (wpAny_bind (wpAny_letGo (wpAny_pure ?_))));exact hR vb _ tk (by rw[<-hn];exact hP) fun b o n1 n2 e=>(Heap.get?_update_other _ _ (Ne.symm n2)).trans (kk b o n1 e)
 |succ k ih =>
  intro j s vb c hk hj st hP hS hR;have hlt:j+1<n:=by omega
  refine codeAny_builtin F.entry_min_loop ?_;rw[Around.under_plainId F.plain_min_loop _];show wpAny _ A.in1 (seqItems? (.ref S) >>= _) _ _ s;refine wpAny_bind (wpAny_seqItems hS rfl ?_);show wpAny _ A.in1 (tryCatch (pyNext (.ref I)) _ >>= _) _ _ s;refine wpAny_bind (wpAny_tryCatch (W0.item (j+1) s _ _ hlt st fun v h' tk hPv st' kk=>?_));have hS':=kk S _ hSw hS;show wpAny _ A.in1 (tryCatch (holding [v,v] (richCompare .Lt v vb >>= _)) _ >>= _) _ _ _;refine wpAny_bind (wpAny_tryCatch (wpAny_holding (wpAny_bind (hc (j+1) (argBest bt j) v vb _ _ _ hPv hP ?_))));refine wpAny_bind (wpAny_holding (wpAny_truthy_bool ?_));refine wpAny_bind (wpAny_letGo (wpAny_pure ?_));cases hb:bt (j+1) (argBest bt j)with
  |true =>
   simp only[if_true];refine wpAny_bind (wpAny_updateSeq hS' rfl (wpAny_bind (wpAny_letGo ?_)));rw[nm];refine wpAny_pure ⟨plainId_quiet F.plain_min_loop _,ih (j+1) _ v _ (by omega) hlt (W0.frame _ _ _ st' fun b q o e=>?_) (by simp only[argBest,hb,if_true];exact hPv) (Heap.get?_update_self _ hS' rfl) fun v2 h2 t2 p2 k2=>?_⟩
   ·exact(Heap.get?_update_other _ _ (fun h:S=b=>hSf (by rw[h];exact q))).trans e
   ·exact hR v2 h2 t2 p2 fun b o n1 n2 e=>k2 b o n1 n2 ((Heap.get?_update_other _ _ (Ne.symm n2)).trans (kk b o n1 e))
  |false =>
   simp only[false_eq_true,if_false];refine wpAny_bind (wpAny_letGo ?_);rw[nm];refine wpAny_pure ⟨plainId_quiet F.plain_min_loop _,ih (j+1) _ vb c (by omega) hlt st' (by simp only[argBest,hb,false_eq_true,if_false];exact hP) hS' fun v2 h2 t2 p2 k2=>?_⟩;exact hR v2 h2 t2 p2 fun b o n1 n2 e=>k2 b o n1 n2 (kk b o n1 e)
theorem lF{d:Value}{s:Shared}{c:Nat}(W0:Walks prog w A.in1 I fp wr n P St)(bt:Nat->Nat->Bool)(hc:CmpOf prog w A.in1 .Lt P bt)(S:Addr)(hSf:S∉fp)(st:St 0 s.heap)(hS:s.heap.get? S=some {cls:=.type "list",dict:=none,data:=.seq #[] c,slots:=#[]})(hR:∀v h' tk,(0<n->P (argBest bt (n-1)) v)->(n=0->v=d)->(∀b o,b∉wr->b≠S->s.heap.get? b=some o->h'.get? b=some o)->R (.ok (.ret v)) {s with heap:=h',toks:=tk}) :
  codeAny (model prog w) A (.builtin "min.loop" ⟨[.ref I,.none,.ref S],[(Str.ofString "default",d)]⟩) R s:=by
 have hSw:S∉wr:=fun h=>hSf (W0.sub _ h);have nm:(toString "min"++toString ".loop" : String)="min.loop" :=by decide
 refine codeAny_builtin F.entry_min_loop ?_;rw[Around.under_plainId F.plain_min_loop _];show wpAny _ A.in1 (seqItems? (.ref S) >>= _) _ _ s;refine wpAny_bind (wpAny_seqItems hS rfl ?_);show wpAny _ A.in1 (tryCatch (pyNext (.ref I)) _ >>= _) _ _ s;by_cases h0:n=0
 ·refine wpAny_bind (wpAny_tryCatch (W0.done s _ _ (h0▸st) fun h' tk kk=>?_));show wpAny _ A.in1 (rule _ >>= _) _ _ _;refine wpAny_bind (wpAny_rule (wpAny_pure ?_));exact hR d h' tk (fun z=>absurd h0 (Nat.ne_of_gt z)) (fun _=>rfl) fun b o n1 _ e=>kk b o n1 e
 ·have hn:0<n:=Nat.pos_of_ne_zero h0;refine wpAny_bind (wpAny_tryCatch (W0.item 0 s _ _ hn st fun v h' tk hPv st' kk=>?_));have hS':=kk S _ hSw hS;show wpAny _ A.in1 (updateSeq S (fun _=>#[v,v]) >>= _) _ _ _;refine wpAny_bind (wpAny_updateSeq hS' rfl ?_);rw[nm];refine wpAny_pure ⟨plainId_quiet F.plain_min_loop _,lG W0 bt hc S hSf _ 0 _ v _ rfl hn (W0.frame _ _ _ st' fun b q o e=>?_) hPv (Heap.get?_update_self _ hS' rfl) fun v2 h2 t2 p2 k2=>?_⟩
  ·exact(Heap.get?_update_other _ _ (fun h:S=b=>hSf (by rw[h];exact q))).trans e
  ·exact hR v2 h2 t2 (fun _=>p2) (fun z=>absurd z h0) fun b o n1 n2 e=>k2 b o n1 n2 ((Heap.get?_update_other _ _ (Ne.symm n2)).trans (kk b o n1 e))
end
section
variable{prog:Program}{w:World}{A:Around}{E:Value->Shared->Prop}{s:Shared}
theorem wf{x d:Value}{Q:Value->Shared->Prop}(h:wpAny (model prog w) A.in1 (pyIter x) (fun it s2=>∃ I fp wr n P St bt,it= .ref I/\Walks prog w A.in1 I fp wr n P St/\St 0 s2.heap/\(∀b∈fp,b<s2.heap.objs.size)/\CmpOf prog w A.in1 .Lt P bt/\
   ∀v h' tk,(0<n->P (argBest bt (n-1)) v)->(n=0->v=d)->(∀b o,b∉wr->s2.heap.get? b=some o->h'.get? b=some o)->Q v {s2 with heap:=h',toks:=tk}) E s) :
  wpAny (model prog w) A (call (.builtin "min") [x] [(Str.ofString "default",d)]) Q E s:=by
 have nm:(toString "min"++toString ".loop" : String)="min.loop" :=by decide
 refine mZ F.kind_min F.plain_min F.entry_min (pF _ _) ?_;show wpAny _ A.in1 (Builtin.Builtins.bindParams "min" ["key","default"] 0 ⟨[],[(Str.ofString "default",d)]⟩ >>= _) _ _ s;refine wpAny_bind (wpAny_of_eq (show Builtin.Builtins.bindParams "min" ["key","default"] 0 ⟨[],[(Str.ofString "default",d)]⟩=pure [none,some d]from rfl) ?_);refine wpAny_bind (wpAny_pure ?_);refine wpAny_bind (wpAny_mono h (fun it s2 h2=>?_) fun _ _ e=>e);obtain⟨I,fp,wr,n,P,St,bt,rfl,W0,st,hfp,hc,hQ⟩:=h2;refine wpAny_bind (wpAny_newObj_type ?_);have hSf:s2.heap.objs.size∉fp:=fun hm=>lt_irrefl _ (hfp _ hm);rw[nm];refine wpAny_pure ⟨plainId_quiet F.plain_min_loop _,lF W0 bt hc s2.heap.objs.size hSf (W0.frame _ _ _ st fun b _ o e=>Heap.get?_push_of_some _ e) (Heap.get?_push_size _ rfl) fun v h' tk p1 p2 kk=>?_⟩;exact hQ v h' tk p1 p2 fun b o n1 e=>kk b o n1 (ne_of_lt (Heap.lt_size e)) (Heap.get?_push_of_some _ e)
end
section
variable{X:Cx}
def ol(m:Int)(ns:List Int):Prop:=m∈ns/\ ∀x∈ns,m<=x
theorem oK{ns:List Int}(hn:0<ns.length):ol (ns.getD (argBest (fun i j=>decide (ns.getD i 0<ns.getD j 0)) (ns.length-1)) 0) ns:=by
 have hb:=bw (fun i j=>decide (ns.getD i 0<ns.getD j 0)) (ns.length-1);have at':∀j,j<ns.length->ns.getD j 0=ns[j]!:=fun j h=>by simp[h]
 refine⟨?_,fun x hx=>?_⟩
 ·have hl:argBest (fun i j=>decide (ns.getD i 0<ns.getD j 0)) (ns.length-1)<ns.length:=by omega
  generalize argBest (fun i j=>decide (ns.getD i 0<ns.getD j 0)) (ns.length-1)=k at hl;have:ns.getD k 0=ns[k]:=by simp[hl]
  rw[this];exact getElem_mem hl
 ·obtain⟨j,hj,rfl⟩:=List.mem_iff_getElem.mp hx;have h1:=bu (val:=fun i=>ns.getD i 0) (ns.length-1) j (by omega);have h2:ns.getD j 0=ns[j]:=by simp[hj]
  rw[<-h2];exact h1
theorem lH{pins:List (Addr×Obj)}{σ:St}{H:Hp}{s:Shared}{k:Bool}{a:Addr}{ns:List Int}{E:Value->Shared->Prop}{d:Value}{Q:Value->Shared->Prop}(hc:X.calm=true)(I:Inv X pins σ H s)(hq:Sq k X.K H a (ns.map V.int))(h:∀h' tk v,(∀b o,s.heap.get? b=some o->h'.get? b=some o)->(0<ns.length-> ∃m t,v= .int m t/\ol m ns)->(ns.length=0->v=d)->Q v {s with heap:=h',toks:=tk}) :
  wpAny (model X.prog X.w) X.A (call (.builtin "min") [.ref a] [(Str.ofString "default",d)]) Q E s:=by
 have hh:X.A.in1.handled=none:=I.ok.hd hc;obtain⟨its,rv,p,hz⟩:=I.sq hq;have hl:=rv.length;rw[length_map]at hl;have hlt:=p.lt;have fin:∀(h':Heap)(tk:Nat)(v:Value),(∀b o,s.heap.get? b=some o->h'.get? b=some o)->(0<its.toArray.size->its.toArray[argBest (fun i j=>decide (ns.getD i 0<ns.getD j 0)) (its.toArray.size-1)]? =some v)->(its.toArray.size=0->v=d)->Q v {s with heap:=h',toks:=tk}:=fun h' tk v kk p1 p2=>by
  rw[size_toArray,<-hl]at p1 p2;refine h h' tk v kk (fun hn=>?_) p2;obtain⟨t,e⟩:=yX rv _ v (p1 hn);exact⟨_,t,e,oK hn⟩
 have apart:∀b∈[s.heap.objs.size,a],b<s.heap.objs.size+1:=fun b hb=>by
  rcases mem_cons.mp hb with rfl|hb
  ·exact Nat.lt_succ_self _
  ·rcases mem_cons.mp hb with rfl|hb
   ·exact lt_succ_of_lt hlt
   ·cases hb
 cases k
 ·refine wf (wpAny_pyIter_list p ⟨_,_,_,_,_,_,_,rfl,Walks.list (A:=X.A.in1) hh _ a (ne_of_lt hlt) its.toArray,⟨⟨_,Heap.get?_push_size _ rfl,rfl,rfl⟩,Heap.IsList.push p _⟩,fun b hb=>?_,CmpOf.ints_lt (fun i=>ns.getD i 0) (yX rv),fun v h' tk p1 p2 kk=>?_⟩)
  ·show b<(s.heap.push _).objs.size;rw[Heap.size_push];exact apart b hb
  ·exact fin h' tk v (fun b o e=>kk b o (by simpa using ne_of_lt (Heap.lt_size e)) (Heap.get?_push_of_some _ e)) p1 p2
 ·refine wf (wpAny_pyIter_tuple p ⟨_,_,_,_,_,_,_,rfl,Walks.tuple (A:=X.A.in1) hh _ a (ne_of_lt hlt) its.toArray,⟨⟨_,Heap.get?_push_size _ rfl,rfl,rfl⟩,Heap.IsTuple.push p _⟩,fun b hb=>?_,CmpOf.ints_lt (fun i=>ns.getD i 0) (yX rv),fun v h' tk p1 p2 kk=>?_⟩)
  ·show b<(s.heap.push _).objs.size;rw[Heap.size_push];exact apart b hb
  ·exact fin h' tk v (fun b o e=>kk b o (by simpa using ne_of_lt (Heap.lt_size e)) (Heap.get?_push_of_some _ e)) p1 p2
def Km(K:W.Frag)(k:Bool)(x d:V)(H:Hp)(Q:VK):Prop:=∃ a ns,x= .ref a/\Sq k K H a (ns.map V.int)/\ ∀v,((ns=[]/\v=d)\/ ∃m,v= .int m/\ol m ns)->Q v H
def JE(K:W.Frag)(k:Bool)(te td:TE):TE:=fun σ H Q=>te σ H fun x H1=>td σ H1 fun d H2=>Km K k x d H2 Q
theorem Y0(k:Bool){e dE:Expr}{te td:TE}{p kp pos:Pos}(hc:X.calm=true)(hg:Gl X "min")(hm:X.mg "min"=none)(he:PE X e te)(hd:PE X dE td)(hse:starEach [e] X.env=[(false,eval e X.env)]:=by rfl):PE X (.Call (.Name "min" p) [e] [⟨some "default",dE,kp⟩] pos) (JE X.K k te td):=by
 intro pins s σ H Q I h;refine wpAny_Call_Name_kw (wj I hg hm boot_min ?_ (by decide) (by decide));refine callWith_kw (thn (zW he ku hse pos pins s σ H (fun vs H1=>match vs with| [x]=>td σ H1 fun d H2=>Km X.K k x d H2 Q| _=>False) I h) fun us s1 ⟨vs,H1,I1,r1,q1⟩=>?_) (by rw[hse];rfl) (by rw[hse];rfl)
 match vs,r1,q1 with
 | [x],r1,q =>
  obtain⟨u,rfl,ru⟩:=ua r1;refine kws_cons (thn (hd pins s1 σ H1 _ I1 q) fun dv s2 ⟨d,H2,I2,r2,q2⟩=>kws_nil ?_);obtain⟨a,ns,rfl,hq,q3⟩:=q2;cases ru;show wpAny _ _ (call (.builtin "min") [.ref a] [(Str.ofString "default",dv)]) _ _ _;refine lH hc I2 hq fun h' tk v kk p1 p2=>?_;by_cases hn:0<ns.length
  ·obtain⟨m,t,rfl,hm⟩:=p1 hn;exact⟨.int m,H2,I2.kept kk,⟨t,rfl⟩,q3 _ (.inr ⟨m,rfl,hm⟩)⟩
  ·have e0:ns.length=0:=by omega
   rw[p2 e0];exact⟨d,H2,I2.kept kk,r2,q3 _ (.inl ⟨List.length_eq_zero_iff.mp e0,rfl⟩)⟩
end
theorem aE{X:Cx}{scope:Scope}{N:List Str}{C:Addr}{s:Shared}{H:Hp}{ex:List Addr}{es:List Expr}{k:Nat}{t:TGs}{pos:Pos}(n:Nat)(hc:X.calm=true)(h:PGs (cxC X scope N C s H ex) es t)(hn:(assignEach es (cxC X scope N C s H ex).env).length=n)(hst:(assignEach es (cxC X scope N C s H ex).env).findIdx? (·.1)=none):PG (cxC X scope N C s H ex) (.Tuple es k pos) (gTup X.K n t):=eS hc h hn hst
section
variable{κ:Type}[DecidableEq κ]
def valV(kvs:List (κ×V))(k:κ):Option V:=(kvs.find? fun kv=>decide (kv.1=k)).map (·.2)
def putK(kvs:List (κ×V))(k:κ)(v:V):List (κ×V) :=
 if(kvs.any fun kv=>decide (kv.1=k))=true then kvs.map (fun kv=>if kv.1=k then(kv.1,v)else kv)else kvs++[(k,v)]
def d9(kvs:List (κ×V))(k:κ):List (κ×V):=kvs.filter fun kv=>decide (kv.1≠k)
theorem qg{p:κ×V}{r:List (κ×V)}{k:κ}(e:p.1=k):valV (p::r) k=some p.2:=by simp[valV,find?_cons,e]
theorem qf{p:κ×V}{r:List (κ×V)}{k:κ}(e:¬p.1=k):valV (p::r) k=valV r k:=by simp[valV,find?_cons,e]
theorem u8(k:κ):∀kvs:List (κ×V),(kvs.any fun kv=>decide (kv.1=k))=(valV kvs k).isSome
 | []=>rfl
 |p::r=>by
  rw[any_cons];by_cases e:p.1=k
  ·simp only[qg e,decide_eq_true e,Bool.true_or,Option.isSome_some]
  ·rw[qf e,decide_eq_false e,Bool.false_or];exact u8 k r
theorem qD(kvs:List (κ×V))(k:κ)(v:V):(putK kvs k v).length<=kvs.length+1:=by
 unfold putK;split
 ·rw[length_map];omega
 ·rw[length_append,length_cons,List.length_nil];omega
theorem sW{kvs:List (κ×V)}{k:κ}(v:V)(h:valV kvs k=none):putK kvs k v=kvs++[(k,v)]:=by
 unfold putK;rw[u8,h];exact if_neg (by decide)
theorem RelO.isSome_eq{o:Option V}{u:Option Value}(r:RelO o u):o.isSome=u.isSome:=by
 cases o with
 |none=>cases u with
  |none=>rfl
  |some _=>exact(show False from r).elim
 |some _=>cases u with
  |none=>exact(show False from r).elim
  |some _=>rfl
theorem KV.val{kvs:List (κ×V)}{vs:List (κ×Value)}(r:KV kvs vs)(k:κ):RelO (valV kvs k) (valueAt vs k):=by
 unfold KV at r
 induction r with
 |nil=>exact True.intro
 | @cons p q ps qs h t ih =>
  obtain⟨h1,h2⟩:=h;by_cases e:p.1=k
  ·have e':q.1=k:=h1.symm.trans e;have b:valueAt (q::qs) k=some q.2:=by simp[valueAt,find?_cons,e']
   rw[qg e,b];exact h2
  ·have e':¬q.1=k:=fun z=>e (h1.trans z);have b:valueAt (q::qs) k=valueAt qs k:=by simp[valueAt,find?_cons,e']
   rw[qf e,b];exact ih
theorem KV.any{kvs:List (κ×V)}{vs:List (κ×Value)}(r:KV kvs vs)(k:κ):(kvs.any fun kv=>decide (kv.1=k))=vs.any fun kv=>decide (kv.1=k):=by
 unfold KV at r
 induction r with
 |nil=>rfl
 |cons h t ih=>rw[any_cons,any_cons,ih,h.1]
theorem KV.repl{kvs:List (κ×V)}{vs:List (κ×Value)}(r:KV kvs vs)(k:κ){y:V}{u:Value}(ry:RelV y u) :
  KV (kvs.map fun kv=>if kv.1=k then(kv.1,y)else kv) (vs.map fun kv=>if kv.1=k then(kv.1,u)else kv):=by
 unfold KV at r ⊢
 induction r with
 |nil=>exact .nil
 | @cons p q ps qs h t ih =>
  rw[map_cons,map_cons];refine .cons ?_ ih;obtain⟨h1,h2⟩:=h;by_cases e:p.1=k
  ·rw[if_pos e,if_pos (h1.symm.trans e)];exact⟨h1,ry⟩
  ·rw[if_neg e,if_neg (fun z=>e (h1.trans z))];exact⟨h1,h2⟩
theorem KV.put{kvs:List (κ×V)}{vs:List (κ×Value)}(r:KV kvs vs)(k:κ){y:V}{u:Value}(ry:RelV y u):KV (putK kvs k y) (stored vs k u):=by
 unfold putK stored;rw[r.any k];by_cases e:(vs.any fun kv=>decide (kv.1=k))=true
 ·rw[if_pos e,if_pos e];exact r.repl k ry
 ·rw[if_neg e,if_neg e];exact Paired.snoc r ⟨rfl,ry⟩
theorem KV.drop{kvs:List (κ×V)}{vs:List (κ×Value)}(r:KV kvs vs)(k:κ):KV (d9 kvs k) (without vs k):=by
 unfold KV at r ⊢;unfold d9 without
 induction r with
 |nil=>exact .nil
 | @cons p q ps qs h t ih =>
  obtain⟨h1,h2⟩:=h;rw[filter_cons,filter_cons];by_cases e:p.1=k
  ·have a:¬decide (p.1≠k)=true:=by simp[e]
   have b:¬decide (q.1≠k)=true:=by simp[h1.symm.trans e]
   rw[if_neg a,if_neg b];exact ih
  ·have e':¬q.1=k:=fun z=>e (h1.trans z);have a:decide (p.1≠k)=true:=by simp[e]
   have b:decide (q.1≠k)=true:=by simp[e']
   rw[if_pos a,if_pos b];exact .cons ⟨h1,h2⟩ ih
theorem KV.length{kvs:List (κ×V)}{vs:List (κ×Value)}(r:KV kvs vs):kvs.length=vs.length:=Paired.length r
theorem oC(kvs:List (κ×V))(k:κ):(d9 kvs k).length<=kvs.length:=List.length_filter_le _ _
end
theorem dq{P:Program}{w:World}{k:Key}{u:Value}(r:RelV (kV k) u):(yg P w).is k u=true:=by
 cases k with
 |inl i=>obtain⟨t,e⟩:=(show ∃t,u=Value.int i t from r);subst e;exact bX P w i t
 |inr x=>obtain⟨t,e⟩:=(show ∃t,u=Value.str x t from r);subst e;exact bY P w x t
theorem dj{P:Program}{w:World}:∀{ks:List Key}{us:List Value},Vals (ks.map kV) us->ItemsAre (yg P w) ks us
 | [],_,r=>by rw[List.map_nil]at r;cases r;exact .nil
 |k::ks,_,r=>by
  rw[map_cons]at r;cases r with
  |cons h t=>exact .cons (dq h) (dj t)
abbrev KT(H:Hp):List (List Key×V)->List (List Key×Addr×Value)->Prop:=Paired fun p q=>p.1=q.1/\H q.2.1=some (.tup (p.1.map kV))/\RelV p.2 q.2.2
theorem KT.val{H:Hp}{kvs:List (List Key×V)}{xs:List (List Key×Addr×Value)}(r:KT H kvs xs)(k:List Key):RelO (valV kvs k) ((atKey xs k).map (·.2)):=by
 induction r with
 |nil=>exact True.intro
 | @cons p q ps qs h t ih =>
  obtain⟨h1,_,h2⟩:=h;by_cases e:p.1=k
  ·have e':q.1=k:=h1.symm.trans e;have b:atKey (q::qs) k=some q.2:=by simp[atKey,find?_cons,e']
   rw[qg e,b];exact h2
  ·have e':¬q.1=k:=fun z=>e (h1.trans z);have b:atKey (q::qs) k=atKey qs k:=by simp[atKey,find?_cons,e']
   rw[qf e,b];exact ih
theorem KT.repl{H:Hp}{kvs:List (List Key×V)}{xs:List (List Key×Addr×Value)}(r:KT H kvs xs)(k:List Key){y:V}{u:Value}(ry:RelV y u) :
  KT H (kvs.map fun kv=>if kv.1=k then(kv.1,y)else kv) (xs.map (putAt k u)):=by
 induction r with
 |nil=>exact .nil
 | @cons p q ps qs h t ih =>
  rw[map_cons,map_cons];refine .cons ?_ ih;obtain⟨h1,h2,h3⟩:=h;unfold putAt;by_cases e:p.1=k
  ·rw[if_pos e,if_pos (h1.symm.trans e)];exact⟨h1,h2,ry⟩
  ·rw[if_neg e,if_neg (fun z=>e (h1.trans z))];exact⟨h1,h2,h3⟩
theorem KT.put{H:Hp}{kvs:List (List Key×V)}{xs:List (List Key×Addr×Value)}(r:KT H kvs xs)(k:List Key){b:Addr}{y:V}{u:Value}(hb:H b=some (.tup (k.map kV)))(ry:RelV y u) :
  KT H (putK kvs k y) (storedH xs k b u):=by
 have e:(kvs.any fun kv=>decide (kv.1=k))=(atKey xs k).isSome:=by
  rw[u8,(r.val k).isSome_eq,Option.isSome_map]
 unfold putK storedH;rw[e];by_cases q:(atKey xs k).isSome=true
 ·rw[if_pos q,if_pos q];exact r.repl k ry
 ·rw[if_neg q,if_neg q];exact Paired.snoc r ⟨rfl,hb,ry⟩
theorem KT.keeps{H H':Hp}{kvs:List (List Key×V)}{xs:List (List Key×Addr×Value)}(r:KT H kvs xs)(ht:∀b ys,H b=some (.tup ys)->H' b=some (.tup ys)):KT H' kvs xs :=
 Paired.mapP r fun _ _ z=>⟨z.1,ht _ _ z.2.1,z.2.2⟩
section
variable{P:Program}{w:World}{H:Hp}{h:Heap}{a:Addr}
theorem Kk{u:HO}(ok:HOk P w H h)(e:Rd H a u):zS P w H h a u:=e.ok ok
theorem fA{kvs:List (Key×V)}(ok:HOk P w H h)(e:Rd H a (.dK kvs)):kvs.length<=sizeLine/\(a==sysModules)=false/\ ∃vs,KV kvs vs/\h.DictOf (yg P w) a vs :=
 show zS P w H h a (.dK kvs)from Kk ok e
theorem iO{kvs:List (Key×V)}(ok:HOk P w H h)(e:H a=some (.dK kvs)):kvs.length<=sizeLine/\(a==sysModules)=false/\ ∃vs,KV kvs vs/\h.DictOf (yg P w) a vs:=fA ok (.inl e)
theorem eE{ks:List Key}(ok:HOk P w H h)(e:H a=some (.tup (ks.map kV))):(tupleKind (yg P w)).is h ks a:=by
 obtain⟨_,its,r,⟨o,h1,h2,n,h3⟩,_⟩:=(show zS P w H h a (.tup (ks.map kV))from ok a _ e);exact⟨o,its.toArray,n,h1,h2,h3,by simpa using dj r⟩
theorem iP{kvs:List (List Key×V)}(ok:HOk P w H h)(e:Rd H a (.dT kvs)):kvs.length<=sizeLine/\(a==sysModules)=false/\
  ∃xs,KT H kvs xs/\h.DictOfH (tupleKind (yg P w)) a xs:=by
 obtain⟨z,y,xs,r,o,es,ep,h1,h2,h3,h4,h5⟩:=(show zS P w H h a (.dT kvs)from Kk ok e);refine⟨z,y,xs,r,o,es,ep,h1,h2,h3,h4,fun x hx=>?_,h5⟩;have all:∀{l:List (List Key×V)}{m:List (List Key×Addr×Value)},KT H l m-> ∀x∈m,(tupleKind (yg P w)).is h x.1 x.2.1:=by
  intro l m q
  induction q with
  |nil=>intro x hx;exact nomatch hx
  | @cons p q ps qs hq t ih =>
   intro x hx;rcases mem_cons.mp hx with e|hx
   ·subst e;exact eE ok (by rw[<-hq.1];exact hq.2.1)
   ·exact ih x hx
 exact all r x hx
theorem KY{kvs:List (List Key×V)}(ok:HOk P w H h)(e:H a=some (.dT kvs)):kvs.length<=sizeLine/\(a==sysModules)=false/\
  ∃xs,KT H kvs xs/\h.DictOfH (tupleKind (yg P w)) a xs:=iP ok (.inl e)
end
def DGet(H:Hp)(a:Addr)(y:V)(r:Option V):Prop :=
 (∃kvs k,Rd H a (.dK kvs)/\y=kV k/\r=valV kvs k)\/ ∃kvs k b,Rd H a (.dT kvs)/\y= .ref b/\H b=some (.tup (k.map kV))/\r=valV kvs k
def DPut(H:Hp)(a:Addr)(y v:V)(H':Hp):Prop :=
 (∃kvs k,H a=some (.dK kvs)/\y=kV k/\kvs.length<sizeLine/\H'=upd H a (.dK (putK kvs k v)))\/
 ∃kvs k b,H a=some (.dT kvs)/\y= .ref b/\H b=some (.tup (k.map kV))/\kvs.length<sizeLine/\H'=upd H a (.dT (putK kvs k v))
theorem DGet.k{H:Hp}{a:Addr}{kvs:List (Key×V)}{k:Key}(e:H a=some (.dK kvs)):DGet H a (kV k) (valV kvs k):=.inl ⟨kvs,k,.inl e,rfl,rfl⟩
theorem DPut.k{H:Hp}{a:Addr}{kvs:List (Key×V)}{k:Key}{v:V}(e:H a=some (.dK kvs))(hl:kvs.length<sizeLine):DPut H a (kV k) v (upd H a (.dK (putK kvs k v))):=.inl ⟨kvs,k,e,rfl,hl,rfl⟩
section
variable{X:Cx}{pins:List (Addr×Obj)}{σ:St}{H:Hp}{s:Shared}{a:Addr}{y v:V}{u r:Value}{o:Option V}{A:Around}{E:Value->Shared->Prop}
theorem Inv.big(I:Inv X pins σ H s):sysModules<s.heap.objs.size:=by
 have h:mainGlobals<s.heap.objs.size:=(I.mod.glob.keeps I.bk).lt;exact Nat.lt_trans (by decide) h
theorem iH{Q:Value->Shared->Prop}(hu:A.units+1<cLine)(I:Inv X pins σ H s)(g:DGet H a y (some v))(ry:RelV y u)(h:∀w' s',Inv X pins σ H s'->RelV v w'->Q w' s') :
  wpAny (model X.prog X.w) A (getItem (.ref a) u) Q E s:=by
 rcases g with⟨kvs,k,e,ey,l⟩|⟨kvs,k,b,e,ey,eb,l⟩
 ·subst ey;obtain⟨z,hd,vs,rel,dd⟩:=fA I.hok e;obtain⟨w',hw,rw'⟩:=RelO.some_of (v:=v) (o:=valueAt vs k) (by rw[l];exact rel.val k);exact wpAny_getItem_of (dq ry) dd.mapOf hw (h w' _ (I.tok _) rw')
 ·subst ey;cases(show u=Value.ref b from ry);obtain⟨z,hd,xs,rel,dd⟩:=iP I.hok e;obtain⟨w',hw,rw'⟩:=RelO.some_of (v:=v) (o:=(atKey xs k).map (·.2)) (by rw[l];exact rel.val k);obtain⟨p,hp,hp2⟩:=map_eq_some_iff.mp hw;refine wpAny_getItem_heap (tupleKind_room_in1 hu) (eE I.hok eb) dd hp ?_;rw[hp2];exact h w' _ (I.tok _) rw'
theorem ZF{Q:Value->Shared->Prop}(hu:A.units+1<cLine)(I:Inv X pins σ H s)(g:DGet H a y o)(ry:RelV y u)(h:∀s',Inv X pins σ H s'->Q (.bool (!o.isSome)) s') :
  wpAny (model X.prog X.w) A (compareOp .NotIn u (.ref a)) Q E s:=by
 rcases g with⟨kvs,k,e,ey,l⟩|⟨kvs,k,b,e,ey,eb,l⟩
 ·subst ey;obtain⟨z,hd,vs,rel,dd⟩:=fA I.hok e;refine wpAny_notIn_of (dq ry) hd dd.mapOf ?_;rw[<-(rel.val k).isSome_eq,<-l];exact h _ (I.tok _)
 ·subst ey;cases(show u=Value.ref b from ry);obtain⟨z,hd,xs,rel,dd⟩:=iP I.hok e;refine wpAny_notIn_heap (tupleKind_room_in1 hu) (eE I.hok eb) hd dd ?_;have q:=(rel.val k).isSome_eq;rw[Option.isSome_map]at q;rw[<-q,<-l];exact h _ (I.tok _)
theorem bL{h':Heap}{t':Nat}{ob:HO}(I:Inv X pins σ H s)(mu:Mut (H a))(hs:Heap.SameBut a s.heap h')(he:∃q,h'.get? a=some q)(new:zS X.prog X.w (upd H a ob) h' a ob) :
  Inv X pins σ (upd H a ob) {s with heap:=h',toks:=t'} :=
 I.write (x:=a) (e:=a) mu (.inl rfl) (fun b q hb z=>(hs.2 b hb).trans z) he new
theorem Zl{P:Program}{w:World}{H':Hp}{h':Heap}{kvs:List (Key×V)}{vs:List (Key×Value)}(z:kvs.length<=sizeLine)(hd:(a==sysModules)=false)(rel:KV kvs vs)(dd:h'.DictOf (yg P w) a vs) :
  zS P w H' h' a (.dK kvs):=⟨z,hd,vs,rel,dd⟩
theorem iI{H':Hp}{Q:Unit->Shared->Prop}(hu:A.units+1<cLine)(I:Inv X pins σ H s)(g:DPut H a y v H')(ry:RelV y u)(rv:RelV v r)(h:∀s',Inv X pins σ H' s'->Q () s') :
  wpAny (model X.prog X.w) A (setItem (.ref a) u r) Q E s:=by
 rcases g with⟨kvs,k,e,ey,l,eH⟩|⟨kvs,k,b,e,ey,eb,l,eH⟩
 ·subst ey eH;obtain⟨z,hd,vs,rel,dd⟩:=iO I.hok e;have hz:vs.length<=sizeLine:=by rw[<-rel.length];exact z
  have hl:(putK kvs k v).length<=sizeLine:=by have:=qD kvs k v;omega
  refine wpAny_setItem_pairs (hsz:=hz) (dq ry) dd fun h' dd' hs=>h _ ?_;have he:∃q,h'.get? a=some q:=let⟨q,_,_,hq,_⟩:=dd';⟨q,hq⟩
  exact bL I (by rw[e];exact True.intro) hs he (Zl hl hd (rel.put k rv) dd')
 ·subst ey eH;cases(show u=Value.ref b from ry);obtain⟨z,hd,xs,rel,dd⟩:=KY I.hok e;have hz:xs.length<=sizeLine:=by rw[<-Paired.length rel];exact z
  have hl:(putK kvs k v).length<=sizeLine:=by have:=qD kvs k v;omega
  refine wpAny_setItem_heap (hsz:=hz) (tupleKind_room_in1 hu) (eE I.hok eb) dd fun h' dd' hs=>h _ ?_;obtain⟨q,es,ep,hq,h2,h3,h4,_,h5⟩:=dd';refine bL I (by rw[e];exact True.intro) hs ⟨q,hq⟩ ⟨hl,hd,_,(rel.put k eb rv).keeps fun c ys ec=>?_,q,es,ep,hq,h2,h3,h4,h5⟩;rw[zh (jb ec e (fun z=>nomatch z))];exact ec
end
section
variable{X:Cx}{pins:List (Addr×Obj)}{σ:St}{H:Hp}{s:Shared}{a:Addr}{kvs:List (Key×V)}{k:Key}{u:Value}{A:Around}{E:Value->Shared->Prop}
theorem KW{v:V}{more:List Value}{Q:Value->Shared->Prop}(I:Inv X pins σ H s)(e:H a=some (.dK kvs))(ry:RelV (kV k) u)(l:valV kvs k=some v)(hm:more=[]\/ ∃x,more=[x])(h:∀w' s',Inv X pins σ (upd H a (.dK (d9 kvs k))) s'->RelV v w'->Q w' s'):wpAny (model X.prog X.w) A (call (.builtin "dict.pop") (.ref a::u::more)) Q E s:=by
 obtain⟨z,hd,vs,rel,dd⟩:=iO I.hok e;obtain⟨w',hw,rw'⟩:=RelO.some_of (v:=v) (o:=valueAt vs k) (by rw[<-l];exact rel.val k);have hp:(keyPart u).isSome=true:=by
  cases k with
  |inl i=>obtain⟨t,q⟩:=(show ∃t,u=Value.int i t from ry);subst q;rfl
  |inr x=>obtain⟨t,q⟩:=(show ∃t,u=Value.str x t from ry);subst q;rfl
 have ha:argsOk "dict.pop" ⟨.ref a::u::more,[]⟩:=by
  rcases hm with q|⟨x,q⟩
  ·subst q;exact PySem.F.args_dict_pop_2 _ _
  ·subst q;exact PySem.F.args_dict_pop_3 _ _ _
 refine call_meetsIn PySem.F.slot_dict_pop dd.typeIs PySem.F.entry_dict_pop ha (meets_dict_pop_there (yg X.prog X.w) a (dq ry) more hm hp)
  ⟨vs,w',dd,by rw[<-rel.length];exact z,hw,fun h' dd' hs=>h w' _ ?_ rw'⟩
 have he:∃q,h'.get? a=some q:=let⟨q,_,_,hq,_⟩:=dd';⟨q,hq⟩
 exact bL I (by rw[e];exact True.intro) hs he (Zl (le_trans (oC kvs k) z) hd (rel.drop k) dd')
theorem KU{Q:Value->Shared->Prop}(I:Inv X pins σ H s)(e:Rd H a (.dK kvs))(h:∀t s',Inv X pins σ H s'->Q (.int kvs.length t) s'):wpAny (model X.prog X.w) A (call (.builtin "len") [.ref a]) Q E s:=by
 obtain⟨z,hd,vs,rel,dd⟩:=fA I.hok e;refine call_len_dict hd dd (by rw[<-rel.length];rw[sizeLine_eq]at z;omega) ?_;rw[<-rel.length];exact h _ _ (I.tok _)
end
def NoSl(i:Expr):Prop:=∀ ov iv,subscripted i false ov iv=operate [ov,iv] (getItem ov iv)
theorem nY{prog:Program}{w:World}{A:Around}{E:Value->Shared->Prop}{s:Shared}{env:Env}{value slice:Expr}{pos:Pos}{T id:String}{Q:Value->Shared->Prop}(hl:typeLookup (.type T) "__getitem__"=pure (some (.builtin id)))(hs:NoSl slice)(h:wpAny (model prog w) A (eval value env) (fun o s₁=>wpAny (model prog w) A (eval slice env) (fun i s₂=>s₂.TypeIs o T/\wpAny (model prog w) A (getItem o i) Q E s₂) E s₁) E s) :
  wpAny (model prog w) A (eval (.Subscript value slice pos) env) Q E s:=by
 refine Subscript_ (wpAny_mono h (fun o s₁ h₁=>wpAny_mono h₁ (fun i s₂ h₂=>?_) fun _ _ x=>x) fun _ _ x=>x);obtain⟨hT,h₂⟩:=h₂;unfold subscriptTail;refine wpAny_bind ?_;rw[getitemInPython_of_ne hT.not_modules];refine wpAny_bind (wpAny_specialOf hT hl ?_);have fin:wpAny (model prog w) A (subscripted slice false o i) (fun r s₃=>wpAny (model prog w) A (letTemporaryGo value o r >>= fun _=>pure r) Q E s₃) E s₂:=by
  rw[hs o i];exact wpAny_operating (wpAny_mono h₂ (fun r s₃ h₃=>wpAny_bind (wpAny_letTemporaryGo (wpAny_pure h₃))) fun _ _ x=>x)
 first
  |exact wpAny_pure (wpAny_bind fin)
  |exact wpAny_bind (wpAny_pure (wpAny_bind fin))
  |exact wpAny_bind fin
theorem bN{X:Cx}{pins:List (Addr×Obj)}{σ:St}{H:Hp}{s:Shared}{a:Addr}{y:V}{o:Option V}(I:Inv X pins σ H s)(g:DGet H a y o):s.TypeIs (.ref a) "dict" :=by
 rcases g with⟨kvs,k,e,_,_⟩|⟨kvs,k,b,e,_,_,_⟩
 ·obtain⟨_,_,vs,_,dd⟩:=fA I.hok e;exact dd.typeIs
 ·obtain⟨_,_,xs,_,dd⟩:=iP I.hok e;exact dd.typeIs
def Jw(td ty:TE):TE:=fun σ H Q=>td σ H fun x H1=>ty σ H1 fun y H2=>∃ a v,x= .ref a/\DGet H2 a y (some v)/\Q v H2
def Js(td ty tv:TE):TS:=fun D σ H=>tv σ H fun v H1=>td σ H1 fun x H2=>ty σ H2 fun y H3=>∃ a H4,x= .ref a/\DPut H3 a y v H4/\D.nx σ H4
section
variable{X:Cx}{o i e value:Expr}{pos pos' tpos:Pos}{td ty tv:TE}
theorem ur(hu:X.A.units+1<cLine)(ho:PE X o td)(hi:PE X i ty)(hs:NoSl i):PE X (.Subscript o i pos) (Jw td ty):=by
 intro pins s σ H Q I h;refine nY PySem.F.slot_dict_getitem.lookup hs (thn (ho pins s σ H _ I h) fun u s1 ⟨x,H1,I1,rx,q1⟩=>thn (hi pins s1 σ H1 _ I1 q1) fun iv s2 ⟨y,H2,I2,ry,a,v,ex,g,q2⟩=>?_);subst ex;obtain rfl:u=Value.ref a:=rx;exact⟨bN I2 g,iH hu I2 g ry fun w' s3 I3 rw'=>⟨v,H2,I3,rw',q2⟩⟩
theorem nD(hu:X.A.units+1<cLine)(ho:PE X o td)(hi:PE X i ty)(hv:PE X value tv)(hs:swapsWith value (some (.Subscript o i pos')) pos.line X.env=pure false) :
  PS X (.Assign [.Subscript o i pos'] value pos) (Js td ty tv):=by
 intro pins s σ H D I h;refine wpAny_Assign_Subscript (thn (hv pins s σ H _ I h) fun r s1 ⟨v,H1,I1,rv,q1⟩=>thn (ho pins s1 σ H1 _ I1 q1) fun u s2 ⟨x,H2,I2,rx,q2⟩=>thn (hi pins s2 σ H2 _ I2 q2) fun iv s3 ⟨y,H3,I3,ry,a,H4,ex,g,q3⟩=>?_) hs;subst ex;obtain rfl:u=Value.ref a:=rx;exact iI hu I3 g ry rv fun s4 I4=>⟨σ,H4,I4,q3⟩
end
theorem oB{P:Program}{w:World}{H:Hp}(h:Heap)(hb:sysModules<h.objs.size):zS P w H (h.push {cls:=.type "dict",data:=.dict #[]}) h.objs.size (.dK []) :=
 ⟨zero_le _,beq_eq_false_iff_ne.mpr (Ne.symm (ne_of_lt hb)),[],.nil,Heap.DictOf.new h⟩
def Ks:TE:=fun _ H Q=>∀ p,H p=none->Q (.ref p) (upd H p (.dK []))
section
variable{X:Cx}{pos:Pos}
theorem eO:PE X (.Dict [] [] pos) Ks:=fun pins s σ H Q I h =>
 wpAny_Dict_empty ⟨.ref s.heap.objs.size,_,I.laid (a:=s.heap.objs.size) (o:=.dK []) (t':=s.toks) (fun _ _ q=>Heap.get?_push_of_some _ q) (le_refl _) (oB s.heap I.big),rfl,h _ (I.hok.fresh (le_refl _))⟩
end
structure M1(X:Cx)(o:Expr)(m:Str)(apos:Pos)(e:Expr)(cpos:Pos):Prop where
 base:attributeBase o m X.env (eval o X.env)=eval o X.env
 few:((backTo cpos (starEach [e] X.env)).all (fun x=>!x.1)&&(backToKw cpos (keywordEach [] X.env)).all (fun x=>x.1.isSome)
  &&decide (([e]:List Expr).length+([]:List Keyword).length+(if([]:List Keyword).isEmpty then 0 else 1)<30))=true
 line:(apos.endLine==cpos.line)=true
 trees:backTo cpos (starEach [e] X.env)=[(false,eval e X.env)]
def IsD(H:Hp)(a:Addr):Prop:=(∃kvs,Rd H a (.dK kvs))\/ ∃kvs,Rd H a (.dT kvs)
theorem YC{X:Cx}{pins:List (Addr×Obj)}{σ:St}{H:Hp}{s:Shared}{a:Addr}(I:Inv X pins σ H s)(d:IsD H a) :
  s.TypeIs (.ref a) "dict"/\(∀b,Value.ref a= .ref b-> ∃ob,s.heap.get? b=some ob/\ob.dict=none)/\(a==sysModules)=false:=by
 rcases d with⟨kvs,e⟩|⟨kvs,e⟩
 ·obtain⟨_,hd,vs,_,dd⟩:=fA I.hok e;refine⟨dd.typeIs,fun b q=>?_,hd⟩;cases q;obtain⟨ob,_,_,h1,h2,_⟩:=dd;exact⟨ob,h1,h2.2.1⟩
 ·obtain⟨_,hd,xs,_,dd⟩:=iP I.hok e;refine⟨dd.typeIs,fun b q=>?_,hd⟩;cases q;obtain⟨ob,_,_,h1,h2,_⟩:=dd;exact⟨ob,h1,h2.2.1⟩
def Kt(td ty:TE):TE:=fun σ H Q=>td σ H fun x H1=>∃ a,x= .ref a/\IsD H1 a/\ty σ H1 fun y H2=>∃ kvs k v,H2 a=some (.dK kvs)/\y=kV k/\valV kvs k=some v/\Q v (upd H2 a (.dK (d9 kvs k)))
section
variable{X:Cx}{o e f:Expr}{apos cpos:Pos}{td ty tx:TE}
theorem sv(ho:PE X o td)(he:PE X e ty)(m:M1 X o "pop" apos e cpos):PE X (.Call (.Attribute o "pop" apos) [e] [] cpos) (Kt td ty):=by
 intro pins s σ H Q I h;refine wpAny_Call_method m.base m.few m.line PySem.F.plainAttrs_dict PySem.F.slot_dict_pop PySem.F.type_dict_pop (thn (ho pins s σ H _ I h) fun u s1 ⟨x,H1,I1,rx,a,ex,d,q1⟩=>?_);subst ex;obtain rfl:u=Value.ref a:=rx;obtain⟨t1,t2,_⟩:=YC I1 d;refine⟨t1,t2,?_⟩;rw[m.trees];refine Calls.callWith_builtin rfl (Calls.evalArgs_plain (Calls.spliced_cons (thn (he pins s1 σ H1 _ I1 q1) fun iv s2 ⟨y,H2,I2,ry,kvs,k,v,ea,ey,l,q2⟩=>Calls.spliced_nil ?_)));subst ey;exact KW I2 ea ry l (.inl rfl) fun w' s3 I3 rw'=>⟨v,_,I3,rw',q2⟩
end
section
variable{κ:Type}[DecidableEq κ]
theorem Z9{kvs:List (κ×V)}{k:κ}(h:valV kvs k=none):¬k∈kvs.map (·.1):=by
 intro m;obtain⟨p,hp,e⟩:=mem_map.mp m;have q:(kvs.any fun kv=>decide (kv.1=k))=true:=List.any_eq_true.mpr ⟨p,hp,decide_eq_true e⟩;rw[u8,h]at q;exact absurd q (by simp)
theorem Yj{kvs:List (κ×V)}{k:κ}{v:V}(h:valV kvs k=some v):k∈kvs.map (·.1):=by
 have q:(kvs.any fun kv=>decide (kv.1=k))=true:=by
  rw[u8,h]
  all_goals rfl
 obtain⟨p,hp,e⟩:=List.any_eq_true.mp q;exact mem_map.mpr ⟨p,hp,of_decide_eq_true e⟩
end
theorem uQ{α β:Type}{R:α-> β->Prop}:∀{xs:List α}{ys:List β},xs.length=ys.length->(∀(j:Nat) x y,xs[j]? =some x->ys[j]? =some y->R x y)->Paired R xs ys
 | [],[],_,_=>.nil
 |x::xs,y::ys,hl,h=>.cons (h 0 x y rfl rfl) (uQ (by simpa using hl) fun j a b e1 e2=>h (j+1) a b (by simpa using e1) (by simpa using e2))
theorem lr{kvs:List (Key×V)}{vs:List (Key×Value)}(r:KV kvs vs):vs.map (·.1)=kvs.map (·.1):=by
 unfold KV at r
 induction r with
 |nil=>rfl
 |cons h _ ih=>rw[map_cons,map_cons,ih,h.1]
section
variable{prog:Program}{w:World}{A:Around}{E:Value->Shared->Prop}{s:Shared}
theorem pQ{x:Value}{ns:List Int}{b:Bool}{Q:Value->Shared->Prop}(h64:ns.length<64)(hc:∀(R:List Value->Shared->Prop),(∀h' tk (vs:List Value),(∀b o,s.heap.get? b=some o->h'.get? b=some o)->IntsAre vs ns->R vs {s with heap:=h',toks:=tk})->wpAny (model prog w) A.in1 (collect x) R E s)(h:∀(out:List Value) (n:Nat) (h1 h':Heap) (tk:Nat) (ns':List Int),(∀b o,s.heap.get? b=some o->h1.get? b=some o)->(∀b o,h1.get? b=some o->h'.get? b=some o)->h'.get? h1.objs.size=some (seqObj "list" out.toArray n)->IntsAre out ns'->ns'.Perm ns->Ordered b ns'->Q (.ref h1.objs.size) {s with heap:=h',toks:=tk}) :
  wpAny (model prog w) A (call (.builtin "sorted") [x] [(Str.ofString "reverse",.bool b)]) Q E s:=by
 refine call_function_entry_kw kind_sorted plain_sorted entry_sorted (args_sorted_rev _ _) ?_;unfold Builtin.«sorted»;refine wpAny_bind (m:=checkCount "sorted" 1 1 _) (wpAny_pure ?_);refine wpAny_bind (hc _ fun h1 tk vs hk1 hI=>?_);have hlv:vs.length<64:=by rw[<-hI.length]at h64;exact h64
 refine wpAny_bind (wpAny_newList ?_ (le_trans (Nat.le_of_lt hlv) (by decide)));have hoL:(h1.push (seqObj "list" vs.toArray 0)).get? h1.objs.size=some (seqObj "list" vs.toArray 0):=Heap.get?_push_size _ rfl;refine wpAny_bind (wpAny_holding (wpAny_call_entry_kw slot_list_sort ⟨_,hoL,rfl⟩ entry_list_sort (list_sort_tree_rev hoL hI hlv fun out ns' a1 a2 a3=>⟨_,rfl,?_⟩) (args_list_sort_rev _ _)));obtain⟨e,he⟩:=sortedHeap_at (vs:=vs) (out:=out) hoL;refine wpAny_pure ⟨_,rfl,h out.toList e h1 _ tk ns' hk1 (fun b o hb=>?_) he a1 a2 a3⟩;have hlt:=Heap.lt_size hb;rw[sortedHeap_old (ne_of_lt hlt) (by rw[Heap.size_push];exact lt_succ_of_lt hlt)];exact Heap.get?_push_of_some _ hb
end
section
variable{X:Cx}
def Zw(b:Bool):V->Hp->VK->Prop:=fun x H Q=>∃ a kvs ns,x= .ref a/\H a=some (.dK kvs)/\kvs.map (·.1)=(ns:List Int).map Sum.inl/\ns.length<64/\ ∀ns' p,ns.Nodup->ns'.Perm ns->Ordered b ns'->H p=none->Q (.ref p) (upd H p (.lst (ns'.map V.int)))
def Ky(b:Bool)(te:TE):TE:=fun σ H Q=>te σ H fun x H1=>Zw b x H1 Q
theorem sx{e:Expr}{te:TE}{b:Bool}{p kp cp pos:Pos}{j:Nat}(hcm:X.calm=true)(hg:Gl X "sorted")(hm:X.mg "sorted"=none)(he:PE X e te)(hse:starEach [e] X.env=[(false,eval e X.env)]:=by rfl):PE X (.Call (.Name "sorted" p) [e] [⟨some "reverse",.Constant (.bool b) j cp,kp⟩] pos) (Ky b te):=by
 intro pins s σ H Q I h;refine wpAny_Call_Name_kw (wj I hg hm boot_sorted ?_ (by decide) (by decide));refine callWith_kw (thn (zW he ku hse pos pins s σ H (fun vs H1=>match vs with| [x]=>Zw b x H1 Q| _=>False) I h) fun us s1 ⟨vs,H1,I1,r1,q1⟩=>?_) (by rw[hse];rfl) (by rw[hse];rfl)
 match vs,r1,q1 with
 | [x],r1,q =>
  obtain⟨u,rfl,ru⟩:=ua r1;refine kws_cons (Constant_bool (kws_nil ?_));obtain⟨a,kvs,ns,rfl,hq,hks,hl,q⟩:=q;cases ru;show wpAny _ _ (call (.builtin "sorted") [.ref a] [(Str.ofString "reverse",.bool b)]) _ _ _;have hh:X.A.in1.handled=none:=I1.ok.hd hcm;obtain⟨hz,lo,ws,rel,o,es,ep,ho,hex,hd,hko,hpr,hnd⟩:=iO I1.hok hq;have hkeys:ws.map (·.1)=ns.map Sum.inl:=by rw[lr rel,hks]
  have hlen:ws.length=ns.length:=by
   have:=congrArg length hkeys;simpa using this
  have hdup:ns.Nodup:=by
   rw[hkeys]at hnd;exact(List.Pairwise.of_map (S:=fun a b=>a≠b) Sum.inl (fun a b h z=>h (by rw[z])) hnd)
  refine pQ hl (fun R hR=>W.kdu_collect (A:=X.A.in1) (W.kdl_dict (knd:=yg X.prog X.w) (kvs:=ws) (ep:=ep) lo) hh ⟨o,es,ho,hex,hd,hko,hpr,hnd⟩ (by rw[hlen];exact yW hl) fun h' tk acc hk hacc=>hR h' tk acc.toList hk ?_) fun out n h1 h' tk ns' k1 k2 e a1 a2 a3=>?_
  ·have hla:acc.toList.length=ns.length:=by rw[Array.length_toList,hacc.1,hlen]
   refine vo (uQ (by rw[length_map,hla]) fun j x y e1 e2=>?_);obtain⟨z,hz,rfl⟩:=jI e1;obtain⟨kk,xx,hkk,his⟩:=hacc.2 j y (by rw[<-Array.getElem?_toList];exact e2);have e3:(ws.map (·.1))[j]? =some kk:=by rw[getElem?_map,hkk];rfl
   rw[hkeys,getElem?_map,hz]at e3;have e4:Sum.inl z=kk:=Option.some.inj e3;subst e4;rcases zO (show dw (Sum.inl z) y=true from his)with⟨i,t,e5,e6⟩|⟨i,t,e5,e6⟩
   ·cases e5;exact⟨t,e6⟩
   ·cases e5
  ·have hz':(ns'.map V.int).length<=sizeLine:=by rw[length_map,a2.length_eq];exact yW hl
   have I2:Inv X pins σ H1 {s1 with heap:=h1}:=I1.kept (t':=s1.toks) k1;exact⟨.ref _,_,I2.laid (t':=tk) k2 (le_refl _) (show zS X.prog X.w _ _ _ (.lst (ns'.map V.int))from⟨hz',out,n,wY a1,by simpa [seqObj]using e⟩),rfl,q ns' _ hdup a2 a3 (I2.hok.fresh (le_refl _))⟩
end
section
variable{X:Cx}
def i9(K:W.Frag):R2:=fun x y H Q=>∃ a b xs ys,x= .ref a/\y= .ref b/\SqT K H a xs/\SqT K H b ys/\xs.length+ys.length<=sizeLine/\
 (xs=[]->Q (.ref b) H)/\(xs≠[]->ys=[]->Q (.ref a) H)/\(xs≠[]->ys≠[]-> ∀p,H p=none->Q (.ref p) (upd H p (.tup (xs++ys))))
theorem vA:OpR X (binaryOp .Add) (i9 X.K):=by
 intro pins s σ H x y v u Q I rx ry h;obtain⟨a,b,xs,ys,rfl,rfl,ha,hb,hz,q0,q1,q2⟩:=h;by_cases hx:xs=[]
 ·cases rx;cases ry;obtain⟨its,r1,p1,_⟩:=I.tuple ha;obtain⟨its2,r2,p2,_⟩:=I.tuple hb;obtain⟨⟨cls,dd,data,sl⟩,ho,hc,n,hd⟩:=id p1;obtain⟨⟨cls2,dd2,data2,sl2⟩,ho2,hc2,n2,hd2⟩:=id p2;simp only at hc hd hc2 hd2;subst hc hd hc2 hd2;have e0:its.toArray.isEmpty=true:=by
   have:=r1.nil_iff.mpr hx;simp[this]
  exact concat_meets ⟨_,ho,rfl⟩ ⟨_,ho2,rfl⟩ noFill_tuple_add seq_tuple_add PySem.F.slot_tuple_add PySem.F.entry_tuple_add (PySem.F.args_tuple_add_2 _ _)
   (tuple_addW0 a b its.toArray its2.toArray n n2 dd dd2 sl sl2 e0) ⟨ho,ho2,⟨.ref b,H,I,rfl,q0 hx⟩⟩
 ·exact ZX pins s σ H (.ref a) (.ref b) v u Q I rx ry ⟨a,b,xs,ys,rfl,rfl,ha,hb,hx,hz,q1 hx,q2 hx⟩
def JB(ta:TA):TE:=fun σ H Q=>ta σ H fun vs H1=>∃ j:Int,vs=[.int j]/\ ∀p,H1 p=none->Q (.ref p) (upd H1 p (.rng 0 j))
theorem Y1{a:Expr}{ta:TA}{p pos:Pos}(hg:Gl X "range")(hm:X.mg "range"=none)(ha:PA X [a] ta)(hs:starEach [a] X.env=[(false,eval a X.env)]:=by rfl):PE X (.Call (.Name "range" p) [a] [] pos) (JB ta):=by
 intro pins s σ H Q I h;refine Call_ (wj I hg hm boot_range (PyProof.Rows.callWith_type1 (thn (ha pos pins s σ H _ I h) fun us s1 ⟨vs,H1,I1,r1,q1⟩=>?_) hs rfl));obtain⟨j,e,q⟩:=q1;subst e;cases r1 with
 |cons r rr =>
  cases rr;obtain⟨t,rfl⟩:=r;refine call_range_1 ?_;exact⟨.ref _,_,I1.laid (o:=.rng 0 j) (fun b o e=>Heap.get?_push_of_some _ e) (le_refl _) ⟨_,_,_,Heap.get?_push_size _ rfl⟩,rfl,q _ (I1.hok.fresh (le_refl _))⟩
theorem rW(hc:X.calm=true):wv X (.type "list") (fun xs H Q=>∃(p:Addr)(hi:Int),xs=[.ref p]/\H p=some (.rng 0 hi)/\0<=hi/\hi<=100000/\ ∀l,H l=none->Q (.ref l) (upd H l (.lst (((List.range hi.toNat).map fun(k:Nat)=>(k:Int)).map V.int)))):=by
 intro pins s σ H xs us Q I r h;obtain⟨p,hi,rfl,hq,h0,h1,q⟩:=h;obtain⟨u,rfl,ru⟩:=ua r;cases ru;obtain⟨t1,t2,t3,e⟩:=I.hok p _ hq;have hn:Builtin.Range.rangeSize 0 hi 1=((hi.toNat:Nat):Int):=by rw[rangeSize_one];split <;>omega
 refine call_list_range (I.ok.hd hc) e (small_one (by decide) (by decide) (by omega) (by omega)) hn (by omega) fun h' tk acc c kk hS hacc=>?_;refine⟨.ref _,_,I.laid (t':=tk) (o:=.lst (((List.range hi.toNat).map fun(k:Nat)=>(k:Int)).map V.int)) kk (le_refl _) ⟨?_,acc.toList,c,uQ ?_ (fun j x y e1 e2=>?_),by simpa using hS⟩,rfl,q _ (I.hok.fresh (le_refl _))⟩
 ·rw[length_map,length_map,List.length_range];have:(100000:Nat)<=sizeLine:=by decide
  omega
 ·rw[length_map,length_map,List.length_range,Array.length_toList,hacc.1]
 ·obtain⟨z,hz,rfl⟩:=jI e1;obtain⟨tk,rfl⟩:=hacc.2 j y (by rw[<-Array.getElem?_toList];exact e2);rw[getElem?_map]at hz;cases hr:(List.range hi.toNat)[j]? with
  |none=>rw[hr]at hz;cases hz
  |some k =>
   rw[hr]at hz;have ek:j=k:=by
    obtain⟨h1,h2⟩:=List.getElem?_eq_some_iff.mp hr;rw[List.getElem_range]at h2;exact h2
   have:(k:Int)=z:=Option.some.inj hz;refine⟨tk,?_⟩;rw[<-this,<-ek];simp
end
end L2
namespace L2
def cntG(ns:List Int)(k:Int):Nat:=(ns.filter fun x=>decide (k<=x)).length
def turn(ns:List Int):List Int:=(List.range (ns.headD 0).toNat).map fun(k:Nat)=>((cntG ns ((k:Int)+1):Nat):Int)
end L2
namespace L2
open PySem PySem.Spec PyProof.Rows
def Tups(H H':Hp):Prop:=∀ b xs,H b=some (.tup xs)->H' b=some (.tup xs)
theorem Tups.refl(H:Hp):Tups H H:=fun _ _ h=>h
theorem Tups.trans{H H1 H2:Hp}(a:Tups H H1)(b:Tups H1 H2):Tups H H2:=fun c xs h=>b c xs (a c xs h)
theorem Same.tups{H H':Hp}(h:Same H H'):Tups H H':=fun b xs e=>h b _ e
theorem Keep.tups{H H':Hp}{st ga ca:Addr}{N:Nat}(K:Keep [st,ga] H H')(S:StAt H st ga ca N):Tups H H':=fun b xs e=>K b _ e (fun z=>by
 obtain⟨gs,cs,q,n,h1,h2,_⟩:=S.ex;simp only[mem_cons,not_mem_nil,or_false]at z;rcases z with rfl|rfl
 ·rw[h1]at e;cases e
 ·rw[h2]at e;cases e)
theorem Tups.set{H:Hp}{l:Addr}{xs:List V}{o:HO}(h:H l=some (.lst xs)):Tups H (upd H l o):=fun b ys e=>by
 rw[zh (jb e h (by intro z;cases z))];exact e
def Tup1(hs:List Int)(v:V)(H:Hp):Prop:=∃ q,v= .ref q/\H q=some (.tup (hs.map V.int))
theorem Tup1.mv{H H':Hp}{hs:List Int}{v:V}(t:Tups H H')(h:Tup1 hs v H):Tup1 hs v H':=let⟨q,e,h⟩:=h;⟨q,e,t _ _ h⟩
theorem All2.mv{H H':Hp}{ls:List (List Int)}{xs:List V}(t:Tups H H')(h:All2 Tup1 H ls xs):All2 Tup1 H' ls xs:=h.imp fun _ _ z=>z.mv t
theorem All2.at{α:Type}{R:α->V->Hp->Prop}{H:Hp}:∀{l:List α}{xs:List V}{i:Nat}{a:α},All2 R H l xs->l[i]? =some a-> ∃x,xs[i]? =some x/\R a x H
 | _,_,_,_,.nil,e=>by simp at e
 | _,_,0,_,.cons r _,e=>by simp at e;subst e;exact⟨_,rfl,r⟩
 | _,_,i+1,a,.cons _ t,e=>by
  obtain⟨u,h1,h2⟩:=All2.at (i:=i) (a:=a) t (by simpa using e);exact⟨u,by simpa using h1,h2⟩
theorem All2.snoc{α:Type}{R:α->V->Hp->Prop}{H:Hp}{l:List α}{xs:List V}{a:α}{x:V}(h:All2 R H l xs)(r:R a x H):All2 R H (l++[a]) (xs++[x]):=h.append (.cons r .nil)
theorem All2.take{α:Type}{R:α->V->Hp->Prop}{H:Hp}:∀{l:List α}{xs:List V}(n:Nat),All2 R H l xs->All2 R H (l.take n) (xs.take n)
 | _,_,0,_=>.nil
 | _,_,_+1,.nil=>.nil
 | _,_,n+1,.cons r t=>.cons r (t.take n)
def maxC:List (List Int)->Int->Nat
 | [],_=>0
 |h::r,x=>max (h.count x) (maxC r x)
def wc(ls:List (List Int))(ms:List Int):Prop:=ms.Pairwise (· >= ·)/\ ∀x,ms.count x=maxC ls x
theorem wc.uniq{ls:List (List Int)}{a b:List Int}(h1:wc ls a)(h2:wc ls b):a=b :=
 rm h1.1 h2.1 (List.perm_iff_count.mpr fun x=>by rw[h1.2,h2.2])
theorem bW(a b:List (List Int))(x:Int):maxC (a++b) x=max (maxC a x) (maxC b x):=by
 induction a with
 |nil=>simp[maxC]
 |cons h r ih=>rw[List.cons_append,maxC,ih,maxC];exact(Nat.max_assoc ..).symm
theorem qK{ls:List (List Int)}{x:Int}{B:Nat}(h:∀l∈ls,l.count x<=B):maxC ls x<=B:=by
 induction ls with
 |nil=>exact zero_le _
 |cons a r ih =>
  have h1:=h a (by simp);have h2:=ih fun l hl=>h l (by simp[hl]);rw[maxC];exact Nat.max_le.mpr ⟨h1,h2⟩
theorem lx{ls:List (List Int)}{x:Int}{l:List Int}(h:l∈ls):l.count x<=maxC ls x:=by
 induction ls with
 |nil=>cases h
 |cons a r ih =>
  rw[maxC];rcases mem_cons.mp h with rfl|h
  ·exact Nat.le_max_left _ _
  ·exact le_trans (ih h) (Nat.le_max_right _ _)
theorem dG(ls:List (List Int))(x:Int):maxC ls x<=ls.flatten.count x:=by
 induction ls with
 |nil=>exact zero_le _
 |cons a r ih=>rw[maxC,flatten_cons,List.count_append];exact Nat.max_le.mpr ⟨Nat.le_add_right _ _,le_trans ih (Nat.le_add_left _ _)⟩
theorem lE{ls:List (List Int)}{x:Int}(h:x∉ls.flatten):maxC ls x=0:=by
 have:=dG ls x;rw[List.count_eq_zero_of_not_mem h]at this;omega
theorem tL{ls:List (List Int)}{x m:Int}(h:ZB m (ls.map fun l=>((l.count x:Nat):Int))):m=((maxC ls x:Nat):Int):=by
 obtain⟨h1,h2⟩:=h;obtain⟨l,hl,rfl⟩:=mem_map.mp h1;have a:=lx (x:=x) hl;have b:maxC ls x<=l.count x:=qK fun k hk=>by
  have:=h2 _ (mem_map.mpr ⟨k,hk,rfl⟩);omega
 omega
def blow(f:Int->Nat):List Int->List Int
 | []=>[]
 |u::r=>replicate (f u) u++blow f r
theorem bz(f:Int->Nat)(a b:List Int):blow f (a++b)=blow f a++blow f b:=by
 induction a with
 |nil=>rfl
 |cons u r ih=>rw[List.cons_append,blow,ih,blow,append_assoc]
theorem oq{f:Int->Nat}{us:List Int}{x:Int}(h:x∈blow f us):x∈us:=by
 induction us with
 |nil=>exact h
 |cons u r ih =>
  rcases mem_append.mp h with h|h
  ·rw[List.eq_of_mem_replicate h];simp
  ·simp[ih h]
theorem ft{f:Int->Nat}{us:List Int}(hn:us.Nodup)(x:Int):(blow f us).count x=if x∈us then f x else 0:=by
 induction us with
 |nil=>rfl
 |cons u r ih =>
  obtain⟨h1,h2⟩:=nodup_cons.mp hn;rw[blow,List.count_append,ih h2,List.count_replicate];by_cases e:u=x
  ·subst e;simp[h1]
  ·have e':¬x=u:=fun z=>e z.symm;simp[e,e',mem_cons]
theorem ZE{f:Int->Nat}{us:List Int}(h:us.Pairwise (· >= ·)):(blow f us).Pairwise (· >= ·):=by
 induction us with
 |nil=>exact .nil
 |cons u r ih =>
  obtain⟨h1,h2⟩:=pairwise_cons.mp h;refine List.pairwise_append.mpr ⟨?_,ih h2,fun a ha b hb=>?_⟩
  ·exact List.pairwise_replicate.mpr (Or.inr (Int.le_refl _))
  ·rw[List.eq_of_mem_replicate ha];exact h1 _ (oq hb)
theorem mX{ls:List (List Int)}{us:List Int}(hn:us.Nodup)(hp:us.Pairwise (· >= ·))(hm:∀x,x∈us↔x∈ls.flatten):wc ls (blow (maxC ls) us):=by
 refine⟨ZE hp,fun x=>?_⟩;rw[ft hn];by_cases h:x∈us
 ·rw[if_pos h]
 ·rw[if_neg h,lE fun z=>h ((hm x).mpr z)]
def chG(ns:List Int):List (List Int):=ns.foldl (fun cs n=>cs++cs.map (· ++[n])) [[]]
theorem uA(ns:List Int)(n:Int):chG (ns++[n])=chG ns++(chG ns).map (· ++[n]):=by
 unfold chG;rw[List.foldl_append];rfl
theorem bD:∀(k:Nat)(ns:List Int),ns.length=k->(chG ns).length=2^k
 | 0,ns,h=>by rw[List.length_eq_zero_iff.mp h];rfl
 |k+1,ns,h=>by
  have hne:ns≠[]:=fun z=>by rw[z]at h;cases h
  have e:=(List.dropLast_concat_getLast hne).symm;rw[e,uA,length_append,length_map,bD k ns.dropLast (by rw[List.length_dropLast];omega),Nat.pow_succ];omega
theorem qj:∀(k:Nat)(ns:List Int),ns.length=k-> ∀c∈chG ns,c.length<=k/\ ∀x∈c,x∈ns
 | 0,ns,h,c,hc=>by
  rw[List.length_eq_zero_iff.mp h]at hc;have:c=[]:=by simpa [chG]using hc
  rw[this];exact⟨le_refl _,fun x hx=>nomatch hx⟩
 |k+1,ns,h,c,hc=>by
  have hne:ns≠[]:=fun z=>by rw[z]at h;cases h
  have e:=(List.dropLast_concat_getLast hne).symm;rw[e,uA]at hc;have ih:=qj k ns.dropLast (by rw[List.length_dropLast];omega);rcases mem_append.mp hc with hc|hc
  ·obtain⟨a,b⟩:=ih c hc;exact⟨by omega,fun x hx=>(List.dropLast_sublist ns).subset (b x hx)⟩
  ·obtain⟨d,hd,rfl⟩:=mem_map.mp hc;obtain⟨a,b⟩:=ih d hd;refine⟨by simp;omega,fun x hx=>?_⟩;rcases mem_append.mp hx with hx|hx
   ·exact(List.dropLast_sublist ns).subset (b x hx)
   ·have:x=ns.getLast hne:=by simpa using hx
    rw[this];exact List.getLast_mem hne
theorem nG{κ:Type}[DecidableEq κ]{kvs:List (κ×V)}{k:κ}{v w:V}(h:valV kvs k=some v):(putK kvs k w).map (·.1)=kvs.map (·.1):=by
 unfold putK;rw[if_pos (by rw[u8,h];rfl),map_map];refine map_congr_left fun x _=>?_;show(if x.1=k then(x.1,w)else x).1=x.1;split <;>rfl
section
variable{X:Cx}
theorem OpR.kk{f:Value->Value->Sem Value}(K0:W.Frag)(r:W.Frag->R2)(ho:OpR X f (r X.K))(h:X.K=K0):OpR X f (r K0):=by subst h;exact ho
theorem IxR.kk(K0:W.Frag)(r:W.Frag->R2)(ho:IxR X (r X.K))(h:X.K=K0):IxR X (r K0):=by subst h;exact ho
theorem MtR.kk{id:String}(K0:W.Frag)(r:W.Frag->V->List V->Hp->VK->Prop)(ho:MtR X id (r X.K))(h:X.K=K0):MtR X id (r K0):=by subst h;exact ho
theorem pW(K0:W.Frag)(h:X.K=K0):OpR X (binaryOp .Add) (i9 K0):=OpR.kk K0 i9 vA h
theorem lm(K0:W.Frag)(h:X.K=K0):IxR X (rIxT K0):=IxR.kk K0 rIxT uE h
theorem oN(K0:W.Frag)(h:X.K=K0):IxR X (rIxL K0):=IxR.kk K0 rIxL zt h
theorem re(K0:W.Frag)(h:X.K=K0):MtR X "tuple.count" (eT K0 SqT):=MtR.kk K0 (fun K=>eT K SqT) qL h
variable{o e:Expr}{es:List Expr}{to:TE}{t:TA}{name:Str}{apos cpos:Pos}{T id:String}{r:V->List V->Hp->VK->Prop}
theorem Zs(K0:W.Frag)(h:X.K=K0)(pa:PlainAttrs T)(slot:Slot T name id)(hty:typeOf (.builtin id)=pure (.type "method_descriptor"))(hm:MtR X id r)(ho:PE X o to)(ha:PA X (e::es) t)(hbase:attributeBase o name X.env (eval o X.env)=eval o X.env:=by rfl)(hfew:((backTo cpos (starEach (e::es) X.env)).all (fun x=>!x.1)&&(backToKw cpos (keywordEach [] X.env)).all (fun x=>x.1.isSome)&&decide ((e::es).length+([]:List Keyword).length+(if([]:List Keyword).isEmpty then 0 else 1)<30))=true:=by rfl)(hline:(apos.endLine==cpos.line)=true:=by rfl)(hs:starEach (e::es) X.env=(false,eval e X.env)::starEach es X.env:=by rfl)(hplain:(backTo cpos (starEach es X.env)).any (·.1)=false:=by rfl):PE X (.Call (.Attribute o name apos) (e::es) [] cpos) (tBM K0 T r to t):=by
 subst h;exact yU pa slot hty hm ho ha hbase hfew hline hs hplain
theorem cD{a:Expr}{ta:TE}(K0:W.Frag)(h:X.K=K0)(ha:PE X a ta)(he:∀whole,isTrue a X.env whole=(do let v <-whole;standAt a.pos;holding [v] (truthy v))):PT X a (fun σ H Q=>ta σ H fun x H'=>∃ k,TruV K0 x H' k/\Q k H'):=by
 subst h;exact yh ha he
end
def upto(n:Nat):List Int:=(List.range n).map fun(k:Nat)=>(k:Int)
theorem bg(n:Nat):upto (n+1)=upto n++[(n:Int)]:=by unfold upto;rw[List.range_succ,map_append];rfl
theorem ve(n:Nat):(upto n).length=n:=by unfold upto;simp
theorem fj{n:Nat}{x:Int}(h:x∈upto n):0<=x/\x<n:=by
 unfold upto at h;obtain⟨k,hk,rfl⟩:=mem_map.mp h;rw[mem_range]at hk;omega
theorem iB{K:W.Frag}{H:Hp}{q:Addr}{hs:List Int}{z:Int}{t:Addr}{Q:V->Hp->Prop}(hq:H q=some (.tup (hs.map V.int)))(ht:H t=some (.tup [V.int z]))(hl:hs.length<=60)(k:∀(v:V) (H':Hp),Tup1 (hs++[z]) v H'->Same H H'->Q v H'):i9 K (.ref q) (.ref t) H Q:=by
 refine⟨q,t,_,_,rfl,rfl,SqT.of hq,SqT.of ht,?_,fun e=>?_,fun _ e=>?_,fun _ _ p hp=>?_⟩
 ·rw[length_map];exact le_trans (m:=61) (by simp;omega) (by decide)
 ·have:hs=[]:=List.map_eq_nil_iff.mp e;subst this;exact k _ _ ⟨t,rfl,ht⟩ (fun _ _ h=>h)
 ·cases e
 ·exact k _ _ ⟨p,rfl,by rw[z6,map_append];rfl⟩ (Same.new hp)
structure GoodH(n:Nat)(h:List Int):Prop where
 ln:h.length<=n
 bd:∀x∈h,1<=x/\x<=10^60
 pw:h.Pairwise (· >= ·)
def zQ(rule:List (List Int))(ch:List Int):List (List Int):=ch.map fun j=>rule.getD j.toNat []
theorem nu{H:Hp}{rule:List (List Int)}{rs:List V}(h2:All2 Tup1 H rule rs){j:Int}(h0:0<=j)(h1:j<rule.length):∃v,atI rs j=some v/\Tup1 (rule.getD j.toNat []) v H:=by
 obtain⟨n,rfl⟩:∃n:Nat,j=(n:Int):=⟨j.toNat,by omega⟩;have hn:n<rule.length:=by omega
 obtain⟨x,hx,r⟩:=h2.at (getElem?_eq_getElem hn);refine⟨x,zr hx,?_⟩;have:rule.getD (n:Int).toNat []=rule[n]:=by simp[hn]
 rw[this];exact r
theorem tq{B:Nat}:∀{ls:List (List Int)},(∀l∈ls,l.length<=B)->ls.flatten.length<=B*ls.length
 | [],_=>zero_le _
 |l::r,h=>by
  have h1:=h l (by simp);have h2:=tq (ls:=r) fun m hm=>h m (by simp[hm]);rw[flatten_cons,length_append,length_cons,Nat.mul_succ];omega
theorem nv{rule:List (List Int)}{ch:List Int}(hg:∀h∈rule,GoodH 10 h)(hc:ch.length<=6):(zQ rule ch).flatten.length<64:=by
 have:(zQ rule ch).flatten.length<=10*(zQ rule ch).length:=tq fun l hl=>by
  obtain⟨j,_,rfl⟩:=mem_map.mp hl;by_cases hj:j.toNat<rule.length
  ·have:rule.getD j.toNat []=rule[j.toNat]:=by simp[hj]
   rw[this];exact(hg _ (getElem_mem hj)).ln
  ·have:rule.getD j.toNat []=[]:=by simp[hj]
   rw[this];exact zero_le _
 have e:(zQ rule ch).length=ch.length:=by unfold zQ;rw[length_map]
 omega
theorem d0{K:W.Frag}{H:Hp}{q:Addr}{hs:List Int}{z:Int}{t:Addr}{Q:V->Hp->Prop}(hq:H q=some (.tup (hs.map V.int)))(ht:H t=some (.tup [V.int z]))(hl:hs.length<=100)(k:∀(v:V) (H':Hp),Tup1 (z::hs) v H'->Same H H'->Q v H'):i9 K (.ref t) (.ref q) H Q:=by
 refine⟨t,q,_,_,rfl,rfl,SqT.of ht,SqT.of hq,?_,(fun e=>by cases e),fun _ e=>?_,fun _ _ p hp=>?_⟩
 ·rw[length_map];exact le_trans (m:=101) (by simp;omega) (by decide)
 ·have:hs=[]:=List.map_eq_nil_iff.mp e;subst this;exact k _ _ ⟨t,rfl,ht⟩ (fun _ _ h=>h)
 ·exact k _ _ ⟨p,rfl,by rw[z6];rfl⟩ (Same.new hp)
theorem jX{α:Type}(p:α->Bool){l:List α}{i:Nat}{x:α}(h:l[i]? =some x):(l.take (i+1)).filter p=(l.take i).filter p++if p x=true then [x]else []:=by
 obtain⟨hi,e⟩:=List.getElem?_eq_some_iff.mp h;rw[take_succ_eq_append_getElem hi,List.filter_append,e];by_cases c:p x=true
 ·rw[filter_cons,if_pos c,if_pos c];rfl
 ·rw[filter_cons,if_neg c,if_neg c];rfl
structure RuleAt(H:Hp)(p:Addr)(rs:List V)(rule:List (List Int)):Prop where
 at_:H p=some (.tup rs)
 h2:All2 Tup1 H rule rs
 ln:rule.length<=6
 gd:∀h∈rule,GoodH 10 h
theorem RuleAt.mv{H H':Hp}{p:Addr}{rs:List V}{rule:List (List Int)}(h:RuleAt H p rs rule)(t:Tups H H'):RuleAt H' p rs rule:=⟨t _ _ h.at_,h.h2.mv t,h.ln,h.gd⟩
theorem RuleAt.small{H:Hp}{p:Addr}{rs:List V}{rule:List (List Int)}(h:RuleAt H p rs rule):∀x∈rule,x.length<=1000:=fun x hx=>le_trans (h.gd x hx).ln (by decide)
theorem oP{M c t h:Nat}(hc:c=max M (min h (M+t)))(ht:t+1<=h)(hlt:c<h):c+1=max M (min h (M+(t+1))):=by
 rcases Nat.lt_or_ge (M+t) h with g|g
 ·rw[Nat.min_eq_right (a:=h) (b:=M+(t+1)) g,Nat.max_eq_right (Nat.le_add_right _ _),hc,Nat.min_eq_right (Nat.le_of_lt g),Nat.max_eq_right (Nat.le_add_right _ _)];rfl
 ·rw[hc,Nat.min_eq_left g]at hlt;exact absurd (Nat.le_max_right M h) (Nat.not_le_of_lt hlt)
theorem oO{M c t h:Nat}(hc:c=max M (min h (M+t)))(ht:t+1<=h)(hlt:¬c<h):c=max M (min h (M+(t+1))):=by
 rcases Nat.lt_or_ge (M+t) h with g|g
 ·rw[hc,Nat.min_eq_right (Nat.le_of_lt g),Nat.max_eq_right (Nat.le_add_right _ _)]at hlt;exact absurd g hlt
 ·rw[Nat.min_eq_left (a:=h) (b:=M+(t+1)) (Nat.le_succ_of_le g),hc,Nat.min_eq_left g]
open AutoSeq1 (wpAny_loadPart')
theorem Zm{prog:Program}{w:World}{A:Around}(hh:A.handled=none)(k:Bool)(it l:Addr)(hne:l≠it)(items:Array Value) :
  Draws prog w A it [it,l] items.size (fun i v=>items[i]? =some v) (fun i h=>j5 k h it l i/\kJ k h l items) where
 live:=fun _ _ st=>let⟨o,ho,_⟩:=st.1;⟨o,ho⟩
 frame:=fun _ _ _ st hk=>⟨st.1.kept fun o e=>hk it (by simp) o e,st.2.kept fun o e=>hk l (by simp) o e⟩
 item:=fun i s Q E hi st hQ=>oY st.1 st.2 (x:=items[i]) (by simp[hi]) fun h' a b=>hQ _ h' s.toks (by simp[hi]) ⟨a,st.2.kept fun o e=>b.extBut _ _ hne e⟩ b
 done:=fun s Q E st hE=>endS hh st.1 st.2 (by simp) hE
def eH1(k:Bool)(h:Heap)(l:Addr):Heap:=h.push {cls:=.type (xY k),data:=.fields #[.ref l,.int 0 0]}
def eH2(k:Bool)(h:Heap)(l:Addr):Heap:=(eH1 k h l).push {cls:=.type "enumerate",data:=.fields #[.none,.bool false,.ref h.objs.size,rawInt 0,.none,.none]}
set_option maxHeartbeats 1000000 in
theorem xA(l:Addr)(items:Array Value)(n:Nat)(dct:Option Addr)(sl:Array (Option Value)) :
  Meets (Builtin.«enumerate.__new__» ⟨[.type "enumerate",.ref l],[]⟩) (fun _ R s=>s.heap.get? l=some {cls:=.type "tuple",dict:=dct,data:=.seq items n,slots:=sl}/\R (.ok (.ret (.ref (eH1 true s.heap l).objs.size))) {s with heap:=eH2 true s.heap l}) :=
 .of_wp fun prog w A R s h=>by
  obtain⟨hp,g,d,tk,os⟩:=s;obtain⟨hl,h⟩:=h;have hsub:=sub_enumerate;have hL:Heap.IsTuple (Shared.heap ⟨hp,g,d,tk,os⟩) l items:=⟨_,hl,rfl,n,rfl⟩
  wp_walk using wpAny_loadPart' hl
  refine wpAny_stack_any fun st=>wpAny_pure ?_;split
  ·rename_i c _ _ _ _ _;cases(c==Value.type "enumerate")
   all_goals (wp_walk using wpAny_loadPart' hl,wpAny_pyIter_tuple hL;exact⟨_,rfl,h⟩)
  ·wp_walk using wpAny_loadPart' hl,wpAny_pyIter_tuple hL
   exact⟨_,rfl,h⟩
section
variable{prog:Program}{w:World}{A:Around}{E:Value->Shared->Prop}{s:Shared}
theorem fu{k:Bool}{l:Addr}{items:Array Value}{Q:Value->Shared->Prop}(hL:kJ k s.heap l items)(h:∀h',IsEnum h' (s.heap.objs.size+1) s.heap.objs.size 0 .none->j5 k h' s.heap.objs.size l 0->(∀b o,s.heap.get? b=some o->h'.get? b=some o)->Q (.ref (s.heap.objs.size+1)) {s with heap:=h'}) :
  wpAny (model prog w) A (call (.type "enumerate") [.ref l]) Q E s:=by
 cases k
 ·exact call_enumerate_list hL fun h' a b _ c=>h h' a b c
 ·obtain⟨⟨c,dct,dt,sl⟩,hl,hc,n,hd⟩:=hL
  replace hc:c= .type "tuple" :=hc
  replace hd:dt= .seq items n:=hd
  subst hc hd;refine callType_new F.called_enumerate (by decide) (F.typeCall_enumerate_1 _) (F.newCall_enumerate_1 _) (fun obj=>F.args_object_init_2 obj _) F.entry_enumerate_new (xA l items n dct sl) ⟨hl,?_⟩;have n1:(eH1 true s.heap l).objs.size=s.heap.objs.size+1:=Heap.size_push ..;have f2:(eH2 true s.heap l).get? (eH1 true s.heap l).objs.size=some _:=Heap.get?_push_size _ rfl;have f1:(eH2 true s.heap l).get? s.heap.objs.size=some _:=Heap.get?_push_of_some _ (Heap.get?_push_size _ rfl);show _/\_;rw[n1]at f2 ⊢;exact⟨⟨_,f2,rfl⟩,h _ f2 ⟨_,f1,rfl,rfl⟩ fun b o e=>Heap.get?_push_of_some _ (Heap.get?_push_of_some _ e)⟩
end
def Ite(K:W.Frag)(k:Bool)(a:Addr):It :=
 ⟨fun i H=>∃ xs x,Sq k K H a xs/\xs[i]? =some x,
  fun i H v H'=>∃ T x,H T=none/\v= .ref T/\H'=upd H T (.tup [.int i,x])/\ ∀xs,Sq k K H a xs->xs[i]? =some x,
  fun i H=>∃ xs,Sq k K H a xs/\xs.length=i⟩
theorem o5{P:Program}{w:World}{K:W.Frag}{elts:List Expr}{x1:Nat}{pos:Pos}(k:Bool)(a e it:Addr)(hei:e≠it)(hai:a≠it)(hae:a≠e) :
  Turn P w K (.Tuple elts x1 pos) (Ite K k a) [e,it] e (fun i h=>(∃old,IsEnum h e it i old)/\j5 k h it a i) where
 mem:=by simp
 obj:=fun i h st c hc=>by
  obtain⟨⟨old,g0⟩,⟨o1,e1,_,d1⟩⟩:=st;simp only[mem_cons,not_mem_nil,or_false]at hc;rcases hc with rfl|rfl
  ·exact⟨_,g0,fun v q=>by cases q⟩
  ·exact⟨_,e1,fun v q=>by rw[d1]at q;cases q⟩
 keep:=fun i h h' st f=>by
  obtain⟨⟨old,g0⟩,g1⟩:=st;exact⟨⟨old,f e (by simp) _ g0⟩,g1.kept (f it (by simp))⟩
 item:=by
  intro X hP hw hK hc i pins s σ H E I hf st hg;subst hP hw hK;obtain⟨xs,x,hq,hx⟩:=hg;obtain⟨us,rv,p,_⟩:=I.sq hq;obtain⟨u,hu,ru⟩:=rv.get hx;obtain⟨⟨old,g0⟩,g1⟩:=st;have hlt:i<us.toArray.size:=by
   have:=(List.getElem?_eq_some_iff.mp hu).1;simpa using this
  have hh:X.A.in1.handled=none:=I.ok.hd hc;refine wpAny_pyNext_enum_itemD (Zm hh k it a hai us.toArray) g0 ⟨g1,p⟩ hlt hei (by simp[hei,Ne.symm hae]) fun y h' tk hy ho hst hT _ kk=>⟨_,rfl,?_⟩;have ey:y=u:=by
   have:us.toArray[i]? =some u:=by simpa using hu
   rw[this]at hy;exact(Option.some.inj hy).symm
  subst ey;refine wpAny_letOwnedTupleGo_enum (s:={s with heap:=h',toks:=tk+1}) ho fun h2 he2 sb=>?_;have up:∀c o,c≠e->h'.get? c=some o->h2.get? c=some o:=fun c o n q=>(sb.2 c n).trans q;have lt:e<s.heap.objs.size:=Heap.lt_size g0;have tp:IsPair h2 s.heap.objs.size (.int i tk) y:=up _ _ (Nat.ne_of_gt lt) hT;have I1:Inv X pins σ (upd H s.heap.objs.size (.tup [.int i,x])) {s with heap:=h2,toks:=tk+1}:=I.turnedN (t':=tk+1) (ch:=[e,it]) hf (fun c o n q=>up c o (fun z=>n (by simp[z])) (kk c o (fun z=>n (by simp[z])) (fun z=>n (by simp[z])) q)) (le_refl _) (nh ⟨tk,rfl⟩ ru tp);refine⟨.ref s.heap.objs.size,_,I1,rfl,⟨_,x,I.hok.fresh (le_refl _),rfl,rfl,fun xs' h=>by rw[I.sq_inj h hq];exact hx⟩,⟨⟨y,by simpa using he2⟩,hst.1.kept fun o q=>up _ _ (Ne.symm hei) q⟩,fun c hc=>?_⟩;have hlt2:c<s.heap.objs.size:=by
   simp only[mem_cons,not_mem_nil,or_false]at hc;rcases hc with rfl|rfl
   ·exact lt
   ·exact g1.lt
  rw[zh (ne_of_lt hlt2)];exact(hf c hc).1
 done:=by
  intro X hP hw hK hc i pins s σ H E I hf st hg;subst hP hw hK;obtain⟨xs,hq,hl⟩:=hg;obtain⟨us,rv,p,_⟩:=I.sq hq;obtain⟨⟨old,g0⟩,g1⟩:=st;have hh:X.A.in1.handled=none:=I.ok.hd hc;have e1:i=us.toArray.size:=by
   have:=rv.length;rw[<-hl,this];simp
  rw[e1]at g1;exact wpAny_pyNext_enum_endD (Zm hh k it a hai us.toArray) g0 ⟨g1,p⟩ fun h' kk=>⟨rfl,I.turnedL (t':=s.toks) (ch:=[e,it]) hf fun c o n q=>kk c o (fun z=>n (by simp[z])) q⟩
 self:=fun _ _ _ _ _ st h=>by
  obtain⟨⟨old,g0⟩,_⟩:=st;exact wpAny_pyIter_enum g0 h
section
variable{X:Cx}{elts:List Expr}{x1:Nat}{tpos:Pos}
def J3(K:W.Frag)(k:Bool)(ta:TA):TI:=fun σ H R=>ta σ H fun vs H1=>∃ a,vs=[.ref a]/\(∃xs,Sq k K H1 a xs)/\R (Ite K k a) H1
theorem Y2(k:Bool){a:Expr}{ta:TA}{p pos:Pos}(hg:Gl X "enumerate")(hm:X.mg "enumerate"=none)(ha:PA X [a] ta)(hs:starEach [a] X.env=[(false,eval a X.env)]:=by rfl):PI X (.Tuple elts x1 tpos) (.Call (.Name "enumerate" p) [a] [] pos) (J3 X.K k ta):=by
 intro pins s σ H R I h;refine Call_ (wj I hg hm boot_enumerate (PyProof.Rows.callWith_type1 (thn (ha pos pins s σ H _ I h) fun us s1 ⟨vs,H1,I1,r1,q1⟩=>?_) hs rfl));obtain⟨a,e,⟨xs,hq⟩,q⟩:=q1;subst e;cases r1 with
 |cons r rr =>
  cases rr;cases r;obtain⟨us,rv,p,_⟩:=I1.sq hq;have hlt:=p.lt;refine fu p fun h' g0 g1 kk=>?_;have I2:Inv X pins σ H1 {s1 with heap:=h'}:=I1.kept (t':=s1.toks) kk;refine wpAny_pyIter_enum (s:={s1 with heap:=h'}) g0 ⟨_,[s1.heap.objs.size+1,s1.heap.objs.size],_,_,H1,rfl,I2,o5 k a _ _ (Nat.succ_ne_self _) (ne_of_lt hlt) (ne_of_lt (lt_succ_of_lt hlt)),⟨⟨_,g0⟩,g1⟩,fun c hc=>?_,q⟩;have hle:s1.heap.objs.size<=c:=by
   have hc':c=s1.heap.objs.size+1\/c=s1.heap.objs.size:=by simpa using hc
   rcases hc' with e|e <;>rw[e] <;>first|exact le_refl _|exact Nat.le_add_right _ _
  exact I1.fpOk hle (I1.hok.fresh hle)
end
theorem iF{K:W.Frag}{k:Bool}{a:Addr}{xs:List V}{g:TG}{tf:TT}{te:TE}{σ:St}{H:Hp}{Q:VK}(Pv:Nat->List V->St->Hp->Prop)(h0:Pv 0 [] σ H)(hl:∀i zs σ H,i<=xs.length->Pv i zs σ H->Sq k K H a xs/\zs.length<=sizeLine)(hs:∀i x zs σ H T,xs[i]? =some x->Pv i zs σ H->H T=none->g (.ref T) σ (upd H T (.tup [.int i,x])) fun σ2 H2=>tf σ2 H2 fun b H3=>if b=true then te σ2 H3 fun v H4=>Pv (i+1) (zs++[v]) σ2 H4 else Pv (i+1) zs σ2 H3)(hd:∀zs σ H,Pv xs.length zs σ H-> ∀p,H p=none->Q (.ref p) (upd H p (.lst zs))):uj g tf te σ (Ite K k a) H Q:=by
 refine⟨fun i m zs σ H=>m=xs.length-i/\i<=xs.length/\Pv i zs σ H,⟨_,(Nat.sub_zero _).symm,zero_le _,h0⟩,?_⟩;rintro i m zs σ H ⟨rfl,hi,p⟩;obtain⟨q1,hz⟩:=hl i zs σ H hi p;by_cases hlt:i<xs.length
 ·refine .inr ⟨⟨xs,xs[i],q1,by simp[hlt]⟩,hz,Pv (i+1),fun ys' σ' H' p'=>⟨xs.length-(i+1),by omega,rfl,hlt,p'⟩,fun x H' y=>?_⟩;obtain⟨T,u,hT,rfl,rfl,e1⟩:=y;exact hs i u zs σ H T (e1 xs q1) p hT
 ·have e:i=xs.length:=by omega
  rw[e]at p;exact .inl ⟨⟨xs,q1,e.symm⟩,hz,hd zs σ H p⟩
end L2
namespace L2
open PySem PySem.Spec PyProof.Rows PySem.W
theorem yu(x:Str):Str.empty++x=x:=by
 show(⟨#[]++x.cps⟩:Str)=x;simp
end L2
namespace L2
open PySem PySem.Spec PyProof.Rows
def Itd(n:Nat):It:=⟨fun i _=>i<n,fun i H x H'=>H'=H/\x= .int ((n:Int)-i),fun i _=>n<=i⟩
theorem o4{P:Program}{w:World}{K:W.Frag}{tg:Expr}(it:Addr)(n:Nat):Turn P w K tg (Itd n) [it] it (fun i h=>IsRangeIter h it ((n:Int)+(i:Nat)*(-1)) ((n:Int)-(i:Nat)) (-1)) where
 mem:=by simp
 obj:=fun i h st b hb=>by
  have e:b=it:=by simpa using hb
  subst e;exact⟨_,st,fun v z=>by
   have z':Data.fields _=Data.cell v:=z;cases z'⟩
 keep:=fun i h h' st k=>k it (by simp) _ st
 item:=by
  intro X hP hw hK hc i pins s σ H E I hf st hg;subst hP hw hK;obtain⟨f0,f1,f2,f3,f4,f5⟩:=hf it (by simp);have W0:=Walks.range (prog:=X.prog) (w:=X.w) (I.ok.hd hc) it (n:Int) (-1) n;refine W0.item i s _ _ hg st fun v h' tk hv st' kk=>?_;obtain⟨t,rfl⟩:=hv;have I1:Inv X pins σ H {s with heap:=h',toks:=tk}:=I.turned (fun b o hb e=>kk b o (by simpa using hb) e) f0 f1 f3 f4 f5;refine⟨_,rfl,iW (s:={s with heap:=h',toks:=tk}) (n :="range_iterator") st' rfl rfl (by decide) ⟨.int ((n:Int)-i),H,I1,⟨t,?_⟩,⟨rfl,rfl⟩,st',fun b hb=>(hf b hb).1⟩⟩;have:(n:Int)+(i:Int)*(-1)=(n:Int)-i:=by omega
  rw[this]
 done:=by
  intro X hP hw hK hc i pins s σ H E I hf st hg;subst hP hw hK;obtain⟨f0,f1,f2,f3,f4,f5⟩:=hf it (by simp);exact wpAny_pyNext_range_end (I.ok.hd hc) st (by have:n<=i:=hg;omega) fun h' eb=>⟨rfl,I.turned (t':=s.toks) (fun b o hb e=>eb b o hb e) f0 f1 f3 f4 f5⟩
 self:=fun _ _ _ _ _ st h=>wpAny_pyIter_rangeiter st h
section
variable{X:Cx}{tg:Expr}
theorem cX(n:Nat):Builtin.Range.rangeSize (n:Int) 0 (-1)=(n:Int):=by
 unfold Builtin.Range.rangeSize;rw[if_neg (by decide)];have e:((-(-1:Int)))=1:=by decide
 split
 ·rw[e,Int.ediv_one];omega
 ·omega
theorem il{n:Nat}(h:n<=100000):Builtin.Range.small (n:Int) 0 (-1)=true:=by
 unfold Builtin.Range.small;rw[cX];simp only[Builtin.Range.rangeFitsLong,and_eq_true,Bool.or_eq_true,decide_eq_true_eq,beq_iff_eq,show ¬((-1:Int)>0)by decide,if_false];omega
def J0(ta:TA):TI:=fun σ H R=>ta σ H fun vs H1=>∃ n:Nat,vs=[.int n,.int 0,.int (-1)]/\n<=100000/\R (Itd n) H1
theorem nt{a b c:Expr}{ta:TA}{p pos:Pos}(hg:Gl X "range")(hm:X.mg "range"=none)(ha:PA X [a,b,c] ta)(hs:starEach [a,b,c] X.env=(false,eval a X.env)::starEach [b,c] X.env:=by rfl)(hs2:(backTo pos (starEach [b,c] X.env)).any (·.1)=false:=by rfl) :
  PI X tg (.Call (.Name "range" p) [a,b,c] [] pos) (J0 ta):=by
 intro pins s σ H R I h;refine Call_ (wj I hg hm boot_range (PyProof.Rows.callWith_type1 (thn (ha pos pins s σ H _ I h) fun us s1 ⟨vs,H1,I1,r1,q1⟩=>?_) hs hs2));obtain⟨n,e,hn,q⟩:=q1;subst e;cases r1 with
 |cons r rr =>
  cases rr with
  |cons r' rr =>
   cases rr with
   |cons r'' rr =>
    cases rr;obtain⟨t,rfl⟩:=r;obtain⟨t',rfl⟩:=r';obtain⟨t'',rfl⟩:=r'';refine call_range_3 (by decide) ?_ (.inl (PyProof.noPylong_small (by decide)));refine wpAny_pyIter_range (s:={s1 with heap:=s1.heap.push {cls:=.type "range",data:=.fields #[.int n t,.int 0 t',.int (-1) t'']}}) (Heap.get?_push_size _ rfl) (il hn) ?_;have I2:Inv X pins σ H1 {s1 with heap:=s1.heap.push {cls:=.type "range",data:=.fields #[.int n t,.int 0 t',.int (-1) t'']}}:=I1.kept (t':=s1.toks) fun b o e=>Heap.get?_push_of_some _ e;refine⟨_,[(s1.heap.push {cls:=.type "range",data:=.fields #[.int n t,.int 0 t',.int (-1) t'']}).objs.size],_,_,H1,rfl,I2.kept (t':=s1.toks) fun b o e=>Heap.get?_push_of_some _ e,o4 _ n,?_,fun b hb=>?_,q⟩
    ·show IsRangeIter _ _ ((n:Int)+((0:Nat):Int)*(-1)) ((n:Int)-((0:Nat):Int)) (-1);have e1:(n:Int)+((0:Nat):Int)*(-1)=n:=by simp
     have e2:(n:Int)-((0:Nat):Int)=Builtin.Range.rangeSize (n:Int) 0 (-1):=by rw[cX];simp
     rw[e1,e2];exact Heap.get?_push_size _ rfl
    ·have e:b=(s1.heap.push {cls:=.type "range",data:=.fields #[.int n t,.int 0 t',.int (-1) t'']}).objs.size:=by simpa using hb
     subst e;exact I2.fpOk (le_refl _) (I2.hok.fresh (le_refl _))
end
theorem ei{n:Nat}{g:TG}{tb:TS}{D:Ends}{σ:St}{H:Hp}(Pv:Nat->St->Hp->Prop)(h0:Pv 0 σ H)(hs:∀i σ H,i<n->Pv i σ H->g (.int ((n:Int)-i)) σ H fun σ2 H2=>tb {D with nx:=Pv (i+1),ct:=Pv (i+1),bk:=D.nx} σ2 H2)(hd:∀ σ H,Pv n σ H->D.nx σ H) :
  ∃W0:Nat->Nat->St->Hp->Prop,(∃m,W0 0 m σ H)/\ ∀i m σ H,W0 i m σ H->
   ((Itd n).stop i H/\D.nx σ H)\/((Itd n).go i H/\ ∃N:St->Hp->Prop,(∀ σ' H',N σ' H'-> ∃m',m'<m/\W0 (i+1) m' σ' H')/\ ∀x H',(Itd n).yld i H x H'->g x σ H' fun σ2 H2=>tb {D with nx:=N,ct:=N,bk:=D.nx} σ2 H2):=by
 refine⟨fun i m σ H=>m=n-i/\i<=n/\Pv i σ H,⟨n,by simp,zero_le _,h0⟩,?_⟩;rintro i m σ H ⟨rfl,hi,p⟩;by_cases hlt:i<n
 ·refine .inr ⟨hlt,Pv (i+1),fun σ' H' p'=>⟨n-(i+1),by omega,rfl,hlt,p'⟩,fun x H' y=>?_⟩;obtain⟨e,y⟩:=y;subst e y;exact hs i σ _ hlt p
 ·have e:i=n:=by omega
  subst e;exact .inl ⟨le_refl _,hd σ H p⟩
theorem FnOk.none{P:Program}{w:World}{K:W.Frag}{mg:Str->Option Value}{base:Heap}{CX:CXT}{k:Nat}{f:Addr}{fd:FuncData}{ps:List Str}{sp:Sp}{cm:Bool}(h:∀vs H Q E,¬sp vs H Q E):FnOk P w K mg base CX k f fd ps sp cm :=
 ⟨fun vs H Q E z=>absurd z (h vs H Q E),fun A outer s H args us vs Q E hr he hb hv hs=>absurd hs (h _ _ _ _)⟩
def yO:Nat->Nat->Nat->List (List Int)
 | 0,_,_=>[]
 |f+1,n,g=>if n=0 then [[]]else(List.range (min n g)).flatMap fun i=>(yO f (n-(min n g-i)) (min n g-i)).map (((min n g-i:Nat):Int):: ·)
def uR(f n k i:Nat):List (List Int):=(List.range i).flatMap fun i=>(yO f (n-(k-i)) (k-i)).map (((k-i:Nat):Int):: ·)
theorem zF(f n g:Nat):yO (f+1) n g=if n=0 then [[]]else uR f n (min n g) (min n g):=rfl
theorem vC(f n k i:Nat):uR f n k (i+1)=uR f n k i++(yO f (n-(k-i)) (k-i)).map (((k-i:Nat):Int):: ·):=by
 unfold uR;rw[List.range_succ,List.flatMap_append];simp
theorem uS{f:Nat}(ih:∀n g,(yO f n g).length<=2^n){n k:Nat}(hk:k<=n):∀i,i<=k->(uR f n k i).length<=2^(n-k+i)
 | 0,_=>by simp[uR]
 |i+1,hi=>by
  have h1:=uS ih hk i (by omega);rw[vC,length_append,length_map];have h2:=ih (n-(k-i)) (k-i);have e:n-(k-i)=n-k+i:=by omega
  rw[e]at h2;have e2:n-k+(i+1)=(n-k+i)+1:=by omega
  rw[e2,Nat.pow_succ];rw[e];omega
theorem kP:∀f n g,(yO f n g).length<=2^n
 | 0,n,g=>zero_le _
 |f+1,n,g=>by
  rw[zF];split
  ·rename_i h;rw[h];exact le_refl _
  ·have:=uS (kP f) (n:=n) (k:=min n g) (Nat.min_le_left _ _) (min n g) (le_refl _);have e:n-min n g+min n g=n:=by omega
   rw[e]at this;exact this
theorem gz:∀f n g,∀h∈yO f n g,h.length<=n
 | 0,n,g,h,hh=>nomatch hh
 |f+1,n,g,h,hh=>by
  rw[zF]at hh;split at hh
  ·have:h=[]:=by simpa using hh
   rw[this];exact zero_le _
  ·unfold uR at hh;obtain⟨i,hi,hh⟩:=List.mem_flatMap.mp hh;rw[mem_range]at hi;obtain⟨r,hr,rfl⟩:=mem_map.mp hh;have:=gz f _ _ r hr;rw[length_cons];omega
def idxP(rule:List (List Int))(hs:List Int)(i:Nat):List Int:=((List.range i).filter fun i=>lies (rule.getD i []) hs).map fun(k:Nat)=>(k:Int)
def idxG(rule:List (List Int))(hs:List Int):List Int:=idxP rule hs rule.length
theorem jH(rule:List (List Int))(hs:List Int)(i:Nat):idxP rule hs (i+1)=idxP rule hs i++if lies (rule.getD i []) hs=true then [(i:Int)]else []:=by
 unfold idxP;rw[List.range_succ,List.filter_append,map_append];by_cases h:lies (rule.getD i []) hs=true
 ·rw[filter_cons,if_pos h,if_pos h];rfl
 ·rw[filter_cons,if_neg h,if_neg h];rfl
theorem oH(rule:List (List Int))(hs:List Int)(i:Nat):(idxP rule hs i).length<=i:=by
 unfold idxP;rw[length_map];exact le_trans (List.length_filter_le _ _) (by simp)
theorem iY{rule:List (List Int)}{hs:List Int}{i:Nat}{x:Int}(h:x∈idxP rule hs i):0<=x/\x<i/\lies (rule.getD x.toNat []) hs=true:=by
 unfold idxP at h;obtain⟨k,hk,rfl⟩:=mem_map.mp h;obtain⟨h1,h2⟩:=mem_filter.mp hk;rw[mem_range]at h1;refine⟨by omega,by omega,?_⟩;simpa using h2
def yv(rule:List (List Int))(hs:List Int):Option Int:=(idxG rule hs).head?
def optV:Option Int->V
 |none=>.non
 |some i=>.int i
theorem di(rule:List (List Int))(hs:List Int):∀i m,ol m (idxP rule hs i)->(idxP rule hs i).head? =some m
 | 0,m,h=>nomatch h.1
 |i+1,m,h=>by
  rw[jH]at h ⊢;cases e:idxP rule hs i with
  |nil =>
   rw[e]at h;by_cases c:lies (rule.getD i []) hs=true
   ·rw[if_pos c]at h ⊢;have:m=(i:Int):=by simpa using h.1
    rw[this];rfl
   ·rw[if_neg c]at h;exact nomatch h.1
  |cons y ys =>
   have ih:=di rule hs i;rw[e]at ih h;show some y=some m;have hy:y∈idxP rule hs i:=by rw[e];simp
   have hmem:m∈y::ys:=by
    rcases mem_append.mp h.1 with z|z
    ·exact z
    ·by_cases c:lies (rule.getD i []) hs=true
     ·rw[if_pos c]at z;have e1:m=(i:Int):=by simpa using z
      have:=h.2 y (by simp);have:=(iY hy).2.1;omega
     ·rw[if_neg c]at z;exact nomatch z
   exact ih m ⟨hmem,fun x hx=>h.2 x (by rcases mem_cons.mp hx with z|z <;>simp[z])⟩
theorem xW{rule:List (List Int)}{hs:List Int}(h:idxP rule hs rule.length=[]):yv rule hs=none:=by unfold yv idxG;rw[h];rfl
theorem fC{rule:List (List Int)}{hs:List Int}{i:Nat}(h:idxP rule hs i=[])(hi:i<rule.length)(c:lies (rule.getD i []) hs=true):yv rule hs=some (i:Int):=by
 have step:∀d,(idxP rule hs (i+1+d)).head? =some (i:Int):=by
  intro d
  induction d with
  |zero=>rw[Nat.add_zero,jH,h,if_pos c];rfl
  |succ d ih =>
   rw[<-Nat.add_assoc,jH];cases e:idxP rule hs (i+1+d)with
   |nil=>rw[e]at ih;cases ih
   |cons y ys=>rw[e]at ih;exact ih
 have:=step (rule.length-(i+1));rw[show i+1+(rule.length-(i+1))=rule.length by omega]at this;exact this
def yp(rule:List (List Int))(n:Nat):List (List Int):=(yO 26 n n).filter fun h=>(yv rule h).isNone
theorem sJ{n:Nat}(h:n<=24):2^n<=sizeLine:=le_trans (Nat.pow_le_pow_right (by decide) h) (by decide)
theorem cx(o:Option Int):decide (optV o=V.non)=o.isNone:=by
 cases o with
 |none=>rfl
 |some i=>exact decide_eq_false (by intro z;cases z)
def KQ(pc:List Int×List Int)(v:V)(H:Hp):Prop:=∃ q a b,v= .ref q/\H q=some (.tup [.ref a,.ref b])/\H a=some (.tup (pc.1.map V.int))/\H b=some (.tup (pc.2.map V.int))
def qm(L:List Int)(part at_:Nat):List Int:=L.set at_ (L.getD at_ 0+L.getD (at_-part) 0)
def y6(L:List Int)(part:Nat):Nat->List Int
 | 0=>L
 |i+1=>qm (y6 L part i) part (part+i)
def zy(n:Nat):Nat->List Int
 | 0=>1::replicate n 0
 |k+1=>y6 (zy n k) (k+1) (n-k)
theorem jG(L:List Int)(part:Nat):∀i,(y6 L part i).length=L.length
 | 0=>rfl
 |i+1=>by unfold y6 qm;rw[List.length_set,jG L part i]
theorem j7(n:Nat):∀k,(zy n k).length=n+1
 | 0=>by simp[zy]
 |k+1=>by rw[zy,jG,j7 n k]
def Yy:List Int->Bool
 | []=>true
 | [_]=>true
 |x::y::r=>decide (y<=x)&&Yy (y::r)
def lexB:List (List Int)->Bool
 | []=>true
 | [_]=>true
 |x::y::r=>HT.lexGt x y&&lexB (y::r)
def yb(n:Nat):Bool:=((yO 26 n n).length:Int)==(zy n n).getD n 0&&(yO 26 n n).all (fun h=>h.sum==(n:Int)&&h.all (fun x=>decide (1<=x))&&Yy h)&&lexB (yO 26 n n)
theorem Jd:yb 0=true:=by decide+kernel
theorem Je:yb 1=true:=by decide+kernel
theorem Jf:yb 2=true:=by decide+kernel
theorem Jg:yb 3=true:=by decide+kernel
theorem Jh:yb 4=true:=by decide+kernel
theorem Ji:yb 5=true:=by decide+kernel
theorem Jj:yb 6=true:=by decide+kernel
theorem Jk:yb 7=true:=by decide+kernel
theorem Jl:yb 8=true:=by decide+kernel
theorem Jm:yb 9=true:=by decide+kernel
theorem YO:yb 10=true:=by decide+kernel
theorem YQ:yb 11=true:=by decide+kernel
theorem YR:yb 12=true:=by decide+kernel
theorem YS:yb 13=true:=by decide+kernel
theorem YT:yb 14=true:=by decide+kernel
theorem YU:yb 15=true:=by decide+kernel
theorem YV:yb 16=true:=by decide+kernel
theorem YW:yb 17=true:=by decide+kernel
theorem YX:yb 18=true:=by decide+kernel
theorem YY:yb 19=true:=by decide+kernel
theorem YZ:yb 20=true:=by decide+kernel
theorem K6:yb 21=true:=by decide+kernel
theorem Ka:yb 22=true:=by decide+kernel
theorem Kb:yb 23=true:=by decide+kernel
theorem Kc:yb 24=true:=by decide+kernel
theorem hZ:∀n,n<25->yb n=true
 | 0,_=>Jd
 | 1,_=>Je
 | 2,_=>Jf
 | 3,_=>Jg
 | 4,_=>Jh
 | 5,_=>Ji
 | 6,_=>Jj
 | 7,_=>Jk
 | 8,_=>Jl
 | 9,_=>Jm
 | 10,_=>YO
 | 11,_=>YQ
 | 12,_=>YR
 | 13,_=>YS
 | 14,_=>YT
 | 15,_=>YU
 | 16,_=>YV
 | 17,_=>YW
 | 18,_=>YX
 | 19,_=>YY
 | 20,_=>YZ
 | 21,_=>K6
 | 22,_=>Ka
 | 23,_=>Kb
 | 24,_=>Kc
 |n+25,h=>absurd h (by omega)
def gh:List Int->Nat->Int
 | [],_=>0
 |x::_,0=>x
 | _::r,n+1=>gh r n
theorem eK:∀(L:List Int)(n:Nat),gh L n=L.getD n 0
 | [],_=>rfl
 |x::_,0=>rfl
 | _::r,n+1=>by rw[gh,eK r n,List.getD_cons_succ]
def gD(m:Int):Int:=m*(3*m-1) / 2
def m9(m:Int):Int:=m*(3*m+1) / 2
def dS(R:List Int)(n:Int):Nat->Int->Int->Int->Int
 | 0,_,_,t=>t
 |f+1,m,s,t=>if gD m<=n then dS R n f (m+1) (-s) (if m9 m<=n then t+s*gh R (gD m-1).toNat+s*gh R (m9 m-1).toNat else t+s*gh R (gD m-1).toNat)else t
def wayR:Nat->List Int
 | 0=>[1]
 |n+1=>dS (wayR n) (n+1:Nat) (n+3) 1 1 0::wayR n
theorem u9:∀n,(wayR n).length=n+1
 | 0=>rfl
 |n+1=>by rw[wayR,length_cons,u9 n]
theorem qh(n:Nat):∀d j,j<=n->(wayR (n+d)).reverse.getD j 0=(wayR n).reverse.getD j 0
 | 0,_,_=>rfl
 |d+1,j,h=>by
  have hl:=u9 (n+d);rw[<-Nat.add_assoc,wayR,<-qh n d j h,List.reverse_cons];simp only[getD_eq_getElem?_getD];rw[List.getElem?_append_left (by rw[List.length_reverse];omega)]
theorem sy{m:Int}(h:1<=m):m<=gD m:=by
 unfold gD;refine Int.le_ediv_of_mul_le (by decide) ?_;exact Int.mul_le_mul_of_nonneg_left (by omega) (by omega)
theorem sF{m:Int}(h:1<=m):m<=m9 m:=by
 unfold m9;refine Int.le_ediv_of_mul_le (by decide) ?_;exact Int.mul_le_mul_of_nonneg_left (by omega) (by omega)
def srow:List Int->List Int->List Int
 | [],_=>[]
 |x::r,[]=>x::srow r []
 |x::r,f::q=>(x+f)::srow r (q++[x+f])
def qrow:List Int->List Int->List Int->List Int
 | [],_,_=>[]
 |x::r,[],b=>x::qrow r [] b
 |x::r,f::fs,b=>(x+f)::(match fs with
  | []=>qrow r ((x+f)::b).reverse []
  |g::gs=>qrow r (g::gs) ((x+f)::b))
theorem mi:∀(rest f b:List Int),f≠[]->qrow rest f b=srow rest (f++b.reverse)
 | [],_,_,_=>rfl
 |x::r,[],b,h=>absurd rfl h
 |x::r,[f],b,_=>by
  show(x+f)::qrow r ((x+f)::b).reverse []=(x+f)::srow r ([]++b.reverse++[x+f]);rw[mi r ((x+f)::b).reverse [] (by simp)];simp
 |x::r,f::g::gs,b,_=>by
  show(x+f)::qrow r (g::gs) ((x+f)::b)=(x+f)::srow r ((g::gs)++b.reverse++[x+f]);rw[mi r (g::gs) ((x+f)::b) (by simp)];simp
def wx(n:Nat):Nat->List Int
 | 0=>1::replicate n 0
 |k+1=>qrow (wx n k) (replicate (k+1) 0) []
def Yu:List Int:=[1,1,2,3,5,7,11,15,22,30,42,56,77,101,135,176,231,297,385,490,627,792,1002,1255,1575,1958,2436,3010,3718,4565,5604,6842,8349,10143,12310,14883,17977,21637,26015,31185,37338,44583,53174,63261,75175,89134,105558,124754,147273,173525,204226,239943,281589,329931,386155,451276,526823,614154,715220,831820,966467,1121505,1300156,1505499,1741630,2012558,2323520,2679689,3087735,3554345,4087968,4697205,5392783,6185689,7089500,8118264,9289091,10619863,12132164,13848650,15796476,18004327,20506255,23338469,26543660,30167357,34262962,38887673,44108109,49995925,56634173,64112359,72533807,82010177,92669720,104651419,118114304,133230930,150198136,169229875,190569292,214481126,241265379,271248950,304801365,342325709,384276336,431149389,483502844,541946240,607163746,679903203,761002156,851376628,952050665,1064144451,1188908248,1327710076,1482074143,1653668665,1844349560,2056148051,2291320912,2552338241,2841940500,3163127352,3519222692,3913864295,4351078600,4835271870,5371315400,5964539504,6620830889,7346629512,8149040695,9035836076,10015581680,11097645016,12292341831,13610949895,15065878135,16670689208,18440293320,20390982757,22540654445,24908858009,27517052599,30388671978,33549419497,37027355200,40853235313,45060624582,49686288421,54770336324,60356673280,66493182097,73232243759,80630964769,88751778802,97662728555,107438159466,118159068427,129913904637,142798995930,156919475295,172389800255,189334822579,207890420102,228204732751,250438925115,274768617130,301384802048,330495499613,362326859895,397125074750,435157697830,476715857290,522115831195,571701605655,625846753120,684957390936,749474411781,819876908323,896684817527,980462880430,1071823774337,1171432692373,1280011042268,1398341745571,1527273599625,1667727404093,1820701100652,1987276856363,2168627105469,2366022741845,2580840212973,2814570987591,3068829878530,3345365983698,3646072432125,3972999029388,4328363658647,4714566886083,5134205287973,5590088317495,6085253859260,6622987708040,7206841706490,7840656226137,8528581302375,9275102575355,10085065885767,10963707205259,11916681236278,12950095925895,14070545699287,15285151248481,16601598107914,18028182516671,19573856161145,21248279009367,23061871173849,25025873760111,27152408925615,29454549941750,31946390696157,34643126322519,37561133582570,40718063627362,44132934884255,47826239745920,51820051838712,56138148670947,60806135438329,65851585970275,71304185514919,77195892663512,83561103925871,90436839668817,97862933703585,105882246722733,114540884553038,123888443077259,133978259344888,144867692496445,156618412527946,169296722391554,182973889854026,197726516681672,213636919820625,230793554364681,249291451168559,269232701252579,290726957916112,313891991306665,338854264248680,365749566870782,394723676655357,425933084409356,459545750448675,495741934760846,534715062908609,576672674947168,621837416509615,670448123060170,722760953690372,779050629562167,839611730366814,904760108316360,974834369944625,1050197489931117,1131238503938606,1218374349844333,1312051800816215,1412749565173450,1520980492851175,1637293969337171,1762278433057269,1896564103591584,2040825852575075,2195786311682516,2362219145337711,2540952590045698,2732873183547535,2938929793929555,3160137867148997,3397584011986773,3652430836071053,3925922161489422,4219388528587095,4534253126900886,4872038056472084,5234371069753672,5622992691950605,6039763882095515,6486674127079088,6965850144195831,7479565078510584,8030248384943040,8620496275465025,9253082936723602,9930972392403501,10657331232548839,11435542077822104,12269218019229465,13162217895057704,14118662665280005,15142952738857194,16239786535829663,17414180133147295,18671488299600364,20017426762576945,21458096037352891,23000006655487337,24650106150830490,26415807633566326,28305020340996003,30326181989842964,32488293351466654,34800954869440830,37274405776748077,39919565526999991,42748078035954696,45772358543578028,49005643635237875,52462044228828641,56156602112874289,60105349839666544,64325374609114550,68834885946073850,73653287861850339,78801255302666615,84300815636225119,90175434980549623,96450110192202760,103151466321735325,110307860425292772,117949491546113972,126108517833796355,134819180623301520,144117936527873832,154043597379576030,164637479165761044,175943559810422753,188008647052292980,200882556287683159,214618299743286299,229272286871217150,244904537455382406,261578907351144125,279363328483702152,298330063062758076,318555973788329084,340122810048577428,363117512048110005,387632532919029223,413766180933342362,441622981929358437,471314064268398780,502957566506000020,536679070310691121,572612058898037559,610898403751884101,651688879997206959,695143713458946040,741433159884081684,790738119649411319,843250788562528427,899175348396088349,958728697912338045,1022141228367345362,1089657644424399782,1161537834849962850,1238057794119125085,1319510599727473500,1406207446561484054,1498478743590581081,1596675274490756791,1701169427975813525,1812356499739472950,1930656072350465812,2056513475336633805,2190401332423765131,2332821198543892336,2484305294265418180,2645418340688763701,2816759503217942792,2998964447736452194,3192707518433532826,3398704041358160275,3617712763867604423,3850538434667429186,4098034535626594791,4361106170762284114,4640713124699623515,4937873096788191655,5253665124416975163,5589233202595404488,5945790114707874597,6324621482504294325,6727090051741041926]
theorem oy:wx 400 400=Yu:=by decide+kernel
theorem Yk:(wayR 400).reverse=Yu:=by decide+kernel
theorem Za:(wayR 400).reverse=wx 400 400:=by rw[Yk,oy]
theorem mE:∀(L q:List Int),(srow L q).length=L.length
 | [],_=>rfl
 |x::r,[]=>by rw[srow,length_cons,mE r [],length_cons]
 |x::r,f::q=>by rw[srow,length_cons,mE r _,length_cons]
theorem d6(n:Nat):∀k,(wx n k).length=n+1
 | 0=>by simp[wx]
 |k+1=>by rw[wx,mi _ _ _ (by simp[List.replicate_succ]),mE,d6 n k]
theorem nW:∀(L:List Int)(q:List Int)(p j:Nat),q.length=p->1<=p->j<L.length->(srow L q).getD j 0=L.getD j 0+(if j<p then q.getD j 0 else(srow L q).getD (j-p) 0)
 | [],_,_,_,_,_,h=>absurd h (by simp)
 |x::r,[],p,_,hp,h1,_=>absurd hp (by simp;omega)
 |x::r,f::q,p,0,hp,h1,_=>by
  rw[if_pos (by omega)];rfl
 |x::r,f::q,p,j+1,hp,h1,h=>by
  rw[length_cons]at hp;have ih:=nW r (q++[x+f]) p j (by rw[length_append];exact hp) h1 (by rw[length_cons]at h;omega);rw[srow,List.getD_cons_succ,List.getD_cons_succ,ih];congr 1;rcases Nat.lt_trichotomy (j+1) p with c|c|c
  ·rw[if_pos (by omega),if_pos c,List.getD_cons_succ];simp only[getD_eq_getElem?_getD];rw[List.getElem?_append_left (by omega)]
  ·rw[if_pos (by omega),if_neg (by omega),show j+1-p=0 by omega,List.getD_cons_zero];simp only[getD_eq_getElem?_getD];rw[List.getElem?_append_right (by omega),show j-q.length=0 by omega];rfl
  ·rw[if_neg (by omega),if_neg (by omega),show j+1-p=(j-p)+1 by omega,List.getD_cons_succ]
theorem aT(n k j:Nat)(h:j<=n):(wx n (k+1)).getD j 0=(wx n k).getD j 0+(if k+1<=j then(wx n (k+1)).getD (j-(k+1)) 0 else 0):=by
 have e:wx n (k+1)=srow (wx n k) (replicate (k+1) 0):=by
  rw[wx,mi _ _ _ (by simp[List.replicate_succ])];simp
 rw[e,nW _ _ (k+1) j (by simp) (by omega) (by rw[d6];omega)];congr 1;by_cases c:j<k+1
 ·rw[if_pos c,if_neg (by omega)];simp only[getD_eq_getElem?_getD];rw[List.getElem?_replicate,if_pos c];rfl
 ·rw[if_neg c,if_pos (by omega)]
theorem d5(L:List Int)(p:Nat)(hp:1<=p):∀i j,j<L.length->(y6 L p i).getD j 0=L.getD j 0+(if p<=j/\j<p+i then(y6 L p i).getD (j-p) 0 else 0)
 | 0,j,_=>by rw[if_neg (by omega),Int.add_zero,y6]
 |i+1,j,h=>by
  have ih:=d5 L p hp i j h;have hl:=jG L p i;have es:∀(X:List Int)(a b:Nat)(v:Int),b<X.length->(X.set a v).getD b 0=if a=b then v else X.getD b 0:=fun X a b v hb=>by
   simp only[getD_eq_getElem?_getD];rw[List.getElem?_set];by_cases c:a=b
   ·rw[if_pos c,if_pos c,if_pos (by omega)];rfl
   ·rw[if_neg c,if_neg c]
  rw[y6,qm,es _ _ _ _ (by omega)];by_cases c:p+i=j
  ·subst c;rw[if_pos rfl,ih,if_neg (by omega),Int.add_zero,if_pos (by omega),es _ _ _ _ (by omega),if_neg (by omega)]
  ·rw[if_neg c,ih];congr 1;by_cases d:p<=j/\j<p+i
   ·rw[if_pos d,if_pos (by omega),es _ _ _ _ (by omega),if_neg (by omega)]
   ·rw[if_neg d,if_neg (by omega)]
theorem fw(n k j:Nat)(h:j<=n):(zy n (k+1)).getD j 0=(zy n k).getD j 0+(if k+1<=j then(zy n (k+1)).getD (j-(k+1)) 0 else 0):=by
 rw[zy,d5 _ _ (by omega) _ j (by rw[j7];omega)];congr 1;by_cases c:k+1<=j
 ·rw[if_pos c,if_pos (by omega)]
 ·rw[if_neg c,if_neg (by omega)]
theorem Z1(f g a b:Nat->Int)(p N:Nat)(hp:1<=p)(hf:∀j,j<=N->f j=a j+(if p<=j then f (j-p)else 0))(hg:∀j,j<=N->g j=b j+(if p<=j then g (j-p)else 0))(h:∀j,j<=N->a j=b j):∀j,j<=N->f j=g j:=fun j=>by
 induction j using Nat.strongRecOn with
 |ind j ih =>
  intro hj;rw[hf j hj,hg j hj,h j hj];congr 1;by_cases c:p<=j
  ·rw[if_pos c,if_pos c,ih (j-p) (by omega) (by omega)]
  ·rw[if_neg c,if_neg c]
theorem Zh(n N:Nat)(hn:n<=N):∀k j,j<=n->(zy n k).getD j 0=(wx N k).getD j 0
 | 0,0,_=>rfl
 | 0,j+1,h=>by
  rw[zy,wx,List.getD_cons_succ,List.getD_cons_succ];simp only[getD_eq_getElem?_getD];rw[List.getElem?_replicate,List.getElem?_replicate,if_pos (by omega),if_pos (by omega)]
 |k+1,j,h=>Z1 _ _ (fun j=>(zy n k).getD j 0) (fun j=>(wx N k).getD j 0) (k+1) n (by omega) (fun j hj=>fw n k j hj) (fun j hj=>aT N k j (by omega)) (fun j hj=>Zh n N hn k j hj) j h
theorem xR(N n j:Nat)(h:j<=n)(hn:n<=N):∀d,(wx N (n+d)).getD j 0=(wx N n).getD j 0
 | 0=>rfl
 |d+1=>by
  rw[<-Nat.add_assoc,aT N (n+d) j (by omega),if_neg (by omega),Int.add_zero,xR N n j h hn d]
theorem aU{n j:Nat}(hn:n<=400)(hj:j<=n):(zy n n).getD j 0=(wayR j).reverse.getD j 0:=by
 rw[Zh n 400 hn n j hj,<-xR 400 n j hj hn (400-n),show n+(400-n)=400 by omega,<-Za,show(400:Nat)=j+(400-j)by omega,qh j _ j (le_refl _)]
theorem Kl{R:List Int}{n p:Nat}(hl:R.length=n)(h1:1<=p)(h2:p<=n):(R.reverse.map V.int)[n-p]? =some (.int (gh R (p-1))):=by
 rw[getElem?_map,List.getElem?_reverse (by omega),eK,show R.length-1-(n-p)=p-1 by rw[hl,Nat.sub_right_comm,Nat.sub_sub_self h2]];simp only[getD_eq_getElem?_getD];rw[getElem?_eq_getElem (by omega)];rfl
theorem oh{R:List Int}{n:Nat}{q:Int}(hl:R.length=n+1)(h1:1<=q)(h2:q<=((n+1:Nat):Int)):atI (R.reverse.map V.int) (((n+1:Nat):Int)-q)=some (.int (gh R (q-1).toNat)):=by
 obtain⟨p,rfl⟩:∃p:Nat,q=(p:Int):=⟨q.toNat,by omega⟩;rw[show((n+1:Nat):Int)-(p:Int)=((n+1-p:Nat):Int)by omega,show((p:Int)-1).toNat=p-1 by omega];exact zr (Kl hl (by omega) (by omega))
theorem fQ(R:List Int)(n:Int):∀f m s t,¬gD m<=n->dS R n f m s t=t
 | 0,_,_,_,_=>rfl
 |f+1,m,s,t,h=>by rw[dS,if_neg h]
def sgnG(c:List Int):Int:=if c.length%2=0 then 1 else -1
end L2
namespace L2
end L2
namespace L2
def sumN:Nat->(Nat->Int)->Int
 | 0,_=>0
 |n+1,f=>sumN n f+f n
end L2
namespace L2
open PySem PySem.Spec PyProof.Rows
def cv(a b:List Int)(k:Nat):Int:=sumN a.length fun i=>sumN b.length fun j=>if i+j=k then a.getD i 0*b.getD j 0 else 0
def pB(m:Nat):Int:=(m:Int)*(3*m+1) / 2
theorem oz(xs:List V)(s:Nat)(h:s<=xs.length):cutV xs (some (s:Int)) none=xs.drop s:=by
 unfold cutV;rw[HT.sIx_none,HT.sIx_nat,Nat.min_eq_left h];exact take_of_length_le (by rw[length_drop];exact le_refl _)
end L2
set_option exponentiation.threshold 200000
namespace L2
open PySem PySem.Spec PyProof.Rows
def hdL(T B:Nat->Int):Nat->List Int
 | 0=>[]
 |n+1=>hdL T B n++[T n-sumN n fun i=>B (i+1)*(hdL T B n).getD (n-(i+1)) 0]
def hd(T B:Nat->Int)(n:Nat):Int:=(hdL T B (n+1)).getD n 0
section
variable{X:Cx}
theorem ng(hu:X.A.units+1<cLine):OpR X (compareOp .NotIn) (fun x y H Q=>∃ a o,y= .ref a/\DGet H a x o/\Q (.bl (!o.isSome)) H):=by
 intro pins s σ H x y v u Q I rx ry h;obtain⟨a,o,rfl,g,k⟩:=h;cases ry;exact ZF hu I g rx fun s3 I3=>⟨.bl (!o.isSome),H,I3,rfl,k⟩
end
end L2
namespace L2
end L2
namespace L2
theorem u5:∀(f f' n g:Nat),n<f->n<f'->yO f n g=yO f' n g
 | 0,_,n,_,h,_=>absurd h (Nat.not_lt_zero _)
 | _+1,0,n,_,_,h=>absurd h (Nat.not_lt_zero _)
 |f+1,f'+1,n,g,h,h'=>by
  rw[zF,zF];by_cases c:n=0
  ·rw[if_pos c,if_pos c]
  ·rw[if_neg c,if_neg c];unfold uR;rw[List.flatMap_def,List.flatMap_def];congr 1;apply map_congr_left;intro i hi;have hi':=mem_range.mp hi;rw[u5 f f' _ _ (by omega) (by omega)]
def kB(n g:Nat):List (List Int):=yO (n+1) n g
theorem ni{n:Nat}(h:n≠0):kB n 0=[]:=by
 unfold kB;rw[zF,if_neg h,Nat.min_zero];rfl
theorem vB{n g g':Nat}(h:n<=g)(h':n<=g'):kB n g=kB n g':=by
 unfold kB;rw[zF,zF,Nat.min_eq_left h,Nat.min_eq_left h']
theorem rg(n g:Nat):kB n (g+1)=(if g+1<=n then(kB (n-(g+1)) (g+1)).map (((g+1:Nat):Int):: ·)else [])++kB n g:=by
 by_cases c:g+1<=n
 ·rw[if_pos c];have n0:n≠0:=by omega
  unfold kB;rw[zF n n,zF n n g,if_neg n0,if_neg n0,Nat.min_eq_right c,Nat.min_eq_right (show g<=n by omega)];unfold uR;rw[List.range_succ_eq_map,List.flatMap_cons,List.flatMap_map,Nat.sub_zero,u5 n (n-(g+1)+1) _ _ (by omega) (by omega)];congr 1;rw[List.flatMap_def,List.flatMap_def];congr 1;apply map_congr_left;intro i hi;show(yO n (n-(g+1-(i+1))) (g+1-(i+1))).map (((g+1-(i+1):Nat):Int):: ·)=_;rw[Nat.add_sub_add_right]
 ·rw[if_neg c,List.nil_append];exact vB (by omega) (by omega)
theorem pX:∀(f n g:Nat),∀h∈yO f n g,∀x∈h,x<=(g:Int)
 | 0,n,g,h,hh,_,_=>by cases hh
 |f+1,n,g,h,hh,x,hx=>by
  rw[zF]at hh;by_cases c:n=0
  ·rw[if_pos c]at hh;have:h=[]:=by simpa using hh
   subst this;cases hx
  ·rw[if_neg c]at hh;unfold uR at hh;obtain⟨i,hi,hh⟩:=List.mem_flatMap.mp hh;rw[mem_range]at hi;obtain⟨r,hr,rfl⟩:=mem_map.mp hh;rcases mem_cons.mp hx with rfl|hx
   ·omega
   ·have:=pX f _ _ r hr x hx;omega
end L2
namespace L2
def okC(c:Nat->Nat)(g:Nat)(h:List Int):Bool:=(List.range g).all fun i=>decide (c (i+1)<=h.count ((i+1:Nat):Int))
theorem sj(c:Nat->Nat)(g:Nat)(h:List Int):okC c (g+1) h=(okC c g h&&decide (c (g+1)<=h.count ((g+1:Nat):Int))):=by
 unfold okC;rw[List.range_succ,List.all_append];simp
theorem si(c:Nat->Nat)(g:Nat)(h:List Int):okC c g (((g+1:Nat):Int)::h)=okC c g h:=by
 unfold okC;rw[Bool.eq_iff_iff,all_eq_true,all_eq_true];have e:∀i∈List.range g,List.count ((i+1:Nat):Int) (((g+1:Nat):Int)::h)=List.count ((i+1:Nat):Int) h:=fun i hi=>by
  have:=mem_range.mp hi;rw[List.count_cons_of_ne (by omega)]
 exact⟨fun z i hi=>by have:=z i hi;rwa [e i hi]at this,fun z i hi=>by rw[e i hi];exact z i hi⟩
def lenN(g n:Nat):Nat:=(kB n g).length
theorem uG(g n:Nat):lenN (g+1) n=(if g+1<=n then lenN (g+1) (n-(g+1))else 0)+lenN g n:=by
 unfold lenN;rw[rg n g,length_append];by_cases c:g+1<=n
 ·rw[if_pos c,if_pos c,length_map]
 ·rw[if_neg c,if_neg c];rfl
def cntC(c:Nat->Nat)(g n:Nat):Nat:=(kB n g).countP (okC c g)
def cntT(c:Nat->Nat)(g t n:Nat):Nat:=(kB n (g+1)).countP fun h=>okC c g h&&decide (t<=h.count ((g+1:Nat):Int))
theorem d4(c:Nat->Nat)(g t n:Nat):cntT c g t n=(if g+1<=n then cntT c g (t-1) (n-(g+1))else 0)+if t=0 then cntC c g n else 0:=by
 unfold cntT;rw[rg n g,List.countP_append];congr 1
 ·by_cases d:g+1<=n
  ·rw[if_pos d,if_pos d,List.countP_map];apply List.countP_congr;intro h _;show(okC c g (((g+1:Nat):Int)::h)&&decide (t<=List.count ((g+1:Nat):Int) (((g+1:Nat):Int)::h)))=true↔_;rw[si,List.count_cons_self];simp only[and_eq_true,decide_eq_true_eq];exact and_congr_right fun _=>by omega
  ·rw[if_neg d,if_neg d];rfl
 ·unfold cntC;have z:∀h∈kB n g,h.count ((g+1:Nat):Int)=0:=fun h hh=>count_eq_zero.mpr fun hm=>by
   have:=pX _ _ _ h hh _ hm;omega
  by_cases d:t=0
  ·subst d;rw[if_pos rfl];apply List.countP_congr;intro h hh;simp
  ·rw[if_neg d];apply List.countP_eq_zero.mpr;intro h hh;rw[z h hh,decide_eq_false (by omega),Bool.and_false];decide
theorem xQ(c:Nat->Nat)(g:Nat):∀t n,cntT c g t n=if t*(g+1)<=n then cntT c g 0 (n-t*(g+1))else 0
 | 0,n=>by rw[Nat.zero_mul,if_pos (zero_le _),Nat.sub_zero]
 |t+1,n=>by
  rw[d4,if_neg (Nat.succ_ne_zero t),Nat.add_zero,Nat.add_sub_cancel,Nat.add_mul t 1,Nat.one_mul];by_cases d:g+1<=n
  ·rw[if_pos d,xQ c g t];by_cases e:t*(g+1)<=n-(g+1)
   ·rw[if_pos e,if_pos (by omega),Nat.sub_sub,Nat.add_comm (g+1)]
   ·rw[if_neg e,if_neg (by omega)]
  ·rw[if_neg d,if_neg (by omega)]
def sC(c:Nat->Nat):Nat->Nat
 | 0=>0
 |g+1=>sC c g+c (g+1)*(g+1)
theorem iE{c:Nat->Nat}{g:Nat}(ih:∀n,cntC c g n=if sC c g<=n then lenN g (n-sC c g)else 0):∀n,cntT c g 0 n=if sC c g<=n then lenN (g+1) (n-sC c g)else 0:=by
 intro n
 induction n using Nat.strongRecOn with
 | _ n IH =>
  rw[d4,if_pos rfl,ih];by_cases d:g+1<=n
  ·rw[if_pos d,Nat.zero_sub,IH (n-(g+1)) (by omega)];by_cases e:sC c g<=n
   ·rw[if_pos e,if_pos e,uG g (n-sC c g)];congr 1;by_cases f:sC c g<=n-(g+1)
    ·rw[if_pos f,if_pos (by omega)];congr 1;omega
    ·rw[if_neg f,if_neg (by omega)]
   ·rw[if_neg e,if_neg e,if_neg (by omega)]
  ·rw[if_neg d,Nat.zero_add];by_cases e:sC c g<=n
   ·rw[if_pos e,if_pos e,uG g (n-sC c g),if_neg (by omega),Nat.zero_add]
   ·rw[if_neg e,if_neg e]
theorem iD(c:Nat->Nat):∀g n,cntC c g n=if sC c g<=n then lenN g (n-sC c g)else 0
 | 0,n=>by
  show(kB n 0).countP (okC c 0)=if 0<=n then lenN 0 n else 0
  rw[if_pos (zero_le _)];unfold lenN;exact List.countP_eq_length.mpr fun _ _=>rfl
 |g+1,n=>by
  have e:cntC c (g+1) n=cntT c g (c (g+1)) n:=by
   unfold cntC cntT;congr 1
   funext h
   exact sj c g h
  rw[e,xQ];show _=if sC c g+c (g+1)*(g+1)<=n then lenN (g+1) (n-(sC c g+c (g+1)*(g+1)))else 0
  by_cases d:c (g+1)*(g+1)<=n
  ·rw[if_pos d,iE (iD c g)];by_cases f:sC c g<=n-c (g+1)*(g+1)
   ·rw[if_pos f,if_pos (by omega)];congr 1;omega
   ·rw[if_neg f,if_neg (by omega)]
  ·rw[if_neg d,if_neg (by omega)]
theorem nM{J:List Int}{a:Int}(h0:1<=a):∀g,sC (fun x=>(a::J).count (x:Int)) g=sC (fun x=>J.count (x:Int)) g+if a<=(g:Int)then a.toNat else 0
 | 0=>by rw[if_neg (by omega)];rfl
 |g+1=>by
  show sC _ g+List.count ((g+1:Nat):Int) (a::J)*(g+1)=sC _ g+List.count ((g+1:Nat):Int) J*(g+1)+_;rw[nM h0 g];by_cases e:a=((g+1:Nat):Int)
  ·subst e;rw[List.count_cons_self,if_neg (by omega),if_pos (Int.le_refl _),Nat.add_mul,Nat.one_mul,toNat_natCast];omega
  ·rw[List.count_cons_of_ne (by omega)];by_cases f:a<=(g:Int)
   ·rw[if_pos f,if_pos (by omega)];omega
   ·rw[if_neg f,if_neg (by omega)];omega
theorem Zy(g:Nat):∀{J:List Int},(∀x∈J,1<=x/\x<=(g:Int))->((sC (fun x=>J.count (x:Int)) g:Nat):Int)=J.sum
 | [],_=>by
  have e:∀g,sC (fun x=>([]:List Int).count (x:Int)) g=0:=fun g=>by
   induction g with
   |zero=>rfl
   |succ g ih =>
    show sC _ g+List.count _ []*(g+1)=0;rw[ih,List.count_nil,Nat.zero_mul]
  rw[e];rfl
 |a::J,h=>by
  have ha:=h a mem_cons_self;rw[nM ha.1 g,if_pos ha.2,List.sum_cons,<-Zy g fun x hx=>h x (mem_cons_of_mem _ hx)];omega
theorem Zz{J:List Int}(h:∀x∈J,1<=x):0<=J.sum/\ ∀x∈J,x<=J.sum:=by
 induction J with
 |nil=>exact⟨Int.le_refl _,(fun _ h=>by cases h)⟩
 |cons a J ih =>
  have ha:=h a mem_cons_self;obtain⟨i1,i2⟩:=ih fun x hx=>h x (mem_cons_of_mem _ hx);rw[List.sum_cons];refine⟨by omega,fun x hx=>?_⟩;rcases mem_cons.mp hx with rfl|hx
  ·omega
  ·have:=i2 x hx;omega
theorem rc{J:List Int}(h:∀x∈J,1<=x)(n:Nat):(kB n n).countP (lies J)=if J.sum<=(n:Int)then(kB (n-J.sum.toNat) (n-J.sum.toNat)).length else 0:=by
 by_cases hb:∀x∈J,x<=(n:Int)
 ·have e1:(kB n n).countP (lies J)=cntC (fun x=>J.count (x:Int)) n n:=by
   unfold cntC;apply List.countP_congr;intro hp _;unfold lies okC;rw[all_eq_true,all_eq_true];constructor
   ·intro z i _;refine decide_eq_true ?_;by_cases hm:((i+1:Nat):Int)∈J
    ·exact of_decide_eq_true (z _ hm)
    ·show List.count ((i+1:Nat):Int) J<=_;rw[count_eq_zero.mpr hm];exact zero_le _
   ·intro z x hx;have h1:=h x hx;have h2:=hb x hx;have:=z (x.toNat-1) (mem_range.mpr (by omega));have this:decide (List.count ((x.toNat-1+1:Nat):Int) J<=List.count ((x.toNat-1+1:Nat):Int) hp)=true:=this;rw[show x.toNat-1+1=x.toNat by omega,Int.toNat_of_nonneg (by omega)]at this;exact this
  have es:=Zy n (J:=J) fun x hx=>⟨h x hx,hb x hx⟩;rw[e1,iD];by_cases d:J.sum<=(n:Int)
  ·have e2:J.sum.toNat=sC (fun x=>J.count (x:Int)) n:=by omega
   rw[if_pos d,if_pos (by omega),<-e2];unfold lenN;rw[vB (n:=n-J.sum.toNat) (g:=n) (g':=n-J.sum.toNat) (by omega) (le_refl _)]
  ·rw[if_neg d,if_neg (by omega)]
 ·have hb':∃x,x∈J/\(n:Int)<x:=by
   refine Decidable.byContradiction fun z=>hb fun x hx=>?_;refine Decidable.byContradiction fun y=>z ⟨x,hx,by omega⟩
  obtain⟨x,hx,hlt⟩:=hb';have:=(Zz h).2 x hx;rw[if_neg (by omega)];apply List.countP_eq_zero.mpr;intro hp hh z;unfold lies at z;have zx:=of_decide_eq_true (all_eq_true.mp z x hx);have c0:hp.count x=0:=count_eq_zero.mpr fun hm=>by
   have:=pX _ _ _ hp hh x hm;omega
  have c1:0<J.count x:=List.count_pos_iff.mpr hx;omega
theorem tK(J h:List Int):lies J h=true↔ ∀x,J.count x<=h.count x:=by
 unfold lies;rw[all_eq_true];constructor
 ·intro z x;by_cases hm:x∈J
  ·exact of_decide_eq_true (z x hm)
  ·rw[count_eq_zero.mpr hm];exact zero_le _
 ·intro z x _;exact decide_eq_true (z x)
theorem dz{ls:List (List Int)}{J:List Int}(h:wc ls J)(hp:List Int):lies J hp=ls.all fun l=>lies l hp:=by
 rw[Bool.eq_iff_iff,tK,all_eq_true];constructor
 ·intro z l hl;rw[tK];intro x;have:=z x;rw[h.2 x]at this;exact le_trans (lx hl) this
 ·intro z x;rw[h.2 x];exact qK fun l hl=>(tK l hp).mp (z l hl) x
def bI(b:Bool):Int:=if b=true then 1 else 0
theorem Z5(c:List Int)(x:Int):sgnG (c++[x])= - sgnG c:=by
 unfold sgnG;rw[length_append,List.length_singleton];by_cases h:c.length%2=0
 ·rw[if_pos h,if_neg (by omega)]
 ·rw[if_neg h,if_pos (by omega)];rfl
theorem Yg(L:List (List Int))(f:List Int->Int):(L.map fun c=>- f c).sum= - (L.map f).sum:=by
 induction L with
 |nil=>rfl
 |cons a L ih =>
  rw[map_cons,map_cons,List.sum_cons,List.sum_cons,ih];omega
theorem jT(b:Int->Bool):∀(k:Nat),((chG (upto k)).map fun c=>sgnG c*bI (c.all b)).sum=bI ((upto k).all fun x=>!b x)
 | 0=>rfl
 |k+1=>by
  rw[bg,uA,map_append,List.sum_append,map_map,List.all_append,jT b k];have e:((fun c=>sgnG c*bI (c.all b))∘fun x=>x++[(k:Int)])=fun c=>- (sgnG c*bI (c.all b&&b (k:Int))):=by
   funext c
   show sgnG (c++[(k:Int)])*bI ((c++[(k:Int)]).all b)=_;rw[Z5,List.all_append,Int.neg_mul];simp
  rw[e,Yg];cases hb:b (k:Int)with
  |true =>
   have e2:(fun c:List Int=>sgnG c*bI (c.all b&&true))=fun c=>sgnG c*bI (c.all b):=by
    funext c
    rw[Bool.and_true]
   rw[e2,jT b k];simp[hb,bI];omega
  |false =>
   have e2:∀L:List (List Int),(L.map fun c:List Int=>sgnG c*bI (c.all b&&false)).sum=0:=fun L=>by
    induction L with
    |nil=>rfl
    |cons a L ih =>
     rw[map_cons,List.sum_cons,ih,Bool.and_false];show sgnG a*0+0=0;rw[Int.mul_zero];rfl
   rw[e2];simp[hb]
theorem vV(rule:List (List Int))(h:List Int):(yv rule h).isNone=(upto rule.length).all fun x=>!lies (rule.getD x.toNat []) h:=by
 unfold yv idxG idxP;rw[List.head?_map,Option.isNone_map,upto,all_map];rw[Bool.eq_iff_iff,Option.isNone_iff_eq_none,List.head?_eq_none_iff,List.filter_eq_nil_iff,all_eq_true];constructor
 ·intro z i hi;have:=z i hi;show(!lies (rule.getD ((i:Nat):Int).toNat []) h)=true;rw[toNat_natCast];simpa using this
 ·intro z i hi;have:(!lies (rule.getD ((i:Nat):Int).toNat []) h)=true:=z i hi;rw[toNat_natCast]at this;simpa using this
theorem mG(L:List (List Int))(f:List Int->Bool)(g:List Int->List Int->Int)(hg:∀h,(L.map fun c=>g c h).sum=bI (f h)):∀P:List (List Int),(((P.filter f).length:Nat):Int)=(L.map fun c=>(P.map (g c)).sum).sum
 | []=>by
  have:∀L:List (List Int),(L.map fun c=>(([]:List (List Int)).map (g c)).sum).sum=0:=fun L=>by
   induction L with
   |nil=>rfl
   |cons a L ih=>rw[map_cons,List.sum_cons,ih];rfl
  rw[this];rfl
 |h::P=>by
  have e:∀L:List (List Int),(L.map fun c=>((h::P).map (g c)).sum).sum=(L.map fun c=>g c h).sum+(L.map fun c=>(P.map (g c)).sum).sum:=fun L=>by
   induction L with
   |nil=>rfl
   |cons a L ih =>
    rw[map_cons,map_cons,map_cons,List.sum_cons,List.sum_cons,List.sum_cons,ih,map_cons,List.sum_cons];omega
  rw[e,hg,<-mG L f g hg P,filter_cons];cases hf:f h with
  |true =>
   rw[if_pos rfl,length_cons];show _=1+_;omega
  |false =>
   rw[if_neg (by decide)];show _=0+_;omega
theorem bb(P:List (List Int))(s:Int)(f:List Int->Bool):(P.map fun h=>s*bI (f h)).sum=s*((P.countP f:Nat):Int):=by
 induction P with
 |nil=>simp
 |cons a P ih =>
  rw[map_cons,List.sum_cons,ih,List.countP_cons];cases hf:f a with
  |true =>
   rw[if_pos rfl];show s*1+_=s*(((P.countP f+1:Nat)):Int);rw[Int.natCast_add,Int.mul_add,Int.add_comm];rfl
  |false =>
   rw[if_neg (by decide)];show s*0+_=_;rw[Int.mul_zero,Int.zero_add,Nat.add_zero]
theorem bR{rule:List (List Int)}(hp:∀h∈rule,∀x∈h,1<=x)(jn:List Int->List Int)(hj:∀c∈chG (upto rule.length),wc (zQ rule c) (jn c)){n:Nat}(hn:n<26) :
  (((yp rule n).length:Nat):Int)=((chG (upto rule.length)).map fun c=>sgnG c*(if(jn c).sum<=(n:Int)then(((yO 26 (n-(jn c).sum.toNat) (n-(jn c).sum.toNat)).length:Nat):Int)else 0)).sum:=by
 unfold yp;rw[mG (chG (upto rule.length)) _ (fun c h=>sgnG c*bI (c.all fun x=>lies (rule.getD x.toNat []) h)) (fun h=>by rw[jT,vV])];congr 1;apply map_congr_left;intro c hc;rw[bb];congr 1;have hJ:=hj c hc;have hJ1:∀x∈jn c,1<=x:=fun x hx=>by
  have h1:0<(jn c).count x:=List.count_pos_iff.mpr hx;rw[hJ.2 x]at h1;refine Decidable.byContradiction fun hx1=>?_;have:maxC (zQ rule c) x<=0:=qK fun l hl=>by
   obtain⟨j,_,rfl⟩:=mem_map.mp hl;have e:(rule.getD j.toNat []).count x=0:=count_eq_zero.mpr fun hm=>by
    by_cases hjl:j.toNat<rule.length
    ·rw[getD_eq_getElem?_getD,getElem?_eq_getElem hjl]at hm;exact hx1 (hp _ (getElem_mem hjl) x hm)
    ·rw[getD_eq_getElem?_getD,List.getElem?_eq_none (by omega)]at hm;cases hm
   omega
  omega
 have e1:(yO 26 n n).countP (fun h=>c.all fun x=>lies (rule.getD x.toNat []) h)=(kB n n).countP (lies (jn c)):=by
  rw[u5 26 (n+1) n n hn (by omega)];apply List.countP_congr;intro h _;rw[dz hJ h];unfold zQ;rw[all_map];exact Iff.rfl
 rw[e1,rc hJ1];by_cases d:(jn c).sum<=(n:Int)
 ·rw[if_pos d,if_pos d];unfold kB;rw[u5 26 (n-(jn c).sum.toNat+1) _ _ (by omega) (by omega)]
 ·rw[if_neg d,if_neg d];rfl
end L2
namespace L2
theorem lD{L:List (List Int)}{f g:List Int->Int}(h:∀c∈L,f c=g c):(L.map f).sum=(L.map g).sum:=by rw[map_congr_left h]
theorem da:∀L:List Int,∃us:List Int,us.Pairwise (· > ·)/\ ∀y,y∈us↔y∈L
 | []=>⟨[],.nil,fun _=>Iff.rfl⟩
 |x::L=>by
  obtain⟨us,h1,h2⟩:=da L;by_cases hx:x∈us
  ·refine⟨us,h1,fun y=>?_⟩;rw[mem_cons,<-h2 y];exact⟨.inr,fun h=>h.elim (fun e=>e▸hx) id⟩
  ·refine⟨us.filter (fun y=>decide (x<y))++x::us.filter (fun y=>decide (y<x)),?_,fun y=>?_⟩
   ·refine List.pairwise_append.mpr ⟨h1.sublist List.filter_sublist,pairwise_cons.mpr ⟨fun y hy=>?_,h1.sublist List.filter_sublist⟩,fun a ha b hb=>?_⟩
    ·exact of_decide_eq_true (mem_filter.mp hy).2
    ·have ha':x<a:=of_decide_eq_true (mem_filter.mp ha).2;rcases mem_cons.mp hb with rfl|hb
     ·exact ha'
     ·have hb':b<x:=of_decide_eq_true (mem_filter.mp hb).2;show b<a;omega
   ·rw[mem_append,mem_cons,mem_filter,mem_filter,mem_cons,<-h2 y];constructor
    ·rintro(h|h|h)
     ·exact .inr h.1
     ·exact .inl h
     ·exact .inr h.1
    ·rintro(h|h)
     ·exact .inr (.inl h)
     ·rcases Int.lt_trichotomy x y with z|z|z
      ·exact .inl ⟨h,decide_eq_true z⟩
      ·exact .inr (.inl z.symm)
      ·exact .inr (.inr ⟨h,decide_eq_true z⟩)
theorem iS(ls:List (List Int)):∃ms,wc ls ms:=by
 obtain⟨us,h1,h2⟩:=da ls.flatten;exact⟨_,mX (h1.imp fun h=>Int.ne_of_gt h) (h1.imp fun h=>le_of_lt h) h2⟩
noncomputable def wt(ls:List (List Int)):List Int:=Classical.choose (iS ls)
theorem pU(ls:List (List Int)):wc ls (wt ls):=Classical.choose_spec (iS ls)
theorem eD{ls:List (List Int)}{ms:List Int}(h:wc ls ms):wt ls=ms:=(pU ls).uniq h
noncomputable def zY(rule:List (List Int))(W0:Nat->Int)(n:Nat)(cs:List (List Int)):Int:=(cs.map fun c=>sgnG c*if (wt (zQ rule c)).sum<=(n:Int)then W0 (n-(wt (zQ rule c)).sum.toNat)else 0).sum
end L2
namespace L2
open PySem PySem.Spec PyProof.Rows
structure SeenU(H0 H:Hp)(d:Addr)(L:List Int):Prop where
 ex:∃(kvs:List (Key×V))(ns:List Int),H d=some (.dK kvs)/\kvs.map (·.1)=ns.map Sum.inl/\ns.Nodup/\ns.length<=L.length/\ ∀x,x∈ns↔x∈L
 sm:∀b o,H0 b=some o->H b=some o
 nw:H0 d=none
theorem SeenU.put{H0 H:Hp}{d:Addr}{L:List Int}{z:Int}(h:SeenU H0 H d L)(hl:L.length<1000):∃H',DPut H d (.int z) (.bl true) H'/\SeenU H0 H' d (L++[z]):=by
 obtain⟨⟨kvs,ns,hd,hk,hnd,hn,hm⟩,sm,nw⟩:=h;have hlen:kvs.length=ns.length:=by
  have:=congrArg length hk;simpa using this
 refine⟨upd H d (.dK (putK kvs (Sum.inl z) (.bl true))),DPut.k (k:=Sum.inl z) hd (lt_of_lt_of_le (show kvs.length<1000 by omega) (by decide)),⟨?_,fun b o e=>by rw[zh (zj e nw)];exact sm b o e,nw⟩⟩;cases e:valV kvs (Sum.inl z)with
 |none =>
  have hz:z∉ns:=fun hz=>Z9 e (by rw[hk];exact mem_map.mpr ⟨z,hz,rfl⟩);refine⟨_,ns++[z],z6,by rw[sW _ e,map_append,hk,map_append];rfl,?_,by simp;omega,fun x=>by simp[hm]⟩;refine List.nodup_append.mpr ⟨hnd,by simp,fun a ha b hb e=>?_⟩;have:b=z:=by simpa using hb
  exact hz (by rw[<-this,<-e];exact ha)
 |some v =>
  have hin:=Yj e;rw[hk]at hin;have hz:z∈ns:=by
   obtain⟨y,hy,e2⟩:=mem_map.mp hin;have:y=z:=Sum.inl.inj e2;rw[<-this];exact hy
  refine⟨_,ns,z6,?_,hnd,by simp;omega,fun x=>?_⟩
  ·have:(putK kvs (Sum.inl z) (V.bl true)).map (·.1)=kvs.map (·.1):=nG e;rw[this,hk]
  ·rw[mem_append,<-hm];exact⟨Or.inl,fun h=>h.elim id fun h=>by rw[show x=z by simpa using h];exact hz⟩
theorem dW:∀{a b:List Int},a.Nodup->(∀x∈a,x∈b)->a.length<=b.length
 | [],_,_,_=>zero_le _
 |x::a,b,hn,h=>by
  obtain⟨h1,h2⟩:=nodup_cons.mp hn;have hx:=h x mem_cons_self;have:=dW (b:=b.erase x) h2 fun y hy=>by
   have hne:y≠x:=fun e=>h1 (by rw[<-e];exact hy);exact(List.mem_erase_of_ne hne).mpr (h y (mem_cons_of_mem _ hy))
  rw[List.length_erase_of_mem hx]at this;have:0<b.length:=List.length_pos_of_mem hx;rw[length_cons];omega
def bj(rule:List (List Int)):Prop:=(∃D:List Int,D.length<64/\ ∀h∈rule,∀x∈h,x∈D)/\(∀h∈rule,h.length<=100)/\ ∀h∈rule,∀x∈h,1<=x
theorem qa{rule:List (List Int)}{ch:List Int}{l:List Int}(h:l∈zQ rule ch):l∈rule\/l=[]:=by
 obtain⟨j,_,rfl⟩:=mem_map.mp h;by_cases hj:j.toNat<rule.length
 ·left;rw[getD_eq_getElem?_getD,getElem?_eq_getElem hj];exact getElem_mem hj
 ·right;rw[getD_eq_getElem?_getD,List.getElem?_eq_none (by omega)];rfl
theorem bj.pick{rule:List (List Int)}(h:bj rule){ch:List Int}(hc:ch.length<=6):(∃D:List Int,D.length<64/\ ∀x∈(zQ rule ch).flatten,x∈D)/\(zQ rule ch).flatten.length<1000:=by
 obtain⟨⟨D,hD,hm⟩,hl,_⟩:=h;refine⟨⟨D,hD,fun x hx=>?_⟩,?_⟩
 ·obtain⟨l,hl,hx⟩:=List.mem_flatten.mp hx;rcases qa hl with h|h
  ·exact hm l h x hx
  ·rw[h]at hx;cases hx
 ·have:(zQ rule ch).flatten.length<=100*(zQ rule ch).length:=tq fun l hl'=>by
   rcases qa hl' with h|h
   ·exact hl l h
   ·rw[h];exact zero_le _
  have e:(zQ rule ch).length=ch.length:=by unfold zQ;rw[length_map]
  omega
def wayF(m j:Nat):Int:=(wayR m).reverse.getD j 0
theorem jx(rule:List (List Int))(W0:Nat->Int)(n:Nat)(cs:List (List Int))(c:List Int):zY rule W0 n (cs++[c])=zY rule W0 n cs+sgnG c*if (wt (zQ rule c)).sum<=(n:Int)then W0 (n-(wt (zQ rule c)).sum.toNat)else 0:=by
 unfold zY;rw[map_append,List.sum_append];simp
theorem vW{rule:List (List Int)}(h:bj rule)(ch:List Int):0<=(wt (zQ rule ch)).sum:=by
 refine(Zz fun x hx=>?_).1;have hj:=pU (zQ rule ch);have h1:0<(wt (zQ rule ch)).count x:=List.count_pos_iff.mpr hx;rw[hj.2 x]at h1;refine Decidable.byContradiction fun hx1=>?_;have:maxC (zQ rule ch) x<=0:=qK fun l hl=>by
  have e:l.count x=0:=count_eq_zero.mpr fun hm=>by
   rcases qa hl with z|z
   ·exact hx1 (h.2.2 l z x hm)
   ·rw[z]at hm;cases hm
  omega
 omega
theorem RuleAt.J{H:Hp}{p:Addr}{rs:List V}{rule:List (List Int)}(h:RuleAt H p rs rule):bj rule:=by
 refine⟨⟨rule.flatten,?_,fun l hl x hx=>List.mem_flatten.mpr ⟨l,hl,hx⟩⟩,fun l hl=>le_trans (h.gd l hl).ln (by decide),fun l hl x hx=>((h.gd l hl).bd x hx).1⟩;have h1:rule.flatten.length<=10*rule.length:=tq fun l hl=>(h.gd l hl).ln;have h2:=h.ln;omega
theorem oS{rule:List (List Int)}(hp:∀h∈rule,∀x∈h,1<=x){n:Nat}(hn:n<=24):(((yp rule n).length:Nat):Int)=zY rule (wayF n) n (chG (upto rule.length)):=by
 rw[bR hp (fun c=>wt (zQ rule c)) (fun c _=>pU _) (show n<26 by omega)];unfold zY;refine lD fun c _=>?_;congr 1;by_cases d:(wt (zQ rule c)).sum<=(n:Int)
 ·rw[if_pos d,if_pos d];generalize(wt (zQ rule c)).sum.toNat=a;have h12:=hZ (n-a) (by omega);unfold yb at h12;simp only[and_eq_true,beq_iff_eq]at h12;rw[h12.1.1,aU (by omega) (le_refl _)];unfold wayF;have:=qh (n-a) (n-(n-a)) (n-a) (le_refl _);rw[show n-a+(n-(n-a))=n by omega]at this;exact this.symm
 ·rw[if_neg d,if_neg d]
theorem rK{rule:List (List Int)}{W0 W':Nat->Int}{n:Nat}(h:∀j,j<=n->W0 j=W' j)(cs:List (List Int)):zY rule W0 n cs=zY rule W' n cs:=by
 unfold zY;refine lD fun c _=>?_;rw[h _ (Nat.sub_le _ _)]
theorem og{n j:Nat}(hn:n<=400)(hj:j<=n):wayF n j=(zy n n).getD j 0:=by
 rw[aU hn hj];unfold wayF;have:=qh j (n-j) j (le_refl _);rw[show j+(n-j)=n by omega]at this;exact this
open PySem.Builtin.Str (occurrences subAt)
theorem ka(i j:Str):(i++j).length=i.length+j.length:=by
 show(i.cps++j.cps).size=_;simp;rfl
end L2
namespace L2
open PySem PySem.Spec PyProof.Rows
def Kg(M:Model)(A:Around)(E:Value->Shared->Prop)(use:Option (Value->Sem Unit))(Q:Value->Shared->Prop)(acc:Value)(ce:Env)(r:Result)(s':Shared):Prop :=
 match r with
 | .ok f=>compPost M A E use Q acc ce.locals (.ok f) s'
 | .error x=>∃ m,s'.heap.Ns ce.locals m/\ ∀h',Heap.SameBut ce.locals s'.heap h'->wpAny M A (PySem.passOn "comprehension.variables-let-go" x ce:Sem Value) (fun _ _=>False) E {s' with heap:=h'}
abbrev m6(scope:Scope):List (Str×NameKind):=(scope.names.filter fun z=>(z.2== .local||z.2== .cell)&&z.1 !=(".0" : Str)).reverse
theorem bH{M:Model}{A:Around}{E:Value->Shared->Prop}{s:Shared}{env:Env}{e:Expr}{scope:Scope}{pos:Pos}{acc0 one:Sem Value}{c:Comprehension}{cs:List Comprehension}{cl:List (Str×Addr)}{use:Option (Value->Sem Unit)}{Q:Value->Shared->Prop}(h1:clausesOf e=c::cs)(h2:∀x,foldedSetIterable c.iter env x=pure x)(h3:closureFor scope env=pure cl)(h4:scope.kind= .function)(h5:∀x∈scope.names,x.2= .local->scope.names.lookup x.1=some .local)(h:wpAny M A one (fun x a1=>wpAny M A (pyIter x) (fun it a2=>wpAny M A acc0 (fun acc a3=>wpAny M A (newFunctionEnv scope env.globals cl [] env.qual none .none (some env)) (fun ce a4 =>
   codeAny M A (.compStart e 0 it acc {ce with scope:=relabel scope env}) (Kg M A E use Q acc {ce with scope:=relabel scope env}) a4) E a3) E a2) E a1) E s) :
  wpAny M A (comprehension e scope env pos acc0 false one use) Q E s:=by
 unfold comprehension;rw[h3,h1];refine wpAny_bind (wpAny_mono h (fun x a1 k1=>?_) fun _ _ z=>z);refine wpAny_bind (wpAny_standAt (wpAny_bind (wpAny_of_eq (h2 x) (wpAny_bind (wpAny_holding (wpAny_mono k1 (fun it a2 k2=>?_) fun _ _ z=>z))))));refine wpAny_standIf (wpAny_bind (wpAny_mono k2 (fun acc a3 k3=>?_) fun _ _ z=>z));refine wpAny_bind (wpAny_pure (wpAny_bind (wpAny_mono k3 (fun ce a4 k4=>?_) fun _ _ z=>z)));dsimp only;have v1:∀y∈m6 scope,y.2= .local->Env.kindOf {ce with scope:=relabel scope env} y.1=some .local :=
  fun y hy hl=>lookup_relabel_local (h5 y (mem_filter.mp (List.mem_reverse.mp hy)).1 hl)
 have v2:∀y∈(m6 scope).drop 1++(m6 scope).take 1,y.2= .local->Env.kindOf {ce with scope:=relabel scope env} y.1=some .local :=
  fun y hy hl=>(mem_append.mp hy).elim (fun z=>v1 y (List.mem_of_mem_drop z) hl) fun z=>v1 y (List.mem_of_mem_take z) hl
 refine wpAny_holding (wpAny_bind (wpAny_attempt (wpAny_holding (wpAny_run (codeAny_mono k4 fun r s' k5=>?_)))));cases r with
 |error x =>
  obtain⟨m,hn,k6⟩:=k5;refine wpAny_bind (wpAny_holding (wpAny_comp_letGo h4 _ s' m v1 hn fun h' _ _ sb=>?_));exact wpAny_mono (k6 h' sb) (fun _ _ z=>z.elim) fun _ _ z=>z
 |ok f =>
  cases use with
  |some u =>
   refine wpAny_bind (wpAny_rule (wpAny_bind (wpAny_holding (wpAny_mono k5 (fun _ s2 k6=>?_) fun _ _ z=>z))));obtain⟨m,hn,k7⟩:=k6;exact wpAny_bind (wpAny_comp_letGo h4 _ s2 m v2 hn fun h' _ _ sb=>wpAny_pure (k7 h' sb))
  |none =>
   obtain⟨m,hn,k6⟩:=k5;exact wpAny_bind (wpAny_holding (wpAny_comp_letGo h4 _ s' m v1 hn fun h' _ _ sb=>wpAny_pure (k6 h' sb)))
theorem ZV{v:Value}{a b:Env}(h:a.frame=b.frame):noteFrame v a=noteFrame v b:=by
 unfold noteFrame PySem.frameOf;rw[h]
def XEc(X:Cx)(E:XK)(C:Addr):Value->Shared->Prop:=fun ev s'=>∃(e:Addr)(c:Value)(dd:Option Addr)(H':Hp),ev= .ref e/\E c dd H'/\ExcAt X H' e c dd s'/\H' C=none/\ ∃m,s'.heap.Ns C m
abbrev cxE(X:Cx)(E:XK)(scope:Scope)(N:List Str)(C:Addr)(s:Shared)(H:Hp)(ex:List Addr):Cx:=(cxC X scope N C s H ex).wish (XEc X E C)
def vR(X:Cx)(C:Addr)(s:Shared)(H:Hp)(ex:List Addr):Prop:=∃ pins σ,Inv X pins σ H s/\s.heap.objs.size<=C/\ ∀b∈ex,FpOk X pins H b/\b<s.heap.objs.size
theorem Inv.noFr{X:Cx}{pins:List (Addr×Obj)}{σ:St}{H:Hp}{s:Shared}{C:Addr}(I:Inv X pins σ H s)(h:s.heap.objs.size<=C):C∉frs X.stack:=fun hb =>
 I.nofs h ((mem_cons.mp (I.stkSub _ hb)).resolve_left fun z=>absurd I.lt (by rw[<-z];exact Nat.not_lt.mpr h))
theorem Jo{X:Cx}{E E':XK}{scope:Scope}{N:List Str}{C:Addr}{s:Shared}{H:Hp}{ex:List Addr}(hC:vR X C s H ex)(top:X.stack=X.env::X.outer:=by rfl)(fr:X.env.frame=some X.env.locals:=by rfl)(h:∀c dd H',E' c dd H'->E c dd H':=by exact fun _ _ _ h=>h) :
  jE (CX1 X.prog X.w) (cxE X E scope N C s H ex) E':=fun pins1 σ1 H1 s1 ev s' I1 hx=>by
 obtain⟨pins,σ,I,hCs,hex⟩:=hC;have J1:Inv (cxC X scope N C s H ex) pins1 σ1 H1 s1:=I1.unwish;have J:Inv X pins σ H1 s1:=I.call' J1.os J1.base J1.hok J1.bare fun b hb=>by
  obtain⟨⟨_,f1,_,f3,f4,f5⟩,_⟩:=hex b hb;exact⟨f3,f1,f4,f5⟩
 obtain⟨m,hn,_⟩:=id J1.loc;have hn:s1.heap.Ns C m:=hn;have hfree:H1 C=none:=J1.free;obtain⟨e2,c2,d2,H2,he2,hE2,hos,hb,un,hok,fe,B,hf,cv⟩:=(hx:CX1 X.prog X.w X.stack H1 s1 E' ev s');obtain⟨e,c,dd,H',he,⟨rfl,rfl,rfl⟩,x⟩:=ExcAt.come (E:=fun c dd H'=>c=c2/\dd=d2/\H'=H2) ⟨J.ok,top,fr⟩ J ⟨e2,c2,d2,H2,he2,⟨rfl,rfl,rfl⟩,hos,hb,un,hok,fe,B,hf,cv⟩;obtain⟨o,es,ep,g,r⟩:=hn;exact⟨e,c,dd,H',he,h _ _ _ hE2,x,un.free C _ g hfree (by simp),m,⟨o,es,ep,un.keep C o g hfree (I.noFr hCs) (by simp),r⟩⟩
theorem oZ{h h':Heap}{C:Addr}{m:Str->Option Value}(hn:h.Ns C m)(up:∀b o,h.get? b=some o->(∀vs,o.data≠ .fields vs)-> ∃sl,h'.get? b=some {o with slots:=sl}):h'.Ns C m:=by
 obtain⟨o,es,ep,g,hd,r⟩:=hn;obtain⟨sl,g'⟩:=up C o g fun vs z=>by rw[hd]at z;cases z
 exact⟨_,es,ep,g',hd,r⟩
section
variable{X:Cx}
theorem ExcAt.noteC{M:Model}{E':Value->Shared->Prop}{H':Hp}{e C:Addr}{c:Value}{dd:Option Addr}{m:Str->Option Value}{s':Shared}{Q:Unit->Shared->Prop}(o:Own X)(x:ExcAt X H' e c dd s')(hn:s'.heap.Ns C m)(h:∀s'',ExcAt X H' e c dd s''->(∃B,vf B X.stack e c dd X.env.locals s''.heap/\Cov X.s₀.heap X.H₀ (frs X.stack) X.ex H' B)->s''.heap.Ns C m->Q () s''):wpAny M X.A (noteFrame (.ref e) X.env) Q E' s':=by
 obtain⟨B,cv,st⟩:=x.st;have fin:∀{h':Heap},vf B X.stack e c dd X.env.locals h'->UpS s'.heap h'->Q () {s' with heap:=h'}:=fun{h'} hh up=>by
  obtain⟨u,k⟩:=cv.turn o.sub (kM st.frames) st.stays hh.1 up x.un x.hok o.old;exact h _ ⟨x.os,x.bare,u,k,x.fe,B,cv,.held hh⟩ ⟨B,hh,cv⟩ (oZ hn up)
 have hfr:X.A.frames=some (X.env::X.outer):=by rw[<-o.top];exact o.ok.frames
 cases st with
 |made oe vs b1 b2 b3 he hc hdd hd h1 =>
  subst hc hdd;rw[o.top]at b2;exact fh hfr b2 o.fr he b1 b3 hd h1 fun h' hh up=>fin (by rw[o.top];exact hh) up
 |fly hf =>
  rw[o.top]at hf;exact aN hfr o.fr hf fun h' hh up=>fin (by rw[o.top];exact hh) up
 |held hh =>
  exact fc (fl:=.none) o.fr hh.2.2.2 (fin hh (UpS.same _))
theorem ExcAt.but{H':Hp}{e C:Addr}{c:Value}{dd:Option Addr}{m:Str->Option Value}{s':Shared}{h':Heap}(o:Own X)(x:ExcAt X H' e c dd s')(hx:∃B,vf B X.stack e c dd X.env.locals s'.heap/\Cov X.s₀.heap X.H₀ (frs X.stack) X.ex H' B)(hn:s'.heap.Ns C m)(hC:X.s₀.heap.objs.size<=C)(hfr:C∉frs X.stack)(hf:H' C=none)(sb:Heap.SameBut C s'.heap h'):ExcAt X H' e c dd {s' with heap:=h'}/\ ∃B,vf B X.stack e c dd X.env.locals h'/\Cov X.s₀.heap X.H₀ (frs X.stack) X.ex H' B:=by
 obtain⟨B,⟨f1,f2,f3,f4⟩,cv⟩:=hx;have neC:∀b ob,X.s₀.heap.get? b=some ob->b≠C:=fun b ob q=>ne_of_lt (lt_of_lt_of_le (Heap.lt_size q) hC);have neF:∀b ob vs,s'.heap.get? b=some ob->ob.data= .fields vs->b≠C:=fun b ob vs q hd z=>by
  obtain⟨o1,es,ep,g,hd1,_⟩:=hn;rw[z,g]at q;cases q;rw[hd1]at hd;cases hd
 have get:∀b ob,b≠C->s'.heap.get? b=some ob->h'.get? b=some ob:=fun b ob hb q=>(sb.2 b hb).trans q;have inB:∀b ob,(W.hideAll B [C]).get? b=some ob->B.get? b=some ob/\b≠C:=fun b ob q=>⟨W.of_hideAll _ q,fun z=>by
  rw[z,W.hideAll_none [C] (by simp)]at q;cases q⟩
 have toB:∀b ob,b≠C->B.get? b=some ob->(W.hideAll B [C]).get? b=some ob:=fun b ob hb q=>W.hideAll_get _ q (by simpa using hb);have cv':Cov X.s₀.heap X.H₀ (frs X.stack) X.ex H' (W.hideAll B [C]):=⟨fun b u q=>by
   obtain⟨ob,g⟩:=cv.trk b u q;exact⟨ob,toB b ob (fun z=>by rw[z,hf]at q;cases q) g⟩,fun b ob q n h1 h2=>toB b ob (neC b ob q) (cv.old b ob q n h1 h2),fun b ob q h1 h2=>by
   obtain⟨ob',g⟩:=cv.all b ob q h1 h2;exact⟨ob',toB b ob' (neC b ob q) g⟩⟩
 have ff:∀{l:List Env},s'.heap.FunFrames B l->(∀b∈frs l,b≠C)->h'.FunFrames (W.hideAll B [C]) l:=fun{l}=>by
  induction l with
  |nil=>exact fun _ _=>trivial
  |cons env r ih =>
   rintro⟨k1,⟨L,ob,k2,k3,k4,k5⟩,k6⟩ hl;have hL:L≠C:=hl L (by unfold frs;rw[filterMap_cons,k2];exact mem_cons_self);refine⟨k1,⟨L,ob,k2,?_,get L ob hL k4,k5⟩,ih k6 fun b hb=>hl b (by unfold frs;rw[filterMap_cons,k2];exact mem_cons_of_mem _ hb)⟩;cases q:(W.hideAll B [C]).get? L with
   |none=>rfl
   |some ob'=>have:=(inB L ob' q).1;rw[k3]at this;cases this
 have hh:vf (W.hideAll B [C]) X.stack e c dd X.env.locals h':=by
  obtain⟨oe,vs,T,oT,ts,he,hcl,hd,h1,hnT,hTe,hT,hdT,h3⟩:=f4;have no:∀b,B.get? b=none->(W.hideAll B [C]).get? b=none:=fun b q=>by
   cases z:(W.hideAll B [C]).get? b with
   |none=>rfl
   |some ob'=>have:=(inB b ob' z).1;rw[q]at this;cases this
  exact⟨fun b ob q=>get b ob (inB b ob q).2 (f1 b ob (inB b ob q).1),no e f2,ff f3 fun b hb z=>hfr (z▸hb),oe,vs,T,oT,ts,get e oe (neF e oe vs he hd) he,hcl,hd,h1,no T hnT,hTe,get T oT (neF T oT ts hT hdT) hT,hdT,h3⟩
 refine⟨⟨x.os,x.bare,⟨fun b ob q n h1 h2=>get b ob (neC b ob q) (x.un.keep b ob q n h1 h2),fun b ob q n h1 h2=>?_,x.un.free,fun b ob q h2=>?_,x.un.tups,x.un.frzs,x.un.tbls⟩,fun b u q=>?_,x.fe,_,cv',.held hh⟩,_,hh,cv'⟩
 ·obtain⟨sl,g⟩:=x.un.slot b ob q n h1 h2;exact⟨sl,get b _ (neC b ob q) g⟩
 ·obtain⟨ob',g⟩:=x.un.there b ob q h2;exact⟨ob',get b _ (neC b ob q) g⟩
 ·refine(x.hok b u q).stay (fun d v hd g=>get d v (fun z=>?_) g) (fun _ g=>g) fun _ _ g=>g;rcases hd with rfl|hd
  ·rw[z,hf]at q;cases q
  ·rw[z,hf]at hd;cases hd
theorem ExcAt.on{M:Model}{E:XK}{H':Hp}{e:Addr}{c:Value}{dd:Option Addr}{s':Shared}{what:String}{ce:Env}(o:Own X)(hce:ce.frame=X.env.frame)(hE:E c dd H')(x:ExcAt X H' e c dd s')(hx:∃B,vf B X.stack e c dd X.env.locals s'.heap/\Cov X.s₀.heap X.H₀ (frs X.stack) X.ex H' B) :
  wpAny M X.A (PySem.passOn what (.ref e) ce:Sem Value) (fun _ _=>False) (XE X E) s':=by
 obtain⟨B,⟨f1,f2,f3,f4⟩,cv⟩:=hx;obtain⟨oe,vs,T,oT,ts,he,hcls,hd,h1,hnT,hTe,hT,hdT,h3⟩:=id f4;unfold PySem.passOn;refine wpAny_bind (wpAny_field he hd h1 ?_);rw[if_neg (show ¬((Value.ref T==Value.none)=true)from by simp),hce,o.fr];refine wpAny_bind ?_;refine wX (some X.env.locals) f1 f3 f4 fun h' k1 k2 k3 up=>?_;obtain⟨u,k⟩:=cv.turn o.sub (kM f3) f1 k1 up x.un x.hok o.old;exact wpAny_throw ⟨e,c,dd,H',rfl,hE,x.os,x.bare,u,k,x.fe,B,cv,.held ⟨k1,f2,k2,k3⟩⟩
end
section
variable{X:Cx}{scope:Scope}{ls:List Str}{fr:List (Str×Nat)}
theorem bG{EX:XK}{pins:List (Addr×Obj)}{σ:St}{H:Hp}{s:Shared}{it:Addr}{fp:List Addr}{tn:Nat->Heap->Prop}{J:It}{tg elt iter:Expr}{ifs:List Expr}{pos:Pos}{g:TG}{tf:TT}{te:TE}{Q:VK}{E:Value->Shared->Prop}{RR:Value->Env->Result->Shared->Prop}(own:Own X)(S:CScope X scope ls fr)(hc:X.calm=true)(I:Inv X pins σ H s)(T:Turn X.prog X.w X.K tg J fp it tn)(st:tn 0 s.heap)(hf:∀b∈fp,FpOk X pins H b)(hq:uj g tf te (wq ls fr σ) J H Q)(hg:∀C s H ex,vR X C s H ex->PG (cxE X EX scope (ls++fr.map (·.1)) C s H ex) tg g)(ht:∀C s H ex,vR X C s H ex->PF (cxE X EX scope (ls++fr.map (·.1)) C s H ex) ifs tf)(he:∀C s H ex,vR X C s H ex->PE (cxE X EX scope (ls++fr.map (·.1)) C s H ex) elt te)(hRR:∀(D C:Addr) (ce:Env) (s':Shared) (H':Hp) (m:Str->Option Value),ce.locals=C->Inv X pins σ H' s'->s'.heap.Ns C m->s.heap.objs.size<=C->H' C=none->Q (.ref D) H'->RR (.ref D) ce (.ok .next) s')(hRE:∀(D C e:Addr) (ce:Env) (c:Value) (dd:Option Addr) (H':Hp) (s':Shared) (m:Str->Option Value),ce.locals=C->ce.frame=X.env.frame->s.heap.objs.size<=C->EX c dd H'->ExcAt X H' e c dd s'->(∃B,vf B X.stack e c dd X.env.locals s'.heap/\Cov X.s₀.heap X.H₀ (frs X.stack) X.ex H' B)->s'.heap.Ns C m->H' C=none->RR (.ref D) ce (.error (.ref e)) s') :
  wpAny (model X.prog X.w) X.A (newList []) (fun acc s₃=>wpAny (model X.prog X.w) X.A (newFunctionEnv scope X.env.globals (clos scope X.env) [] X.env.qual none .none (some X.env)) (fun cenv s₄ =>
   codeAny (model X.prog X.w) X.A (.compStart (.ListComp elt [⟨tg,iter,ifs,0⟩] scope pos) 0 (.ref it) acc {cenv with scope:=relabel scope X.env}) (RR acc {cenv with scope:=relabel scope X.env}) s₄) E s₃) E s:=by
 refine wpAny_newObj_type (wpAny_newFunctionEnv S.nocell (by intro y hy;simp at hy) (fun h₁ hns₁ hsb₁=>?_) S.kind);dsimp only at hns₁ hsb₁ ⊢;generalize hH2:s.heap.push {cls:=.type "list",dict:=none,data:=.seq ([]:List Value).toArray}=H2 at hns₁ hsb₁ ⊢;have hC:H2.objs.size=s.heap.objs.size+1:=by rw[<-hH2,Heap.size_push]
 have hDC:s.heap.objs.size≠H2.objs.size:=by rw[hC];exact ne_of_lt (Nat.lt_succ_self _)
 have hCle:s.heap.objs.size<=H2.objs.size:=by rw[hC];exact le_succ _
 have below:∀b,b<s.heap.objs.size->b≠H2.objs.size/\b≠s.heap.objs.size:=fun b hb=>⟨by rw[hC];exact ne_of_lt (lt_succ_of_lt hb),ne_of_lt hb⟩;have old:∀b o,s.heap.get? b=some o->h₁.get? b=some o:=fun b o e=>hsb₁.extBut b o (below b (Heap.lt_size e)).1 (Heap.get?_push_of_some _ (hH2▸Heap.get?_push_of_some _ e));have hacc:h₁.PlainList s.heap.objs.size #[]:=⟨_,hsb₁.extBut _ _ hDC (Heap.get?_push_of_some _ (hH2▸Heap.get?_push_size _ rfl))⟩;have hfl:∀b∈fp,b<s.heap.objs.size:=fun b hb=>by
  obtain⟨o,e,_⟩:=T.obj _ _ st b hb;exact Heap.lt_size e
 have hex:∀b∈fp,FpOk X pins H b/\b<s.heap.objs.size:=fun b hb=>⟨hf b hb,hfl b hb⟩;generalize hs4:({s with heap:=h₁,toks:=s.toks+([]:List (Str×Value)).length}:Shared)=s4;generalize hX:cxE X EX scope (ls++fr.map (·.1)) H2.objs.size s H fp=Y;have I4:Inv Y [] (wq ls fr σ) H s4:=by
  have I4':Inv (cxC X scope (ls++fr.map (·.1)) H2.objs.size s H fp) [] (wq ls fr σ) H s4:=by
   rw[<-hs4];exact aW S I hCle hex rfl I.bare old hns₁
  rw[<-hX];exact I4'.wish _
 have YP:Y.prog=X.prog:=by rw[<-hX];rfl
 have Yw:Y.w=X.w:=by rw[<-hX];rfl
 have YK:Y.K=X.K:=by rw[<-hX];rfl
 have YA:Y.A=X.A:=by rw[<-hX];rfl
 have Yc:Y.calm=true:=by rw[<-hX];exact hc
 have Yx:Y.xe=XEc X EX H2.objs.size:=by rw[<-hX]
 have Yf:Y.env.frame=X.env.frame:=by rw[<-hX];rfl
 have cat:vR X H2.objs.size s H fp:=⟨pins,σ,I,hCle,hex⟩;have Yl:Y.env.locals=H2.objs.size:=by rw[<-hX];rfl
 have Yok:(cxC X scope (ls++fr.map (·.1)) H2.objs.size s H fp).Ok:=bJ S I hCle hex;have fpY:∀{H':Hp}{o:Obj},(∀b∈fp,H' b=none)-> ∀b∈fp,FpOk Y [(s.heap.objs.size,o)] H' b:=fun{H' o} hn b hb=>by
  rw[<-hX];obtain⟨f0,f1,f2,f3,f4,f5⟩:=hf b hb;refine⟨hn b hb,(below b (hfl b hb)).1,fun z=>Yok.exfs b hb z,.inl hb,fun x c e=>f4 x c (S.look I e),fun p hp=>?_⟩;have e:p=(s.heap.objs.size,o):=by simpa [cxC]using hp
  subst e;exact Ne.symm (below b (hfl b hb)).2
 have pinD:∀{σ':St}{H':Hp}{s':Shared}{its:Array Value}{n:Nat},Inv Y [] σ' H' s'->H' s.heap.objs.size=none->s'.heap.get? s.heap.objs.size=some {cls:=.type "list",data:=.seq its n}->
   Inv Y [(s.heap.objs.size,{cls:=.type "list",data:=.seq its n})] σ' H' s':=fun{σ' H' s' its n} I' hn e=>I'.pins_of fun p hp=>by
  have ep:p=(s.heap.objs.size,{cls:=.type "list",data:=.seq its n}):=by simpa using hp
  subst ep;refine⟨e,hn,by rw[Yl];exact hDC,?_,fun v z=>nomatch z⟩;rw[<-hX];exact fun hb=>I.nofs (le_refl _) ((mem_cons.mp (I.stkSub _ hb)).resolve_left fun z=>absurd I.lt (by rw[<-z];exact lt_irrefl _))
 obtain⟨W0,⟨m0,w0⟩,turn⟩:=hq;have E1:∀{α:Type}{t:Sem α}{Q1:α->Shared->Prop}{s1:Shared},wpAny (model X.prog X.w) X.A t Q1 Y.xe s1->wpAny (model X.prog X.w) X.A t Q1 (notedBy (model X.prog X.w) X.A Y.env fun e s'=>RR (Value.ref s.heap.objs.size) Y.env (Except.error e) s') s1:=fun h=>wpAny_mono h (fun _ _ z=>z) fun ev s' z=>by
  rw[Yx]at z;obtain⟨e,c,dd,H',rfl,hE,x,hCn,m,hn⟩:=z;show wpAny _ X.A (noteFrame (.ref e) Y.env) _ _ s';rw[ZV Yf];exact x.noteC own hn fun s'' x'' hh hn''=>hRE _ _ e Y.env c dd H' s'' m Yl Yf hCle hE x'' hh hn'' hCn
 have endC:∀{σ':St}{H':Hp}{s':Shared}{its:List Value}{ys:List V},Inv Y [] σ' H' s'->H' s.heap.objs.size=none->s'.heap.PlainList s.heap.objs.size its.toArray->Vals ys its->ys.length<=sizeLine->
   (∀p,H' p=none->Q (.ref p) (upd H' p (.lst ys)))->RR (.ref s.heap.objs.size) Y.env (.ok .next) s':=fun{σ' H' s' its ys} I' hn ⟨n,e⟩ rv hz q=>by
  subst hX;obtain⟨m,hm,_⟩:=id I'.loc;have hCn:H' H2.objs.size=none:=I'.free;refine hRR _ _ _ s' (upd H' s.heap.objs.size (.lst ys)) m rfl (I.call' I'.os (Un.add I'.base (le_refl _) hn) (I'.hok.add hn ⟨hz,its,n,rv,e⟩) I'.bare fun b hb=>?_) hm hCle (by show upd H' s.heap.objs.size (.lst ys) H2.objs.size=none;rw[zh (Ne.symm hDC)];exact hCn) (q _ hn);obtain⟨f0,f1,f2,f3,f4,f5⟩:=hf b hb;exact⟨f3,f1,f4,f5⟩
 have loop:codeAny (model X.prog X.w) X.A (.compLoop (.ListComp elt [⟨tg,iter,ifs,0⟩] scope pos) 0 (.ref it) (.ref s.heap.objs.size) Y.env) (RR (.ref s.heap.objs.size) Y.env) s4:=by
  refine uB (fun n s'=>∃(i:Nat)(σ':St)(H':Hp)(ys:List V)(its:List Value),Inv Y [] σ' H' s'/\tn i s'.heap/\(∀b∈fp,H' b=none)/\H' s.heap.objs.size=none/\s'.heap.PlainList s.heap.objs.size its.toArray/\Vals ys its/\W0 i n ys σ' H') ?_ m0
   ⟨0,wq ls fr σ,H,[],[],I4,T.keep _ _ _ st fun b _ o e=>by rw[<-hs4];exact old b o e,fun b hb=>(hf b hb).1,I.hok.fresh (le_refl _),by rw[<-hs4];exact hacc,.nil,w0⟩
  rintro n s5 ⟨i,σ5,H5,ys,its,I5,st5,fr5,hn5,⟨nn,e5⟩,rv,w5⟩;have I5p:=pinD I5 hn5 e5;rcases turn i n ys σ5 H5 w5 with⟨stop,hz,qn⟩|⟨go,hz,NN,hNN,step⟩
  ·rw[<-YA];refine thn (T.done Y YP Yw YK Yc i _ s5 σ5 H5 _ I5p (fpY fr5) st5 stop) fun r s6 ⟨hr,I6⟩=>?_;subst hr;exact endC (I6.pins_of fun p hp=>nomatch hp) hn5 ⟨nn,(I6.pin _ (mem_append_right _ mem_cons_self)).1⟩ rv hz qn
  ·have hit:=T.item Y YP Yw YK Yc i _ s5 σ5 H5 (notedBy (model X.prog X.w) X.A Y.env fun e s'=>RR (Value.ref s.heap.objs.size) Y.env (Except.error e) s') I5p (fpY fr5) st5 go;rw[YA]at hit;refine thn hit fun r s6 ⟨u,hr,h6⟩=>?_;subst hr;refine thn h6 fun _ s7 ⟨x,H7,I7,r7,y7,st7,fr7⟩=>?_;have I7':=I7.pinned (fpY fr7) (T.obj _ _ st7);have h8:=hg H2.objs.size s H fp cat;have h9:=ht H2.objs.size s H fp cat;have h10:=he H2.objs.size s H fp cat;rw[hX]at h8 h9 h10;have a8:=h8 _ s7 σ5 H7 x u _ I7' r7 (step x H7 y7);rw[YP,Yw,YA]at a8;refine thn (E1 a8) fun _ s8 ⟨σ8,H8,I8,q8⟩=>?_;have a9:=h9 _ s8 σ8 H8 _ I8 q8;rw[YP,Yw,YA]at a9;refine thn (E1 a9) fun b s9 ⟨H9,I9,q9⟩=>?_;have back:∀{σ':St}{H':Hp}{s':Shared},Inv Y ([(s.heap.objs.size,{cls:=.type "list",data:=.seq its.toArray nn})]++rn fp s7.heap) σ' H' s'->
     tn (i+1) s'.heap/\(∀b∈fp,H' b=none)/\H' s.heap.objs.size=none/\s'.heap.PlainList s.heap.objs.size its.toArray:=fun{σ' H' s'} I'=>by
    have hp:=I'.pin (s.heap.objs.size,{cls:=.type "list",data:=.seq its.toArray nn}) (mem_append_right _ (List.mem_append_left _ mem_cons_self));refine⟨T.keep _ _ _ st7 fun b hb o e=>(I'.pin (b,o) (mem_append_right _ (mem_append_right _ (j4 hb e)))).1,fun b hb=>?_,hp.2.1,⟨nn,hp.1⟩⟩;obtain⟨o,e,d⟩:=T.obj _ _ st7 b hb;exact(I'.pin (b,o) (mem_append_right _ (mem_append_right _ (j4 hb e)))).2.1
   cases b with
   |false =>
    rw[if_neg Bool.false_ne_true]at q9 ⊢;obtain⟨m',hm,w9⟩:=hNN _ _ _ q9;obtain⟨z1,z2,z3,z4⟩:=back I9;exact⟨m',hm,i+1,σ8,H9,ys,its,I9.pins_of (fun p hp=>nomatch hp),z1,z2,z3,z4,rv,w9⟩
   |true =>
    rw[if_pos rfl]at q9 ⊢;have a10:=h10 _ s9 σ8 H9 _ I9 q9;rw[YP,Yw,YA]at a10;refine thn (E1 a10) fun xv s10 ⟨v,H10,I10,rx,q10⟩=>?_;obtain⟨m',hm,w10⟩:=hNN _ _ _ q10;obtain⟨z1,z2,z3,z4⟩:=back I10;have hlen:its.length=ys.length:=(rv.length).symm;refine wpAny_list_append_plain z4 (fun h' pl sb=>?_) (by rw[size_toArray,hlen];exact hz);refine⟨m',hm,i+1,σ8,H10,ys++[v],its++[xv],?_,?_,z2,z3,?_,rv.append (.cons rx .nil),w10⟩
    ·have I10':Inv Y [] σ8 H10 s10:=I10.pins_of fun p hp=>nomatch hp
     refine I10'.turned (t':=s10.toks) (it:=s.heap.objs.size) (fun b o hb e=>(sb.2 b hb).trans e) z3 (by rw[Yl];exact hDC) (.inr ?_) (fun x c e=>?_) fun p hp=>?_
     ·rw[<-hX];exact le_refl _
     ·rw[<-hX]at e;intro z;obtain⟨v0,q0⟩:=I.cell x c (S.look I e);exact absurd q0.lt (by rw[z];exact lt_irrefl _)
     ·rw[<-hX]at hp;exact nomatch hp
    ·refine T.keep _ _ _ z1 fun b hb o e=>(sb.2 b (below b (hfl b hb)).2).trans e
    ·have:(its++[xv]).toArray=its.toArray.push xv:=by simp
     rw[this];exact pl
 have hYe:Y.env={newEnv scope H2.objs.size X.env.globals (clos scope X.env) X.env.qual none .none (some X.env) builtinsNs with scope:=relabel scope X.env}:=by rw[<-hX];rfl
 rw[<-hYe];rw[hYe]at loop ⊢;refine codeAny_compStart_list loop ?_;exact T.self _ 0 _ _ _ (T.keep _ _ _ st fun b _ o e=>by rw[<-hs4];exact old b o e) loop
theorem su{EX:XK}{wi:TI}{tg elt iter:Expr}{ifs:List Expr}{pos:Pos}{g:TG}{tf:TT}{te:TE}(S:CScope (X.wish (XE X EX)) scope ls fr)(hc:X.calm=true)(hi:PI (X.wish (XE X EX)) tg iter wi)(hg:∀C s H ex,vR X C s H ex->PG (cxE X EX scope (ls++fr.map (·.1)) C s H ex) tg g)(ht:∀C s H ex,vR X C s H ex->PF (cxE X EX scope (ls++fr.map (·.1)) C s H ex) ifs tf)(he:∀C s H ex,vR X C s H ex->PE (cxE X EX scope (ls++fr.map (·.1)) C s H ex) elt te)(top:X.stack=X.env::X.outer:=by rfl)(frm:X.env.frame=some X.env.locals:=by rfl)(hs:∀x,foldedSetIterable iter X.env x=pure x:=by intro _;rfl):PE (X.wish (XE X EX)) (.ListComp elt [⟨tg,iter,ifs,0⟩] scope pos) (o3 wi ls fr g tf te):=by
 intro pins s σ H Q I h;rw[eval_ListComp];have S':CScope X scope ls fr:=⟨S.kind,S.nocell,S.names,S.free,S.slots⟩;refine bH (use:=none) rfl hs (jU (S.cells I)) S.kind S.names (thn (hi pins s σ H _ I h) fun xv s₁ h₁=>thn h₁ fun itv s₂ h₂=>?_);obtain⟨it,fp,tn,J,H2,rfl,I2w,T,st,hf,q⟩:=h₂;have I2:Inv X pins σ H2 s₂:=I2w.unwish;have own:Own X:=⟨I2.ok,top,frm⟩;refine bG (X:=X) (EX:=EX) (RR:=fun acc ce=>Kg (model X.prog X.w) X.A (XE X EX) none (EP (X.wish (XE X EX)) pins σ Q) acc ce) own S' hc I2 T st hf q hg ht he ?_ ?_
 ·intro D C ce s' H' m hce I' hn hC hCn hq;subst hce;refine⟨m,hn,fun h' sb=>?_⟩;have nC:∀{b:Addr},b<s₂.heap.objs.size->b≠ce.locals:=fun hb=>ne_of_lt (lt_of_lt_of_le hb hC);refine⟨.ref D,H',(I'.turned (t':=s'.toks) (it:=ce.locals) (fun b o hb e=>(sb.2 b hb).trans e) hCn (Ne.symm (nC I2.lt)) (.inr (le_trans I2.sz hC)) (fun x c e=>?_) fun p hp=>?_).wish _,rfl,hq⟩
  ·obtain⟨v0,q0⟩:=I2.cell x c e;exact nC q0.lt
  ·exact nC (Heap.lt_size (I2.pin p hp).1)
 ·intro D C e ce c dd H' s' m hce hcf hC hE x hh hn hCn;subst hce;refine⟨m,hn,fun h' sb=>?_⟩;obtain⟨x2,hh2⟩:=x.but own hh hn (le_trans I2.sz hC) (I2.noFr hC) hCn sb;exact x2.on own hcf hE hh2
end
theorem pgcE{X:Cx}{E:XK}{scope:Scope}{ls:List Str}{fr:List (Str×Nat)}{C:Addr}{s:Shared}{H:Hp}{ex:List Addr}{x:Str}{pos:Pos}(i:Nat)(hN:(ls++fr.map (·.1)).Nodup)(hi:(ls++fr.map (·.1))[i]? =some x)(hx:scope.names.lookup x=some .local) :
  PG (cxE X E scope (ls++fr.map (·.1)) C s H ex) (.Name x pos) (kc i) :=
 aD hN hi (.inl (lookup_relabel_local hx)) (.inr (lookup_relabel_local hx))
theorem pvcE(sc:Scope)(i:Nat){X:Cx}{E:XK}{scope:Scope}{N:List Str}{C:Addr}{s:Shared}{H:Hp}{ex:List Addr}{x:Str}{pos:Pos}(hN:N[i]? =some x:=by rfl)(hs:X.env.scope=sc:=by rfl)(hv:visB scope sc x=true:=by decide+kernel)(hd:(x==("__debug__" : Str))=false:=by decide+kernel)(hcd:(x==("__classdict__" : Str))=false:=by decide+kernel):PE (cxE X E scope N C s H ex) (.Name x pos) (tVar i):=by
 subst hs;refine nr hN ?_ hd hcd;have hv':visB scope X.env.scope x=true:=hv;unfold visB at hv';show(relN scope X.env.scope).lookup x=some .local\/(relN scope X.env.scope).lookup x=some .cell\/(relN scope X.env.scope).lookup x=some .free;split at hv'
 ·rename_i e;exact .inl e
 ·rename_i e;exact .inr (.inl e)
 ·rename_i e;exact .inr (.inr e)
 ·cases hv'
theorem glcE(sc:Scope){X:Cx}{E:XK}{scope:Scope}{N:List Str}{C:Addr}{s:Shared}{H:Hp}{ex:List Addr}{x:Str}(hs:X.env.scope=sc:=by rfl)(h:((relN scope sc).lookup x==some .globalImplicit)=true:=by decide+kernel):Gl (cxE X E scope N C s H ex) x:=by
 subst hs;exact eq_of_beq h
theorem Same.updN{H H':Hp}{p:Addr}{o:HO}(s:Same H H')(h:H p=none):Same H (upd H' p o):=fun b u e=>by rw[zh (zj e h)];exact s b u e
abbrev Lane:=Nat×Nat
def YG(l:Lane)(v:Nat):Nat:=v*(l.2 / Nat.gcd l.1 l.2)
def Yi(z:Lane×Nat):Nat:=YG z.1 z.2
def sumT(ls:List Lane)(row:List Nat):Nat:=((ls.zip row).map Yi).sum
theorem wZ{K:W.Frag}{i:Nat}{a:Addr}{xs:List V}{nm:Str}{fr:List (Str×Nat)}{te:TE}{σ:St}{H:Hp}{Q:VK}{β:Type}(R:β->V->Hp->Prop)(bs:List β)(tl:St)(hb:bs.length=xs.length)(hle:xs.length<=sizeLine)(mono:∀b v H H',Same H H'->R b v H->R b v H')(htl:wq [nm] fr σ=none::tl)(hs:σ[i]? =some (some (.ref a)))(h:H a=some (.lst xs))(step:∀(j:Nat) (x:V) (b:β) (H':Hp) (P:VK),xs[j]? =some x->bs[j]? =some b->Same H H'->(∀v H'',Same H' H''->R b v H''->P v H'')->te (some x::tl) H' P)(hd:∀zs H' p,Same H H'->All2 R H' bs zs->H' p=none->Q (.ref p) (upd H' p (.lst zs))):o3 (YB K (tVar i)) [nm] fr (kc 0) tYes te σ H Q:=by
 refine⟨_,hs,a,rfl,⟨_,SqL.of h⟩,yt (xs:=xs) (fun j zs σ' H'=>Same H H'/\(∃v,σ'=v::tl)/\All2 R H' (bs.take j) zs/\j<=bs.length) ⟨Same.refl _,⟨_,htl⟩,.nil,zero_le _⟩ ?_ ?_ ?_⟩
 ·rintro j zs σ' H' hj ⟨s',_,a2,hj'⟩;refine⟨SqL.of (s' _ _ h),?_⟩;rw[<-a2.length,length_take];exact le_trans (Nat.min_le_right _ _) (by rw[hb];exact hle)
 ·rintro j x zs σ' H' hx ⟨s',⟨v,rfl⟩,a2,hj'⟩;have hj:j<bs.length:=by rw[hb];exact(List.getElem?_eq_some_iff.mp hx).1
  have hbj:bs[j]? =some bs[j]:=getElem?_eq_getElem hj;refine step j x bs[j] H' _ hx hbj s' fun v2 H2 s2 r2=>⟨s'.trans s2,⟨_,rfl⟩,?_,hj⟩;rw[take_succ,hbj];exact(a2.imp fun _ _ z=>mono _ _ _ _ s2 z).snoc r2
 ·rintro zs σ' H' ⟨s',_,a2,_⟩ p hp;rw[<-hb,take_length]at a2;exact hd zs H' p s' a2 hp
theorem xT{K:W.Frag}{i:Nat}{a:Addr}{xs:List V}{nm:Str}{fr:List (Str×Nat)}{te:TE}{σ:St}{H:Hp}{Q:VK}{β:Type}(R:β->V->Hp->Prop)(bs:List β)(tl:St)(hb:bs.length=xs.length)(hle:xs.length<=sizeLine)(mono:∀b v H H',Same H H'->R b v H->R b v H')(htl:wq [nm] fr σ=none::tl)(hs:σ[i]? =some (some (.ref a)))(h:H a=some (.tup xs))(step:∀(j:Nat) (x:V) (b:β) (H':Hp) (P:VK),xs[j]? =some x->bs[j]? =some b->Same H H'->(∀v H'',Same H' H''->R b v H''->P v H'')->te (some x::tl) H' P)(hd:∀zs H' p,Same H H'->All2 R H' bs zs->H' p=none->Q (.ref p) (upd H' p (.lst zs))):o3 (iTup K (tVar i)) [nm] fr (kc 0) tYes te σ H Q:=by
 refine⟨_,hs,a,rfl,⟨_,SqT.of h⟩,u0 (xs:=xs) (fun j zs σ' H'=>Same H H'/\(∃v,σ'=v::tl)/\All2 R H' (bs.take j) zs/\j<=bs.length) ⟨Same.refl _,⟨_,htl⟩,.nil,zero_le _⟩ ?_ ?_ ?_⟩
 ·rintro j zs σ' H' hj ⟨s',_,a2,hj'⟩;refine⟨SqT.of (s' _ _ h),?_⟩;rw[<-a2.length,length_take];exact le_trans (Nat.min_le_right _ _) (by rw[hb];exact hle)
 ·rintro j x zs σ' H' hx ⟨s',⟨v,rfl⟩,a2,hj'⟩;have hj:j<bs.length:=by rw[hb];exact(List.getElem?_eq_some_iff.mp hx).1
  have hbj:bs[j]? =some bs[j]:=getElem?_eq_getElem hj;refine step j x bs[j] H' _ hx hbj s' fun v2 H2 s2 r2=>⟨s'.trans s2,⟨_,rfl⟩,?_,hj⟩;rw[take_succ,hbj];exact(a2.imp fun _ _ z=>mono _ _ _ _ s2 z).snoc r2
 ·rintro zs σ' H' ⟨s',_,a2,_⟩ p hp;rw[<-hb,take_length]at a2;exact hd zs H' p s' a2 hp
theorem lf{H:Hp}:∀{bs:List Int}{zs:List V},All2 (fun(b:Int) v _=>v=V.int b) H bs zs->zs=bs.map V.int
 | _,_,.nil=>rfl
 | _,_,.cons h r=>by rw[map_cons,<-lf r,h]
theorem xu{H:Hp}:∀{bs:List Str}{zs:List V},All2 (fun(b:Str) v _=>v=V.str b) H bs zs->zs=bs.map V.str
 | _,_,.nil=>rfl
 | _,_,.cons h r=>by rw[map_cons,<-xu r,h]
theorem mP{H:Hp}{α:Type}(f:α->List Int)(g:α->Prop):∀{rows:List α}{ts:List V},All2 (fun(b:List Int×Prop) v H'=>Tup1 b.1 v H'/\b.2) H (rows.map fun r=>(f r,g r)) ts->All2 Tup1 H (rows.map f) ts/\ ∀r∈rows,g r
 | [],_,.nil=>⟨.nil,(fun _ h=>by cases h)⟩
 |r::rows,_,.cons h a=>by
  obtain⟨a1,a2⟩:=mP f g (rows:=rows) a;refine⟨.cons h.1 a1,fun x hx=>?_⟩;rcases mem_cons.mp hx with rfl|hx
  ·exact h.2
  ·exact a2 x hx
theorem pT(xs:List V)(s:Nat):cutV xs none (some (s:Int))=xs.take (min s xs.length):=by
 unfold cutV;rw[HT.sIx_none,HT.sIx_nat,drop_zero,Nat.sub_zero]
theorem All2.drop{α:Type}{R:α->V->Hp->Prop}{H:Hp}:∀{l:List α}{xs:List V}(n:Nat),All2 R H l xs->All2 R H (l.drop n) (xs.drop n)
 | _,_,0,h=>by rw[drop_zero,drop_zero];exact h
 | _,_,_+1,.nil=>by rw[List.drop_nil,List.drop_nil];exact .nil
 | _,_,n+1,.cons _ a=>by rw[List.drop_succ_cons,List.drop_succ_cons];exact a.drop n
end L2
namespace L2
open PySem PySem.Spec PyProof.Rows PySem.NumText
def numV(z:Str):Int:=((digitsVal z.cps.toList:Nat):Int)
def zD(z:Str):List Str:=Txt.split z (Str.ofString " ")
theorem bh(z:Str):((zD z).map (·.length)).sum+(zD z).length<=z.length+1:=PyProof.Rows.split_weight z _ (by decide)
theorem r6{l:List Str}{w:Str}(h:w∈l):w.length<=(l.map (·.length)).sum:=by
 induction l with
 |nil=>cases h
 |cons a r ih =>
  rw[map_cons,List.sum_cons];rcases mem_cons.mp h with rfl|h
  ·omega
  ·have:=ih h;omega
theorem Zc{z w:Str}(h:w∈zD z):w.length<=z.length:=by
 have h1:=bh z;have h2:=r6 h;have h3:1<=(zD z).length:=List.length_pos_iff.mpr fun e=>by rw[e]at h;cases h
 omega
theorem qz(w:Str):kR w=true↔ ∃c r,w.cps.toList=c::r/\(c::r).length<=60/\c≠48/\ ∀d∈c::r,48<=d/\d<=57:=by
 unfold kR;cases h:w.cps.toList with
 |nil=>simp
 |cons c r =>
  simp only[and_eq_true,decide_eq_true_eq,all_eq_true];constructor
  ·rintro⟨⟨h1,h2⟩,h3⟩;exact⟨c,r,rfl,h1,h2,h3⟩
  ·rintro⟨c',r',e,h1,h2,h3⟩;cases e;exact⟨⟨h1,h2⟩,h3⟩
theorem ZI(cs:List Nat):∀a:Nat,a<=cs.foldl (fun acc c=>acc*10+(c-48)) a:=by
 induction cs with
 |nil=>exact fun a=>le_refl _
 |cons c r ih =>
  intro a;rw[List.foldl_cons];exact le_trans (by omega) (ih _)
theorem sh{w:Str}(h:kR w=true):1<=numV w:=by
 obtain⟨c,r,e,_,h2,h3⟩:=(qz w).mp h;unfold numV digitsVal;rw[e,List.foldl_cons];have h4:=h3 c mem_cons_self;have:=ZI r (0*10+(c-48));omega
theorem gi{w:Str}(h:kR w=true):PySem.intText? w=some (numV w):=by
 obtain⟨c,r,e,h1,h2,h3⟩:=(qz w).mp h;refine intText_digits (fun d hd=>h3 d (by rw[<-e];exact hd)) (by rw[e];exact fun z=>by cases z) ?_;rw[zV,e];omega
def kU(z:Str):Option (List Int):=if z=xF then some []else
 if(zD z).length<=60/\(∀w∈zD z,kR w=true)/\((zD z).map numV).Pairwise (· >= ·)then some ((zD z).map numV)else none
theorem gR:kU xF=some []:=by unfold kU;rw[if_pos rfl]
theorem sZ{z:Str}(h:z≠xF)(h2:¬((zD z).length<=60/\(∀w∈zD z,kR w=true)/\((zD z).map numV).Pairwise (· >= ·))):kU z=none:=by
 unfold kU;rw[if_neg h,if_neg h2]
theorem gS{z:Str}(h:z≠xF)(h2:((zD z).length<=60/\(∀w∈zD z,kR w=true)/\((zD z).map numV).Pairwise (· >= ·))):kU z=some ((zD z).map numV):=by
 unfold kU;rw[if_neg h,if_pos h2]
theorem dX{n:Int}(h:1<=n)(h2:n<10^60):numV (numS n)=n:=by
 have e1:=gi (vz h h2);rw[fS (by omega) (Int.lt_trans h2 (by decide+kernel))]at e1;exact(Option.some.inj e1).symm
theorem wP{ns:List Int}(hh:IsHeap 60 (10^60) ns):kU (txt ns)=some ns:=by
 have hb1:∀x∈ns,1<=x:=fun x hx=>(hh.bd x hx).1;by_cases h0:ns=[]
 ·subst h0;exact gR
 ·have e:(zD (txt ns)).map numV=ns:=by
   unfold zD;rw[xy h0 hb1,map_map]
   conv=>rhs;rw[<-List.map_id ns]
   exact map_congr_left fun x hx=>dX (hb1 x hx) (hh.bd x hx).2
  have e2:=gS (z:=txt ns) (fun z=>h0 ((Z8 hb1).mp z)) ⟨by
   unfold zD;rw[xy h0 hb1,length_map];exact hh.ln,fun w hw=>by
   unfold zD at hw;rw[xy h0 hb1]at hw;obtain⟨n,hn,rfl⟩:=mem_map.mp hw;exact vz (hb1 n hn) (hh.bd n hn).2,by rw[e];exact hh.pw⟩
  rw[e]at e2;exact e2
theorem ZD{α:Type}{xs:List α}{x:α}(h:xs.getLast? =some x):atI xs (-1)=some x:=by
 have hne:xs≠[]:=fun e=>by rw[e]at h;cases h
 have hl:0<xs.length:=List.length_pos_iff.mpr hne;unfold atI ixN;rw[if_neg (by decide),if_pos (by omega)];show xs[(-1+(xs.length:Int)).toNat]? =some x;rw[show(-1+(xs.length:Int)).toNat=xs.length-1 by omega,<-List.getLast?_eq_getElem?,h]
def weight(ys:List Str):Nat:=(ys.map (·.length)).sum+ys.length
theorem aP(y:Str)(ys:List Str):weight (y::ys)=weight ys+y.length+1:=by
 unfold weight;rw[map_cons,List.sum_cons,length_cons];omega
end L2
namespace L2
open PySem PySem.Spec PyProof.Rows
open PySem.StrLaws (At ChainG partsFrom)
open PySem.Builtin.Str (occurrences subAt)
def bar:Str:=Str.ofString " | "
theorem br:bar.cps.toList=[32,124,32]:=by decide+kernel
theorem j6:bar.length=3:=by decide
theorem e9(a:Array Nat)(i n:Nat):(a.extract i (i+n)).toList=(a.toList.drop i).take n:=by
 simp[List.extract,List.take_drop]
theorem Yr{x:Str}{k:Nat}(h:At x bar x.length k):(x.cps.toList.drop k).take 3=[32,124,32]:=by
 have h2:=h.2;unfold subAt at h2;rw[j6]at h2;have h3:=congrArg Array.toList (eq_of_beq h2);rw[e9,br]at h3;exact h3
theorem Ys{x:Str}{k:Nat}{r:List Nat}(h:x.cps.toList.drop k=[32,124,32]++r):At x bar x.length k:=by
 refine⟨?_,?_⟩
 ·have:=congrArg length h;rw[length_drop,length_append]at this;rw[j6,zV];have e:[32,124,32].length=3:=rfl;rw[e]at this;omega
 ·unfold subAt;rw[j6];refine beq_iff_eq.mpr (Array.ext' ?_);rw[e9,br,h];rfl
theorem Zg{x:Str}{a k:Nat}{L:List Nat}(ha:x.cps.toList.drop a=L)(hk:a<=k)(h:At x bar x.length k):L[k-a+1]? =some 124/\L[k-a]? =some 32:=by
 have h1:=Yr h;have e:x.cps.toList.drop k=L.drop (k-a):=by rw[<-ha,List.drop_drop];congr 1;omega
 rw[e]at h1;have h2:((L.drop (k-a)).take 3)[1]? =some 124:=by rw[h1];rfl
 have h3:((L.drop (k-a)).take 3)[0]? =some 32:=by rw[h1];rfl
 rw[List.getElem?_take_of_lt (by decide),List.getElem?_drop]at h2 h3;exact⟨h2,h3⟩
def bQ:List (List Nat)->List Nat
 | []=>[]
 | [w]=>w
 |w::w2::r=>w++([32,124,32]++bQ (w2::r))
theorem rh(x:Str):∀(ws:List Str)(a f:Nat)(cuts:List Nat),ws≠[]->(∀w∈ws,124∉w.cps.toList)->a<=x.length->x.cps.toList.drop a=bQ (ws.map fun w=>w.cps.toList)->ChainG x bar x.length a cuts f->(∀k,f<=k-> ¬At x bar x.length k)->partsFrom x 3 a cuts=ws
 | [],_,_,_,h,_,_,_,_,_=>absurd rfl h
 | [w],a,f,cuts,_,hw,hax,hd,hc,hn=>by
  have no:∀k,a<=k-> ¬At x bar x.length k:=fun k hk hA=>by
   have:=(Zg hd hk hA).1;exact hw w (by simp) (mem_of_getElem? this)
  cases cuts with
  |cons c r=>exact absurd hc.2.1 (no c hc.1)
  |nil =>
   show [PySem.Builtin.Str.strSub x a x.length]=[w];congr 1;apply yG;rw[PySem.StrLaws.strSub_toList,hd];show w.cps.toList.take _=_;have hl:=congrArg length hd;rw[length_drop]at hl;exact take_of_length_le (by rw[zV];simp[bQ]at hl ⊢;omega)
 |w::w2::r,a,f,cuts,_,hw,hax,hd,hc,hn=>by
  have hd':x.cps.toList.drop a=w.cps.toList++([32,124,32]++bQ ((w2::r).map fun w=>w.cps.toList)):=hd;have hat:At x bar x.length (a+w.cps.toList.length):=by
   refine Ys (r:=bQ ((w2::r).map fun w=>w.cps.toList)) ?_;rw[<-List.drop_drop,hd',List.drop_left]
  have no:∀k,a<=k->k<a+w.cps.toList.length-> ¬At x bar x.length k:=fun k hk hk2 hA=>by
   have h1:=(Zg hd' hk hA).1;by_cases hlt:k-a+1<w.cps.toList.length
   ·rw[List.getElem?_append_left hlt]at h1;exact hw w (by simp) (mem_of_getElem? h1)
   ·rw[List.getElem?_append_right (by omega),show k-a+1-w.cps.toList.length=0 by omega]at h1;cases h1
  cases cuts with
  |nil =>
   have e:f=a:=hc;exact absurd hat (hn _ (by omega))
  |cons c cs =>
   obtain⟨h1,h2,h3,h4⟩:=hc;have ec:c=a+w.cps.toList.length:=by
    rcases Nat.lt_trichotomy c (a+w.cps.toList.length)with h|h|h
    ·exact absurd h2 (no c h1 h)
    ·exact h
    ·exact absurd hat (h3 _ (by omega) h)
   subst ec;have hd3:x.cps.toList.drop (a+w.cps.toList.length+3)=bQ ((w2::r).map fun w=>w.cps.toList):=by
    rw[Nat.add_assoc,<-List.drop_drop,hd',<-List.drop_drop,List.drop_left];rfl
   show PySem.Builtin.Str.strSub x a (a+w.cps.toList.length)::partsFrom x 3 (a+w.cps.toList.length+3) cs=w::w2::r;have h4':ChainG x bar x.length (a+w.cps.toList.length+3) cs f:=h4;rw[rh x (w2::r) _ f cs (by simp) (fun y hy=>hw y (mem_cons_of_mem _ hy)) (by have:=hat.1;rw[j6]at this;exact this) hd3 h4' hn];congr 1;apply yG;rw[PySem.StrLaws.strSub_toList,hd',Nat.add_sub_cancel_left,List.take_left]
theorem aM(x:Str):Txt.split x bar=partsFrom x 3 0 (occurrences x bar 0 x.length (x.length+1)):=by
 obtain⟨f,hG,hn⟩:=PySem.StrLaws.occ_tight x bar (by rw[j6];decide);have one:occurrences x bar 0 x.length (x.length+1)=[]->[x]=partsFrom x 3 0 (occurrences x bar 0 x.length (x.length+1)):=fun e=>by
  rw[e];show [x]=[PySem.Builtin.Str.strSub x 0 x.length];rw[PySem.StrLaws.sub_whole]
 unfold Txt.split;split
 ·rename_i hc;refine one ?_;cases e:occurrences x bar 0 x.length (x.length+1)with
  |nil=>rfl
  |cons c r =>
   rw[e]at hG;have h1:=hG.2.1.1;rw[j6]at h1;rw[Bool.or_eq_true,decide_eq_true_eq,decide_eq_true_eq]at hc;rcases hc with h|h
   ·rw[j6]at h;omega
   ·exfalso;have hb:PySem.Builtin.Str.strKind bar=1:=by decide+kernel
    rw[hb]at h;unfold PySem.Builtin.Str.strKind at h;split at h
    ·omega
    ·split at h <;>omega
 ·split
  ·rename_i he;exact one (List.isEmpty_iff.mp he)
  ·rw[PySem.StrLaws.partsBetween_eq,j6]
theorem oQ(ws:List Str):(Txt.join bar ws).cps.toList=bQ (ws.map fun w=>w.cps.toList):=by
 rw[show Txt.join bar ws=Str.join bar ws from StrLaws.glued_eq_join _ _]
 induction ws with
 |nil=>rfl
 |cons w r ih =>
  cases r with
  |nil=>rfl
  |cons w2 r =>
   show(w++bar++Str.join bar (w2::r)).cps.toList=_;show((w.cps++bar.cps)++(Str.join bar (w2::r)).cps).toList=_;rw[Array.toList_append,Array.toList_append,ih,br,append_assoc];rfl
theorem nU{ws:List Str}(h0:ws≠[])(h:∀w∈ws,124∉w.cps.toList):Txt.split (Txt.join bar ws) bar=ws:=by
 obtain⟨f,hG,hn⟩:=PySem.StrLaws.occ_tight (Txt.join bar ws) bar (by rw[j6];decide);rw[aM];exact rh _ ws 0 f _ h0 h (zero_le _) (by rw[drop_zero,oQ]) hG hn
def kT:Str:=Str.ofString "no heaps"
def rtxt(rs:List (List Int)):Str:=if rs=[]then kT else Txt.join bar (rs.map txt)
def kZ(z:Str):List Str:=Txt.split z bar
theorem aI(z:Str):weight (kZ z)<=z.length+1:=PyProof.Rows.split_weight z _ (by rw[j6];decide)
theorem Yb{z w:Str}(h:w∈kZ z):w.length<=z.length:=by
 have h1:=aI z;have h2:=r6 h;have h3:1<=(kZ z).length:=List.length_pos_iff.mpr fun e=>by rw[e]at h;cases h
 unfold weight at h1;omega
def pK(z:Str):Option (List (List Int)):=if z=kT then some []else
 if(kZ z).length<=6/\(∀w∈kZ z,(kU w).isSome=true)then some ((kZ z).map fun w=>(kU w).getD [])else none
theorem gW:pK kT=some []:=by unfold pK;rw[if_pos rfl]
theorem Z0{z:Str}(h:z≠kT)(h2:¬((kZ z).length<=6/\(∀w∈kZ z,(kU w).isSome=true))):pK z=none:=by
 unfold pK;rw[if_neg h,if_neg h2]
theorem gY{z:Str}(h:z≠kT)(h2:(kZ z).length<=6/\(∀w∈kZ z,(kU w).isSome=true)):pK z=some ((kZ z).map fun w=>(kU w).getD []):=by
 unfold pK;rw[if_neg h,if_pos h2]
theorem dH{c d:Nat}:∀{ws:List (List Nat)},d∈kA c ws->d=c\/ ∃w∈ws,d∈w
 | [],h=>by simp[kA]at h
 | [w],h=>.inr ⟨w,by simp,by simpa [kA]using h⟩
 |w::w2::r,h=>by
  have h':d∈w++c::kA c (w2::r):=h;rcases mem_append.mp h' with h|h
  ·exact .inr ⟨w,by simp,h⟩
  ·rcases mem_cons.mp h with h|h
   ·exact .inl h
   ·rcases dH h with h|⟨y,hy,h⟩
    ·exact .inl h
    ·exact .inr ⟨y,mem_cons_of_mem _ hy,h⟩
theorem o7{ns:List Int}(hb:∀x∈ns,1<=x):124∉(txt ns).cps.toList:=fun h=>by
 unfold txt at h;split at h
 ·rw[tT]at h;revert h;decide
 ·have e1:Txt.join (Str.ofString " ") (ns.map numS)=Str.join ⟨#[32]⟩ (ns.map numS):=by rw[kH];exact StrLaws.glued_eq_join _ _
  rw[e1,jY]at h;rcases dH h with h|⟨w,hw,h⟩
  ·cases h
  ·obtain⟨y,hy,rfl⟩:=mem_map.mp hw;obtain⟨n,hn,rfl⟩:=mem_map.mp hy;have:=jc (n:=n) (by have:=hb n hn;omega) 124 h;omega
theorem cH:kU kT=none:=by decide+kernel
theorem gZ{rs:List (List Int)}(h0:rs≠[])(hb:∀r∈rs,IsHeap 60 (10^60) r):kZ (rtxt rs)=rs.map txt:=by
 unfold kZ rtxt;rw[if_neg h0];refine nU (by simpa using h0) fun w hw=>?_;obtain⟨r,hr,rfl⟩:=mem_map.mp hw;exact o7 fun x hx=>((hb r hr).bd x hx).1
theorem nK{rs:List (List Int)}(h0:rs≠[])(hb:∀r∈rs,IsHeap 60 (10^60) r):rtxt rs≠kT:=fun e=>by
 have h1:=gZ h0 hb;rw[e]at h1;have h2:kZ kT=[kT]:=by decide+kernel
 rw[h2]at h1;cases rs with
 |nil=>exact h0 rfl
 |cons r rs' =>
  simp only[map_cons,List.cons.injEq]at h1;have h3:=wP (hb r (by simp));rw[<-h1.1,cH]at h3;cases h3
theorem ib{rs:List (List Int)}(h6:rs.length<=6)(hb:∀r∈rs,IsHeap 60 (10^60) r):pK (rtxt rs)=some rs:=by
 by_cases h0:rs=[]
 ·subst h0;exact gW
 ·rw[gY (nK h0 hb) ?_,gZ h0 hb,map_map]
  ·congr 1
   conv=>rhs;rw[<-List.map_id rs]
   exact map_congr_left fun r hr=>by
    show(kU (txt r)).getD []=r;rw[wP (hb r hr)];rfl
  ·rw[gZ h0 hb];refine⟨by rw[length_map];exact h6,fun w hw=>?_⟩;obtain⟨r,hr,rfl⟩:=mem_map.mp hw;rw[wP (hb r hr)];rfl
theorem dm(sep:Str)(ys:List Str):(Txt.join sep ys).length<=(ys.map (·.length)).sum+ys.length*sep.length:=by
 rw[show Txt.join sep ys=Str.join sep ys from StrLaws.glued_eq_join _ _];exact StrLaws.join_length_le sep ys
theorem xw{ns:List Int}(hl:ns.length<=10)(hb:∀x∈ns,1<=x/\x<10^60):(txt ns).length<=620:=by
 unfold txt;split
 ·decide
 ·refine le_trans (dm _ _) ?_;have e1:(Str.ofString " ").length=1:=by decide
  rw[e1,Nat.mul_one];have:∀ms:List Int,(∀x∈ms,1<=x/\x<10^60)->weight (ms.map numS)<=61*ms.length:=fun ms=>by
   induction ms with
   |nil=>intro _;decide
   |cons a r ih =>
    intro h;rw[map_cons,aP,length_cons];have h1:=ih fun x hx=>h x (mem_cons_of_mem _ hx);have h2:=h a mem_cons_self;have h3:=yq (n:=a) (by omega) (k:=60) (by decide) h2.2;rw[zV];omega
  have:=this ns hb;unfold weight at this;omega
theorem jR{ys:List Str}{n:Nat}(h:∀y∈ys,y.length<=n):(ys.map (·.length)).sum<=ys.length*n:=by
 induction ys with
 |nil=>exact zero_le _
 |cons a r ih =>
  rw[map_cons,List.sum_cons,length_cons,Nat.add_mul,Nat.one_mul];have h1:=ih fun y hy=>h y (mem_cons_of_mem _ hy);have h2:=h a mem_cons_self;omega
theorem uT{rs:List (List Int)}(h6:rs.length<=6)(hb:∀r∈rs,r.length<=10/\ ∀x∈r,1<=x/\x<10^60):(rtxt rs).length<=4000:=by
 unfold rtxt;split
 ·decide
 ·refine le_trans (dm _ _) ?_;have h1:=jR (ys:=rs.map txt) (n:=620) fun y hy=>by
   obtain⟨r,hr,rfl⟩:=mem_map.mp hy;exact xw (hb r hr).1 (hb r hr).2
  rw[length_map]at h1;rw[j6,length_map];omega
end L2
namespace L2
open PySem PySem.Spec PyProof.Rows
theorem sum_cons(a:Lane)(ls:List Lane)(m:Nat)(row:List Nat):sumT (a::ls) (m::row)=YG a m+sumT ls row:=rfl
theorem rZ(xs:List V)(s:Nat):cutV xs (some (s:Int)) none=xs.drop s:=by
 rcases Nat.le_total s xs.length with h|h
 ·exact oz xs s h
 ·unfold cutV;rw[HT.sIx_nat,HT.sIx_none,Nat.min_eq_right h,List.drop_length,List.drop_of_length_le h];simp
def kn(p:Keyed):Int:=numOf p.1
structure SB(a₀:Array Keyed)(st:SortSt):Prop where
 perm:(arrOf st).Perm a₀
 kind:kindOf st=oneType'
 failed:failedOf st=none
structure LD where
 L:Nat
 R:Nat
 m:Nat
 k:Nat
 sp:Bool
 lev:List Nat
structure LD.Ok(d:LD):Prop where
 l1:1<=d.L
 l8:d.L<=8
 r1:1<=d.R
 r8:d.R<=8
 m8:d.m<=8
 k8:d.k<=8
 eq:d.L*d.m=d.R*d.k
 dv:d.sp=true->d.R*(d.L / d.R)=d.L/\d.R<d.L
 lv:∀v∈d.lev,v<=2
 mR:d.m<=d.R
 kL:d.k<=d.L
def LD.at(d:LD)(j:Nat):Nat:=d.lev.getD j 0
abbrev Rule:=List (List Int)
theorem ql{n g:Nat}{L:List Int}(hl:L.length=n+1)(hL:∀j,j<=n->L.getD j 0=((lenN g j:Nat):Int)):∀i,g+1+i<=n+1-> ∀j,j<=n->(y6 L (g+1) i).getD j 0=if j<g+1+i then((lenN (g+1) j:Nat):Int)else((lenN g j:Nat):Int)
 | 0,_,j,hj=>by
  show L.getD j 0=_;rw[hL j hj,uG];by_cases h:j<g+1+0
  ·rw[if_pos h,if_neg (by omega),Nat.zero_add]
  ·rw[if_neg h]
 |i+1,hi,j,hj=>by
  have ih:=ql hl hL i (by omega);have hlen:(y6 L (g+1) i).length=n+1:=by rw[jG,hl]
  show(qm (y6 L (g+1) i) (g+1) (g+1+i)).getD j 0=_;unfold qm;rw[getD_eq_getElem?_getD,List.getElem?_set];by_cases e:g+1+i=j
  ·rw[if_pos e,if_pos (by omega),if_pos (by omega)];subst e;show(y6 L (g+1) i).getD (g+1+i) 0+(y6 L (g+1) i).getD (g+1+i-(g+1)) 0=_;rw[ih (g+1+i) hj,ih (g+1+i-(g+1)) (by omega),if_neg (by omega),if_pos (by omega),uG g (g+1+i),if_pos (by omega)];omega
  ·rw[if_neg e,<-getD_eq_getElem?_getD,ih j hj];by_cases h:j<g+1+i
   ·rw[if_pos h,if_pos (by omega)]
   ·rw[if_neg h,if_neg (by omega)]
theorem vT(n:Nat):∀k,k<=n-> ∀j,j<=n->(zy n k).getD j 0=((lenN k j:Nat):Int)
 | 0,_,j,hj=>by
  unfold zy lenN;cases j with
  |zero=>rfl
  |succ j =>
   rw[ni (by omega)];show(replicate n (0:Int)).getD j 0=0;rw[getD_eq_getElem?_getD,List.getElem?_replicate];split <;>rfl
 |k+1,hk,j,hj=>by
  rw[zy,ql (j7 n k) (vT n k (by omega)) (n-k) (by omega) j hj,if_pos (by omega)]
theorem Zb{n j:Nat}(hn:n<=400)(hj:j<=n):wayF n j=(((kB j j).length:Nat):Int):=by
 rw[og hn hj,vT n n (le_refl _) j hj];unfold lenN;rw[vB hj (le_refl j)]
theorem du{rule:List (List Int)}(hp:∀h∈rule,∀x∈h,1<=x)(n:Nat) :
  ((((kB n n).filter fun h=>(yv rule h).isNone).length:Nat):Int)=((chG (upto rule.length)).map fun c=>sgnG c*(if(wt (zQ rule c)).sum<=(n:Int)then(((kB (n-(wt (zQ rule c)).sum.toNat) (n-(wt (zQ rule c)).sum.toNat)).length:Nat):Int)else 0)).sum:=by
 rw[mG (chG (upto rule.length)) _ (fun c h=>sgnG c*bI (c.all fun x=>lies (rule.getD x.toNat []) h)) (fun h=>by rw[jT,vV])];congr 1;apply map_congr_left;intro c hc;rw[bb];congr 1;have hJ:=pU (zQ rule c);have hJ1:∀x∈wt (zQ rule c),1<=x:=fun x hx=>by
  have h1:0<(wt (zQ rule c)).count x:=List.count_pos_iff.mpr hx;rw[hJ.2 x]at h1;refine Decidable.byContradiction fun hx1=>?_;have:maxC (zQ rule c) x<=0:=qK fun l hl=>by
   have e:l.count x=0:=count_eq_zero.mpr fun hm=>by
    rcases qa hl with z|z
    ·exact hx1 (hp l z x hm)
    ·rw[z]at hm;cases hm
   omega
  omega
 have e1:(kB n n).countP (fun h=>c.all fun x=>lies (rule.getD x.toNat []) h)=(kB n n).countP (lies (wt (zQ rule c))):=by
  apply List.countP_congr;intro h _;rw[dz hJ h];unfold zQ;rw[all_map];exact Iff.rfl
 rw[e1,rc hJ1];by_cases d:(wt (zQ rule c)).sum<=(n:Int)
 ·rw[if_pos d,if_pos d]
 ·rw[if_neg d,if_neg d];rfl
end L2
namespace L2
open PySem PySem.Spec PyProof.Rows PySem.W
section
variable{prog:Program}{w:World}{A:Around}{E:Value->Shared->Prop}{s:Shared}{K:Frag}{e dx C:Addr}{oe:Obj}{vs:Array Value}{mA:Str->Option Value}{name:Str}{v:Value}
theorem Jb{o:Obj}{vs:Array Value}(h:o.data= .fields vs):notCls o=true:=by
 unfold notCls;rw[h]
def n6:List Value->Bool
 | .ref _::r=>n6 r
 |l=>l==bmV
theorem cJ(self:Value):∀{l:List Value},n6 l=true->refuseLoop self "__setattr__" l=pure ()
 | .ref c::r,z=>by
  rw[refuseLoop_ref];exact cJ self z
 | [],z=>by cases z
 | .type n::r,z=>by
  have e:Value.type n::r=bmV:=beq_iff_eq.mp z;rw[e];exact PySem.F.store_ValueError.passes self
 | .none::r,z=>by cases z
 | .bool _::r,z=>by cases z
 | .int _ _::r,z=>by cases z
 | .float _ _::r,z=>by cases z
 | .str _ _::r,z=>by cases z
 | .bytes _ _::r,z=>by cases z
 | .ellipsis::r,z=>by cases z
 | .notImplemented::r,z=>by cases z
 | .builtin _::r,z=>by cases z
def Jc(K:Frag)(C:Addr):Bool:=(clsIn K C).any fun cd=>n6 cd.mro
structure ClsX(K:Frag)(C:Addr):Prop where
 ga:findIn K (.ref C) "__getattribute__"=some (some (.builtin "BaseException.__getattribute__"))
 gn:findIn K (.ref C) "__getattr__"=some none
 be:mroIn K C (.type "BaseException")=some true
 hd:hasDictIn K C=true
 ob:mroIn K C (.type "object")=some true
 po:Jc K C=true
 sa:findIn K (.ref C) "__setattr__"=some (some (.builtin "object.__setattr__"))
theorem getX{b:Bool}{Q:Value->Shared->Prop}(X:K.In s.heap)(g:s.heap.get? e=some oe)(hc:oe.cls= .ref C)(hda:oe.data= .fields vs)(hdd:oe.dict=some dx)(n:s.heap.Ns1 dx mA)(c:ClsX K C)(hn:kX K C name)(hv:mA name=some v)(hv':handedIn v=true)(h:Q v {s with toks:=s.toks+1}):wpAny (model prog w) A (getAttr (.ref e) name b) Q E s:=by
 obtain⟨od,ho,hl⟩:=dD n;have J:InstAt s.heap e oe C (some od):=⟨g,hc,Jb hda,by rw[hdd];exact ho⟩;have hf:findObj K C (some od) name=some (.value v):=findObj_own c.hd hn rfl (by rw[hl,hv]);obtain⟨hh,gg,d,t,os⟩:=s;have T:=J.type (M:=model prog w);have G:=looks_findIn (M:=model prog w) X c.ga;have N:=looks_findIn (M:=model prog w) X c.gn;have F1:=looks_find (M:=model prog w) X J hf;have Bx:=looks_mroIn (M:=model prog w) X c.be;unfold getAttr getAttrBy;refine wpAny_bind (wpAny_mkText (wpAny_holding (wpAny_bind (T.at (wpAny_bind (G.at ?_))))));have hx2:(Value.builtin "BaseException.__getattribute__"==Value.builtin "object.__getattribute__")=false:=by decide+kernel
 have hx1:¬(onTheHeap (Value.ref C)&&Value.builtin "BaseException.__getattribute__"==Value.builtin "object.__getattribute__")=true:=by rw[hx2,Bool.and_false];exact Bool.false_ne_true
 dsimp only at G N F1 Bx T ⊢;rw[if_neg hx1];unfold getAttrByItsOwn hookBefore callGetattribute boundAndCalled;refine wpAny_bind (N.at ?_);have hx0:¬(b&&onTheHeap (Value.builtin "BaseException.__getattribute__"))=true:=by cases b <;>exact Bool.false_ne_true
 rw[if_neg hx0];refine wpAny_bind (wpAny_attempt (wpAny_holding ?_));refine wpAny_bind (wpAny_of_eq (PySem.F.attrBase_ValueError.ga.bind _) ?_);refine wpAny_call (codeAny_call_builtin PySem.F.attrBase_ValueError.ga.plain PySem.F.entry_bexc_ga ?_);have hk:builtinKind "BaseException.__getattribute__"=some .slot:=by decide+kernel
 have hsplit:splitId "BaseException.__getattribute__"=some ("BaseException","__getattribute__"):=by decide+kernel
 have hag:=PySem.F.args_bexc_ga (.ref e) (.str name t);simp only[checkBuiltinCall,hk,hsplit];unfold isInstance
 repeat (first|lk|wp_step)
 show wpAny _ _ (handedOut v) _ _ _;rw[handedOut_of hv'];exact wpAny_pure h
theorem osaX{od:Option Obj}{tk:Tok}{R:Result->Shared->Prop}(X:K.In s.heap)(J:InstAt s.heap e oe C od)(c:ClsX K C)(hn:kX K C name)(h:∀b,wpAny (model prog w) A.in1 (Builtin.ObjectAttr.storeInOwnDict (.ref e) (.ref C) (.str name tk) name v b)
   (fun fin s'=>match fin with| .done f=>R (.ok f) s'| .again c'=>c'.quiet=true/\codeAny (model prog w) A c' R s') (fun e s'=>R (.error e) s') s) :
  codeAny (model prog w) A (.call (.builtin "object.__setattr__") ⟨[.ref e,.str name tk,v],[]⟩) R s:=by
 have SF:=PySem.F.store_object;obtain⟨cd,hc,ho⟩:=any_some c.po;have sub:Looks (model prog w) s.heap (isInstance (.ref e) (.type "object")) true:=J.type.andThen (looks_mroIn X c.ob);have hm:Looks (model prog w) s.heap (mroOf (.ref C)) cd.mro:=(looks_clsIn X hc).andThen .now;refine codeAny_call_builtin SF.slot.plain SF.entry
  (@check_slot (model prog w) _ _ s "object.__setattr__" "object" "__setattr__" (.ref e) [.str name tk,v] [] _ SF.kind SF.split sub
   (SF.args (.ref e) (.str name tk) v) ?_)
 rw[osa_eq,refuse_eq];refine wpAny_bind (wpAny_bind (J.type.here (wpAny_bind (hm.here ?_))));rw[cJ _ ho];refine wpAny_pure (wpAny_bind (J.type.here (wpAny_bind ((looks_findIn X hn).here ?_))));have L3:Looks (model prog w) s.heap (Builtin.ObjectAttr.storeTaker? none) none:=.now;refine wpAny_bind (L3.here ?_);exact h _
theorem setX{Q:Unit->Shared->Prop}(X:K.In s.heap)(g:s.heap.get? e=some oe)(hc:oe.cls= .ref C)(hda:oe.data= .fields vs)(hdd:oe.dict=none)(c:ClsX K C)(hn:kX K C name)(h:∀h' tk,h'.get? e=some {oe with dict:=some s.heap.objs.size}->h'.Ns1 s.heap.objs.size (fun y=>if y=name then some v else none)->(∀b o,b≠e->s.heap.get? b=some o->h'.get? b=some o)->s.heap.objs.size<h'.objs.size->Q () {s with heap:=h',toks:=tk}) :
  wpAny (model prog w) A (setAttr (.ref e) name v) Q E s:=by
 obtain⟨oc,od,odt,osl⟩:=oe;dsimp only at hc hda hdd;subst hc hda hdd;have J:InstAt s.heap e ⟨.ref C,none,.fields vs,osl⟩ C none:=⟨g,rfl,rfl,trivial⟩;refine set_plain X J c.sa (osaX (s:={s with toks:=s.toks+1}) X J c hn fun b=>?_);obtain⟨cd,hcd,hd'⟩:=any_some c.hd;refine wpAny_bind (wpAny_pure (wpAny_bind (wpAny_bind (wpAny_loadPart g (wpAny_bind (Looks.here (s:={s with toks:=s.toks+1}) (looks_clsIn X hcd) ?_))))));rw[hd'];rw[if_neg (by simp)];dsimp only;rw[if_neg (by simp[typeHasDict])];refine wpAny_bind (wpAny_alloc' ?_);have g1:(s.heap.push {cls:=.type "dict",data:=.dict #[]}).get? e=some ⟨.ref C,none,.fields vs,osl⟩:=Heap.get?_push_of_some _ g;have ne:e≠s.heap.objs.size:=ne_of_lt (Heap.lt_size g);refine wpAny_bind (wpAny_update' g1 ?_);refine wpAny_pure ?_;have gd:((s.heap.push {cls:=.type "dict",data:=.dict #[]}).update e fun o=>{cls:=o.cls,dict:=some s.heap.objs.size,data:=o.data,slots:=o.slots}).get? s.heap.objs.size=some {cls:=.type "dict",data:=.dict #[]}:=(Heap.get?_update_ne _ _ _ _ ne.symm).trans (Heap.get?_push_at rfl rfl);have ge:=Heap.get?_update_self (fun o=>{cls:=o.cls,dict:=some s.heap.objs.size,data:=o.data,slots:=o.slots}) g1 rfl;have far:∀b o,b≠e->s.heap.get? b=some o->((s.heap.push {cls:=.type "dict",data:=.dict #[]}).update e fun o=>{cls:=o.cls,dict:=some s.heap.objs.size,data:=o.data,slots:=o.slots}).get? b=some o:=fun b o hb q=>(Heap.get?_update_ne _ _ _ _ hb).trans (Heap.get?_push_of_some _ q);generalize((s.heap.push {cls:=.type "dict",data:=.dict #[]}).update e fun o=>{cls:=o.cls,dict:=some s.heap.objs.size,data:=o.data,slots:=o.slots})=h2 at gd ge far;have n0:h2.Ns s.heap.objs.size (fun _=>none):=⟨_,#[],_,gd,rfl,fun e he=>absurd he (by simp),fun _=>rfl⟩;show wpAny _ _ (Builtin.ObjectAttr.storeInDict s.heap.objs.size (.str name s.toks) name v) _ _ _;unfold Builtin.ObjectAttr.storeInDict Builtin.ObjectAttr.newKeyGuard;refine wpAny_bind (wpAny_pure (wpAny_bind (wpAny_nsSet1 (Heap.Ns1.of_empty n0) fun h' n1 sb=>?_)));obtain⟨oD,esD,epD,hoD,hdD,hcD⟩:=n1.count (Within.cons name v Within.nil);refine wpAny_bind (wpAny_lookBehind hoD (by rw[hdD];exact pastItsLine_dict (le_trans hcD (by rw[length_cons,List.length_nil,sizeLine_eq];omega))) ?_);exact wpAny_pure (h h' _ ((sb.2 e ne).trans ge) n1 (fun b o hb q=>(sb.2 b (ne_of_lt (Heap.lt_size q))).trans (far b o hb q)) (Heap.lt_size hoD))
end
def ExcM(e C:Addr)(dd:Option Addr)(h:Heap):Prop:=∃ t sl,h.get? e=some ⟨.ref C,dd,.fields #[.ref t,.none,.none,.none,.bool false,.none],sl⟩
theorem ExcM.ext{e C:Addr}{dd:Option Addr}:∀h1 h2:Heap,ExcM e C dd h1->(∀o,h1.get? e=some o->h2.get? e=some o)->ExcM e C dd h2:=fun _ _ ⟨t,sl,g⟩ k=>⟨t,sl,k _ g⟩
section
variable{X:Cx}{pins:List (Addr×Obj)}{σ:St}{H:Hp}{s:Shared}{e C:Addr}{f:Str}{A:Around}{E:Value->Shared->Prop}
theorem HOk.addX{P:Program}{w:World}{H:Hp}{h:Heap}{a:Addr}{o:HO}(ok:HOk P w H h)(hn:H a=none)(new:zS P w (upd H a o) h a o):HOk P w (upd H a o) h:=fun b u q=>by
 by_cases hb:b=a
 ·subst hb;rw[z6]at q;cases q;exact new
 ·rw[zh hb]at q;have ne:∀c y,H c=some y->c≠a:=fun c y r z=>by rw[z,hn]at r;cases r
  exact(ok b u q).stay (fun _ _ _ r=>r) (fun c r=>by rw[zh (ne c _ r)];exact r) fun c xs r=>by rw[zh (ne c _ r)];exact r
theorem aK{y:V}{u:Value}{Q:Unit->Shared->Prop}(I:Inv X pins σ H s)(he:H e=some (.ext (ExcM e C none)))(c:ClsX X.K C)(n:kX X.K C f)(ry:RelV y u)(h:∀dx s',H dx=none->Inv X pins σ (upd (upd H e (.ext (ExcM e C (some dx)))) dx (.xd [(f,y)])) s'->Q () s'):wpAny (model X.prog X.w) A (setAttr (.ref e) f u) Q E s:=by
 obtain⟨t,sl,g⟩:=(show zS X.prog X.w H s.heap e (.ext (ExcM e C none))from I.hok e _ he).1;refine setX I.kIn g rfl rfl rfl c n fun h' tk ge n1 far lt=>?_;have hfr:H s.heap.objs.size=none:=I.hok.fresh (le_refl _);have ne:s.heap.objs.size≠e:=fun z=>by rw[z,he]at hfr;cases hfr
 refine h s.heap.objs.size _ hfr (I.un ⟨fun b o q n hb hx=>?_,fun b o q n hb hx=>?_,fun b o q n hx=>?_,fun b o q hx=>?_,fun b xs q=>?_,fun b o w q=>?_,fun b ps q=>?_⟩ ?_)
 ·exact far b o (fun z=>by rw[z,he]at n;cases n) q
 ·exact⟨o.slots,far b o (fun z=>by rw[z,he]at n;cases n) q⟩
 ·rw[zh (ne_of_lt (Heap.lt_size q)),zh (fun z=>by rw[z,he]at n;cases n)];exact n
 ·by_cases hb:b=e
  ·subst hb;exact⟨_,ge⟩
  ·exact⟨o,far b o hb q⟩
 ·rw[zh (fun z=>by rw[z,hfr]at q;cases q),zh (fun z=>by rw[z,he]at q;cases q)];exact q
 ·rw[zh (fun z=>by rw[z,hfr]at q;cases q),zh (fun z=>by rw[z,he]at q;cases q)];exact q
 ·rw[zh (fun z=>by rw[z,hfr]at q;cases q),zh (fun z=>by rw[z,he]at q;cases q)];exact⟨#[],by rw[Array.append_empty];exact q⟩
 ·have w1:HOk X.prog X.w (upd H e (.ext (ExcM e C (some s.heap.objs.size)))) h':=I.hok.write (by rw[he];trivial) (.inl rfl) (fun b o hb q=>far b o hb q) ⟨_,ge⟩ ⟨⟨t,sl,ge⟩,⟨_,ge⟩,ExcM.ext⟩;refine w1.addX (by rw[zh ne];exact hfr) ⟨_,n1,fun g=>?_⟩;by_cases hg:g=f
  ·subst hg;rw[if_pos rfl];simp only[List.lookup,beq_self_eq_true];exact ry
  ·rw[if_neg hg];simp[List.lookup,beq_eq_false_iff_ne.mpr hg]
   trivial
end
abbrev ao(C t:Addr):Obj:={cls:=.ref C,data:=.fields #[.ref t,.none,.none,.none,.bool false,.none]}
abbrev uq(h:Heap)(C:Addr)(args:List Value):Heap:=(h.push {cls:=.type "tuple",data:=.seq args.toArray}).push (ao C h.objs.size)
section
variable{prog:Program}{w:World}{A:Around}{E:Value->Shared->Prop}{h:Heap}{g:Array GenState}{d:Drawn}{t:Nat}{os:OsState}
variable{nm q:Str}{C N:Addr}{bs bm bmB bmN:List Value}{hdct:Bool}{sn:List Str}{sub:List Value}{ab:Bool}{col:Option Bool}{dd:Option Addr}{k0 k1 k2 k3 k5:Option Value}{B Bn newId nid initId inN:String}
theorem mI(Fn:ExcBaseFacts Bn newId inN bmN)(hBn:bmB.contains (.type Bn)=true)(F:ExcBaseFacts B nid initId bmB)(T:OwnTail h bmB bm){mN:Str->Option Value}{rest:List Value}{fI:Addr}{oI:Obj}{Q:Fin->Shared->Prop}(hC:h.get? C=some (excClassObj nm q C N bs bm hdct sn sub ab col dd k0 k1 k2 k3 k5 newId))(hn:h.Ns N mN)(hi:mN "__init__"=some (.ref fI))(gI:h.get? fI=some oI)(cI:oI.cls= .type "function")(hq:wpAny (model prog w) A (call (.ref fI) (.ref (h.objs.size+1)::rest)) (fun r s'=>r= .none/\Q (.done (.ret (.ref (h.objs.size+1)))) s') E ⟨uq h C rest,g,d,t,os⟩)(hl:rest.length<=sizeLine) :
  wpAny (model prog w) A (Builtin.«type.__call__» ⟨.ref C::rest,[]⟩) Q E ⟨h,g,d,t,os⟩:=by
 repeat
  first
  |with_reducible refine wpAny_loadPart_at hC ?_
  |with_reducible refine wpAny_madeBy_exc hC ?_
  |wp_step
 refine codeAny_call_builtin_code (Code.quiet_builtin _ Fn.quiet)
  (wpAny_check_new_subU Fn hBn T hC ?_)
 refine codeAny_exc_new_subU Fn hBn F T hC ?_ hl;show wpAny _ _ _ _ _ _;have kp:∀b o,h.get? b=some o->(uq h C rest).get? b=some o:=fun b o z=>Heap.get?_push_of_some _ (Heap.get?_push_of_some _ z);have hC1:=kp _ _ hC;have hn1:(uq h C rest).Ns N mN:=let⟨o,es,ep,z,r⟩:=hn;⟨o,es,ep,kp _ _ z,r⟩
 have ge:(uq h C rest).get? (h.objs.size+1)=some (ao C h.objs.size):=by heap_get
 have T1:=T.keeps kp;have own:(Value.ref C::bm).contains (.ref C)=true:=by simp
 unfold isInstance
 repeat
  first
  |with_reducible refine wpAny_loadPart_at ge ?_
  |(with_reducible refine wpAny_isSubtype_exc hC1 ?_;rw[own])
  |wp_step
 show wpAny _ _ (typeLookup (.ref C) _) _ _ _;refine wpAny_typeLookup_tail hC1 hn1 T1 F.mroIs F.init.lookup ?_;rw[hi];refine wpAny_holding (wpAny_bind ?_);unfold bindSpecial;refine wpAny_bind (wpAny_typeOf (T :="function") ⟨_,kp _ _ gI,cI⟩ ?_);rw[if_pos (by decide)];refine wpAny_pure (wpAny_bind (wpAny_mono hq (fun r s' hr=>?_) fun _ _ z=>z));obtain⟨rfl,y⟩:=hr
 wp_walk
 exact y
theorem iA(Fn:ExcBaseFacts Bn newId inN bmN)(hBn:bmB.contains (.type Bn)=true)(F:ExcBaseFacts B nid initId bmB)(T:OwnTail h bmB bm){mN:Str->Option Value}{rest:List Value}{fI:Addr}{oI:Obj}{Q:Value->Shared->Prop}(hC:h.get? C=some (excClassObj nm q C N bs bm hdct sn sub ab col dd k0 k1 k2 k3 k5 newId))(hn:h.Ns N mN)(hi:mN "__init__"=some (.ref fI))(gI:h.get? fI=some oI)(cI:oI.cls= .type "function")(hq:wpAny (model prog w) (A.under (.builtin "type.__call__" ⟨.ref C::rest,[]⟩)) (call (.ref fI) (.ref (h.objs.size+1)::rest)) (fun r s'=>r= .none/\Q (.ref (h.objs.size+1)) s') E ⟨uq h C rest,g,d,t,os⟩)(hl:rest.length<=sizeLine) :
  wpAny (model prog w) A (call (.ref C) rest) Q E ⟨h,g,d,t,os⟩:=by
 have f1:=tc_lookup;have f2:=tc_bind (.ref C);have hT:(⟨h,g,d,t,os⟩:Shared).TypeIs (.ref C) "type" :=⟨_,hC,rfl⟩;refine wpAny_call (codeAny_of_tree ?_);show wpAny _ _ (callAny (.ref C) _) _ _ _
 repeat
  any_goals
   first
   |assumption
   |with_reducible refine wpAny_loadPart_at hC ?_
   |wp_step
 refine⟨rfl,?_⟩;exact codeAny_call_builtin_at (Code.quiet_builtin _ (by decide+kernel)) entry_typeCall
  (wpAny_check_type_call_sub hC (mI Fn hBn F T hC hn hi gI cI hq hl))
end
section
variable{M:Model}{A:Around}{E:Value->Shared->Prop}{s:Shared}{env:Env}{nm q:Str}{C N:Addr}{bs bm:List Value}{hdct:Bool}{sn:List Str}{sub:List Value}{ab:Bool}{col:Option Bool}{dd:Option Addr}{k0 k1 k2 k3 k5:Option Value}{newId:String}
theorem nI{x:Sem Value}{Q:Flow->Shared->Prop}(hb:bm.contains (.type "BaseException")=true)(hh:A.handled=none)(h:wpAny M A x (fun v s1=>∃ e dx t sl,v= .ref e/\s1.heap.get? C=some (excClassObj nm q C N bs bm hdct sn sub ab col dd k0 k1 k2 k3 k5 newId)/\
   s1.heap.get? e=some ⟨.ref C,dx,.fields #[.ref t,.none,.none,.none,.bool false,.none],sl⟩/\E (.ref e) s1) E s):wpAny M A (raiseStmt env (some x) none) Q E s:=by
 have hcB:(Value.ref C::bm).contains (.type "BaseException")=true:=by rw[List.contains_cons,hb,Bool.or_true]
 unfold raiseStmt;refine wpAny_bind (wpAny_mono h (fun v s1 ⟨e,dx,t,sl,ev,hC,ge,hE⟩=>?_) fun _ _ z=>z);subst ev;obtain⟨hp,g,d,tk,os⟩:=s1
 repeat
  first
  |with_reducible refine wpAny_loadPart_at ge ?_
  |with_reducible refine wpAny_loadPart_at hC ?_
  |(with_reducible refine wpAny_isSubtype_exc hC ?_;rw[hcB])
  |wp_step
 exact wpAny_raiseNew_none hh hE
end
def Zn(K:Frag)(C f:Addr):Bool :=
 match K.lookup C with
 |some ⟨.type "type",_,.cls cd,sl⟩ =>
  (match cd.mro,sl.toList with
  | .ref D::bm,[_,_,_,_,some (.builtin n),_] =>
   (D==C&&n=="ValueError.__new__"&& !cd.hasDel)&&(tailIn K bmV bm&&nsOkIn K cd.ns&&nsIn K cd.ns "__init__"==some (some (.ref f)))
  | _,_=>false)
 | _=>false
theorem lU{K:Frag}{h:Heap}{N:Addr}{m:Str->Option Value}{x:Str}{v:Value}(X:K.In h)(G:h.Ns N m)(q:nsIn K N x=some (some v)):m x=some v:=by
 obtain⟨o,es,ep,ho,hd,_,hf⟩:=G;unfold nsIn at q;split at q
 ·rename_i es' _ _ lk;have z:=X _ _ lk;rw[ho]at z;cases z;cases hd;split at q
  ·rename_i y hy;cases q;have:=hf x;unfold nsFind findBy at this;rw[<-Array.find?_toList,hy]at this;exact this.symm
  ·split at q <;>cases q
 ·cases q
structure ExcI(K:Frag)(C f:Addr):Prop where
 inn:Zn K C f=true
 kp:keepIn K (.ref C)=true
 fn:isFn K (.ref f)=true
theorem ExcI.obj{K:Frag}{C f:Addr}{h:Heap}(c:ExcI K C f)(X:K.In h):∃(bm:List Value)(N:Addr)(nm q:Str)(bs:List Value)(hdct:Bool)(sn:List Str)(sub:List Value)(ab:Bool)(col:Option Bool)(dd:Option Addr)(k0 k1 k2 k3 k5:Option Value)(mN:Str->Option Value),
  h.get? C=some (excClassObj nm q C N bs bm hdct sn sub ab col dd k0 k1 k2 k3 k5 "ValueError.__new__")/\h.Ns N mN/\mN "__init__"=some (.ref f)/\OwnTail h bmV bm/\K.lookup C=some (excClassObj nm q C N bs bm hdct sn sub ab col dd k0 k1 k2 k3 k5 "ValueError.__new__"):=by
 have q:=c.inn;unfold Zn at q;split at q
 ·rename_i dd cd sl ho;split at q
  ·rename_i D bm k0 k1 k2 k3 n k5 hm hs;simp only[and_eq_true,beq_iff_eq,Bool.not_eq_true']at q;obtain⟨⟨⟨rfl,rfl⟩,hdel⟩,⟨ht,hok⟩,hni⟩:=q;obtain⟨nm,bs,mro,ns,qn,hd,sn,sub,ab,col,del⟩:=cd;dsimp only at hm hdel hok hni;subst hm hdel;have hsl:sl= #[k0,k1,k2,k3,some (.builtin "ValueError.__new__"),k5]:=by
    obtain⟨l⟩:=sl;simp only at hs;rw[hs]
   subst hsl;have hN:h.Ns ns (h.nsMap ns):=.of_isNs (isNs_of_in X hok);exact⟨bm,ns,nm,qn,bs,hd,sn,sub,ab,col,dd,k0,k1,k2,k3,k5,_,X _ _ ho,hN,lU X hN hni,tail_of_in X ht,ho⟩
  ·cases q
 ·cases q
theorem ExcI.isX{K:Frag}{C f:Addr}{h:Heap}(c:ExcI K C f)(X:K.In h):∃bm,IsXC K C bm/\OwnTail h bmV bm:=by
 obtain⟨bm,N,nm,q,bs,hdct,sn,sub,ab,col,dd,k0,k1,k2,k3,k5,mN,hC,hn,hni,hT,hlk⟩:=c.obj X;exact⟨bm,⟨nm,q,N,bs,hdct,sn,sub,ab,col,dd,k0,k1,k2,k3,k5,_,hlk⟩,hT⟩
theorem Takes.mkI{K:Frag}{c f S:Addr}{h:Heap}(X:K.In h)(hc:ExcI K c f)(hS:∃bm,IsXC K S bm/\OwnTail h bmV bm)(hm:mroIn K c (.ref S)=some true):Takes K c S:=by
 obtain⟨bm,x,_⟩:=hc.isX X;obtain⟨bm',x',t'⟩:=hS;refine⟨bm,bm',x,x',t'.hasType (by decide),?_⟩;obtain⟨nm,q,N,bs,hdct,sn,sub,ab,col,dd,k0,k1,k2,k3,k5,nid,lc⟩:=x;unfold mroIn clsIn at hm;rw[lc]at hm;simpa using hm
def delH(H:Hp)(a:Addr):Hp:=fun b=>if b=a then none else H b
theorem aY{H:Hp}{a:Addr}:delH H a a=none:=by unfold delH;rw[if_pos rfl]
theorem vU{H:Hp}{a b:Addr}(h:b≠a):delH H a b=H b:=by unfold delH;rw[if_neg h]
theorem aZ{H:Hp}{a b:Addr}{o:HO}(h:delH H a b=some o):b≠a/\H b=some o:=by
 by_cases z:b=a
 ·subst z;rw[aY]at h;cases h
 ·rw[vU z]at h;exact⟨z,h⟩
theorem ExcAt.init{X:Cx}{pins:List (Addr×Obj)}{σ:St}{H:Hp}{s:Shared}{e C:Addr}{dd:Option Addr}(I:Inv X pins σ H s)(he:H e=some (.ext (ExcM e C dd)))(hnew:X.s₀.heap.get? e=none):ExcAt X (delH H e) e (.ref C) dd s:=by
 obtain⟨t,sl,g⟩:=(show zS X.prog X.w H s.heap e (.ext (ExcM e C dd))from I.hok e _ he).1;have nf:e∉frs X.stack:=fun z=>by rw[I.stkFree e z]at he;cases he
 have ne:∀b ob,X.s₀.heap.get? b=some ob->b≠e:=fun b ob q z=>by rw[z,hnew]at q;cases q
 have sub:∀b,b∉frs X.stack->b∉X.fs:=fun b hb z=>by
  rcases I.ok.stk with e|⟨e,hf⟩
  ·rw[e]at hb;exact hb z
  ·rw[e]at hb;unfold frs at hb;rw[filterMap_cons,hf]at hb;exact hb (mem_cons_of_mem _ z)
 have out:∀b,b≠e->b∉frs X.stack->b∉e::frs X.stack:=fun b h1 h2 z=>(mem_cons.mp z).elim h1 h2;have tr:∀b u,X.H₀ b=some u->(∀ φ,u≠ .ext φ)->H b=some u->delH H e b=some u:=fun b u _ hu q=>by
  rw[vU (fun z=>by rw[z,he]at q;cases q;exact hu _ rfl)];exact q
 refine⟨I.os,I.bare,⟨I.base.keep,I.base.slot,fun b ob q n hx=>?_,I.base.there,fun b xs q=>?_,fun b ob u q=>?_,fun b ps q=>?_⟩,fun b u q=>?_,aY,hideAll s.heap (e::frs X.stack),⟨fun b u q=>?_,fun b ob q n hb hx=>?_,fun b ob q hb hx=>?_⟩,?_⟩
 ·rw[vU (ne b ob q)];exact I.base.free b ob q n hx
 ·exact tr b _ q (fun φ z=>by cases z) (I.base.tups b xs q)
 ·exact tr b _ q (fun φ z=>by cases z) (I.base.frzs b ob u q)
 ·obtain⟨more,z⟩:=I.base.tbls b ps q;refine⟨more,?_⟩;rw[vU (fun y=>by rw[y,he]at z;cases z)];exact z
 ·obtain⟨hb,q'⟩:=aZ q;refine(I.hok b u q').stay (fun _ _ _ r=>r) (fun c r=>?_) fun c xs r=>?_
  ·rw[vU (fun y=>by rw[y,he]at r;cases r)];exact r
  ·rw[vU (fun y=>by rw[y,he]at r;cases r)];exact r
 ·obtain⟨hb,q'⟩:=aZ q;obtain⟨ob,e1⟩:=(I.hok b u q').some;exact⟨ob,hideAll_get _ e1 (out b hb fun z=>by rw[I.stkFree b z]at q';cases q')⟩
 ·exact hideAll_get _ (I.base.keep b ob q n (sub b hb) hx) (out b (ne b ob q) hb)
 ·obtain⟨o',e1⟩:=I.base.there b ob q hx;exact⟨o',hideAll_get _ e1 (out b (ne b ob q) hb)⟩
 ·refine .made _ _ (fun b ob q=>of_hideAll _ q) (funFrames_hide I.stack fun env hm a ha=>mem_cons_of_mem _ (List.mem_filterMap.mpr ⟨env,hm,ha⟩)) (hideAll_none _ (by simp)) g rfl rfl rfl rfl
def Yh(C:Addr)(sp:Sp)(E:XK)(ta:TA):TS:=fun _ σ H=>ta σ H fun vs H1=>vs.length<=sizeLine/\ ∀e,H1 e=none->sp (.ref e::vs) (upd H1 e (.ext (ExcM e C none))) (fun v H2=>v= .non/\ ∃dd,H2 e=some (.ext (ExcM e C dd))/\E (.ref C) dd (delH H2 e)) E0
theorem nF{X:Cx}{E:XK}{C f:Addr}{fd:FuncData}{ps:List Str}{sp:Sp}{cm:Bool}{k:Nat}{x:Str}{a:Expr}{args:List Expr}{np cpos pos:Pos}{ta:TA}(hc:X.calm=true)(c:ExcI X.K C f)(F:FnOk X.prog X.w X.K X.mg X.base CX0 k f fd ps sp cm)(hr:Room (k+1) X.A cm)(hb:ux X.K fd ps [])(hg:Gl (X.wish (XE X E)) x)(hm:X.mg x=some (.ref C))(ha:PA (X.wish (XE X E)) (a::args) ta)(hd:(x==("__debug__" : Str))=false:=by decide)(he:starEach (a::args) X.env=(false,eval a X.env)::starEach args X.env:=by rfl)(hpl:(backTo cpos (starEach args X.env)).any (·.1)=false:=by rfl) :
  PS (X.wish (XE X E)) (.Raise (some (.Call (.Name x np) (a::args) [] cpos)) none pos) (Yh C sp E ta):=by
 intro pins s σ H D I hw;obtain⟨bm,N,nm,q,bs,hdct,sn,sub,ab,col,dd,k0,k1,k2,k3,k5,mN,hC0,hn0,hi0,hT0,hlk⟩:=c.obj I.ok.mod.kin;rw[arm_exec_Raise];refine wpAny_bind (wpAny_standAt (nI (C:=C) (nm:=nm) (q:=q) (N:=N) (bs:=bs) (bm:=bm) (hdct:=hdct) (sn:=sn) (sub:=sub) (ab:=ab) (col:=col) (dd:=dd) (k0:=k0) (k1:=k1) (k2:=k2) (k3:=k3) (k5:=k5) (newId :="ValueError.__new__") (hT0.hasType (by decide)) (I.ok.hd hc) (wpAny_bind (wpAny_mono ?_ (fun v s1 h1=>wpAny_bind (wpAny_standAt (wpAny_pure h1))) fun _ _ z=>z))));refine wpAny_Call_Name_kw (vq I hg hm ?_ hd);refine callWith_K (h₀:=X.base) I.ok.mod.kin c.kp (thn (ha cpos pins s σ H _ I hw) fun us s1 ⟨vs,H1,I1,r,hl,q1⟩=>⟨I1.kIn,?_⟩) he hpl;have kb:∀b ob,X.base.get? b=some ob->s1.heap.get? b=some ob:=I1.bk;obtain⟨h1,g1,d1,t1,os1⟩:=s1;have fnT:typeIn X.K (.ref f)=some (.type "function"):=beq_iff_eq.mp c.fn;obtain⟨oI,lI,cI⟩:∃oI,X.K.lookup f=some oI/\oI.cls= .type "function" :=by
  unfold typeIn at fnT;exact map_eq_some_iff.mp fnT
 have hfree:H1 (h1.objs.size+1)=none:=I1.hok.fresh (le_succ _);have hq:=q1 (h1.objs.size+1) hfree;have I2:Inv (X.wish (XE X E)) pins σ (upd H1 (h1.objs.size+1) (.ext (ExcM (h1.objs.size+1) C none))) ⟨uq h1 C us,g1,d1,t1,os1⟩:=by
  have ge:(uq h1 C us).get? (h1.objs.size+1)=some (ao C h1.objs.size):=by heap_get
  exact I1.laid (t':=t1) (fun b o z=>Heap.get?_push_of_some _ (Heap.get?_push_of_some _ z)) (le_succ _) ⟨⟨_,_,ge⟩,⟨_,ge⟩,ExcM.ext⟩
 have r2:Vals (V.ref (h1.objs.size+1)::vs) (Value.ref (h1.objs.size+1)::us):=.cons rfl r;have hlen:(Value.ref (h1.objs.size+1)::us).length=ps.length:=by
  have e:=r2.length;rw[F.len _ _ _ _ hq]at e;exact e.symm
 refine iA PySem.F.excBase_ValueError (by decide) PySem.F.excBase_ValueError (hT0.keeps kb) (kb _ _ hC0) (hn0.keeps kb) hi0 (I1.kIn _ _ lI) cI ?_ (by show us.length<=sizeLine;rw[<-r.length];exact hl);refine wpAny_call (codeAny_mono (F.run _ X.stack _ _ ⟨Value.ref (h1.objs.size+1)::us,[]⟩ (Value.ref (h1.objs.size+1)::us) _ _ E0 (hr.make C us []) (I2.env0.make C us []) ?_ r2 hq) fun r s' hq'=>?_)
 ·have z:=hb _ (Value.ref (h1.objs.size+1)::us) I2.kIn (by rw[append_nil];exact hlen);rw[append_nil]at z;exact z
 cases r with
 |error e=>exact False.elim hq'
 |ok fl =>
  cases fl with
  |ret u =>
   obtain⟨v,H',I3,rv,ev,dd',ge,hE⟩:=I2.after hq';subst ev;obtain⟨t,sl,g⟩:=(show zS X.prog X.w H' s'.heap (h1.objs.size+1) (.ext (ExcM (h1.objs.size+1) C dd'))from I3.hok _ _ ge).1;refine⟨rv,_,_,t,sl,rfl,I3.bk _ _ hC0,g,_,_,dd',_,rfl,hE,ExcAt.init I3.unwish ge ?_⟩;exact Heap.get?_none_of_le (le_trans I1.sz (le_succ _))
  |next=>exact False.elim hq'
  |brk=>exact False.elim hq'
  |cont=>exact False.elim hq'
section
variable{X:Cx}{o e value:Expr}{f:Str}{pos pos':Pos}{ta tv:TE}
def Jt(K:Frag)(ta tv:TE)(f:Str):TS:=fun D σ H=>tv σ H fun y H1=>ta σ H1 fun x H2=>∃ e C,x= .ref e/\H2 e=some (.ext (ExcM e C none))/\ClsX K C/\kX K C f/\
 ∀dx,H2 dx=none->D.nx σ (upd (upd H2 e (.ext (ExcM e C (some dx)))) dx (.xd [(f,y)]))
theorem Y3(ha:PE X o ta)(hv:PE X value tv)(hs:swapsWith value (some (.Attribute o f pos')) pos.line X.env=pure false):PS X (.Assign [.Attribute o f pos'] value pos) (Jt X.K ta tv f):=by
 intro pins s σ H D I h;refine plainObj_wpAny_Assign_Attribute (thn (hv pins s σ H _ I h) fun u s1 ⟨y,H1,I1,ry,q⟩=>thn (ha pins s1 σ H1 _ I1 q) fun ov s2 ⟨x,H2,I2,rx,a,C,ex,ea,c,n,q2⟩=>?_) hs;subst ex;obtain rfl:ov=Value.ref a:=rx;exact aK I2 ea c n ry fun dx s3 hx I3=>⟨σ,_,I3,q2 dx hx⟩
def Jy(K:Frag)(ta:TE)(f:Str):TE:=fun σ H Q=>ta σ H fun x H1=>∃ a C dx fs v,x= .ref a/\H1 a=some (.ext (vS a (.ref C) (some dx)))/\H1 dx=some (.xd fs)/\ClsX K C/\kX K C f/\fs.lookup f=some v/\Q v H1
theorem ZZ{K:Frag}(hK:X.K=K)(he:PE X e ta)(hb:attributeBase e f X.env (eval e X.env)=eval e X.env):PE X (.Attribute e f pos) (Jy K ta f):=by
 subst hK;intro pins s σ H Q I h;refine iz hb (thn (he pins s σ H _ I h) fun u s1 ⟨x,H1,I1,rx,a,C,dx,fs,v,ex,ea,ed,c,n,l,q⟩=>?_);subst ex;obtain rfl:u=Value.ref a:=rx;obtain⟨oe,vs,g,g1,g2,g3⟩:=(show zS X.prog X.w H1 s1.heap a (.ext (vS a (.ref C) (some dx)))from I1.hok a _ ea).1;obtain⟨mA,n1,r⟩:=(show zS X.prog X.w H1 s1.heap dx (.xd fs)from I1.hok dx _ ed);obtain⟨u,hu,ru⟩:=RelO.some_of (v:=v) (o:=mA f) (by rw[<-l];exact r f);exact getX I1.kIn g g1 g3 g2 n1 c n hu (dh ru) ⟨v,H1,I1.tok _,ru,q⟩
end
theorem oA{H:Hp}{e dx C:Addr}{f:Str}{y:V}{H':Hp}(he:H e=none)(hd:upd H e (.ext (ExcM e C none)) dx=none)(eH:H'=upd (upd (upd H e (.ext (ExcM e C none))) e (.ext (ExcM e C (some dx)))) dx (.xd [(f,y)])) :
  H' e=some (.ext (ExcM e C (some dx)))/\delH H' e dx=some (.xd [(f,y)])/\ ∀b o,H b=some o->delH H' e b=some o:=by
 have ne:dx≠e:=fun z=>by rw[z,z6]at hd;cases hd
 have hdx:H dx=none:=by rw[zh ne]at hd;exact hd
 subst eH;refine⟨by rw[zh ne.symm,z6],by rw[vU ne,z6],fun b o q=>?_⟩;have nb:b≠e:=fun z=>by rw[z,he]at q;cases q
 have nb2:b≠dx:=fun z=>by rw[z,hdx]at q;cases q
 rw[vU nb,zh nb2,zh nb,zh nb];exact q
def JD(K:Frag)(S:Addr)(j i:Nat)(tx:TX)(tr ts:TS):TS:=fun D σ H=>tx σ H (fun v H1=>tr D (σ.set j (some v)) H1) (fun C dd H1=>∃ c,C= .ref c/\Takes K c S/\ ∀e,H1 e=none->
 ts {nx:=fun σ' H'=>D.nx (σ'.set i none) H',rt:=D.rt,bk:=fun σ' H'=>D.bk (σ'.set i none) H',ct:=fun σ' H'=>D.ct (σ'.set i none) H'} (σ.set i (some (.ref e))) (upd H1 e (.ext (vS e (.ref c) dd))))
theorem Y5{X:Cx}{e:Expr}{S n y:Str}{Sc:Addr}{i j:Nat}{b0:Stmt}{body rest:List Stmt}{tx:TX}{tr ts:TS}{epos spos hpos pos p':Pos}(top:X.stack=X.env::X.outer)(fr:X.env.frame=some X.env.locals)(hx:PX X e tx)(hg:Gl X S)(hm:X.mg S=some (.ref Sc))(hs:∀a,PSs (X.inH a).nox (b0::body) ts)(hrs:PSs X.nox rest tr)(hN:X.N.Nodup)(hi:X.N[i]? =some n)(hk:X.env.scope.names.lookup n=some .local)(hj:X.N[j]? =some y)(hyl:Loc X.env.scope y)(hd:(S==("__debug__" : Str))=false:=by decide)(hsw:swapsWith e (some (.Name y p')) epos.line X.env=pure false:=by rfl)(hf:X.fn y=true\/X.env.scope.names.lookup y=some .local:=by first|exact .inl rfl|exact .inr rfl|assumption) :
  PS X (.Try (.Assign [.Name y p'] e epos::rest) [.ExceptHandler (some (.Name S spos)) (some n) (b0::body) hpos] [] [] pos) (JD X.K Sc j i tx tr ts):=by
 intro pins s σ H D I h;refine wpAny_Try_except ?_;have hb:=wpAny_Assign_Name (Q:=fun f s1=>f= .next/\ ∃v H1,Inv X pins (σ.set j (some v)) H1 s1/\tr D (σ.set j (some v)) H1) (pos:=epos) (thn (hx pins s σ H _ _ I h) fun v s1 ⟨x,H1,I1,r,q⟩=>wb I1 hN hj hyl r (fun s2 I2=>⟨rfl,x,H1,I2,q⟩) hf) hsw;refine wpAny_execs_cons (wpAny_mono hb (fun f s1 ⟨hf,v,H1,I1,q⟩=>?_) fun ev s' ⟨H1,s1,I1,hc⟩=>?_)
 ·subst hf;refine wpAny_mono (hrs pins s1 _ H1 D (I1.wish _) q) (fun f s2 z=>?_) (fun _ _ z=>False.elim z);have z:=z.unwish;cases f with
  |next=>obtain⟨σ',H2,J,q⟩:=z;exact wpAny_execs_nil ⟨σ',H2,J,q⟩
  |brk=>exact z
  |cont=>exact z
  |ret u=>exact z
 ·refine CX1.lands (by rw[<-top];exact I1.ok.frames) top fr hc fun a C dd0 H' s3 ha hE l=>?_;subst ha;obtain⟨c,rfl,⟨bm,bm',⟨nm,q,N,bs,hdct,sn,sub,ab,col,dd,k0,k1,k2,k3,k5,nid,lc⟩,⟨nm',q',N',bs',hdct',sn',sub',ab',col',dd',k0',k1',k2',k3',k5',nid',lS⟩,hB,hM⟩,hts⟩:=hE;refine wpAny_handleBy_cons (codeAny_handlers_test ?_) (by intro q;cases q);have I3:=l.inv I1;refine vq (X:=X.inH a) I3.inH hg hm ?_ hd;obtain⟨oe,vs,hoe,hcl,hda⟩:=l.obj;have kC:=I3.kIn _ _ lc;have kS:=I3.kIn _ _ lS;obtain⟨h3,g3,d3,t3,os3⟩:=s3;refine bV kC kS hoe hcl hB hM ?_;refine codeAny_handlers_suite_as ?_;refine l.again fun s4 l4=>?_;have I4:=l4.trackedD I1;refine wb (X:=X.inH a) (v:=.ref a) I4.inH hN hi (.inl hk) rfl (fun s5 I5=>?_) (.inr hk);refine wpAny_mono (hs a pins s5 _ _ _ (I5.wish _) (hts a l4.fe)) (fun f s6 q=>?_) (fun _ _ z=>False.elim z);cases f with
  |next=>obtain⟨σ',H2,J,q⟩:=q;exact goes (X:=X) (J.unwish.ofH I.ok) hN hi hk fun s7 J7=>⟨_,H2,J7,q⟩
  |brk=>obtain⟨σ',H2,J,q⟩:=q;exact goes (X:=X) (J.unwish.ofH I.ok) hN hi hk fun s7 J7=>⟨_,H2,J7,q⟩
  |cont=>obtain⟨σ',H2,J,q⟩:=q;exact goes (X:=X) (J.unwish.ofH I.ok) hN hi hk fun s7 J7=>⟨_,H2,J7,q⟩
  |ret u=>obtain⟨v,σ',H2,J,r,q⟩:=q;exact goes (X:=X) (J.unwish.ofH I.ok) hN hi hk fun s7 J7=>⟨v,_,H2,J7,r,q⟩
end L2
namespace L2
open PySem PySem.Spec PyProof.Rows
theorem nZ:∀{l:List Int},(∀x∈l,1<=x)->0<=l.sum
 | [],_=>Int.le_refl _
 |x::r,h=>by
  have h1:=h x (by simp);have h2:=nZ (l:=r) fun y hy=>h y (mem_cons_of_mem _ hy);rw[List.sum_cons];omega
theorem o0:∀{l:List Int},(∀x∈l,1<=x)->(l.length:Int)<=l.sum
 | [],_=>Int.le_refl _
 |x::r,h=>by
  have h1:=h x (by simp);have h2:=o0 (l:=r) fun y hy=>h y (mem_cons_of_mem _ hy);rw[List.sum_cons,length_cons];omega
structure Hep(n:Int)(h:List Int):Prop where
 pw:h.Pairwise (· >= ·)
 pos:∀x∈h,1<=x
 sum:h.sum=n
theorem eM:∀(f n g:Nat)(h:List Int),n<f->h∈yO f n g->Hep (n:Int) h
 | 0,_,_,_,hf,_=>absurd hf (Nat.not_lt_zero _)
 |f+1,n,g,h,hf,hh=>by
  rw[zF]at hh;by_cases c:n=0
  ·rw[if_pos c]at hh;have:h=[]:=by simpa using hh
   subst this c;exact⟨.nil,fun x hx=>(by cases hx),rfl⟩
  ·rw[if_neg c]at hh;unfold uR at hh;obtain⟨i,hi,hh⟩:=List.mem_flatMap.mp hh;rw[mem_range]at hi;obtain⟨r,hr,rfl⟩:=mem_map.mp hh;have ih:=eM f _ _ r (by omega) hr;have hle:=pX f _ _ r hr;refine⟨pairwise_cons.mpr ⟨fun y hy=>hle y hy,ih.pw⟩,fun x hx=>?_,?_⟩
   ·rcases mem_cons.mp hx with rfl|hx
    ·omega
    ·exact ih.pos x hx
   ·rw[List.sum_cons,ih.sum];omega
def cntF:Nat->Nat->Nat->Nat
 | 0,_,_=>0
 |f+1,n,g=>if n=0 then 1 else((List.range (min n g)).map fun i=>cntF f (n-(min n g-i)) (min n g-i)).sum
theorem aS:∀f n g,(yO f n g).length=cntF f n g
 | 0,_,_=>rfl
 |f+1,n,g=>by
  rw[zF,cntF];split
  ·rfl
  ·unfold uR;rw[List.length_flatMap];congr 1;apply map_congr_left;intro i _;rw[length_map,aS f]
theorem KR:(List.range 25).all (fun n=>decide (cntF 26 n n<=1575))=true:=by decide+kernel
theorem eL{n:Nat}(h:n<=24):(yO 26 n n).length<=1575:=by
 rw[aS];exact of_decide_eq_true (all_eq_true.mp KR n (mem_range.mpr (by omega)))
theorem Hep.len{n:Int}{h:List Int}(p:Hep n h):(h.length:Int)<=n:=by rw[<-p.sum];exact o0 p.pos
theorem oR{rule:Rule}{m:Nat}{h:List Int}(hh:h∈yp rule m)(hm:m<=24):Hep (m:Int) h/\yv rule h=none:=by
 obtain⟨h1,h2⟩:=mem_filter.mp hh;exact⟨eM 26 m m h (by omega) h1,by simpa using h2⟩
def jF:Str:=⟨#[32]⟩
def zK:Nat->List Nat->List (List Nat)
 | 0,l=>[l]
 | _+1,[]=>[[]]
 |k+1,c::l=>if c=32 then []::zK k l else match zK (k+1) l with
  | []=>[]
  |w::r=>(c::w)::r
theorem uv(l:List Nat):zK 0 l=[l]:=by cases l <;>simp[zK]
def jV:Nat->Nat->List Nat->List Nat
 | 0,_,_=>[]
 | _+1,_,[]=>[]
 |k+1,a,c::l=>if c=32 then a::jV k (a+1) l else jV (k+1) (a+1) l
theorem wy(k a:Nat):jV k a []=[]:=by cases k <;>simp[jV]
theorem j0(a:Nat)(l:List Nat):jV 0 a l=[]:=by cases l <;>simp[jV]
theorem pV(x:Str)(limit:Nat):∀(n a free:Nat)(acc:Array Nat),free<=a->a+n=x.length+1->
  (forIn (List.range' a n) (acc,free) (StrLaws.occBody x jF x.length limit)).run.fst.toList=acc.toList++jV (limit-acc.size) a (x.cps.toList.drop a)
 | 0,a,free,acc,_,hn=>by
  have hd:x.cps.toList.drop a=[]:=by
   apply List.drop_eq_nil_of_le;have:x.cps.toList.length=x.length:=by simp[Str.length]
   omega
  rw[hd,wy,append_nil];rfl
 |n+1,a,free,acc,hf,hn=>by
  have hlen:x.cps.toList.length=x.length:=by simp[Str.length]
  rw[List.range'_succ,List.forIn_cons];unfold StrLaws.occBody;have h1:=StrLaws.subAt_one x 32 a;by_cases hc:x.cps.toList[a]? =some 32
  ·obtain⟨h2,h3⟩:=h1.mpr hc;have hlt:=(List.getElem?_eq_some_iff.mp hc).1;have hd:x.cps.toList.drop a=32::x.cps.toList.drop (a+1):=by
    rw[drop_eq_getElem_cons hlt,(List.getElem?_eq_some_iff.mp hc).2]
   by_cases hs:acc.size<limit
   ·rw[if_pos ⟨⟨⟨hs,hf⟩,h2⟩,h3⟩];show(forIn (List.range' (a+1) n) (acc.push a,a+1) (StrLaws.occBody x jF x.length limit)).run.fst.toList=_;rw[pV x limit n (a+1) (a+1) (acc.push a) (le_refl _) (by omega),hd,Array.toList_push,Array.size_push,show limit-acc.size=(limit-(acc.size+1))+1 by omega,jV,if_pos rfl,append_assoc];rfl
   ·rw[if_neg fun z=>hs z.1.1.1];show(forIn (List.range' (a+1) n) (acc,free) (StrLaws.occBody x jF x.length limit)).run.fst.toList=_;rw[pV x limit n (a+1) free acc (by omega) (by omega),show limit-acc.size=0 by omega,j0,j0]
  ·rw[if_neg fun z=>hc (h1.mp ⟨z.1.2,z.2⟩)];show(forIn (List.range' (a+1) n) (acc,free) (StrLaws.occBody x jF x.length limit)).run.fst.toList=_;rw[pV x limit n (a+1) free acc (by omega) (by omega)];congr 1;by_cases hlt:a<x.cps.toList.length
   ·rw[drop_eq_getElem_cons hlt];cases limit-acc.size with
    |zero=>rw[j0,j0]
    |succ k =>
     rw[jV,if_neg fun e=>hc (by rw[getElem?_eq_getElem hlt,e])]
   ·rw[List.drop_eq_nil_of_le (by omega),List.drop_eq_nil_of_le (by omega),wy,wy]
theorem lW(x:Str)(limit:Nat):Builtin.Str.occurrences x jF 0 x.length limit=jV limit 0 x.cps.toList:=by
 rw[StrLaws.occ_eq,show x.length+1-0=x.length+1 by omega,pV x limit (x.length+1) 0 0 #[] (le_refl _) (by omega)];simp
theorem vD(x:Str):∀(l:List Nat)(k a b:Nat),a<=b->x.cps.toList.drop b=l->
  (StrLaws.partsFrom x 1 a (jV k b l)).map (fun w=>w.cps.toList)=match zK k l with| []=>[]|w::r=>((x.cps.toList.drop a).take (b-a)++w)::r
 |l,0,a,b,hab,hd=>by
  rw[j0,uv];show [(Builtin.Str.strSub x a x.length).cps.toList]=[_++l];have hlen:x.cps.toList.length=x.length:=by simp[Str.length]
  rw[StrLaws.strSub_toList,<-hd];congr 1;have e1:(x.cps.toList.drop a).take (x.length-a)=x.cps.toList.drop a:=take_of_length_le (by rw[length_drop];omega);rw[e1]
  conv=>lhs;rw[<-List.take_append_drop (b-a) (x.cps.toList.drop a)]
  rw[List.drop_drop,show a+(b-a)=b by omega]
 | [],k+1,a,b,hab,hd=>by
  rw[wy];show [(Builtin.Str.strSub x a x.length).cps.toList]=[_++[]];have hlen:x.cps.toList.length=x.length:=by simp[Str.length]
  rw[StrLaws.strSub_toList,append_nil];have h1:x.length<=b:=by
   have:=congrArg length hd;rw[length_drop,hlen]at this;have e0:([]:List Nat).length=0:=rfl;omega
  rw[take_of_length_le (by rw[length_drop];omega),take_of_length_le (by rw[length_drop];omega)]
 |c::l,k+1,a,b,hab,hd=>by
  have hlt:b<x.cps.toList.length:=by
   refine Decidable.byContradiction fun h=>?_;rw[List.drop_eq_nil_of_le (by omega)]at hd;cases hd
  have hd':x.cps.toList.drop (b+1)=l:=by
   rw[drop_eq_getElem_cons hlt]at hd;exact(List.cons.inj hd).2
  have hc:x.cps.toList[b]? =some c:=by
   rw[drop_eq_getElem_cons hlt]at hd;rw[getElem?_eq_getElem hlt,(List.cons.inj hd).1]
  by_cases e:c=32
  ·subst e;rw[jV,if_pos rfl];have es:zK (k+1) (32::l)=[]::zK k l:=by rw[zK,if_pos rfl]
   rw[es];show(Builtin.Str.strSub x a b).cps.toList::(StrLaws.partsFrom x 1 (b+1) (jV k (b+1) l)).map _=((x.cps.toList.drop a).take (b-a)++[])::zK k l;rw[vD x l k (b+1) (b+1) (le_refl _) hd',StrLaws.strSub_toList,append_nil];cases zK k l with
   |nil=>rfl
   |cons w r=>simp
  ·rw[jV,if_neg e,vD x l (k+1) a (b+1) (by omega) hd'];have es:zK (k+1) (c::l)=match zK (k+1) l with| []=>[]|w::r=>(c::w)::r:=by
    rw[zK,if_neg e]
   rw[es];cases zK (k+1) l with
   |nil=>rfl
   |cons w r =>
    dsimp only;congr 1;have e2:(x.cps.toList.drop a).take (b+1-a)=(x.cps.toList.drop a).take (b-a)++[c]:=by
     rw[show b+1-a=(b-a)+1 by omega,take_succ,List.getElem?_drop,show a+(b-a)=b by omega,hc];rfl
    rw[e2,append_assoc];rfl
theorem jD(x:Str)(k:Nat):(Txt.splitMax x jF k).map (fun w=>w.cps.toList)=zK k x.cps.toList:=by
 have hcut:=lW x k;have hlim:limitOf x (k:Int)=k:=by
  unfold limitOf;rw[if_neg (by omega)];omega
 have key:(StrLaws.partsFrom x 1 0 (jV k 0 x.cps.toList)).map (fun w=>w.cps.toList)=zK k x.cps.toList:=by
  rw[vD x x.cps.toList k 0 0 (le_refl _) rfl];cases zK k x.cps.toList with
  |nil=>rfl
  |cons w r=>simp
 have one:jV k 0 x.cps.toList=[]->[x].map (fun w=>w.cps.toList)=zK k x.cps.toList:=fun e=>by
  rw[<-key,e];show [x.cps.toList]=[(Builtin.Str.strSub x 0 x.length).cps.toList];rw[StrLaws.strSub_toList];have hlen:x.cps.toList.length=x.length:=by simp[Str.length]
  rw[drop_zero,take_of_length_le (by omega)]
 unfold Txt.splitMax;rw[hlim,hcut];split
 ·rename_i hc;refine one ?_;cases hx:jV k 0 x.cps.toList with
  |nil=>rfl
  |cons c r =>
   exfalso;rw[hx]at hcut;have h32:32∈x.cps.toList:=by
    refine Decidable.byContradiction fun hno=>?_;have:∀(l:List Nat)(k a:Nat),32∉l->jV k a l=[]:=by
     intro l
     induction l with
     |nil=>intro k a _;exact wy k a
     |cons y l ih =>
      intro k a hn;cases k with
      |zero=>exact j0 _ _
      |succ k =>
       rw[jV,if_neg fun e=>hn (by simp[e])];exact ih _ _ fun z=>hn (by simp[z])
    rw[this _ _ _ hno]at hx;cases hx
   have hlen:x.cps.toList.length=x.length:=by simp[Str.length]
   rw[Bool.or_eq_true,decide_eq_true_eq,decide_eq_true_eq]at hc;rcases hc with h|h
   ·have:jF.length=1:=rfl;have:=List.length_pos_of_mem h32;omega
   ·have hb:PySem.Builtin.Str.strKind jF=1:=by decide+kernel
    rw[hb]at h;unfold PySem.Builtin.Str.strKind at h;split at h
    ·omega
    ·split at h <;>omega
 ·split
  ·rename_i he;exact one (List.isEmpty_iff.mp he)
  ·rw[StrLaws.partsBetween_eq];exact key
theorem b7(x:Str):Txt.split x jF=Txt.splitMax x jF ((x.length+1:Nat):Int):=by
 unfold Txt.split Txt.splitMax limitOf;rw[if_neg (show ¬(((x.length+1:Nat):Int)<0)by omega),toNat_natCast]
theorem vM:∀{w:List Nat}(k:Nat)(r:List Nat),32∉w->zK (k+1) (w++32::r)=w::zK k r
 | [],k,r,_=>by rw[List.nil_append,zK,if_pos rfl]
 |c::w,k,r,h=>by
  rw[List.cons_append,zK,if_neg fun e=>h (by simp[e]),vM k r fun z=>h (by simp[z])]
theorem rO:∀{w:List Nat}(k:Nat),32∉w->zK k w=[w]
 |w,0,_=>uv w
 | [],k+1,_=>by rw[zK]
 |c::w,k+1,h=>by rw[zK,if_neg fun e=>h (by simp[e]),rO (k+1) fun z=>h (by simp[z])]
section
variable{X:Cx}
theorem lK:MtR X "str.split" (fun x vs H Q=>∃ z sep k,x= .str z/\vs=[.str sep,.int k]/\(sep.length==0)=false/\(0<=k/\k<=1000)/\z.length<=1000000/\ ∀l,H l=none->Q (.ref l) (upd H l (.lst ((Txt.splitMax z sep k).map V.str)))):=by
 intro pins s σ H x vs v us Q I rx rv h;obtain⟨z,sep,k,rfl,rfl,hy,hk,hz,q⟩:=h;obtain⟨t,rfl⟩:=rx
 match us,rv with
 | _,.cons ru (.cons rk .nil) =>
  obtain⟨u',rfl⟩:=ru;obtain⟨v',rfl⟩:=rk;have hkk:(decide (k< -(2^63:Int))||decide (k>=2^63))=false:=by
   rw[Bool.or_eq_false_iff,decide_eq_false_iff_not,decide_eq_false_iff_not];omega
  have hl:(Builtin.Str.partsBetween z (Builtin.Str.occurrences z sep 0 z.length (limitOf z k)) sep.length).length<=1001:=by
   unfold Builtin.Str.partsBetween;have:=StrLaws.occ_length_le z sep 0 z.length (limitOf z k);have h2:limitOf z k<=1000:=by
    unfold limitOf;rw[if_neg (by omega)];omega
   simp;omega
  have hsz:z.length<=sizeLine:=by rw[sizeLine_eq];omega
  have fin:∀(l:List (Str×Tok))(tk:Nat),l.map (·.1)=Txt.splitMax z sep k->EP X pins σ Q (.ref s.heap.objs.size) {s with heap:=s.heap.push {cls:=.type "list",data:=.seq (strValues l).toArray},toks:=tk}:=fun l tk e=>by
   have hlen:((Txt.splitMax z sep k).map V.str).length<=sizeLine:=by
    rw[length_map];unfold Txt.splitMax;split
    ·show 1<=sizeLine;decide
    ·split
     ·show 1<=sizeLine;decide
     ·rw[sizeLine_eq];omega
   refine⟨.ref s.heap.objs.size,_,I.laid (fun b o e=>Heap.get?_push_of_some _ e) (le_refl _) (show zS X.prog X.w _ _ _ (.lst ((Txt.splitMax z sep k).map V.str))from⟨hlen,strValues l,0,?_,Heap.get?_push_size _ rfl⟩),rfl,q _ (I.hok.fresh (le_refl _))⟩;rw[<-e];exact xz l
  cases h1:(decide (z.length<sep.length)||decide (Builtin.Str.strKind z<Builtin.Str.strKind sep))
  ·cases hf:(Builtin.Str.occurrences z sep 0 z.length (limitOf z k)).isEmpty
   ·refine call_meets F.slot_str_split (typeIs_str _ _ _) F.entry_str_split (F.args_str_split_3 _ _ _) (meets_str_split_sep_max z sep k t u' v' hkk h1 hy hf hsz (by rw[sizeLine_eq];omega)) ?_;show wants _ _ _ {s with toks:=_,heap:=s.heap.push {cls:=.type "list",data:=.seq (strsFrom s.toks (Builtin.Str.partsBetween z (Builtin.Str.occurrences z sep 0 z.length (limitOf z k)) sep.length)).toArray}};rw[strsFrom_eq];exact fin (numbered s.toks _) _ ((numbered_texts _ _).trans ((if_neg (ne_true_of_eq_false h1)).trans (if_neg (ne_true_of_eq_false hf))).symm)
   ·exact call_meets F.slot_str_split (typeIs_str _ _ _) F.entry_str_split (F.args_str_split_3 _ _ _) (meets_str_split_max_not_found z sep k t u' v' hkk h1 hy hf)
     (fin [(z,t)] s.toks ((if_neg (ne_true_of_eq_false h1)).trans (if_pos hf)).symm)
  ·exact call_meets F.slot_str_split (typeIs_str _ _ _) F.entry_str_split (F.args_str_split_3 _ _ _) (meets_str_split_max_cannot_occur z sep k t u' v' hkk h1)
    (fin [(z,t)] s.toks (if_pos h1).symm)
end
section
variable{prog:Program}{w:World}{A:Around}{E:Value->Shared->Prop}{s:Shared}
theorem pC{x:Value}{ss:List Str}{Q:Value->Shared->Prop}(h64:ss.length<64)(hc:∀(R:List Value->Shared->Prop),(∀h' tk (vs:List Value),(∀b o,s.heap.get? b=some o->h'.get? b=some o)->StrsAre vs ss->R vs {s with heap:=h',toks:=tk})->wpAny (model prog w) A.in1 (collect x) R E s)(h:∀(out:List Value) (n:Nat) (h1 h':Heap) (tk:Nat) (ss':List Str),(∀b o,s.heap.get? b=some o->h1.get? b=some o)->(∀b o,h1.get? b=some o->h'.get? b=some o)->h'.get? h1.objs.size=some (seqObj "list" out.toArray n)->StrsAre out ss'->ss'.Perm ss->sortedS ss'=true->Q (.ref h1.objs.size) {s with heap:=h',toks:=tk}) :
  wpAny (model prog w) A (call (.builtin "sorted") [x]) Q E s:=by
 refine Calls.call_function_entry kind_sorted plain_sorted entry_sorted (args_sorted1 _) ?_;unfold Builtin.«sorted»;refine wpAny_bind (m:=checkCount "sorted" 1 1 _) (wpAny_pure ?_);refine wpAny_bind (hc _ fun h1 tk vs hk1 hI=>?_);have hlv:vs.length<64:=by rw[hI.length];exact h64
 refine wpAny_bind (wpAny_newList ?_ (le_trans (Nat.le_of_lt hlv) (by decide)));have hoL:(h1.push (seqObj "list" vs.toArray 0)).get? h1.objs.size=some (seqObj "list" vs.toArray 0):=Heap.get?_push_size _ rfl;refine wpAny_bind (wpAny_holding (wpAny_call_entry slot_list_sort ⟨_,hoL,rfl⟩ entry_list_sort (list_sort_treeK strKind_oneLt hoL hI.keysOf (fun v₁ v₂ rest e=>keyKind_strs (by rw[<-e];exact hI)) hlv fun st' a1 a2=>⟨_,rfl,?_⟩) (args_list_sort _)));obtain⟨ss',b1,b2,b3⟩:=sorted_out_str hI a1 a2;obtain⟨e,he⟩:=sortedHeap_at (vs:=vs) (out:=(arrOf st').map (·.2)) hoL;refine wpAny_pure ⟨_,rfl,h ((arrOf st').map (·.2)).toList e h1 _ tk ss' hk1 (fun b o hb=>?_) he b1 b2 b3⟩;have hlt:=Heap.lt_size hb;rw[sortedHeap_old (ne_of_lt hlt) (by rw[Heap.size_push];exact lt_succ_of_lt hlt)];exact Heap.get?_push_of_some _ hb
end
theorem vP:∀{ss:List Str}{vs:List Value},StrsAre vs ss->Vals (ss.map V.str) vs
 | _,_,.nil=>.nil
 | _,_,.cons x t r=>.cons ⟨t,rfl⟩ (vP r)
section
variable{X:Cx}
theorem bC:wv X (.builtin "sorted") (fun xs H Q=>∃(a:Addr)(ss:List Str),xs=[.ref a]/\SqL X.K H a (ss.map V.str)/\ss.length<64/\ ∀(ss':List Str)(p:Addr),ss'.Perm ss->sortedS ss'=true->H p=none->Q (.ref p) (upd H p (.lst (ss'.map V.str)))):=by
 intro pins s σ H xs us Q I r h;obtain⟨a,ss,rfl,hq,hl,q⟩:=h;obtain⟨u,rfl,rx⟩:=ua r;cases rx;obtain⟨its,r',pl,hz⟩:=I.list hq;obtain⟨o,ho,hc,n,hd⟩:=pl.isList;have hlen:=r'.length;rw[length_map]at hlen;refine pC hl (fun R hR=>wpAny_collect_seq a (.inl rfl) ho hc hd (fun h1 hk1=>hR h1 s.toks its hk1 (vO r')) (by rw[size_toArray,sizeLine_eq];omega)) fun out n h1 h' tk ss' k1 k2 e a1 a2 a3=>?_;have hz':(ss'.map V.str).length<=sizeLine:=by rw[length_map,a2.length_eq];exact yW hl
 have I2:Inv X pins σ H {s with heap:=h1,toks:=tk}:=I.kept (t':=tk) k1;exact⟨.ref _,_,I2.laid (t':=tk) k2 (le_refl _) (show zS X.prog X.w _ _ _ (.lst (ss'.map V.str))from⟨hz',out,n,vP a1,by simpa [seqObj]using e⟩),rfl,q ss' _ a2 a3 (I2.hok.fresh (le_refl _))⟩
theorem bA(hcm:X.calm=true):wv X (.builtin "sorted") (fun xs H Q=>∃(a:Addr)(kvs:List (Key×V))(ss:List Str),xs=[.ref a]/\H a=some (.dK kvs)/\kvs.map (·.1)=ss.map Sum.inr/\ss.length<64/\ ∀(ss':List Str)(p:Addr),ss'.Perm ss->sortedS ss'=true->H p=none->Q (.ref p) (upd H p (.lst (ss'.map V.str)))):=by
 intro pins s σ H xs us Q I r h;obtain⟨a,kvs,ss,rfl,hq,hks,hl,q⟩:=h;obtain⟨u,rfl,rx⟩:=ua r;cases rx;have hh:X.A.in1.handled=none:=I.ok.hd hcm;obtain⟨hz,lo,ws,rel,o,es,ep,ho,hex,hd,hko,hpr,hnd⟩:=iO I.hok hq;have hkeys:ws.map (·.1)=ss.map Sum.inr:=by rw[lr rel,hks]
 have hlen:ws.length=ss.length:=by
  have:=congrArg length hkeys;simpa using this
 refine pC hl (fun R hR=>W.kdu_collect (A:=X.A.in1) (W.kdl_dict (knd:=yg X.prog X.w) (kvs:=ws) (ep:=ep) lo) hh ⟨o,es,ho,hex,hd,hko,hpr,hnd⟩ (by rw[hlen];exact yW hl) fun h' tk acc hk hacc=>hR h' tk acc.toList hk ?_) fun out n h1 h' tk ss' k1 k2 e a1 a2 a3=>?_
 ·have hla:acc.toList.length=ss.length:=by rw[Array.length_toList,hacc.1,hlen]
  refine vO (uQ (by rw[length_map,hla]) fun j x y e1 e2=>?_);rw[getElem?_map]at e1;obtain⟨z,hz,rfl⟩:=map_eq_some_iff.mp e1;obtain⟨kk,xx,hkk,his⟩:=hacc.2 j y (by rw[<-Array.getElem?_toList];exact e2);have e3:(ws.map (·.1))[j]? =some kk:=by rw[getElem?_map,hkk];rfl
  rw[hkeys,getElem?_map,hz]at e3;have e4:Sum.inr z=kk:=Option.some.inj e3;subst e4;rcases zO (show dw (Sum.inr z) y=true from his)with⟨i,t,e5,e6⟩|⟨i,t,e5,e6⟩
  ·cases e5
  ·cases e5;exact⟨t,e6⟩
 ·have hz':(ss'.map V.str).length<=sizeLine:=by rw[length_map,a2.length_eq];exact yW hl
  have I2:Inv X pins σ H {s with heap:=h1,toks:=tk}:=I.kept (t':=tk) k1;exact⟨.ref _,_,I2.laid (t':=tk) k2 (le_refl _) (show zS X.prog X.w _ _ _ (.lst (ss'.map V.str))from⟨hz',out,n,vP a1,by simpa [seqObj]using e⟩),rfl,q ss' _ a2 a3 (I2.hok.fresh (le_refl _))⟩
theorem ub:wv X (.type "dict") (fun xs H Q=>∃(a:Addr)(kvs:List (Key×V)),xs=[.ref a]/\H a=some (.dK kvs)/\ ∀p,H p=none->Q (.ref p) (upd H p (.dK kvs))):=by
 intro pins s σ H xs us Q I r h;obtain⟨a,kvs,rfl,hq,q⟩:=h;obtain⟨u,rfl,rx⟩:=ua r;cases rx;obtain⟨hz,lo,ws,rel,dd⟩:=iO I.hok hq;refine kt_call_dict lo dd (by rw[<-rel.length];exact hz) fun h' dd' hs=>?_;have hb:sysModules<s.heap.objs.size:=I.big;refine⟨.ref s.heap.objs.size,_,I.laid (t':=s.toks) (a:=s.heap.objs.size) (o:=.dK kvs) (fun b o e=>?_) (le_refl _) (show zS X.prog X.w _ _ _ (.dK kvs)from⟨hz,beq_eq_false_iff_ne.mpr (Ne.symm (ne_of_lt hb)),ws,rel,dd'⟩),rfl,q _ (I.hok.fresh (le_refl _))⟩;exact(hs.2 b (ne_of_lt (Heap.lt_size e))).trans (Heap.get?_push_of_some _ e)
end
def rV(P:Program)(w:World)(K:W.Frag)(a:Addr)(ws:List (Key×Value)):Prop:=(a==sysModules)=false/\ ∀h:Heap,K.In h->h.DictOf (yg P w) a ws
section
variable{X:Cx}
theorem n8:OpR X (compareOp .In) (fun x y H Q=>∃(a:Addr)(ws:List (Key×Value))(z:Str),x= .str z/\y= .ref a/\rV X.prog X.w X.K a ws/\Q (.bl (valueAt ws (.inr z)).isSome) H):=by
 intro pins s σ H x y v u Q I rx ry h;obtain⟨a,ws,z,rfl,rfl,⟨hd,hk⟩,q⟩:=h;obtain⟨t,rfl⟩:=rx;cases ry;exact wpAny_in_of (k:=.inr z) (dq (k:=.inr z) ⟨t,rfl⟩) hd (hk _ I.kIn).mapOf ⟨.bl _,H,I.tok _,rfl,q⟩
theorem hW:OpR X (compareOp .NotIn) (fun x y H Q=>∃(a:Addr)(ws:List (Key×Value))(z:Str),x= .str z/\y= .ref a/\rV X.prog X.w X.K a ws/\Q (.bl (!(valueAt ws (.inr z)).isSome)) H):=by
 intro pins s σ H x y v u Q I rx ry h;obtain⟨a,ws,z,rfl,rfl,⟨hd,hk⟩,q⟩:=h;obtain⟨t,rfl⟩:=rx;cases ry;exact wpAny_notIn_of (k:=.inr z) (dq (k:=.inr z) ⟨t,rfl⟩) hd (hk _ I.kIn).mapOf ⟨.bl _,H,I.tok _,rfl,q⟩
def Ku(P:Program)(w:World)(K:W.Frag)(td ty:TE):TE:=fun σ H Q=>td σ H fun x H1=>ty σ H1 fun y H2=>∃(a b:Addr)(ws:List (Key×Value))(z:Str),x= .ref a/\y= .str z/\rV P w K a ws/\valueAt ws (.inr z)=some (.ref b)/\Q (.ref b) H2
theorem pY{o i:Expr}{td ty:TE}{pos:Pos}(ho:PE X o td)(hi:PE X i ty)(hs:NoSl i):PE X (.Subscript o i pos) (Ku X.prog X.w X.K td ty):=by
 intro pins s σ H Q I h;refine nY PySem.F.slot_dict_getitem.lookup hs (thn (ho pins s σ H _ I h) fun u s1 ⟨x,H1,I1,rx,q1⟩=>thn (hi pins s1 σ H1 _ I1 q1) fun iv s2 ⟨y,H2,I2,ry,a,b,ws,z,ex,ey,⟨hd,hk⟩,hv,q2⟩=>?_);subst ex ey;obtain rfl:u=Value.ref a:=rx;obtain⟨t,rfl⟩:=ry;have dd:=hk _ I2.kIn;exact⟨dd.typeIs,wpAny_getItem_of (k:=.inr z) (dq (k:=.inr z) ⟨t,rfl⟩) dd.mapOf hv ⟨.ref b,H2,I2.tok _,rfl,q2⟩⟩
end
section
variable{X:Cx}{E:XK}
structure CallsOk(X:Cx)(f:Addr)(sp:Sp)(E:XK):Prop where
 kp:W.keepIn X.K (.ref f)=true
 run:∀(pins:List (Addr×Obj))(σ:L2.St)(H:Hp)(s:Shared)(Q:VK)(us:List Value)(vs:List V),Inv X pins σ H s->Vals vs us->sp vs H Q E->wpAny (model X.prog X.w) X.A (call (.ref f) us) (EP X pins σ Q) X.xe s
theorem CallsOk.of{CX:CXT}{k:Nat}{f:Addr}{fd:FuncData}{ps:List Str}{sp:Sp}{cm:Bool}(F:FnOk X.prog X.w X.K X.mg X.base CX k f fd ps sp cm)(hr:Room k X.A cm)(hk:W.keepIn X.K (.ref f)=true)(hb:ux X.K fd ps [])(hx:jE CX X E):CallsOk X f sp E :=
 ⟨hk,fun pins σ H s Q us vs I r h=>eV F hr hb .nil hx I r (by rw[append_nil];exact h)⟩
def Kr(G:Addr->Sp->Prop)(E:XK)(t0:TE)(t:TA):TE:=fun σ H Q=>t0 σ H fun x H1=>∃ f sp,x= .ref f/\G f sp/\t σ H1 fun vs H2=>sp vs H2 Q E
theorem eN{G:Addr->Sp->Prop}{e0 e:Expr}{es:List Expr}{t0:TE}{t:TA}{pos:Pos}(ok:∀f sp,G f sp->CallsOk X f sp E)(h0:PE X e0 t0)(ha:PA X (e::es) t)(hc:∀{Q:Value->Shared->Prop} {s:Shared},wpAny (model X.prog X.w) X.A (eval e0 X.env) (fun f s1=>wpAny (model X.prog X.w) X.A (callWith pos f [] (backTo pos (starEach (e::es) X.env)) []) Q X.xe s1) X.xe s->wpAny (model X.prog X.w) X.A (eval (.Call e0 (e::es) [] pos) X.env) Q X.xe s)(he:starEach (e::es) X.env=(false,eval e X.env)::starEach es X.env:=by rfl)(hpl:(backTo pos (starEach es X.env)).any (·.1)=false:=by rfl):PE X (.Call e0 (e::es) [] pos) (Kr G E t0 t):=by
 intro pins s σ H Q I h;refine hc (thn (h0 pins s σ H _ I h) fun u s1 ⟨x,H1,I1,rx,f,sp,ex,g,q⟩=>?_);subst ex;obtain rfl:u=Value.ref f:=rx;have C:=ok f sp g;refine W.callWith_K (h₀:=X.base) I1.ok.mod.kin C.kp (thn (ha pos pins s1 σ H1 _ I1 q) fun us s2 ⟨vs,H2,I2,r,q2⟩=>⟨I2.kIn,?_⟩) he hpl;exact C.run pins σ H2 s2 Q us vs I2 r q2
end
section
variable{X:Cx}
def rSlX:V->Option Int->Option Int->Hp->VK->Prop:=fun x lo hi H Q=>∃ z,x= .str z/\z.length<=sizeLine/\Q (.str (Txt.slice z lo hi)) H
theorem mB:SlR X rSlX:=by
 intro pins s σ H x v vl vu lo hi sl Q I rx hs pl pu h;obtain⟨z,rfl,hz,q⟩:=h;obtain⟨t,rfl⟩:=rx;refine⟨"str",_,F.slot_str_getitem.lookup,typeIs_str _ _ _,?_⟩;cases pl with
 |none =>
  cases pu with
  |none=>exact wpAny_getItem_str_slice (l:=none) (u:=none) (st:=none) hs rfl (post_val_or_str ⟨le_trans (Txt.slice_le z none none) hz,fun t' k=>⟨.str (Txt.slice z none none),H,I.tok k,⟨t',rfl⟩,q⟩⟩)
  |int j tj=>exact wpAny_getItem_str_slice (l:=none) (u:=some (j,tj)) (st:=none) hs rfl (post_val_or_str ⟨le_trans (Txt.slice_le z none (some j)) hz,fun t' k=>⟨.str (Txt.slice z none (some j)),H,I.tok k,⟨t',rfl⟩,q⟩⟩)
 |int i ti =>
  cases pu with
  |none=>exact wpAny_getItem_str_slice (l:=some (i,ti)) (u:=none) (st:=none) hs rfl (post_val_or_str ⟨le_trans (Txt.slice_le z (some i) none) hz,fun t' k=>⟨.str (Txt.slice z (some i) none),H,I.tok k,⟨t',rfl⟩,q⟩⟩)
  |int j tj=>exact wpAny_getItem_str_slice (l:=some (i,ti)) (u:=some (j,tj)) (st:=none) hs rfl (post_val_or_str ⟨le_trans (Txt.slice_le z (some i) (some j)) hz,fun t' k=>⟨.str (Txt.slice z (some i) (some j)),H,I.tok k,⟨t',rfl⟩,q⟩⟩)
theorem Y4{body:List Stmt}{h₀:ExceptHandler}{hs:List ExceptHandler}{t:TS}{pos:Pos}(hb:PSs X.nox body t):PS X (.Try body (h₀::hs) [] [] pos) t:=by
 intro pins s σ H D I h;refine wpAny_Try_except (wpAny_mono (hb pins s σ H D (I.wish _) h) (fun f s1 hf=>?_) fun _ _ z=>False.elim z);cases f with
 |next=>exact wpAny_execs_nil (SP.unwish hf)
 |brk=>exact SP.unwish hf
 |cont=>exact SP.unwish hf
 |ret u=>exact SP.unwish hf
end
abbrev Std:=List (Str×List (List Int))
def y9(S:Std)(n:Str):Option (List (List Int)):=(S.find? fun p=>decide (p.1=n)).map (·.2)
def putS(S:Std)(n:Str)(r:List (List Int)):Std:=if S.any (fun p=>decide (p.1=n))then S.map (fun p=>if p.1=n then(p.1,r)else p)else S++[(n,r)]
def bO(S:Std)(n:Str):Std:=S.filter fun p=>decide (p.1≠n)
def vh(r:List (List Int))(v:V)(H:Hp):Prop:=∃ p xs,v= .ref p/\H p=some (.tup xs)/\All2 Tup1 H r xs
theorem vh.mv{H H':Hp}{r:List (List Int)}{v:V}(t:Tups H H'):vh r v H->vh r v H'
 |⟨p,xs,e,h1,h2⟩=>⟨p,xs,e,t _ _ h1,h2.mv t⟩
inductive StdV(H:Hp):Std->List (Key×V)->Prop
 |nil:StdV H [] []
 |cons {n:Str} {r:List (List Int)} {v:V} {S:Std} {kvs:List (Key×V)}:vh r v H->StdV H S kvs->StdV H ((n,r)::S) ((Sum.inr n,v)::kvs)
theorem StdV.mv{H H':Hp}(t:Tups H H'):∀{S:Std}{kvs:List (Key×V)},StdV H S kvs->StdV H' S kvs
 | _,_,.nil=>.nil
 | _,_,.cons r q=>.cons (r.mv t) (StdV.mv t q)
theorem StdV.length{H:Hp}:∀{S:Std}{kvs:List (Key×V)},StdV H S kvs->kvs.length=S.length
 | _,_,.nil=>rfl
 | _,_,.cons _ q=>by rw[length_cons,length_cons,q.length]
theorem StdV.keys{H:Hp}:∀{S:Std}{kvs:List (Key×V)},StdV H S kvs->kvs.map (·.1)=(S.map (·.1)).map Sum.inr
 | _,_,.nil=>rfl
 | _,_,.cons _ q=>by rw[map_cons,map_cons,map_cons,q.keys]
theorem qI{p:Str×List (List Int)}{S:Std}{n:Str}(e:p.1=n):y9 (p::S) n=some p.2:=by simp[y9,find?_cons,e]
theorem dF{p:Str×List (List Int)}{S:Std}{n:Str}(e:¬p.1=n):y9 (p::S) n=y9 S n:=by simp[y9,find?_cons,e]
theorem StdV.val{H:Hp}(n:Str):∀{S:Std}{kvs:List (Key×V)},StdV H S kvs->(y9 S n=none/\valV kvs (Sum.inr n)=none)\/ ∃r v,y9 S n=some r/\valV kvs (Sum.inr n)=some v/\vh r v H
 | _,_,.nil=>.inl ⟨rfl,rfl⟩
 | _,_,.cons (n:=m) (r:=r) (v:=v) (S:=S) (kvs:=kvs) hr q=>by
  by_cases e:m=n
  ·subst e;exact .inr ⟨r,v,qI rfl,qg rfl,hr⟩
  ·have e':¬(Sum.inr m:Key)=Sum.inr n:=fun z=>e (Sum.inr.inj z);rw[dF (p:=(m,r)) e,qf (p:=((Sum.inr m:Key),v)) e'];exact q.val n
theorem StdV.any{H:Hp}(n:Str):∀{S:Std}{kvs:List (Key×V)},StdV H S kvs->(kvs.any fun kv=>decide (kv.1=Sum.inr n))=S.any fun p=>decide (p.1=n)
 | _,_,.nil=>rfl
 | _,_,.cons (n:=m) _ q=>by
  rw[any_cons,any_cons,q.any n];have:decide ((Sum.inr m:Key)=Sum.inr n)=decide (m=n):=Zo m n;rw[this]
theorem StdV.repl{H:Hp}{n:Str}{r:List (List Int)}{v:V}(hr:vh r v H):∀{S:Std}{kvs:List (Key×V)},StdV H S kvs->StdV H (S.map fun p=>if p.1=n then(p.1,r)else p) (kvs.map fun kv=>if kv.1=Sum.inr n then(kv.1,v)else kv)
 | _,_,.nil=>.nil
 | _,_,.cons (n:=m) (r:=r') (v:=v') h0 q=>by
  rw[map_cons,map_cons];by_cases e:m=n
  ·subst e;rw[if_pos rfl,if_pos rfl];exact .cons hr (StdV.repl hr q)
  ·have e':¬(Sum.inr m:Key)=Sum.inr n:=fun z=>e (Sum.inr.inj z);rw[if_neg e,if_neg e'];exact .cons h0 (StdV.repl hr q)
theorem StdV.snoc{H:Hp}{n:Str}{r:List (List Int)}{v:V}(hr:vh r v H):∀{S:Std}{kvs:List (Key×V)},StdV H S kvs->StdV H (S++[(n,r)]) (kvs++[(Sum.inr n,v)])
 | _,_,.nil=>.cons hr .nil
 | _,_,.cons h0 q=>.cons h0 (StdV.snoc hr q)
theorem StdV.put{H:Hp}{n:Str}{r:List (List Int)}{v:V}(hr:vh r v H){S:Std}{kvs:List (Key×V)}(q:StdV H S kvs):StdV H (putS S n r) (putK kvs (Sum.inr n) v):=by
 unfold putS putK;rw[q.any n];split
 ·exact q.repl hr
 ·exact q.snoc hr
theorem StdV.drop{H:Hp}(n:Str):∀{S:Std}{kvs:List (Key×V)},StdV H S kvs->StdV H (bO S n) (d9 kvs (Sum.inr n))
 | _,_,.nil=>.nil
 | _,_,.cons (n:=m) (S:=S) (kvs:=kvs) h0 q=>by
  unfold bO d9;rw[filter_cons,filter_cons];by_cases e:m=n
  ·subst e;have a:¬decide ((Sum.inr m:Key)≠Sum.inr m)=true:=by simp
   have b:¬decide (m≠m)=true:=by simp
   rw[if_neg b,if_neg a];exact StdV.drop m q
  ·have e':¬(Sum.inr m:Key)=Sum.inr n:=fun z=>e (Sum.inr.inj z);have a:decide ((Sum.inr m:Key)≠Sum.inr n)=true:=by simp[e']
   have b:decide (m≠n)=true:=by simp[e]
   rw[if_pos b,if_pos a];exact .cons h0 (StdV.drop n q)
theorem ZQ{x y:Str}(h:ltCps x.cps.toList y.cps.toList=false)(h':ltCps y.cps.toList x.cps.toList=false):x=y:=by
 rw[PyProof.Rows.ltCps_eq]at h h';have a:=of_decide_eq_false h;have b:=of_decide_eq_false h';exact yG (List.le_antisymm (List.not_lt.mp b) (List.not_lt.mp a))
theorem lA{x y z:Str}(h:ltCps y.cps.toList x.cps.toList=false)(h':ltCps z.cps.toList y.cps.toList=false):ltCps z.cps.toList x.cps.toList=false:=by
 rw[PyProof.Rows.ltCps_eq]at h h' ⊢;have a:=List.not_lt.mp (of_decide_eq_false h);have b:=List.not_lt.mp (of_decide_eq_false h');exact decide_eq_false (List.not_lt.mpr (List.le_trans a b))
theorem cK:∀(l:List Str)(p:Str),risingS p l=true->(p::l).Pairwise fun a b=>ltCps b.cps.toList a.cps.toList=false
 | [],p,_=>List.pairwise_singleton _ _
 |x::r,p,h=>by
  simp only[risingS,and_eq_true,Bool.not_eq_true']at h;have ih:=cK r x h.2;refine pairwise_cons.mpr ⟨fun b hb=>?_,ih⟩;rcases mem_cons.mp hb with rfl|hb
  ·exact h.1
  ·exact lA h.1 ((pairwise_cons.mp ih).1 b hb)
theorem rN{l:List Str}(h:sortedS l=true):l.Pairwise fun a b=>ltCps b.cps.toList a.cps.toList=false:=by
 cases l with
 |nil=>exact List.Pairwise.nil
 |cons x r=>exact cK r x h
theorem im{a b:List Str}(ha:sortedS a=true)(hb:sortedS b=true)(p:a.Perm b):a=b :=
 List.Perm.eq_of_pairwise (fun x y _ _ h1 h2=>ZQ h2 h1) (rN ha) (rN hb) p
def lT:Str:=Str.ofString "no names"
def yf(ns:List Str)(z:Str):Prop:=(ns=[]/\z=lT)\/(ns≠[]/\ ∃ss:List Str,ss.Perm ns/\sortedS ss=true/\z=Txt.join (Str.ofString " ") ss)
theorem yf.eq{ns ms:List Str}{x y:Str}(p:ns.Perm ms)(h:yf ns x)(h':yf ms y):x=y:=by
 rcases h with⟨e,rfl⟩|⟨e,ss,p1,s1,rfl⟩
 ·rcases h' with⟨_,rfl⟩|⟨e2,_⟩
  ·rfl
  ·subst e;exact absurd p.nil_eq.symm e2
 ·rcases h' with⟨e2,_⟩|⟨_,ss',p2,s2,rfl⟩
  ·subst e2;exact absurd p.eq_nil e
  ·rw[im s1 s2 (p1.trans (p.trans p2.symm))]
def StdR(O:List Addr)(S:Std)(v:V)(H:Hp):Prop:=∃ d kvs,v= .ref d/\d∈O/\H d=some (.dK kvs)/\StdV H S kvs
theorem StdR.mv{O O':List Addr}{H H':Hp}{S:Std}{v:V}(t:Tups H H')(k:∀b kvs,b∈O->H b=some (.dK kvs)->H' b=some (.dK kvs))(o:∀b∈O,b∈O'):StdR O S v H->StdR O' S v H'
 |⟨d,kvs,e,m,h1,h2⟩=>⟨d,kvs,e,o d m,k _ _ m h1,h2.mv t⟩
theorem All2.to{α:Type}{R R':α->V->Hp->Prop}{H H':Hp}(f:∀a v,R a v H->R' a v H'):∀{l:List α}{xs:List V},All2 R H l xs->All2 R' H' l xs
 | _,_,.nil=>.nil
 | _,_,.cons h t=>.cons (f _ _ h) (t.to f)
def dkF(d pl ul:Addr):List (Str×V):=[("standing",.ref d),("past",.ref pl),("undone",.ref ul)]
structure DeskAt(C:Addr)(H:Hp)(x:Addr)(O:List Addr)(S:Std)(past undone:List Std):Prop where
 mem:x∈O
 all:∀b∈O,∃o,H b=some o
 at_:∃dx d pl ul xs ys,H x=some (.ins C dx (dkF d pl ul))/\StdR O S (.ref d) H/\H pl=some (.lst xs)/\All2 (StdR O) H past xs/\H ul=some (.lst ys)/\All2 (StdR O) H undone ys/\pl∈O/\ul∈O/\pl≠ul
theorem DeskAt.mv{C:Addr}{H H':Hp}{x:Addr}{O:List Addr}{S:Std}{past undone:List Std}(D:DeskAt C H x O S past undone)(t:Tups H H')(k:∀b o,b∈O->H b=some o->H' b=some o):DeskAt C H' x O S past undone:=by
 obtain⟨m,al,dx,d,pl,ul,xs,ys,h1,h2,h3,h4,h5,h6,m1,m2,ne⟩:=D;have kk:∀b kvs,b∈O->H b=some (.dK kvs)->H' b=some (.dK kvs):=fun b kvs hb e=>k b _ hb e;exact⟨m,fun b hb=>let⟨o,e⟩:=al b hb;⟨o,k b o hb e⟩,dx,d,pl,ul,xs,ys,k _ _ m h1,h2.mv t kk fun _ z=>z,k _ _ m1 h3,h4.imp fun _ _ z=>z.mv t kk fun _ z=>z,k _ _ m2 h5,h6.imp fun _ _ z=>z.mv t kk fun _ z=>z,m1,m2,ne⟩
theorem jy{H:Hp}{a b:Addr}{o u:HO}(h:H b=some u):∃o',upd H a o b=some o':=by
 by_cases e:b=a
 ·subst e;exact⟨o,z6⟩
 ·exact⟨u,by rw[zh e];exact h⟩
theorem DeskAt.nin{C:Addr}{H:Hp}{x:Addr}{O:List Addr}{S:Std}{past undone:List Std}(D:DeskAt C H x O S past undone){p:Addr}(h:H p=none):p∉O:=fun m=>by
 obtain⟨o,e⟩:=D.all p m;rw[h]at e;cases e
theorem DeskAt.same{C:Addr}{H H':Hp}{x:Addr}{O:List Addr}{S:Std}{past undone:List Std}(D:DeskAt C H x O S past undone)(s:Same H H'):DeskAt C H' x O S past undone:=D.mv s.tups fun b o _ e=>s b o e
structure After(C:Addr)(H H':Hp)(x:Addr)(O O':List Addr)(S:Std)(past undone:List Std):Prop where
 desk:DeskAt C H' x O' S past undone
 keep:Keep O H H'
 tups:Tups H H'
 own:∀b∈O',b∈O\/H b=none
theorem After.pre{C:Addr}{H H1 H':Hp}{x:Addr}{O O':List Addr}{S:Std}{past undone:List Std}(s:Same H H1)(a:After C H1 H' x O O' S past undone):After C H H' x O O' S past undone :=
 ⟨a.desk,fun b o e n=>a.keep b o (s _ _ e) n,s.tups.trans a.tups,fun b hb=>(a.own b hb).imp id fun h=>s.free h⟩
theorem After.post{C:Addr}{H H1 H':Hp}{x:Addr}{O O':List Addr}{S:Std}{past undone:List Std}(a:After C H H1 x O O' S past undone)(s:Same H1 H'):After C H H' x O O' S past undone :=
 ⟨a.desk.same s,fun b o e n=>s _ _ (a.keep b o e n),a.tups.trans s.tups,a.own⟩
theorem After.refl{C:Addr}{H H':Hp}{x:Addr}{O:List Addr}{S:Std}{past undone:List Std}(D:DeskAt C H x O S past undone)(s:Same H H'):After C H H' x O O S past undone:=⟨D.same s,s.keep,s.tups,fun b hb=>.inl hb⟩
theorem cy{P:Program}{w:World}:∀rows:List (Str×Tok×Value),Pairs (yg P w) (rows.map fun r=>(⟨PyData.keyHash w.params r.1,.str r.1 r.2.1,r.2.2⟩:DictEntry)) (rows.map fun r=>((Sum.inr r.1:Key),r.2.2))
 | []=>.nil
 |r::rs=>.cons (qA r.1 r.2.1) rfl (cy rs)
theorem rV.lit{P:Program}{w:World}{K:W.Frag}{a:Addr}{n:Nat}(rows:List (Str×Tok×Value))(hs:(a==sysModules)=false)(hl:K.lookup a=some {cls:=.type "dict",data:=.dict (rows.map fun r=>(⟨PyData.keyHash w.params r.1,.str r.1 r.2.1,r.2.2⟩:DictEntry)).toArray n})(nd:(rows.map (·.1)).Nodup):rV P w K a (rows.map fun r=>((Sum.inr r.1:Key),r.2.2)):=by
 refine⟨hs,fun h hk=>⟨_,_,n,hk a _ hl,⟨rfl,rfl,rfl⟩,rfl,fun e he=>?_,cy rows,?_⟩⟩
 ·obtain⟨r,_,rfl⟩:=mem_map.mp (List.mem_toArray.mp he);exact⟨.inr r.1,qA r.1 r.2.1,rfl⟩
 ·rw[map_map];have:(rows.map fun r=>(Sum.inr r.1:Key))=(rows.map (·.1)).map Sum.inr:=by rw[map_map];rfl
  show(rows.map fun r=>(Sum.inr r.1:Key)).Nodup;rw[this];exact List.Pairwise.map _ (fun x y z e=>z (Sum.inr.inj e)) nd
def KTup(K:W.Frag)(a:Addr)(xs:List V):Prop:=∃(o:Obj)(its:Array Value)(n:Nat),K.lookup a=some o/\o.cls= .type "tuple"/\o.data= .seq its n/\its.size<=sizeLine/\Vals xs its.toList
theorem KTup.sq{K:W.Frag}{H:Hp}{a:Addr}{xs:List V}(h:KTup K a xs):SqT K H a xs:=.inr h
theorem fk:∀rows:List (Str×Tok),Vals (rows.map fun r=>V.str r.1) (rows.map fun r=>Value.str r.1 r.2)
 | []=>.nil
 |r::rs=>.cons ⟨r.2,rfl⟩ (fk rs)
theorem KTup.lit{K:W.Frag}{a:Addr}(rows:List (Str×Tok))(hl:K.lookup a=some {cls:=.type "tuple",data:=.seq (rows.map fun r=>Value.str r.1 r.2).toArray})(h:rows.length<=100):KTup K a (rows.map fun r=>V.str r.1) :=
 ⟨_,_,_,hl,rfl,rfl,by simp only[size_toArray,length_map];exact le_trans h (by decide),fk rows⟩
def KFns(P:Program)(w:World)(K:W.Frag)(a:Addr)(names:List Str)(fs:List (Str×Addr)):Prop:=∃ ws:List (Key×Value),rV P w K a ws/\ws.map (·.1)=names.map Sum.inr/\ ∀p∈fs,valueAt ws (.inr p.1)=some (.ref p.2)
def iu(P:Program)(w:World)(K:W.Frag)(a:Addr)(rows:List (Str×List Str)):Prop:=∃ ws:List (Key×Value),rV P w K a ws/\ws.map (·.1)=(rows.map (·.1)).map Sum.inr/\ ∀p∈rows,∃b,valueAt ws (.inr p.1)=some (.ref b)/\KTup K b (p.2.map V.str)
theorem pE{ws:List (Key×Value)}{names:List Str}(h:ws.map (·.1)=names.map Sum.inr){n:Str}:(valueAt ws (.inr n)).isSome=decide (n∈names):=by
 unfold valueAt;rw[Option.isSome_map];by_cases hn:n∈names
 ·rw[decide_eq_true hn];have:(Sum.inr n:Key)∈ws.map (·.1):=by rw[h];exact mem_map.mpr ⟨n,hn,rfl⟩
  obtain⟨p,hp,e⟩:=mem_map.mp this;rw[List.find?_isSome];exact⟨p,hp,by simpa using e⟩
 ·rw[decide_eq_false hn];cases hf:ws.find? fun kv=>decide (kv.1=Sum.inr n)with
  |none=>rfl
  |some p =>
   have e2:=List.find?_some hf;have e:p.1=Sum.inr n:=of_decide_eq_true e2;have:(Sum.inr n:Key)∈names.map Sum.inr:=by rw[<-h,<-e];exact mem_map.mpr ⟨p,List.mem_of_find?_eq_some hf,rfl⟩
   obtain⟨m,hm,e3⟩:=mem_map.mp this;exact absurd (Sum.inr.inj e3▸hm) hn
def AllP{α:Type}(P:α->Prop):List α->Prop
 | []=>True
 |a::l=>P a/\AllP P l
theorem AllP.mem{α:Type}{P:α->Prop}:∀{l:List α},AllP P l-> ∀a∈l,P a
 | _::l,h,b,hb=>by
  rcases mem_cons.mp hb with rfl|hb
  ·exact h.1
  ·exact AllP.mem h.2 b hb
theorem vQ:∀{rows:List (Str×Tok×Value)}(i:Nat){n:Str}{t:Tok}{v:Value},rows[i]? =some (n,t,v)->(rows.map (·.1)).Nodup->valueAt (rows.map fun r=>((Sum.inr r.1:Key),r.2.2)) (.inr n)=some v
 | [],i,n,t,v,h,_=>by simp at h
 |r::rs,0,n,t,v,h,_=>by
  have e:r=(n,t,v):=by simpa using h
  subst e;simp[valueAt]
 |r::rs,i+1,n,t,v,h,nd=>by
  have h':rs[i]? =some (n,t,v):=by simpa using h
  rw[map_cons,nodup_cons]at nd;have hne:r.1≠n:=fun e=>nd.1 (by rw[e];exact mem_map.mpr ⟨_,mem_of_getElem? h',rfl⟩);have ih:=vQ i h' nd.2;unfold valueAt at ih ⊢;rw[map_cons,find?_cons];have:decide ((Sum.inr r.1:Key)=Sum.inr n)=false:=decide_eq_false fun e=>hne (Sum.inr.inj e);simp only[this];exact ih
theorem KFns.lit{P:Program}{w:World}{K:W.Frag}{a:Addr}{n:Nat}(rows:List (Str×Tok×Value))(fs:List (Str×Addr))(hs:(a==sysModules)=false)(hl:K.lookup a=some {cls:=.type "dict",data:=.dict (rows.map fun r=>(⟨PyData.keyHash w.params r.1,.str r.1 r.2.1,r.2.2⟩:DictEntry)).toArray n})(nd:(rows.map (·.1)).Nodup)(names:List Str)(hn:names=rows.map (·.1))(h:AllP (fun p:Str×Addr=>∃(i:Nat) (t:Tok),rows[i]? =some (p.1,t,.ref p.2)) fs):KFns P w K a names fs :=
 ⟨_,rV.lit rows hs hl nd,by rw[hn,map_map,map_map];rfl,fun p hp=>let⟨i,t,e⟩:=h.mem p hp;vQ i e nd⟩
theorem iu.lit{P:Program}{w:World}{K:W.Frag}{a:Addr}{n:Nat}(rows:List (Str×Tok×Value))(fs:List (Str×List Str))(hs:(a==sysModules)=false)(hl:K.lookup a=some {cls:=.type "dict",data:=.dict (rows.map fun r=>(⟨PyData.keyHash w.params r.1,.str r.1 r.2.1,r.2.2⟩:DictEntry)).toArray n})(nd:(rows.map (·.1)).Nodup)(hn:fs.map (·.1)=rows.map (·.1))(h:AllP (fun p:Str×List Str=>∃(i:Nat) (t:Tok) (b:Addr),rows[i]? =some (p.1,t,.ref b)/\KTup K b (p.2.map V.str)) fs):iu P w K a fs :=
 ⟨_,rV.lit rows hs hl nd,by rw[hn,map_map,map_map];rfl,fun p hp=>let⟨i,t,b,e,k⟩:=h.mem p hp;⟨b,vQ i e nd,k⟩⟩
section
variable{X:Cx}
theorem ZN:PIp X .Add (fun x y H Q=>∃ i j,x= .str i/\y= .str j/\i.length+j.length<=sizeLine/\Q (.str (i++j)) H):=bP
theorem fv:wv X (.builtin "len") (fun xs H Q=>∃ a kvs,xs=[V.ref a]/\H a=some (.dK kvs)/\Q (.int kvs.length) H):=by
 intro pins s σ H xs us Q I r h;obtain⟨a,kvs,rfl,ha,q⟩:=h;obtain⟨u,rfl,ru⟩:=ua r;cases ru;exact KU I (.inl ha) fun t s' I'=>⟨.int kvs.length,H,I',⟨t,rfl⟩,q⟩
theorem cz{X:Cx}{E:XK}:jE CX0 X E:=fun _ _ _ _ _ _ _ h=>h.elim
end
def iV:List (Str×List Str):=[("rule",["FREE","RULE"]),("add",["NAME","HEAP"]),("take",["NAME","NUMBER"]),("copy",["NAME","FREE"]),("drop",["NAME"]),("undo",[]),("again",[]),("names",[]),("show",["NAME"]),("keeps",["NAME","HEAP"]),("count",["NAME","NUMBER"]),("list",["NAME","NUMBER"]),("match",["NAME","NAME"]),("send",["NAME","NAME","HEAP"]),("steps",["NAME","NAME","HEAP"])]
inductive DArg where
 |rule (r:List (List Int))|heap (h:List Int)|num (n:Int)|name (s:Str)
def ArgV:DArg->V->Hp->Prop
 | .rule r,v,H=>vh r v H
 | .heap h,v,H=>Tup1 h v H
 | .num n,v,_=>v= .int n
 | .name s,v,_=>v= .str s
theorem ArgV.mv{H H':Hp}(t:Tups H H'):∀{a:DArg}{v:V},ArgV a v H->ArgV a v H'
 | .rule _,_,h=>vh.mv t h
 | .heap _,_,h=>Tup1.mv t h
 | .num _,_,h=>h
 | .name _,_,h=>h
def zE(z:Str):Bool:=decide (1<=z.length/\z.length<=8)&&z.cps.toList.all fun c=>decide (97<=c/\c<=122)
def kD(z:Str):Option Int:=if z=Str.ofString "0" then some 0 else if z.length<=9/\kR z=true then some (numV z)else none
def jZ(kind z:Str):Option DArg:=if kind=Str.ofString "RULE" then(pK z).map .rule else if kind=Str.ofString "HEAP" then(kU z).map .heap else if kind=Str.ofString "NUMBER" then(kD z).map .num else if zE z=true then some (.name z)else none
def jM:List Str->List Str->Option (List DArg)
 |k::ks,p::ps=>(jZ k p).bind fun a=>(jM ks ps).map (a:: ·)
 | _,_=>some []
def zZ(w:Str):Option (List Str):=(iV.find? fun r=>decide (r.1=w)).map (·.2)
def uk(z:Str):Str:=(Txt.split z jF).headD (Str.ofString "")
def yS(z:Str)(form:List Str):List Str:=Txt.splitMax z jF (form.length:Int)
def jL(z:Str):Option (Str×List DArg):=(zZ (uk z)).bind fun form =>
 if(yS z form).headD (Str.ofString "")=uk z/\form.length<(yS z form).length then(jM form (yS z form).tail).map fun as=>(uk z,as)else none
theorem xt:∀(ps:List (List Nat))(w:List Nat),(∀x∈(w::ps).dropLast,32∉x)->zK ps.length (kA 32 (w::ps))=w::ps
 | [],w,_=>uv w
 |p::ps,w,h=>by
  have hw:32∉w:=h w (by simp[List.dropLast]);show zK (ps.length+1) (w++32::kA 32 (p::ps))=w::p::ps;rw[vM _ _ hw,xt ps p fun x hx=>h x (by
   cases ps with
   |nil=>simp at hx
   |cons q qs=>simp only[List.dropLast]at hx ⊢;exact mem_cons_of_mem _ hx)]
theorem qp:∀{a b:List Str},a.map (fun w=>w.cps.toList)=b.map (fun w=>w.cps.toList)->a=b
 | [],[],_=>rfl
 | [],_::_,h=>by simp at h
 | _::_,[],h=>by simp at h
 |x::a,y::b,h=>by
  rw[map_cons,map_cons]at h;injection h with h1 h2
  rw[yG h1,qp h2]
theorem mj{z w:Str}{form ps:List Str}(hf:zZ w=some form)(hz:z.cps.toList=kA 32 ((w::ps).map fun x=>x.cps.toList))(hl:ps.length=form.length)(hb:∀x∈(w::ps).dropLast,32∉x.cps.toList)(hw:32∉w.cps.toList) :
  jL z=(jM form ps).map fun as=>(w,as):=by
 have e1:yS z form=w::ps:=by
  refine qp ?_;unfold yS;rw[jD,hz,<-hl];have:=xt (ps.map fun x=>x.cps.toList) w.cps.toList (fun x hx=>by
   have:((w::ps).map fun x=>x.cps.toList).dropLast=(w::ps).dropLast.map fun x=>x.cps.toList:=by rw[List.map_dropLast]
   have hx':x∈((w::ps).dropLast.map fun x=>x.cps.toList):=by rw[<-this];exact hx
   obtain⟨y,hy,rfl⟩:=mem_map.mp hx';exact hb y hy)
  rw[length_map]at this;rw[map_cons];exact this
 have e2:uk z=w:=by
  unfold uk;rw[b7];have h:=jD z (z.length+1);have hh:zK (z.length+1) z.cps.toList=w.cps.toList::(zK (z.length+1) z.cps.toList).tail:=by
   rw[hz];cases ps with
   |nil=>rw[show kA 32 (([w]:List Str).map fun x=>x.cps.toList)=w.cps.toList from rfl,rO _ hw];rfl
   |cons p qs=>rw[show kA 32 ((w::p::qs).map fun x=>x.cps.toList)=w.cps.toList++32::kA 32 ((p::qs).map fun x=>x.cps.toList)from rfl,vM _ _ hw];rfl
  rw[hh]at h;cases hs:Txt.splitMax z jF ((z.length+1:Nat):Int)with
  |nil=>rw[hs]at h;simp at h
  |cons a r =>
   rw[hs,map_cons]at h;injection h with h1 _
   exact yG h1
 unfold jL;rw[e2,hf];show(if(yS z form).headD _=w/\_ then _ else none)=_;rw[e1,if_pos ⟨rfl,by rw[length_cons];omega⟩];rfl
theorem ky(z:Str):zE z=true↔(1<=z.length/\z.length<=8)/\ ∀c∈z.cps.toList,97<=c/\c<=122:=by
 unfold zE;simp only[and_eq_true,decide_eq_true_eq,all_eq_true]
theorem kN{z:Str}(h:zE z=true):32∉z.cps.toList:=fun m=>by have:=((ky z).mp h).2 32 m;omega
theorem yo{z:Str}(h:zE z=true):jZ (Str.ofString "NAME") z=some (.name z)/\jZ (Str.ofString "FREE") z=some (.name z):=by
 constructor <;>
 ·unfold jZ;rw[if_neg (by decide+kernel),if_neg (by decide+kernel),if_neg (by decide+kernel),if_pos h]
theorem ia(z:Str):jZ (Str.ofString "RULE") z=(pK z).map .rule:=by unfold jZ;rw[if_pos rfl]
theorem rz(z:Str):jZ (Str.ofString "HEAP") z=(kU z).map .heap:=by unfold jZ;rw[if_neg (by decide+kernel),if_pos rfl]
theorem gT(z:Str):jZ (Str.ofString "NUMBER") z=(kD z).map .num:=by unfold jZ;rw[if_neg (by decide+kernel),if_neg (by decide+kernel),if_pos rfl]
theorem ut{n:Int}(h0:0<=n)(h:n<10^9):kD (numS n)=some n:=by
 unfold kD;by_cases e:n=0
 ·subst e;rw[if_pos (by decide+kernel)]
 ·have h1:1<=n:=by omega
  rw[if_neg (fun z=>by
   obtain⟨c,r,e1,e2⟩:=aq h1;rw[z]at e1;rw[show(Str.ofString "0").cps.toList=[48]from by decide+kernel]at e1;injection e1 with e3 _
   exact e2 e3.symm),if_pos ⟨by rw[zV];exact yq h0 (by decide) h,vz h1 (Int.lt_trans h (by decide))⟩,dX h1 (Int.lt_trans h (by decide))]
theorem qo(x y:Str):(x++y).cps.toList=x.cps.toList++y.cps.toList:=by
 show(x.cps++y.cps).toList=_;rw[Array.toList_append]
theorem YH{w:Str}(hf:zZ w=some [])(hw:32∉w.cps.toList):jL w=some (w,[]):=by
 rw[mj (ps:=[]) hf rfl rfl (fun x hx=>by simp at hx) hw];rfl
theorem Ja{z w a:Str}{k:Str}{u:DArg}(hf:zZ w=some [k])(hw:32∉w.cps.toList)(hz:z.cps.toList=w.cps.toList++32::a.cps.toList)(h1:jZ k a=some u):jL z=some (w,[u]):=by
 rw[mj (ps:=[a]) hf hz rfl (fun x hx=>by rw[show x=w by simpa using hx];exact hw) hw];simp[jM,h1]
theorem dA{z w a b:Str}{k l:Str}{u v:DArg}(hf:zZ w=some [k,l])(hw:32∉w.cps.toList)(ha:32∉a.cps.toList)(hz:z.cps.toList=w.cps.toList++32::(a.cps.toList++32::b.cps.toList))(h1:jZ k a=some u)(h2:jZ l b=some v):jL z=some (w,[u,v]):=by
 rw[mj (ps:=[a,b]) hf hz rfl (fun x hx=>by
  have:x=w\/x=a:=by simpa using hx
  rcases this with rfl|rfl
  ·exact hw
  ·exact ha) hw]
 simp[jM,h1,h2]
def zB(S:Std):List Str->List DArg->Option Str
 |k::ks,.name n::as=>if k=Str.ofString "NAME"/\y9 S n=none then some n else zB S ks as
 | _::ks,_::as=>zB S ks as
 | _,_=>none
theorem iJ(x:Str)(k:Nat):(Txt.slice x none (some (k:Int))).cps.toList=x.cps.toList.take k:=by
 by_cases h:k<=x.cps.toList.length
 ·show(StrLaws.sliceText x none (some (k:Int))).cps.toList=_;rw[StrLaws.sliceText_to ⟨by omega,by omega⟩];simp
 ·have hx:x.length=x.cps.toList.length:=zV x;have:(Builtin.Str.strSliceIndices none (some (k:Int)) 1 x.length).length=x.length:=by
   unfold Builtin.Str.strSliceIndices sliceRange;simp only[show(1:Int)>0 by decide,if_true,length_map,List.length_range];rw[<-hx]at h
   (split <;>(try split) <;>(try split) <;>(try simp only[Int.ediv_one]) <;>omega)
  unfold Txt.slice;rw[if_pos (by simp[this]),take_of_length_le (by omega)]
theorem d7(x:Str)(k:Nat)(hk:0<k):(Txt.slice x (some (-(k:Int))) none).cps.toList=x.cps.toList.drop (x.length-k):=by
 have hx:x.length=x.cps.toList.length:=zV x;by_cases h:k<=x.length
 ·show(StrLaws.sliceText x (some (-(k:Int))) none).cps.toList=_;rw[StrLaws.sliceText_from_neg (by omega) (by omega)];simp;rw[show(-(k:Int)+(x.length:Int)).toNat=x.length-k by omega];rw[take_of_length_le (by rw[length_drop,<-hx];have:x.cps.size=x.length:=rfl;omega)]
 ·have:(Builtin.Str.strSliceIndices (some (-(k:Int))) none 1 x.length).length=x.length:=by
   unfold Builtin.Str.strSliceIndices sliceRange;simp only[show(1:Int)>0 by decide,if_true,length_map,List.length_range]
   (split <;>(try split) <;>(try split) <;>(try simp only[Int.ediv_one]) <;>omega)
  unfold Txt.slice;rw[if_pos (by simp[this]),show x.length-k=0 by omega,drop_zero]
def vt:Str:=Str.ofString "abcdefghijklmnopqrstuvwxyz"
theorem qF:vt.cps.toList=[97,98,99,100,101,102,103,104,105,106,107,108,109,110,111,112,113,114,115,116,117,118,119,120,121,122]:=by decide+kernel
theorem fF(c:Nat):(!(Builtin.Str.occurrences (Str.ofString "abcdefghijklmnopqrstuvwxyz") ⟨#[c]⟩ 0 (Str.ofString "abcdefghijklmnopqrstuvwxyz").length 1).isEmpty)=decide (97<=c/\c<=122):=by
 rw[StrLaws.found_one,show(Str.ofString "abcdefghijklmnopqrstuvwxyz").cps.toList=_ from qF];congr 1;rw[show([97,98,99,100,101,102,103,104,105,106,107,108,109,110,111,112,113,114,115,116,117,118,119,120,121,122]:List Nat)=(List.range 26).map (97+ ·)by decide+kernel];simp only[mem_map,mem_range,eq_iff_iff];exact⟨fun⟨k,hk,e⟩=>⟨by omega,by omega⟩,fun h=>⟨c-97,by omega,by omega⟩⟩
theorem gQ{z wd:Str}{as:List DArg}(h:jL z=some (wd,as)):∃form,uk z=wd/\zZ wd=some form/\ ∃rest,yS z form=wd::rest/\form.length<=rest.length/\jM form rest=some as:=by
 unfold jL at h;obtain⟨form,hf,h⟩:=Option.bind_eq_some_iff.mp h;by_cases c:(yS z form).headD (Str.ofString "")=uk z/\form.length<(yS z form).length
 ·rw[if_pos c]at h;obtain⟨as',ha,e⟩:=map_eq_some_iff.mp h;injection e with e1 e2
  subst e1 e2;refine⟨form,rfl,hf,?_⟩;cases hp:yS z form with
  |nil=>rw[hp]at c;simp at c
  |cons a r =>
   rw[hp]at c ha;have c1:a=uk z:=c.1;have c2:=c.2;rw[length_cons]at c2;exact⟨r,by rw[c1],by omega,ha⟩
 ·rw[if_neg c]at h;cases h
theorem vi{w:Str}{form:List Str}(h:zZ w=some form):(w,form)∈iV:=by
 unfold zZ at h;obtain⟨p,hp,rfl⟩:=map_eq_some_iff.mp h;have h1:=List.mem_of_find?_eq_some hp;have h2:=List.find?_some hp;have h3:p.1=w:=of_decide_eq_true h2;rw[<-h3];exact h1
theorem eo{w:Str}{form:List Str}(h:zZ w=some form):form.length<=3:=by
 have:=vi h;have k:∀p∈iV,p.2.length<=3:=by decide+kernel
 exact k _ this
theorem vH:∀{form rest:List Str}{as:List DArg},form.length<=rest.length->jM form rest=some as->as.length=form.length
 | [],rest,as,_,h=>by
  have:jM [] rest=some []:=by cases rest <;>rfl
  rw[this]at h;cases h;rfl
 |k::ks,[],as,hl,h=>by simp at hl
 |k::ks,p::ps,as,hl,h=>by
  simp only[jM]at h;obtain⟨a,ha,h⟩:=Option.bind_eq_some_iff.mp h;obtain⟨bs,hb,rfl⟩:=map_eq_some_iff.mp h;rw[length_cons,length_cons,vH (by simpa using hl) hb]
theorem gU:∀{form rest:List Str}{as:List DArg}(i:Nat){k p:Str},jM form rest=some as->form[i]? =some k->rest[i]? =some p-> ∃a,as[i]? =some a/\jZ k p=some a
 | [],_,_,i,_,_,_,h,_=>by simp at h
 | _::_,[],_,i,_,_,_,_,h=>by simp at h
 |k::ks,p::ps,as,0,k',p',h,e1,e2=>by
  simp only[jM]at h;obtain⟨a,ha,h⟩:=Option.bind_eq_some_iff.mp h;obtain⟨bs,hb,rfl⟩:=map_eq_some_iff.mp h;have e1':k=k':=by simpa using e1
  have e2':p=p':=by simpa using e2
  subst e1' e2';exact⟨a,rfl,ha⟩
 |k::ks,p::ps,as,i+1,k',p',h,e1,e2=>by
  simp only[jM]at h;obtain⟨a,ha,h⟩:=Option.bind_eq_some_iff.mp h;obtain⟨bs,hb,rfl⟩:=map_eq_some_iff.mp h;obtain⟨b,h1,h2⟩:=gU i hb (by simpa using e1) (by simpa using e2);exact⟨b,by simpa using h1,h2⟩
theorem nV(z:Str):(Txt.split z jF)[0]? =some (uk z):=by
 unfold uk;have:=fb z jF;cases h:Txt.split z jF with
 |nil=>exact absurd h this
 |cons a r=>rfl
theorem Ym{z w:Str}{form:List Str}(h:w∈yS z form):w.length<=z.length:=by
 unfold yS at h;have h1:=jD z form.length;have h2:w.cps.toList∈zK form.length z.cps.toList:=by rw[<-h1];exact mem_map.mpr ⟨w,h,rfl⟩
 rw[zV,zV];have gen:∀(k:Nat)(l w:List Nat),w∈zK k l->w.length<=l.length:=by
  intro k l
  induction l generalizing k with
  |nil=>intro w hw;cases k <;>simp[zK]at hw <;>simp[hw]
  |cons c l ih =>
   intro w hw;cases k with
   |zero=>simp[zK]at hw;rw[hw];simp
   |succ k =>
    simp only[zK]at hw;split at hw
    ·rcases mem_cons.mp hw with rfl|hw
     ·simp
     ·have:=ih k w hw;simp;omega
    ·have ih':=ih (k+1);cases hs:zK (k+1) l with
     |nil=>rw[hs]at hw;simp at hw
     |cons a r =>
      rw[hs]at hw ih';simp only at hw;rcases mem_cons.mp hw with rfl|hw
      ·have:=ih' a (by simp);simp;omega
      ·have:=ih' w (mem_cons_of_mem _ hw);simp;omega
 exact gen _ _ _ h2
def mL(r:List (List Int)):Prop:=r.length<=6/\ ∀h∈r,h.length<=10/\ ∀x∈h,1<=x/\x<10^60
def mO(S:Std):Prop:=∀ p∈S,p.1.length<=8
def PNew(S:Std)(as:List DArg)(n:Str)(r:List (List Int)):Prop:=as=[.name n,.rule r]
def PAdd(S:Std)(as:List DArg)(n:Str)(r:List (List Int)):Prop:=∃ h r0,as=[.name n,.heap h]/\y9 S n=some r0/\r0.length<6/\r=r0++[h]
def iw(S:Std)(as:List DArg)(n:Str)(r:List (List Int)):Prop:=∃(k:Nat)(r0:List (List Int)),as=[.name n,.num (k:Int)]/\y9 S n=some r0/\k<r0.length/\r0.length<=1000/\r=r0.eraseIdx k
def om(S:Std)(as:List DArg)(n:Str)(r:List (List Int)):Prop:=∃ a,as=[.name a,.name n]/\y9 S a=some r
def fm(S:Std)(as:List DArg):Prop:=∃ n h r0,as=[.name n,.heap h]/\y9 S n=some r0/\6<=r0.length
def vg(S:Std)(as:List DArg):Prop:=∃(n:Str)(k:Nat)(r0:List (List Int)),as=[.name n,.num (k:Int)]/\y9 S n=some r0/\r0.length<=k
def PNo(_:Std)(_:List DArg):Prop:=False
def fo(S:Std)(wd:Str)(as:List DArg)(n:Str)(r:List (List Int)):Prop:=(wd=Str.ofString "rule"/\PNew S as n r)\/(wd=Str.ofString "add"/\PAdd S as n r)\/(wd=Str.ofString "take"/\iw S as n r)\/(wd=Str.ofString "copy"/\om S as n r)
def mM(S:Std)(past und:List Std)(wd:Str)(as:List DArg)(S':Std)(past' und':List Std):Prop :=
 (wd=Str.ofString "drop"/\ ∃n r,as=[.name n]/\y9 S n=some r/\S'=bO S n/\past'=past++[S]/\und'=[])\/
 (wd=Str.ofString "undo"/\as=[]/\past=past'++[S']/\und'=und++[S])\/
 (wd=Str.ofString "again"/\as=[]/\und=und'++[S']/\past'=past++[S])
theorem qt:zZ (Str.ofString "rule")=some [Str.ofString "FREE",Str.ofString "RULE"]:=by decide+kernel
theorem tw:zZ (Str.ofString "add")=some [Str.ofString "NAME",Str.ofString "HEAP"]:=by decide+kernel
theorem qu:zZ (Str.ofString "take")=some [Str.ofString "NAME",Str.ofString "NUMBER"]:=by decide+kernel
theorem de:zZ (Str.ofString "copy")=some [Str.ofString "NAME",Str.ofString "FREE"]:=by decide+kernel
theorem df:zZ (Str.ofString "drop")=some [Str.ofString "NAME"]:=by decide+kernel
theorem qv:zZ (Str.ofString "undo")=some []:=by decide+kernel
theorem vj:zZ (Str.ofString "again")=some []:=by decide+kernel
theorem fD:zZ (Str.ofString "names")=some []:=by decide+kernel
theorem iU:zZ (Str.ofString "show")=some [Str.ofString "NAME"]:=by decide+kernel
theorem vk:zZ (Str.ofString "keeps")=some [Str.ofString "NAME",Str.ofString "HEAP"]:=by decide+kernel
theorem u4:zZ (Str.ofString "count")=some [Str.ofString "NAME",Str.ofString "NUMBER"]:=by decide+kernel
theorem qr:zZ (Str.ofString "list")=some [Str.ofString "NAME",Str.ofString "NUMBER"]:=by decide+kernel
theorem jB{S:Std}{n:Str}{r:List (List Int)}(k:Str)(ks:List Str)(as:List DArg)(h:y9 S n=some r):zB S (k::ks) (.name n::as)=zB S ks as:=by
 rw[zB,if_neg (fun z=>by rw[h]at z;cases z.2)]
theorem lR{S:Std}(n:Str)(k:Str)(ks:List Str)(as:List DArg)(hk:k≠Str.ofString "NAME"):zB S (k::ks) (.name n::as)=zB S ks as:=by
 rw[zB,if_neg (fun z=>hk z.1)]
theorem eI(S:Std)(as:List DArg):zB S [] as=none:=by simp[zB]
theorem YJ{S:Std}{wd:Str}{as:List DArg}{n:Str}{r:List (List Int)}{form:List Str}(h:fo S wd as n r)(hf:zZ wd=some form):zB S form as=none:=by
 rcases h with⟨rfl,e⟩|⟨rfl,e⟩|⟨rfl,e⟩|⟨rfl,e⟩
 ·rw[qt]at hf;cases hf;unfold PNew at e;subst e;rw[lR _ _ _ _ (by decide+kernel)];simp[zB]
 ·rw[tw]at hf;cases hf;obtain⟨h,r0,rfl,hl,_⟩:=e;rw[jB _ _ _ hl];simp[zB]
 ·rw[qu]at hf;cases hf;obtain⟨h,r0,rfl,hl,_⟩:=e;rw[jB _ _ _ hl];simp[zB]
 ·rw[de]at hf;cases hf;obtain⟨a,rfl,hl⟩:=e;rw[jB _ _ _ hl,lR _ _ _ _ (by decide+kernel),eI]
theorem ZT{S S':Std}{past und past' und':List Std}{wd:Str}{as:List DArg}{form:List Str}(h:mM S past und wd as S' past' und')(hf:zZ wd=some form):zB S form as=none:=by
 rcases h with⟨rfl,n,r,rfl,hl,_⟩|⟨rfl,rfl,_⟩|⟨rfl,rfl,_⟩
 ·rw[df]at hf;cases hf;rw[jB _ _ _ hl,eI]
 ·rw[qv]at hf;cases hf;rfl
 ·rw[vj]at hf;cases hf;rfl
theorem cF{form rest:List Str}{as:List DArg}(h:jM form rest=some as)(hl:form.length<=rest.length):∀(i:Nat),form[i]? =some (Str.ofString "NAME")-> ∀a,as[i]? =some a-> ∃n,a=DArg.name n:=fun i e a ha=>by
 have hi:=(List.getElem?_eq_some_iff.mp e).1;obtain⟨p,hp⟩:∃p,rest[i]? =some p:=⟨_,getElem?_eq_getElem (by omega)⟩;obtain⟨b,hb,hr⟩:=gU i h e hp;rw[ha]at hb;cases hb;unfold jZ at hr;rw[if_neg (by decide+kernel),if_neg (by decide+kernel),if_neg (by decide+kernel)]at hr;split at hr
 ·cases hr;exact⟨_,rfl⟩
 ·cases hr
theorem aG{z wd:Str}{as:List DArg}{form:List Str}(h:jL z=some (wd,as))(hf:zZ wd=some form):as.length=form.length/\ ∀(i:Nat),form[i]? =some (Str.ofString "NAME")-> ∀a,as[i]? =some a-> ∃n,a=DArg.name n:=by
 obtain⟨form',_,hf',rest,_,hl,hps⟩:=gQ h;rw[hf]at hf';cases hf';exact⟨vH hl hps,cF hps hl⟩
theorem ZU(S:Std):∀(form:List Str)(as:List DArg)(i:Nat){k:Str}{a:DArg},form[i]? =some k->as[i]? =some a->zB S (form.drop i) (as.drop i)=(match a with| .name n=>if k=Str.ofString "NAME"/\y9 S n=none then some n else zB S (form.drop (i+1)) (as.drop (i+1))| _=>zB S (form.drop (i+1)) (as.drop (i+1))):=fun form as i k a e1 e2=>by
 have h1:=(List.getElem?_eq_some_iff.mp e1).1;have h2:=(List.getElem?_eq_some_iff.mp e2).1;rw[drop_eq_getElem_cons h1,drop_eq_getElem_cons h2,(List.getElem?_eq_some_iff.mp e1).2,(List.getElem?_eq_some_iff.mp e2).2];cases a <;>simp[zB]
theorem bM{K:W.Frag}{H:Hp}{a b:Addr}{xs ys:List V}{Q:VK}(ha:H a=some (.tup xs))(hb:H b=some (.tup ys))(hl:xs.length+ys.length<=sizeLine)(h:∀(p:Addr) (H':Hp),H' p=some (.tup (xs++ys))->Same H H'->Q (.ref p) H'):i9 K (.ref a) (.ref b) H Q:=by
 refine⟨a,b,xs,ys,rfl,rfl,SqT.of ha,SqT.of hb,hl,fun e=>?_,fun _ e=>?_,fun _ _ p hp=>h p _ z6 (Same.new hp)⟩
 ·subst e;exact h b H hb (Same.refl _)
 ·subst e;exact h a H (by rw[append_nil];exact ha) (Same.refl _)
theorem wz{K:W.Frag}{H:Hp}{a:Addr}{xs:List V}{lo hi:Option Int}{Q:VK}(ha:H a=some (.tup xs))(h:∀(p:Addr) (H':Hp),H' p=some (.tup (cutV xs lo hi))->Same H H'->Q (.ref p) H'):Ya K (.ref a) lo hi H Q:=by
 by_cases c:HT.sIx xs.length 0 lo=0/\HT.sIx xs.length xs.length hi=xs.length
 ·refine .inl ⟨a,xs,rfl,SqT.of ha,c,h a H ?_ (Same.refl _)⟩;unfold cutV;rw[c.1,c.2,drop_zero,Nat.sub_zero,take_length];exact ha
 ·exact .inr ⟨a,xs,rfl,SqT.of ha,c,fun p hp=>h p _ z6 (Same.new hp)⟩
theorem j3(xs:List V)(k:Nat)(h:k<xs.length):cutV xs none (some (k:Int))++cutV xs (some ((k:Int)+1)) none=xs.eraseIdx k:=by
 rw[pT,show((k:Int)+1)=((k+1:Nat):Int)by omega,rZ,Nat.min_eq_left (by omega),List.eraseIdx_eq_take_drop_succ]
theorem All2.erase{α:Type}{R:α->V->Hp->Prop}{H:Hp}:∀{l:List α}{xs:List V}(k:Nat),All2 R H l xs->All2 R H (l.eraseIdx k) (xs.eraseIdx k)
 | _,_,_,.nil=>.nil
 | _,_,0,.cons _ t=>t
 | _,_,k+1,.cons h t=>.cons h (t.erase k)
theorem All2.unsnoc{α:Type}{R:α->V->Hp->Prop}{H:Hp}:∀{l:List α}{a:α}{xs:List V},All2 R H (l++[a]) xs-> ∃zs v,xs=zs++[v]/\All2 R H l zs/\R a v H
 | [],_,_,.cons h .nil=>⟨[],_,rfl,.nil,h⟩
 | _::_,_,_,.cons h t=>let⟨zs,v,e,a2,hv⟩:=t.unsnoc;⟨_::zs,v,by rw[e];rfl,.cons h a2,hv⟩
theorem nz{w w':Str}(h:w'.cps.toList=w.cps.toList++[32])(a:Str):(w'++a).cps.toList=w.cps.toList++32::a.cps.toList:=by
 rw[qo,h,append_assoc];rfl
def LetS(z:Str):Prop:=∀ c∈z.cps.toList,97<=c/\c<=122
theorem LetS.app{x y:Str}(hx:LetS x)(hy:LetS y):LetS (x++y):=fun c hc=>by
 rw[qo]at hc;rcases mem_append.mp hc with h|h
 ·exact hx c h
 ·exact hy c h
theorem wC{z:Str}(h:LetS z)(h1:1<=z.length)(h8:z.length<=8):zE z=true:=(ky z).mpr ⟨⟨h1,h8⟩,h⟩
theorem vp{z:Str}(h:zE z=true):LetS z:=((ky z).mp h).2
theorem y8{z:Str}(h:zE z=true):1<=z.length/\z.length<=8:=((ky z).mp h).1
theorem LetS.to{x:Str}(h:LetS x)(k:Nat):LetS (Txt.slice x none (some (k:Int))):=fun c hc=>by
 rw[iJ]at hc;exact h c (List.mem_of_mem_take hc)
theorem LetS.last{x:Str}(h:LetS x)(k:Nat)(hk:0<k):LetS (Txt.slice x (some (-(k:Int))) none):=fun c hc=>by
 rw[d7 x k hk]at hc;exact h c (List.mem_of_mem_drop hc)
theorem tm(x:Str)(k:Nat):(Txt.slice x none (some (k:Int))).length=min k x.length:=by
 rw[zV,iJ,length_take,<-zV]
theorem d8(x:Str)(k:Nat)(hk:0<k):(Txt.slice x (some (-(k:Int))) none).length=min k x.length:=by
 rw[zV,d7 x k hk,length_drop,<-zV];omega
theorem qE{r:Int}(h0:0<=r)(h1:r<26):∃c:Nat,atI vt.cps.toList r=some c/\97<=c/\c<=122/\(c:Int)=97+r:=by
 obtain⟨j,rfl⟩:∃j:Nat,r=(j:Int):=⟨r.toNat,by omega⟩;have hj:j<26:=by omega
 refine⟨97+j,zr (j:=j) ?_,by omega,by omega,by omega⟩;rw[qF];have:∀j:Fin 26,[97,98,99,100,101,102,103,104,105,106,107,108,109,110,111,112,113,114,115,116,117,118,119,120,121,122][j.1]? =some (97+j.1):=by decide
 exact this ⟨j,hj⟩
theorem LetS.one{c:Nat}(h:97<=c/\c<=122):LetS ⟨#[c]⟩:=fun d hd=>by
 have:d=c:=by simpa using hd
 rw[this];exact h
theorem iZ(x:Str):∀ss:List Str,inV (.str x) (ss.map V.str)=decide (x∈ss)
 | []=>by simp[inV]
 |y::ss=>by
  have ih:=iZ x ss;unfold inV at ih ⊢;rw[map_cons,any_cons,ih];have:eqV (V.str y) (V.str x)=decide (x=y):=by
   show(y==x)=_;by_cases h:y=x
   ·subst h;simp
   ·have h':¬x=y:=fun e=>h e.symm;simp[h,h']
  rw[this];by_cases h:x=y
  ·simp[h]
  ·simp[h]
theorem db(ss:List Str):(ss.map V.str).all uD=true:=by
 rw[all_map];exact all_eq_true.mpr fun _ _=>rfl
def pS(k:Nat):Str:=⟨#[122,122,122,122,122,122,122,97+k]⟩
theorem oj{i j:Nat}(h:pS i=pS j):i=j:=by
 unfold pS at h;injection h with h
 have:=congrArg Array.toList h;simp at this;exact this
theorem iq{k:Nat}(h:k<26):zE (pS k)=true:=wC (fun c hc=>by
 unfold pS at hc;simp at hc;omega) (by decide+kernel:1<=(8:Nat)) (by show(8:Nat)<=8;decide)
theorem Zd{k:Nat}{c:Nat}(hc:(c:Int)=97+(k:Int)):(Str.ofString "zzzzzzz")++(⟨#[c]⟩:Str)=pS k:=by
 have e:c=97+k:=by omega
 subst e;exact yG (by rw[qo,show(Str.ofString "zzzzzzz").cps.toList=[122,122,122,122,122,122,122]by decide+kernel];rfl)
theorem xV:∀{l m:List Str},l.Nodup->l⊆m->l.length<=m.length
 | [],_,_,_=>zero_le _
 |x::l,m,nd,sub=>by
  have h:=nodup_cons.mp nd;have hx:x∈m:=sub mem_cons_self;have ih:=xV (m:=m.erase x) h.2 fun y hy=>(List.mem_erase_of_ne (fun(e:y=x)=>h.1 (by rw[<-e];exact hy))).mpr (sub (mem_cons_of_mem _ hy));rw[List.length_erase_of_mem hx]at ih;have:=List.length_pos_of_mem hx;rw[length_cons];omega
theorem iT{known:List Str}(h:∀i,i<=known.length->pS i∈known):False:=by
 have nd:((List.range (known.length+1)).map pS).Nodup:=List.Pairwise.map _ (fun a b (hab:a≠b) e=>hab (oj e)) List.nodup_range;have sub:((List.range (known.length+1)).map pS)⊆known:=fun x hx=>by
  obtain⟨i,hi,rfl⟩:=mem_map.mp hx;exact h i (by have:=mem_range.mp hi;omega)
 have:=xV nd sub;rw[length_map,List.length_range]at this;omega
def DkL(C:Addr)(H:Hp)(L:List Addr)(x:Addr)(O:List Addr)(S:Std)(past und:List Std):Prop:=DeskAt C H x O S past und/\ ∀b∈O,b∉L
theorem vd{H:Hp}{a:Addr}{o u:HO}(h:H a=some u)(n:∀xs,u≠ .tup xs):Tups H (upd H a o):=fun b xs e=>by
 have:b≠a:=fun z=>by subst z;rw[h]at e;exact n xs (Option.some.inj e)
 rw[zh this];exact e
def rT(r:List (List Int)):Prop:=r.length<=6/\ ∀h∈r,h.length<=10/\IsHeap 60 (10^60) h
theorem rT.fine{r:List (List Int)}(h:rT r):mL r:=⟨h.1,fun x hx=>⟨(h.2 x hx).1,(h.2 x hx).2.bd⟩⟩
theorem rT.reads{r:List (List Int)}(h:rT r):jZ (Str.ofString "RULE") (rtxt r)=some (.rule r):=by
 rw[ia,ib h.1 fun x hx=>(h.2 x hx).2];rfl
theorem ja{w w':Str}(h:w'.cps.toList=w.cps.toList++[32])(a b:Str):(((w'++a)++Str.ofString " ")++b).cps.toList=w.cps.toList++32::(a.cps.toList++32::b.cps.toList):=by
 rw[qo,qo,nz h,show(Str.ofString " ").cps.toList=[32]by decide+kernel];simp
theorem fz{C:Addr}{H H':Hp}{x dx:Addr}{O:List Addr}(nx:H x=none)(ndx:H dx=none)(ne:x≠dx\/dx≠x)(k:∀b o,upd (upd H dx (.own x)) x (.ins C dx []) b=some o->b≠x->H' b=some o)(ho:∀b∈O,b=x\/upd (upd H dx (.own x)) x (.ins C dx []) b=none):Same H H'/\ ∀b∈O,H b=none:=by
 have hne:dx≠x:=ne.elim (fun h=>h.symm) id;constructor
 ·intro b o e;have n1:b≠x:=zj e nx;have n2:b≠dx:=zj e ndx;exact k b o (by rw[zh n1,zh n2];exact e) n1
 ·intro b hb;rcases ho b hb with rfl|h
  ·exact nx
  ·by_cases e1:b=x
   ·rw[e1];exact nx
   ·rw[zh e1]at h;by_cases e2:b=dx
    ·rw[e2];exact ndx
    ·rw[zh e2]at h;exact h
structure WL(C:Addr)(H:Hp)(st ga ca x:Addr)(B:List (Addr×HO))(O:List Addr)(N:Nat)(S:Std)(past und:List Std):Prop where
 s:StAt H st ga ca N
 d:DkL C H ([st,ga,ca]++B.map (·.1)) x O S past und
 bx:∀p∈B,H p.1=some p.2/\p.1∉[st,ga,ca]
 nd:(B.map (·.1)).Nodup
namespace WL
variable{C:Addr}{H H':Hp}{st ga ca x:Addr}{B:List (Addr×HO)}{O O':List Addr}{N N':Nat}{S S':Std}{past past' und und':List Std}
end WL
def std2(n0 n1:Str)(p:List (List Int)×List (List Int)):Std:=[(n0,p.1),(n1,p.2)]
theorem vN(n0 n1:Str)(p:List (List Int)×List (List Int)):y9 (std2 n0 n1 p) n0=some p.1:=qI rfl
theorem yJ{n0 n1:Str}(h:n0≠n1)(p:List (List Int)×List (List Int)):y9 (std2 n0 n1 p) n1=some p.2:=by
 unfold std2;rw[dF h,qI rfl]
theorem b8{n0 n1:Str}(h:n0≠n1)(p:List (List Int)×List (List Int))(r:List (List Int)):putS (std2 n0 n1 p) n1 r=std2 n0 n1 (p.1,r):=by
 unfold putS std2;simp[h]
theorem After.trans{C:Addr}{H H1 H2:Hp}{x:Addr}{O O1 O2:List Addr}{S S':Std}{past und past' und':List Std}(a:After C H H1 x O O1 S past und)(b:After C H1 H2 x O1 O2 S' past' und'):After C H H2 x O O2 S' past' und':=by
 have nin:∀c o,H c=some o->c∉O->c∉O1:=fun c o e n m=>by
  rcases a.own c m with h|h
  ·exact n h
  ·rw[e]at h;cases h
 refine⟨b.desk,fun c o e n=>b.keep c o (a.keep c o e n) (nin c o e n),a.tups.trans b.tups,fun c hc=>?_⟩;rcases b.own c hc with h|h
 ·exact a.own c h
 ·by_cases m:c∈O
  ·exact .inl m
  ·cases e:H c with
   |none=>exact .inr rfl
   |some o=>rw[a.keep c o e m]at h;cases h
abbrev Rul2:=List (List Int)×List (List Int)
inductive Walks(L:Nat):Nat->List Bool->Nat->Prop
 |nil (h:Nat):h<L->Walks L h [] h
 |again {h e:Nat} {ws:List Bool}:Walks L (h+1) ws e->Walks L h (true::ws) e
 |undo {h e:Nat} {ws:List Bool}:h+1<L->Walks L h ws e->Walks L (h+1) (false::ws) e
theorem FS{N P:List Str}{sc:Scope}(kind:sc.kind= .function:=by rfl)(co:sc.isCoroutine=false:=by rfl)(gen:sc.isGenerator=false:=by rfl)(nd:N.Nodup:=by decide+kernel)(pre:N.take P.length=P:=by rfl)(par:∀x∈P,sc.names.lookup x=some .local\/sc.names.lookup x=some .cell:=by decide+kernel)(nofree:∀y∈sc.names,y.2≠ .free:=by decide+kernel):FnScope N P sc:=⟨kind,co,gen,nd,pre,par,nofree⟩
structure FB(K:W.Frag)(mg:Str->Option Value)(q:Str)(st:Stmt)(a:Addr)(fd:FuncData)(ps:List Str):Prop where
 F:Fun K q q st a fd
 b:ux K fd ps []
 g:mg q=some (.ref a)
structure MB(K:W.Frag)(C:Addr)(m q:Str)(st:Stmt)(a:Addr)(fd:FuncData)(ps:List Str):Prop where
 F:Fun K m q st a fd
 b:ux K fd ps []
 n:W.findIn K (.ref C) m=some (some (.ref a))
 i:W.isFn K (.ref a)=true
theorem MB.mt{K:W.Frag}{C:Addr}{m q:Str}{st:Stmt}{a:Addr}{fd:FuncData}{ps:List Str}(h:MB K C m q st a fd ps):Meth K C m a:=⟨h.n,h.i,h.F.kp⟩
def AllN:Nat->(List Value->Prop)->Prop
 | 0,p=>p []
 |n+1,p=>∀ v,AllN n fun l=>p (v::l)
theorem AllN.get:∀{n:Nat}{p:List Value->Prop},AllN n p-> ∀us:List Value,us.length=n->p us
 | 0,_,h,[],_=>h
 | _+1,_,h,v::us,e=>AllN.get (h v) us (Nat.succ.inj e)
section
variable{K:W.Frag}{h:Heap}{mg:Str->Option Value}{x q:Str}{st:Stmt}{a C:Addr}{oc:Value}{od an:Option Addr}{osl:Array (Option Value)}{kV doc pm cdv ct:Value}{ps:List Str}
def Yp(x q:Str)(st:Stmt)(ps:List Str):Prop:=∀(kV doc pm:Value)(an:Option Addr)(cdv ct:Value),AllN ps.length fun us=>bindArgs (W.fnOf x q (jW st) (j8 st) (z7 st) .none kV doc pm an cdv ct) ⟨us,[]⟩=pure (ps.zip us)
theorem FB.of(X:K.In h)(G:h.Ns mainGlobals mg)(n:W.nsIn K mainGlobals q=some (some (.ref a)))(l:K.lookup a=some ⟨oc,od,.func (W.fnOf q q (jW st) (j8 st) (z7 st) .none kV doc pm an cdv ct),osl⟩)(c:W.codeIn K cdv q=true)(k:W.keepIn K (.ref a)=true)(b:Yp q q st ps) :
  FB K mg q st a (W.fnOf q q (jW st) (j8 st) (z7 st) .none kV doc pm an cdv ct) ps :=
 ⟨eA l c k,(eA l c k).binds fun _ _ _ _ _ _ us e=>(b _ _ _ _ _ _).get us e,W.mg_of X G n⟩
theorem MB.of(n:W.findIn K (.ref C) x=some (some (.ref a)))(i:W.isFn K (.ref a)=true)(l:K.lookup a=some ⟨oc,od,.func (W.fnOf x q (jW st) (j8 st) (z7 st) .none kV doc pm an cdv ct),osl⟩)(c:W.codeIn K cdv q=true)(k:W.keepIn K (.ref a)=true)(b:Yp x q st ps) :
  MB K C x q st a (W.fnOf x q (jW st) (j8 st) (z7 st) .none kV doc pm an cdv ct) ps :=
 ⟨eA l c k,(eA l c k).binds fun _ _ _ _ _ _ us e=>(b _ _ _ _ _ _).get us e,n,i⟩
end
abbrev rowI{t:Tok}{v:Addr}(s:Str):Str×Tok×Value:=(s,t,.ref v)
abbrev colI{t:Tok}(s:Str):Str×Tok:=(s,t)
theorem mgI{K:W.Frag}{h:Heap}{mg:Str->Option Value}{x:Str}{n:Int}{t:Tok}(X:K.In h)(G:h.Ns mainGlobals mg)(e:W.nsIn K mainGlobals x=some (some (.int n t))):∃t,mg x=some (.int n t):=⟨_,W.mg_of X G e⟩
theorem mgS{K:W.Frag}{h:Heap}{mg:Str->Option Value}{x z:Str}{t:Tok}(X:K.In h)(G:h.Ns mainGlobals mg)(e:W.nsIn K mainGlobals x=some (some (.str z t))):∃t,mg x=some (.str z t):=⟨_,W.mg_of X G e⟩
section
variable{X:Cx}{e e2 e3:Expr}{te te2 te3:TE}{pos:Pos}
theorem pa1(ha:PE X e te)(hs:starEach [e] X.env=(false,eval e X.env)::starEach [] X.env:=by rfl):PA X [e] (aO te tNil):=zW ha ku hs
theorem pa2(ha:PE X e te)(hb:PE X e2 te2)(hs:starEach [e,e2] X.env=(false,eval e X.env)::starEach [e2] X.env:=by rfl)(h2:starEach [e2] X.env=(false,eval e2 X.env)::starEach [] X.env:=by rfl):PA X [e,e2] (aO te (aO te2 tNil)):=zW ha (pa1 hb h2) hs
theorem pa3(ha:PE X e te)(hb:PE X e2 te2)(hc:PE X e3 te3)(hs:starEach [e,e2,e3] X.env=(false,eval e X.env)::starEach [e2,e3] X.env:=by rfl)(h2:starEach [e2,e3] X.env=(false,eval e2 X.env)::starEach [e3] X.env:=by rfl)(h3:starEach [e3] X.env=(false,eval e3 X.env)::starEach [] X.env:=by rfl):PA X [e,e2,e3] (aO te (aO te2 (aO te3 tNil))):=zW ha (pa2 hb hc h2 h3) hs
theorem pset(i:Nat){x:Str}{pos':Pos}(hN:X.N.Nodup)(he:PE X e te)(hi:X.N[i]? =some x:=by rfl)(hx:Loc X.env.scope x:=by first|exact Or.inl rfl|exact Or.inr rfl)(hs:swapsWith e (some (.Name x pos')) pos.line X.env=pure false:=by rfl)(hf:X.fn x=true\/X.env.scope.names.lookup x=some .local:=by first|exact .inl rfl|exact .inr rfl|assumption) :
  PS X (.Assign [.Name x pos'] e pos) (tAsg te (kc i)):=Ki hN hi hx he hs hf
theorem pgn(i:Nat){x:Str}(hN:X.N.Nodup)(hi:X.N[i]? =some x:=by rfl)(hx:Loc X.env.scope x:=by first|exact Or.inl rfl|exact Or.inr rfl)(hf:X.fn x=true\/X.env.scope.names.lookup x=some .local:=by first|exact .inl rfl|exact .inr rfl|assumption):PG X (.Name x pos) (kc i):=aD hN hi hx hf
theorem pcl{cm:Bool}{j k:Nat}{f:Addr}{fd:FuncData}{ps:List Str}{sp:Sp}{x:Str}{p:Pos}{es:List Expr}{t:TA}{st:Stmt}(F:FnOk X.prog X.w X.K X.mg X.base CX0 j f fd ps sp cm)(hr:Room k X.A cm)(B:FB X.K X.mg x st f fd ps)(ha:PA X (e::es) t)(hg:Gl X x:=by rfl)(hj:j<=k:=by decide)(hdb:(x==("__debug__" : Str))=false:=by decide)(he:starEach (e::es) X.env=(false,eval e X.env)::starEach es X.env:=by rfl)(hpl:(backTo pos (starEach es X.env)).any (·.1)=false:=by rfl) :
  PE X (.Call (.Name x p) (e::es) [] pos) (Kq sp [] E0 t):=yc F (hr.mono hj) hg B.g B.F.kp B.b .nil wu ha hdb he hpl
theorem pcm{op:CmpOp}{r:R2}(ho:OpR X (compareOp op) r)(ha:PE X e te)(hb:PE X e2 te2)(h:op≠ .In:=by decide)(h2:op≠ .NotIn:=by decide):PE X (.Compare e [op] [e2] pos) (tOp r te te2):=aC ho ha hb (zA _ h h2)
theorem pix{r:R2}(hr:IxR X r)(ha:PE X e te)(hb:PE X e2 te2)(hs:ix e2:=by exact fun _ _=>rfl):PE X (.Subscript e e2 pos) (tOp r te te2):=Jp hr ha hb hs
theorem csf{scope:Scope}{ls:List Str}{fr:List (Str×Nat)}(sc:Scope)(N:List Str)(h1:X.env.scope=sc:=by rfl)(h2:X.N=N:=by rfl)(h:bK sc N scope fr=true:=by decide+kernel):CScope X scope ls fr:=KS sc N h1 h2 h
end
end L2
namespace L2
section
variable{t1 t2 t3 t4 t5 t6 t7 t8 u:TS}{D:Ends}{σ:St}{H:Hp}
theorem cut1(h:∀nx,nx=u D->t1 {D with nx:=nx} σ H):tSeq t1 u D σ H:=h _ rfl
theorem cut2(h:∀nx,nx=u D->tSeq t1 t2 {D with nx:=nx} σ H):tSeq t1 (tSeq t2 u) D σ H:=h _ rfl
theorem cut4(h:∀nx,nx=u D->tSeq t1 (tSeq t2 (tSeq t3 t4)) {D with nx:=nx} σ H):tSeq t1 (tSeq t2 (tSeq t3 (tSeq t4 u))) D σ H:=h _ rfl
theorem cut8(h:∀nx,nx=u D->tSeq t1 (tSeq t2 (tSeq t3 (tSeq t4 (tSeq t5 (tSeq t6 (tSeq t7 t8)))))) {D with nx:=nx} σ H):tSeq t1 (tSeq t2 (tSeq t3 (tSeq t4 (tSeq t5 (tSeq t6 (tSeq t7 (tSeq t8 u))))))) D σ H:=h _ rfl
end
end L2
namespace L2
open PySem PySem.Spec PyProof.Rows
abbrev TJ:=St->Hp->Str->(Str->Hp->Prop)->Prop
def PJ(X:Cx)(es:List Expr)(t:TJ):Prop:=∀(pins:List (Addr×Obj))(s:Shared)(σ:L2.St)(H:Hp)(out:Str)(Q:Str->Hp->Prop),Inv X pins σ H s->t σ H out Q->
 wpAny (model X.prog X.w) X.A (joinParts out (evalEach es X.env)) (EP X pins σ fun v H'=>∃ z,v= .str z/\Q z H') X.xe s
def jNil:TJ:=fun _ H out Q=>out.length<=sizeLine/\Q out H
def jStr(x:Str)(t:TJ):TJ:=fun σ H out Q=>(out++x).length<=sizeLine/\t σ H (out++x) Q
def jVal(te:TE)(t:TJ):TJ:=fun σ H out Q=>te σ H fun v H1=>∃ z:Str,((∃i:Int,v= .int i/\i.natAbs.log2<1920/\z=toString i)\/v= .str z)/\z.length<=sizeLine/\(out++z).length<=sizeLine/\t σ H1 (out++z) Q
section
variable{X:Cx}
theorem jK(hs:evalEach [] X.env=[]:=by rfl):PJ X [] jNil:=by
 intro pins s σ H out Q I h;rw[hs];exact joinParts_nil ⟨.str out,H,I.tok _,⟨_,rfl⟩,out,rfl,h.2⟩ h.1
theorem yz{x:Str}{j:Nat}{p:Pos}{es:List Expr}{t:TJ}(ht:PJ X es t)(hs:evalEach (.Constant (.str x) j p::es) X.env=eval (.Constant (.str x) j p) X.env::evalEach es X.env:=by rfl):PJ X (.Constant (.str x) j p::es) (jStr x t):=by
 intro pins s σ H out Q I h;rw[hs];exact joinParts_cons (Calls.Constant_str ⟨h.1,ht pins _ σ H _ Q (I.tok _) h.2⟩)
theorem kx{e:Expr}{p:Pos}{es:List Expr}{te:TE}{t:TJ}(he:PE X e te)(ht:PJ X es t)(hs:evalEach (.FormattedValue e (-1) none p::es) X.env=eval (.FormattedValue e (-1) none p) X.env::evalEach es X.env:=by rfl):PJ X (.FormattedValue e (-1) none p::es) (jVal te t):=by
 intro pins s σ H out Q I h;rw[hs];refine joinParts_cons (FormattedValue_plain (thn (he pins _ σ H _ I h) fun v s1 ⟨y,H1,I2,r,z,hz,l1,l2,q⟩=>?_));rcases hz with⟨i,rfl,hd,rfl⟩|rfl
 ·obtain⟨t',rfl⟩:=r;exact formatField_int_small hd ⟨l2,ht pins _ σ H1 _ Q ((I2.tok _).tok _) q⟩
 ·obtain⟨t',rfl⟩:=r;refine formatField_str (fun t'' tk=>?_) l1;exact⟨l2,ht pins _ σ H1 _ Q (I2.tok tk) q⟩
def tJs(t:TJ):TE:=fun σ H Q=>t σ H Str.empty fun z H'=>Q (.str z) H'
theorem vE{e1 e2:Expr}{es:List Expr}{pos:Pos}{t:TJ}(ht:PJ X (e1::e2::es) t)(hs:evalEach (e1::e2::es) X.env=eval e1 X.env::eval e2 X.env::evalEach es X.env:=by rfl):PE X (.JoinedStr (e1::e2::es) pos) (tJs t):=by
 intro pins s σ H Q I h;refine JoinedStr_many ?_;rw[<-hs];refine thn (ht pins s σ H Str.empty _ I h) fun v s1 ⟨y,H1,I1,r,z,e,q⟩=>?_;subst e;exact⟨.str z,H1,I1,r,q⟩
end
end L2
namespace L2
open PySem PySem.Spec PyProof.Rows PySem.W
def JG(C:Addr)(m:Str)(sp:Sp)(dvs:List V)(ta:TE)(t:TA):TX:=fun σ H Q E=>ta σ H fun x H1=>∃ a dx fs,x= .ref a/\H1 a=some (.ins C dx fs)/\fs.lookup m=none/\t σ H1 fun vs H2=>sp ((.ref a::vs)++dvs) H2 Q E
theorem Y6{X:Cx}{k:Nat}{f C:Addr}{fd:FuncData}{ps:List Str}{sp:Sp}{dvs:List V}{ds:List Value}{m:Str}{pos apos:Pos}{o e:Expr}{es:List Expr}{ta:TE}{t:TA}{cm:Bool}{pl:Sem Bool}(he:PE X.nox o ta)(c:Cls X.K C)(hm:Meth X.K C m f)(F:FnOk X.prog X.w X.K X.mg X.base (CX1 X.prog X.w) k f fd ps sp cm)(hr:Room k X.A cm)(hb:ux X.K fd ps ds)(hd:Vals dvs ds)(ha:PA X.nox (e::es) t)(hst:starEach (e::es) X.env=(false,eval e X.env)::starEach es X.env:=by rfl)(hpl:(backTo pos (starEach es X.env)).any (·.1)=false:=by rfl)(ht:eval (.Call (.Attribute o m apos) (e::es) [] pos) X.env=(do
   let ov <-eval o X.env
   standAt apos.atName
   let(f,first) <-holding [ov] (getMethod ov m pl)
   callWith pos f first (backTo pos (starEach (e::es) X.env)) (backToKw pos (keywordEach [] X.env))):=by rfl):PX X (.Call (.Attribute o m apos) (e::es) [] pos) (JG C m sp dvs ta t):=by
 intro pins s σ H Q E I h;have hO:=wpAny_mono (he pins s σ H _ (I.wish _) h) (fun us s1 q=>q) (E':=fun ev s'=>∃ H1 s1,Inv X pins σ H1 s1/\CX1 X.prog X.w X.stack H1 s1 E ev s') fun _ _ z=>False.elim z;refine W.methodCall_KW (pl:=pl) (thn hO fun u s1 ⟨x,H1,I1,rx,a,dx,fs,ex,ea,l,q⟩=>?_) ht;subst ex;obtain rfl:u=Value.ref a:=rx;have J1:=I1.unwish;refine vm J1 ea c hm l ?_;have hA:=wpAny_mono (ha pos pins s1 σ H1 _ I1 q) (fun us s1 q=>q) (E':=fun ev s'=>∃ H1 s1,Inv X pins σ H1 s1/\CX1 X.prog X.w X.stack H1 s1 E ev s') fun _ _ z=>False.elim z;refine W.callWith_K (first:=[.ref a]) (h₀:=X.base) I.ok.mod.kin hm.kp (thn hA fun us s2 ⟨vs,H2,I2,r,q2⟩=>⟨I2.kIn,?_⟩) hst hpl;have I1':=I2.unwish;have r2:Vals ((.ref a::vs)++dvs) ((.ref a::us)++ds):=Vals.append (.cons rfl r) hd;have hl:((.ref a::us)++ds).length=ps.length:=by rw[<-r2.length];exact F.len _ _ _ _ q2
 refine wpAny_call (codeAny_mono (F.run X.A X.stack s2 H2 ⟨.ref a::us,[]⟩ ((.ref a::us)++ds) ((.ref a::vs)++dvs) Q E hr I1'.env0 (hb s2 (.ref a::us) I1'.kIn hl) r2 q2) fun r s' hq=>?_);cases r with
 |error e=>exact⟨H2,s2,I1',hq⟩
 |ok fl=>cases fl with
  |ret u=>exact I1'.after hq
  | _=>exact False.elim hq
def JH(c:Str)(tx:TX):TX:=fun σ H Q E=>tx σ H (fun v H1=>∀ p,H1 p=none->Q (.ref p) (upd H1 p (.tup [.str c,v]))) E
theorem Y7{X:Cx}{c:Str}{j x1:Nat}{p pos:Pos}{e:Expr}{tx:TX}(hx:PX X e tx)(hs:starEach [.Constant (.str c) j p,e] X.env=[(false,eval (.Constant (.str c) j p) X.env),(false,eval e X.env)]:=by rfl):PX X (.Tuple [.Constant (.str c) j p,e] x1 pos) (JH c tx):=by
 intro pins s σ H Q E I h;refine wpAny_Tuple_spliced ?_;rw[hs];show wpAny _ _ (spliced [(false,eval (.Constant (.str c) j p) X.env),(false,eval e X.env)]) _ _ s;refine Calls.spliced_cons (Calls.Constant_str ?_);refine Calls.spliced_cons (thn (hx pins _ σ H _ E (I.tok _) h) fun u s1 ⟨x,H1,I1,r1,q1⟩=>Calls.spliced_nil ?_);have hf:H1 s1.heap.objs.size=none:=I1.hok.fresh (le_refl _);refine⟨by show 2<=sizeLine;decide,.ref s1.heap.objs.size,upd H1 s1.heap.objs.size (.tup [.str c,x]),I1.laid (t':=s1.toks) (fun b u e=>Heap.get?_push_of_some _ e) (le_refl _) ?_,rfl,q1 _ hf⟩;exact⟨by show 2<=sizeLine;decide,[_,_],.cons ⟨_,rfl⟩ (.cons r1 .nil),⟨_,Heap.get?_push_size _ rfl,rfl,_,rfl⟩,jS⟩
end L2
namespace L2
open PySem PySem.Spec PyProof.Rows
def uF(r:List (List Int))(h:List Int):Str:=match yv r h with
 |none=>Str.ofString "yes"
 |some z=>Str.ofString "no "++numS z
noncomputable def wg(r:List (List Int))(m:Nat):Int:=zY r (wayF m) m (chG (upto r.length))
def bi(r:List (List Int))(m:Nat):Prop:=r.length<=6/\bj r/\m<=400/\(wg r m).natAbs.log2<1920
def jA(r:List (List Int))(m:Nat):Str:=if yp r m=[]then Str.ofString "no partings" else Txt.join bar ((yp r m).map txt)
theorem ef{r:List (List Int)}{h:List Int}{z:Int}(hl:r.length<=60)(e:yv r h=some z):0<=z/\z<60:=by
 unfold yv idxG at e;have:=iY (List.mem_of_mem_head? (by rw[e];rfl:z∈(idxP r h r.length).head?));omega
theorem rd:∀{l:List Int}{x:Int},(∀y∈l,1<=y)->x∈l->x<=l.sum
 |y::l,x,hp,hx=>by
  have h0:=nZ fun z hz=>hp z (mem_cons_of_mem _ hz);have hy:=hp y mem_cons_self;rw[List.sum_cons];rcases mem_cons.mp hx with rfl|hx
  ·omega
  ·have:=rd (fun z hz=>hp z (mem_cons_of_mem _ hz)) hx;omega
theorem xZ{r:List (List Int)}{m:Nat}{h:List Int}(hm:m<=24)(hh:h∈yp r m):h.length<=24/\ ∀x∈h,1<=x/\x<=24:=by
 obtain⟨p,_⟩:=oR hh hm;have hl:=p.len;refine⟨by omega,fun x hx=>⟨p.pos x hx,?_⟩⟩;have:=rd p.pos hx;rw[p.sum]at this;omega
abbrev DueT:=Sum Str Str
def KZ:DueT->List V
 | .inl z=>[.str (Str.ofString "told"),.str z]
 | .inr n=>[.str (Str.ofString "name"),.str n]
def AskT(S:Std)(wd:Str)(as:List DArg)(t:Str):Prop :=
 (wd=Str.ofString "keeps"/\ ∃(n:Str)(r:List (List Int))(h:List Int),as=[.name n,.heap h]/\y9 S n=some r/\r.length<=60/\t=uF r h)\/
 (wd=Str.ofString "count"/\ ∃(n:Str)(r:List (List Int))(m:Nat),as=[.name n,.num (m:Int)]/\y9 S n=some r/\bi r m/\t=numS (wg r m))\/
 (wd=Str.ofString "list"/\ ∃(n:Str)(r:List (List Int))(m:Nat),as=[.name n,.num (m:Int)]/\y9 S n=some r/\r.length<=60/\m<=24/\t=jA r m)
def xO(S:Std)(p u:List Std)(line:Str)(due:DueT)(S':Std)(p' u':List Std):Prop:=line.length<=100000/\S.length<=50/\p.length<=1000/\u.length<=1000/\ ∃wd as,jL line=some (wd,as)/\
 ((∃t,due= .inl t/\S'=S/\p'=p/\u'=u/\AskT S wd as t)\/
  (∃n r,fo S wd as n r/\mL r/\due= .inl (rtxt r)/\S'=putS S n r/\p'=p++[S]/\u'=[])\/
  (∃t,mM S p u wd as S' p' u'/\mO S'/\S'.length<64/\yf (S'.map (·.1)) t/\due= .inl t)\/
  (∃form n,zZ wd=some form/\zB S form as=some n/\due= .inr n/\S'=S/\p'=p/\u'=u))
inductive Runs:Std->List Std->List Std->List (Str×DueT)->Prop
 |nil (S:Std) (p u:List Std):Runs S p u []
 |cons {S S':Std} {p u p' u':List Std} {line:Str} {due:DueT} {rest:List (Str×DueT)}:xO S p u line due S' p' u'->Runs S' p' u' rest->Runs S p u ((line,due)::rest)
def DueV:DueT->V->Hp->Prop
 | .inl t,v,_=>v= .str t
 | .inr n,v,H=>∃ d,v= .ref d/\H d=some (.tup [.str (Str.ofString "name"),.str n])
theorem DueV.mv{H H':Hp}(t:Tups H H'):∀{d:DueT}{v:V},DueV d v H->DueV d v H'
 | .inl _,_,h=>h
 | .inr _,_,⟨d,e,h⟩=>⟨d,e,t _ _ h⟩
def RowD(p:Str×DueT)(v:V)(H:Hp):Prop:=∃ q u,v= .ref q/\H q=some (.tup [.str p.1,u])/\DueV p.2 u H
theorem RowD.mv{H H':Hp}(t:Tups H H'){p:Str×DueT}{v:V}:RowD p v H->RowD p v H'
 |⟨q,u,e,h1,h2⟩=>⟨q,u,e,t _ _ h1,h2.mv t⟩
theorem bT{K:W.Frag}:W.kitOne K (.type "str") (.type "tuple")=some false:=by
 unfold W.kitOne;rw[if_neg (by decide+kernel)]
 first|rfl|(rw[if_neg (by decide+kernel)];rfl)
def qG(n:Str)(h:List Int):Str:=((Str.ofString "keeps "++n)++Str.ofString " ")++txt h
def yL(w n:Str)(m:Int):Str:=((w++n)++Str.ofString " ")++numS m
noncomputable def je(n:Str)(r:List (List Int))(h:List Int)(s g:Nat):List (Str×DueT) :=
 [(qG n h,.inl (uF r h)),(yL (Str.ofString "list ") n (s:Int),.inl (jA r s)),(yL (Str.ofString "count ") n (s:Int),.inl (numS ((yp r s).length:Int))),(yL (Str.ofString "count ") n (g:Int),.inl (numS (zY r (fun j=>(zy g g).getD j 0) g (chG (upto r.length)))))]
def ir(n:Str)(r r':List (List Int))(deed:Str):Prop:=(deed=deed/\ ∃k:Nat,k<r.length/\(deed=((Str.ofString "take "++n)++Str.ofString " ")++numS (k:Int)/\r'=r.eraseIdx k))\/(deed=deed/\r.length<6/\ ∃h,(h.length<=10/\IsHeap 60 (10^60) h)/\(deed=((Str.ofString "add "++n)++Str.ofString " ")++txt h/\r'=r++[h]))
theorem ox{r:List (List Int)}(hp:∀h∈r,∀x∈h,1<=x){n:Nat}(hn:n<=400):wg r n=((((kB n n).filter fun h=>(yv r h).isNone).length:Nat):Int):=by
 unfold wg;rw[du hp n,rK (W':=fun j=>(((kB j j).length:Nat):Int)) fun j hj=>Zb hn hj];rfl
theorem ly{k:Nat}(h:k<=2^400):k.log2<1920:=by
 by_cases e:k=0
 ·subst e;decide
 ·exact(Nat.log2_lt e).mpr (lt_of_le_of_lt h (Nat.pow_lt_pow_right (by decide) (by decide)))
theorem uC{r:List (List Int)}(hp:∀h∈r,∀x∈h,1<=x){n:Nat}(hn:n<=400):(wg r n).natAbs.log2<1920:=by
 rw[ox hp hn];refine ly ?_;show((kB n n).filter fun h=>(yv r h).isNone).length<=2^400;exact le_trans (List.length_filter_le _ _) (le_trans (kP _ _ _) (Nat.pow_le_pow_right (by decide) hn))
theorem u3{r:List (List Int)}{g:Nat}(hg:g<=400):zY r (fun j=>(zy g g).getD j 0) g (chG (upto r.length))=wg r g:=by
 unfold wg;exact(rK (fun j hj=>og hg hj) _).symm
theorem dC{w:Str}{w':Str}(h:w'.cps.toList=w.cps.toList++[32])(n:Str)(m:Int):(yL w' n m).cps.toList=w.cps.toList++32::(n.cps.toList++32::(numS m).cps.toList):=ja h n (numS m)
structure AskR(r:List (List Int)):Prop where
 l6:r.length<=6
 J:bj r
 pos:∀h∈r,∀x∈h,1<=x
section
variable{S:Std}{p u:List Std}{n:Str}{r:List (List Int)}{hs:List Int}{sm g:Nat}
theorem dB{n:Str}{hs:List Int}(hn:zE n=true)(hh:IsHeap 60 (10^60) hs)(hl:hs.length<=10):(qG n hs).length<=20000:=by
 have l:=y8 hn;have l2:(txt hs).length<=10000:=uw (by omega) fun x hx=>⟨(hh.bd x hx).1,le_of_lt (hh.bd x hx).2⟩;have lb:(Str.ofString " ").length=1:=by decide+kernel
 have lk:(Str.ofString "keeps ").length=6:=by decide+kernel
 unfold qG;simp only[ka];omega
theorem wD{w n:Str}{m:Nat}(hn:zE n=true)(hw:w.length<=6)(hm:m<=400):(yL w n (m:Int)).length<=20000:=by
 have l:=y8 hn;have l2:(numS (m:Int)).length<=3:=by rw[zV];exact yq (by omega) (by decide) (by omega)
 have lb:(Str.ofString " ").length=1:=by decide+kernel
 unfold yL;simp only[ka];omega
theorem rA(hn:zE n=true)(hh:IsHeap 60 (10^60) hs):jL (qG n hs)=some (Str.ofString "keeps",[.name n,.heap hs]) :=
 dA vk (by decide+kernel) (kN hn) (ja (by decide+kernel) n _) (yo hn).1 (by rw[rz,wP hh];rfl)
theorem cG(hn:zE n=true)(hm:sm<=400):jL (yL (Str.ofString "list ") n (sm:Int))=some (Str.ofString "list",[.name n,.num (sm:Int)]) :=
 dA qr (by decide+kernel) (kN hn) (dC (by decide+kernel) n _) (yo hn).1 (by rw[gT,ut (by omega) (by omega)];rfl)
theorem vI(hn:zE n=true)(hm:sm<=400):jL (yL (Str.ofString "count ") n (sm:Int))=some (Str.ofString "count",[.name n,.num (sm:Int)]) :=
 dA u4 (by decide+kernel) (kN hn) (dC (by decide+kernel) n _) (yo hn).1 (by rw[gT,ut (by omega) (by omega)];rfl)
theorem rP(hn:zE n=true)(hh:IsHeap 60 (10^60) hs)(h10:hs.length<=10)(hl:y9 S n=some r)(l6:r.length<=6)(h50:S.length<=50)(lp:p.length<=1000)(lu:u.length<=1000):xO S p u (qG n hs) (.inl (uF r hs)) S p u :=
 ⟨le_trans (dB hn hh h10) (by decide),h50,lp,lu,_,_,rA hn hh,.inl ⟨_,rfl,rfl,rfl,rfl,.inl ⟨rfl,n,r,hs,rfl,hl,by omega,rfl⟩⟩⟩
theorem nX(hn:zE n=true)(hm:sm<=24)(hl:y9 S n=some r)(l6:r.length<=6)(h50:S.length<=50)(lp:p.length<=1000)(lu:u.length<=1000):xO S p u (yL (Str.ofString "list ") n (sm:Int)) (.inl (jA r sm)) S p u :=
 ⟨le_trans (wD hn (by decide+kernel) (by omega)) (by decide),h50,lp,lu,_,_,cG hn (by omega),.inl ⟨_,rfl,rfl,rfl,rfl,.inr (.inr ⟨rfl,n,r,sm,rfl,hl,by omega,hm,rfl⟩)⟩⟩
theorem u7(hn:zE n=true)(hm:g<=400)(hl:y9 S n=some r)(hr:AskR r)(h50:S.length<=50)(lp:p.length<=1000)(lu:u.length<=1000):xO S p u (yL (Str.ofString "count ") n (g:Int)) (.inl (numS (wg r g))) S p u :=
 ⟨le_trans (wD hn (by decide+kernel) (by omega)) (by decide),h50,lp,lu,_,_,vI hn hm,.inl ⟨_,rfl,rfl,rfl,rfl,.inr (.inl ⟨rfl,n,r,g,rfl,hl,⟨hr.l6,hr.J,hm,uC hr.pos hm⟩,rfl⟩)⟩⟩
theorem aH(hr:AskR r)(hs24:sm<=24)(hg:g<=400):je n r hs sm g=[(qG n hs,.inl (uF r hs)),(yL (Str.ofString "list ") n (sm:Int),.inl (jA r sm)),(yL (Str.ofString "count ") n (sm:Int),.inl (numS (wg r sm))),(yL (Str.ofString "count ") n (g:Int),.inl (numS (wg r g)))]:=by
 unfold je;rw[u3 hg,oS hr.pos hs24];rfl
theorem jN{rest:List (Str×DueT)}(hn:zE n=true)(hh:IsHeap 60 (10^60) hs)(h10:hs.length<=10)(hm:sm<=24)(hg:g<=400)(hl:y9 S n=some r)(hr:AskR r)(h50:S.length<=50)(lp:p.length<=1000)(lu:u.length<=1000)(run:Runs S p u rest):Runs S p u (je n r hs sm g++rest):=by
 rw[aH hr hm hg];exact .cons (rP hn hh h10 hl hr.l6 h50 lp lu) (.cons (nX hn hm hl hr.l6 h50 lp lu) (.cons (u7 hn (by omega) hl hr h50 lp lu) (.cons (u7 hn hg hl hr h50 lp lu) run)))
theorem va{line wd:Str}{k:Str}{b:DArg}(hl:line.length<=20000)(hr:jL line=some (wd,[.name n,b]))(hf:zZ wd=some [Str.ofString "NAME",k])(hn:y9 S n=none)(h50:S.length<=50)(lp:p.length<=1000)(lu:u.length<=1000):xO S p u line (.inr n) S p u :=
 ⟨by omega,h50,lp,lu,_,_,hr,.inr (.inr (.inr ⟨_,n,hf,by rw[zB,if_pos ⟨rfl,hn⟩],rfl,rfl,rfl,rfl⟩))⟩
theorem nL{rest:List (Str×DueT)}(hn:zE n=true)(hh:IsHeap 60 (10^60) hs)(h10:hs.length<=10)(hm:sm<=24)(hg:g<=400)(hl:y9 S n=none)(h50:S.length<=50)(lp:p.length<=1000)(lu:u.length<=1000)(run:Runs S p u rest):Runs S p u ((je n r hs sm g).map (fun q=>(q.1,(.inr n:DueT)))++rest):=by
 unfold je;exact .cons (va (dB hn hh h10) (rA hn hh) vk hl h50 lp lu) (.cons (va (wD hn (by decide+kernel) (by omega)) (cG hn (by omega)) qr hl h50 lp lu) (.cons (va (wD hn (by decide+kernel) (by omega)) (vI hn (by omega)) u4 hl h50 lp lu) (.cons (va (wD hn (by decide+kernel) (by omega)) (vI hn hg) u4 hl h50 lp lu) run)))
end
theorem yf.perm{ns ms:List Str}{z:Str}(p:ns.Perm ms)(h:yf ns z):yf ms z:=by
 rcases h with⟨e,rfl⟩|⟨e,ss,p1,s1,rfl⟩
 ·subst e;exact .inl ⟨p.nil_eq.symm,rfl⟩
 ·exact .inr ⟨fun z=>e (by subst z;exact p.eq_nil),ss,p1.trans p,s1,rfl⟩
theorem yf.one(n:Str):yf [n] n:=.inr ⟨by simp,[n],List.Perm.refl _,rfl,by
 exact yG (by rw[show Str.ofString " "=(⟨#[32]⟩:Str)from kH];exact(jY 32 [n]).symm)⟩
def Sm8(rule:List (List Int)):Prop:=∀ h∈rule,∀x∈h,x<=8
theorem xr{K:W.Frag}{H:Hp}{p:Addr}{rs:List V}{rule:List (List Int)}{n:Nat}{Q:VK}(h:RuleAt H p rs rule)(k:∀q H',RuleAt H' q (rs.take n) (rule.take n)->Same H H'->Q (.ref q) H'):Ya K (.ref p) none (some (n:Int)) H Q:=by
 refine wz h.at_ fun q H' gq s=>k q H' ⟨?_,(h.h2.take n).mv s.tups,by rw[length_take];have:=h.ln;omega,fun z hz=>h.gd z (List.mem_of_mem_take hz)⟩ s;rw[pT]at gq;rcases Nat.le_total n rs.length with c|c
 ·rw[Nat.min_eq_left c]at gq;exact gq
 ·rw[Nat.min_eq_right c,take_of_length_le (le_refl _)]at gq;rw[take_of_length_le c];exact gq
theorem tz{H:Hp}{p:Addr}{rs:List V}{rule:List (List Int)}(h:RuleAt H p rs rule)(h8:Sm8 rule):rT rule:=⟨h.ln,fun x hx=>⟨(h.gd x hx).ln,le_trans (h.gd x hx).ln (by decide),fun y hy=>⟨((h.gd x hx).bd y hy).1,Int.lt_of_le_of_lt (h8 x hx y hy) (by decide)⟩,(h.gd x hx).pw⟩⟩
theorem bo{H:Hp}{p:Addr}{rs:List V}{rule:List (List Int)}(h:RuleAt H p rs rule):AskR rule:=⟨h.ln,h.J,fun x hx y hy=>((h.gd x hx).bd y hy).1⟩
theorem catC{H:Hp}{a b:Addr}{xs ys:List V}{r1 r2:List (Str×DueT)}{Q:VK}(ga:H a=some (.lst xs))(A:All2 RowD H r1 xs)(gb:H b=some (.lst ys))(B:All2 RowD H r2 ys)(hl:r1.length+r2.length<=200)(k:∀p H',H' p=some (.lst (xs++ys))->All2 RowD H' (r1++r2) (xs++ys)->Same H H'->H p=none->Q (.ref p) H'):rCat (.ref a) (.ref b) H Q:=by
 have l1:=A.length;have l2:=B.length;refine⟨a,b,xs,ys,rfl,rfl,ga,gb,le_trans (m:=200) (by omega) (by decide),fun p hp=>k p _ z6 ?_ (Same.new hp) hp⟩;exact(A.append B).imp fun _ _ z=>z.mv (Same.new hp).tups
theorem nJ(n:Str)(r:List (List Int))(h:List Int)(s g:Nat):(je n r h s g).length=4:=rfl
theorem All2.mvD{H H':Hp}{r:List (Str×DueT)}{xs:List V}(a:All2 RowD H r xs)(t:Tups H H'):All2 RowD H' r xs:=a.imp fun _ _ z=>z.mv t
theorem mk1{H:Hp}{t l:Addr}{z u:Str}(ht:H t=none)(hl:upd H t (.tup [.str z,.str u]) l=none):Same H (upd (upd H t (.tup [.str z,.str u])) l (.lst [.ref t]))/\All2 RowD (upd (upd H t (.tup [.str z,.str u])) l (.lst [.ref t])) [(z,.inl u)] [.ref t] :=
 ⟨(Same.new ht).trans (Same.new hl),.cons ⟨t,_,rfl,Same.new hl _ _ z6,rfl⟩ .nil⟩
theorem mk2{H:Hp}{t t' l:Addr}{z u z' u':Str}(ht:H t=none)(ht':upd H t (.tup [.str z,.str u]) t'=none)(hl:upd (upd H t (.tup [.str z,.str u])) t' (.tup [.str z',.str u']) l=none):Same H (upd (upd (upd H t (.tup [.str z,.str u])) t' (.tup [.str z',.str u'])) l (.lst [.ref t,.ref t']))/\All2 RowD (upd (upd (upd H t (.tup [.str z,.str u])) t' (.tup [.str z',.str u'])) l (.lst [.ref t,.ref t'])) [(z,.inl u),(z',.inl u')] [.ref t,.ref t'] :=
 ⟨(Same.new ht).trans ((Same.new ht').trans (Same.new hl)),.cons ⟨t,_,rfl,(Same.new ht').trans (Same.new hl) _ _ z6,rfl⟩ (.cons ⟨t',_,rfl,Same.new hl _ _ z6,rfl⟩ .nil)⟩
theorem iG{K K':W.Frag}{a:Addr}{xs:List V}{rows:List (Str×DueT)}{te:TE}{tl:List (Option V)}{σ0:L2.St}{H:Hp}{Q:VK}(n:Str)(hle:rows.length<=200)(h0:σ0=none::none::tl)(h:H a=some (.lst xs))(h2:All2 RowD H rows xs)(step:∀(z:Str) (u:V) (H':Hp) (P:VK),Same H H'->(∀q d H'',Same H' H''->H'' q=some (.tup [.str z,.ref d])->H'' d=some (.tup [.str (Str.ofString "name"),.str n])->P (.ref q) H'')->te (some (.str z)::some u::tl) H' P)(hd:∀zs H' p,Same H H'->All2 RowD H' (rows.map fun q=>(q.1,(.inr n:DueT))) zs->H' p=none->Q (.ref p) (upd H' p (.lst zs))):uj (gTup K' 2 (ZK (kc 0) (ZK (kc 1) gNil))) tYes te σ0 (Itl K a) H Q:=by
 subst h0;have hl:=h2.length;have hb:(rows.map fun q=>(q.1,(.inr n:DueT))).length=rows.length:=length_map ..;refine yt (xs:=xs) (fun j zs σ' H'=>Same H H'/\(∃v w,σ'=v::w::tl)/\All2 RowD H' ((rows.map fun q=>(q.1,(.inr n:DueT))).take j) zs/\j<=rows.length) ⟨Same.refl _,⟨_,_,rfl⟩,.nil,zero_le _⟩ ?_ ?_ ?_
 ·rintro j zs σ' H' hj ⟨s',_,a2,hj'⟩;refine⟨SqL.of (s' _ _ h),?_⟩;rw[<-a2.length,length_take];exact le_trans (Nat.min_le_right _ _) (by rw[hb];exact le_trans hle (by decide))
 ·rintro j x zs σ' H' hx ⟨s',⟨v,w,rfl⟩,a2,hj'⟩;obtain⟨pc,hpc,q,u,rfl,g1,g2⟩:=h2.get hx;have hj:j<rows.length:=(List.getElem?_eq_some_iff.mp hpc).1;refine⟨q,_,rfl,SqT.of (s' _ _ g1),rfl,_,_,rfl,_,_,rfl,rfl,?_⟩;refine step pc.1 u H' _ s' fun q' d H'' s'' e1 e2=>?_;refine⟨s'.trans s'',⟨_,_,rfl⟩,?_,hj⟩;rw[take_succ,getElem?_map,hpc];exact(a2.mvD s''.tups).snoc ⟨q',_,rfl,e1,d,rfl,e2⟩
 ·rintro zs σ' H' ⟨s',_,a2,_⟩ p hp;rw[<-hl,<-hb,take_length]at a2;exact hd zs H' p s' a2 hp
theorem iN{S:Std}{n:Str}{r r':List (List Int)}{deed:Str}(h:ir n r r' deed)(hR:rT r)(hn:zE n=true)(hl:y9 S n=some r):deed.length<=20000/\ ∃wd as,jL deed=some (wd,as)/\fo S wd as n r':=by
 have h6:=hR.1;have l:=y8 hn;have lb:(Str.ofString " ").length=1:=by decide+kernel
 rcases h with⟨_,k,hk,rfl,rfl⟩|⟨_,l6,h,hh,rfl,rfl⟩
 ·refine⟨?_,_,[.name n,.num (k:Int)],dA qu (by decide+kernel) (kN hn) (ja (by decide+kernel) n _) (yo hn).1 ?_,.inr (.inr (.inl ⟨rfl,k,r,rfl,hl,hk,by omega,rfl⟩))⟩
  ·have lw:(Str.ofString "take ").length=5:=by decide+kernel
   have l2:(numS (k:Int)).length<=3:=by rw[zV];exact yq (by omega) (by decide) (by omega)
   simp only[ka];omega
  ·rw[gT,ut (by omega) (by omega)];rfl
 ·refine⟨?_,_,[.name n,.heap h],dA tw (by decide+kernel) (kN hn) (ja (by decide+kernel) n _) (yo hn).1 ?_,.inr (.inl ⟨rfl,h,r,rfl,hl,l6,rfl⟩)⟩
  ·have lw:(Str.ofString "add ").length=4:=by decide+kernel
   have l2:(txt h).length<=10000:=uw (by omega) fun x hx=>⟨(hh.2.bd x hx).1,le_of_lt (hh.2.bd x hx).2⟩;simp only[ka];omega
  ·rw[rz,wP hh.2];rfl
theorem qd{S:Std}{p u:List Std}{line wd n:Str}{as:List DArg}{r:List (List Int)}{S':Std}{rest:List (Str×DueT)}(hz:line.length<=20000)(hr:jL line=some (wd,as))(hp:fo S wd as n r)(hf:mL r)(h50:S.length<=50)(lp:p.length<=1000)(lu:u.length<=1000)(e:putS S n r=S')(run:Runs S' (p++[S]) [] rest):Runs S p u ((line,.inl (rtxt r))::rest) :=
 .cons ⟨by omega,h50,lp,lu,wd,as,hr,.inr (.inl ⟨n,r,hp,hf,rfl,e.symm,rfl,rfl⟩)⟩ run
theorem wR{S S':Std}{p u p' u':List Std}{line wd t:Str}{as:List DArg}{rest:List (Str×DueT)}(hz:line.length<=20000)(hr:jL line=some (wd,as))(hm:mM S p u wd as S' p' u')(hn:mO S')(hl:S'.length<64)(ht:yf (S'.map (·.1)) t)(h50:S.length<=50)(lp:p.length<=1000)(lu:u.length<=1000)(run:Runs S' p' u' rest):Runs S p u ((line,.inl t)::rest) :=
 .cons ⟨by omega,h50,lp,lu,wd,as,hr,.inr (.inr (.inl ⟨t,hm,hn,hl,ht,rfl⟩))⟩ run
noncomputable def vv(m0 m1 deed zb:Str)(rule other new:List (List Int))(hs:List Int)(s g:Nat):List (Str×DueT) :=
 ((((((((((((([(((Str.ofString "rule "++m1)++Str.ofString " ")++rtxt other,.inl (rtxt other))]++[(((Str.ofString "rule "++m0)++Str.ofString " ")++rtxt rule,.inl (rtxt rule))])++je m0 rule hs s g)++je m1 other hs s g)++[(deed,.inl (rtxt new))])++je m0 new hs s g)++[(Str.ofString "undo",.inl zb)])++je m0 rule hs s g)++[(Str.ofString "again",.inl zb)])++je m0 new hs s g)++[(((Str.ofString "copy "++m1)++Str.ofString " ")++m0,.inl (rtxt other))])++je m0 other hs s g)++[(Str.ofString "drop "++m0,.inl m1)])++(je m0 rule hs s g).map fun q=>(q.1,(.inr m0:DueT)))++[(Str.ofString "undo",.inl zb),(Str.ofString "undo",.inl zb)]
theorem Kn{m0 m1 deed zb:Str}{rule other new:List (List Int)}{hs:List Int}{s g:Nat}(hm0:zE m0=true)(hm1:zE m1=true)(ne:m0≠m1)(hd:ir m0 rule new deed)(A0:AskR rule)(A1:AskR other)(A2:AskR new)(H0:rT rule)(H1:rT other)(H2:rT new)(hh:IsHeap 60 (10^60) hs)(h10:hs.length<=10)(hs24:s<=24)(hg:g<=400)(hb:yf [m0,m1] zb) :
  Runs [] [] [] ((vv m0 m1 deed zb rule other new hs s g++(je m0 new hs s g).drop 2)++(je m1 other hs s g).take 1):=by
 have ne':m1≠m0:=ne.symm;have lm0:=y8 hm0;have lm1:=y8 hm1;have lb:(Str.ofString " ").length=1:=by decide+kernel
 have lru:(Str.ofString "rule ").length=5:=by decide+kernel
 have lcp:(Str.ofString "copy ").length=5:=by decide+kernel
 have ldr:(Str.ofString "drop ").length=5:=by decide+kernel
 have lt0:=uT H0.1 H0.fine.2;have lt1:=uT H1.1 H1.fine.2;have hb':yf [m1,m0] zb:=hb.perm (List.Perm.swap _ _ _);have e2:putS [(m1,other)] m0 rule=std2 m1 m0 (other,rule):=by
  unfold putS std2;simp[ne']
 have l2:∀p:Rul2,(std2 m1 m0 p).length<=50:=fun _=>by show 2<=50;decide
 have n2:∀p:Rul2,mO (std2 m1 m0 p):=fun p q hq=>by
  have:q=(m1,p.1)\/q=(m0,p.2):=by simpa [std2]using hq
  rcases this with rfl|rfl
  ·exact lm1.2
  ·exact lm0.2
 have e5:bO (std2 m1 m0 (other,other)) m0=[(m1,other)]:=by
  unfold bO std2;simp[ne']
 have n1:mO [(m1,other)]:=fun q hq=>by rw[List.mem_singleton.mp hq];exact lm1.2
 have g5:y9 [(m1,other)] m0=none:=by
  unfold y9;simp[ne']
 have k3:(3:Nat)<=1000:=by decide
 have ru:jL (Str.ofString "undo")=some (Str.ofString "undo",[]):=YH qv (by decide+kernel);have ra:jL (Str.ofString "again")=some (Str.ofString "again",[]):=YH vj (by decide+kernel);have lu:(Str.ofString "undo").length<=20000:=by decide+kernel
 have la:(Str.ofString "again").length<=20000:=by decide+kernel
 unfold vv;simp only[append_assoc,List.cons_append,List.nil_append];refine qd (n:=m1) (by simp only[ka];omega) (dA qt (by decide+kernel) (kN hm1) (ja (by decide+kernel) m1 _) (yo hm1).2 H1.reads) (.inl ⟨rfl,rfl⟩) H1.fine (by decide) (by decide) (by decide) (S':=[(m1,other)]) rfl ?_;refine qd (n:=m0) (by simp only[ka];omega) (dA qt (by decide+kernel) (kN hm0) (ja (by decide+kernel) m0 _) (yo hm0).2 H0.reads) (.inl ⟨rfl,rfl⟩) H0.fine (by show 1<=50;decide) (by show 1<=1000;decide) (by decide) e2 ?_;refine jN hm0 hh h10 hs24 hg (yJ ne' _) A0 (l2 _) (by show 2<=1000;decide) (by decide) ?_;refine jN hm1 hh h10 hs24 hg (vN _ _ _) A1 (l2 _) (by show 2<=1000;decide) (by decide) ?_;obtain⟨ld,wd,as,hr,hp⟩:=iN (S:=std2 m1 m0 (other,rule)) hd H0 hm0 (yJ ne' _);refine qd (n:=m0) ld hr hp H2.fine (l2 _) (by show 2<=1000;decide) (by decide) (b8 ne' _ _) ?_;refine jN hm0 hh h10 hs24 hg (yJ ne' _) A2 (l2 _) (by show 3<=1000;decide) (by decide) ?_;refine wR (S':=std2 m1 m0 (other,rule)) (p':=[[],[(m1,other)]]) (u':=[std2 m1 m0 (other,new)]) lu ru (.inr (.inl ⟨rfl,rfl,rfl,rfl⟩)) (n2 _) (by show 2<64;decide) hb' (l2 _) (by show 3<=1000;decide) (by decide) ?_;refine jN hm0 hh h10 hs24 hg (yJ ne' _) A0 (l2 _) (by show 2<=1000;decide) (by show 1<=1000;decide) ?_;refine wR (S':=std2 m1 m0 (other,new)) (p':=[[],[(m1,other)],std2 m1 m0 (other,rule)]) (u':=[]) la ra (.inr (.inr ⟨rfl,rfl,rfl,rfl⟩)) (n2 _) (by show 2<64;decide) hb' (l2 _) (by show 2<=1000;decide) (by show 1<=1000;decide) ?_;refine jN hm0 hh h10 hs24 hg (yJ ne' _) A2 (l2 _) (by show 3<=1000;decide) (by decide) ?_;refine qd (n:=m0) (by simp only[ka];omega) (dA de (by decide+kernel) (kN hm1) (ja (by decide+kernel) m1 m0) (yo hm1).1 (yo hm0).2) (.inr (.inr (.inr ⟨rfl,m1,rfl,vN _ _ _⟩))) H1.fine (l2 _) (by show 3<=1000;decide) (by decide) (b8 ne' _ _) ?_;refine jN hm0 hh h10 hs24 hg (yJ ne' _) A1 (l2 _) (by show 4<=1000;decide) (by decide) ?_;refine wR (S':=[(m1,other)]) (p':=[[],[(m1,other)],std2 m1 m0 (other,rule),std2 m1 m0 (other,new),std2 m1 m0 (other,other)]) (u':=[]) (by simp only[ka];omega) (Ja df (by decide+kernel) (nz (by decide+kernel) m0) (yo hm0).1) (.inl ⟨rfl,m0,_,rfl,yJ ne' _,e5.symm,rfl,rfl⟩) n1 (by show 1<64;decide) (yf.one m1) (l2 _) (by show 4<=1000;decide) (by decide) ?_;refine nL hm0 hh h10 hs24 hg g5 (by show 1<=50;decide) (by show 5<=1000;decide) (by decide) ?_;refine wR (S':=std2 m1 m0 (other,other)) (p':=[[],[(m1,other)],std2 m1 m0 (other,rule),std2 m1 m0 (other,new)]) (u':=[[(m1,other)]]) lu ru (.inr (.inl ⟨rfl,rfl,rfl,rfl⟩)) (n2 _) (by show 2<64;decide) hb' (by show 1<=50;decide) (by show 5<=1000;decide) (by decide) ?_;refine wR (S':=std2 m1 m0 (other,new)) (p':=[[],[(m1,other)],std2 m1 m0 (other,rule)]) (u':=[[(m1,other)],std2 m1 m0 (other,other)]) lu ru (.inr (.inl ⟨rfl,rfl,rfl,rfl⟩)) (n2 _) (by show 2<64;decide) hb' (l2 _) (by show 4<=1000;decide) (by show 1<=1000;decide) ?_;rw[aH A2 hs24 hg,aH A1 hs24 hg];have u2:([[(m1,other)],std2 m1 m0 (other,other)]:List Std).length<=1000:=by show 2<=1000;decide
 exact .cons (u7 hm0 (by omega) (yJ ne' _) A2 (l2 _) k3 u2) (.cons (u7 hm0 hg (yJ ne' _) A2 (l2 _) k3 u2) (.cons (rP hm1 hh h10 (vN _ _ _) A1.l6 (l2 _) k3 u2) (.nil _ _ _)))
theorem qH(m0 m1 deed zb:Str)(rule other new:List (List Int))(hs:List Int)(s g:Nat):(vv m0 m1 deed zb rule other new hs s g).length=37:=by
 unfold vv;simp only[length_append,length_cons,List.length_nil,length_map,nJ]
end L2
set_option maxHeartbeats 4000000
namespace My
open PySem PySem.Spec PyProof.Rows L2
local macro_rules | `(tactic| walk_at "n")=>`(tactic| (intro vs H Q E h; first | (cases h; subst_vars; rfl) | repeat first | (obtain ⟨e,_⟩:=h; cases e; rfl) | (cases h; rfl) | obtain ⟨_,h⟩:=h))
local macro_rules | `(tactic| walk_at "o")=>`(tactic| first | exact (Int.toNat_of_nonneg (by assumption)).symm | exact Nat.le_trans (by assumption) (by decide) | omega)
local macro_rules | `(tactic| walk_at "b")=>`(tactic| (simp only [ka,yu]; omega))
def top(i:Nat):Stmt:=PySem.Challenge.pw_shutpairs_k48_what_keeps_on_the_desk.main.body.getD i (.Pass ⟨0,0,0,0⟩)
abbrev yB:Stmt:=top 104
abbrev rC:Stmt:=top 106
abbrev xg:Stmt:=top 105
abbrev kE:Stmt:=top 107
abbrev zR:Stmt:=top 113
abbrev xh:Stmt:=top 114
abbrev yj:Stmt:=top 115
abbrev ym:Stmt:=top 116
abbrev xj:Stmt:=top 119
abbrev yV:Stmt:=top 108
abbrev pb:Stmt:=top 110
abbrev yA:Stmt:=top 111
abbrev uV:Stmt:=top 109
abbrev yP:Stmt:=top 112
abbrev yQ:Stmt:=top 120
abbrev zX:Stmt:=top 121
abbrev cL:Stmt:=top 118
abbrev jf:Stmt:=top 61
abbrev jl:Stmt:=top 64
abbrev cM:Stmt:=top 19
abbrev yD:Stmt:=top 62
abbrev ji:Stmt:=top 63
abbrev jk:Stmt:=top 65
abbrev jj:Stmt:=top 82
abbrev uX:Stmt:=top 83
abbrev pf:Stmt:=top 84
abbrev kF:Stmt:=top 85
abbrev jO:Stmt:=wB (top 15) 0
abbrev jQ:Stmt:=top 86
abbrev pj:Stmt:=top 91
abbrev ue:Stmt:=wB (top 102) 1
abbrev uU:Stmt:=wB (top 102) 2
abbrev uf:Stmt:=wB (top 102) 3
abbrev ug:Stmt:=wB (top 102) 4
abbrev wT:Stmt:=wB (top 102) 5
abbrev xn:Stmt:=top 92
abbrev nP:Stmt:=top 21
abbrev cN:Stmt:=top 22
abbrev wa:Stmt:=top 39
abbrev rE:Stmt:=top 40
abbrev pi:Stmt:=top 93
abbrev eX:Stmt:=top 20
abbrev yC:Stmt:=top 28
abbrev pd:Stmt:=top 29
abbrev uh:Stmt:=top 23
abbrev u6:Stmt:=top 24
abbrev jg:Stmt:=top 30
abbrev wU:Stmt:=top 36
abbrev cP:Stmt:=top 49
abbrev rF:Stmt:=top 55
abbrev cQ:Stmt:=top 56
abbrev rD:Stmt:=top 57
abbrev ph:Stmt:=top 94
abbrev nN:Stmt:=top 41
abbrev ki:Stmt:=top 45
abbrev uW:Stmt:=top 46
abbrev jh:Stmt:=top 47
abbrev jm:Stmt:=top 95
abbrev cO:Stmt:=top 87
abbrev pe:Stmt:=top 90
abbrev xk:Stmt:=top 88
abbrev xm:Stmt:=top 89
abbrev xa:Stmt:=wB (top 102) 6
abbrev xi:Stmt:=top 122
abbrev rB:Stmt:=top 123
abbrev jP:Stmt:=top 124
abbrev wS:Stmt:=wB (top 102) 0
abbrev nO:Stmt:=top 125
def vJ:List (Str×List Str):=[("rule",["FREE","RULE"]),("add",["NAME","HEAP"]),("take",["NAME","NUMBER"]),("copy",["NAME","FREE"]),("drop",["NAME"]),("undo",[]),("again",[]),("names",[]),("show",["NAME"]),("keeps",["NAME","HEAP"]),("count",["NAME","NUMBER"]),("list",["NAME","NUMBER"]),("match",["NAME","NAME"]),("send",["NAME","NAME","HEAP"]),("steps",["NAME","NAME","HEAP"])]
def rS:List Str:=["rule","add","take","copy"]
def rR:List Str:=["names","show","keeps","count","list","match","send","steps"]
set_option genInjectivity false in
structure Adr where
 (a0 a1 a2 a3 a4 a5 a6 a7 a8 a9 a10 a11 a12 a13 a14 a15 a16 a17 a18 a19 a20 a21 a22 a23 a24 a25 a26 a27 a28 a29 a30 a31 a32 a33 a34 a35 a36 a37 a38 a39 a40 a41 a42 a43 a44 a45 a46 a47 a48 a49 a50 a51 a52 a53 a54 a55 a56 a57 a58 a59 a60 a61 a62 a63 a64 a65 a66 a67 w0 w1 w2 w3 w4 w5 w6 w7 w8 w9 w10 w11:Addr)
 (f0 f1 f2 f3 f4 f5 f6 f7 f8 f9 f10 f11 f12 f13 f14 f15 f16 f17 f18 f19 f20 f21 f22 f23 f24 f25 f26 f27 f28 f29 f30 f31 f32 f33 f34 f35 f36 f37 f38 f39 f40 f41 f42 f43 f44 f45 f46 f47 f48 f49 f50 f51 f52 f53 f54 f55 f56 f57 f58 f59 f60 f61 f62 f63 f64 f65 f66 f67:FuncData)
set_option genInjectivity false in
structure Txt(P:Program)(w:World)(K:W.Frag)(mg:Str->Option Value)(A:Adr):Prop where
 x0:FB K mg "_law_start" yB A.a0 A.f0 ["_law_script"]
 x1:FB K mg "_law_mix" rC A.a1 A.f1 ["_law_state"]
 x2:FB K mg "_law_draw" xg A.a2 A.f2 ["_law_state","_law_many"]
 x3:FB K mg "_law_heap" kE A.a3 A.f3 ["_law_state","_law_size","_law_top"]
 x4:FB K mg "_law_raw_rule" zR A.a4 A.f4 ["_law_state","_law_many","_law_size","_law_top"]
 x5:FB K mg "_law_name" xh A.a5 A.f5 ["_law_state","_law_known"]
 x6:FB K mg "_law_heap_text" yj A.a6 A.f6 ["_law_heap_here"]
 x7:FB K mg "_law_rule_text" ym A.a7 A.f7 ["_law_rule"]
 x8:FB K mg "_law_ways" xj A.a8 A.f8 ["_law_bound"]
 x9:FB K mg "_law_lies" yV A.a9 A.f9 ["_law_one","_law_other"]
 x10:FB K mg "_law_first" pb A.a10 A.f10 ["_law_rule","_law_heap_here"]
 x11:FB K mg "_law_partings" yA A.a11 A.f11 ["_law_n","_law_top"]
 x12:FB K mg "_law_joined" uV A.a12 A.f12 ["_law_heaps"]
 x13:FB K mg "_law_choices" yP A.a13 A.f13 ["_law_many"]
 x14:FB K mg "_law_kept_by" yQ A.a14 A.f14 ["_law_ways_here","_law_rule","_law_n"]
 x15:FB K mg "_law_rows" zX A.a15 A.f15 ["_law_name_here","_law_rule","_law_heap_here","_law_small","_law_great","_law_ways_here"]
 x16:FB K mg "_law_is" cL A.a16 A.f16 ["_law_found","_law_due"]
 x17:FB K mg "heap_text" jf A.a17 A.f17 ["heap"]
 x18:FB K mg "rule_text" jl A.a18 A.f18 ["rule"]
 x19:FB K mg "heap_of" cM A.a19 A.f19 ["parts"]
 x20:FB K mg "writes_number" yD A.a20 A.f20 ["word"]
 x21:FB K mg "read_heap" ji A.a21 A.f21 ["text"]
 x22:FB K mg "read_rule" jk A.a22 A.f22 ["text"]
 x23:FB K mg "read_name" jj A.a23 A.f23 ["piece"]
 x24:FB K mg "read_number" uX A.a24 A.f24 ["piece"]
 x25:FB K mg "read_piece" pf A.a25 A.f25 ["kind","piece"]
 x26:FB K mg "read_line" kF A.a26 A.f26 ["line"]
 x28:FB K mg "refuse_nameless" jQ A.a28 A.f28 ["standing","word","given"]
 x29:FB K mg "tell_names" pj A.a29 A.f29 ["standing","given"]
 x35:FB K mg "tell_rule" xn A.a35 A.f35 ["standing","given"]
 x36:FB K mg "often" nP A.a36 A.f36 ["heap","part"]
 x37:FB K mg "lies_in" cN A.a37 A.f37 ["one","other"]
 x38:FB K mg "all_in" wa A.a38 A.f38 ["rule","heap"]
 x39:FB K mg "first_in" rE A.a39 A.f39 ["rule","heap"]
 x40:FB K mg "tell_keeps" pi A.a40 A.f40 ["standing","given"]
 x41:FB K mg "sum_of" eX A.a41 A.f41 ["heap"]
 x42:FB K mg "choices_among" yC A.a42 A.f42 ["numbers"]
 x43:FB K mg "choices_of" pd A.a43 A.f43 ["rule"]
 x44:FB K mg "unlike_parts" uh A.a44 A.f44 ["heaps"]
 x45:FB K mg "joined" u6 A.a45 A.f45 ["heaps"]
 x46:FB K mg "joined_of" jg A.a46 A.f46 ["rule","choice"]
 x47:FB K mg "refuse_beyond" wU A.a47 A.f47 ["n","most"]
 x48:FB K mg "sign_of" cP A.a48 A.f48 ["pair"]
 x49:FB K mg "next_way" rF A.a49 A.f49 ["ways"]
 x50:FB K mg "ways_to" cQ A.a50 A.f50 ["n"]
 x51:FB K mg "count_of" rD A.a51 A.f51 ["rule","n"]
 x52:FB K mg "tell_count" ph A.a52 A.f52 ["standing","given"]
 x53:FB K mg "keeps" nN A.a53 A.f53 ["rule","heap"]
 x54:FB K mg "partings_to" ki A.a54 A.f54 ["n","greatest"]
 x55:FB K mg "partings_of" uW A.a55 A.f55 ["n"]
 x56:FB K mg "kept_of" jh A.a56 A.f56 ["rule","n"]
 x57:FB K mg "tell_list" jm A.a57 A.f57 ["standing","given"]
 x58:FB K mg "put_new" cO A.a58 A.f58 ["standing","given"]
 x59:FB K mg "put_copied" pe A.a59 A.f59 ["standing","given"]
 x60:FB K mg "put_added" xk A.a60 A.f60 ["standing","given"]
 x61:FB K mg "put_taken" xm A.a61 A.f61 ["standing","given"]
 x63:FB K mg "_law_told" xi A.a63 A.f63 ["_law_desk","_law_line"]
 x64:FB K mg "_law_all" rB A.a64 A.f64 ["_law_desk","_law_rows_here"]
 x65:FB K mg "_law_asked_heap" jP A.a65 A.f65 ["_law_state","_law_rule"]
 x67:FB K mg "law" nO A.a67 A.f67 ["_law_script"]
 w0:mg "all"=none
 w1:mg "dict"=none
 w2:mg "enumerate"=none
 w3:mg "int"=none
 w4:mg "isinstance"=none
 w5:mg "len"=none
 w6:mg "list"=none
 w7:mg "max"=none
 w8:mg "min"=none
 w9:mg "range"=none
 w10:mg "sorted"=none
 w11:mg "str"=none
 w12:mg "sum"=none
 w13:mg "tuple"=none
 w14:mg "zip"=none
 w15:∃t,mg "MOST_PARTS"=some (.int 60 t)
 w16:∃t,mg "MOST_HEAPS"=some (.int 6 t)
 w17:∃t,mg "MOST_LISTED"=some (.int 24 t)
 w18:∃t,mg "MOST_COUNTED"=some (.int 400 t)
 w19:∃t,mg "FIGURES"=some (.str (Str.ofString "0123456789") t)
 w20:∃t,mg "MOST_FIGURES_texts"=some (.int 60 t)
 w21:∃t,mg "LETTERS"=some (.str (Str.ofString "abcdefghijklmnopqrstuvwxyz") t)
 w22:∃t,mg "MOST_LETTERS"=some (.int 8 t)
 w23:∃t,mg "MOST_FIGURES_desk"=some (.int 9 t)
 kin:∃h,K.In h
 w24:mg "NoHeap"=some (.ref A.w0)
 w25:mg "NoText"=some (.ref A.w1)
 w26:mg "NoRule"=some (.ref A.w2)
 w27:mg "NoSum"=some (.ref A.w3)
 w28:mg "NoPlace"=some (.ref A.w4)
 w29:mg "NoLine"=some (.ref A.w5)
 w30:mg "NoName"=some (.ref A.w6)
 w31:mg "NothingLeft"=some (.ref A.w7)
 w32:mg "Desk"=some (.ref A.w8)
 w33:ExcC K A.w4
 w34:ExcC K A.w2
 w35:ExcC K A.w1
 w36:ExcC K A.w7
 w37:ClsE K A.w1
 w38:ClsE K A.w2
 w39:ClsE K A.w4
 w40:ClsE K A.w6
 w41:ClsE K A.w7
 w42:W.mroIn K A.w1 (.ref A.w1)=some true
 w43:W.mroIn K A.w6 (.ref A.w6)=some true
 x27:MB K A.w6 "__init__" "NoName.__init__" jO A.a27 A.f27 ["self","name"]
 x30:MB K A.w8 "do_deed" "Desk.do_deed" ue A.a30 A.f30 ["self","standing"]
 x31:MB K A.w8 "do_put" "Desk.do_put" uU A.a31 A.f31 ["self","name","rule"]
 x32:MB K A.w8 "do_drop" "Desk.do_drop" uf A.a32 A.f32 ["self","name"]
 x33:MB K A.w8 "do_undo" "Desk.do_undo" ug A.a33 A.f33 ["self"]
 x34:MB K A.w8 "do_again" "Desk.do_again" wT A.a34 A.f34 ["self"]
 x62:MB K A.w8 "tell" "Desk.tell" xa A.a62 A.f62 ["self","line"]
 x66:MB K A.w8 "__init__" "Desk.__init__" wS A.a66 A.f66 ["self"]
 w44:Cls K A.w8
 w45:Mk K A.w8 A.a66
 w46:kX K A.w8 "past"
 w47:kX K A.w8 "standing"
 w48:kX K A.w8 "undone"
 w49:kX K A.w6 "name"
 w50:ExcI K A.w6 A.a27
 w51:ClsX K A.w6
 w52:mg "FORMS"=some (.ref A.w9)
 w53:mg "PUTS"=some (.ref A.w10)
 w54:mg "ASKS"=some (.ref A.w11)
 w55:iu P w K A.w9 vJ
 w56:KFns P w K A.w10 rS [("rule",A.a58),("add",A.a60),("take",A.a61),("copy",A.a59)]
 w57:KFns P w K A.w11 rR [("names",A.a29),("show",A.a35),("keeps",A.a40),("count",A.a52),("list",A.a57)]
section
variable{P:Program}{w:World}{K:W.Frag}{mg:Str->Option Value}{base:Heap}{A:Adr}
def wH:List Str:=["_law_script","_law_great"]
theorem v6:FnScope wH ["_law_script"] (z7 yB):=FS
inductive sp_start(K:W.Frag)(vs:List V)(H:Hp)(Q:VK)(E:XK):Prop
 |mk (a:Addr) (ns:List Int):vs=[.ref a]->SqL K H a (ns.map V.int)->ns.length<=63->(∀(st ga ca:Addr)(H':Hp),StAt H' st ga ca 0->H st=none->H ga=none->H ca=none->Same H H'->Q (.ref st) H')->sp_start K vs H Q E
theorem tW(T:Txt P w K mg A):FnOk P w K mg base CX0 1 A.a0 A.f0 ["_law_script"] (sp_start K):=by
 refine T.x0.F.ok v6 (by walk_at "n") fun _ _ _ s H vs Q E hr h=>?_
 ·obtain⟨a,ns,rfl,hS,hl,k⟩:=h;refine⟨_,(z8 (aF (i:=1) (ls:=["_law_cell"]) (fr:=[]) (csf (z7 yB) wH) rfl (zT (pv 0)) (fun _ _ _ _=>pgc 0 (by decide+kernel) rfl rfl) (fun _ _ _ _=>eR (zi sr (pvc (z7 yB) 0) (zu YN zc zc) (zA _))) (fun _ _ _ _=>(pvc (z7 yB) 0)) v6.nd rfl rfl rfl)
    (z9 (zo (yd (zW (pv 1) (pa3 zc (zP (ls:=["_law_cell"]) (fr:=[]) (csf (z7 yB) wH) rfl (zT (pv 0)) (fun _ _ _ _=>pgc 0 (by decide+kernel) rfl rfl) (fun _ _ _ _=>yy) (fun _ _ _ _=>(zu p9 (pvc (z7 yB) 0) zc))) zc)))))),?_⟩
  refine⟨_,rfl,a,rfl,⟨_,hS⟩,yt (xs:=ns.map V.int) (fun i ys σ' H'=>H'=H/\(∃v,σ'=[v])/\ ∃gs:List Int,ys=gs.map V.int/\gs.length<=i/\ ∀x∈gs,0<x) ⟨rfl,⟨_,rfl⟩,[],rfl,zero_le _,fun _ hx=>nomatch hx⟩ ?_ ?_ ?_⟩
  ·rintro i ys σ' H' hi ⟨rfl,_,gs,rfl,hg,_⟩;refine⟨hS,?_⟩;rw[length_map]at hi ⊢;exact le_trans (le_trans hg (le_trans hi hl)) (by decide)
  ·rintro i x ys σ' H' hx ⟨rfl,⟨v,rfl⟩,gs,rfl,hg,hp⟩;rw[getElem?_map]at hx;cases hn:ns[i]? with
   |none=>rw[hn]at hx;cases hx
   |some z =>
    rw[hn]at hx;cases hx;refine⟨_,rfl,_,_,rfl,rfl,⟨by decide,by decide,by decide⟩,_,_,rfl,rfl,_,rfl,?_⟩;refine ite2 (fun hz=>⟨_,rfl,rfl,⟨_,rfl⟩,gs++[z],by simp,by simp;exact hg,fun y hy=>?_⟩) (fun hz=>⟨rfl,⟨_,rfl⟩,gs,rfl,Nat.le_succ_of_le hg,hp⟩);rcases mem_append.mp hy with hy|hy
    ·exact hp y hy
    ·have:y=z:=by simpa using hy
     subst this;exact Int.lt_of_lt_of_le (by decide) (of_decide_eq_true hz)
  ·rintro ys σ' H' ⟨rfl,_,gs,rfl,hg,hp⟩ g0 hg0;rw[length_map]at hg;have s1:Same H' (upd H' g0 (.lst (gs.map V.int))):=Same.new hg0;refine⟨_,rfl,_,rfl,a,rfl,⟨_,s1.seq hS⟩,yt (xs:=ns.map V.int) (fun i ys σ' H2=>H2=upd H' g0 (.lst (gs.map V.int))/\(∃v,σ'=[v])/\ ∃cs:List Int,ys=cs.map V.int/\cs.length=i) ⟨rfl,⟨_,rfl⟩,[],rfl,rfl⟩ ?_ ?_ ?_⟩
   ·rintro i ys σ' H2 hi ⟨rfl,_,cs,rfl,hc⟩;refine⟨s1.seq hS,?_⟩;rw[length_map]at hi ⊢;exact le_trans (le_trans (Nat.le_of_eq hc) (le_trans hi hl)) (by decide)
   ·rintro i x ys σ' H2 hx ⟨rfl,⟨v,rfl⟩,cs,rfl,hc⟩;rw[getElem?_map]at hx;cases hn:ns[i]? with
    |none=>rw[hn]at hx;cases hx
    |some z =>
     rw[hn]at hx;cases hx;refine⟨_,rfl,_,_,rfl,rfl,(by show(0:Int)<2147483629;decide),rfl,⟨_,rfl⟩,cs++[z%2147483629],by simp,by simp[hc]⟩
   ·rintro ys σ' H2 ⟨rfl,_,cs,rfl,hc⟩ c0 hc0;refine⟨by show 4<=sizeLine;decide,fun st hst=>?_⟩;have n1:g0≠c0:=fun z=>by rw[<-z,z6]at hc0;cases hc0
    have n2:st≠c0:=fun z=>by rw[z,z6]at hst;cases hst
    have hst1:upd H' g0 (.lst (gs.map V.int)) st=none:=by rw[zh n2]at hst;exact hst
    have n3:st≠g0:=fun z=>by rw[z,z6]at hst1;cases hst1
    refine k st g0 c0 _ ⟨⟨gs,cs,0,0,z6,?_,?_,le_trans hg hl,hp,Int.le_refl _,Int.le_refl _,Int.le_refl _⟩,n1,n3,n2⟩ ?_ hg0 ?_ (s1.trans ((Same.new hc0).trans (Same.new hst)))
    ·rw[zh n3.symm,zh n1,z6]
    ·rw[zh n2.symm,z6]
    ·rw[zh n3]at hst1;exact hst1
    ·rw[zh n1.symm]at hc0;exact hc0
def fM:List Str:=["_law_state","_law_count","_law_cell","_law_stirred"]
theorem jp:FnScope fM ["_law_state"] (z7 rC):=FS
inductive sp_mix(vs:List V)(H:Hp)(Q:VK)(E:XK):Prop
 |mk (st ga ca:Addr) (N:Nat):vs=[.ref st]->StAt H st ga ca N->N<=10^9->(∀(r:Int)(H':Hp),0<=r->StAt H' st ga ca (N+1)->Keep [st,ga] H H'->Q (.int r) H')->sp_mix vs H Q E
theorem av(T:Txt P w K mg A):FnOk P w K mg base CX0 1 A.a1 A.f1 ["_law_state"] sp_mix:=by
 refine T.x1.F.ok jp (by walk_at "n") fun _ _ _ s H vs Q E hr h=>?_
 ·obtain⟨st,ga,ca,N,rfl,S,hN,k⟩:=h;refine⟨_,(z8 (nB (pv 0) zc eB zc qy qe)
    (z8 (pset 1 jp.nd (pix zt (pv 0) zc))
    (z8 (pset 2 jp.nd zc)
    (z8 (zG (yh (pix zt (pv 0) zc) (fun _=>rfl))
     (z9 (pset 2 jp.nd (pix zt (pix zt (pv 0) zc) (zu p9 (pv 1) (zp zk rfl T.w5 PySem.boot_len (pa1 (pix zt (pv 0) zc))))))) zq)
    (z8 (pset 3 jp.nd (zu p9 (zu yN (zu kr (zu kr (zu kr (pv 2) (zu yN (zu yN zc (pv 1)) (pv 1))) (zu yN zc (pv 1))) zc) zc) zc))
    (z9 (zo (zu p9 (zu yN (zu kr (zu kr (pv 3) (zu yN zc (pv 1))) zc) zc) zc)))))))),?_⟩
  obtain⟨⟨gs,cs,q,n,h1,h2,h3,h4,h5,h6,h7,h8⟩,gc,sg,sc⟩:=S;have hn:-(2^64)<n+1/\n+1<2^64:=by omega
  refine⟨_,rfl,st,_,3,_,rfl,rfl,SqL.of h1,by decide,rfl,_,_,rfl,rfl,st,_,3,3,rfl,rfl,h1,rfl,?_⟩;have e1:upd H st (.lst ([V.ref ga,V.int q,V.ref ca,V.int n].set 3 (V.int (n+1)))) st=some (.lst [.ref ga,.int q,.ref ca,.int (n+1)]):=z6;refine⟨_,rfl,st,_,3,_,rfl,rfl,SqL.of e1,rfl,?_⟩;refine⟨_,rfl,st,_,2,_,rfl,rfl,SqL.of e1,rfl,?_⟩;have e3:upd H st (.lst ([V.ref ga,V.int q,V.ref ca,V.int n].set 3 (V.int (n+1)))) ca=some (.lst (cs.map V.int)):=by rw[zh sc.symm];exact h3
  have e2:upd H st (.lst ([V.ref ga,V.int q,V.ref ca,V.int n].set 3 (V.int (n+1)))) ga=some (.lst (gs.map V.int)):=by rw[zh sg.symm];exact h2
  refine⟨_,Or.inl ⟨_,SqL.of e3,rfl⟩,?_⟩;have fin:∀(c:Int),(tSeq (tAsg (tOp (rI (fun _ j=>0<j) fun i j=>V.int (i%j)) (tOp (rI CMul fun i j=>V.int (i*j)) (tOp (rI0 fun i j=>V.int (i+j)) (tOp (rI0 fun i j=>V.int (i+j)) (tOp (rI0 fun i j=>V.int (i+j)) (tVar 2) (tOp (rI CMul fun i j=>V.int (i*j)) (tOp (rI CMul fun i j=>V.int (i*j)) (tC (V.int 7)) (tVar 1)) (tVar 1))) (tOp (rI CMul fun i j=>V.int (i*j)) (tC (V.int 13)) (tVar 1))) (tC (V.int 5))) (tC (V.int 1220703125))) (tC (V.int 2147483647))) (kc 3))
    (tRet (tOp (rI (fun _ j=>0<j) fun i j=>V.int (i%j)) (tOp (rI CMul fun i j=>V.int (i*j)) (tOp (rI0 fun i j=>V.int (i+j)) (tOp (rI0 fun i j=>V.int (i+j)) (tVar 3) (tOp (rI CMul fun i j=>V.int (i*j)) (tC (V.int 17)) (tVar 1))) (tC (V.int 3))) (tC (V.int 39373))) (tC (V.int 1000000007)))))
    {nx:=fun _ H'=>Q .non H',rt:=Q} [some (.ref st),some (.int (n+1)),some (.int c),none] (upd H st (.lst ([V.ref ga,V.int q,V.ref ca,V.int n].set 3 (V.int (n+1))))):=fun c=>by
   refine⟨_,rfl,_,rfl,_,_,rfl,rfl,.inl (by decide),_,rfl,_,_,rfl,rfl,.inr hn,_,_,rfl,rfl,_,rfl,_,_,rfl,rfl,.inl (by decide),_,_,rfl,rfl,_,_,rfl,rfl,_,_,rfl,rfl,.inr (by decide),_,_,rfl,rfl,(by show(0:Int)<2147483647;decide),?_⟩;refine⟨_,rfl,_,rfl,_,_,rfl,rfl,.inl (by decide),_,_,rfl,rfl,_,_,rfl,rfl,_,_,rfl,rfl,.inr (by decide),_,_,rfl,rfl,(by show(0:Int)<1000000007;decide),?_⟩;exact k _ _ (Int.emod_nonneg _ (by decide)) ⟨⟨gs,cs,q,n+1,e1,e2,e3,h4,h5,h6,by omega,by omega⟩,gc,sg,sc⟩ (Keep.set (by simp))
  cases hc:cs with
  |nil =>
   refine iteF ?_;exact fin 5
  |cons c0 cr =>
   refine iteT ?_;rw[hc]at e3;refine⟨_,rfl,st,_,2,_,rfl,rfl,SqL.of e1,rfl,_,rfl,_,rfl,st,_,2,_,rfl,rfl,SqL.of e1,rfl,ca,_,rfl,.inl (SqL.of e3),_,_,rfl,rfl,?_,?_⟩
   ·rw[length_map];simp only[length_cons];omega
   ·have hpos:(0:Int)<((c0::cr).length:Int):=by simp only[length_cons];omega
    rw[length_map];have hm0:=Int.emod_nonneg (n+1) (Int.ne_of_gt hpos);have hm1:=Int.emod_lt_of_pos (n+1) hpos;obtain⟨j,hj⟩:∃j:Nat,(n+1)%((c0::cr).length:Int)=(j:Int):=⟨((n+1)%((c0::cr).length:Int)).toNat,by omega⟩;have hjl:j<(c0::cr).length:=by omega
    refine⟨ca,_,_,_,rfl,rfl,SqL.of e3,by rw[hj];exact zr (v:=V.int ((c0::cr)[j])) (by rw[getElem?_map,getElem?_eq_getElem hjl];rfl),?_⟩;exact fin _
def ae:List Str:=["_law_state","_law_many","_law_told_here","_law_size"]
theorem yZ:FnScope ae ["_law_state","_law_many"] (z7 xg):=FS
inductive sp_draw(vs:List V)(H:Hp)(Q:VK)(E:XK):Prop
 |mk (st ga ca:Addr) (N:Nat) (m:Int):vs=[.ref st,.int m]->StAt H st ga ca N->N<=10^8->0<m->m<=10^60->(∀(r:Int)(H':Hp),0<=r->r<m->StAt H' st ga ca (N+7)->Keep [st,ga] H H'->Q (.int r) H')->sp_draw vs H Q E
theorem zw(T:Txt P w K mg A):FnOk P w K mg base CX0 2 A.a2 A.f2 ["_law_state","_law_many"] sp_draw:=by
 refine T.x2.F.ok yZ (by walk_at "n") fun _ _ _ s H vs Q E hr h=>?_
 ·obtain⟨st,ga,ca,N,m,rfl,S,hN,hm0,hm1,k⟩:=h;refine⟨_,(z8 (zG (PW.pt (gO (zi yM (pix zt (pv 0) zc) zc (zA _)) (vG (yh (pix zt (pv 0) zc) (fun _=>rfl)))))
     (z9 (nA (yU PySem.F.plainAttrs_list PySem.F.slot_list_pop PySem.F.type_list_pop oW (pix zt (pv 0) zc) (pa1 zc)) (Zt (pv 0) zc qe))) zq)
    (z8 (zG (zi ay (pix zt (pv 0) zc) zc (zA _))
     (z8 (pset 2 yZ.nd (zu p9 (pix zt (pv 0) zc) (pv 1)))
    (z8 (nA (zu uP (pix zt (pv 0) zc) (pv 1)) (Zt (pv 0) zc qe))
    (z9 (zo (pv 2))))) zq)
    (z8 (pset 2 yZ.nd zc)
    (z8 (pset 3 yZ.nd zc)
    (z8 (ma PassesOwn.never (zi hV (pv 3) (pv 1) (zA _))
     (z8 (pset 2 yZ.nd (zu kr (zu yN (pv 2) zc) (pcl (av T) hr T.x1 (pa1 (pv 0)))))
    (z9 (pset 3 yZ.nd (zu yN (pv 3) zc)))))
    (z9 (zo (zu p9 (pv 2) (pv 1))))))))),?_⟩
  obtain⟨⟨gs,cs,q,n,h1,h2,h3,h4,h5,h6,h7,h8⟩,gc,sg,sc⟩:=S;have hb:∀(g:List Int)(x:Int)(H':Hp),H'=upd (upd H ga (.lst (g.map V.int))) st (.lst [.ref ga,.int x,.ref ca,.int n])->H' st=some (.lst [.ref ga,.int x,.ref ca,.int n])/\H' ga=some (.lst (g.map V.int))/\H' ca=some (.lst (cs.map V.int))/\Keep [st,ga] H H':=fun g x H' e=>by
   subst e;refine⟨z6,by rw[zh sg.symm,z6],by rw[zh sc.symm,zh gc.symm];exact h3,fun b o e hn=>?_⟩;have n1:b≠st:=fun z=>hn (by simp[z]);have n2:b≠ga:=fun z=>hn (by simp[z]);rw[zh n1,zh n2];exact e
  refine ye (fun σ' H'=>σ'=[some (.ref st),some (.int m),none,none]/\ ∃(g:List Int)(x:Int),H' st=some (.lst [.ref ga,.int x,.ref ca,.int n])/\H' ga=some (.lst (g.map V.int))/\H' ca=some (.lst (cs.map V.int))/\Keep [st,ga] H H'/\g.length<=63/\(∀x∈g,0<x)/\0<=x) (fun nx hnx=>?_) ?_
  ·have skip:nx [some (.ref st),some (.int m),none,none] H:=hnx _ _ ⟨rfl,gs,q,h1,h2,h3,Keep.refl _ _,h4,h5,h6⟩;refine⟨_,rfl,st,_,1,_,rfl,rfl,SqL.of h1,rfl,rfl,_,rfl,?_⟩;refine ite2 (fun hq=>?_) (fun hq=>iteF skip);have hq0:q=0:=by simpa using hq
   subst hq0;refine⟨_,rfl,st,_,0,_,rfl,rfl,SqL.of h1,rfl,_,.inl ⟨_,SqL.of h2,rfl⟩,?_⟩;cases gs with
   |nil=>exact iteF skip
   |cons g0 gr =>
    refine iteT ?_;have eg:upd H ga (.lst ((V.int g0::gr.map V.int).eraseIdx 0)) st=some (.lst [.ref ga,.int 0,.ref ca,.int n]):=by rw[zh sg];exact h1
    refine⟨_,rfl,st,_,0,_,rfl,rfl,SqL.of h1,rfl,.inl ⟨rfl,_,SqL.of h2⟩,ga,_,0,0,V.int g0,rfl,rfl,h2,by decide,by decide,(by simp[seqIndex?]),rfl,?_⟩;refine⟨_,rfl,st,_,1,1,rfl,rfl,eg,rfl,?_⟩;obtain⟨b1,b2,b3,b4⟩:=hb gr g0 _ rfl;exact hnx _ _ ⟨rfl,gr,g0,b1,b2,b3,b4,by simp only[length_cons]at h4;omega,fun y hy=>h5 y (mem_cons_of_mem _ hy),le_of_lt (h5 g0 mem_cons_self)⟩
  ·rintro σ1 H1 ⟨rfl,g,x,c1,c2,c3,c4,c5,c6,c7⟩;refine⟨_,rfl,st,_,1,_,rfl,rfl,SqL.of c1,rfl,_,_,rfl,rfl,_,rfl,?_⟩;refine ite2 (fun hx=>?_) (fun hx=>?_)
   ·refine⟨_,rfl,st,_,1,_,rfl,rfl,SqL.of c1,rfl,_,rfl,_,_,rfl,rfl,hm0,?_⟩;refine⟨_,rfl,st,_,1,_,rfl,rfl,SqL.of c1,rfl,_,rfl,_,_,rfl,rfl,⟨hm0,Int.le_trans hm1 (by decide)⟩,?_⟩;refine⟨_,rfl,st,_,1,1,rfl,rfl,c1,rfl,?_⟩;refine⟨_,rfl,k _ _ (Int.emod_nonneg _ (Int.ne_of_gt hm0)) (Int.emod_lt_of_pos _ hm0) ⟨⟨g,cs,x / m,n,z6,by rw[zh sg.symm];exact c2,by rw[zh sc.symm];exact c3,c5,c6,Int.ediv_nonneg c7 (le_of_lt hm0),h7,by omega⟩,gc,sg,sc⟩ (c4.trans (Keep.set (by simp)))⟩
   ·refine⟨fun mm σ2 H2=>∃(j:Nat)(told:Int),j<=7/\mm=7-j/\ σ2=[some (.ref st),some (.int m),some (.int told),some (.int (1000000007^j))]/\StAt H2 st ga ca (N+j)/\Keep [st,ga] H H2,
     ⟨7,0,0,by decide,rfl,rfl,⟨⟨g,cs,x,n,c1,c2,c3,c5,c6,c7,h7,by omega⟩,gc,sg,sc⟩,c4⟩,?_⟩
    rintro mm σ2 H2 ⟨j,told,hj,rfl,rfl,S2,k2⟩;refine⟨_,rfl,_,rfl,_,_,rfl,rfl,_,rfl,?_⟩;refine ite2 (fun hlt=>?_) (fun hlt=>?_)
    ·have hlt':(1000000007:Int)^j<m:=of_decide_eq_true hlt;have hj6:j<7:=by
      rcases Nat.lt_or_ge j 7 with z|z
      ·exact z
      ·have e7:j=7:=by omega
       subst e7;exact absurd (Int.lt_of_lt_of_le hlt' hm1) (by decide)
     refine⟨fun σ3 H3=>∃(told:Int),σ3=[some (.ref st),some (.int m),some (.int told),some (.int (1000000007^(j+1)))]/\StAt H3 st ga ca (N+(j+1))/\Keep [st,ga] H H3,fun σ3 H3 ⟨td,e3,S3,k3⟩=>⟨7-(j+1),by omega,j+1,td,hj6,rfl,e3,S3,k3⟩,?_⟩;refine⟨_,rfl,_,_,rfl,rfl,.inr (by decide),_,rfl,st,ga,ca,N+j,rfl,S2,by omega,fun r H3 hr0 S3 k3=>?_⟩;refine⟨_,_,rfl,rfl,?_⟩;refine⟨_,rfl,_,_,rfl,rfl,.inr (by decide),?_⟩;refine⟨told*1000000007+r,?_,S3,k2.trans k3⟩;show [some (V.ref st),some (V.int m),some (V.int _),some (V.int (1000000007^j*1000000007))]=_;rw[<-Int.pow_succ]
    ·refine⟨_,rfl,_,rfl,_,_,rfl,rfl,hm0,?_⟩;exact k _ _ (Int.emod_nonneg _ (Int.ne_of_gt hm0)) (Int.emod_lt_of_pos _ hm0) (S2.mono (by omega)) k2
def qP:List Str:=["_law_state","_law_size","_law_top","_law_parts"]
theorem pk:FnScope qP ["_law_state","_law_size","_law_top"] (z7 kE):=FS
inductive sp_heap(vs:List V)(H:Hp)(Q:VK)(E:XK):Prop
 |mk (st ga ca:Addr) (N:Nat) (size topp:Int):vs=[.ref st,.int size,.int topp]->StAt H st ga ca N->N<=10^7->0<=size->size<=60->0<topp->topp<=10^60->(∀(p:Addr)(ns:List Int)(H':Hp),(ns.length:Int)<=size->(∀x∈ns,1<=x/\x<=topp)->ns.Pairwise (· >= ·)->H' p=some (.tup (ns.map V.int))->H p=none->StAt H' st ga ca (N+434)->Keep [st,ga] H H'->Q (.ref p) H')->sp_heap vs H Q E
theorem wL(T:Txt P w K mg A):FnOk P w K mg base CX0 3 A.a3 A.f3 ["_law_state","_law_size","_law_top"] sp_heap:=by
 refine T.x3.F.ok pk (by walk_at "n") fun _ _ _ s H vs Q E hr h=>?_
 ·obtain⟨st,ga,ca,N,size,topp,rfl,S,hN,h0,h1,t0,t1,k⟩:=h;refine⟨_,(z8 (aF (i:=3) (ls:=["_law_k"]) (fr:=[("_law_state",0),("_law_top",2)]) (csf (z7 kE) qP) rfl (jd rfl T.w9 (pa1 (pcl (zw T) hr T.x2 (pa2 (pv 0 (hv:=Or.inr (Or.inl rfl))) (zu kr (pv 1) zc))))) (fun _ _ _ _=>pgc 0 (by decide+kernel) rfl rfl) (fun _ _ _ _=>yy) (fun _ _ _ _=>(zu kr zc (yc (zw T) (hr.mono (by decide)) (glc (z7 kE)) T.x2.g T.x2.F.kp T.x2.b .nil wu (pa2 (pvc (z7 kE) 1) (pvc (z7 kE) 2))))) pk.nd rfl rfl rfl)
    (z9 (zo (zH zU rfl T.w13 boot_tuple (pa1 (pZ rfl T.w10 (pv 3))))))),?_⟩
  refine⟨_,rfl,_,rfl,_,_,rfl,rfl,st,ga,ca,N,size+1,rfl,S,by omega,by omega,Int.le_trans (show size+1<=61 by omega) (by decide),fun many H2 m0 m1 S2 K2'=>?_⟩;refine⟨_,rfl,by omega,by omega,xU (fun i ys σ' H'=>(∃v,σ'=[v,some (.ref st),some (.int topp)])/\ ∃ns:List Int,ys=ns.map V.int/\ns.length=i/\(∀x∈ns,1<=x/\x<=topp)/\StAt H' st ga ca (N+7+7*i)/\Keep [st,ga] H H')
   ⟨⟨_,rfl⟩,[],rfl,rfl,(fun _ hx=>nomatch hx),S2,K2'⟩ ?_ ?_ ?_⟩
  ·rintro i ys σ' H' hi ⟨_,ns,rfl,hl,_⟩;rw[length_map,hl];exact yW (by omega)
  ·rintro i ys σ' H' hi ⟨⟨v,rfl⟩,ns,rfl,hl,hb,S',K'⟩;refine⟨_,rfl,_,rfl,st,ga,ca,N+7+7*i,topp,rfl,S',by omega,t0,t1,fun r H3 h0 h1 S3 K3=>?_⟩;refine⟨_,_,rfl,rfl,⟨_,rfl⟩,ns++[1+r],by simp,by simp[hl],fun x hx=>?_,S3.mono (by omega),K'.trans K3⟩;rcases mem_append.mp hx with hx|hx
   ·exact hb x hx
   ·have:x=1+r:=by simpa using hx
    omega
  ·rintro ys σ' H' ⟨_,ns,rfl,hl,hb,S',K'⟩ p3 hp3;refine⟨_,rfl,p3,ns,rfl,.inl (SqL.of z6),by omega,fun ns' p4 hperm hord hp4=>?_⟩;refine⟨p4,_,rfl,.inl ⟨SqL.of z6,fun p5 hp5=>?_⟩⟩;have s3:Same H' (upd (upd (upd H' p3 (.lst (ns.map V.int))) p4 (.lst (ns'.map V.int))) p5 (.tup (ns'.map V.int))):=(Same.new hp3).trans ((Same.new hp4).trans (Same.new hp5));have S5:=S'.same s3;have n5:H' p5=none:=((Same.new hp3).trans (Same.new hp4)).free hp5;refine k p5 ns' _ (by rw[hperm.length_eq];omega) (fun x hx=>hb x (hperm.mem_iff.mp hx)) hord z6 (K'.free n5 (S'.nin n5)) (S5.mono (by omega)) (K'.trans s3.keep)
def wG:List Str:=["_law_state","_law_many","_law_size","_law_top"]
theorem pN:FnScope wG ["_law_state","_law_many","_law_size","_law_top"] (z7 zR):=FS
def GH(size topp:Int)(h:List Int):Prop:=(h.length:Int)<=size/\(∀x∈h,1<=x/\x<=topp)/\h.Pairwise (· >= ·)
inductive sp_raw_rule(vs:List V)(H:Hp)(Q:VK)(E:XK):Prop
 |mk (st ga ca:Addr) (N:Nat) (many size topp:Int):vs=[.ref st,.int many,.int size,.int topp]->StAt H st ga ca N->N<=10^6->0<=many->many<=60->0<=size->size<=60->0<topp->topp<=10^60->(∀(p:Addr)(rs:List V)(rule:List (List Int))(H':Hp),H' p=some (.tup rs)->All2 Tup1 H' rule rs->(rule.length:Int)=many->(∀h∈rule,GH size topp h)->H p=none->StAt H' st ga ca (N+434*many.toNat)->Keep [st,ga] H H'->Q (.ref p) H')->sp_raw_rule vs H Q E
theorem wm(T:Txt P w K mg A):FnOk P w K mg base CX0 4 A.a4 A.f4 ["_law_state","_law_many","_law_size","_law_top"] sp_raw_rule:=by
 refine T.x4.F.ok pN (by walk_at "n") fun _ _ _ s H vs Q E hr h=>?_
 ·obtain⟨st,ga,ca,N,many,size,topp,rfl,S,hN,m0,m1,h0,h1,t0,t1,k⟩:=h;refine⟨_,(z9 (zo (zH zU rfl T.w13 boot_tuple (pa1 (zP (ls:=["_law_k"]) (fr:=[("_law_state",0),("_law_size",2),("_law_top",3)]) (csf (z7 zR) wG) rfl (jd rfl T.w9 (pa1 (pv 1))) (fun _ _ _ _=>pgc 0 (by decide+kernel) rfl rfl) (fun _ _ _ _=>yy) (fun _ _ _ _=>(yc (wL T) (hr.mono (by decide)) (glc (z7 zR)) T.x3.g T.x3.F.kp T.x3.b .nil wu (pa3 (pvc (z7 zR) 1) (pvc (z7 zR) 2) (pvc (z7 zR) 3))))))))),?_⟩;refine⟨_,rfl,_,rfl,by omega,by omega,xU (fun i ys σ' H'=>(∃v,σ'=[v,some (.ref st),some (.int size),some (.int topp)])/\ ∃rule:List (List Int),All2 Tup1 H' rule ys/\rule.length=i/\(∀h∈rule,GH size topp h)/\StAt H' st ga ca (N+434*i)/\Keep [st,ga] H H') ⟨⟨_,rfl⟩,[],.nil,rfl,(fun _ hx=>by cases hx),S,Keep.refl _ _⟩ ?_ ?_ ?_⟩
  ·rintro i ys σ' H' hi ⟨_,rule,a2,hl,_⟩;rw[<-a2.length,hl];exact yW (by omega)
  ·rintro i ys σ' H' hi ⟨⟨v,rfl⟩,rule,a2,hl,hg,S',K'⟩;refine⟨_,rfl,_,rfl,_,rfl,st,ga,ca,N+434*i,size,topp,rfl,S',by omega,h0,h1,t0,t1,fun q hs H2 hln hb hp hq nq S2 K2=>?_⟩;refine⟨⟨_,rfl⟩,rule++[hs],(a2.mv (K2.tups S')).snoc ⟨q,rfl,hq⟩,by simp[hl],fun x hx=>?_,S2.mono (by omega),K'.trans K2⟩;rcases mem_append.mp hx with hx|hx
   ·exact hg x hx
   ·have:x=hs:=by simpa using hx
    subst this;exact⟨hln,hb,hp⟩
  ·rintro ys σ' H' ⟨_,rule,a2,hl,hg,S',K'⟩ l hl0;refine⟨l,_,rfl,.inl ⟨SqL.of z6,fun p hp=>?_⟩⟩;have s2:=(Same.new (o:=.lst ys) hl0).trans (Same.new (o:=.tup ys) hp);have np:H' p=none:=(Same.new (o:=.lst ys) hl0).free hp;exact k p ys rule _ z6 (a2.mv s2.tups) (by omega) hg (K'.free np (S'.nin np)) (S'.same s2) (K'.trans s2.keep)
def ag:List Str:=["_law_state","_law_known","_law_name_here","_law_k"]
theorem zJ:FnScope ag ["_law_state","_law_known"] (z7 xh):=FS
inductive sp_name(vs:List V)(H:Hp)(Q:VK)(E:XK):Prop
 |mk (st ga ca:Addr) (N:Nat) (kl:Addr) (known:List Str):vs=[.ref st,.ref kl]->StAt H st ga ca N->N<=10^6->H kl=some (.lst (known.map V.str))->kl∉[st,ga]->known.length<=20->(∀n∈known,zE n=true)->(∀(n:Str)(H':Hp),zE n=true->n∉known->StAt H' st ga ca (N+100)->Keep [st,ga] H H'->Q (.str n) H')->sp_name vs H Q E
theorem vY(T:Txt P w K mg A):FnOk P w K mg base CX0 4 A.a5 A.f5 ["_law_state","_law_known"] sp_name:=by
 refine T.x5.F.ok zJ (by walk_at "n") fun _ _ _ s H vs Q E hr h=>?_
 ·obtain⟨st,ga,ca,N,kl,known,rfl,S,hN,hk,nk,lk,hb,k⟩:=h;refine⟨_,(z8 (pset 2 zJ.nd zC)
    (z8 (zG (PW.pt (gO (yh (pv 1) (fun _=>rfl)) (vG (zi yM (pcl (zw T) hr T.x2 (pa2 (pv 0) zc)) zc (zA _)))))
     (z9 (pset 2 zJ.nd (yr mB (pix zt (pv 1) (cA pD zc)) kf (kg zc)))) zq)
    (z8 (yK PassesOwn.never rfl (jd rfl T.w9 (pa1 (zu kr zc (pcl (zw T) hr T.x2 (pa2 (pv 0) zc))))) (pgn 3 zJ.nd)
     (z9 (rq (i:=2) zJ.nd rfl (by first|exact Or.inl rfl|exact Or.inr rfl) (pix eC zC (pcl (zw T) hr T.x2 (pa2 (pv 0) zc))) ZN)))
    (z8 (zG (zi yM (pcl (zw T) hr T.x2 (pa2 (pv 0) zc)) zc (zA _))
     (z9 (pset 2 zJ.nd (yr mB (zu yI (pv 2) zC) kf (kg zc)))) zq)
    (z8 (zG (PW.pt (gO (yh (pv 1) (fun _=>rfl)) (gO (zi yM (zp yY rfl T.w5 PySem.boot_len (pa1 (pix zt (pv 1) (cA pD zc)))) zc (zA _)) (vG (zi yM (pcl (zw T) hr T.x2 (pa2 (pv 0) zc)) zc (zA _))))))
     (z9 (pset 2 zJ.nd (zu yI (yr mB (pix zt (pv 1) (cA pD zc)) kf (kg zc)) (pix eC zC (pcl (zw T) hr T.x2 (pa2 (pv 0) zc)))))) zq)
    (z8 (yK PassesOwn.never rfl (jd rfl T.w9 (pa1 (zu kr (zp zk rfl T.w5 PySem.boot_len (pa1 (pv 1))) zc))) (pgn 3 zJ.nd)
     (z9 (zG (zi cu (pv 2) (pv 1) rfl)
     (z9 (pset 2 zJ.nd (yr mB (zu yI (pv 2) zC) (kg (cA pD zc)) kf))) zq)))
    (z8 (yK PassesOwn.never rfl (jd rfl T.w9 (pa1 (zu kr (zp zk rfl T.w5 PySem.boot_len (pa1 (pv 1))) zc))) (pgn 3 zJ.nd)
     (z9 (zG (zi cu (pv 2) (pv 1) rfl)
     (z9 (pset 2 zJ.nd (zu yI zC (pix eC zC (pv 3))))) zq)))
    (z9 (zo (pv 2)))))))))),?_⟩
  have last:known≠[]-> ∃y,y∈known/\atI (known.map V.str) (-1)=some (.str y):=fun h=>by
   refine⟨known.getLast h,List.getLast_mem h,ZD ?_⟩;rw[List.getLast?_map,List.getLast?_eq_some_getLast h];rfl
  have nolet:LetS (Str.ofString ""):=fun c hc=>by rw[show(Str.ofString "").cps.toList=[]by decide+kernel]at hc;cases hc
  have nem:known≠[]->true= !(known.map V.str).isEmpty:=fun h=>by cases known with|nil=>exact absurd rfl h|cons _ _=>rfl
  have l26:vt.length<=sizeLine:=le_trans (m:=26) (by decide+kernel) (by decide);have bnd:∀{x y:Str},x.length<=20->y.length<=20->x.length+y.length<=sizeLine:=fun h1 h2=>le_trans (m:=40) (by omega) (by decide);have bnd1:∀{x:Str},x.length<=40->x.length<=sizeLine:=fun h1=>le_trans h1 (by decide);refine ye (fun σ' H'=>σ'=[some (.ref st),some (.ref kl),some (.str (Str.ofString "")),none]/\H=H') (fun nx hnx=>hnx _ _ ⟨rfl,rfl⟩) ?_;rintro _ _ ⟨rfl,rfl⟩;refine ye (fun σ' H'=>∃ z:Str,σ'=[some (.ref st),some (.ref kl),some (.str z),none]/\LetS z/\z.length<=4/\StAt H' st ga ca (N+7)/\Keep [st,ga] H H') (fun nx hnx=>?_) ?_
  ·have skp:∀H' M,StAt H' st ga ca M->M<=N+7->Keep [st,ga] H H'->nx [some (.ref st),some (.ref kl),some (.str (Str.ofString "")),none] H':=fun H' M S' hM K'=>hnx _ _ ⟨Str.ofString "",rfl,nolet,by decide+kernel,S'.mono hM,K'⟩;by_cases h0:known=[]
   ·refine⟨_,rfl,false,.inl ⟨_,SqL.of hk,by subst h0;rfl⟩,iteF (skp _ _ S (by simp) (Keep.refl _ _))⟩
   refine⟨_,rfl,true,.inl ⟨_,SqL.of hk,nem h0⟩,iteT ?_⟩;refine⟨_,rfl,st,ga,ca,N,2,rfl,S,by omega,by decide,by decide,fun r H1 r0 r1 S1 K1=>?_⟩;refine⟨rfl,_,rfl,ite2 (fun _=>?_) (fun _=>skp _ _ S1 (by simp) K1)⟩;obtain⟨y,hy,ey⟩:=last h0;have yl:=y8 (hb y hy);refine⟨_,rfl,_,rfl,kl,_,_,_,rfl,rfl,SqL.of (K1.at hk nk),ey,?_⟩;dsimp only[yH,tNil];refine⟨4,rfl,y,rfl,bnd1 (by omega),hnx _ _ ⟨_,rfl,(vp (hb y hy)).to 4,?_,S1,K1⟩⟩;rw[show(some (4:Int))=some ((4:Nat):Int)from rfl,tm];omega
  rintro _ H1 ⟨z1,rfl,hz1,lz1,S1,K1⟩;refine ye (fun σ' H'=>∃(z:Str)(v:Option V),σ'=[some (.ref st),some (.ref kl),some (.str z),v]/\LetS z/\1<=z.length/\z.length<=7/\StAt H' st ga ca (N+35)/\Keep [st,ga] H H') (fun nx hnx=>?_) ?_
  ·refine⟨_,rfl,st,ga,ca,_,3,rfl,S1,by omega,by decide,by decide,fun r H2 r0 r1 S2 K2=>?_⟩;obtain⟨j,rfl⟩:∃j:Nat,r=(j:Int):=⟨r.toNat,by omega⟩;have ej:((1:Int)+(j:Int)).toNat=j+1:=by omega
   refine⟨_,_,rfl,rfl,_,rfl,by omega,by omega,?_⟩;rw[ej];refine j9 (n:=j+1) (fun i σ' H'=>∃(z:Str)(v:Option V),σ'=[some (.ref st),some (.ref kl),some (.str z),v]/\LetS z/\z.length=z1.length+i/\StAt H' st ga ca (N+14+7*i)/\Keep [st,ga] H H') ⟨z1,_,rfl,hz1,rfl,S2.mono (by simp),K1.trans K2⟩ ?_ ?_
   ·rintro i σ' H' hi ⟨z,v,rfl,hz,ez,S',K'⟩;refine⟨_,rfl,_,rfl,st,ga,ca,_,26,rfl,S',by omega,by decide,by decide,fun r H3 r0 r1 S3 K3=>?_⟩;obtain⟨c,e1,c0,c1,_⟩:=qE r0 r1;refine⟨vt,r,c,rfl,rfl,l26,e1,?_⟩;have lc:(⟨#[c]⟩:Str).length=1:=rfl;refine⟨z,_,rfl,rfl,bnd (by omega) (by omega),z++⟨#[c]⟩,_,rfl,hz.app (LetS.one ⟨c0,c1⟩),by rw[ka,lc];omega,S3.mono (by omega),K'.trans K3⟩
   ·rintro σ' H' ⟨z,v,rfl,hz,ez,S',K'⟩;exact hnx _ _ ⟨z,v,rfl,hz,by omega,by omega,S'.mono (by omega),K'⟩
  rintro _ H2 ⟨z2,v2,rfl,hz2,l2,m2,S2,K2⟩;refine ye (fun σ' H'=>∃(z:Str),σ'=[some (.ref st),some (.ref kl),some (.str z),v2]/\zE z=true/\StAt H' st ga ca (N+42)/\Keep [st,ga] H H') (fun nx hnx=>?_) ?_
  ·refine⟨_,rfl,st,ga,ca,_,6,rfl,S2,by omega,by decide,by decide,fun r H3 r0 r1 S3 K3=>?_⟩;refine⟨rfl,_,rfl,ite2 (fun _=>?_) (fun _=>hnx _ _ ⟨z2,rfl,wC hz2 l2 (by omega),S3.mono (by simp),K2.trans K3⟩)⟩;have l8:(Str.ofString "mnopqrst").length=8:=by decide+kernel
   have hm:LetS (Str.ofString "mnopqrst"):=((ky _).mp (by decide+kernel)).2;refine⟨_,rfl,_,_,rfl,rfl,bnd (by omega) (by omega),?_⟩;dsimp only[yH,tNil];refine⟨8,rfl,_,rfl,bnd1 (by rw[ka];omega),hnx _ _ ⟨_,rfl,wC ((hz2.app hm).to 8) ?_ ?_,S3.mono (by simp),K2.trans K3⟩⟩
   ·rw[show(some (8:Int))=some ((8:Nat):Int)from rfl,tm,ka];omega
   ·rw[show(some (8:Int))=some ((8:Nat):Int)from rfl,tm,ka];omega
  rintro _ H3 ⟨z3,rfl,hz3,S3,K3⟩;refine ye (fun σ' H'=>∃(z:Str),σ'=[some (.ref st),some (.ref kl),some (.str z),v2]/\zE z=true/\StAt H' st ga ca (N+56)/\Keep [st,ga] H H') (fun nx hnx=>?_) ?_
  ·by_cases h0:known=[]
   ·refine⟨_,rfl,false,.inl ⟨_,SqL.of (K3.at hk nk),by subst h0;rfl⟩,iteF (hnx _ _ ⟨z3,rfl,hz3,S3.mono (by simp),K3⟩)⟩
   obtain⟨y,hy,ey⟩:=last h0;have yl:=y8 (hb y hy);refine⟨_,rfl,true,.inl ⟨_,SqL.of (K3.at hk nk),nem h0⟩,iteT ?_⟩;refine⟨_,rfl,_,rfl,kl,_,_,_,rfl,rfl,SqL.of (K3.at hk nk),ey,y,rfl,bnd1 (by omega),rfl,_,rfl,?_⟩;refine ite2 (fun e8=>?_) (fun _=>iteF (hnx _ _ ⟨z3,rfl,hz3,S3.mono (by simp),K3⟩));refine⟨_,rfl,st,ga,ca,_,2,rfl,S3,by omega,by decide,by decide,fun r H4 r0 r1 S4 K4=>?_⟩;refine⟨rfl,_,rfl,ite2 (fun _=>?_) (fun _=>hnx _ _ ⟨z3,rfl,hz3,S4.mono (by simp),K3.trans K4⟩)⟩;refine⟨_,rfl,_,rfl,kl,_,_,_,rfl,rfl,SqL.of (K4.at (K3.at hk nk) nk),ey,?_⟩;dsimp only[yH,tNil];refine⟨7,rfl,y,rfl,bnd1 (by omega),?_⟩;refine⟨_,rfl,st,ga,ca,_,26,rfl,S4,by omega,by decide,by decide,fun r H5 r0 r1 S5 K5=>?_⟩;obtain⟨c,e1,c0,c1,_⟩:=qE r0 r1;have lc:(⟨#[c]⟩:Str).length=1:=rfl;have l7:(Txt.slice y none (some (7:Int))).length<=7:=by rw[show(some (7:Int))=some ((7:Nat):Int)from rfl,tm];omega
   refine⟨vt,r,c,rfl,rfl,l26,e1,_,_,rfl,rfl,bnd (by omega) (by omega),hnx _ _ ⟨_,rfl,wC (((vp (hb y hy)).to 7).app (LetS.one ⟨c0,c1⟩)) (by rw[ka,lc];omega) (by rw[ka,lc];exact Nat.succ_le_succ l7),S5.mono (by simp),(K3.trans K4).trans K5⟩⟩
  rintro _ H4 ⟨z4,rfl,hz4,S4,K4⟩;have hk4:=K4.at hk nk;have hkl:(known.map V.str).length=known.length:=length_map _;refine ye (fun σ' H'=>∃(z:Str)(v:Option V),σ'=[some (.ref st),some (.ref kl),some (.str z),v]/\zE z=true/\H4=H') (fun nx hnx=>?_) ?_
  ·refine⟨_,rfl,kl,_,rfl,.inl (SqL.of hk4),_,_,rfl,rfl,_,rfl,by omega,by omega,?_⟩;rw[show(((known.map V.str).length:Int)+1).toNat=known.length+1 by simp];refine j9 (n:=known.length+1) (fun i σ' H'=>∃(z:Str)(v:Option V),σ'=[some (.ref st),some (.ref kl),some (.str z),v]/\zE z=true/\H4=H') ⟨z4,_,rfl,hz4,rfl⟩ ?_ ?_
   ·rintro i σ' H' hi ⟨z,v,rfl,hz,rfl⟩;refine⟨_,rfl,_,rfl,kl,_,rfl,.inl (SqL.of hk4),rfl,db known,_,rfl,?_⟩;refine ite2 (fun _=>?_) (fun _=>⟨z,_,rfl,hz,rfl⟩);have l1:(Str.ofString "q").length=1:=by decide+kernel
    have hq:LetS (Str.ofString "q"):=((ky _).mp (by decide+kernel)).2;have zl:=y8 hz;refine⟨_,rfl,_,_,rfl,rfl,bnd (by omega) (by omega),_,rfl,_,rfl,?_⟩;dsimp only[yH,tNil];refine⟨_,rfl,bnd1 (by rw[ka];omega),_,_,rfl,wC (((vp hz).app hq).last 8 (by decide)) ?_ ?_,rfl⟩
    ·rw[show(some (-8:Int))=some (-((8:Nat):Int))from rfl,d8 _ 8 (by decide),ka];omega
    ·rw[show(some (-8:Int))=some (-((8:Nat):Int))from rfl,d8 _ 8 (by decide),ka];omega
   ·rintro σ' H' ⟨z,v,rfl,hz,rfl⟩;exact hnx _ _ ⟨z,v,rfl,hz,rfl⟩
  rintro _ _ ⟨z5,v5,rfl,hz5,rfl⟩;refine ye (fun σ' H'=>∃(z:Str)(v:Option V),σ'=[some (.ref st),some (.ref kl),some (.str z),v]/\zE z=true/\z∉known/\H4=H') (fun nx hnx=>?_) ?_
  ·refine⟨_,rfl,kl,_,rfl,.inl (SqL.of hk4),_,_,rfl,rfl,_,rfl,by omega,by omega,?_⟩;rw[show(((known.map V.str).length:Int)+1).toNat=known.length+1 by simp];refine j9 (n:=known.length+1) (fun i σ' H'=>∃(z:Str)(v:Option V),σ'=[some (.ref st),some (.ref kl),some (.str z),v]/\zE z=true/\(z∈known-> ∀j,j<i->(j+1<i->pS j∈known)/\(j+1=i->z=pS j))/\H4=H') ⟨z5,_,rfl,hz5,fun _ j hj=>by simp,rfl⟩ ?_ ?_
   ·rintro i σ' H' hi ⟨z,v,rfl,hz,inv,rfl⟩;refine⟨_,rfl,_,rfl,kl,_,rfl,.inl (SqL.of hk4),rfl,db known,_,rfl,?_⟩;rw[if_neg (by decide),iZ];refine ite2 (fun hin=>?_) (fun hin=>⟨z,_,rfl,hz,fun m=>absurd (decide_eq_true m) hin,rfl⟩);have hm:z∈known:=of_decide_eq_true hin;obtain⟨c,e1,c0,c1,ec⟩:=qE (r:=(i:Int)) (by simp) (by omega);refine⟨_,rfl,vt,_,c,rfl,rfl,l26,(by rw[show((0:Int)+(i:Int))=(i:Int)by simp];exact e1),?_⟩;have l7:(Str.ofString "zzzzzzz").length=7:=by decide+kernel
    refine⟨_,_,rfl,rfl,bnd (by omega) (show 1<=20 by decide),pS i,some (.int (0+(i:Int))),?_,iq (by omega),fun _ j hj=>⟨fun h1=>?_,fun h1=>?_⟩,rfl⟩
    ·rw[Zd ec];rfl
    ·by_cases e:j+1<i
     ·exact(inv hm j (by omega)).1 e
     ·rw[<-(inv hm j (by omega)).2 (by omega)];exact hm
    ·rw[show j=i by omega]
   ·rintro σ' H' ⟨z,v,rfl,hz,inv,rfl⟩;refine hnx _ _ ⟨z,v,rfl,hz,fun hm=>?_,rfl⟩;refine iT (known:=known) fun i hi=>?_;by_cases e:i+1<known.length+1
    ·exact(inv hm i (by omega)).1 e
    ·rw[<-(inv hm i (by omega)).2 (by omega)];exact hm
  rintro _ _ ⟨z,v,rfl,hz,hn,rfl⟩;exact⟨_,rfl,k z H4 hz hn (S4.mono (by simp)) K4⟩
def wk:List Str:=["_law_heap_here"]
theorem vK:FnScope wk ["_law_heap_here"] (z7 yj):=FS
inductive sp_lht(vs:List V)(H:Hp)(Q:VK)(E:XK):Prop
 |mk (a:Addr) (ns:List Int):vs=[.ref a]->H a=some (.tup (ns.map V.int))->ns.length<=64->(∀x∈ns,1<=x/\x<=10^60)->(∀(H':Hp),Same H H'->Q (.str (txt ns)) H')->sp_lht vs H Q E
theorem ya(T:Txt P w K mg A):FnOk P w K mg base CX0 1 A.a6 A.f6 ["_law_heap_here"] sp_lht:=by
 refine T.x6.F.ok vK (by walk_at "n") fun _ _ _ s H vs Q E hr h=>?_
 ·obtain⟨a,ns,rfl,ha,hl,hb,k⟩:=h;refine⟨_,(z8 (zG (gM (yh (pv 0) (fun _=>rfl)))
     (z9 (zo zC)) zq)
    (z9 (zo (yU PySem.F.plainAttrs_str PySem.F.slot_str_join PySem.F.type_str_join wE zC (pa1 (zP (ls:=["_law_part"]) (fr:=[]) (csf (z7 yj) wk) rfl (wO (pv 0)) (fun _ _ _ _=>pgc 0 (by decide+kernel) rfl rfl) (fun _ _ _ _=>yy) (fun _ _ _ _=>(zH kK (glc (z7 yj)) T.w11 boot_str (pa1 (pvc (z7 yj) 0)))))))))),?_⟩
  by_cases h0:ns=[]
  ·subst h0;exact⟨_,rfl,false,.inr (.inl ⟨_,SqT.of ha,rfl⟩),iteT (k H (Same.refl _))⟩
  ·have hne:ns≠[]:=h0;refine⟨_,rfl,true,.inr (.inl ⟨_,SqT.of ha,by cases ns with|nil=>exact absurd rfl hne|cons _ _=>rfl⟩),iteF ?_⟩;refine⟨rfl,_,rfl,a,rfl,⟨_,SqT.of ha⟩,u0 (xs:=ns.map V.int) (fun i ys σ' H'=>H'=H/\(∃v,σ'=[v])/\ys=((ns.take i).map numS).map V.str) ⟨rfl,⟨_,rfl⟩,rfl⟩ ?_ ?_ ?_⟩
   ·rintro i ys σ' H' hi ⟨rfl,_,rfl⟩;refine⟨SqT.of ha,?_⟩;rw[length_map,length_map,length_take];exact le_trans (Nat.min_le_right _ _) (le_trans hl (by decide))
   ·rintro i x ys σ' H' hx ⟨rfl,⟨v,rfl⟩,rfl⟩;obtain⟨z,hz,rfl⟩:=jI hx;have h1:=hb z (mem_of_getElem? hz);have hi:=(List.getElem?_eq_some_iff.mp hz).1;have ez:=(List.getElem?_eq_some_iff.mp hz).2;refine⟨_,rfl,z,rfl,jr (by omega) h1.2,rfl,⟨_,rfl⟩,?_⟩;rw[take_succ_eq_append_getElem hi,ez];simp[numS]
   ·rintro ys σ' H' ⟨rfl,_,rfl⟩ l hl0;rw[length_map,take_length];refine⟨_,l,ns.map numS,rfl,rfl,SqL.of z6,?_,?_⟩
    ·have h1:((ns.map numS).map (·.length)).sum<=ns.length*61:=by
      rw[map_map];refine rQ fun x hx=>?_;show(numS x).length<=61;rw[zV];exact yq (by have:=hb x hx;omega) (by decide) (Int.lt_of_le_of_lt (hb x hx).2 (by decide))
     have h2:(Str.ofString " ").length=1:=by rw[kH];rfl
     rw[h2,length_map];omega
    ·have e:Txt.join (Str.ofString " ") (ns.map numS)=txt ns:=by unfold txt;rw[if_neg hne]
     rw[e];exact k _ (Same.new hl0)
def wl:List Str:=["_law_rule"]
theorem vL:FnScope wl ["_law_rule"] (z7 ym):=FS
inductive sp_law_rule_text(vs:List V)(H:Hp)(Q:VK)(E:XK):Prop
 |mk (p:Addr) (rs:List (List Int)) (xs:List V):vs=[.ref p]->H p=some (.tup xs)->All2 Tup1 H rs xs->rs.length<=6->(∀r∈rs,r.length<=10/\ ∀x∈r,1<=x/\x<10^60)->(∀(H':Hp),Same H H'->Q (.str (rtxt rs)) H')->sp_law_rule_text vs H Q E
theorem zN(T:Txt P w K mg A):FnOk P w K mg base CX0 2 A.a7 A.f7 ["_law_rule"] sp_law_rule_text:=by
 refine T.x7.F.ok vL (by walk_at "n") fun _ _ _ s H vs Q E hr h=>?_
 ·obtain⟨p,rs,xs,rfl,hp,h2,h6,hb,k⟩:=h;refine⟨_,(z8 (zG (gM (yh (pv 0) (fun _=>rfl)))
     (z9 (zo zC)) zq)
    (z9 (zo (yU PySem.F.plainAttrs_str PySem.F.slot_str_join PySem.F.type_str_join wE zC (pa1 (zP (ls:=["_law_heap_here"]) (fr:=[]) (csf (z7 ym) wl) rfl (wO (pv 0)) (fun _ _ _ _=>pgc 0 (by decide+kernel) rfl rfl) (fun _ _ _ _=>yy) (fun _ _ _ _=>(yc (ya T) (hr.mono (by decide)) (glc (z7 ym)) T.x6.g T.x6.F.kp T.x6.b .nil wu (pa1 (pvc (z7 ym) 0)))))))))),?_⟩
  have hxl:=h2.length;by_cases hne:rs=[]
  ·subst hne;cases h2;exact⟨_,rfl,false,.inr (.inl ⟨_,SqT.of hp,rfl⟩),iteT (k H (Same.refl _))⟩
  refine⟨_,rfl,true,.inr (.inl ⟨_,SqT.of hp,by cases h2 with|nil=>exact absurd rfl hne|cons _ _=>rfl⟩),iteF ?_⟩;refine⟨rfl,xT (fun(b:Str) v _=>v=V.str b) (rs.map txt) [] (by rw[length_map];exact hxl) (le_trans (m:=6) (by omega) (by decide)) (fun _ _ _ _ _ h=>h) rfl rfl hp (fun j x b H' P hx hbj s' hP=>?_) (fun zs H1 l s1 a1 hl=>?_)⟩
  ·obtain⟨r,hr0,q,rfl,hq⟩:=h2.get hx;rw[getElem?_map,hr0]at hbj;have hm:=hb r (mem_of_getElem? hr0);exact⟨_,rfl,q,r,rfl,s' _ _ hq,by omega,fun x hx=>⟨(hm.2 x hx).1,le_of_lt (hm.2 x hx).2⟩,fun H'' s''=>hP _ _ s'' (by rw[<-Option.some.inj hbj])⟩
  have e1:=xu a1;subst e1;have hsum:((rs.map txt).map (·.length)).sum<=(rs.map txt).length*620:=jR fun y hy=>by
   obtain⟨r,hr0,rfl⟩:=mem_map.mp hy;exact xw (hb r hr0).1 (hb r hr0).2
  rw[length_map]at hsum;refine⟨_,l,rs.map txt,rfl,rfl,SqL.of z6,?_,?_⟩
  ·have hbl:(Str.ofString " | ").length=3:=by decide
   rw[hbl,length_map];omega
  ·have e:Txt.join (Str.ofString " | ") (rs.map txt)=rtxt rs:=by unfold rtxt;rw[if_neg hne];rfl
   rw[e];exact k _ (s1.trans (Same.new hl))
def ai:List Str:=["_law_bound","_law_ways_here","_law_part","_law_n"]
theorem ju:FnScope ai ["_law_bound"] (z7 xj):=FS
inductive sp_coins(vs:List V)(H:Hp)(Q:VK)(E:XK):Prop
 |mk (n:Nat):vs=[.int n]->n<=1000->(∀(l:Addr)(H':Hp),H' l=some (.lst ((zy n n).map V.int))->Same H H'->H l=none->Q (.ref l) H')->sp_coins vs H Q E
theorem c9(T:Txt P w K mg A):FnOk P w K mg base CX0 1 A.a8 A.f8 ["_law_bound"] sp_coins:=by
 refine T.x8.F.ok ju (by walk_at "n") fun _ _ _ s H vs Q E hr h=>?_
 ·obtain⟨n,rfl,hn,k⟩:=h;refine⟨_,(z8 (pset 1 ju.nd (zu kO (yd (pa1 zc)) (zu Zq (yd (pa1 zc)) (pv 0))))
    (z8 (yK PassesOwn.never rfl (cB rfl T.w9 (pa2 zc (zu kr (pv 0) zc))) (pgn 2 ju.nd)
     (z9 (yK PassesOwn.never rfl (cB rfl T.w9 (pa2 (pv 2) (zu kr (pv 0) zc))) (pgn 3 ju.nd)
     (z9 (nB (pv 1) (pv 3) eB (pix zt (pv 1) (zu wN (pv 3) (pv 2))) qy qe)))))
    (z9 (zo (pv 1))))),?_⟩
  refine⟨by show 1<=sizeLine;decide,fun l1 hl1=>⟨by show 1<=sizeLine;decide,fun l2 hl2=>⟨_,rfl,l2,(n:Int),_,rfl,rfl,z6,by omega,by omega,?_,fun l3 hl3=>?_⟩⟩⟩
  ·show 1*(n:Int).toNat<=sizeLine;exact le_trans (m:=1000) (by omega) (by decide)
  have e0:(replicate (n:Int).toNat [V.int 0]).flatten=(replicate n (0:Int)).map V.int:=by
   rw[toNat_natCast];simp
  rw[e0];have s3:=((Same.new (o:=.lst [V.int 1]) hl1).trans (Same.new (o:=.lst [V.int 0]) hl2)).trans (Same.new (o:=.lst ((replicate n (0:Int)).map V.int)) hl3);have s13:=(Same.new (o:=.lst [V.int 0]) hl2).trans (Same.new (o:=.lst ((replicate n (0:Int)).map V.int)) hl3);refine⟨l1,l3,_,_,rfl,rfl,s13 _ _ z6,z6,?_,fun w hw=>?_⟩
  ·rw[length_map,List.length_replicate];exact le_trans (m:=1001) (by show 1+n<=1001;omega) (by decide)
  have nw:H w=none:=s3.free hw;have s4:=s3.trans (Same.new (o:=.lst ([V.int 1]++(replicate n (0:Int)).map V.int)) hw);refine⟨_,rfl,_,_,rfl,rfl,1,(n:Int)+1,rfl,⟨by decide,by decide,by omega,by omega⟩,?_⟩;have en0:((n:Int)+1-1).toNat=n:=by omega
  rw[en0];refine j9 (n:=n) (fun i σ' H'=>Same H H'/\i<=n/\(∃v2 v3,σ'=[some (.int n),some (.ref w),v2,v3])/\H' w=some (.lst ((zy n i).map V.int))) ⟨s4,zero_le _,⟨_,_,rfl⟩,z6⟩ ?_ ?_
  ·rintro i σ' H' hi ⟨s,_,⟨v2,v3,rfl⟩,gw⟩;refine⟨_,rfl,_,rfl,_,_,rfl,rfl,1+(i:Int),(n:Int)+1,rfl,⟨by omega,by omega,by omega,by omega⟩,?_⟩;have en:((n:Int)+1-(1+(i:Int))).toNat=n-i:=by omega
   rw[en];refine j9 (n:=n-i) (fun j σ' H'=>Same H H'/\(∃v3,σ'=[some (.int n),some (.ref w),some (.int (1+(i:Int))),v3])/\H' w=some (.lst ((y6 (zy n i) (i+1) j).map V.int))) ⟨s,⟨_,rfl⟩,gw⟩ ?_ ?_
   ·rintro j σ' H2 hj ⟨s2,⟨v3,rfl⟩,gw2⟩;have hlen:(y6 (zy n i) (i+1) j).length=n+1:=by rw[jG,j7]
    have hat:i+1+j<(y6 (zy n i) (i+1) j).length:=by omega
    have eat:(1+(i:Int))+(j:Int)=((i+1+j:Nat):Int):=by omega
    have esub:((i+1+j:Nat):Int)-(1+(i:Int))=((j:Nat):Int):=by omega
    have hj2:j<(y6 (zy n i) (i+1) j).length:=by omega
    rw[eat];refine⟨_,rfl,_,rfl,w,_,_,V.int ((y6 (zy n i) (i+1) j)[i+1+j]),rfl,rfl,SqL.of gw2,by omega,?_,_,rfl,_,rfl,_,rfl,_,_,rfl,rfl,w,_,_,V.int ((y6 (zy n i) (i+1) j)[j]),rfl,rfl,SqL.of gw2,?_,_,_,rfl,rfl,w,_,_,i+1+j,rfl,rfl,gw2,?_,?_⟩
    ·rw[toNat_natCast,getElem?_map,getElem?_eq_getElem hat];rfl
    ·show atI _ (((i+1+j:Nat):Int)-(1+(i:Int)))=_;rw[esub];exact zr (by rw[getElem?_map,getElem?_eq_getElem hj2];rfl)
    ·exact ZO (by rw[length_map];exact hat)
    ·refine⟨fun b o e=>?_,⟨_,rfl⟩,?_⟩
     ·rw[zh (zj e nw)];exact s2 _ _ e
     ·rw[z6];show some (HO.lst ((List.map V.int (y6 (zy n i) (i+1) j)).set (i+1+j) (V.int ((y6 (zy n i) (i+1) j)[i+1+j]+(y6 (zy n i) (i+1) j)[j]))))=_;rw[map_set];have e1:(y6 (zy n i) (i+1) j).getD (i+1+j) 0=(y6 (zy n i) (i+1) j)[i+1+j]:=by simp[hat]
      have e2:(y6 (zy n i) (i+1) j).getD (i+1+j-(i+1)) 0=(y6 (zy n i) (i+1) j)[j]:=by
       rw[show i+1+j-(i+1)=j by omega];simp[hj2]
      show _=some (HO.lst ((qm (y6 (zy n i) (i+1) j) (i+1) (i+1+j)).map V.int));unfold qm;rw[e1,e2]
   ·rintro σ' H2 ⟨s2,⟨v3,rfl⟩,gw2⟩;exact⟨s2,by omega,⟨_,_,rfl⟩,gw2⟩
  ·rintro σ' H' ⟨s,_,⟨v2,v3,rfl⟩,gw⟩;exact⟨_,rfl,k w H' gw s nw⟩
def qQ:List Str:=["_law_one","_law_other"]
theorem cR:FnScope qQ ["_law_one","_law_other"] (z7 yV):=FS
inductive sp_llies(vs:List V)(H:Hp)(Q:VK)(E:XK):Prop
 |mk (a b:Addr) (ns ms:List Int):vs=[.ref a,.ref b]->H a=some (.tup (ns.map V.int))->H b=some (.tup (ms.map V.int))->ns.length<=10000->(∀H',Same H H'->Q (.bl (lies ns ms)) H')->sp_llies vs H Q E
theorem dZ(T:Txt P w K mg A):FnOk P w K mg base CX0 1 A.a9 A.f9 ["_law_one","_law_other"] sp_llies:=by
 refine T.x9.F.ok cR (by walk_at "n") fun _ _ _ s H vs Q E hr h=>?_
 ·obtain⟨a,b,ns,ms,rfl,ha,hb,hln,k⟩:=h;refine⟨_,(z9 (zo (zp (jz rfl) rfl T.w0 boot_all (pa1 (zP (ls:=["_law_part"]) (fr:=[("_law_one",0),("_law_other",1)]) (csf (z7 yV) qQ) rfl (wO (pv 0 (hv:=Or.inr (Or.inl rfl)))) (fun _ _ _ _=>pgc 0 (by decide+kernel) rfl rfl) (fun _ _ _ _=>yy) (fun _ _ _ _=>(pcm hU (Zs K rfl PySem.F.plainAttrs_tuple PySem.F.slot_tuple_count PySem.F.type_tuple_count (re K rfl) (pvc (z7 yV) 1) (pa1 (pvc (z7 yV) 0))) (Zs K rfl PySem.F.plainAttrs_tuple PySem.F.slot_tuple_count PySem.F.type_tuple_count (re K rfl) (pvc (z7 yV) 2) (pa1 (pvc (z7 yV) 0)))))))))),?_⟩;refine⟨_,rfl,a,rfl,⟨_,SqT.of ha⟩,u0 (xs:=ns.map V.int) (fun i ys σ' H'=>H'=H/\(∃v,σ'=[v,some (.ref a),some (.ref b)])/\ys=((ns.take i).map fun x=>decide (ns.count x<=ms.count x)).map V.bl) ⟨rfl,⟨_,rfl⟩,rfl⟩ ?_ ?_ ?_⟩
  ·rintro i ys σ' H' hi ⟨rfl,_,rfl⟩;refine⟨SqT.of ha,?_⟩;rw[length_map,length_map,length_take];exact le_trans (m:=10000) (by omega) (by decide)
  ·rintro i x ys σ' H' hx ⟨rfl,⟨v,rfl⟩,rfl⟩;obtain⟨z,hz,rfl⟩:=jI hx;have hi:=(List.getElem?_eq_some_iff.mp hz).1;have ez:=(List.getElem?_eq_some_iff.mp hz).2;refine⟨_,rfl,.inr (.inl ⟨rfl,.inr ⟨_,ha⟩⟩),_,rfl,a,_,_,rfl,rfl,SqT.of ha,rfl,wA _,?_⟩;refine⟨_,rfl,.inr (.inl ⟨rfl,.inr ⟨_,hb⟩⟩),_,rfl,b,_,_,rfl,rfl,SqT.of hb,rfl,wA _,?_⟩;refine⟨_,_,rfl,rfl,rfl,⟨_,rfl⟩,?_⟩;rw[take_succ_eq_append_getElem hi,map_append,map_append,ez];show _++[V.bl (decide (((cntV (V.int z) (ns.map V.int):Nat):Int)<=((cntV (V.int z) (ms.map V.int):Nat):Int)))]=_;rw[ww,ww];have e:decide (((ns.count z:Nat):Int)<=((ms.count z:Nat):Int))=decide (ns.count z<=ms.count z):=by
    rw[decide_eq_decide];omega
   rw[e];rfl
  ·rintro ys σ' H' ⟨rfl,_,rfl⟩ l hl;rw[length_map,take_length];refine⟨l,_,rfl,SqL.of z6,?_⟩;have e:(ns.map fun x=>decide (ns.count x<=ms.count x)).all id=lies ns ms:=by
    unfold lies;rw[all_map];rfl
   rw[e];exact k _ (Same.new hl)
def dI:List Str:=["_law_rule","_law_heap_here","_law_number"]
theorem uZ:FnScope dI ["_law_rule","_law_heap_here"] (z7 pb):=FS
inductive sp_lfirst(vs:List V)(H:Hp)(Q:VK)(E:XK):Prop
 |mk (p q:Addr) (rs:List V) (rule:List (List Int)) (hs:List Int):vs=[.ref p,.ref q]->H p=some (.tup rs)->All2 Tup1 H rule rs->H q=some (.tup (hs.map V.int))->rule.length<=60->(∀h∈rule,h.length<=1000)->(∀(H':Hp),Same H H'->Q (optV (yv rule hs)) H')->sp_lfirst vs H Q E
theorem uM(T:Txt P w K mg A):FnOk P w K mg base CX0 2 A.a10 A.f10 ["_law_rule","_law_heap_here"] sp_lfirst:=by
 refine T.x10.F.ok uZ (by walk_at "n") fun _ _ _ s H vs Q E hr h=>?_
 ·obtain⟨p,q,rs,rule,hs,rfl,hp,h2,hq,hln,hlr,k⟩:=h;refine⟨_,(z8 (yK PassesOwn.never rfl (jd rfl T.w9 (pa1 (zp zk rfl T.w5 PySem.boot_len (pa1 (pv 0))))) (pgn 2 uZ.nd)
     (z9 (zG (yh (pcl (dZ T) hr T.x9 (pa2 (pix uE (pv 0) (pv 2)) (pv 1))) (fun _=>rfl))
     (z9 (zo (pv 2))) zq)))
    (z9 (zo rj))),?_⟩
  have hrl:=h2.length;refine⟨_,rfl,p,_,rfl,.inr (SqT.of hp),_,rfl,by omega,by omega,j9 (n:=rs.length) (fun i σ' H'=>Same H H'/\(∃v,σ'=[some (.ref p),some (.ref q),v])/\idxP rule hs i=[]) ⟨fun _ _ h=>h,⟨_,rfl⟩,rfl⟩ ?_ ?_⟩
  ·rintro i σ' H' hi ⟨s,⟨v,rfl⟩,h0⟩;have hir:i<rule.length:=by omega
   obtain⟨x,hx,q1,rfl,hq1⟩:=h2.at (getElem?_eq_getElem hir);have e1:rule.getD i []=rule[i]:=by simp[hir]
   refine⟨_,rfl,_,rfl,p,_,_,_,rfl,rfl,SqT.of (s _ _ hp),by rw[Int.zero_add];exact zr hx,?_⟩;refine⟨_,rfl,q1,q,rule[i],hs,rfl,s _ _ hq1,s _ _ hq,le_trans (hlr _ (getElem_mem hir)) (by decide),fun H2 s2=>⟨_,rfl,?_⟩⟩;have s3:=s.trans s2;refine ite2 (fun hc=>?_) (fun hc=>⟨s3,⟨_,rfl⟩,?_⟩)
   ·refine⟨_,rfl,?_⟩;have:=k H2 s3;rw[fC h0 hir (by rw[e1];exact hc)]at this;rw[Int.zero_add];exact this
   ·rw[jH,e1,if_neg hc,h0];rfl
  ·rintro σ' H' ⟨s,_,h0⟩;rw[<-hrl]at h0;have:=k H' s;rw[xW h0]at this;exact this
def wF:List Str:=["_law_n","_law_top","_law_found","_law_part"]
theorem kW:FnScope wF ["_law_n","_law_top"] (z7 yA):=FS
def b5(n:Nat):Sp:=fun vs H Q _=>∃(m g:Nat),m<n/\vs=[.int m,.int g]/\m<=24/\g<=1000/\
 ∀(l:Addr)(xs:List V)(H':Hp),H' l=some (.lst xs)->All2 Tup1 H' (yO n m g) xs->Same H H'->H l=none->Q (.ref l) H'
theorem jJ(T:Txt P w K mg A):∀n:Nat,FnOk P w K mg base CX0 n A.a11 A.f11 ["_law_n","_law_top"] (b5 n)
 | 0=>FnOk.none (fun _ _ _ _ ⟨_,_,h,_⟩=>absurd h (Nat.not_lt_zero _))
 |n+1=>by
  have ih:=jJ T n;refine T.x11.F.ok kW (by walk_at "n") fun _ _ _ s H vs Q E hr h=>?_
  ·obtain⟨m,g,hm,rfl,hm24,hg,k⟩:=h;refine⟨_,(z8 (zG (zi yM (pv 0) zc (zA _))
      (z9 (zo (yd (pa1 (zI ku))))) zq)
     (z8 (pset 2 kW.nd (yd ku))
     (z8 (yK PassesOwn.never rfl (nt rfl T.w9 (pa3 (zp (mY rfl) rfl T.w8 boot_min (pa2 (pv 0) (pv 1))) zc (cA pD zc))) (pgn 3 kW.nd)
      (z9 (zM (yU PySem.F.plainAttrs_list PySem.F.slot_list_extend PySem.F.type_list_extend qM (pv 2) (pa1 (zP (ls:=["_law_rest"]) (fr:=[("_law_part",3)]) (csf (z7 yA) wF) rfl (zT (yc ih hr rfl T.x11.g T.x11.F.kp T.x11.b .nil wu (pa2 (zu wN (pv 0) (pv 3 (hv:=Or.inr (Or.inl rfl)))) (pv 3 (hv:=Or.inr (Or.inl rfl)))))) (fun _ _ _ _=>pgc 0 (by decide+kernel) rfl rfl) (fun _ _ _ _=>yy) (fun _ _ _ _=>(zu (pW K rfl) (zI (pa1 (pvc (z7 yA) 1))) (pvc (z7 yA) 0)))))))))
     (z9 (zo (pv 2)))))),?_⟩
   dsimp only[bc];refine ye (fun σ' H'=>m≠0/\H'=H/\ σ'=[some (.int m),some (.int g),none,none]) (fun nx hnx=>?_) ?_
   ·refine⟨_,rfl,rfl,_,rfl,?_⟩;refine ite2 (fun h0=>?_) (fun h0=>hnx _ _ ⟨fun z=>h0 (by rw[z];rfl),rfl,rfl⟩);have e0:m=0:=by
     have:=of_decide_eq_true h0;injection this with this
     omega
    refine⟨by show 0<=sizeLine;decide,fun e he=>⟨by show 1<=sizeLine;decide,fun l hl=>?_⟩⟩;refine k l [.ref e] _ z6 ?_ ((Same.new he).trans (Same.new hl)) ((Same.new he).free hl);rw[zF,if_pos e0];exact .cons ⟨e,rfl,Same.new hl _ _ z6⟩ .nil
   rintro σ1 H1 ⟨m0,rfl,rfl⟩;refine⟨by show 0<=sizeLine;decide,fun l hl=>?_⟩;have hmin:(if(g:Int)<(m:Int)then(g:Int)else(m:Int))=((min m g:Nat):Int):=by split <;>omega
   refine⟨_,rfl,_,rfl,_,_,rfl,_,rfl,min m g,?_,by omega,ei (n:=min m g) (fun i σ' H'=>Same H1 H'/\i<=min m g/\ ∃xs v,σ'=[some (.int m),some (.int g),some (.ref l),v]/\H' l=some (.lst xs)/\All2 Tup1 H' (uR n m (min m g) i) xs) ⟨Same.new hl,zero_le _,[],_,rfl,z6,.nil⟩ ?_ ?_⟩
   ·show [V.int (if(g:Int)<(m:Int)then(g:Int)else(m:Int)),V.int 0,V.int (-1)]=_;rw[hmin]
   ·rintro i σ' H' hi ⟨s,_,xs,v,rfl,gl,h2⟩;have ep:((min m g:Nat):Int)-(i:Int)=((min m g-i:Nat):Int):=by omega
    have em:(m:Int)-((min m g-i:Nat):Int)=((m-(min m g-i):Nat):Int):=by omega
    have hlx:xs.length<=2^(m-min m g+i):=by
     rw[<-h2.length];exact uS (kP n) (Nat.min_le_left _ _) i (by omega)
    rw[ep];refine⟨_,rfl,.inl ⟨rfl,_,SqL.of gl⟩,_,rfl,_,rfl,_,_,rfl,rfl,_,rfl,m-(min m g-i),min m g-i,by omega,?_,by omega,by omega,fun l2 xs2 H2 gl2 h3 s2 nl2=>?_⟩
    ·show [V.int ((m:Int)-((min m g-i:Nat):Int)),V.int ((min m g-i:Nat):Int)]=_;rw[em]
    have hlx2:xs2.length<=2^(m-min m g+i):=by
     rw[<-h3.length];have e1:m-(min m g-i)=m-min m g+i:=by omega
     exact le_trans (kP n (m-(min m g-i)) (min m g-i)) (by rw[e1];exact le_refl _)
    have hpw:2^(m-min m g+i)+2^(m-min m g+i)<=sizeLine:=by
     have:2^(m-min m g+i)+2^(m-min m g+i)=2^(m-min m g+i+1):=by rw[Nat.pow_succ];omega
     rw[this];exact sJ (by omega)
    refine⟨l2,rfl,⟨_,SqL.of gl2⟩,yt (xs:=xs2) (fun j ys σ' H3=>Same H2 H3/\(∃v,σ'=[v,some (.int ((min m g-i:Nat):Int))])/\All2 Tup1 H3 (((yO n (m-(min m g-i)) (min m g-i)).take j).map (((min m g-i:Nat):Int):: ·)) ys) ⟨fun _ _ h=>h,⟨_,rfl⟩,.nil⟩ ?_ ?_ ?_⟩
    ·rintro j ys σ' H3 hj ⟨s3,_,h4⟩;refine⟨SqL.of (s3 _ _ gl2),?_⟩;rw[<-h4.length,length_map,length_take];omega
    ·rintro j x ys σ' H3 hx ⟨s3,⟨v,rfl⟩,h4⟩;obtain⟨hs,hhs,q,rfl,hq⟩:=h3.get hx;have hj:=(List.getElem?_eq_some_iff.mp hhs).1;have eh:=(List.getElem?_eq_some_iff.mp hhs).2;refine⟨_,rfl,by show 1<=sizeLine;decide,fun t ht=>⟨_,rfl,?_⟩⟩;have hl1:hs.length<=100:=by
      have:=gz _ _ _ hs (mem_of_getElem? hhs);omega
     refine d0 (Same.new ht _ _ (s3 _ _ hq)) z6 hl1 fun v H4 hv s4=>?_;have sn:=(Same.new (o:=.tup [V.int ((min m g-i:Nat):Int)]) ht).trans s4;refine⟨s3.trans sn,⟨_,rfl⟩,?_⟩;rw[take_succ_eq_append_getElem hj,map_append,eh];exact(h4.mv sn.tups).snoc hv
    ·rintro ys σ' H3 ⟨s3,_,h4⟩ l3 hl3;have et:(yO n (m-(min m g-i)) (min m g-i)).take xs2.length=yO n (m-(min m g-i)) (min m g-i):=by rw[<-h3.length,take_length]
     rw[et]at h4;have hly:ys.length=xs2.length:=by rw[<-h4.length,length_map,h3.length]
     have sn:=s2.trans (s3.trans (Same.new (o:=.lst ys) hl3));refine⟨l,l3,xs,ys,rfl,rfl,sn _ _ gl,z6,by omega,?_⟩;have tn:Tups H' (upd (upd H3 l3 (.lst ys)) l (.lst (xs++ys))):=sn.tups.trans (Tups.set (sn _ _ gl));have tn3:Tups H3 (upd (upd H3 l3 (.lst ys)) l (.lst (xs++ys))):=(Same.new hl3).tups.trans (Tups.set (sn _ _ gl));refine⟨fun b o e=>?_,by omega,xs++ys,_,rfl,z6,?_⟩
     ·rw[zh (zj e hl)];exact sn _ _ (s _ _ e)
     ·rw[vC];exact(h2.mv tn).append (h4.mv tn3)
   ·rintro σ' H' ⟨s,_,xs,v,rfl,gl,h2⟩;refine⟨_,rfl,k l xs H' gl ?_ s hl⟩;rw[zF,if_neg m0];exact h2
theorem pI(T:Txt P w K mg A):FnOk P w K mg base CX0 26 A.a11 A.f11 ["_law_n","_law_top"] (b5 26):=jJ T 26
def tP:List Str:=["_law_heaps","_law_found","_law_heap_here","_law_part"]
theorem kI:FnScope tP ["_law_heaps"] (z7 uV):=FS
inductive sp_law_joined(vs:List V)(H:Hp)(Q:VK)(E:XK):Prop
 |mk (a:Addr) (xs:List V) (ls:List (List Int)):vs=[.ref a]->H a=some (.lst xs)->All2 Tup1 H ls xs->ls.flatten.length<64->(∀(p:Addr)(ms:List Int)(H':Hp),H' p=some (.tup (ms.map V.int))->wc ls ms->Same H H'->H p=none->Q (.ref p) H')->sp_law_joined vs H Q E
theorem xH(T:Txt P w K mg A):FnOk P w K mg base CX0 1 A.a12 A.f12 ["_law_heaps"] sp_law_joined:=by
 refine T.x12.F.ok kI (by walk_at "n") fun _ _ _ s H vs Q E hr h=>?_
 ·obtain⟨a,xs,ls,rfl,ha,h2,hln,k⟩:=h;refine⟨_,(z8 (pset 1 kI.nd (yd ku))
    (z8 (yK PassesOwn.never rfl (zT (pv 0)) (pgn 2 kI.nd)
     (z9 (yK PassesOwn.never rfl (wO (pv 2)) (pgn 3 kI.nd)
     (z9 (zG (zi hV (yU PySem.F.plainAttrs_list PySem.F.slot_list_count PySem.F.type_list_count lJ (pv 1) (pa1 (pv 3))) (yU PySem.F.plainAttrs_tuple PySem.F.slot_tuple_count PySem.F.type_tuple_count qL (pv 2) (pa1 (pv 3))) (zA _))
     (z9 (zM (yU PySem.F.plainAttrs_list PySem.F.slot_list_append PySem.F.type_list_append yw (pv 1) (pa1 (pv 3))))) zq)))))
    (z9 (zo (zH zU rfl T.w13 boot_tuple (pa1 (pZ rfl T.w10 (pv 1)))))))),?_⟩
  refine⟨by show 0<=sizeLine;decide,fun f hf=>?_⟩;have hlc:∀i j (x:List Int),ls[i]? =some x->((ls.take i).flatten++x.take j).length<64:=fun i j x hx=>by
   have hi:=(List.getElem?_eq_some_iff.mp hx).1;have ex:=(List.getElem?_eq_some_iff.mp hx).2;have e1:ls.flatten=(ls.take i).flatten++(x++(ls.drop (i+1)).flatten):=by
    conv=>lhs;rw[<-List.take_append_drop i ls]
    rw[List.flatten_append,drop_eq_getElem_cons hi,ex,flatten_cons]
   rw[e1]at hln;simp only[length_append,length_take]at hln ⊢;exact lt_of_le_of_lt (Nat.add_le_add_left (le_trans (Nat.min_le_right _ _) (Nat.le_add_right _ _)) _) hln
  refine⟨_,rfl,a,rfl,⟨_,SqL.of (Same.new hf _ _ ha)⟩,jq (xs:=xs) (fun i σ' H'=>(∃v w,σ'=[some (.ref a),some (.ref f),v,w])/\Same H H'/\ ∃fs:List Int,H' f=some (.lst (fs.map V.int))/\fs.length<=(ls.take i).flatten.length/\ ∀x,fs.count x=maxC (ls.take i) x) ⟨⟨_,_,rfl⟩,Same.new hf,[],z6,le_refl _,fun _=>rfl⟩ ?_ ?_ ?_⟩
  ·rintro i σ' H' _ ⟨_,s,_⟩;exact SqL.of (s _ _ ha)
  ·rintro i x σ' H' hx ⟨⟨v,w',rfl⟩,s,fs,gf,hfl,hfc⟩;obtain⟨hs,hhs,q,rfl,hq⟩:=h2.get hx;refine⟨_,rfl,q,rfl,⟨_,SqT.of (s _ _ hq)⟩,tu (xs:=hs.map V.int) (fun j σ' H'=>(∃w,σ'=[some (.ref a),some (.ref f),some (.ref q),w])/\Same H H'/\ ∃fs:List Int,H' f=some (.lst (fs.map V.int))/\fs.length<=((ls.take i).flatten++hs.take j).length/\ ∀x,fs.count x=max (maxC (ls.take i) x) (min (hs.count x) (maxC (ls.take i) x+(hs.take j).count x))) ⟨⟨_,rfl⟩,s,fs,gf,by rw[List.take_zero,append_nil];exact hfl,fun x=>by rw[hfc];exact(Nat.max_eq_left (Nat.min_le_right _ _)).symm⟩ ?_ ?_ ?_⟩
   ·rintro j σ' H2 _ ⟨_,s2,_⟩;exact SqT.of (s2 _ _ hq)
   ·rintro j x σ' H2 hx2 ⟨⟨w2,rfl⟩,s2,fs2,gf2,hfl2,hfc2⟩;obtain⟨z,hz,rfl⟩:=jI hx2;have hj:=(List.getElem?_eq_some_iff.mp hz).1;have ez:=(List.getElem?_eq_some_iff.mp hz).2;have e1:∀x,(hs.take (j+1)).count x=(hs.take j).count x+if z=x then 1 else 0:=fun x=>by
     rw[take_succ_eq_append_getElem hj,List.count_append,ez,List.count_singleton];simp
    have e2:(hs.take (j+1)).count z<=hs.count z:=List.Sublist.count_le z (List.take_sublist _ _);have e3:=e1 z;rw[if_pos rfl]at e3;have hl64:=hlc i j hs hhs;have e4:((ls.take i).flatten++hs.take (j+1)).length=((ls.take i).flatten++hs.take j).length+1:=by
     simp only[length_append,length_take];omega
    refine⟨_,rfl,.inl ⟨rfl,_,SqL.of gf2⟩,_,rfl,f,_,_,rfl,rfl,SqL.of gf2,rfl,wA _,?_⟩;refine⟨_,rfl,.inr (.inl ⟨rfl,.inr ⟨_,s2 _ _ hq⟩⟩),_,rfl,q,_,_,rfl,rfl,SqT.of (s2 _ _ hq),rfl,wA _,?_⟩;refine⟨_,_,rfl,rfl,_,rfl,?_⟩;rw[ww,ww];refine ite2 (fun hlt=>?_) (fun hlt=>?_)
    ·have hlt':fs2.count z<hs.count z:=by have:=of_decide_eq_true hlt;omega
     refine⟨_,rfl,.inl ⟨rfl,_,SqL.of gf2⟩,_,rfl,f,_,_,rfl,rfl,gf2,?_,⟨_,rfl⟩,?_,fs2++[z],by rw[z6,map_append];rfl,?_,fun x=>?_⟩
     ·rw[length_map];exact lt_of_lt_of_le (show fs2.length<64 by omega) (by decide)
     ·exact fun b o e=>by rw[zh (zj e hf)];exact s2 _ _ e
     ·rw[e4,length_append];show fs2.length+1<=_;omega
     ·rw[List.count_append,List.count_singleton,hfc2 x,e1 x];by_cases e:z=x
      ·subst e;have:=oP (hfc2 z) (by omega) hlt';rw[hfc2 z]at this;simpa using this
      ·have e':(z==x)=false:=by simpa using e
       rw[if_neg e,e'];simp
    ·have hlt':¬fs2.count z<hs.count z:=fun h=>hlt (decide_eq_true (by omega));refine⟨⟨_,rfl⟩,s2,fs2,gf2,by omega,fun x=>?_⟩;rw[hfc2 x,e1 x];by_cases e:z=x
     ·subst e;have:=oO (hfc2 z) (by omega) hlt';rw[hfc2 z]at this;simpa using this
     ·rw[if_neg e];simp
   ·rintro σ' H2 ⟨⟨w2,rfl⟩,s2,fs2,gf2,hfl2,hfc2⟩;rw[length_map,take_length]at hfl2 hfc2;have hi:=(List.getElem?_eq_some_iff.mp hhs).1;have ez:=(List.getElem?_eq_some_iff.mp hhs).2;have et:ls.take (i+1)=ls.take i++[hs]:=by rw[take_succ_eq_append_getElem hi,ez]
    refine⟨⟨_,_,rfl⟩,s2,fs2,gf2,?_,fun x=>?_⟩
    ·rw[et,List.flatten_append];simpa using hfl2
    ·rw[et,bW,hfc2 x];show _=max _ (max (hs.count x) 0);rw[Nat.min_eq_left (Nat.le_add_left _ _),Nat.max_zero]
  ·rintro σ' H2 ⟨⟨v,w2,rfl⟩,s2,fs2,gf2,hfl2,hfc2⟩;rw[<-h2.length,take_length]at hfl2 hfc2;refine⟨_,rfl,f,fs2,rfl,.inl (SqL.of gf2),by omega,fun ms l hperm hord hl=>?_⟩;refine⟨l,_,rfl,.inl ⟨SqL.of z6,fun p hp=>?_⟩⟩;exact k p ms _ z6 ⟨hord,fun x=>by rw[hperm.count_eq,hfc2]⟩ (s2.trans ((Same.new hl).trans (Same.new hp))) (s2.free ((Same.new hl).free hp))
def uc:List Str:=["_law_many","_law_found","_law_number"]
theorem km:FnScope uc ["_law_many"] (z7 yP):=FS
inductive sp_law_choices(vs:List V)(H:Hp)(Q:VK)(E:XK):Prop
 |mk (n:Nat):vs=[.int n]->n<=6->(∀(l:Addr)(xs:List V)(H':Hp),H' l=some (.lst xs)->All2 Tup1 H' (chG (upto n)) xs->Same H H'->H l=none->Q (.ref l) H')->sp_law_choices vs H Q E
theorem gu(T:Txt P w K mg A):FnOk P w K mg base CX0 1 A.a13 A.f13 ["_law_many"] sp_law_choices:=by
 refine T.x13.F.ok km (by walk_at "n") fun _ _ _ s H vs Q E hr h=>?_
 ·obtain⟨n,rfl,hln,k⟩:=h;refine⟨_,(z8 (pset 1 km.nd (yd (pa1 (zI ku))))
    (z8 (yK PassesOwn.never rfl (jd rfl T.w9 (pa1 (pv 0))) (pgn 2 km.nd)
     (z9 (pset 1 km.nd (zu kO (pv 1) (zP (ls:=["_law_choice"]) (fr:=[("_law_number",2)]) (csf (z7 yP) uc) rfl (zT (pv 1)) (fun _ _ _ _=>pgc 0 (by decide+kernel) rfl rfl) (fun _ _ _ _=>yy) (fun _ _ _ _=>(zu (pW K rfl) (pvc (z7 yP) 0) (zI (pa1 (pvc (z7 yP) 1))))))))))
    (z9 (zo (pv 1))))),?_⟩
  refine⟨by show 0<=sizeLine;decide,fun e he=>⟨by show 1<=sizeLine;decide,fun l0 hl0=>?_⟩⟩;have ne0:H l0=none:=(Same.new he).free hl0;refine⟨_,rfl,_,rfl,by omega,by omega,j9 (n:=n) (fun i σ' H'=>Same H H'/\i<=n/\ ∃l xs v,σ'=[some (.int n),some (.ref l),v]/\H' l=some (.lst xs)/\H l=none/\All2 Tup1 H' (chG (upto i)) xs) ?_ ?_ ?_⟩
  ·refine⟨(Same.new he).trans (Same.new hl0),zero_le _,l0,[.ref e],_,rfl,z6,ne0,.cons ⟨e,rfl,?_⟩ .nil⟩;exact Same.new hl0 _ _ z6
  ·rintro i σ' H' hi ⟨s,hi6,l,xs,v,rfl,gl,nl,h2⟩;have hlen:=bD i (upto i) (ve i);have hmem:=qj i (upto i) (ve i);have hlx:xs.length<=64:=by
    rw[<-h2.length,hlen];exact le_trans (Nat.pow_le_pow_right (by decide) (show i<=6 by omega)) (by decide)
   refine⟨_,rfl,_,rfl,l,rfl,⟨_,SqL.of gl⟩,yt (xs:=xs) (fun j ys σ' H2=>Same H' H2/\(∃v,σ'=[v,some (.int (0+(i:Int)))])/\All2 Tup1 H2 (((chG (upto i)).take j).map (· ++[(i:Int)])) ys) ⟨fun _ _ h=>h,⟨_,rfl⟩,.nil⟩ ?_ ?_ ?_⟩
   ·rintro j ys σ' H2 hj ⟨s2,_,h3⟩;refine⟨SqL.of (s2 _ _ gl),?_⟩;rw[<-h3.length,length_map,length_take];refine le_trans (m:=64) (by omega) (by decide)
   ·rintro j x ys σ' H2 hx ⟨s2,⟨v,rfl⟩,h3⟩;obtain⟨hs,hhs,q,rfl,hq⟩:=h2.get hx;have hj:=(List.getElem?_eq_some_iff.mp hhs).1;have eh:=(List.getElem?_eq_some_iff.mp hhs).2;refine⟨_,rfl,_,rfl,by show 1<=sizeLine;decide,fun t ht=>?_⟩;have hl1:hs.length<=60:=by
     have:=(hmem hs (mem_of_getElem? hhs)).1;omega
    refine iB (z:=0+(i:Int)) (Same.new ht _ _ (s2 _ _ hq)) z6 hl1 fun v H3 hv s3=>?_;have sn:=(Same.new (o:=.tup [V.int (0+(i:Int))]) ht).trans s3;refine⟨s2.trans sn,⟨_,rfl⟩,?_⟩;rw[take_succ_eq_append_getElem hj,map_append,eh];rw[Int.zero_add]at hv;exact(h3.mv sn.tups).snoc hv
   ·rintro ys σ' H2 ⟨s2,⟨v,rfl⟩,h3⟩ l2 hl2;have et:(chG (upto i)).take xs.length=chG (upto i):=by rw[<-h2.length,take_length]
    rw[et]at h3;have hly:ys.length<=64:=by
     rw[<-h3.length,length_map,h2.length];exact hlx
    refine⟨l,l2,xs,ys,rfl,rfl,Same.new hl2 _ _ (s2 _ _ gl),z6,le_trans (m:=128) (by omega) (by decide),fun l3 hl3=>?_⟩;have sn:=s2.trans ((Same.new (o:=.lst ys) hl2).trans (Same.new (o:=.lst (xs++ys)) hl3));refine⟨s.trans sn,by omega,l3,xs++ys,_,rfl,z6,(s.trans (s2.trans (Same.new hl2))).free hl3,?_⟩;rw[bg,uA];exact(h2.mv sn.tups).append (h3.mv ((Same.new hl2).trans (Same.new hl3)).tups)
  ·rintro σ' H' ⟨s,_,l,xs,v,rfl,gl,nl,h2⟩;exact⟨_,rfl,k l xs H' gl h2 s nl⟩
def ud:List Str:=["_law_ways_here","_law_rule","_law_n","_law_found","_law_choice","_law_rest"]
theorem yE:FnScope ud ["_law_ways_here","_law_rule","_law_n"] (z7 yQ):=FS
inductive sp_kept_by(vs:List V)(H:Hp)(Q:VK)(E:XK):Prop
 |mk (w p:Addr) (rs:List V) (rule:List (List Int)) (n N:Nat):vs=[.ref w,.ref p,.int n]->H w=some (.lst ((zy N N).map V.int))->RuleAt H p rs rule->n<=N->N<=400->(∀H',Same H H'->Q (.int (zY rule (fun j=>(zy N N).getD j 0) n (chG (upto rule.length)))) H')->sp_kept_by vs H Q E
theorem gv(T:Txt P w K mg A):FnOk P w K mg base CX0 2 A.a14 A.f14 ["_law_ways_here","_law_rule","_law_n"] sp_kept_by:=by
 refine T.x14.F.ok yE (by walk_at "n") fun _ _ _ s H vs Q E hr h=>?_
 ·obtain⟨w,p,rs,rule,n,N,rfl,gw,hR,hn,hN,k⟩:=h;refine⟨_,(z8 (pset 3 yE.nd zc)
    (z8 (yK PassesOwn.never rfl (zT (pcl (gu T) hr T.x13 (pa1 (zp zk rfl T.w5 PySem.boot_len (pa1 (pv 1 (hv:=Or.inr (Or.inl rfl)))))))) (pgn 4 yE.nd)
     (z8 (pset 5 yE.nd (zu wN (pv 2) (zp (uz rfl) rfl T.w12 boot_sum (pa1 (pcl (xH T) hr T.x12 (pa1 (zP (ls:=["_law_number"]) (fr:=[("_law_rule",1)]) (csf (z7 yQ) ud) rfl (wO (pv 4)) (fun _ _ _ _=>pgc 0 (by decide+kernel) rfl rfl) (fun _ _ _ _=>yy) (fun _ _ _ _=>(pix (lm K rfl) (pvc (z7 yQ) 1) (pvc (z7 yQ) 0))))))))))
    (z9 (zG (zi sr (pv 5) zc (zA _))
     (z9 (rq (i:=3) yE.nd rfl (by first|exact Or.inl rfl|exact Or.inr rfl) (zu yN (zu wN zc (zu yN zc (zu p9 (zp zk rfl T.w5 PySem.boot_len (pa1 (pv 4))) zc))) (pix zt (pv 0) (pv 5))) qy)) zq))))
    (z9 (zo (pv 3))))),?_⟩
  have hrl:=hR.h2.length;have hln:=hR.ln;refine⟨_,rfl,p,_,rfl,.inr (SqT.of hR.at_),rs.length,rfl,by omega,fun cl cs H2 gc h4 s2 ncl=>?_⟩;rw[<-hrl]at h4;have hcl:=h4.length;have hJ:=hR.gd;refine⟨cl,rfl,⟨_,SqL.of gc⟩,jq (xs:=cs) (fun i σ' H'=>Same H2 H'/\i<=cs.length/\ ∃v4 v5,σ'=[some (.ref w),some (.ref p),some (.int n),some (.int (zY rule (fun j=>(zy N N).getD j 0) n ((chG (upto rule.length)).take i))),v4,v5]) ⟨fun _ _ z=>z,zero_le _,_,_,rfl⟩ ?_ ?_ ?_⟩
  ·rintro i σ' H' _ ⟨s',_⟩;exact SqL.of (s' _ _ gc)
  ·rintro i x σ' H' hx ⟨s',hi',v4,v5,rfl⟩;obtain⟨ch,hch,c,rfl,gcc⟩:=h4.get hx;have hi:=(List.getElem?_eq_some_iff.mp hx).1;have s02:=s2.trans s';have RH:=hR.mv s02.tups;have gc':=s' _ _ gcc;obtain⟨cm1,cm2⟩:=qj rule.length (upto rule.length) (ve _) ch (mem_of_getElem? hch);have chb:∀j∈ch,0<=j/\j<rule.length:=fun j hj=>by
    have:=fj (cm2 j hj);omega
   have fl:=nv (ch:=ch) hJ (by omega);have etake:(chG (upto rule.length)).take (i+1)=(chG (upto rule.length)).take i++[ch]:=by rw[take_succ,hch];rfl
   refine⟨_,rfl,_,rfl,c,rfl,⟨_,SqT.of gc'⟩,u0 (xs:=ch.map V.int) (fun i ys σ' H3=>H3=H'/\(∃v,σ'=[v,some (.ref p)])/\All2 Tup1 H' (zQ rule (ch.take i)) ys) ⟨rfl,⟨_,rfl⟩,.nil⟩ ?_ ?_ ?_⟩
   ·rintro i ys σ' H3 hi ⟨rfl,_,h3⟩;refine⟨SqT.of gc',?_⟩;rw[<-h3.length];unfold zQ;rw[length_map,length_take];exact yW (by omega)
   ·rintro i x ys σ' H3 hx ⟨rfl,⟨v,rfl⟩,h3⟩;obtain⟨z,hz,rfl⟩:=jI hx;have hi:=(List.getElem?_eq_some_iff.mp hz).1;have ez:=(List.getElem?_eq_some_iff.mp hz).2;have hb:=chb z (mem_of_getElem? hz);obtain⟨w',hw,r⟩:=nu RH.h2 hb.1 hb.2;refine⟨_,rfl,_,rfl,p,_,z,_,rfl,rfl,SqT.of RH.at_,hw,rfl,⟨_,rfl⟩,?_⟩;rw[take_succ_eq_append_getElem hi,ez];unfold zQ;rw[map_append];exact h3.snoc r
   rintro ys σ' H3 ⟨rfl,_,h3⟩ l3 hl3;rw[length_map,take_length]at h3;have s3:=Same.new (o:=.lst ys) hl3;refine⟨l3,ys,_,rfl,z6,h3.mv s3.tups,fl,fun q ms H4 gq hj s4 nq=>?_⟩;have ej:=eD hj;have s34:=s3.trans s4;refine⟨q,ms,rfl,.inr (SqT.of gq),_,_,rfl,rfl,?_⟩;refine⟨_,rfl,_,_,rfl,rfl,_,rfl,ite2 (fun hc=>?_) (fun hc=>?_)⟩
   ·have hc':0<=(n:Int)-ms.sum:=of_decide_eq_true hc;have gw4:=s34 _ _ (s' _ _ (s2 _ _ gw));have gc4:=s34 _ _ gc';have esg:(1:Int)-2*(((ch.map V.int).length:Int)%2)=sgnG ch:=by
     rw[length_map];unfold sgnG;split <;>omega
    have hsub:(n:Int)-ms.sum=((n-ms.sum.toNat:Nat):Int):=by
     have:=vW hR.J ch;rw[ej]at this;omega
    have hlt:n-ms.sum.toNat<(zy N N).length:=by rw[j7];omega
    refine⟨_,rfl,_,rfl,c,_,rfl,.inr (SqT.of gc4),_,_,rfl,rfl,(show(0:Int)<2 by decide),_,_,rfl,rfl,.inl ⟨by decide,by decide⟩,_,_,rfl,rfl,_,rfl,_,rfl,w,_,_,V.int ((zy N N).getD (n-ms.sum.toNat) 0),rfl,rfl,SqL.of gw4,?_,_,_,rfl,rfl,.inl ?_,_,_,rfl,rfl,?_⟩
    ·rw[hsub];refine zr ?_;rw[getElem?_map,getD_eq_getElem?_getD,getElem?_eq_getElem hlt];rfl
    ·rw[esg];unfold sgnG;split <;>exact⟨by decide,by decide⟩
    ·refine⟨s'.trans s34,by omega,some (.ref c),some (.int ((n:Int)-ms.sum)),?_⟩;rw[etake,jx,ej,if_pos (by omega),<-esg];rfl
   ·have hc':¬0<=(n:Int)-ms.sum:=fun z=>hc (decide_eq_true z);refine⟨s'.trans s34,by omega,some (.ref c),some (.int ((n:Int)-ms.sum)),?_⟩;rw[etake,jx,ej,if_neg (by omega),Int.mul_zero,Int.add_zero];rfl
  ·rintro σ' H' ⟨s',_,v4,v5,rfl⟩;rw[<-hcl,take_length];exact⟨_,rfl,k H' (s2.trans s')⟩
def uo:List Str:=["_law_name_here","_law_rule","_law_heap_here","_law_small","_law_great","_law_ways_here","_law_number","_law_rows_here","_law_kept","_law_found"]
theorem yF:FnScope uo ["_law_name_here","_law_rule","_law_heap_here","_law_small","_law_great","_law_ways_here"] (z7 zX):=FS
inductive sp_rows(vs:List V)(H:Hp)(Q:VK)(E:XK):Prop
 |mk (n:Str) (p q w:Addr) (rs:List V) (rule:List (List Int)) (hs:List Int) (sm gr:Nat):vs=[.str n,.ref p,.ref q,.int sm,.int gr,.ref w]->zE n=true->RuleAt H p rs rule->H q=some (.tup (hs.map V.int))->hs.length<=10->(∀x∈hs,1<=x/\x<=8)->sm<=24->gr<=400->H w=some (.lst ((zy gr gr).map V.int))->(zY rule (fun j=>(zy gr gr).getD j 0) gr (chG (upto rule.length))).natAbs.log2<1920->(∀(l:Addr)(xs:List V)(H':Hp),H' l=some (.lst xs)->All2 RowD H' (je n rule hs sm gr) xs->Same H H'->H l=none->Q (.ref l) H')->sp_rows vs H Q E
theorem js(T:Txt P w K mg A):FnOk P w K mg base CX0 30 A.a15 A.f15 ["_law_name_here","_law_rule","_law_heap_here","_law_small","_law_great","_law_ways_here"] sp_rows:=by
 refine T.x15.F.ok yF (by walk_at "n") fun _ _ _ s H vs Q E hr h=>?_
 ·obtain⟨n,p,q,w,rs,rule,hs,sm,gr,rfl,hn,hR,gq,hl,hb,h24,h400,gw,hcb,k⟩:=h;refine⟨_,(z8 (pset 6 yF.nd (pcl (uM T) hr T.x10 (pa2 (pv 1 (hv:=Or.inr (Or.inl rfl))) (pv 2))))
    (z8 (pset 7 yF.nd (yd (pa1 (zI (pa2 (zu yI (vE (yz (kx (pv 0) (yz jK)))) (pcl (ya T) hr T.x6 (pa1 (pv 2)))) zC)))))
    (z8 (zG (zi ZY (pv 6) rj (zA _))
     (z9 (pset 7 yF.nd (yd (pa1 (zI (pa2 (zu yI (vE (yz (kx (pv 0) (yz jK)))) (pcl (ya T) hr T.x6 (pa1 (pv 2)))) (vE (yz (kx (pv 6) jK))))))))) zq)
    (z8 (aF (i:=8) (ls:=["_law_one"]) (fr:=[("_law_rule",1)]) (csf (z7 zX) uo) rfl (zT (pcl (pI T) hr T.x11 (pa2 (pv 3) (pv 3)))) (fun _ _ _ _=>pgc 0 (by decide+kernel) rfl rfl) (fun _ _ _ _=>eR (zi n9 (yc (uM T) (hr.mono (by decide)) (glc (z7 zX)) T.x10.g T.x10.F.kp T.x10.b .nil wu (pa2 (pvc (z7 zX) 1) (pvc (z7 zX) 0))) rj (zA _))) (fun _ _ _ _=>(pvc (z7 zX) 0)) yF.nd rfl rfl rfl)
    (z8 (pset 9 yF.nd (yU PySem.F.plainAttrs_str PySem.F.slot_str_join PySem.F.type_str_join wE zC (pa1 (zP (ls:=["_law_one"]) (fr:=[]) (csf (z7 zX) uo) rfl (zT (pv 8)) (fun _ _ _ _=>pgc 0 (by decide+kernel) rfl rfl) (fun _ _ _ _=>yy) (fun _ _ _ _=>(yc (ya T) (hr.mono (by decide)) (glc (z7 zX)) T.x6.g T.x6.F.kp T.x6.b .nil wu (pa1 (pvc (z7 zX) 0))))))))
    (z8 (zG (gM (yh (pv 8) (fun _=>rfl)))
     (z9 (pset 9 yF.nd zC)) zq)
    (z8 (zM (yU PySem.F.plainAttrs_list PySem.F.slot_list_append PySem.F.type_list_append yw (pv 7) (pa1 (zI (pa2 (vE (yz (kx (pv 0) (yz (kx (pv 3) jK))))) (pv 9))))))
    (z8 (zM (yU PySem.F.plainAttrs_list PySem.F.slot_list_append PySem.F.type_list_append yw (pv 7) (pa1 (zI (pa2 (vE (yz (kx (pv 0) (yz (kx (pv 3) jK))))) (zH kK rfl T.w11 boot_str (pa1 (zp zk rfl T.w5 PySem.boot_len (pa1 (pv 8))))))))))
    (z8 (zM (yU PySem.F.plainAttrs_list PySem.F.slot_list_append PySem.F.type_list_append yw (pv 7) (pa1 (zI (pa2 (vE (yz (kx (pv 0) (yz (kx (pv 4) jK))))) (zH kK rfl T.w11 boot_str (pa1 (pcl (gv T) hr T.x14 (pa3 (pv 5) (pv 1 (hv:=Or.inr (Or.inl rfl))) (pv 4))))))))))
    (z9 (zo (pv 7)))))))))))),?_⟩
  have ln:=y8 hn;have lb:(Str.ofString " ").length=1:=by decide+kernel
  have lk:(Str.ofString "keeps ").length=6:=by decide+kernel
  have lls:(Str.ofString "list ").length=5:=by decide+kernel
  have lco:(Str.ofString "count ").length=6:=by decide+kernel
  have big:∀k:Nat,k<=20000->k<=sizeLine:=fun k h=>le_trans h (by decide);have ltx:(txt hs).length<=10000:=uw (by omega) fun x hx=>⟨(hb x hx).1,Int.le_trans (hb x hx).2 (by decide)⟩;have lnum:∀m:Nat,m<=400->(numS (m:Int)).length<=3:=fun m hm=>by rw[zV];exact yq (by simp) (by decide) (by omega)
  have lg:∀m:Nat,m<=400->((m:Int)).natAbs.log2<1920:=fun m hm=>jr (by simp) (Int.le_trans (show(m:Int)<=400 by omega) (by decide));refine cut2 fun nx hx=>?_;refine⟨_,rfl,_,rfl,p,q,rs,rule,hs,rfl,hR.at_,hR.h2,gq,le_trans hR.ln (by decide),hR.small,fun H1 s1=>?_⟩;have gq1:=s1 _ _ gq;have ee:∀a b c:Str,((Str.empty++a)++b)++c=(a++b)++c:=fun a b c=>by rw[yu]
  refine⟨big _ (by walk_at "b"),_,rfl,n,.inr rfl,big _ (by omega),big _ (by walk_at "b"),big _ (by walk_at "b"),big _ (by walk_at "b"),?_⟩;rw[ee];refine⟨_,rfl,q,hs,rfl,gq1,by omega,(fun x hx=>⟨(hb x hx).1,Int.le_trans (hb x hx).2 (by decide)⟩),fun H2 s2=>?_⟩;refine⟨_,_,rfl,rfl,big _ (by walk_at "b"),by show 2<=sizeLine;decide,fun t1 ht1=>⟨by show 1<=sizeLine;decide,fun l1 hl1=>?_⟩⟩;have s12:=s1.trans s2;have sA:=(Same.new (o:=.tup [V.str (qG n hs),V.str (Str.ofString "yes")]) ht1);have sB:=Same.new (o:=.lst [V.ref t1]) hl1;dsimp only[kc];subst hx;refine ye (fun σ' H'=>∃(l:Addr)(v:V),σ'=[some (.str n),some (.ref p),some (.ref q),some (.int (sm:Int)),some (.int (gr:Int)),some (.ref w),some (optV (yv rule hs)),some (.ref l),none,none]/\H' l=some (.lst [v])/\RowD (qG n hs,.inl (uF rule hs)) v H'/\Same H H'/\H l=none) (fun nx hnx=>?_) ?_
  ·have nl1:H l1=none:=s12.free (sA.free hl1);refine⟨_,rfl,rfl,_,rfl,?_⟩;cases hf:yv rule hs with
   |none =>
    refine iteF (hnx _ _ ⟨l1,.ref t1,?_,z6,⟨t1,_,rfl,sB _ _ z6,?_⟩,s12.trans (sA.trans sB),nl1⟩)
    ·rw[hf];rfl
    ·show V.str (Str.ofString "yes")=V.str (uF rule hs);unfold uF;rw[hf]
   |some z =>
    have zb:0<=z/\z<60:=ef (le_trans hR.ln (by decide)) hf;have lz:(numS z).length<=2:=by rw[zV];exact yq zb.1 (by decide) (by omega)
    have l3:(Str.ofString "no ").length=3:=by decide+kernel
    have sC:=s2.trans (sA.trans sB);refine iteT ?_;refine⟨big _ (by walk_at "b"),_,rfl,n,.inr rfl,big _ (by omega),big _ (by walk_at "b"),big _ (by walk_at "b"),big _ (by walk_at "b"),?_⟩;rw[ee];refine⟨_,rfl,q,hs,rfl,sC _ _ gq1,by omega,(fun x hx=>⟨(hb x hx).1,Int.le_trans (hb x hx).2 (by decide)⟩),fun H3 s3=>?_⟩;refine⟨_,_,rfl,rfl,big _ (by walk_at "b"),big _ (by walk_at "b"),_,rfl,numS z,.inl ⟨z,by first|rfl|(rw[hf];rfl),jr zb.1 (Int.le_trans (show z<=60 by omega) (by decide)),rfl⟩,big _ (by omega),big _ (by walk_at "b"),big _ (by walk_at "b"),?_⟩;rw[yu];refine⟨by show 2<=sizeLine;decide,fun t2 ht2=>⟨by show 1<=sizeLine;decide,fun l2 hl2=>?_⟩⟩;have sD:=Same.new (o:=.tup [V.str (qG n hs),V.str (Str.ofString "no "++numS z)]) ht2;have sE:=Same.new (o:=.lst [V.ref t2]) hl2;refine hnx _ _ ⟨l2,.ref t2,?_,z6,⟨t2,_,rfl,sE _ _ z6,?_⟩,s1.trans (sC.trans (s3.trans (sD.trans sE))),s1.free (sC.free (s3.free (sD.free hl2)))⟩
    ·rw[hf];rfl
    ·show V.str (Str.ofString "no "++numS z)=V.str (uF rule hs);unfold uF;rw[hf]
  rintro _ H3 ⟨l,v,rfl,gl,rv,s3,nl⟩;clear sA sB ht1 hl1 s12 s2;have hRn:=hR.ln;refine cut2 fun nx hx=>?_;refine⟨_,rfl,_,rfl,sm,sm,by omega,rfl,h24,by omega,fun lp xs H4 glp h1 s4 nlp=>?_⟩;have hlx:xs.length<=sizeLine:=by rw[<-h1.length];exact le_trans (kP _ _ _) (sJ h24)
  have s34:=s3.trans s4;refine⟨lp,rfl,⟨_,SqL.of glp⟩,yt (xs:=xs) (fun i ys σ' H'=>Same H4 H'/\(∃v,σ'=[v,some (.ref p)])/\ys.length<=i/\All2 Tup1 H' (((yO 26 sm sm).take i).filter fun h=>(yv rule h).isNone) ys) ⟨fun _ _ h=>h,⟨_,rfl⟩,le_refl _,.nil⟩ ?_ ?_ ?_⟩
  ·rintro i ys σ' H' hi ⟨s,_,hy,_⟩;exact⟨SqL.of (s _ _ glp),by omega⟩
  ·rintro i x ys σ' H' hx ⟨s,⟨v,rfl⟩,hy,h3⟩;obtain⟨hs',hhs,q',rfl,hq⟩:=h1.get hx;have sn:=s34.trans s;refine⟨_,rfl,_,rfl,p,q',rs,rule,hs',rfl,sn _ _ hR.at_,hR.h2.mv sn.tups,s _ _ hq,le_trans hR.ln (by decide),hR.small,fun H5 s5=>⟨rfl,_,rfl,?_⟩⟩;rw[cx];refine ite2 (fun hc=>⟨_,rfl,s.trans s5,⟨_,rfl⟩,by simp;omega,?_⟩) (fun hc=>⟨s.trans s5,⟨_,rfl⟩,by omega,?_⟩)
   ·rw[jX _ hhs,if_pos hc];exact(h3.mv s5.tups).snoc ⟨q',rfl,s5 _ _ (s _ _ hq)⟩
   ·rw[jX _ hhs,if_neg hc,append_nil];exact h3.mv s5.tups
  rintro ys _ H5 ⟨s5,_,hy,h3⟩ lk2 hlk2;rw[<-h1.length,take_length]at h3;have hK:All2 Tup1 H5 (yp rule sm) ys:=h3;have yl:=hK.length;have few:(yp rule sm).length<=1575:=le_trans (List.length_filter_le _ _) (eL h24);have hh:∀h∈yp rule sm,h.length<=24/\ ∀x∈h,1<=x/\x<=24:=fun h hm'=>xZ h24 hm';have nkl:lk2≠l:=(zj ((s4.trans s5) _ _ gl) hlk2).symm;have s6:=Same.new (o:=.lst ys) hlk2;have gk:=z6 (H:=H5) (a:=lk2) (o:=.lst ys);have hK6:=hK.mv s6.tups;have s46:=s4.trans (s5.trans s6);have gl6:=s46 _ _ gl;have rv6:=rv.mv s46.tups;generalize upd H5 lk2 (.lst ys)=H6 at s46 gk hK6 gl6 rv6 ⊢;clear s6 s5 s4 h1 h3 hK glp rv gl;refine⟨rfl,wZ (fun(b:Str) v _=>v=V.str b) ((yp rule sm).map txt) [] (by rw[length_map];exact yl) (le_trans (m:=1575) (by omega) (by decide)) (fun _ _ _ _ _ h=>h) rfl rfl gk (fun j x b H' P hx hbj s' hP=>?_) (fun zs H7 l7 s7 a7 hl7=>?_)⟩
  ·obtain⟨h,hh0,q',rfl,hq⟩:=hK6.get hx;rw[getElem?_map,hh0]at hbj;have hm2:=hh h (mem_of_getElem? hh0);exact⟨_,rfl,q',h,rfl,s' _ _ hq,by omega,fun x hx=>⟨(hm2.2 x hx).1,Int.le_trans (hm2.2 x hx).2 (by decide)⟩,fun H'' s''=>hP _ _ s'' (by rw[<-Option.some.inj hbj])⟩
  have e1:=xu a7;subst e1;have hsum:(((yp rule sm).map txt).map (·.length)).sum<=((yp rule sm).map txt).length*10000:=jR fun y hy=>by
   obtain⟨h,hh0,rfl⟩:=mem_map.mp hy;have hm2:=hh h hh0;exact uw (by omega) fun x hx=>⟨(hm2.2 x hx).1,Int.le_trans (hm2.2 x hx).2 (by decide)⟩
  rw[length_map]at hsum;have hbl:(Str.ofString " | ").length=3:=by decide
  refine⟨_,l7,(yp rule sm).map txt,rfl,rfl,SqL.of z6,by rw[hbl,length_map];omega,?_⟩;have s67:=s7.trans (Same.new (o:=.lst (((yp rule sm).map txt).map V.str)) hl7);have gl7:=s67 _ _ gl6;have gk7:=s67 _ _ gk;have rv7:=rv6.mv s67.tups;have s37:=s46.trans s67;generalize upd H7 l7 (.lst (((yp rule sm).map txt).map V.str))=H8 at s37 gl7 gk7 rv7 ⊢;clear s67 s7 s46 gl6 gk rv6 hK6 hl7;dsimp only[kc];subst hx;refine ye (fun σ' H'=>σ'=[some (.str n),some (.ref p),some (.ref q),some (.int (sm:Int)),some (.int (gr:Int)),some (.ref w),some (optV (yv rule hs)),some (.ref l),some (.ref lk2),some (.str (jA rule sm))]/\H8=H') (fun nx hnx=>?_) ?_
  ·by_cases h0:yp rule sm=[]
   ·have y0:ys=[]:=List.eq_nil_of_length_eq_zero (by rw[<-yl,h0];rfl);refine⟨_,rfl,false,.inl ⟨_,SqL.of gk7,by rw[y0];rfl⟩,iteT (hnx _ _ ⟨?_,rfl⟩)⟩;unfold jA;rw[if_pos h0];rfl
   ·have y0:true= !ys.isEmpty:=by
     cases ys with
     |nil=>exact absurd (List.eq_nil_of_length_eq_zero (by rw[yl];rfl)) h0
     |cons _ _=>rfl
    refine⟨_,rfl,true,.inl ⟨_,SqL.of gk7,y0⟩,iteF (hnx _ _ ⟨?_,rfl⟩)⟩;unfold jA;rw[if_neg h0];rfl
  rintro _ _ ⟨rfl,rfl⟩;have s38:=s3.trans s37;have n3:=lnum sm (by omega);have n4:=lnum gr h400;have ee4:∀a b c d:Str,(((Str.empty++a)++b)++c)++d=((a++b)++c)++d:=fun a b c d=>by rw[yu]
  refine cut1 fun nx hx=>?_;refine⟨_,rfl,.inl ⟨rfl,_,SqL.of gl7⟩,?_⟩;refine⟨big _ (by walk_at "b"),_,rfl,n,.inr rfl,big _ (by omega),big _ (by walk_at "b"),big _ (by walk_at "b"),_,rfl,numS (sm:Int),.inl ⟨_,rfl,lg sm (by omega),rfl⟩,big _ (by omega),big _ (by walk_at "b"),big _ (by walk_at "b"),?_⟩;rw[ee4];refine⟨_,rfl,by show 2<=sizeLine;decide,fun t2 ht2=>?_⟩;have sA:=Same.new (o:=.tup [V.str (yL (Str.ofString "list ") n (sm:Int)),V.str (jA rule sm)]) ht2;refine⟨l,_,_,rfl,rfl,sA _ _ gl7,by show 1<sizeLine;decide,?_⟩;have tA:=vd (H:=upd H8 t2 (.tup [V.str (yL (Str.ofString "list ") n (sm:Int)),V.str (jA rule sm)])) (a:=l) (o:=.lst ([v]++[V.ref t2])) (sA _ _ gl7) (fun _ z=>by cases z);have s9:Same H (upd (upd H8 t2 (.tup [V.str (yL (Str.ofString "list ") n (sm:Int)),V.str (jA rule sm)])) l (.lst ([v]++[V.ref t2]))):=(s38.trans sA).updN nl;have g9:=z6 (H:=upd H8 t2 (.tup [V.str (yL (Str.ofString "list ") n (sm:Int)),V.str (jA rule sm)])) (a:=l) (o:=.lst ([v]++[V.ref t2]));have gk9:upd (upd H8 t2 (.tup [V.str (yL (Str.ofString "list ") n (sm:Int)),V.str (jA rule sm)])) l (.lst ([v]++[V.ref t2])) lk2=some (.lst ys):=by rw[zh nkl];exact sA _ _ gk7
  have r9:All2 RowD (upd (upd H8 t2 (.tup [V.str (yL (Str.ofString "list ") n (sm:Int)),V.str (jA rule sm)])) l (.lst ([v]++[V.ref t2]))) [(qG n hs,.inl (uF rule hs)),(yL (Str.ofString "list ") n (sm:Int),.inl (jA rule sm))] ([v]++[V.ref t2]):=.cons (rv7.mv (sA.tups.trans tA)) (.cons ⟨t2,_,rfl,tA _ _ z6,rfl⟩ .nil);show nx _ (upd (upd H8 t2 (.tup [V.str (yL (Str.ofString "list ") n (sm:Int)),V.str (jA rule sm)])) l (.lst ([v]++[V.ref t2])));generalize upd (upd H8 t2 (.tup [V.str (yL (Str.ofString "list ") n (sm:Int)),V.str (jA rule sm)])) l (.lst ([v]++[V.ref t2]))=H9 at s9 g9 gk9 r9 ⊢;clear tA sA gl7 gk7 rv7 s37 s38;subst hx;refine cut1 fun nx hx=>?_;refine⟨_,rfl,.inl ⟨rfl,_,SqL.of g9⟩,?_⟩;refine⟨big _ (by walk_at "b"),_,rfl,n,.inr rfl,big _ (by omega),big _ (by walk_at "b"),big _ (by walk_at "b"),_,rfl,numS (sm:Int),.inl ⟨_,rfl,lg sm (by omega),rfl⟩,big _ (by omega),big _ (by walk_at "b"),big _ (by walk_at "b"),?_⟩;rw[ee4];have yk:(ys.length:Int)=((yp rule sm).length:Int):=by rw[yl]
  refine⟨_,rfl,lk2,_,rfl,.inl (SqL.of gk9),_,rfl,jr (by simp) (Int.le_trans (show(ys.length:Int)<=1575 by omega) (by decide)),?_⟩;rw[yk];refine⟨by show 2<=sizeLine;decide,fun t3 ht3=>?_⟩;have sB:=Same.new (o:=.tup [V.str (yL (Str.ofString "count ") n (sm:Int)),V.str (numS ((yp rule sm).length:Int))]) ht3;refine⟨l,_,_,rfl,rfl,sB _ _ g9,by show 2<sizeLine;decide,?_⟩;have tB:=vd (H:=upd H9 t3 (.tup [V.str (yL (Str.ofString "count ") n (sm:Int)),V.str (numS ((yp rule sm).length:Int))])) (a:=l) (o:=.lst (([v]++[V.ref t2])++[V.ref t3])) (sB _ _ g9) (fun _ z=>by cases z);have sX:Same H (upd (upd H9 t3 (.tup [V.str (yL (Str.ofString "count ") n (sm:Int)),V.str (numS ((yp rule sm).length:Int))])) l (.lst (([v]++[V.ref t2])++[V.ref t3]))):=(s9.trans sB).updN nl;have gX:=z6 (H:=upd H9 t3 (.tup [V.str (yL (Str.ofString "count ") n (sm:Int)),V.str (numS ((yp rule sm).length:Int))])) (a:=l) (o:=.lst (([v]++[V.ref t2])++[V.ref t3]));have rX:All2 RowD (upd (upd H9 t3 (.tup [V.str (yL (Str.ofString "count ") n (sm:Int)),V.str (numS ((yp rule sm).length:Int))])) l (.lst (([v]++[V.ref t2])++[V.ref t3]))) ([(qG n hs,.inl (uF rule hs)),(yL (Str.ofString "list ") n (sm:Int),.inl (jA rule sm))]++[(yL (Str.ofString "count ") n (sm:Int),.inl (numS ((yp rule sm).length:Int)))]) (([v]++[V.ref t2])++[V.ref t3]):=(r9.imp fun _ _ z=>z.mv (sB.tups.trans tB)).snoc ⟨t3,_,rfl,tB _ _ z6,rfl⟩;show nx _ (upd (upd H9 t3 (.tup [V.str (yL (Str.ofString "count ") n (sm:Int)),V.str (numS ((yp rule sm).length:Int))])) l (.lst (([v]++[V.ref t2])++[V.ref t3])));generalize upd (upd H9 t3 (.tup [V.str (yL (Str.ofString "count ") n (sm:Int)),V.str (numS ((yp rule sm).length:Int))])) l (.lst (([v]++[V.ref t2])++[V.ref t3]))=HX at sX gX rX ⊢;clear tB sB r9 g9 gk9 s9;subst hx;refine⟨_,rfl,.inl ⟨rfl,_,SqL.of gX⟩,?_⟩;refine⟨big _ (by walk_at "b"),_,rfl,n,.inr rfl,big _ (by omega),big _ (by walk_at "b"),big _ (by walk_at "b"),_,rfl,numS (gr:Int),.inl ⟨_,rfl,lg gr h400,rfl⟩,big _ (by omega),big _ (by walk_at "b"),big _ (by walk_at "b"),?_⟩;rw[ee4];refine⟨_,rfl,_,rfl,_,rfl,w,p,rs,rule,gr,gr,rfl,sX _ _ gw,hR.mv sX.tups,le_refl _,h400,fun HY sY=>?_⟩;refine⟨_,rfl,hcb,?_⟩;refine⟨by show 2<=sizeLine;decide,fun t4 ht4=>?_⟩;have sC:=sY.trans (Same.new (o:=.tup [V.str (yL (Str.ofString "count ") n (gr:Int)),V.str (numS (zY rule (fun j=>(zy gr gr).getD j 0) gr (chG (upto rule.length))))]) ht4);refine⟨l,_,_,rfl,rfl,sC _ _ gX,by show 3<sizeLine;decide,?_⟩;have tC:=vd (H:=upd HY t4 (.tup [V.str (yL (Str.ofString "count ") n (gr:Int)),V.str (numS (zY rule (fun j=>(zy gr gr).getD j 0) gr (chG (upto rule.length))))])) (a:=l) (o:=.lst ((([v]++[V.ref t2])++[V.ref t3])++[V.ref t4])) (sC _ _ gX) (fun _ z=>by cases z);refine⟨_,rfl,k l _ _ z6 ?_ ((sX.trans sC).updN nl) nl⟩;exact(rX.imp fun _ _ z=>z.mv (sC.tups.trans tC)).snoc ⟨t4,_,rfl,tC _ _ z6,rfl⟩
def lL:List Str:=["_law_found","_law_due"]
theorem ie:FnScope lL ["_law_found","_law_due"] (z7 cL):=FS
inductive sp_lis(vs:List V)(H:Hp)(Q:VK)(E:XK):Prop
 |mk (x y:Str):vs=[.str x,.str y]->Q (.bl (decide (x=y))) H->sp_lis vs H Q E
theorem fT(T:Txt P w K mg A):FnOk P w K mg base CX0 1 A.a16 A.f16 ["_law_found","_law_due"] sp_lis:=by
 refine T.x16.F.ok ie (by walk_at "n") fun _ _ _ s H vs Q E hr h=>?_
 ·obtain⟨x,y,rfl,k⟩:=h;refine⟨_,(z9 (zo (Ke (zp aQ rfl T.w4 boot_isinstance (pa2 (pv 0) (nj (v:=.ty "str") rfl T.w11 boot_str rfl))) (Kf (pcm yM (pv 0) (pv 1)))))),?_⟩;refine⟨_,rfl,_,_,_,true,rfl,TyOf.str _,bS,true,rfl,iteT ?_⟩;refine⟨_,rfl,_,rfl,rfl,?_⟩;have e:decide (V.str x=V.str y)=decide (x=y):=by simp
  rw[e];exact k
def qR:List Str:=["heap"]
theorem cS:FnScope qR ["heap"] (z7 jf):=FS
inductive sp_heap_text(vs:List V)(H:Hp)(Q:VK)(E:XK):Prop
 |mk (a:Addr) (ns:List Int):vs=[.ref a]->H a=some (.tup (ns.map V.int))->ns.length<=64->(∀x∈ns,1<=x/\x<=10^60)->(∀(H':Hp),Same H H'->Q (.str (txt ns)) H')->sp_heap_text vs H Q E
theorem vZ(T:Txt P w K mg A):FnOk P w K mg base CX0 1 A.a17 A.f17 ["heap"] sp_heap_text:=by
 refine T.x17.F.ok cS (by walk_at "n") fun _ _ _ s H vs Q E hr h=>?_
 ·obtain⟨a,ns,rfl,ha,hl,hb,k⟩:=h;refine⟨_,(z8 (zG (zi yM (zp zk rfl T.w5 PySem.boot_len (pa1 (pv 0))) zc (zA _))
     (z9 (zo zC)) zq)
    (z9 (zo (yU PySem.F.plainAttrs_str PySem.F.slot_str_join PySem.F.type_str_join wE zC (pa1 (zP (ls:=["part"]) (fr:=[]) (csf (z7 jf) qR) rfl (wO (pv 0)) (fun _ _ _ _=>pgc 0 (by decide+kernel) rfl rfl) (fun _ _ _ _=>yy) (fun _ _ _ _=>(zH kK (glc (z7 jf)) T.w11 boot_str (pa1 (pvc (z7 jf) 0)))))))))),?_⟩
  refine⟨_,rfl,a,_,rfl,.inr (SqT.of ha),rfl,_,rfl,?_⟩;refine ite2 (fun h0=>?_) (fun h0=>?_)
  ·have e:ns=[]:=by
    cases ns with
    |nil=>rfl
    |cons y r=>simp at h0;omega
   subst e;exact k H (Same.refl _)
  ·have hne:ns≠[]:=fun z=>h0 (by subst z;rfl);refine⟨rfl,_,rfl,a,rfl,⟨_,SqT.of ha⟩,u0 (xs:=ns.map V.int) (fun i ys σ' H'=>H'=H/\(∃v,σ'=[v])/\ys=((ns.take i).map numS).map V.str) ⟨rfl,⟨_,rfl⟩,rfl⟩ ?_ ?_ ?_⟩
   ·rintro i ys σ' H' hi ⟨rfl,_,rfl⟩;refine⟨SqT.of ha,?_⟩;rw[length_map,length_map,length_take];exact le_trans (Nat.min_le_right _ _) (le_trans hl (by decide))
   ·rintro i x ys σ' H' hx ⟨rfl,⟨v,rfl⟩,rfl⟩;obtain⟨z,hz,rfl⟩:=jI hx;have h1:=hb z (mem_of_getElem? hz);have hi:=(List.getElem?_eq_some_iff.mp hz).1;have ez:=(List.getElem?_eq_some_iff.mp hz).2;refine⟨_,rfl,z,rfl,jr (by omega) h1.2,rfl,⟨_,rfl⟩,?_⟩;rw[take_succ_eq_append_getElem hi,ez];simp[numS]
   ·rintro ys σ' H' ⟨rfl,_,rfl⟩ l hl0;rw[length_map,take_length];refine⟨_,l,ns.map numS,rfl,rfl,SqL.of z6,?_,?_⟩
    ·have h1:((ns.map numS).map (·.length)).sum<=ns.length*61:=by
      rw[map_map];refine rQ fun x hx=>?_;show(numS x).length<=61;rw[zV];exact yq (by have:=hb x hx;omega) (by decide) (Int.lt_of_le_of_lt (hb x hx).2 (by decide))
     have h2:(Str.ofString " ").length=1:=by rw[kH];rfl
     rw[h2,length_map];omega
    ·have e:Txt.join (Str.ofString " ") (ns.map numS)=txt ns:=by unfold txt;rw[if_neg hne]
     rw[e];exact k _ (Same.new hl0)
def qY:List Str:=["rule"]
theorem cV:FnScope qY ["rule"] (z7 jl):=FS
inductive sp_rule_text(vs:List V)(H:Hp)(Q:VK)(E:XK):Prop
 |mk (p:Addr) (rs:List (List Int)) (xs:List V):vs=[.ref p]->H p=some (.tup xs)->All2 Tup1 H rs xs->rs.length<=6->(∀r∈rs,r.length<=10/\ ∀x∈r,1<=x/\x<10^60)->(∀(H':Hp),Same H H'->Q (.str (rtxt rs)) H')->sp_rule_text vs H Q E
theorem p6(T:Txt P w K mg A):FnOk P w K mg base CX0 2 A.a18 A.f18 ["rule"] sp_rule_text:=by
 refine T.x18.F.ok cV (by walk_at "n") fun _ _ _ s H vs Q E hr h=>?_
 ·obtain⟨p,rs,xs,rfl,hp,h2,h6,hb,k⟩:=h;refine⟨_,(z8 (zG (zi yM (zp zk rfl T.w5 PySem.boot_len (pa1 (pv 0))) zc (zA _))
     (z9 (zo zC)) zq)
    (z9 (zo (yU PySem.F.plainAttrs_str PySem.F.slot_str_join PySem.F.type_str_join wE zC (pa1 (zP (ls:=["heap"]) (fr:=[]) (csf (z7 jl) qY) rfl (wO (pv 0)) (fun _ _ _ _=>pgc 0 (by decide+kernel) rfl rfl) (fun _ _ _ _=>yy) (fun _ _ _ _=>(yc (vZ T) (hr.mono (by decide)) (glc (z7 jl)) T.x17.g T.x17.F.kp T.x17.b .nil wu (pa1 (pvc (z7 jl) 0)))))))))),?_⟩
  have hxl:=h2.length;refine⟨_,rfl,p,_,rfl,.inr (SqT.of hp),rfl,_,rfl,?_⟩;refine ite2 (fun h0=>?_) (fun h0=>?_)
  ·have e:rs=[]:=by
    have:xs.length=0:=by simpa using h0
    exact List.eq_nil_of_length_eq_zero (by omega)
   subst e;exact k H (Same.refl _)
  have hne:rs≠[]:=fun z=>h0 (by subst z;cases h2;rfl);refine⟨rfl,xT (fun(b:Str) v _=>v=V.str b) (rs.map txt) [] (by rw[length_map];exact hxl) (le_trans (m:=6) (by omega) (by decide)) (fun _ _ _ _ _ h=>h) rfl rfl hp (fun j x b H' P hx hbj s' hP=>?_) (fun zs H1 l s1 a1 hl=>?_)⟩
  ·obtain⟨r,hr0,q,rfl,hq⟩:=h2.get hx;rw[getElem?_map,hr0]at hbj;have hm:=hb r (mem_of_getElem? hr0);exact⟨_,rfl,q,r,rfl,s' _ _ hq,by omega,fun x hx=>⟨(hm.2 x hx).1,le_of_lt (hm.2 x hx).2⟩,fun H'' s''=>hP _ _ s'' (by rw[<-Option.some.inj hbj])⟩
  have e1:=xu a1;subst e1;have hsum:((rs.map txt).map (·.length)).sum<=(rs.map txt).length*620:=jR fun y hy=>by
   obtain⟨r,hr0,rfl⟩:=mem_map.mp hy;exact xw (hb r hr0).1 (hb r hr0).2
  rw[length_map]at hsum;refine⟨_,l,rs.map txt,rfl,rfl,SqL.of z6,?_,?_⟩
  ·have hbl:(Str.ofString " | ").length=3:=by decide
   rw[hbl,length_map];omega
  ·have e:Txt.join (Str.ofString " | ") (rs.map txt)=rtxt rs:=by unfold rtxt;rw[if_neg hne];rfl
   rw[e];exact k _ (s1.trans (Same.new hl))
def lM:List Str:=["parts","part"]
theorem rG:FnScope lM ["parts"] (z7 cM):=FS
inductive sp_heap_of(vs:List V)(H:Hp)(Q:VK)(E:XK):Prop
 |mk (a:Addr) (ns:List Int):vs=[.ref a]->H a=some (.tup (ns.map V.int))->ns.length<64->(∀x∈ns,1<=x)->(∀(p:Addr)(H':Hp),H' p=some (.tup ((cZ ns).map V.int))->Same H H'->Q (.ref p) H')->sp_heap_of vs H Q E
theorem fU(T:Txt P w K mg A):FnOk P w K mg base CX0 1 A.a19 A.f19 ["parts"] sp_heap_of:=by
 refine T.x19.F.ok rG (by walk_at "n") fun _ _ _ s H vs Q E hr h=>?_
 ·obtain⟨a,ns,rfl,ha,hl,hp,k⟩:=h;refine⟨_,(z8 (yK PassesOwn.never rfl (wO (pv 0)) (pgn 1 rG.nd)
     (z9 (zG (zi hV (pv 1) zc (zA _))
     (z9 qc) zq)))
    (z9 (zo (zH zU rfl T.w13 boot_tuple (pa1 (pZ rfl T.w10 (pv 0))))))),?_⟩
  refine⟨_,rfl,a,rfl,⟨_,SqT.of ha⟩,tu (xs:=ns.map V.int) (fun i σ' H'=>H'=H/\ ∃v,σ'=[some (.ref a),v]) ⟨rfl,_,rfl⟩ ?_ ?_ ?_⟩
  ·rintro i σ' H' _ ⟨rfl,_⟩;exact SqT.of ha
  ·rintro i x σ' H' hx ⟨rfl,v,rfl⟩;obtain⟨z,hz,rfl⟩:=jI hx;have h1:=hp z (mem_of_getElem? hz);refine⟨_,rfl,_,_,rfl,rfl,_,rfl,?_⟩;refine ite2 (fun hlt=>absurd (of_decide_eq_true hlt) (by omega)) (fun _=>⟨rfl,_,rfl⟩)
  ·rintro σ' H' ⟨rfl,v,rfl⟩;refine⟨_,rfl,a,ns,rfl,.inr (SqT.of ha),hl,fun ns' p4 hperm hord hp4=>?_⟩;refine⟨p4,_,rfl,.inl ⟨SqL.of z6,fun p5 hp5=>?_⟩⟩;have e:ns'=cZ ns:=eY hperm hord;subst e;exact k p5 _ z6 ((Same.new hp4).trans (Same.new hp5))
def wJ:List Str:=["word"]
theorem pP:FnScope wJ ["word"] (z7 yD):=FS
inductive sp_writes(vs:List V)(H:Hp)(Q:VK)(E:XK):Prop
 |mk (z:Str):vs=[.str z]->z.length<=10000000->(∀(H':Hp),Same H H'->Q (.bl (kR z)) H')->sp_writes vs H Q E
theorem wo(T:Txt P w K mg A):FnOk P w K mg base CX0 1 A.a20 A.f20 ["word"] sp_writes:=by
 refine T.x20.F.ok pP (by walk_at "n") fun _ _ _ s H vs Q E hr h=>?_
 ·obtain⟨z,rfl,hz,k⟩:=h;refine⟨_,(z8 (zG (PW.pt (cE (zi yM (zp yY rfl T.w5 PySem.boot_len (pa1 (pv 0))) zc (zA _)) (cE (zi ay (zp yY rfl T.w5 PySem.boot_len (pa1 (pv 0))) (yx (v:=.int 60) rfl T.w20.choose_spec ⟨_,rfl⟩) (zA _)) (gP (zi yM (pix eC (pv 0) zc) zC (zA _))))))
     (z9 (zo aB)) zq)
    (z9 (zo (zp (jz rfl) rfl T.w0 boot_all (pa1 (zP (ls:=["sign"]) (fr:=[]) (csf (z7 yD) wJ) rfl (Zu (pv 0)) (fun _ _ _ _=>pgc 0 (by decide+kernel) rfl rfl) (fun _ _ _ _=>yy) (fun _ _ _ _=>(aC cw (pvc (z7 yD) 0) (yx (v:=.str (Str.ofString "0123456789")) (glc (z7 yD)) T.w19.choose_spec ⟨_,rfl⟩) rfl)))))))),?_⟩
  have hz':z.length<=sizeLine:=le_trans hz (by decide);refine ye (fun σ' H'=>H'=H/\ σ'=[some (.str z)]/\ ∃c r,z.cps.toList=c::r/\(c::r).length<=60/\c≠48) (fun nx hnx=>?_) ?_
  ·refine⟨_,rfl,z,rfl,hz',rfl,_,rfl,?_⟩;refine ite2 (fun h0=>?_) (fun h0=>?_)
   ·refine iteT ?_;have e:z.cps.toList=[]:=by
     have:z.length=0:=by simpa using h0
     rw[zV]at this;exact List.eq_nil_of_length_eq_zero this
    have e2:kR z=false:=by unfold kR;rw[e]
    have:=k H (Same.refl _);rw[e2]at this;exact this
   obtain⟨c,r,e⟩:∃c r,z.cps.toList=c::r:=by
    cases h:z.cps.toList with
    |nil =>
     have:z.length=0:=by rw[zV,h];rfl
     exact absurd (by simp[this]) h0
    |cons c r=>exact⟨c,r,rfl⟩
   have el:z.length=(c::r).length:=by rw[zV,e]
   refine⟨_,rfl,z,rfl,hz',_,_,rfl,rfl,_,rfl,?_⟩;refine ite2 (fun h1=>?_) (fun h1=>?_)
   ·refine iteT ?_;have h1':=of_decide_eq_true h1;have e2:kR z=false:=by
     unfold kR;rw[e];simp only[Bool.and_eq_false_iff,decide_eq_false_iff_not];exact .inl (.inl (by rw[<-el];omega))
    have:=k H (Same.refl _);rw[e2]at this;exact this
   refine⟨_,rfl,z,0,c,rfl,rfl,hz',by rw[e];exact atI0 c r,rfl,_,rfl,?_⟩;rw[L2.KN];refine ite2 (fun h2=>?_) (fun h2=>?_)
   ·have e2:kR z=false:=by
     unfold kR;rw[e];simp only[Bool.and_eq_false_iff,decide_eq_false_iff_not];exact .inl (.inr (by simpa using h2))
    have:=k H (Same.refl _);rw[e2]at this;exact this
   ·have h1':¬(60:Int)<(z.length:Int):=fun q=>h1 (decide_eq_true q);exact hnx _ _ ⟨rfl,rfl,c,r,e,by rw[<-el];omega,by simpa using h2⟩
  ·rintro σ' H' ⟨rfl,rfl,c,r,e,hl,hc⟩;refine⟨_,rfl,z,rfl,aX (fun i ys σ' H2=>H2=H'/\(∃v,σ'=[v])/\ys=((z.cps.toList.take i).map fun d=>decide (48<=d/\d<=57)).map V.bl) ⟨rfl,⟨_,rfl⟩,rfl⟩ ?_ ?_ ?_⟩
   ·rintro i ys σ' H2 hi ⟨rfl,_,rfl⟩;rw[length_map,length_map,length_take];have:z.cps.toList.length<=60:=by rw[e];exact hl
    exact yW (by omega)
   ·rintro i d ys σ' H2 hd ⟨rfl,⟨v,rfl⟩,rfl⟩;have hd':z.cps.toList[i]? =some d:=by simpa using hd
    have hi:=(List.getElem?_eq_some_iff.mp hd').1;have ez:=(List.getElem?_eq_some_iff.mp hd').2;refine⟨_,rfl,_,_,rfl,rfl,rfl,⟨_,rfl⟩,?_⟩;rw[ZM,take_succ_eq_append_getElem hi,ez];simp
   ·rintro ys σ' H2 ⟨rfl,_,rfl⟩ l hl0;refine⟨l,_,rfl,SqL.of z6,?_⟩;have e2:(((z.cps.toList.take z.cps.size).map fun d=>decide (48<=d/\d<=57))).all id=kR z:=by
     rw[take_of_length_le (by simp)];unfold kR;rw[e,all_map];have a1:decide ((c::r).length<=60)=true:=decide_eq_true hl;have a2:decide (c≠48)=true:=decide_eq_true hc;simp only[a1,a2,Bool.true_and];rfl
    rw[e2];exact k _ (Same.new hl0)
def qT:List Str:=["text","words","word","heap"]
theorem jv:FnScope qT ["text"] (z7 ji):=FS
inductive sp_read_heap(A:Adr)(vs:List V)(H:Hp)(Q:VK)(E:XK):Prop
 |mk (z:Str):vs=[.str z]->z.length<=100000->(((∃ps,kU z=some ps/\ ∀(p:Addr)(H':Hp),H' p=some (.tup (ps.map V.int))->Same H H'->H p=none->Q (.ref p) H')\/(kU z=none/\ ∀H',Same H H'->E (.ref A.w1) none H')))->sp_read_heap A vs H Q E
theorem p0(T:Txt P w K mg A):FnOk P w K mg base (CX1 P w) 2 A.a21 A.f21 ["text"] (sp_read_heap A):=by
 refine T.x21.F.okE jv (by walk_at "n") fun _ _ _ s H vs Q E hr h=>?_
 ·obtain⟨z,rfl,hz,h⟩:=h;refine⟨_,(z8 (zG (zi yM (pv 0) zC (zA _))
     (z9 (zo (zI ku))) zq)
    (z8 (pset 1 jv.nd (yU PySem.F.plainAttrs_str PySem.F.slot_str_split PySem.F.type_str_split tM (pv 0) (pa1 zC)))
    (z8 (zG (zi ay (zp zk rfl T.w5 PySem.boot_len (pa1 (pv 1))) (yx (v:=.int 60) rfl T.w15.choose_spec ⟨_,rfl⟩) (zA _))
     (z9 (kh rfl T.w35 rfl T.w25 (pa1 zC))) zq)
    (z8 (Kh fun ok=>yK (ownE ok) rfl (zT (pv 1)) (pgn 2 jv.nd)
     (z9 (zG (gM (yh (pcl (wo T) hr T.x20 (pa1 (pv 2))) (fun _=>rfl)))
     (z9 (kh rfl T.w35 rfl T.w25 (pa1 zC))) zq)))
    (z8 (pset 3 jv.nd (zH zU rfl T.w13 boot_tuple (pa1 (zP (ls:=["word"]) (fr:=[]) (csf (z7 ji) qT) rfl (zT (pv 1)) (fun _ _ _ _=>pgc 0 (by decide+kernel) rfl rfl) (fun _ _ _ _=>yy) (fun _ _ _ _=>(zH uy (glc (z7 ji)) T.w3 boot_int (pa1 (pvc (z7 ji) 0))))))))
    (z8 (zG (zi (na ZG (huR hr)) (pv 3) (pcl (fU T) hr T.x19 (pa1 (pv 3))) (zA _))
     (z9 (kh rfl T.w35 rfl T.w25 (pa1 zC))) zq)
    (z9 (zo (pv 3))))))))),?_⟩
  refine⟨_,rfl,rfl,_,rfl,?_⟩;refine ite2 (fun h0=>?_) (fun h0=>?_)
  ·have e:z=xF:=by unfold xF;simpa using h0
   subst e;rw[gR]at h;rcases h with⟨ps,e,k⟩|⟨e,_⟩
   ·cases e;exact⟨by show 0<=sizeLine;decide,fun p hp=>k p _ z6 (Same.new hp) hp⟩
   ·cases e
  have hne:z≠xF:=fun e=>h0 (decide_eq_true (by rw[e];rfl));have fail:¬((zD z).length<=60/\(∀w∈zD z,kR w=true)/\((zD z).map numV).Pairwise (· >= ·))-> ∀H',Same H H'->E (.ref A.w1) none H':=fun hn H' s'=>by
   rcases h with⟨ps,e,_⟩|⟨_,k⟩
   ·rw[sZ hne hn]at e;cases e
   ·exact k H' s'
  refine⟨_,rfl,rfl,_,_,rfl,rfl,rfl,by omega,fun l hl0=>?_⟩;have sl:=Same.new (o:=.lst ((zD z).map V.str)) hl0;have gl:=z6 (H:=H) (a:=l) (o:=.lst ((zD z).map V.str));have eW:Txt.split z (Str.ofString " ")=zD z:=rfl;rw[eW];generalize upd H l (.lst ((zD z).map V.str))=H1 at sl gl;refine⟨_,rfl,l,_,rfl,.inl (SqL.of gl),_,_,rfl,rfl,_,rfl,?_⟩;refine ite2 (fun h1=>?_) (fun h1=>?_)
  ·have h1':=of_decide_eq_true h1;rw[length_map]at h1';exact⟨by show 1<=sizeLine;decide,fail (fun z=>by omega) _ sl⟩
  have h60:(zD z).length<=60:=Nat.le_of_not_lt fun z=>h1 (decide_eq_true (by rw[length_map];omega));have wat:∀{i:Nat}{x:V},((zD z).map V.str)[i]? =some x-> ∃w,(zD z)[i]? =some w/\x= .str w:=fun{i x} hx=>by
   rw[getElem?_map]at hx;cases e:(zD z)[i]? with
   |none=>rw[e]at hx;cases hx
   |some w=>rw[e]at hx;exact⟨w,rfl,(Option.some.inj hx).symm⟩
  refine⟨_,rfl,l,rfl,⟨_,SqL.of gl⟩,jq (xs:=(zD z).map V.str) (fun i σ' H'=>Same H1 H'/\(∃v,σ'=[some (.str z),some (.ref l),v,none])/\ ∀w∈(zD z).take i,kR w=true) ⟨Same.refl _,⟨_,rfl⟩,(fun _ h=>by cases h)⟩ ?_ ?_ ?_⟩
  ·rintro i σ' H' _ ⟨s,_⟩;exact SqL.of (s _ _ gl)
  ·rintro i x σ' H' hx ⟨s,⟨v,rfl⟩,hall⟩;obtain⟨w,hw,rfl⟩:=wat hx;have hm:=mem_of_getElem? hw;refine⟨_,rfl,w,rfl,le_trans (Zc hm) (le_trans hz (by decide)),fun H2 s2=>⟨_,rfl,?_⟩⟩;refine ite2 (fun hc=>?_) (fun hc=>?_)
   ·exact⟨by show 1<=sizeLine;decide,fail (fun y=>by rw[y.2.1 w hm]at hc;cases hc) _ (sl.trans (s.trans s2))⟩
   ·refine⟨s.trans s2,⟨_,rfl⟩,fun y hy=>?_⟩;rw[take_succ,hw]at hy;rcases mem_append.mp hy with hy|hy
    ·exact hall y hy
    ·have:y=w:=by simpa using hy
     subst this;cases hn:kR y with
     |true=>rfl
     |false=>rw[hn]at hc;exact absurd rfl hc
  rintro σ' H' ⟨s,⟨v,rfl⟩,hall⟩;rw[length_map,take_length]at hall;have s0:=sl.trans s;have gl':=s _ _ gl;refine wZ (fun(b:Int) v _=>v=V.int b) ((zD z).map numV) [] (by rw[length_map,length_map]) (by rw[length_map];exact le_trans h60 (by decide)) (fun _ _ _ _ _ h=>h) rfl rfl gl' (fun j x b H2 P hx hb s2 hP=>?_) (fun zs H2 l2 s2 a2 hl2=>?_)
  ·obtain⟨w,hw,rfl⟩:=wat hx;rw[getElem?_map,hw]at hb;have hn:=hall w (mem_of_getElem? hw);have hl60:w.length<=640:=by
    obtain⟨c,r,e,h1,_⟩:=(qz w).mp hn;rw[zV,e];omega
   exact⟨_,rfl,w,numV w,rfl,gi hn,hl60,hP _ _ (Same.refl _) (by rw[<-Option.some.inj hb])⟩
  have e2:=lf a2;subst e2;refine⟨l2,_,rfl,.inl ⟨SqL.of z6,fun p hp=>?_⟩⟩;have s3:=s2.trans ((Same.new (o:=.lst (((zD z).map numV).map V.int)) hl2).trans (Same.new (o:=.tup (((zD z).map numV).map V.int)) hp));have g3:=z6 (H:=upd H2 l2 (.lst (((zD z).map numV).map V.int))) (a:=p) (o:=.tup (((zD z).map numV).map V.int));have np:H p=none:=s0.free (s2.free ((Same.new hl2).free hp));generalize upd (upd H2 l2 (.lst (((zD z).map numV).map V.int))) p (.tup (((zD z).map numV).map V.int))=H3 at s3 g3;refine⟨_,rfl,_,rfl,p,(zD z).map numV,rfl,g3,by rw[length_map];omega,fun x hx=>?_,fun p2 H4 hp2 s4=>?_⟩
  ·obtain⟨w,hw,rfl⟩:=mem_map.mp hx;exact sh (hall w hw)
  refine⟨_,_,RTup.ints (SqT.of (s4 _ _ g3)),RTup.ints (SqT.of hp2),_,rfl,?_⟩;have sEnd:=s0.trans (s3.trans s4);by_cases hpw:((zD z).map numV).Pairwise (· >= ·)
  ·refine oM (by rw[Z6 hpw]) ?_;rcases h with⟨ps,e,k⟩|⟨e,_⟩
   ·rw[gS hne ⟨h60,hall,hpw⟩]at e;cases e;exact⟨_,rfl,k p H4 (s4 _ _ g3) sEnd np⟩
   ·rw[gS hne ⟨h60,hall,hpw⟩]at e;cases e
  ·refine ite2 (fun _=>⟨by show 1<=sizeLine;decide,fail (fun y=>hpw y.2.2) _ sEnd⟩) (fun hc=>?_);exact absurd (by
    have e:(zD z).map numV≠cZ ((zD z).map numV):=fun e=>hpw (by rw[e];exact mD _);rw[decide_eq_false e];rfl) hc
def qW:List Str:=["text","rows"]
theorem pr:FnScope qW ["text"] (z7 jk):=FS
inductive sp_read_rule(A:Adr)(vs:List V)(H:Hp)(Q:VK)(E:XK):Prop
 |mk (z:Str):vs=[.str z]->z.length<=100000->(((∃rs,pK z=some rs/\ ∀(p:Addr)(xs:List V)(H':Hp),H' p=some (.tup xs)->All2 Tup1 H' rs xs->Same H H'->Q (.ref p) H')\/(pK z=none/\ ∀H',Same H H'->E (.ref A.w1) none H')))->sp_read_rule A vs H Q E
theorem cj(T:Txt P w K mg A):FnOk P w K mg base (CX1 P w) 3 A.a22 A.f22 ["text"] (sp_read_rule A):=by
 refine T.x22.F.okE pr (by walk_at "n") fun _ _ _ s H vs Q E hr h=>?_
 ·obtain⟨z,rfl,hz,h⟩:=h;refine⟨_,(z8 (zG (zi yM (pv 0) zC (zA _))
     (z9 (zo (zI ku))) zq)
    (z8 (pset 1 pr.nd (yU PySem.F.plainAttrs_str PySem.F.slot_str_split PySem.F.type_str_split tM (pv 0) (pa1 zC)))
    (z8 (zG (zi ay (zp zk rfl T.w5 PySem.boot_len (pa1 (pv 1))) (yx (v:=.int 6) rfl T.w16.choose_spec ⟨_,rfl⟩) (zA _))
     (z9 (kh rfl T.w35 rfl T.w25 (pa1 zC))) zq)
    (z9 (zo (zH zU rfl T.w13 boot_tuple (pa1 (su (ls:=["row"]) (fr:=[]) (csf (z7 jk) qW) rfl (zT (pv 1)) (fun _ _ _ _ hC=>pgcE 0 (by decide+kernel) rfl rfl) (fun _ _ _ _ hC=>yy) (fun _ _ _ _ hC=>(yc (p0 T) (hr.mono (by decide)) (glcE (z7 jk)) T.x21.g T.x21.F.kp T.x21.b .nil (Jo hC) (pa1 (pvcE (z7 jk) 0)))))))))))),?_⟩
  refine⟨_,rfl,rfl,_,rfl,?_⟩;refine ite2 (fun h0=>?_) (fun h0=>?_)
  ·have e:z=kT:=by unfold kT;simpa using h0
   subst e;rw[gW]at h;rcases h with⟨ps,e,k⟩|⟨e,_⟩
   ·cases e;exact⟨by show 0<=sizeLine;decide,fun p hp=>k p _ _ z6 .nil (Same.new hp)⟩
   ·cases e
  have hne:z≠kT:=fun e=>h0 (decide_eq_true (by rw[e];rfl));have fail:¬((kZ z).length<=6/\(∀w∈kZ z,(kU w).isSome=true))-> ∀H',Same H H'->E (.ref A.w1) none H':=fun hn H' s'=>by
   rcases h with⟨ps,e,_⟩|⟨_,k⟩
   ·rw[Z0 hne hn]at e;cases e
   ·exact k H' s'
  refine⟨_,rfl,rfl,_,_,rfl,rfl,rfl,by omega,fun l hl0=>?_⟩;have sl:=Same.new (o:=.lst ((kZ z).map V.str)) hl0;have gl:=z6 (H:=H) (a:=l) (o:=.lst ((kZ z).map V.str));have eW:Txt.split z (Str.ofString " | ")=kZ z:=rfl;rw[eW];generalize upd H l (.lst ((kZ z).map V.str))=H1 at sl gl;refine⟨_,rfl,l,_,rfl,.inl (SqL.of gl),_,_,rfl,rfl,_,rfl,?_⟩;refine ite2 (fun h1=>?_) (fun h1=>?_)
  ·have h1':=of_decide_eq_true h1;rw[length_map]at h1';exact⟨by show 1<=sizeLine;decide,fail (fun z=>by omega) _ sl⟩
  have h60:(kZ z).length<=6:=Nat.le_of_not_lt fun z=>h1 (decide_eq_true (by rw[length_map];omega));refine wZ (fun(b:List Int×Prop) v H'=>Tup1 b.1 v H'/\b.2) ((kZ z).map fun w=>((kU w).getD [],(kU w).isSome=true)) [] (by rw[length_map,length_map]) (by rw[length_map];exact le_trans h60 (by decide)) (fun _ _ _ _ s h=>⟨h.1.mv s.tups,h.2⟩) rfl rfl gl (fun j x b H2 P hx hb s2 hP=>?_) (fun zs H2 l2 s2 a2 hl2=>?_)
  ·obtain⟨w,hw,rfl⟩:∃w,(kZ z)[j]? =some w/\x= .str w:=by
    rw[getElem?_map]at hx;cases e:(kZ z)[j]? with
    |none=>rw[e]at hx;cases hx
    |some w=>rw[e]at hx;exact⟨w,rfl,(Option.some.inj hx).symm⟩
   rw[getElem?_map,hw]at hb;have eb:=Option.some.inj hb;have hm:=mem_of_getElem? hw;refine⟨_,rfl,w,rfl,le_trans (Yb hm) hz,?_⟩;cases hr0:kU w with
   |none=>exact .inr ⟨rfl,fun H' s'=>fail (fun y=>by have:=y.2 w hm;rw[hr0]at this;cases this) _ (sl.trans (s2.trans s'))⟩
   |some ps =>
    refine .inl ⟨ps,rfl,fun p H' gp s' _=>hP _ _ s' ?_⟩;rw[<-eb];show Tup1 ((kU w).getD []) _ _/\(kU w).isSome=true;rw[hr0];exact⟨⟨p,rfl,gp⟩,rfl⟩
  obtain⟨a2,hall⟩:=mP _ _ a2;refine⟨l2,_,rfl,.inl ⟨SqL.of z6,fun p hp=>?_⟩⟩;have sn:=(Same.new (o:=.lst zs) hl2).trans (Same.new (o:=.tup zs) hp);rcases h with⟨rs,e,k⟩|⟨e,_⟩
  ·rw[gY hne ⟨h60,hall⟩]at e;cases e;exact k p zs _ z6 (a2.mv sn.tups) (sl.trans (s2.trans sn))
  ·rw[gY hne ⟨h60,hall⟩]at e;cases e
def qV:List Str:=["piece"]
theorem cU:FnScope qV ["piece"] (z7 jj):=FS
inductive sp_read_name(A:Adr)(vs:List V)(H:Hp)(Q:VK)(E:XK):Prop
 |mk (z:Str):vs=[.str z]->z.length<=100000->(((zE z=true/\ ∀H',Same H H'->Q (.str z) H')\/(zE z=false/\ ∀H',Same H H'->E (.ref A.w1) none H')))->sp_read_name A vs H Q E
theorem ci(T:Txt P w K mg A):FnOk P w K mg base (CX1 P w) 1 A.a23 A.f23 ["piece"] (sp_read_name A):=by
 refine T.x23.F.okE cU (by walk_at "n") fun _ _ _ s H vs Q E hr h=>?_
 ·obtain⟨z,rfl,hz,h⟩:=h;refine⟨_,(z8 (zG (PW.pt (cE (zi yM (zp yY rfl T.w5 PySem.boot_len (pa1 (pv 0))) zc (zA _)) (gP (zi ay (zp yY rfl T.w5 PySem.boot_len (pa1 (pv 0))) (yx (v:=.int 8) rfl T.w22.choose_spec ⟨_,rfl⟩) (zA _)))))
     (z9 (kh rfl T.w35 rfl T.w25 (pa1 zC))) zq)
    (z8 (zG (gM (yh (zp (jz rfl) rfl T.w0 boot_all (pa1 (zP (ls:=["sign"]) (fr:=[]) (csf (z7 jj) qV) rfl (Zu (pv 0)) (fun _ _ _ _=>pgc 0 (by decide+kernel) rfl rfl) (fun _ _ _ _=>yy) (fun _ _ _ _=>(aC cw (pvc (z7 jj) 0) (yx (v:=.str (Str.ofString "abcdefghijklmnopqrstuvwxyz")) (glc (z7 jj)) T.w21.choose_spec ⟨_,rfl⟩) rfl))))) (fun _=>rfl)))
     (z9 (kh rfl T.w35 rfl T.w25 (pa1 zC))) zq)
    (z9 (zo (pv 0))))),?_⟩
  have hz':z.length<=sizeLine:=le_trans hz (by decide);have fail:zE z=false-> ∀H',Same H H'->E (.ref A.w1) none H':=fun e H' s'=>by
   rcases h with⟨e',_⟩|⟨_,k⟩
   ·rw[e]at e';cases e'
   ·exact k H' s'
  have no:¬(1<=z.length/\z.length<=8)->zE z=false:=fun n=>by
   cases e:zE z with
   |false=>rfl
   |true=>exact absurd ((ky z).mp e).1 n
  refine ye (fun σ' H'=>H'=H/\ σ'=[some (.str z)]/\1<=z.length/\z.length<=8) (fun nx hnx=>?_) ?_
  ·refine⟨_,rfl,z,rfl,hz',rfl,_,rfl,?_⟩;refine ite2 (fun h0=>iteT ?_) (fun h0=>?_)
   ·have e:z.length=0:=by simpa using h0
    exact⟨by show 1<=sizeLine;decide,fail (no (by omega)) _ (Same.refl _)⟩
   have h0':z.length≠0:=fun e=>h0 (by simp[e]);refine⟨_,rfl,z,rfl,hz',_,_,rfl,rfl,_,rfl,?_⟩;refine ite2 (fun h1=>?_) (fun h1=>?_)
   ·have h1':=of_decide_eq_true h1;exact⟨by show 1<=sizeLine;decide,fail (no (by omega)) _ (Same.refl _)⟩
   ·have h1':¬(8:Int)<(z.length:Int):=fun q=>h1 (decide_eq_true q);exact hnx _ _ ⟨rfl,rfl,by omega,by omega⟩
  ·rintro σ' H' ⟨rfl,rfl,l1,l8⟩;refine⟨_,rfl,z,rfl,aX (fun i ys σ' H2=>H2=H'/\(∃v,σ'=[v])/\ys=((z.cps.toList.take i).map fun d=>decide (97<=d/\d<=122)).map V.bl) ⟨rfl,⟨_,rfl⟩,rfl⟩ ?_ ?_ ?_⟩
   ·rintro i ys σ' H2 hi ⟨rfl,_,rfl⟩;rw[length_map,length_map,length_take];have:z.cps.toList.length<=8:=by rw[<-zV];exact l8
    exact yW (by omega)
   ·rintro i d ys σ' H2 hd ⟨rfl,⟨v,rfl⟩,rfl⟩;have hd':z.cps.toList[i]? =some d:=by simpa using hd
    have hi:=(List.getElem?_eq_some_iff.mp hd').1;have ez:=(List.getElem?_eq_some_iff.mp hd').2;refine⟨_,rfl,_,_,rfl,rfl,rfl,⟨_,rfl⟩,?_⟩;rw[fF,take_succ_eq_append_getElem hi,ez];simp
   ·rintro ys σ' H2 ⟨rfl,_,rfl⟩ l hl0;have e2:((z.cps.toList.take z.cps.size).map fun d=>decide (97<=d/\d<=122)).all id=zE z:=by
     rw[take_of_length_le (by simp)];unfold zE;rw[all_map,decide_eq_true ⟨l1,l8⟩,Bool.true_and];rfl
    refine⟨l,_,rfl,SqL.of z6,_,rfl,?_⟩;rw[e2];cases e:zE z with
    |false=>exact iteT ⟨by show 1<=sizeLine;decide,fail e _ (Same.new hl0)⟩
    |true =>
     rcases h with⟨_,k⟩|⟨e',_⟩
     ·exact iteF ⟨_,rfl,k _ (Same.new hl0)⟩
     ·rw[e]at e';cases e'
def tR:List Str:=["piece"]
theorem xM:FnScope tR ["piece"] (z7 uX):=FS
inductive sp_read_number(A:Adr)(vs:List V)(H:Hp)(Q:VK)(E:XK):Prop
 |mk (z:Str):vs=[.str z]->z.length<=100000->(((∃n,kD z=some n/\ ∀H',Same H H'->Q (.int n) H')\/(kD z=none/\ ∀H',Same H H'->E (.ref A.w1) none H')))->sp_read_number A vs H Q E
theorem xK(T:Txt P w K mg A):FnOk P w K mg base (CX1 P w) 2 A.a24 A.f24 ["piece"] (sp_read_number A):=by
 refine T.x24.F.okE xM (by walk_at "n") fun _ _ _ s H vs Q E hr h=>?_
 ·obtain⟨z,rfl,hz,h⟩:=h;refine⟨_,(z8 (zG (zi yM (pv 0) zC (zA _))
     (z9 (zo zc)) zq)
    (z8 (zG (PW.pt (cE (zi ay (zp yY rfl T.w5 PySem.boot_len (pa1 (pv 0))) (yx (v:=.int 9) rfl T.w23.choose_spec ⟨_,rfl⟩) (zA _)) (gP (gM (yh (pcl (wo T) hr T.x20 (pa1 (pv 0))) (fun _=>rfl))))))
     (z9 (kh rfl T.w35 rfl T.w25 (pa1 zC))) zq)
    (z9 (zo (zH uy rfl T.w3 boot_int (pa1 (pv 0))))))),?_⟩
  have hz':z.length<=sizeLine:=le_trans hz (by decide);refine⟨_,rfl,rfl,_,rfl,?_⟩;refine ite2 (fun h0=>?_) (fun h0=>?_)
  ·have e:z=Str.ofString "0" :=by simpa using h0
   have e2:kD z=some 0:=by unfold kD;rw[if_pos e]
   rcases h with⟨n,e',k⟩|⟨e',_⟩
   ·rw[e2]at e';cases e';exact k H (Same.refl _)
   ·rw[e2]at e';cases e'
  have hne:z≠Str.ofString "0" :=fun e=>h0 (decide_eq_true (by rw[e]));have fail:¬(z.length<=9/\kR z=true)-> ∀H',Same H H'->E (.ref A.w1) none H':=fun n H' s'=>by
   have e2:kD z=none:=by unfold kD;rw[if_neg hne,if_neg n]
   rcases h with⟨n,e',_⟩|⟨_,k⟩
   ·rw[e2]at e';cases e'
   ·exact k H' s'
  dsimp only[bc,kc];refine ye (fun σ' H'=>Same H H'/\ σ'=[some (.str z)]/\z.length<=9/\kR z=true) (fun nx hnx=>?_) ?_
  ·refine⟨_,rfl,z,rfl,hz',_,_,rfl,rfl,_,rfl,?_⟩;refine ite2 (fun h1=>iteT ?_) (fun h1=>?_)
   ·have h1':=of_decide_eq_true h1;exact⟨by show 1<=sizeLine;decide,fail (fun q=>by omega) _ (Same.refl _)⟩
   have h1':¬(9:Int)<(z.length:Int):=fun q=>h1 (decide_eq_true q);refine⟨_,rfl,z,rfl,le_trans hz (by decide),fun H' s'=>⟨_,rfl,?_⟩⟩;cases e:kR z with
   |false=>exact iteT ⟨by show 1<=sizeLine;decide,fail (fun q=>by rw[e]at q;cases q.2) _ s'⟩
   |true=>exact iteF (hnx _ _ ⟨s',rfl,by omega,e⟩)
  ·rintro σ' H' ⟨s',rfl,l9,hn⟩;have e2:kD z=some (numV z):=by unfold kD;rw[if_neg hne,if_pos ⟨l9,hn⟩]
   rcases h with⟨n,e',k⟩|⟨e',_⟩
   ·rw[e2]at e';cases e';exact⟨_,rfl,z,_,rfl,gi hn,by omega,k H' s'⟩
   ·rw[e2]at e';cases e'
def dN:List Str:=["kind","piece"]
theorem mr:FnScope dN ["kind","piece"] (z7 pf):=FS
inductive sp_read_piece(A:Adr)(vs:List V)(H:Hp)(Q:VK)(E:XK):Prop
 |mk (kd z:Str):vs=[.str kd,.str z]->z.length<=100000->(((∃a,jZ kd z=some a/\ ∀v H',ArgV a v H'->Same H H'->Q v H')\/(jZ kd z=none/\ ∀H',Same H H'->E (.ref A.w1) none H')))->sp_read_piece A vs H Q E
theorem m3(T:Txt P w K mg A):FnOk P w K mg base (CX1 P w) 6 A.a25 A.f25 ["kind","piece"] (sp_read_piece A):=by
 refine T.x25.F.okE mr (by walk_at "n") fun _ _ _ s H vs Q E hr h=>?_
 ·obtain⟨kd,z,rfl,hz,h⟩:=h;refine⟨_,(z8 (zG (zi yM (pv 0) zC (zA _))
     (z9 (zo (yc (cj T) (hr.mono (by decide)) rfl T.x22.g T.x22.F.kp T.x22.b .nil gC (pa1 (pv 1))))) zq)
    (z8 (zG (zi yM (pv 0) zC (zA _))
     (z9 (zo (yc (p0 T) (hr.mono (by decide)) rfl T.x21.g T.x21.F.kp T.x21.b .nil gC (pa1 (pv 1))))) zq)
    (z8 (zG (zi yM (pv 0) zC (zA _))
     (z9 (zo (yc (xK T) (hr.mono (by decide)) rfl T.x24.g T.x24.F.kp T.x24.b .nil gC (pa1 (pv 1))))) zq)
    (z9 (zo (yc (ci T) (hr.mono (by decide)) rfl T.x23.g T.x23.F.kp T.x23.b .nil gC (pa1 (pv 1)))))))),?_⟩
  unfold jZ at h;refine⟨_,rfl,rfl,_,rfl,?_⟩;refine ite2 (fun h0=>?_) (fun h0=>?_)
  ·have e:kd=Str.ofString "RULE" :=by simpa using h0
   rw[if_pos e]at h;refine⟨_,rfl,z,rfl,hz,?_⟩;cases hr0:pK z with
   |none =>
    rw[hr0]at h;rcases h with⟨a,e',_⟩|⟨_,k⟩
    ·cases e'
    ·exact .inr ⟨rfl,k⟩
   |some rs =>
    rw[hr0]at h;rcases h with⟨a,e',k⟩|⟨e',_⟩
    ·cases e';exact .inl ⟨rs,rfl,fun p xs H' gp a2 s'=>k _ _ ⟨p,xs,rfl,gp,a2⟩ s'⟩
    ·cases e'
  have n0:kd≠Str.ofString "RULE" :=fun e=>h0 (decide_eq_true (by rw[e]));rw[if_neg n0]at h;refine⟨_,rfl,rfl,_,rfl,?_⟩;refine ite2 (fun h1=>?_) (fun h1=>?_)
  ·have e:kd=Str.ofString "HEAP" :=by simpa using h1
   rw[if_pos e]at h;refine⟨_,rfl,z,rfl,hz,?_⟩;cases hr0:kU z with
   |none =>
    rw[hr0]at h;rcases h with⟨a,e',_⟩|⟨_,k⟩
    ·cases e'
    ·exact .inr ⟨rfl,k⟩
   |some rs =>
    rw[hr0]at h;rcases h with⟨a,e',k⟩|⟨e',_⟩
    ·cases e';exact .inl ⟨rs,rfl,fun p H' gp s' _=>k _ _ ⟨p,rfl,gp⟩ s'⟩
    ·cases e'
  have n1:kd≠Str.ofString "HEAP" :=fun e=>h1 (decide_eq_true (by rw[e]));rw[if_neg n1]at h;refine⟨_,rfl,rfl,_,rfl,?_⟩;refine ite2 (fun h2=>?_) (fun h2=>?_)
  ·have e:kd=Str.ofString "NUMBER" :=by simpa using h2
   rw[if_pos e]at h;refine⟨_,rfl,z,rfl,hz,?_⟩;cases hr0:kD z with
   |none =>
    rw[hr0]at h;rcases h with⟨a,e',_⟩|⟨_,k⟩
    ·cases e'
    ·exact .inr ⟨rfl,k⟩
   |some rs =>
    rw[hr0]at h;rcases h with⟨a,e',k⟩|⟨e',_⟩
    ·cases e';exact .inl ⟨rs,rfl,fun H' s'=>k _ _ rfl s'⟩
    ·cases e'
  have n2:kd≠Str.ofString "NUMBER" :=fun e=>h2 (decide_eq_true (by rw[e]));rw[if_neg n2]at h;refine⟨_,rfl,z,rfl,hz,?_⟩;cases hn:zE z with
  |false =>
   rw[hn]at h;rcases h with⟨a,e',_⟩|⟨_,k⟩
   ·cases e'
   ·exact .inr ⟨rfl,k⟩
  |true =>
   rw[hn]at h;rcases h with⟨a,e',k⟩|⟨e',_⟩
   ·cases e';exact .inl ⟨rfl,fun H' s'=>k _ _ rfl s'⟩
   ·cases e'
def qU:List Str:=["line","word","form","pieces"]
theorem jw:FnScope qU ["line"] (z7 kF):=FS
inductive sp_read_line(A:Adr)(vs:List V)(H:Hp)(Q:VK)(E:XK):Prop
 |mk (z wd:Str) (as:List DArg):vs=[.str z]->z.length<=100000->jL z=some (wd,as)->(∀(p g:Addr)(gs:List V)(H':Hp),H' p=some (.tup [.str wd,.ref g])->H' g=some (.lst gs)->All2 ArgV H' as gs->Same H H'->Q (.ref p) H')->sp_read_line A vs H Q E
theorem cg(T:Txt P w K mg A):FnOk P w K mg base CX0 8 A.a26 A.f26 ["line"] (sp_read_line A):=by
 refine T.x26.F.ok jw (by walk_at "n") fun _ _ _ s H vs Q E hr h=>?_
 ·obtain⟨z,wd,as,rfl,hz,hR,k⟩:=h;refine⟨_,(z8 (pset 1 jw.nd (pix zt (yU PySem.F.plainAttrs_str PySem.F.slot_str_split PySem.F.type_str_split tM (pv 0) (pa1 zC)) zc))
    (z8 (zG (zi hW (pv 1) (yx (v:=.ref A.w9) rfl T.w52 rfl) rfl)
     (z9 qc) zq)
    (z8 (pset 2 jw.nd (pY (yx (v:=.ref A.w9) rfl T.w52 rfl) (pv 1) (fun _ _=>rfl)))
    (z8 (pset 3 jw.nd (yU PySem.F.plainAttrs_str PySem.F.slot_str_split PySem.F.type_str_split lK (pv 0) (pa2 zC (zp zk rfl T.w5 PySem.boot_len (pa1 (pv 2))))))
    (z8 (zG (PW.pt (cE (zi YM (pix zt (pv 3) zc) (pv 1) (zA _)) (gP (zi hU (zp zk rfl T.w5 PySem.boot_len (pa1 (pv 3))) (zp zk rfl T.w5 PySem.boot_len (pa1 (pv 2))) (zA _)))))
     (z9 qc) zq)
    (z9 (Y4 (z9 (zo (zI (pa2 (pv 1) (zP (ls:=["kind","piece"]) (fr:=[]) (csf (z7 kF) qU) rfl (Zv true false rfl T.w14 (pa2 (pv 2) (yr aL (pv 3) (kg zc) kf))) (fun _ _ _ _=>aE 2 rfl (yR (pgc (ls:=["kind","piece"]) (fr:=[]) 0 (by decide+kernel) rfl rfl) (yR (pgc (ls:=["kind","piece"]) (fr:=[]) 1 (by decide+kernel) rfl rfl) vF)) rfl rfl) (fun _ _ _ _=>yy) (fun _ _ _ _=>(yc (m3 T) (hr.mono (by decide)) (glc (z7 kF)) T.x25.g T.x25.F.kp T.x25.b .nil Kd (pa2 (pvc (z7 kF) 0) (pvc (z7 kF) 1)))))))))))))))),?_⟩
  obtain⟨form,hw,hf,rest,hp,hl,hps⟩:=gQ hR;obtain⟨ws,kd,keys,tups⟩:=T.w55;obtain⟨b,hb,kt⟩:=tups _ (show(wd,form)∈vJ from vi hf);dsimp only at hb kt;have f3:=eo hf;have eb:Str.ofString " "=jF:=kH;refine⟨_,rfl,rfl,_,_,rfl,rfl,rfl,by omega,fun l hl0=>?_⟩;rw[eb];refine⟨l,_,0,_,rfl,rfl,SqL.of z6,zr (j:=0) (by rw[getElem?_map,nV,hw];rfl),?_⟩;have s1:=Same.new (o:=.lst ((Txt.split z jF).map V.str)) hl0;generalize upd H l (.lst ((Txt.split z jF).map V.str))=H1 at s1 ⊢;refine⟨_,rfl,_,ws,wd,rfl,rfl,kd,_,rfl,?_⟩;rw[hb];refine iteF ?_;refine⟨_,rfl,_,b,ws,wd,rfl,rfl,kd,hb,?_⟩;refine⟨_,rfl,rfl,_,rfl,b,_,rfl,.inr kt.sq,_,_,_,rfl,rfl,rfl,⟨by omega,by rw[length_map];omega⟩,by omega,fun l2 hl2=>?_⟩;have ep:Txt.splitMax z jF ((form.map V.str).length:Int)=wd::rest:=by rw[length_map];exact hp
  rw[ep];have s2:=s1.trans (Same.new (o:=.lst ((wd::rest).map V.str)) hl2);have g2:=z6 (H:=H1) (a:=l2) (o:=.lst ((wd::rest).map V.str));generalize upd H1 l2 (.lst ((wd::rest).map V.str))=H2 at s2 g2 ⊢;refine⟨_,rfl,l2,_,0,_,rfl,rfl,SqL.of g2,zr (j:=0) rfl,_,rfl,rfl,_,rfl,?_⟩;refine oM rfl ?_;refine⟨_,rfl,l2,_,rfl,.inl (SqL.of g2),_,rfl,b,_,rfl,.inr kt.sq,_,_,rfl,rfl,_,rfl,?_⟩;refine ite2 (fun z=>absurd (of_decide_eq_true z) (by simp only[length_map,length_cons];omega)) (fun _=>?_);refine⟨_,rfl,_,rfl,_,rfl,?_⟩;dsimp only[yH,tNil];refine⟨1,rfl,l2,_,rfl,SqL.of g2,fun l3 hl3=>?_⟩;have e3:cutV ((wd::rest).map V.str) (some 1) none=rest.map V.str:=by rw[show(some (1:Int))=some ((1:Nat):Int)from rfl,rZ];rfl
  rw[e3];have s3:=s2.trans (Same.new (o:=.lst (rest.map V.str)) hl3);have g3:=z6 (H:=H2) (a:=l3) (o:=.lst (rest.map V.str));generalize upd H2 l3 (.lst (rest.map V.str))=H3 at s3 g3 ⊢;have hn:min (form.map V.str).length (rest.map V.str).length=form.length:=by rw[length_map,length_map];omega
  have hal:=vH hl hps;refine⟨b,l3,rfl,⟨_,kt.sq⟩,⟨_,SqL.of g3⟩,ow (xs:=form.map V.str) (ys:=rest.map V.str) (fun i zs σ' H'=>Same H3 H'/\(∃v w,σ'=[v,w])/\All2 ArgV H' (as.take i) zs) ⟨Same.refl _,⟨_,_,rfl⟩,.nil⟩ ?_ ?_ ?_⟩
  ·rintro i zs σ' H' hi ⟨s',_,a2⟩;refine⟨kt.sq,SqL.of (s' _ _ g3),?_⟩;rw[<-a2.length,length_take];exact le_trans (m:=3) (by omega) (by decide)
  ·rintro i x y zs σ' H' T' hx hy ⟨s',⟨v,w',rfl⟩,a2⟩ hT;rw[getElem?_map]at hx hy;obtain⟨kk,hk0,rfl⟩:=map_eq_some_iff.mp hx;obtain⟨pp,hp0,rfl⟩:=map_eq_some_iff.mp hy;obtain⟨aa,ha0,hra⟩:=gU i hps hk0 hp0;have hi2:=(List.getElem?_eq_some_iff.mp ha0).1;have ea:=(List.getElem?_eq_some_iff.mp ha0).2;refine⟨T',_,rfl,SqT.of z6,rfl,_,_,rfl,_,_,rfl,rfl,?_⟩;have pl:pp.length<=100000:=le_trans (Ym (z:=z) (form:=form) (by rw[hp];exact mem_cons_of_mem _ (mem_of_getElem? hp0))) hz;refine⟨_,rfl,_,rfl,kk,pp,rfl,pl,.inl ⟨aa,hra,fun v H'' hv s''=>?_⟩⟩;have sn:=(Same.new (o:=.tup [V.str kk,V.str pp]) hT).trans s'';refine⟨s'.trans sn,⟨_,_,rfl⟩,?_⟩;rw[take_succ_eq_append_getElem hi2,ea];exact(a2.imp fun _ _ z=>z.mv sn.tups).snoc hv
  ·rintro zs σ' H' ⟨s',_,a2⟩ g hg;rw[hn,<-hal,take_length]at a2;refine⟨by show 2<=sizeLine;decide,fun t ht=>?_⟩;have sg:=Same.new (o:=.lst zs) hg;have st:=Same.new (o:=.tup [V.str wd,V.ref g]) ht;exact k t g zs _ z6 (st _ _ z6) (a2.imp fun _ _ z=>z.mv (sg.trans st).tups) (s3.trans (s'.trans (sg.trans st)))
def vw:List Str:=["self","name"]
theorem uY:FnScope vw ["self","name"] (z7 jO):=FS
inductive sp_NoName(A:Adr)(vs:List V)(H:Hp)(Q:VK)(E:XK):Prop
 |mk (e:Addr) (v:V):vs=[.ref e,v]->H e=some (.ext (ExcM e A.w6 none))->(∀(dx:Addr)(H':Hp),H dx=none->H'=upd (upd H e (.ext (ExcM e A.w6 (some dx)))) dx (.xd [("name",v)])->Q .non H')->sp_NoName A vs H Q E
theorem uK(T:Txt P w K mg A):FnOk P w K mg base CX0 1 A.a27 A.f27 ["self","name"] (sp_NoName A):=by
 refine T.x27.F.ok uY (by walk_at "n") fun _ _ _ s H vs Q E hr h=>?_
 ·obtain⟨e,v,rfl,he,k⟩:=h;refine⟨_,(z9 (Y3 (pv 0) (pv 1) rfl)),?_⟩;exact⟨_,rfl,_,rfl,e,A.w6,rfl,he,T.w51,T.w49,fun dx hdx=>k dx _ hdx rfl⟩
def vy:List Str:=["standing","word","given","kind","value"]
theorem ko:FnScope vy ["standing","word","given"] (z7 jQ):=FS
inductive sp_nameless(A:Adr)(vs:List V)(H:Hp)(Q:VK)(E:XK):Prop
 |mk (d g:Addr) (kvs:List (Key×V)) (gs:List V) (S:Std) (wd:Str) (form:List Str) (as:List DArg):vs=[.ref d,.str wd,.ref g]->H d=some (.dK kvs)->StdV H S kvs->zZ wd=some form->H g=some (.lst gs)->All2 ArgV H as gs->as.length=form.length->((∀(i:Nat),form[i]? =some (Str.ofString "NAME")-> ∀a,as[i]? =some a-> ∃n,a=DArg.name n))->(((zB S form as=none/\ ∀H',Same H H'->Q .non H')\/(∃n,zB S form as=some n/\ ∀(dx:Addr)(H':Hp),H' dx=some (.xd [("name",.str n)])->Same H H'->E (.ref A.w6) (some dx) H')))->sp_nameless A vs H Q E
theorem uN(T:Txt P w K mg A):FnOk P w K mg base (CX1 P w) 3 A.a28 A.f28 ["standing","word","given"] (sp_nameless A):=by
 refine T.x28.F.okE ko (by walk_at "n") fun _ _ _ s H vs Q E hr h=>?_
 ·obtain⟨d,g,kvs,gs,S,wd,form,as,rfl,hd,hS,hf,hg,ha,hl,hN,h⟩:=h;refine⟨_,(z9 (Kh fun ok=>yK (ownE ok) rfl (Zv true false rfl T.w14 (pa2 (pY (yx (v:=.ref A.w9) rfl T.w52 rfl) (pv 1) (fun _ _=>rfl)) (pv 2))) (eS rfl (yR (pgn 3 ko.nd) (yR (pgn 4 ko.nd) vF)))
     (z9 (zG (PW.pt (gO (zi yM (pv 3) zC (zA _)) (vG (zi (ng (huR hr)) (pv 4) (pv 0) rfl))))
     (z9 (nF rfl T.w50 (uK T) (hr.mono (by decide)) T.x27.b rfl T.w30 (pa1 (pv 4)))) zq)))),?_⟩
  obtain⟨ws,kd,keys,tups⟩:=T.w55;obtain⟨b,hb,kt⟩:=tups _ (show(wd,form)∈vJ from vi hf);dsimp only at hb kt;have f3:=eo hf;have hgl:=ha.length;refine⟨_,rfl,_,b,ws,wd,rfl,rfl,kd,hb,?_⟩;refine⟨_,rfl,b,g,rfl,⟨_,kt.sq⟩,⟨_,SqL.of hg⟩,ZJ (xs:=form.map V.str) (ys:=gs) (fun i σ' H'=>Same H H'/\(∃v w,σ'=[some (.ref d),some (.str wd),some (.ref g),v,w])/\zB S form as=zB S (form.drop i) (as.drop i)) ⟨Same.refl _,⟨_,_,rfl⟩,rfl⟩ ?_ ?_ ?_⟩
  ·rintro i σ' H' _ ⟨s',_⟩;exact⟨kt.sq,SqL.of (s' _ _ hg)⟩
  ·rintro i x y σ' H' T' hx hy ⟨s',⟨v,w',rfl⟩,en⟩ hT;rw[getElem?_map]at hx;obtain⟨kk,hk0,rfl⟩:=map_eq_some_iff.mp hx;obtain⟨aa,ha0,hav⟩:=ha.get hy;have st:=ZU S form as i hk0 ha0;have sT:=s'.trans (Same.new (o:=.tup [V.str kk,y]) hT);refine⟨T',_,rfl,SqT.of z6,rfl,_,_,rfl,_,_,rfl,rfl,?_⟩;refine⟨_,rfl,rfl,_,rfl,?_⟩;refine ite2 (fun h0=>?_) (fun h0=>?_)
   ·have ek:kk=Str.ofString "NAME" :=by simpa using h0
    obtain⟨n,rfl⟩:=hN i (by rw[hk0,ek]) aa ha0;have ey:y= .str n:=hav;subst ey;rcases hS.val n with⟨e1,e2⟩|⟨r,v,e1,e2,_⟩
    ·refine⟨_,rfl,_,rfl,d,_,rfl,DGet.k (k:=Sum.inr n) (sT _ _ hd),_,rfl,?_⟩;rw[e2];have en2:zB S form as=some n:=by rw[en,st];exact if_pos ⟨ek,e1⟩
     rcases h with⟨h0,_⟩|⟨m,h0,k⟩
     ·rw[en2]at h0;cases h0
     ·rw[en2]at h0;cases h0;refine iteT ⟨_,rfl,by show 1<=sizeLine;decide,fun e he=>⟨e,_,rfl,z6,fun dx H' hdx eH=>?_⟩⟩;obtain⟨d1,d2,d3⟩:=oA he hdx eH;exact⟨rfl,some dx,d1,k dx _ d2 (sT.trans d3)⟩
    ·refine⟨_,rfl,_,rfl,d,_,rfl,DGet.k (k:=Sum.inr n) (sT _ _ hd),_,rfl,?_⟩;rw[e2];refine iteF ⟨sT,⟨_,_,rfl⟩,?_⟩;rw[en,st];exact if_neg (fun z=>by rw[e1]at z;cases z.2)
   ·have ek:kk≠Str.ofString "NAME" :=fun e=>h0 (decide_eq_true (by rw[e]));refine⟨sT,⟨_,_,rfl⟩,?_⟩;rw[en,st];cases aa with
    |name n=>exact if_neg (fun z=>ek z.1)
    |rule _=>rfl
    |heap _=>rfl
    |num _=>rfl
  ·rintro σ' H' ⟨s',_,en⟩;have e0:min (form.map V.str).length gs.length=form.length:=by rw[length_map];omega
   rw[e0,List.drop_length,eI]at en;rcases h with⟨_,k⟩|⟨n,h0,_⟩
   ·exact k H' s'
   ·rw[en]at h0;cases h0
def dQ:List Str:=["standing","given"]
theorem mz:FnScope dQ ["standing","given"] (z7 pj):=FS
inductive sp_tell_names(vs:List V)(H:Hp)(Q:VK)(E:XK):Prop
 |mk (d:Addr) (v:V) (kvs:List (Key×V)) (S:Std):vs=[.ref d,v]->H d=some (.dK kvs)->StdV H S kvs->S.length<64->mO S->(∀(z:Str)(H':Hp),yf (S.map (·.1)) z->Same H H'->Q (.str z) H')->sp_tell_names vs H Q E
theorem uO(T:Txt P w K mg A):FnOk P w K mg base CX0 2 A.a29 A.f29 ["standing","given"] sp_tell_names:=by
 refine T.x29.F.ok mz (by walk_at "n") fun _ _ _ s H vs Q E hr h=>?_
 ·obtain⟨d,v,kvs,S,rfl,hd,sd,hl,hb,k⟩:=h;refine⟨_,(z8 (zG (zi yM (zp fv rfl T.w5 PySem.boot_len (pa1 (pv 0))) zc (zA _))
     (z9 (zo zC)) zq)
    (z9 (zo (yU PySem.F.plainAttrs_str PySem.F.slot_str_join PySem.F.type_str_join wE zC (pa1 (zp (bA rfl) rfl T.w10 boot_sorted (pa1 (pv 0)))))))),?_⟩
  have hk:=sd.keys;have hlk:=sd.length;refine⟨_,rfl,d,kvs,rfl,hd,rfl,_,rfl,?_⟩;refine ite2 (fun h0=>?_) (fun h0=>?_)
  ·have e:kvs.length=0:=by simpa using h0
   have e2:S=[]:=List.eq_nil_of_length_eq_zero (by omega);subst e2;exact k lT H (.inl ⟨rfl,rfl⟩) (Same.refl _)
  have hne:S.map (·.1)≠[]:=fun z=>h0 (by
   have:S.length=0:=by rw[<-length_map (f:=(·.1)),z];rfl
   rw[hlk,this];rfl)
  refine⟨rfl,_,rfl,d,kvs,S.map (·.1),rfl,hd,hk,by rw[length_map];exact hl,fun ss' q pm so hq=>?_⟩;have hb':∀s∈ss',s.length<=8:=fun s hs=>by
   obtain⟨p,hp,rfl⟩:=mem_map.mp (pm.mem_iff.mp hs);exact hb p hp
  have h1:(ss'.map (·.length)).sum<=ss'.length*8:=rQ hb';have h2:(Str.ofString " ").length=1:=by rw[kH];rfl
  have h3:=pm.length_eq;rw[length_map]at h3;exact⟨_,q,ss',rfl,rfl,SqL.of z6,by rw[h2];omega,k _ _ (.inr ⟨hne,ss',pm,so,rfl⟩) (Same.new hq)⟩
def xB:List Str:=["self","standing"]
theorem xo:FnScope xB ["self","standing"] (z7 ue):=FS
inductive sp_do_deed(A:Adr)(vs:List V)(H:Hp)(Q:VK)(E:XK):Prop
 |mk (x d':Addr) (kvs:List (Key×V)) (O:List Addr) (S S':Std) (past und:List Std):vs=[.ref x,.ref d']->DeskAt A.w8 H x O S past und->H d'=some (.dK kvs)->StdV H S' kvs->d'∉O->past.length<=1000->(∀(H':Hp)(O':List Addr),DeskAt A.w8 H' x O' S' (past++[S]) []->Keep O H H'->Tups H H'->(∀b∈O',b∈O\/b=d'\/H b=none)->Q .non H')->sp_do_deed A vs H Q E
theorem wK(T:Txt P w K mg A):FnOk P w K mg base CX0 1 A.a30 A.f30 ["self","standing"] (sp_do_deed A):=by
 refine T.x30.F.ok xo (by walk_at "n") fun _ _ _ s H vs Q E hr h=>?_
 ·obtain⟨x,d',kvs,O,S,S',past,und,rfl,D,hd',hS',no,hl,k⟩:=h;refine⟨_,(z8 (zM (yU PySem.F.plainAttrs_list PySem.F.slot_list_append PySem.F.type_list_append yw (kY (pv 0) rfl) (pa1 (kY (pv 0) rfl))))
    (z8 (gL (pv 0) (pv 1) rfl)
    (z9 (gL (pv 0) (yd ku) rfl)))),?_⟩
  obtain⟨mx,al,dx,d,pl,ul,xs,ys,hx,hd,hp,ap,hu,au,mp,mu,npu⟩:=D;have apl:=ap.length;have nxp:x≠pl:=jb hx hp (by intro z;cases z);refine⟨_,rfl,x,A.w8,dx,_,_,rfl,hx,T.w44,T.w46,rfl,.inl ⟨rfl,_,SqL.of hp⟩,_,rfl,x,A.w8,dx,_,_,rfl,hx,T.w44,T.w47,rfl,pl,_,_,rfl,rfl,hp,lt_of_le_of_lt (m:=1000) (by omega) (by decide),?_⟩;refine⟨_,rfl,_,rfl,x,A.w8,dx,_,rfl,by rw[zh nxp];exact hx,T.w44,T.w47,(by show 3<1000;decide),?_⟩;refine⟨by show 0<=sizeLine;decide,fun ul' hul=>⟨_,rfl,x,A.w8,dx,dkF d' pl ul,rfl,?_,T.w44,T.w48,(by show 3<1000;decide),?_⟩⟩
  ·have:x≠ul':=fun e=>by rw[<-e,z6]at hul;cases hul
   rw[zh this,z6];rfl
  have nux:ul'≠x:=fun e=>by rw[e,z6]at hul;cases hul
  rw[zh nux]at hul;have nup:ul'≠pl:=fun e=>by rw[e,z6]at hul;cases hul
  rw[zh nup]at hul;have kp:∀b o,H b=some o->b≠x->b≠pl->upd (upd (upd (upd H pl (.lst (xs++[V.ref d]))) x (.ins A.w8 dx (dkF d' pl ul))) ul' (.lst [])) x (.ins A.w8 dx (dkF d' pl ul')) b=some o:=fun b o e n1 n2=>by
   rw[zh n1,zh (zj e hul),zh n1,zh n2];exact e
  have tp:Tups H (upd (upd (upd (upd H pl (.lst (xs++[V.ref d]))) x (.ins A.w8 dx (dkF d' pl ul))) ul' (.lst [])) x (.ins A.w8 dx (dkF d' pl ul'))):=fun b zs e=>kp b _ e (jb e hx (by intro z;cases z)) (jb e hp (by intro z;cases z));have kd:∀b kvs,b∈O->H b=some (.dK kvs)->upd (upd (upd (upd H pl (.lst (xs++[V.ref d]))) x (.ins A.w8 dx (dkF d' pl ul))) ul' (.lst [])) x (.ins A.w8 dx (dkF d' pl ul')) b=some (.dK kvs):=fun b kvs _ e=>kp b _ e (jb e hx (by intro z;cases z)) (jb e hp (by intro z;cases z));have ho:∀b∈O,b∈ul'::d'::O:=fun b hb=>by simp[hb]
  refine k _ (ul'::d'::O) ⟨ho _ mx,fun b hb=>?_,dx,d',pl,ul',xs++[V.ref d],[],z6,⟨d',kvs,rfl,by simp,?_,hS'.mv tp⟩,?_,(ap.to fun _ _ z=>z.mv tp kd ho).snoc (hd.mv tp kd ho),?_,.nil,ho _ mp,by simp,nup.symm⟩ (fun b o e n=>?_) tp (fun b hb=>?_)
  ·by_cases e1:b=x
   ·exact⟨_,by rw[e1,z6]⟩
   rw[zh e1];by_cases e2:b=ul'
   ·exact⟨_,by rw[e2,z6]⟩
   rw[zh e2,zh e1];have:b=ul'\/b=d'\/b∈O:=by simpa using hb
   rcases this with rfl|rfl|h
   ·exact absurd rfl e2
   ·exact jy hd'
   ·obtain⟨o,e⟩:=al b h;exact jy e
  ·exact kp _ _ hd' (fun e=>no (e▸mx)) (fun e=>no (e▸mp))
  ·rw[zh nxp.symm,zh nup.symm,zh nxp.symm,z6]
  ·rw[zh nux,z6]
  ·exact kp b o e (fun z=>n (z▸mx)) (fun z=>n (z▸mp))
  ·have:b=ul'\/b=d'\/b∈O:=by simpa using hb
   rcases this with rfl|rfl|h
   ·exact .inr (.inr hul)
   ·exact .inr (.inl rfl)
   ·exact .inl h
def tN:List Str:=["self","name","rule","standing"]
theorem ui:FnScope tN ["self","name","rule"] (z7 uU):=FS
inductive sp_do_put(A:Adr)(vs:List V)(H:Hp)(Q:VK)(E:XK):Prop
 |mk (x:Addr) (n:Str) (v:V) (r:List (List Int)) (O:List Addr) (S:Std) (past und:List Std):vs=[.ref x,.str n,v]->DeskAt A.w8 H x O S past und->vh r v H->S.length<=1000->past.length<=1000->(∀(H':Hp)(O':List Addr),After A.w8 H H' x O O' (putS S n r) (past++[S]) []->Q .non H')->sp_do_put A vs H Q E
theorem xG(T:Txt P w K mg A):FnOk P w K mg base CX0 3 A.a31 A.f31 ["self","name","rule"] (sp_do_put A):=by
 refine T.x31.F.ok ui (by walk_at "n") fun _ _ _ s H vs Q E hr h=>?_
 ·obtain⟨x,n,v,r,O,S,past,und,rfl,D,hv,hs,hl,k⟩:=h;refine⟨_,(z8 (pset 3 ui.nd (zH ub rfl T.w1 boot_dict (pa1 (kY (pv 0) rfl))))
    (z8 (nD (huR hr) (pv 3) (pv 1) (pv 2) rfl)
    (z9 (zM (m7 (pv 0) T.w44 T.x30.mt (wK T) (hr.mono (by decide)) T.x30.b .nil wu (pa1 (pv 3))))))),?_⟩
  have D0:=D;obtain⟨mx,al,dx,d,pl,ul,xs,ys,hx,⟨_,kvs,e,md,hd,sd⟩,hp,ap,hu,au,mp,mu,npu⟩:=D;cases e;refine⟨_,rfl,x,A.w8,dx,_,_,rfl,hx,T.w44,T.w47,rfl,d,kvs,rfl,hd,fun d' hd'=>?_⟩;have s1:=Same.new (o:=.dK kvs) hd';refine⟨_,rfl,_,rfl,_,rfl,d',_,rfl,DPut.k (k:=Sum.inr n) z6 (lt_of_le_of_lt (m:=1000) (by rw[sd.length];exact hs) (by decide)),?_⟩;rw[o8];have s2:=Same.new (o:=.dK (putK kvs (Sum.inr n) v)) hd';refine⟨_,rfl,x,dx,_,rfl,s2 _ _ hx,rfl,_,rfl,x,d',_,O,S,putS S n r,past,und,rfl,D0.same s2,z6,?_,?_,hl,fun H' O' D' K' T' ho=>?_⟩
  ·exact(sd.mv s2.tups).put (hv.mv s2.tups)
  ·exact D0.nin hd'
  ·refine k H' O' ⟨D',fun b o e n=>K' b o (s2 _ _ e) n,s2.tups.trans T',fun b hb=>?_⟩;rcases ho b hb with h|rfl|h
   ·exact .inl h
   ·exact .inr hd'
   ·exact .inr (s2.free h)
def xC:List Str:=["self","name","standing"]
theorem wV:FnScope xC ["self","name"] (z7 uf):=FS
inductive sp_do_drop(A:Adr)(vs:List V)(H:Hp)(Q:VK)(E:XK):Prop
 |mk (x:Addr) (n:Str) (r:List (List Int)) (O:List Addr) (S:Std) (past und:List Std):vs=[.ref x,.str n]->DeskAt A.w8 H x O S past und->y9 S n=some r->past.length<=1000->(∀(H':Hp)(O':List Addr),After A.w8 H H' x O O' (bO S n) (past++[S]) []->Q .non H')->sp_do_drop A vs H Q E
theorem gj(T:Txt P w K mg A):FnOk P w K mg base CX0 3 A.a32 A.f32 ["self","name"] (sp_do_drop A):=by
 refine T.x32.F.ok wV (by walk_at "n") fun _ _ _ s H vs Q E hr h=>?_
 ·obtain⟨x,n,r,O,S,past,und,rfl,D,hn,hl,k⟩:=h;refine⟨_,(z8 (pset 2 wV.nd (zH ub rfl T.w1 boot_dict (pa1 (kY (pv 0) rfl))))
    (z8 (zM (sv (pv 2) (pv 1) ⟨rfl,rfl,rfl,rfl⟩))
    (z9 (zM (m7 (pv 0) T.w44 T.x30.mt (wK T) (hr.mono (by decide)) T.x30.b .nil wu (pa1 (pv 2))))))),?_⟩
  have D0:=D;obtain⟨mx,al,dx,d,pl,ul,xs,ys,hx,⟨_,kvs,e,md,hd,sd⟩,hp,ap,hu,au,mp,mu,npu⟩:=D;cases e;refine⟨_,rfl,x,A.w8,dx,_,_,rfl,hx,T.w44,T.w47,rfl,d,kvs,rfl,hd,fun d' hd'=>?_⟩;rcases sd.val n with⟨e1,_⟩|⟨r',v,e1,e2,hr0⟩
  ·rw[hn]at e1;cases e1
  refine⟨_,rfl,d',rfl,.inl ⟨_,.inl z6⟩,_,rfl,kvs,Sum.inr n,v,z6,rfl,e2,?_⟩;rw[o8];have s2:=Same.new (o:=.dK (d9 kvs (Sum.inr n))) hd';refine⟨_,rfl,x,dx,_,rfl,s2 _ _ hx,rfl,_,rfl,x,d',_,O,S,bO S n,past,und,rfl,D0.same s2,z6,?_,?_,hl,fun H' O' D' K' T' ho=>?_⟩
  ·exact(sd.mv s2.tups).drop n
  ·exact D0.nin hd'
  ·refine k H' O' ⟨D',fun b o e n=>K' b o (s2 _ _ e) n,s2.tups.trans T',fun b hb=>?_⟩;rcases ho b hb with h|rfl|h
   ·exact .inl h
   ·exact .inr hd'
   ·exact .inr (s2.free h)
def xD:List Str:=["self"]
theorem xp:FnScope xD ["self"] (z7 ug):=FS
inductive sp_do_undo(A:Adr)(vs:List V)(H:Hp)(Q:VK)(E:XK):Prop
 |mk (x:Addr) (O:List Addr) (S:Std) (past und:List Std):vs=[.ref x]->DeskAt A.w8 H x O S past und->past.length<=1000->und.length<=1000->(((∃S' rest,past=rest++[S']/\ ∀(H':Hp),After A.w8 H H' x O O S' rest (und++[S])->Q .non H')\/(past=[]/\E (.ref A.w7) none H)))->sp_do_undo A vs H Q E
theorem gm(T:Txt P w K mg A):FnOk P w K mg base (CX1 P w) 2 A.a33 A.f33 ["self"] (sp_do_undo A):=by
 refine T.x33.F.okE xp (by walk_at "n") fun _ _ _ s H vs Q E hr h=>?_
 ·obtain⟨x,O,S,past,und,rfl,D,lp,lu,h⟩:=h;refine⟨_,(z8 (zG (zi yM (zp zk rfl T.w5 PySem.boot_len (pa1 (kY (pv 0) rfl))) zc (zA _))
     (z9 (kh rfl T.w36 rfl T.w31 (pa1 zC))) zq)
    (z8 (zM (yU PySem.F.plainAttrs_list PySem.F.slot_list_append PySem.F.type_list_append yw (kY (pv 0) rfl) (pa1 (kY (pv 0) rfl))))
    (z9 (gL (pv 0) (Zr PySem.F.plainAttrs_list PySem.F.slot_list_pop PySem.F.type_list_pop Zp (kY (pv 0) rfl)) rfl)))),?_⟩
  obtain⟨mx,al,dx,d,pl,ul,xs,ys,hx,hd,hp,ap,hu,au,mp,mu,npu⟩:=D;have apl:=ap.length;have aul:=au.length;have nxp:x≠pl:=jb hx hp (by intro z;cases z);have nxu:x≠ul:=jb hx hu (by intro z;cases z);refine⟨_,rfl,x,A.w8,dx,_,_,rfl,hx,T.w44,T.w46,rfl,pl,_,rfl,.inl (SqL.of hp),rfl,_,rfl,?_⟩;rcases h with⟨S',rest,e,k⟩|⟨e,k⟩
  case inr =>
   subst e;cases ap;exact ite2 (fun _=>⟨by show 1<=sizeLine;decide,k⟩) (fun z=>absurd rfl z)
  subst e;obtain⟨zs,v,rfl,az,hv⟩:=ap.unsnoc;refine ite2 (fun z=>by simp at z;omega) (fun _=>?_);refine⟨_,rfl,x,A.w8,dx,_,_,rfl,hx,T.w44,T.w48,rfl,.inl ⟨rfl,_,SqL.of hu⟩,_,rfl,x,A.w8,dx,_,_,rfl,hx,T.w44,T.w47,rfl,ul,_,_,rfl,rfl,hu,lt_of_le_of_lt (m:=1000) (by omega) (by decide),?_⟩;have hx1:upd H ul (.lst (ys++[V.ref d])) x=some (.ins A.w8 dx (dkF d pl ul)):=by rw[zh nxu];exact hx
  have hp1:upd H ul (.lst (ys++[V.ref d])) pl=some (.lst (zs++[v])):=by rw[zh npu];exact hp
  refine⟨_,rfl,x,A.w8,dx,_,_,rfl,hx1,T.w44,T.w46,rfl,.inl ⟨rfl,_,SqL.of hp1⟩,pl,_,v,rfl,rfl,hp1,by simp,?_⟩;rw[List.dropLast_concat];refine⟨_,rfl,x,A.w8,dx,_,rfl,by rw[zh nxp];exact hx1,T.w44,T.w47,(by show 3<1000;decide),?_⟩;obtain⟨d',kvs,rfl,md',hd',sd'⟩:=hv;have kp:∀b o,H b=some o->b≠x->b≠pl->b≠ul->upd (upd (upd H ul (.lst (ys++[V.ref d]))) pl (.lst zs)) x (.ins A.w8 dx (dkF d' pl ul)) b=some o:=fun b o e n1 n2 n3=>by
   rw[zh n1,zh n2,zh n3];exact e
  have tp:Tups H (upd (upd (upd H ul (.lst (ys++[V.ref d]))) pl (.lst zs)) x (.ins A.w8 dx (dkF d' pl ul))):=fun b zs e=>kp b _ e (jb e hx (by intro z;cases z)) (jb e hp (by intro z;cases z)) (jb e hu (by intro z;cases z));have kd:∀b kvs,b∈O->H b=some (.dK kvs)->upd (upd (upd H ul (.lst (ys++[V.ref d]))) pl (.lst zs)) x (.ins A.w8 dx (dkF d' pl ul)) b=some (.dK kvs):=fun b kvs _ e=>kp b _ e (jb e hx (by intro z;cases z)) (jb e hp (by intro z;cases z)) (jb e hu (by intro z;cases z));have ho:∀b∈O,b∈O:=fun _ z=>z;refine k _ ⟨⟨mx,fun b hb=>?_,dx,d',pl,ul,zs,ys++[V.ref d],z6,⟨d',kvs,rfl,md',kd _ _ md' hd',sd'.mv tp⟩,?_,(az.imp fun _ _ z=>z.mv tp kd ho),?_,((au.imp fun _ _ z=>z.mv tp kd ho).snoc (hd.mv tp kd ho)),mp,mu,npu⟩,fun b o e n=>kp b o e (fun z=>n (z▸mx)) (fun z=>n (z▸mp)) (fun z=>n (z▸mu)),tp,fun b hb=>.inl hb⟩
  ·obtain⟨o,e⟩:=al b hb;obtain⟨o1,e1⟩:=jy (a:=ul) (o:=.lst (ys++[V.ref d])) e;obtain⟨o2,e2⟩:=jy (a:=pl) (o:=.lst zs) e1;exact jy e2
  ·rw[zh nxp.symm,z6]
  ·rw[zh nxu.symm,zh npu.symm,z6]
def qO:List Str:=["self"]
theorem pM:FnScope qO ["self"] (z7 wT):=FS
inductive sp_do_again(A:Adr)(vs:List V)(H:Hp)(Q:VK)(E:XK):Prop
 |mk (x:Addr) (O:List Addr) (S:Std) (past und:List Std):vs=[.ref x]->DeskAt A.w8 H x O S past und->past.length<=1000->und.length<=1000->(((∃S' rest,und=rest++[S']/\ ∀(H':Hp),After A.w8 H H' x O O S' (past++[S]) rest->Q .non H')\/(und=[]/\E (.ref A.w7) none H)))->sp_do_again A vs H Q E
theorem pH(T:Txt P w K mg A):FnOk P w K mg base (CX1 P w) 2 A.a34 A.f34 ["self"] (sp_do_again A):=by
 refine T.x34.F.okE pM (by walk_at "n") fun _ _ _ s H vs Q E hr h=>?_
 ·obtain⟨x,O,S,past,und,rfl,D,lp,lu,h⟩:=h;refine⟨_,(z8 (zG (zi yM (zp zk rfl T.w5 PySem.boot_len (pa1 (kY (pv 0) rfl))) zc (zA _))
     (z9 (kh rfl T.w36 rfl T.w31 (pa1 zC))) zq)
    (z8 (zM (yU PySem.F.plainAttrs_list PySem.F.slot_list_append PySem.F.type_list_append yw (kY (pv 0) rfl) (pa1 (kY (pv 0) rfl))))
    (z9 (gL (pv 0) (Zr PySem.F.plainAttrs_list PySem.F.slot_list_pop PySem.F.type_list_pop Zp (kY (pv 0) rfl)) rfl)))),?_⟩
  obtain⟨mx,al,dx,d,pl,ul,xs,ys,hx,hd,hp,ap,hu,au,mp,mu,npu⟩:=D;have apl:=ap.length;have aul:=au.length;have nxp:x≠pl:=jb hx hp (by intro z;cases z);have nxu:x≠ul:=jb hx hu (by intro z;cases z);refine⟨_,rfl,x,A.w8,dx,_,_,rfl,hx,T.w44,T.w48,rfl,ul,_,rfl,.inl (SqL.of hu),rfl,_,rfl,?_⟩;rcases h with⟨S',rest,e,k⟩|⟨e,k⟩
  case inr =>
   subst e;cases au;exact ite2 (fun _=>⟨by show 1<=sizeLine;decide,k⟩) (fun z=>absurd rfl z)
  subst e;obtain⟨zs,v,rfl,az,hv⟩:=au.unsnoc;refine ite2 (fun z=>by simp at z;omega) (fun _=>?_);refine⟨_,rfl,x,A.w8,dx,_,_,rfl,hx,T.w44,T.w46,rfl,.inl ⟨rfl,_,SqL.of hp⟩,_,rfl,x,A.w8,dx,_,_,rfl,hx,T.w44,T.w47,rfl,pl,_,_,rfl,rfl,hp,lt_of_le_of_lt (m:=1000) (by omega) (by decide),?_⟩;have hx1:upd H pl (.lst (xs++[V.ref d])) x=some (.ins A.w8 dx (dkF d pl ul)):=by rw[zh nxp];exact hx
  have hp1:upd H pl (.lst (xs++[V.ref d])) ul=some (.lst (zs++[v])):=by rw[zh npu.symm];exact hu
  refine⟨_,rfl,x,A.w8,dx,_,_,rfl,hx1,T.w44,T.w48,rfl,.inl ⟨rfl,_,SqL.of hp1⟩,ul,_,v,rfl,rfl,hp1,by simp,?_⟩;rw[List.dropLast_concat];refine⟨_,rfl,x,A.w8,dx,_,rfl,by rw[zh nxu];exact hx1,T.w44,T.w47,(by show 3<1000;decide),?_⟩;obtain⟨d',kvs,rfl,md',hd',sd'⟩:=hv;have kp:∀b o,H b=some o->b≠x->b≠pl->b≠ul->upd (upd (upd H pl (.lst (xs++[V.ref d]))) ul (.lst zs)) x (.ins A.w8 dx (dkF d' pl ul)) b=some o:=fun b o e n1 n2 n3=>by
   rw[zh n1,zh n3,zh n2];exact e
  have tp:Tups H (upd (upd (upd H pl (.lst (xs++[V.ref d]))) ul (.lst zs)) x (.ins A.w8 dx (dkF d' pl ul))):=fun b zs e=>kp b _ e (jb e hx (by intro z;cases z)) (jb e hp (by intro z;cases z)) (jb e hu (by intro z;cases z));have kd:∀b kvs,b∈O->H b=some (.dK kvs)->upd (upd (upd H pl (.lst (xs++[V.ref d]))) ul (.lst zs)) x (.ins A.w8 dx (dkF d' pl ul)) b=some (.dK kvs):=fun b kvs _ e=>kp b _ e (jb e hx (by intro z;cases z)) (jb e hp (by intro z;cases z)) (jb e hu (by intro z;cases z));have ho:∀b∈O,b∈O:=fun _ z=>z;refine k _ ⟨⟨mx,fun b hb=>?_,dx,d',pl,ul,xs++[V.ref d],zs,z6,⟨d',kvs,rfl,md',kd _ _ md' hd',sd'.mv tp⟩,?_,((ap.imp fun _ _ z=>z.mv tp kd ho).snoc (hd.mv tp kd ho)),?_,(az.imp fun _ _ z=>z.mv tp kd ho),mp,mu,npu⟩,fun b o e n=>kp b o e (fun z=>n (z▸mx)) (fun z=>n (z▸mp)) (fun z=>n (z▸mu)),tp,fun b hb=>.inl hb⟩
  ·obtain⟨o,e⟩:=al b hb;obtain⟨o1,e1⟩:=jy (a:=pl) (o:=.lst (xs++[V.ref d])) e;obtain⟨o2,e2⟩:=jy (a:=ul) (o:=.lst zs) e1;exact jy e2
  ·rw[zh nxp.symm,zh npu,z6]
  ·rw[zh nxu.symm,z6]
def am:List Str:=["standing","given"]
theorem cW:FnScope am ["standing","given"] (z7 xn):=FS
inductive sp_tell_rule(vs:List V)(H:Hp)(Q:VK)(E:XK):Prop
 |mk (d g:Addr) (kvs:List (Key×V)) (gs:List V) (S:Std) (n:Str) (r:List (List Int)):vs=[.ref d,.ref g]->H d=some (.dK kvs)->StdV H S kvs->H g=some (.lst gs)->All2 ArgV H [.name n] gs->y9 S n=some r->mL r->(∀(H':Hp),Same H H'->Q (.str (rtxt r)) H')->sp_tell_rule vs H Q E
theorem cq(T:Txt P w K mg A):FnOk P w K mg base CX0 4 A.a35 A.f35 ["standing","given"] sp_tell_rule:=by
 refine T.x35.F.ok cW (by walk_at "n") fun _ _ _ s H vs Q E hr h=>?_
 ·obtain⟨d,g,kvs,gs,S,n,r,rfl,hd,sd,hg,ha,hl,hb,k⟩:=h;refine⟨_,(z9 (zo (pcl (p6 T) hr T.x18 (pa1 (ur (huR hr) (pv 0) (pix zt (pv 1) zc) (fun _ _=>rfl)))))),?_⟩;cases ha with
  |cons h1 ha =>
   cases ha;cases h1;rcases sd.val n with⟨e1,_⟩|⟨r',v,e1,e2,p,xs,rfl,gp,a2⟩
   ·rw[hl]at e1;cases e1
   rw[hl]at e1;cases e1;have dg:=DGet.k (k:=Sum.inr n) hd;rw[e2]at dg;exact⟨_,rfl,_,rfl,g,_,0,_,rfl,rfl,SqL.of hg,zr (j:=0) rfl,d,_,rfl,dg,p,r,xs,rfl,gp,a2,hb.1,hb.2,k⟩
def ZS:List Str:=["heap","part"]
theorem Z4:FnScope ZS ["heap","part"] (z7 nP):=FS
inductive sp_often(K:W.Frag)(vs:List V)(H:Hp)(Q:VK)(E:XK):Prop
 |mk (a:Addr) (ns:List Int) (y:Int):vs=[.ref a,.int y]->H a=some (.tup (ns.map V.int))->Q (.int (ns.count y:Nat)) H->sp_often K vs H Q E
theorem tY(T:Txt P w K mg A):FnOk P w K mg base CX0 1 A.a36 A.f36 ["heap","part"] (sp_often K):=by
 refine T.x36.F.ok Z4 (by walk_at "n") fun _ _ _ s H vs Q E hr h=>?_
 ·obtain⟨a,ns,y,rfl,hS,k⟩:=h;refine⟨_,(z9 (zo (yU PySem.F.plainAttrs_tuple PySem.F.slot_tuple_count PySem.F.type_tuple_count qL (pv 0) (pa1 (pv 1))))),?_⟩;exact⟨_,rfl,.inr (.inl ⟨rfl,.inr ⟨_,hS⟩⟩),_,rfl,a,_,_,rfl,rfl,SqT.of hS,rfl,wA _,by rw[ww];exact k⟩
def lN:List Str:=["one","other","part"]
theorem rH:FnScope lN ["one","other"] (z7 cN):=FS
inductive sp_lies_in(vs:List V)(H:Hp)(Q:VK)(E:XK):Prop
 |mk (a b:Addr) (ns ms:List Int):vs=[.ref a,.ref b]->H a=some (.tup (ns.map V.int))->H b=some (.tup (ms.map V.int))->Q (.bl (lies ns ms)) H->sp_lies_in vs H Q E
theorem fW(T:Txt P w K mg A):FnOk P w K mg base CX0 2 A.a37 A.f37 ["one","other"] sp_lies_in:=by
 refine T.x37.F.ok rH (by walk_at "n") fun _ _ _ s H vs Q E hr h=>?_
 ·obtain⟨a,b,ns,ms,rfl,ha,hb,k⟩:=h;refine⟨_,(z8 (yK PassesOwn.never rfl (wO (pv 0)) (pgn 2 rH.nd)
     (z9 (zG (zi hV (pcl (tY T) hr T.x36 (pa2 (pv 1) (pv 2))) (pcl (tY T) hr T.x36 (pa2 (pv 0) (pv 2))) (zA _))
     (z9 (zo aB)) zq)))
    (z9 (zo aB))),?_⟩
  refine⟨_,rfl,a,rfl,⟨_,SqT.of ha⟩,tu (xs:=ns.map V.int) (fun i σ' H'=>H'=H/\(∃v,σ'=[some (.ref a),some (.ref b),v])/\(ns.take i).all (fun x=>decide (ns.count x<=ms.count x))=true) ⟨rfl,⟨_,rfl⟩,rfl⟩ ?_ ?_ ?_⟩
  ·rintro i σ' H' _ ⟨rfl,_⟩;exact SqT.of ha
  ·rintro i x σ' H' hx ⟨rfl,⟨v,rfl⟩,hall⟩;obtain⟨z,hz,rfl⟩:=jI hx;refine⟨_,rfl,_,rfl,b,ms,z,rfl,hb,?_⟩;refine⟨_,rfl,_,rfl,a,ns,z,rfl,ha,?_⟩;refine⟨_,_,rfl,rfl,_,rfl,?_⟩;refine ite2 (fun hlt=>?_) (fun hlt=>⟨rfl,⟨_,rfl⟩,?_⟩)
   ·have h1:lies ns ms=false:=iy (mem_of_getElem? hz) (by
     have:=of_decide_eq_true hlt;exact decide_eq_false (by omega))
    rw[h1]at k;exact k
   ·rw[oo hz,hall,Bool.true_and];refine decide_eq_true ?_;have:¬((ms.count z:Nat):Int)<((ns.count z:Nat):Int):=fun q=>hlt (decide_eq_true q);omega
  ·rintro σ' H' ⟨rfl,_,hall⟩;rw[length_map,take_length]at hall;have h1:lies ns ms=true:=hall;rw[h1]at k;exact k
def eF:List Str:=["rule","heap"]
theorem nQ:FnScope eF ["rule","heap"] (z7 wa):=FS
inductive sp_all_in(vs:List V)(H:Hp)(Q:VK)(E:XK):Prop
 |mk (p q:Addr) (rs:List V) (rule:List (List Int)) (hs:List Int):vs=[.ref p,.ref q]->H p=some (.tup rs)->All2 Tup1 H rule rs->H q=some (.tup (hs.map V.int))->rule.length<=60->(∀(l:Addr)(H':Hp),H' l=some (.lst ((idxG rule hs).map V.int))->Same H H'->H l=none->Q (.ref l) H')->sp_all_in vs H Q E
theorem lY(T:Txt P w K mg A):FnOk P w K mg base CX0 3 A.a38 A.f38 ["rule","heap"] sp_all_in:=by
 refine T.x38.F.ok nQ (by walk_at "n") fun _ _ _ s H vs Q E hr h=>?_
 ·obtain⟨p,q,rs,rule,hs,rfl,hp,h2,hq,hln,k⟩:=h;refine⟨_,(z9 (zo (zP (ls:=["number","shut"]) (fr:=[("heap",1)]) (csf (z7 wa) eF) rfl (Y2 true rfl T.w2 (pa1 (pv 0))) (fun _ _ _ _=>aE 2 rfl (yR (pgc (ls:=["number","shut"]) (fr:=[("heap",1)]) 0 (by decide+kernel) rfl rfl) (yR (pgc (ls:=["number","shut"]) (fr:=[("heap",1)]) 1 (by decide+kernel) rfl rfl) vF)) rfl rfl) (fun _ _ _ _=>eR (cD K rfl (yc (fW T) (hr.mono (by decide)) (glc (z7 wa)) T.x37.g T.x37.F.kp T.x37.b .nil wu (pa2 (pvc (z7 wa) 1) (pvc (z7 wa) 2))) (fun _=>rfl))) (fun _ _ _ _=>(pvc (z7 wa) 0))))),?_⟩;refine⟨_,rfl,p,rfl,⟨_,SqT.of hp⟩,iF (k:=true) (xs:=rs) (fun i zs σ' H'=>Same H H'/\(∃v w,σ'=[v,w,some (.ref q)])/\zs=(idxP rule hs i).map V.int) ⟨fun _ _ h=>h,⟨_,_,rfl⟩,rfl⟩ ?_ ?_ ?_⟩
  ·rintro i zs σ' H' hi ⟨s,_,rfl⟩;refine⟨SqT.of (s _ _ hp),?_⟩;rw[length_map];have h1:=oH rule hs i;have h2:=h2.length;exact yW (by omega)
  ·rintro i x zs σ' H' T' hx ⟨s,⟨v,w',rfl⟩,rfl⟩ hT;obtain⟨hs1,hh1,q1,rfl,hq1⟩:=h2.get hx;have hi:=(List.getElem?_eq_some_iff.mp hh1).1;have e1:rule.getD i []=hs1:=by simp[hh1]
   refine⟨T',_,rfl,SqT.of z6,rfl,_,_,rfl,_,_,rfl,rfl,?_⟩;have sn:=s.trans (Same.new (o:=.tup [.int i,.ref q1]) hT);refine⟨_,rfl,_,rfl,q1,q,hs1,hs,rfl,sn _ _ hq1,sn _ _ hq,?_⟩;refine⟨_,rfl,?_⟩;refine ite2 (fun hc=>⟨_,rfl,sn,⟨_,_,rfl⟩,?_⟩) (fun hc=>⟨sn,⟨_,_,rfl⟩,?_⟩)
   ·rw[jH,e1,if_pos hc,map_append];rfl
   ·rw[jH,e1,if_neg hc,append_nil]
  ·rintro zs σ' H' ⟨s,_,rfl⟩ l hl;rw[<-h2.length];exact k l _ z6 (s.trans (Same.new hl)) (s.free hl)
def fO:List Str:=["rule","heap"]
theorem aJ:FnScope fO ["rule","heap"] (z7 rE):=FS
inductive sp_first_in(vs:List V)(H:Hp)(Q:VK)(E:XK):Prop
 |mk (p q:Addr) (rs:List V) (rule:List (List Int)) (hs:List Int):vs=[.ref p,.ref q]->H p=some (.tup rs)->All2 Tup1 H rule rs->H q=some (.tup (hs.map V.int))->rule.length<=60->(∀(H':Hp),Same H H'->Q (optV (yv rule hs)) H')->sp_first_in vs H Q E
theorem gx(T:Txt P w K mg A):FnOk P w K mg base CX0 4 A.a39 A.f39 ["rule","heap"] sp_first_in:=by
 refine T.x39.F.ok aJ (by walk_at "n") fun _ _ _ s H vs Q E hr h=>?_
 ·obtain⟨p,q,rs,rule,hs,rfl,hp,h2,hq,hln,k⟩:=h;refine⟨_,(z9 (zo (Y0 false rfl rfl T.w8 (pcl (lY T) hr T.x38 (pa2 (pv 0) (pv 1))) rj))),?_⟩;refine⟨_,rfl,_,rfl,p,q,rs,rule,hs,rfl,hp,h2,hq,hln,fun l H' hl s nl=>?_⟩;refine⟨l,idxG rule hs,rfl,SqL.of hl,fun v hv=>?_⟩;rcases hv with⟨e,rfl⟩|⟨m,rfl,hm⟩
  ·have:=k H' s;rw[xW e]at this;exact this
  ·have e:yv rule hs=some m:=di rule hs rule.length m hm;have:=k H' s;rw[e]at this;exact this
def dP:List Str:=["standing","given","number"]
theorem v7:FnScope dP ["standing","given"] (z7 pi):=FS
inductive sp_tell_keeps(vs:List V)(H:Hp)(Q:VK)(E:XK):Prop
 |mk (d g:Addr) (kvs:List (Key×V)) (gs:List V) (S:Std) (n:Str) (r:List (List Int)) (h0:List Int):vs=[.ref d,.ref g]->H d=some (.dK kvs)->StdV H S kvs->H g=some (.lst gs)->All2 ArgV H [.name n,.heap h0] gs->y9 S n=some r->r.length<=60->(∀(H':Hp),Same H H'->Q (.str (uF r h0)) H')->sp_tell_keeps vs H Q E
theorem m5(T:Txt P w K mg A):FnOk P w K mg base CX0 5 A.a40 A.f40 ["standing","given"] sp_tell_keeps:=by
 refine T.x40.F.ok v7 (by walk_at "n") fun _ _ _ s H vs Q E hr h=>?_
 ·obtain⟨d,g,kvs,gs,S,n,r,h0,rfl,hd,sd,hg,ha,hl,hb,k⟩:=h;refine⟨_,(z8 (pset 2 v7.nd (pcl (gx T) hr T.x39 (pa2 (ur (huR hr) (pv 0) (pix zt (pv 1) zc) (fun _ _=>rfl)) (pix zt (pv 1) zc))))
    (z9 (zo (eP (zi n9 (pv 2) rj (zA _)) zC (vE (yz (kx (pv 2) jK))))))),?_⟩
  cases ha with
  |cons h1 ha =>
   cases ha with
   |cons h2 ha =>
    cases ha;cases h1;obtain⟨q,rfl,gq⟩:=h2;rcases sd.val n with⟨e1,_⟩|⟨r',v,e1,e2,p,xs,rfl,gp,a2⟩
    ·rw[hl]at e1;cases e1
    rw[hl]at e1;cases e1;have dg:=DGet.k (k:=Sum.inr n) hd;rw[e2]at dg;refine⟨_,rfl,_,rfl,g,_,0,_,rfl,rfl,SqL.of hg,zr (j:=0) rfl,d,_,rfl,dg,_,rfl,g,_,1,_,rfl,rfl,SqL.of hg,zr (j:=1) rfl,p,q,xs,r,h0,rfl,gp,a2,gq,hb,fun H1 s1=>?_⟩;have hk:=k H1 s1;unfold uF at hk;cases hf:yv r h0 with
    |none =>
     rw[hf]at hk;exact⟨_,rfl,rfl,_,rfl,iteT hk⟩
    |some z =>
     rw[hf]at hk;have zb:0<=z/\z<60:=ef hb hf;refine⟨_,rfl,rfl,_,rfl,iteF ?_⟩;have l3:(Str.ofString "no ").length=3:=by decide+kernel
     have ln:(numS z).length<=2:=by rw[zV];exact yq zb.1 (by decide) (by omega)
     refine⟨by rw[yu,l3];decide,_,rfl,numS z,.inl ⟨z,rfl,jr zb.1 (Int.le_trans (show z<=60 by omega) (by decide)),rfl⟩,le_trans ln (by decide),?_,?_⟩
     ·rw[yu,ka];exact le_trans (m:=10) (by omega) (by decide)
     ·refine⟨?_,?_⟩
      ·rw[yu,ka];exact le_trans (m:=10) (by omega) (by decide)
      ·rw[yu];exact hk
def oX:List Str:=["heap"]
theorem nR:FnScope oX ["heap"] (z7 eX):=FS
inductive sp_sum_of(K:W.Frag)(vs:List V)(H:Hp)(Q:VK)(E:XK):Prop
 |mk (a:Addr) (ns:List Int):vs=[.ref a]->SqT K H a (ns.map V.int)->Q (.int ns.sum) H->sp_sum_of K vs H Q E
theorem ck(T:Txt P w K mg A):FnOk P w K mg base CX0 1 A.a41 A.f41 ["heap"] (sp_sum_of K):=by
 refine T.x41.F.ok nR (by walk_at "n") fun _ _ _ s H vs Q E hr h=>?_
 ·obtain⟨a,ns,rfl,hS,k⟩:=h;refine⟨_,(z9 (zo (zp (uz rfl) rfl T.w12 boot_sum (pa1 (pv 0))))),?_⟩;exact⟨_,rfl,a,ns,rfl,.inr hS,k⟩
def wI:List Str:=["numbers","choices","number"]
theorem yT:FnScope wI ["numbers"] (z7 yC):=FS
inductive sp_choices(vs:List V)(H:Hp)(Q:VK)(E:XK):Prop
 |mk (a:Addr) (ns:List Int):vs=[.ref a]->H a=some (.lst (ns.map V.int))->ns.length<=6->(∀(l:Addr)(xs:List V)(H':Hp),H' l=some (.lst xs)->All2 Tup1 H' (chG ns) xs->Same H H'->H l=none->Q (.ref l) H')->sp_choices vs H Q E
theorem pJ(T:Txt P w K mg A):FnOk P w K mg base CX0 1 A.a42 A.f42 ["numbers"] sp_choices:=by
 refine T.x42.F.ok yT (by walk_at "n") fun _ _ _ s H vs Q E hr h=>?_
 ·obtain⟨a,ns,rfl,ha,hln,k⟩:=h;refine⟨_,(z8 (pset 1 yT.nd (yd (pa1 (zI ku))))
    (z8 (yK PassesOwn.never rfl (zT (pv 0)) (pgn 2 yT.nd)
     (z9 (pset 1 yT.nd (zu kO (pv 1) (zP (ls:=["choice"]) (fr:=[("number",2)]) (csf (z7 yC) wI) rfl (zT (pv 1)) (fun _ _ _ _=>pgc 0 (by decide+kernel) rfl rfl) (fun _ _ _ _=>yy) (fun _ _ _ _=>(zu (pW K rfl) (pvc (z7 yC) 0) (zI (pa1 (pvc (z7 yC) 1))))))))))
    (z9 (zo (pv 1))))),?_⟩
  refine⟨by show 0<=sizeLine;decide,fun e he=>⟨by show 1<=sizeLine;decide,fun l0 hl0=>?_⟩⟩;have ne0:H l0=none:=(Same.new he).free hl0;refine⟨_,rfl,a,rfl,⟨_,SqL.of ((Same.new he).trans (Same.new hl0) _ _ ha)⟩,jq (xs:=ns.map V.int) (fun i σ' H'=>Same H H'/\i<=6/\ ∃l xs v,σ'=[some (.ref a),some (.ref l),v]/\H' l=some (.lst xs)/\H l=none/\All2 Tup1 H' (chG (ns.take i)) xs) ?_ ?_ ?_ ?_⟩
  ·refine⟨(Same.new he).trans (Same.new hl0),zero_le _,l0,[.ref e],_,rfl,z6,ne0,.cons ⟨e,rfl,?_⟩ .nil⟩;exact Same.new hl0 _ _ z6
  ·rintro i σ' H' _ ⟨s,_⟩;exact SqL.of (s _ _ ha)
  ·rintro i x σ' H' hx ⟨s,hi6,l,xs,v,rfl,gl,nl,h2⟩;obtain⟨z,hz,rfl⟩:=jI hx;have hi:=(List.getElem?_eq_some_iff.mp hz).1;have ez:=(List.getElem?_eq_some_iff.mp hz).2;have hlen:=bD i (ns.take i) (by rw[length_take];omega);have hmem:=qj i (ns.take i) (by rw[length_take];omega);have hlx:xs.length<=64:=by
    rw[<-h2.length,hlen];exact le_trans (Nat.pow_le_pow_right (by decide) hi6) (by decide)
   refine⟨_,rfl,_,rfl,l,rfl,⟨_,SqL.of gl⟩,yt (xs:=xs) (fun j ys σ' H2=>Same H' H2/\(∃v,σ'=[v,some (.int z)])/\All2 Tup1 H2 (((chG (ns.take i)).take j).map (· ++[z])) ys) ⟨fun _ _ h=>h,⟨_,rfl⟩,.nil⟩ ?_ ?_ ?_⟩
   ·rintro j ys σ' H2 hj ⟨s2,_,h3⟩;refine⟨SqL.of (s2 _ _ gl),?_⟩;rw[<-h3.length,length_map,length_take];refine le_trans (m:=64) (by omega) (by decide)
   ·rintro j x ys σ' H2 hx ⟨s2,⟨v,rfl⟩,h3⟩;obtain⟨hs,hhs,q,rfl,hq⟩:=h2.get hx;have hj:=(List.getElem?_eq_some_iff.mp hhs).1;have eh:=(List.getElem?_eq_some_iff.mp hhs).2;refine⟨_,rfl,_,rfl,by show 1<=sizeLine;decide,fun t ht=>?_⟩;have hl1:hs.length<=60:=by
     have:=(hmem hs (mem_of_getElem? hhs)).1;omega
    refine iB (Same.new ht _ _ (s2 _ _ hq)) z6 hl1 fun v H3 hv s3=>?_;have sn:=(Same.new (o:=.tup [V.int z]) ht).trans s3;refine⟨s2.trans sn,⟨_,rfl⟩,?_⟩;rw[take_succ_eq_append_getElem hj,map_append,eh];exact(h3.mv sn.tups).snoc hv
   ·rintro ys σ' H2 ⟨s2,⟨v,rfl⟩,h3⟩ l2 hl2;have et:(chG (ns.take i)).take xs.length=chG (ns.take i):=by rw[<-h2.length,take_length]
    rw[et]at h3;have hly:ys.length<=64:=by
     rw[<-h3.length,length_map,h2.length];exact hlx
    refine⟨l,l2,xs,ys,rfl,rfl,Same.new hl2 _ _ (s2 _ _ gl),z6,le_trans (m:=128) (by omega) (by decide),fun l3 hl3=>?_⟩;have sn:=s2.trans ((Same.new (o:=.lst ys) hl2).trans (Same.new (o:=.lst (xs++ys)) hl3));refine⟨s.trans sn,by omega,l3,xs++ys,_,rfl,z6,(s.trans (s2.trans (Same.new hl2))).free hl3,?_⟩;rw[take_succ_eq_append_getElem hi,ez,uA];exact(h2.mv sn.tups).append (h3.mv ((Same.new hl2).trans (Same.new hl3)).tups)
  ·rintro σ' H' ⟨s,_,l,xs,v,rfl,gl,nl,h2⟩;rw[length_map,take_length]at h2;exact⟨_,rfl,k l xs H' gl h2 s nl⟩
def dJ:List Str:=["rule"]
theorem mn:FnScope dJ ["rule"] (z7 pd):=FS
inductive sp_choices_of(vs:List V)(H:Hp)(Q:VK)(E:XK):Prop
 |mk (a:Addr) (rs:List V):vs=[.ref a]->H a=some (.tup rs)->rs.length<=6->(∀(l:Addr)(xs:List V)(H':Hp),H' l=some (.lst xs)->All2 Tup1 H' (chG (upto rs.length)) xs->Same H H'->H l=none->Q (.ref l) H')->sp_choices_of vs H Q E
theorem tX(T:Txt P w K mg A):FnOk P w K mg base CX0 2 A.a43 A.f43 ["rule"] sp_choices_of:=by
 refine T.x43.F.ok mn (by walk_at "n") fun _ _ _ s H vs Q E hr h=>?_
 ·obtain⟨a,rs,rfl,ha,hln,k⟩:=h;refine⟨_,(z9 (zo (pcl (pJ T) hr T.x42 (pa1 (zH (rW rfl) rfl T.w6 boot_list (pa1 (Y1 rfl T.w9 (pa1 (zp zk rfl T.w5 PySem.boot_len (pa1 (pv 0))))))))))),?_⟩;refine⟨_,rfl,a,_,rfl,.inr (SqT.of ha),_,rfl,fun r hr'=>⟨r,_,rfl,z6,by omega,by omega,fun l hl=>?_⟩⟩;rw[toNat_natCast];refine⟨l,upto rs.length,rfl,z6,by rw[ve];exact hln,fun l2 xs H' gl h2 s nl=>?_⟩;exact k l2 xs H' gl h2 (((Same.new hr').trans (Same.new hl)).trans s) (((Same.new hr').trans (Same.new hl)).free nl)
def xE:List Str:=["heaps","seen","heap","part"]
theorem kq:FnScope xE ["heaps"] (z7 uh):=FS
inductive sp_unlike(vs:List V)(H:Hp)(Q:VK)(E:XK):Prop
 |mk (a:Addr) (xs:List V) (ls:List (List Int)):vs=[.ref a]->H a=some (.lst xs)->All2 Tup1 H ls xs->((∃D:List Int,D.length<64/\ ∀x∈ls.flatten,x∈D)/\ls.flatten.length<1000)->(∀(l:Addr)(us:List Int)(H':Hp),H' l=some (.lst (us.map V.int))->us.Nodup->us.Pairwise (· >= ·)->(∀x,x∈us↔x∈ls.flatten)->us.length<64->Same H H'->H l=none->Q (.ref l) H')->sp_unlike vs H Q E
theorem gy(T:Txt P w K mg A):FnOk P w K mg base CX0 1 A.a44 A.f44 ["heaps"] sp_unlike:=by
 refine T.x44.F.ok kq (by walk_at "n") fun _ _ _ s H vs Q E hr h=>?_
 ·obtain⟨a,xs,ls,rfl,ha,h2,⟨⟨D,hD,hDm⟩,hln⟩,k⟩:=h;refine⟨_,(z8 (pset 1 kq.nd eO)
    (z8 (yK PassesOwn.never rfl (zT (pv 0)) (pgn 2 kq.nd)
     (z9 (yK PassesOwn.never rfl (wO (pv 2)) (pgn 3 kq.nd)
     (z9 (nD (huR hr) (pv 1) (pv 3) aB rfl)))))
    (z9 (zo (sx rfl rfl T.w10 (pv 1)))))),?_⟩
  refine fun d hd=>?_;have hlc:∀i j (x:List Int),ls[i]? =some x->((ls.take i).flatten++x.take j).length<1000:=fun i j x hx=>by
   have hi:=(List.getElem?_eq_some_iff.mp hx).1;have ex:=(List.getElem?_eq_some_iff.mp hx).2;have e1:ls.flatten=(ls.take i).flatten++(x++(ls.drop (i+1)).flatten):=by
    conv=>lhs;rw[<-List.take_append_drop i ls]
    rw[List.flatten_append,drop_eq_getElem_cons hi,ex,flatten_cons]
   rw[e1]at hln;simp only[length_append,length_take]at hln ⊢;omega
  have hlen:=h2.length;refine⟨_,rfl,a,rfl,⟨_,SqL.of (Same.new hd _ _ ha)⟩,jq (xs:=xs) (fun i σ' H'=>SeenU H H' d (ls.take i).flatten/\ ∃v w,σ'=[some (.ref a),some (.ref d),v,w]) ⟨⟨⟨[],[],z6,rfl,.nil,le_refl _,fun x=>Iff.rfl⟩,Same.new hd,hd⟩,_,_,rfl⟩ ?_ ?_ ?_⟩
  ·rintro i σ' H' _ ⟨S,_⟩;exact SqL.of (S.sm _ _ ha)
  ·rintro i x σ' H' hx ⟨S,v,w',rfl⟩;obtain⟨hs,hhs,q,rfl,hq⟩:=h2.get hx;refine⟨_,rfl,q,rfl,⟨_,SqT.of (S.sm _ _ hq)⟩,tu (xs:=hs.map V.int) (fun j σ' H'=>SeenU H H' d ((ls.take i).flatten++hs.take j)/\ ∃w,σ'=[some (.ref a),some (.ref d),some (.ref q),w]) ⟨by rw[List.take_zero,append_nil];exact S,_,rfl⟩ ?_ ?_ ?_⟩
   ·rintro j σ' H2 _ ⟨S2,_⟩;exact SqT.of (S2.sm _ _ hq)
   ·rintro j x σ' H2 hx2 ⟨S2,w2,rfl⟩;obtain⟨z,hz,rfl⟩:=jI hx2;have hj:=(List.getElem?_eq_some_iff.mp hz).1;have ez:=(List.getElem?_eq_some_iff.mp hz).2;obtain⟨H3,hp,S3⟩:=S2.put (z:=z) (by have:=hlc i j hs hhs;omega);refine⟨_,rfl,_,rfl,d,H3,rfl,hp,?_,_,rfl⟩;rw[take_succ_eq_append_getElem hj,ez,<-append_assoc];exact S3
   ·rintro σ' H2 ⟨S2,w2,rfl⟩;rw[length_map,take_length]at S2;have hi:=(List.getElem?_eq_some_iff.mp hhs).1;have ez:=(List.getElem?_eq_some_iff.mp hhs).2;refine⟨?_,_,_,rfl⟩;rw[take_succ_eq_append_getElem hi,List.flatten_append,ez];simpa using S2
  ·rintro σ' H2 ⟨S2,v,w2,rfl⟩;rw[<-hlen,take_length]at S2;obtain⟨⟨kvs,ns,hd2,hk,hnd,hn,hm⟩,sm,nw⟩:=S2;have hlD:ns.length<=D.length:=dW hnd fun x hx=>hDm x ((hm x).mp hx);refine⟨_,rfl,d,kvs,ns,rfl,hd2,hk,by omega,fun us l nd hperm hord hl=>?_⟩;exact k l us _ z6 (hperm.nodup_iff.mpr nd) hord (fun x=>by rw[hperm.mem_iff,hm]) (by rw[hperm.length_eq];omega) (Same.trans sm (Same.new hl)) (Same.free sm hl)
def eG:List Str:=["heaps","parts","part"]
theorem xq:FnScope eG ["heaps"] (z7 u6):=FS
inductive sp_joined(vs:List V)(H:Hp)(Q:VK)(E:XK):Prop
 |mk (a:Addr) (xs:List V) (ls:List (List Int)):vs=[.ref a]->H a=some (.lst xs)->All2 Tup1 H ls xs->((∃D:List Int,D.length<64/\ ∀x∈ls.flatten,x∈D)/\ls.flatten.length<1000)->ls.length<=60->(∀(p:Addr)(ms:List Int)(H':Hp),H' p=some (.tup (ms.map V.int))->wc ls ms->ms.length<=100000->Same H H'->H p=none->Q (.ref p) H')->sp_joined vs H Q E
theorem lZ(T:Txt P w K mg A):FnOk P w K mg base CX0 2 A.a45 A.f45 ["heaps"] sp_joined:=by
 refine T.x45.F.ok xq (by walk_at "n") fun _ _ _ s H vs Q E hr h=>?_
 ·obtain⟨a,xs,ls,rfl,ha,h2,hln,hls,k⟩:=h;refine⟨_,(z8 (pset 1 xq.nd (yd ku))
    (z8 (yK PassesOwn.never rfl (zT (pcl (gy T) hr T.x44 (pa1 (pv 0)))) (pgn 2 xq.nd)
     (z9 (zM (yU PySem.F.plainAttrs_list PySem.F.slot_list_extend PySem.F.type_list_extend qM (pv 1) (pa1 (zu Zq (yd (pa1 (pv 2 (hv:=Or.inr (Or.inl rfl))))) (zp (rY rfl) rfl T.w7 boot_max (pa1 (zP (ls:=["heap"]) (fr:=[("part",2)]) (csf (z7 u6) eG) rfl (zT (pv 0)) (fun _ _ _ _=>pgc 0 (by decide+kernel) rfl rfl) (fun _ _ _ _=>yy) (fun _ _ _ _=>(yc (tY T) (hr.mono (by decide)) (glc (z7 u6)) T.x36.g T.x36.F.kp T.x36.b .nil wu (pa2 (pvc (z7 u6) 0) (pvc (z7 u6) 1)))))))))))))
    (z9 (zo (zH zU rfl T.w13 boot_tuple (pa1 (pv 1))))))),?_⟩
  refine⟨by show 0<=sizeLine;decide,fun pa hpa=>?_⟩;have h2a:=h2.mv (Same.new (o:=.lst []) hpa).tups;refine⟨_,rfl,a,xs,ls,rfl,Same.new hpa _ _ ha,h2a,hln,fun l us H1 hl nd pw hm hul s1 nl=>?_⟩;have s01:Same H H1:=(Same.new hpa).trans s1;have npl:pa≠l:=zj (z6 (H:=H) (a:=pa) (o:=.lst [])) nl;refine⟨l,rfl,⟨_,SqL.of hl⟩,jq (xs:=us.map V.int) (fun i σ' H'=>(∀b o,H1 b=some o->b≠pa->H' b=some o)/\H' pa=some (.lst ((blow (maxC ls) (us.take i)).map V.int))/\(blow (maxC ls) (us.take i)).length<=1000*i/\i<=64/\ ∃v,σ'=[some (.ref a),some (.ref pa),v]) ⟨fun _ _ h _=>h,s1 _ _ z6,le_refl _,zero_le _,_,rfl⟩ ?_ ?_ ?_⟩
  ·rintro i σ' H' _ ⟨kp,_⟩;exact SqL.of (kp _ _ hl npl.symm)
  ·rintro i x σ' H' hx ⟨kp,gp,hle,hi64,v,rfl⟩;obtain⟨z,hz,rfl⟩:=jI hx;have hi:=(List.getElem?_eq_some_iff.mp hz).1;have ez:=(List.getElem?_eq_some_iff.mp hz).2;have ha':H' a=some (.lst xs):=kp _ _ (s01 _ _ ha) (zj ha hpa);have t1:Tups H H':=fun b ys e=>kp _ _ (s01 _ _ e) (zj e hpa);have h2':=h2.mv t1;have zm:z∈ls.flatten:=(hm z).mp (mem_of_getElem? hz);refine⟨_,rfl,.inl ⟨rfl,_,SqL.of gp⟩,_,rfl,by show 1<=sizeLine;decide,fun l1 hl1=>?_⟩;have h2b:=h2'.mv (Same.new (o:=.lst [V.int z]) hl1).tups;have hab:=(Same.new (o:=.lst [V.int z]) hl1) _ _ ha';have gpb:=(Same.new (o:=.lst [V.int z]) hl1) _ _ gp;generalize hHb:upd H' l1 (.lst [V.int z])=Hb at h2b hab gpb;have gl1:Hb l1=some (.lst [V.int z]):=by rw[<-hHb];exact z6
   have sb:Same H' Hb:=by rw[<-hHb];exact Same.new hl1
   refine⟨_,rfl,a,rfl,⟨_,SqL.of hab⟩,yt (xs:=xs) (fun j ys σ' H'=>H'=Hb/\(∃v,σ'=[v,some (.int z)])/\ys=((ls.take j).map fun h=>((h.count z:Nat):Int)).map V.int) ⟨rfl,⟨_,rfl⟩,rfl⟩ ?_ ?_ ?_⟩
   ·rintro j ys σ' H'' hj ⟨rfl,_,rfl⟩;refine⟨SqL.of hab,?_⟩;rw[length_map,length_map,length_take];exact yW (by omega)
   ·rintro j x ys σ' H'' hx ⟨rfl,⟨v,rfl⟩,rfl⟩;obtain⟨hs,hhs,q,rfl,hq⟩:=h2b.get hx;have hj:=(List.getElem?_eq_some_iff.mp hhs).1;have eh:=(List.getElem?_eq_some_iff.mp hhs).2;refine⟨_,rfl,_,rfl,q,hs,z,rfl,hq,rfl,⟨_,rfl⟩,?_⟩;rw[take_succ_eq_append_getElem hj,map_append,map_append,eh];rfl
   ·rintro ys σ' Hb ⟨rfl,_,rfl⟩ l2 hl2;have elen:ls.take xs.length=ls:=by rw[<-h2.length,take_length]
    rw[elen];have hne:(ls.map fun h=>((h.count z:Nat):Int))≠[]:=fun e=>by
     have:ls=[]:=List.map_eq_nil_iff.mp e;rw[this]at zm;cases zm
    refine⟨l2,_,rfl,SqL.of z6,hne,fun m hmx=>?_⟩;have em:=tL hmx;have hM:maxC ls z<=1000:=by
     have h1:=dG ls z;have h2:=List.count_le_length (a:=z) (l:=ls.flatten);omega
    refine⟨l1,m,[V.int z],rfl,rfl,Same.new hl2 _ _ gl1,by omega,by omega,?_,fun l3 hl3=>?_⟩
    ·show 1*m.toNat<=sizeLine;refine le_trans (m:=1000) (by omega) (by decide)
    have er:(replicate m.toNat [V.int z]).flatten=(replicate (maxC ls z) z).map V.int:=by
     have:m.toNat=maxC ls z:=by omega
     rw[this];simp
    rw[er];have gp3:=(Same.new (o:=.lst ((replicate (maxC ls z) z).map V.int)) hl3) _ _ ((Same.new (o:=.lst ((ls.map fun h=>((h.count z:Nat):Int)).map V.int)) hl2) _ _ gpb);have sn:Same H' (upd (upd Hb l2 (.lst ((ls.map fun h=>((h.count z:Nat):Int)).map V.int))) l3 (.lst ((replicate (maxC ls z) z).map V.int))):=sb.trans ((Same.new hl2).trans (Same.new hl3));refine⟨pa,l3,_,_,rfl,rfl,gp3,z6,?_,?_⟩
    ·rw[length_map,length_map,List.length_replicate];refine le_trans (m:=1000*64+1000) ?_ (by decide);have:1000*i<=1000*64:=Nat.mul_le_mul_left _ hi64;omega
    ·have eb:blow (maxC ls) (us.take (i+1))=blow (maxC ls) (us.take i)++replicate (maxC ls z) z:=by
      rw[take_succ_eq_append_getElem hi,bz,ez];simp[blow]
     refine⟨fun b o e ne=>?_,?_,?_,by omega,_,rfl⟩
     ·rw[zh ne];exact sn _ _ (kp _ _ e ne)
     ·rw[z6,eb,map_append]
     ·rw[eb,length_append,List.length_replicate];omega
  ·rintro σ' H' ⟨kp,gp,hle,_,v,rfl⟩;rw[length_map,take_length]at gp hle;refine⟨_,rfl,pa,_,rfl,.inl ⟨SqL.of gp,fun p hp=>?_⟩⟩;have sH:Same H H':=fun b o e=>kp _ _ (s01 _ _ e) (zj e hpa);refine k p _ _ z6 (mX nd pw hm) (by omega) (sH.trans (Same.new hp)) (sH.free hp)
def qS:List Str:=["rule","choice"]
theorem cT:FnScope qS ["rule","choice"] (z7 jg):=FS
inductive sp_joined_of(vs:List V)(H:Hp)(Q:VK)(E:XK):Prop
 |mk (p c:Addr) (rs:List V) (rule:List (List Int)) (ch:List Int):vs=[.ref p,.ref c]->H p=some (.tup rs)->All2 Tup1 H rule rs->H c=some (.tup (ch.map V.int))->(((∃D:List Int,D.length<64/\ ∀x∈(zQ rule ch).flatten,x∈D)/\(zQ rule ch).flatten.length<1000)/\ch.length<=60)->(∀j∈ch,0<=j/\j<rule.length)->(∀(q:Addr)(ms:List Int)(H':Hp),H' q=some (.tup (ms.map V.int))->wc (zQ rule ch) ms->ms.length<=100000->Same H H'->H q=none->Q (.ref q) H')->sp_joined_of vs H Q E
theorem cb(T:Txt P w K mg A):FnOk P w K mg base CX0 3 A.a46 A.f46 ["rule","choice"] sp_joined_of:=by
 refine T.x46.F.ok cT (by walk_at "n") fun _ _ _ s H vs Q E hr h=>?_
 ·obtain⟨p,c,rs,rule,ch,rfl,hp,h2,hc,hln,hch,k⟩:=h;refine⟨_,(z9 (zo (pcl (lZ T) hr T.x45 (pa1 (zP (ls:=["number"]) (fr:=[("rule",0)]) (csf (z7 jg) qS) rfl (wO (pv 1)) (fun _ _ _ _=>pgc 0 (by decide+kernel) rfl rfl) (fun _ _ _ _=>yy) (fun _ _ _ _=>(pix (lm K rfl) (pvc (z7 jg) 1) (pvc (z7 jg) 0)))))))),?_⟩;refine⟨_,rfl,c,rfl,⟨_,SqT.of hc⟩,u0 (xs:=ch.map V.int) (fun i ys σ' H'=>H'=H/\(∃v,σ'=[v,some (.ref p)])/\All2 Tup1 H (zQ rule (ch.take i)) ys) ⟨rfl,⟨_,rfl⟩,.nil⟩ ?_ ?_ ?_⟩
  ·rintro i ys σ' H' hi ⟨rfl,_,h3⟩;refine⟨SqT.of hc,?_⟩;rw[<-h3.length];unfold zQ;rw[length_map,length_take];exact yW (by omega)
  ·rintro i x ys σ' H' hx ⟨rfl,⟨v,rfl⟩,h3⟩;obtain⟨z,hz,rfl⟩:=jI hx;have hi:=(List.getElem?_eq_some_iff.mp hz).1;have ez:=(List.getElem?_eq_some_iff.mp hz).2;have hb:=hch z (mem_of_getElem? hz);obtain⟨w',hw,r⟩:=nu h2 hb.1 hb.2;refine⟨_,rfl,_,rfl,p,_,z,_,rfl,rfl,SqT.of hp,hw,rfl,⟨_,rfl⟩,?_⟩;rw[take_succ_eq_append_getElem hi,ez];unfold zQ;rw[map_append];exact h3.snoc r
  ·rintro ys σ' H' ⟨rfl,_,h3⟩ l hl;rw[length_map,take_length]at h3;have hll:(zQ rule ch).length<=60:=by unfold zQ;rw[length_map];exact hln.2
   exact⟨l,ys,_,rfl,z6,h3.mv (Same.new hl).tups,hln.1,hll,fun q ms H2 gq hj hl4 s nq=>k q ms H2 gq hj hl4 ((Same.new hl).trans s) ((Same.new hl).free nq)⟩
def qX:List Str:=["n","most"]
theorem pO:FnScope qX ["n","most"] (z7 wU):=FS
inductive sp_refuse(A:Adr)(vs:List V)(H:Hp)(Q:VK)(E:XK):Prop
 |mk (n m:Int):vs=[.int n,.int m]->(0<=m/\m<=400)->(((0<=n/\n<=m/\Q .non H)\/False))->sp_refuse A vs H Q E
theorem wn(T:Txt P w K mg A):FnOk P w K mg base CX0 1 A.a47 A.f47 ["n","most"] (sp_refuse A):=by
 refine T.x47.F.ok pO (by walk_at "n") fun _ _ _ s H vs Q E hr h=>?_
 ·obtain⟨n,m,rfl,hm,h⟩:=h;refine⟨_,(z9 (zG (PW.pt (cE (zi hV (pv 0) zc (zA _)) (gP (zi ay (pv 0) (pv 1) (zA _)))))
     (z9 qc) zq)),?_⟩
  rcases h with⟨h1,h2,q⟩|z
  ·refine⟨_,rfl,_,_,rfl,rfl,_,rfl,?_⟩;refine ite2 (fun hc=>absurd (of_decide_eq_true hc) (by omega)) (fun hc=>?_);refine⟨_,rfl,_,rfl,_,_,rfl,rfl,_,rfl,?_⟩;exact ite2 (fun hc2=>absurd (of_decide_eq_true hc2) (by omega)) (fun hc2=>q)
  ·exact z.elim
def lP:List Str:=["pair"]
theorem ij:FnScope lP ["pair"] (z7 cP):=FS
inductive sp_sign_of(vs:List V)(H:Hp)(Q:VK)(E:XK):Prop
 |mk (pc:List Int×List Int) (v:V):vs=[v]->KQ pc v H->Q (.int (sgnG pc.2)) H->sp_sign_of vs H Q E
theorem fY(T:Txt P w K mg A):FnOk P w K mg base CX0 1 A.a48 A.f48 ["pair"] sp_sign_of:=by
 refine T.x48.F.ok ij (by walk_at "n") fun _ _ _ s H vs Q E hr h=>?_
 ·obtain⟨pc,v,rfl,hv,k⟩:=h;refine⟨_,(z9 (zo (eP (zi yM (zu p9 (zp zk rfl T.w5 PySem.boot_len (pa1 (pix uE (pv 0) zc))) zc) zc (zA _)) zc (cA pD zc)))),?_⟩;obtain⟨q,a,b,rfl,g1,g2,g3⟩:=hv;refine⟨_,rfl,q,_,_,_,rfl,rfl,SqT.of g1,zr (j:=1) rfl,b,_,rfl,.inr (SqT.of g3),_,_,rfl,rfl,(show(0:Int)<2 by decide),rfl,_,rfl,?_⟩;rw[length_map];unfold sgnG at k;refine ite2 (fun hc=>?_) (fun hc=>?_)
  ·have e:((pc.2.length:Nat):Int)%2=0:=by simpa using hc
   rw[if_pos (by omega)]at k;exact k
  ·have e:¬((pc.2.length:Nat):Int)%2=0:=fun z=>hc (by simpa using z);rw[if_neg (by omega)]at k;exact⟨_,rfl,k⟩
def fP:List Str:=["ways","n","total","sign","m"]
theorem yi:FnScope fP ["ways"] (z7 rF):=FS
inductive sp_next_way(vs:List V)(H:Hp)(Q:VK)(E:XK):Prop
 |mk (l:Addr) (n:Nat):vs=[.ref l]->H l=some (.lst ((wayR n).reverse.map V.int))->n<=400->Q (.int (dS (wayR n) (n+1:Nat) (n+3) 1 1 0)) H->sp_next_way vs H Q E
theorem ax(T:Txt P w K mg A):FnOk P w K mg base CX0 1 A.a49 A.f49 ["ways"] sp_next_way:=by
 refine T.x49.F.ok yi (by walk_at "n") fun _ _ _ s H vs Q E hr h=>?_
 ·obtain⟨l,n,rfl,hl,hn,k⟩:=h;refine⟨_,(z8 (pset 1 yi.nd (zp zk rfl T.w5 PySem.boot_len (pa1 (pv 0))))
    (z8 (pset 2 yi.nd zc)
    (z8 (pset 3 yi.nd zc)
    (z8 (pset 4 yi.nd zc)
    (z8 (ma PassesOwn.never (zi hU (zu uP (zu yN (pv 4) (zu wN (zu yN zc (pv 4)) zc)) zc) (pv 1) (zA _))
     (z8 (rq (i:=2) yi.nd rfl (by first|exact Or.inl rfl|exact Or.inr rfl) (zu yN (pv 3) (pix zt (pv 0) (zu wN (pv 1) (zu uP (zu yN (pv 4) (zu wN (zu yN zc (pv 4)) zc)) zc)))) qy)
    (z8 (zG (zi hU (zu uP (zu yN (pv 4) (zu kr (zu yN zc (pv 4)) zc)) zc) (pv 1) (zA _))
     (z9 (rq (i:=2) yi.nd rfl (by first|exact Or.inl rfl|exact Or.inr rfl) (zu yN (pv 3) (pix zt (pv 0) (zu wN (pv 1) (zu uP (zu yN (pv 4) (zu kr (zu yN zc (pv 4)) zc)) zc)))) qy)) zq)
    (z8 (pset 3 yi.nd (cA pD (pv 3)))
    (z9 (rq (i:=4) yi.nd rfl (by first|exact Or.inl rfl|exact Or.inr rfl) zc qy))))))
    (z9 (zo (pv 2)))))))),?_⟩
  have hlen:((wayR n).reverse.map V.int).length=n+1:=by rw[length_map,List.length_reverse,u9]
  refine⟨_,rfl,l,_,rfl,.inl (SqL.of hl),?_⟩;rw[hlen];refine⟨fun f σ' H'=>H'=H/\ ∃(m s t:Int),σ'=[some (.ref l),some (.int ((n+1:Nat):Int)),some (.int t),some (.int s),some (.int m)]/\1<=m/\m<=n+2/\(n:Int)+3<=m+f/\(s=1\/s= -1)/\dS (wayR n) (n+1:Nat) f m s t=dS (wayR n) (n+1:Nat) (n+3) 1 1 0,⟨n+3,rfl,1,1,0,rfl,by decide,by omega,by omega,.inl rfl,rfl⟩,?_⟩;rintro f σ' H' ⟨eH,m,s,t,rfl,m1,m2,hf,hs,ht⟩;subst eH;have hw:=u9 n;refine⟨_,rfl,_,rfl,_,_,rfl,rfl,.inl (by decide),_,_,rfl,rfl,_,_,rfl,rfl,.inl ⟨by omega,by omega⟩,_,_,rfl,rfl,⟨by decide,by decide⟩,_,rfl,_,_,rfl,rfl,_,rfl,?_⟩;refine ite2 (fun hA=>?_) (fun hA=>?_)
  ·have hA':gD m<=((n+1:Nat):Int):=of_decide_eq_true hA;have gA:=sy m1;have gB:=sF m1;have hsb:-(2^64)<s/\s<2^64:=by rcases hs with rfl|rfl <;>exact⟨by decide,by decide⟩
   obtain⟨g,rfl⟩:∃g,f=g+1:=⟨f-1,by omega⟩;rw[dS,if_pos hA']at ht;refine⟨fun σ3 H3=>H3=H'/\ σ3=[some (.ref l),some (.int ((n+1:Nat):Int)),some (.int (if m9 m<=((n+1:Nat):Int)then t+s*gh (wayR n) (gD m-1).toNat+s*gh (wayR n) (m9 m-1).toNat else t+s*gh (wayR n) (gD m-1).toNat)),some (.int (-s)),some (.int (m+1))],fun σ3 H3 ⟨e1,e3⟩=>⟨g,by simp,e1,m+1,-s,_,e3,by omega,by omega,by omega,(by rcases hs with rfl|rfl;exact .inr rfl;exact .inl rfl),ht⟩,?_⟩;refine⟨_,rfl,_,rfl,_,rfl,_,rfl,_,rfl,_,rfl,_,_,rfl,rfl,.inl (by decide),_,_,rfl,rfl,_,_,rfl,rfl,.inl ⟨by omega,by omega⟩,_,_,rfl,rfl,⟨by decide,by decide⟩,_,_,rfl,rfl,l,_,_,_,rfl,rfl,SqL.of hl,oh (q:=gD m) hw (by omega) hA',_,_,rfl,rfl,.inl hsb,_,_,rfl,rfl,?_⟩;refine⟨_,rfl,_,rfl,_,_,rfl,rfl,.inl (by decide),_,_,rfl,rfl,_,_,rfl,rfl,.inl ⟨by omega,by omega⟩,_,_,rfl,rfl,⟨by decide,by decide⟩,_,rfl,_,_,rfl,rfl,_,rfl,?_⟩;refine ite2 (fun hB=>?_) (fun hB=>?_)
   ·have hB':m9 m<=((n+1:Nat):Int):=of_decide_eq_true hB;refine⟨_,rfl,_,rfl,_,rfl,_,rfl,_,rfl,_,rfl,_,_,rfl,rfl,.inl (by decide),_,_,rfl,rfl,_,_,rfl,rfl,.inl ⟨by omega,by omega⟩,_,_,rfl,rfl,⟨by decide,by decide⟩,_,_,rfl,rfl,l,_,_,_,rfl,rfl,SqL.of hl,oh (q:=m9 m) hw (by omega) hB',_,_,rfl,rfl,.inl hsb,_,_,rfl,rfl,?_⟩;rw[if_pos hB'];exact⟨_,rfl,_,rfl,_,rfl,_,_,rfl,rfl,rfl,rfl⟩
   ·have hB':¬m9 m<=((n+1:Nat):Int):=fun z=>hB (decide_eq_true z);rw[if_neg hB'];exact⟨_,rfl,_,rfl,_,rfl,_,_,rfl,rfl,rfl,rfl⟩
  ·have hA':¬gD m<=((n+1:Nat):Int):=fun z=>hA (decide_eq_true z);rw[fQ _ _ _ _ _ _ hA']at ht;refine⟨_,rfl,?_⟩;rw[ht];exact k
def lQ:List Str:=["n","ways"]
theorem rJ:FnScope lQ ["n"] (z7 cQ):=FS
inductive sp_ways_to(vs:List V)(H:Hp)(Q:VK)(E:XK):Prop
 |mk (n:Nat):vs=[.int n]->n<=400->(∀(l:Addr)(H':Hp),H' l=some (.lst ((wayR n).reverse.map V.int))->Same H H'->H l=none->Q (.ref l) H')->sp_ways_to vs H Q E
theorem fZ(T:Txt P w K mg A):FnOk P w K mg base CX0 2 A.a50 A.f50 ["n"] sp_ways_to:=by
 refine T.x50.F.ok rJ (by walk_at "n") fun _ _ _ s H vs Q E hr h=>?_
 ·obtain⟨n,rfl,hn,k⟩:=h;refine⟨_,(z8 (pset 1 rJ.nd (yd (pa1 zc)))
    (z8 (ma PassesOwn.never (zi hU (zp zk rfl T.w5 PySem.boot_len (pa1 (pv 1))) (pv 0) (zA _))
     (z9 (zM (yU PySem.F.plainAttrs_list PySem.F.slot_list_append PySem.F.type_list_append yw (pv 1) (pa1 (pcl (ax T) hr T.x49 (pa1 (pv 1))))))))
    (z9 (zo (pv 1))))),?_⟩
  refine⟨by show 1<=sizeLine;decide,fun l hl=>?_⟩;refine⟨fun f σ' H'=>∃ i:Nat,i<=n/\f=n-i/\ σ'=[some (.int n),some (.ref l)]/\H' l=some (.lst ((wayR i).reverse.map V.int))/\Same H H',⟨n,0,zero_le _,rfl,rfl,z6,Same.new hl⟩,?_⟩;rintro f σ' H' ⟨i,hi,rfl,rfl,g,s⟩;have hlen:((wayR i).reverse.map V.int).length=i+1:=by rw[length_map,List.length_reverse,u9]
  refine⟨_,rfl,l,_,rfl,.inl (SqL.of g),_,rfl,_,_,rfl,rfl,_,rfl,?_⟩;rw[hlen];refine ite2 (fun hc=>?_) (fun hc=>?_)
  ·have hc':((i+1:Nat):Int)<=(n:Int):=of_decide_eq_true hc;refine⟨fun σ3 H3=>σ3=[some (.int n),some (.ref l)]/\H3 l=some (.lst ((wayR (i+1)).reverse.map V.int))/\Same H H3,fun σ3 H3 ⟨e1,e2,e3⟩=>⟨n-(i+1),by omega,i+1,by omega,rfl,e1,e2,e3⟩,?_⟩;refine⟨_,rfl,.inl ⟨rfl,_,SqL.of g⟩,_,rfl,l,i,rfl,g,by omega,?_⟩;refine⟨l,_,_,rfl,rfl,g,?_,rfl,?_,fun b o e=>?_⟩
   ·rw[hlen];exact lt_of_lt_of_le (m:=402) (by omega) (by decide)
   ·rw[z6,wayR,List.reverse_cons,map_append];rfl
   ·rw[zh (zj e hl)];exact s _ _ e
  ·have hc':¬((i+1:Nat):Int)<=(n:Int):=fun z=>hc (decide_eq_true z);have e:i=n:=by omega
   subst e;exact⟨_,rfl,k l H' g s hl⟩
def fN:List Str:=["rule","n","ways","total","choice","heap"]
theorem kG:FnScope fN ["rule","n"] (z7 rD):=FS
inductive sp_count_of(A:Adr)(vs:List V)(H:Hp)(Q:VK)(E:XK):Prop
 |mk (p:Addr) (rs:List V) (rule:List (List Int)) (n:Int):vs=[.ref p,.int n]->H p=some (.tup rs)->All2 Tup1 H rule rs->rule.length<=6->bj rule->(((∃m:Nat,n=m/\m<=400/\ ∀H',Same H H'->Q (.int (zY rule (wayF m) m (chG (upto rule.length)))) H')\/False))->sp_count_of A vs H Q E
theorem aw(T:Txt P w K mg A):FnOk P w K mg base CX0 4 A.a51 A.f51 ["rule","n"] (sp_count_of A):=by
 refine T.x51.F.ok kG (by walk_at "n") fun _ _ _ s H vs Q E hr h=>?_
 ·obtain⟨p,rs,rule,n,rfl,hp,h2,hln,hJ,h⟩:=h;refine⟨_,(z8 (zM (pcl (wn T) hr T.x47 (pa2 (pv 1) (yx (v:=.int 400) rfl T.w18.choose_spec ⟨_,rfl⟩))))
    (z8 (pset 2 kG.nd (pcl (fZ T) hr T.x50 (pa1 (pv 1))))
    (z8 (pset 3 kG.nd zc)
    (z8 (yK PassesOwn.never rfl (zT (pcl (tX T) hr T.x43 (pa1 (pv 0)))) (pgn 4 kG.nd)
     (z8 (pset 5 kG.nd (pcl (cb T) hr T.x46 (pa2 (pv 0) (pv 4))))
    (z9 (zG (zi hU (pcl (ck T) hr T.x41 (pa1 (pv 5))) (pv 1) (zA _))
     (z9 (rq (i:=3) kG.nd rfl (by first|exact Or.inl rfl|exact Or.inr rfl) (zu yN (pcl (fY T) hr T.x48 (pa1 (zI (pa2 (pv 5) (pv 4))))) (pix zt (pv 2) (zu wN (pv 1) (pcl (ck T) hr T.x41 (pa1 (pv 5)))))) qy)) zq))))
    (z9 (zo (pv 3))))))),?_⟩
  rcases h with⟨m,rfl,hm,k⟩|z
  ·refine⟨_,rfl,(m:Int),400,rfl,⟨by decide,by decide⟩,.inl ⟨by omega,by omega,?_⟩⟩;refine⟨_,rfl,m,rfl,hm,fun w H1 gw s1 nw=>?_⟩;have hrl:=h2.length;refine⟨_,rfl,p,rs,rfl,s1 _ _ hp,by omega,fun cl cs H2 gc h4 s2 ncl=>?_⟩;rw[<-hrl]at h4;have hcl:=h4.length;have s12:=s1.trans s2;refine⟨cl,rfl,⟨_,SqL.of gc⟩,jq (xs:=cs) (fun i σ' H'=>Same H2 H'/\i<=cs.length/\ ∃v4 v5,σ'=[some (.ref p),some (.int m),some (.ref w),some (.int (zY rule (wayF m) m ((chG (upto rule.length)).take i))),v4,v5]) ⟨fun _ _ z=>z,zero_le _,_,_,rfl⟩ ?_ ?_ ?_⟩
   ·rintro i σ' H' _ ⟨s',_⟩;exact SqL.of (s' _ _ gc)
   ·rintro i x σ' H' hx ⟨s',hi',v4,v5,rfl⟩;obtain⟨ch,hch,c,rfl,gcc⟩:=h4.get hx;have hi:=(List.getElem?_eq_some_iff.mp hx).1;have s02:=s12.trans s';obtain⟨cm1,cm2⟩:=qj rule.length (upto rule.length) (ve _) ch (mem_of_getElem? hch);have chb:∀j∈ch,0<=j/\j<rule.length:=fun j hj=>by
     have:=fj (cm2 j hj);omega
    have etake:(chG (upto rule.length)).take (i+1)=(chG (upto rule.length)).take i++[ch]:=by rw[take_succ,hch];rfl
    refine⟨_,rfl,_,rfl,p,c,rs,rule,ch,rfl,s02 _ _ hp,h2.mv s02.tups,s' _ _ gcc,⟨hJ.pick (by omega),by omega⟩,chb,fun q ms H4 gq hj hl4 s4 nq=>?_⟩;have ej:=eD hj;have nn:=vW hJ ch;rw[ej]at nn;refine⟨_,rfl,q,ms,rfl,SqT.of gq,_,rfl,_,_,rfl,rfl,_,rfl,ite2 (fun hc=>?_) (fun hc=>?_)⟩
    ·have hc':ms.sum<=(m:Int):=of_decide_eq_true hc;refine⟨_,rfl,_,rfl,_,rfl,by show 2<=sizeLine;decide,fun T1 hT1=>?_⟩;have s5:=Same.new (o:=.tup [V.ref q,V.ref c]) hT1;refine⟨(ms,ch),_,rfl,⟨T1,q,c,rfl,z6,s5 _ _ gq,s5 _ _ (s4 _ _ (s' _ _ gcc))⟩,?_⟩;have gw5:=s5 _ _ (s4 _ _ (s' _ _ (s2 _ _ gw)));have hw:=u9 m;have hsub:(m:Int)-ms.sum=((m-ms.sum.toNat:Nat):Int):=by omega
     have hlt:m-ms.sum.toNat<(wayR m).reverse.length:=by rw[List.length_reverse];omega
     have hsg:-(2^64)<sgnG ch/\sgnG ch<2^64:=by unfold sgnG;split <;>exact⟨by decide,by decide⟩
     refine⟨_,rfl,_,rfl,_,rfl,q,ms,rfl,SqT.of (s5 _ _ gq),_,_,rfl,rfl,w,_,_,V.int (wayF m (m-ms.sum.toNat)),rfl,rfl,SqL.of gw5,?_,_,_,rfl,rfl,.inl hsg,_,_,rfl,rfl,?_⟩
     ·rw[hsub];refine zr ?_;unfold wayF;rw[getElem?_map,getD_eq_getElem?_getD,getElem?_eq_getElem hlt];rfl
     ·refine⟨s'.trans (s4.trans s5),by omega,some (.ref c),some (.ref q),?_⟩;rw[etake,jx,ej,if_pos hc'];rfl
    ·have hc':¬ms.sum<=(m:Int):=fun z=>hc (decide_eq_true z);refine⟨s'.trans s4,by omega,some (.ref c),some (.ref q),?_⟩;rw[etake,jx,ej,if_neg hc',Int.mul_zero,Int.add_zero];rfl
   ·rintro σ' H' ⟨s',_,v4,v5,rfl⟩;rw[<-hcl,take_length];exact⟨_,rfl,k H' (s12.trans s')⟩
  ·exact z.elim
def dO:List Str:=["standing","given"]
theorem mw:FnScope dO ["standing","given"] (z7 ph):=FS
inductive sp_tell_count(vs:List V)(H:Hp)(Q:VK)(E:XK):Prop
 |mk (d g:Addr) (kvs:List (Key×V)) (gs:List V) (S:Std) (n:Str) (r:List (List Int)) (m:Nat):vs=[.ref d,.ref g]->H d=some (.dK kvs)->StdV H S kvs->H g=some (.lst gs)->All2 ArgV H [.name n,.num (m:Int)] gs->y9 S n=some r->bi r m->(∀(H':Hp),Same H H'->Q (.str (numS (wg r m))) H')->sp_tell_count vs H Q E
theorem m4(T:Txt P w K mg A):FnOk P w K mg base CX0 6 A.a52 A.f52 ["standing","given"] sp_tell_count:=by
 refine T.x52.F.ok mw (by walk_at "n") fun _ _ _ s H vs Q E hr h=>?_
 ·obtain⟨d,g,kvs,gs,S,n,r,m,rfl,hd,sd,hg,ha,hl,hb,k⟩:=h;refine⟨_,(z9 (zo (zH kK rfl T.w11 boot_str (pa1 (pcl (aw T) hr T.x51 (pa2 (ur (huR hr) (pv 0) (pix zt (pv 1) zc) (fun _ _=>rfl)) (pix zt (pv 1) zc))))))),?_⟩;cases ha with
  |cons h1 ha =>
   cases ha with
   |cons h2 ha =>
    cases ha;cases h1;cases h2;rcases sd.val n with⟨e1,_⟩|⟨r',v,e1,e2,p,xs,rfl,gp,a2⟩
    ·rw[hl]at e1;cases e1
    rw[hl]at e1;cases e1;have dg:=DGet.k (k:=Sum.inr n) hd;rw[e2]at dg;obtain⟨b1,b2,b3,b4⟩:=hb;refine⟨_,rfl,_,rfl,g,_,0,_,rfl,rfl,SqL.of hg,zr (j:=0) rfl,d,_,rfl,dg,_,rfl,g,_,1,_,rfl,rfl,SqL.of hg,zr (j:=1) rfl,p,xs,r,_,rfl,gp,a2,b1,b2,.inl ⟨m,rfl,b3,fun H1 s1=>?_⟩⟩;exact⟨_,rfl,b4,k H1 s1⟩
def ZR:List Str:=["rule","heap"]
theorem Z3:FnScope ZR ["rule","heap"] (z7 nN):=FS
inductive sp_keeps(vs:List V)(H:Hp)(Q:VK)(E:XK):Prop
 |mk (p q:Addr) (rs:List V) (rule:List (List Int)) (hs:List Int):vs=[.ref p,.ref q]->H p=some (.tup rs)->All2 Tup1 H rule rs->H q=some (.tup (hs.map V.int))->rule.length<=60->(∀(H':Hp),Same H H'->Q (.bl (yv rule hs).isNone) H')->sp_keeps vs H Q E
theorem sk(T:Txt P w K mg A):FnOk P w K mg base CX0 5 A.a53 A.f53 ["rule","heap"] sp_keeps:=by
 refine T.x53.F.ok Z3 (by walk_at "n") fun _ _ _ s H vs Q E hr h=>?_
 ·obtain⟨p,q,rs,rule,hs,rfl,hp,h2,hq,hln,k⟩:=h;refine⟨_,(z9 (zo (pcm n9 (pcl (gx T) hr T.x39 (pa2 (pv 0) (pv 1))) rj))),?_⟩;refine⟨_,rfl,_,rfl,p,q,rs,rule,hs,rfl,hp,h2,hq,hln,fun H' s=>⟨rfl,?_⟩⟩;rw[cx];exact k H' s
def uI:List Str:=["n","greatest","partings","part"]
theorem jC:FnScope uI ["n","greatest"] (z7 ki):=FS
def eZ(n:Nat):Sp:=fun vs H Q _=>∃(m g:Nat),m<n/\vs=[.int m,.int g]/\m<=24/\g<=1000/\
 ∀(l:Addr)(xs:List V)(H':Hp),H' l=some (.lst xs)->All2 Tup1 H' (yO n m g) xs->Same H H'->H l=none->Q (.ref l) H'
theorem wM(T:Txt P w K mg A):∀n:Nat,FnOk P w K mg base CX0 n A.a54 A.f54 ["n","greatest"] (eZ n)
 | 0=>FnOk.none (fun _ _ _ _ ⟨_,_,h,_⟩=>absurd h (Nat.not_lt_zero _))
 |n+1=>by
  have ih:=wM T n;refine T.x54.F.ok jC (by walk_at "n") fun _ _ _ s H vs Q E hr h=>?_
  ·obtain⟨m,g,hm,rfl,hm24,hg,k⟩:=h;refine⟨_,(z8 (zG (zi yM (pv 0) zc (zA _))
      (z9 (zo (yd (pa1 (zI ku))))) zq)
     (z8 (pset 2 jC.nd (yd ku))
     (z8 (yK PassesOwn.never rfl (nt rfl T.w9 (pa3 (zp (mY rfl) rfl T.w8 boot_min (pa2 (pv 0) (pv 1))) zc (cA pD zc))) (pgn 3 jC.nd)
      (z9 (zM (yU PySem.F.plainAttrs_list PySem.F.slot_list_extend PySem.F.type_list_extend qM (pv 2) (pa1 (zP (ls:=["rest"]) (fr:=[("part",3)]) (csf (z7 ki) uI) rfl (zT (yc ih hr rfl T.x54.g T.x54.F.kp T.x54.b .nil wu (pa2 (zu wN (pv 0) (pv 3 (hv:=Or.inr (Or.inl rfl)))) (pv 3 (hv:=Or.inr (Or.inl rfl)))))) (fun _ _ _ _=>pgc 0 (by decide+kernel) rfl rfl) (fun _ _ _ _=>yy) (fun _ _ _ _=>(zu (pW K rfl) (zI (pa1 (pvc (z7 ki) 1))) (pvc (z7 ki) 0)))))))))
     (z9 (zo (pv 2)))))),?_⟩
   dsimp only[bc];refine ye (fun σ' H'=>m≠0/\H'=H/\ σ'=[some (.int m),some (.int g),none,none]) (fun nx hnx=>?_) ?_
   ·refine⟨_,rfl,rfl,_,rfl,?_⟩;refine ite2 (fun h0=>?_) (fun h0=>hnx _ _ ⟨fun z=>h0 (by rw[z];rfl),rfl,rfl⟩);have e0:m=0:=by
     have:=of_decide_eq_true h0;injection this with this
     omega
    refine⟨by show 0<=sizeLine;decide,fun e he=>⟨by show 1<=sizeLine;decide,fun l hl=>?_⟩⟩;refine k l [.ref e] _ z6 ?_ ((Same.new he).trans (Same.new hl)) ((Same.new he).free hl);rw[zF,if_pos e0];exact .cons ⟨e,rfl,Same.new hl _ _ z6⟩ .nil
   rintro σ1 H1 ⟨m0,rfl,rfl⟩;refine⟨by show 0<=sizeLine;decide,fun l hl=>?_⟩;have hmin:(if(g:Int)<(m:Int)then(g:Int)else(m:Int))=((min m g:Nat):Int):=by split <;>omega
   refine⟨_,rfl,_,rfl,_,_,rfl,_,rfl,min m g,?_,by omega,ei (n:=min m g) (fun i σ' H'=>Same H1 H'/\i<=min m g/\ ∃xs v,σ'=[some (.int m),some (.int g),some (.ref l),v]/\H' l=some (.lst xs)/\All2 Tup1 H' (uR n m (min m g) i) xs) ⟨Same.new hl,zero_le _,[],_,rfl,z6,.nil⟩ ?_ ?_⟩
   ·show [V.int (if(g:Int)<(m:Int)then(g:Int)else(m:Int)),V.int 0,V.int (-1)]=_;rw[hmin]
   ·rintro i σ' H' hi ⟨s,_,xs,v,rfl,gl,h2⟩;have ep:((min m g:Nat):Int)-(i:Int)=((min m g-i:Nat):Int):=by omega
    have em:(m:Int)-((min m g-i:Nat):Int)=((m-(min m g-i):Nat):Int):=by omega
    have hlx:xs.length<=2^(m-min m g+i):=by
     rw[<-h2.length];exact uS (kP n) (Nat.min_le_left _ _) i (by omega)
    rw[ep];refine⟨_,rfl,.inl ⟨rfl,_,SqL.of gl⟩,_,rfl,_,rfl,_,_,rfl,rfl,_,rfl,m-(min m g-i),min m g-i,by omega,?_,by omega,by omega,fun l2 xs2 H2 gl2 h3 s2 nl2=>?_⟩
    ·show [V.int ((m:Int)-((min m g-i:Nat):Int)),V.int ((min m g-i:Nat):Int)]=_;rw[em]
    have hlx2:xs2.length<=2^(m-min m g+i):=by
     rw[<-h3.length];have e1:m-(min m g-i)=m-min m g+i:=by omega
     exact le_trans (kP n (m-(min m g-i)) (min m g-i)) (by rw[e1];exact le_refl _)
    have hpw:2^(m-min m g+i)+2^(m-min m g+i)<=sizeLine:=by
     have:2^(m-min m g+i)+2^(m-min m g+i)=2^(m-min m g+i+1):=by rw[Nat.pow_succ];omega
     rw[this];exact sJ (by omega)
    refine⟨l2,rfl,⟨_,SqL.of gl2⟩,yt (xs:=xs2) (fun j ys σ' H3=>Same H2 H3/\(∃v,σ'=[v,some (.int ((min m g-i:Nat):Int))])/\All2 Tup1 H3 (((yO n (m-(min m g-i)) (min m g-i)).take j).map (((min m g-i:Nat):Int):: ·)) ys) ⟨fun _ _ h=>h,⟨_,rfl⟩,.nil⟩ ?_ ?_ ?_⟩
    ·rintro j ys σ' H3 hj ⟨s3,_,h4⟩;refine⟨SqL.of (s3 _ _ gl2),?_⟩;rw[<-h4.length,length_map,length_take];omega
    ·rintro j x ys σ' H3 hx ⟨s3,⟨v,rfl⟩,h4⟩;obtain⟨hs,hhs,q,rfl,hq⟩:=h3.get hx;have hj:=(List.getElem?_eq_some_iff.mp hhs).1;have eh:=(List.getElem?_eq_some_iff.mp hhs).2;refine⟨_,rfl,by show 1<=sizeLine;decide,fun t ht=>⟨_,rfl,?_⟩⟩;have hl1:hs.length<=100:=by
      have:=gz _ _ _ hs (mem_of_getElem? hhs);omega
     refine d0 (Same.new ht _ _ (s3 _ _ hq)) z6 hl1 fun v H4 hv s4=>?_;have sn:=(Same.new (o:=.tup [V.int ((min m g-i:Nat):Int)]) ht).trans s4;refine⟨s3.trans sn,⟨_,rfl⟩,?_⟩;rw[take_succ_eq_append_getElem hj,map_append,eh];exact(h4.mv sn.tups).snoc hv
    ·rintro ys σ' H3 ⟨s3,_,h4⟩ l3 hl3;have et:(yO n (m-(min m g-i)) (min m g-i)).take xs2.length=yO n (m-(min m g-i)) (min m g-i):=by rw[<-h3.length,take_length]
     rw[et]at h4;have hly:ys.length=xs2.length:=by rw[<-h4.length,length_map,h3.length]
     have sn:=s2.trans (s3.trans (Same.new (o:=.lst ys) hl3));refine⟨l,l3,xs,ys,rfl,rfl,sn _ _ gl,z6,by omega,?_⟩;have tn:Tups H' (upd (upd H3 l3 (.lst ys)) l (.lst (xs++ys))):=sn.tups.trans (Tups.set (sn _ _ gl));have tn3:Tups H3 (upd (upd H3 l3 (.lst ys)) l (.lst (xs++ys))):=(Same.new hl3).tups.trans (Tups.set (sn _ _ gl));refine⟨fun b o e=>?_,by omega,xs++ys,_,rfl,z6,?_⟩
     ·rw[zh (zj e hl)];exact sn _ _ (s _ _ e)
     ·rw[vC];exact(h2.mv tn).append (h4.mv tn3)
   ·rintro σ' H' ⟨s,_,xs,v,rfl,gl,h2⟩;refine⟨_,rfl,k l xs H' gl ?_ s hl⟩;rw[zF,if_neg m0];exact h2
theorem xJ(T:Txt P w K mg A):FnOk P w K mg base CX0 26 A.a54 A.f54 ["n","greatest"] (eZ 26):=wM T 26
def tQ:List Str:=["n"]
theorem xL:FnScope tQ ["n"] (z7 uW):=FS
inductive sp_partings_of(A:Adr)(vs:List V)(H:Hp)(Q:VK)(E:XK):Prop
 |mk (n:Int):vs=[.int n]->(((∃m:Nat,n=m/\m<=24/\ ∀(l:Addr)(xs:List V)(H':Hp),H' l=some (.lst xs)->All2 Tup1 H' (yO 26 m m) xs->Same H H'->H l=none->Q (.ref l) H')\/False))->sp_partings_of A vs H Q E
theorem xI(T:Txt P w K mg A):FnOk P w K mg base CX0 27 A.a55 A.f55 ["n"] (sp_partings_of A):=by
 refine T.x55.F.ok xL (by walk_at "n") fun _ _ _ s H vs Q E hr h=>?_
 ·obtain⟨n,rfl,h⟩:=h;refine⟨_,(z8 (zM (pcl (wn T) hr T.x47 (pa2 (pv 0) (yx (v:=.int 24) rfl T.w17.choose_spec ⟨_,rfl⟩))))
    (z9 (zo (pcl (xJ T) hr T.x54 (pa2 (pv 0) (pv 0)))))),?_⟩
  rcases h with⟨m,rfl,hm,k⟩|z
  ·refine⟨_,rfl,(m:Int),24,rfl,⟨by decide,by decide⟩,.inl ⟨by omega,by omega,?_⟩⟩;exact⟨_,rfl,_,rfl,m,m,by omega,rfl,hm,by omega,k⟩
  ·exact z.elim
def dL:List Str:=["rule","n"]
theorem ig:FnScope dL ["rule","n"] (z7 jh):=FS
inductive sp_kept_of(A:Adr)(vs:List V)(H:Hp)(Q:VK)(E:XK):Prop
 |mk (p:Addr) (rs:List V) (rule:List (List Int)) (n:Int):vs=[.ref p,.int n]->H p=some (.tup rs)->All2 Tup1 H rule rs->rule.length<=60->(((∃m:Nat,n=m/\m<=24/\ ∀(l:Addr)(xs:List V)(H':Hp),H' l=some (.lst xs)->All2 Tup1 H' (yp rule m) xs->Same H H'->H l=none->Q (.ref l) H')\/False))->sp_kept_of A vs H Q E
theorem fV(T:Txt P w K mg A):FnOk P w K mg base CX0 28 A.a56 A.f56 ["rule","n"] (sp_kept_of A):=by
 refine T.x56.F.ok ig (by walk_at "n") fun _ _ _ s H vs Q E hr h=>?_
 ·obtain⟨p,rs,rule,n,rfl,hp,h2,hln,h⟩:=h;refine⟨_,(z9 (zo (zP (ls:=["heap"]) (fr:=[("rule",0)]) (csf (z7 jh) dL) rfl (zT (pcl (xI T) hr T.x55 (pa1 (pv 1)))) (fun _ _ _ _=>pgc 0 (by decide+kernel) rfl rfl) (fun _ _ _ _=>eR (cD K rfl (yc (sk T) (hr.mono (by decide)) (glc (z7 jh)) T.x53.g T.x53.F.kp T.x53.b .nil wu (pa2 (pvc (z7 jh) 1) (pvc (z7 jh) 0))) (fun _=>rfl))) (fun _ _ _ _=>(pvc (z7 jh) 0))))),?_⟩;rcases h with⟨m,rfl,hm,k⟩|z
  ·refine⟨_,rfl,(m:Int),rfl,.inl ⟨m,rfl,hm,fun l xs H1 gl h1 s1 nl=>?_⟩⟩;have hlx:xs.length<=sizeLine:=by rw[<-h1.length];exact le_trans (kP _ _ _) (sJ hm)
   refine⟨l,rfl,⟨_,SqL.of gl⟩,yt (xs:=xs) (fun i ys σ' H'=>Same H1 H'/\(∃v,σ'=[v,some (.ref p)])/\ys.length<=i/\All2 Tup1 H' (((yO 26 m m).take i).filter fun h=>(yv rule h).isNone) ys) ⟨fun _ _ h=>h,⟨_,rfl⟩,le_refl _,.nil⟩ ?_ ?_ ?_⟩
   ·rintro i ys σ' H' hi ⟨s,_,hy,_⟩;exact⟨SqL.of (s _ _ gl),by omega⟩
   ·rintro i x ys σ' H' hx ⟨s,⟨v,rfl⟩,hy,h3⟩;obtain⟨hs,hhs,q,rfl,hq⟩:=h1.get hx;have sn:=s1.trans s;refine⟨_,rfl,_,rfl,p,q,rs,rule,hs,rfl,sn _ _ hp,h2.mv sn.tups,s _ _ hq,hln,fun H2 s2=>⟨_,rfl,?_⟩⟩;refine ite2 (fun hc=>⟨_,rfl,s.trans s2,⟨_,rfl⟩,by simp;omega,?_⟩) (fun hc=>⟨s.trans s2,⟨_,rfl⟩,by omega,?_⟩)
    ·rw[jX _ hhs,if_pos hc];exact(h3.mv s2.tups).snoc ⟨q,rfl,s2 _ _ (s _ _ hq)⟩
    ·rw[jX _ hhs,if_neg hc,append_nil];exact h3.mv s2.tups
   ·rintro ys σ' H' ⟨s,_,hy,h3⟩ l2 hl2;rw[<-h1.length,take_length]at h3;have sn:=s1.trans (s.trans (Same.new (o:=.lst ys) hl2));exact k l2 ys _ z6 (h3.mv (Same.new hl2).tups) sn ((s1.trans s).free hl2)
  ·exact z.elim
def qZ:List Str:=["standing","given","heaps"]
theorem pA:FnScope qZ ["standing","given"] (z7 jm):=FS
inductive sp_tell_list(vs:List V)(H:Hp)(Q:VK)(E:XK):Prop
 |mk (d g:Addr) (kvs:List (Key×V)) (gs:List V) (S:Std) (n:Str) (r:List (List Int)) (m:Nat):vs=[.ref d,.ref g]->H d=some (.dK kvs)->StdV H S kvs->H g=some (.lst gs)->All2 ArgV H [.name n,.num (m:Int)] gs->y9 S n=some r->r.length<=60->m<=24->(∀(H':Hp),Same H H'->Q (.str (jA r m)) H')->sp_tell_list vs H Q E
theorem cn(T:Txt P w K mg A):FnOk P w K mg base CX0 29 A.a57 A.f57 ["standing","given"] sp_tell_list:=by
 refine T.x57.F.ok pA (by walk_at "n") fun _ _ _ s H vs Q E hr h=>?_
 ·obtain⟨d,g,kvs,gs,S,n,r,m,rfl,hd,sd,hg,ha,hl,hb,hm,k⟩:=h;refine⟨_,(z8 (pset 2 pA.nd (pcl (fV T) hr T.x56 (pa2 (ur (huR hr) (pv 0) (pix zt (pv 1) zc) (fun _ _=>rfl)) (pix zt (pv 1) zc))))
    (z8 (zG (zi yM (zp zk rfl T.w5 PySem.boot_len (pa1 (pv 2))) zc (zA _))
     (z9 (zo zC)) zq)
    (z9 (zo (yU PySem.F.plainAttrs_str PySem.F.slot_str_join PySem.F.type_str_join wE zC (pa1 (zP (ls:=["heap"]) (fr:=[]) (csf (z7 jm) qZ) rfl (zT (pv 2)) (fun _ _ _ _=>pgc 0 (by decide+kernel) rfl rfl) (fun _ _ _ _=>yy) (fun _ _ _ _=>(yc (vZ T) (hr.mono (by decide)) (glc (z7 jm)) T.x17.g T.x17.F.kp T.x17.b .nil wu (pa1 (pvc (z7 jm) 0))))))))))),?_⟩
  cases ha with
  |cons h1 ha =>
   cases ha with
   |cons h2 ha =>
    cases ha;cases h1;cases h2;rcases sd.val n with⟨e1,_⟩|⟨r',v,e1,e2,p,xs,rfl,gp,a2⟩
    ·rw[hl]at e1;cases e1
    rw[hl]at e1;cases e1;have dg:=DGet.k (k:=Sum.inr n) hd;rw[e2]at dg;refine⟨_,rfl,_,rfl,g,_,0,_,rfl,rfl,SqL.of hg,zr (j:=0) rfl,d,_,rfl,dg,_,rfl,g,_,1,_,rfl,rfl,SqL.of hg,zr (j:=1) rfl,p,xs,r,_,rfl,gp,a2,hb,.inl ⟨m,rfl,hm,fun l ys H1 gl al s1 nl=>?_⟩⟩;have yl:=al.length;have few:(yp r m).length<=1575:=le_trans (List.length_filter_le _ _) (eL hm);have hh:∀h∈yp r m,h.length<=24/\ ∀x∈h,1<=x/\x<=24:=fun h hm'=>xZ hm hm';refine⟨_,rfl,l,_,rfl,.inl (SqL.of gl),rfl,_,rfl,?_⟩;refine ite2 (fun h0=>?_) (fun h0=>?_)
    ·have y0:ys.length=0:=by simpa using h0
     have e:yp r m=[]:=List.eq_nil_of_length_eq_zero (by omega);have hk:=k H1 s1;unfold jA at hk;rw[if_pos e]at hk;exact hk
    have hne:yp r m≠[]:=fun e=>h0 (by rw[e]at yl;rw[<-yl];rfl);refine⟨rfl,wZ (fun(b:Str) v _=>v=V.str b) ((yp r m).map txt) [] (by rw[length_map];exact yl) (le_trans (m:=1575) (by omega) (by decide)) (fun _ _ _ _ _ h=>h) rfl rfl gl (fun j x b H' P hx hbj s' hP=>?_) (fun zs H2 l2 s2 a2' hl2=>?_)⟩
    ·obtain⟨h,hh0,q,rfl,hq⟩:=al.get hx;rw[getElem?_map,hh0]at hbj;have hm2:=hh h (mem_of_getElem? hh0);exact⟨_,rfl,q,h,rfl,s' _ _ hq,by omega,fun x hx=>⟨(hm2.2 x hx).1,Int.le_trans (hm2.2 x hx).2 (by decide)⟩,fun H'' s''=>hP _ _ s'' (by rw[<-Option.some.inj hbj])⟩
    have e1:=xu a2';subst e1;have hsum:(((yp r m).map txt).map (·.length)).sum<=((yp r m).map txt).length*10000:=jR fun y hy=>by
     obtain⟨h,hh0,rfl⟩:=mem_map.mp hy;have hm2:=hh h hh0;exact uw (by omega) fun x hx=>⟨(hm2.2 x hx).1,Int.le_trans (hm2.2 x hx).2 (by decide)⟩
    rw[length_map]at hsum;have hbl:(Str.ofString " | ").length=3:=by decide
    refine⟨_,l2,(yp r m).map txt,rfl,rfl,SqL.of z6,by rw[hbl,length_map];omega,?_⟩;have hk:=k _ (s1.trans (s2.trans (Same.new (o:=.lst (((yp r m).map txt).map V.str)) hl2)));unfold jA at hk;rw[if_neg hne]at hk;exact hk
def lO:List Str:=["standing","given"]
theorem ii:FnScope lO ["standing","given"] (z7 cO):=FS
def v8(A:Adr)(R:Std->List DArg->Str->List (List Int)->Prop)(F B:Std->List DArg->Prop):Sp:=fun vs H Q E=>∃(d g:Addr)(kvs:List (Key×V))(gs:List V)(S:Std)(as:List DArg),vs=[.ref d,.ref g]/\H d=some (.dK kvs)/\StdV H S kvs/\H g=some (.lst gs)/\All2 ArgV H as gs/\
 ((∃n r,R S as n r/\ ∀(t:Addr)(v:V)(H':Hp),H' t=some (.tup [.str n,v])->vh r v H'->Same H H'->Q (.ref t) H')\/(F S as/\ ∀H',Same H H'->E (.ref A.w2) none H')\/(B S as/\ ∀H',Same H H'->E (.ref A.w4) none H'))
theorem fX(T:Txt P w K mg A):FnOk P w K mg base (CX1 P w) 3 A.a58 A.f58 ["standing","given"] (v8 A PNew PNo PNo):=by
 refine T.x58.F.okE ii (by walk_at "n") fun _ _ _ s H vs Q E hr h=>?_
 ·obtain⟨d,g,kvs,gs,S,as,rfl,hd,hS,hg,ha,h⟩:=h;refine⟨_,(z9 (zo (zI (pa2 (pix zt (pv 1) zc) (pix zt (pv 1) zc))))),?_⟩;rcases h with⟨n,r,e,k⟩|⟨e,_⟩|⟨e,_⟩
  case inr.inl=>exact False.elim e
  case inr.inr=>exact False.elim e
  unfold PNew at e;subst e;cases ha with
  |cons h1 ha =>
   cases ha with
   |cons h2 ha =>
    cases ha;cases h1;refine⟨_,rfl,g,_,0,_,rfl,rfl,SqL.of hg,zr (j:=0) rfl,_,rfl,g,_,1,_,rfl,rfl,SqL.of hg,zr (j:=1) rfl,by show 2<=sizeLine;decide,fun t ht=>?_⟩;exact k t _ _ z6 (vh.mv (Same.new ht).tups h2) (Same.new ht)
def dM:List Str:=["standing","given"]
theorem mo:FnScope dM ["standing","given"] (z7 pe):=FS
theorem tZ(T:Txt P w K mg A):FnOk P w K mg base (CX1 P w) 3 A.a59 A.f59 ["standing","given"] (v8 A om PNo PNo):=by
 refine T.x59.F.okE mo (by walk_at "n") fun _ _ _ s H vs Q E hr h=>?_
 ·obtain⟨d,g,kvs,gs,S,as,rfl,hd,hS,hg,ha,h⟩:=h;refine⟨_,(z9 (zo (zI (pa2 (pix zt (pv 1) zc) (ur (huR hr) (pv 0) (pix zt (pv 1) zc) (fun _ _=>rfl)))))),?_⟩;rcases h with⟨n,r,⟨a,rfl,hl⟩,k⟩|⟨e,_⟩|⟨e,_⟩
  case inr.inl=>exact False.elim e
  case inr.inr=>exact False.elim e
  cases ha with
  |cons h1 ha =>
   cases ha with
   |cons h2 ha =>
    cases ha;cases h1;cases h2;rcases hS.val a with⟨e1,_⟩|⟨r',v,e1,e2,hr0⟩
    ·rw[hl]at e1;cases e1
    rw[hl]at e1;cases e1;refine⟨_,rfl,g,_,1,_,rfl,rfl,SqL.of hg,zr (j:=1) rfl,_,rfl,_,rfl,g,_,0,_,rfl,rfl,SqL.of hg,zr (j:=0) rfl,d,v,rfl,(by have:=DGet.k (k:=Sum.inr a) hd;rw[e2]at this;exact this),by show 2<=sizeLine;decide,fun t ht=>?_⟩;have s:=Same.new (o:=.tup [V.str n,v]) ht;exact k t _ _ z6 (hr0.mv s.tups) s
def aj:List Str:=["standing","given","rule"]
theorem pq:FnScope aj ["standing","given"] (z7 xk):=FS
theorem cc(T:Txt P w K mg A):FnOk P w K mg base (CX1 P w) 3 A.a60 A.f60 ["standing","given"] (v8 A PAdd fm PNo):=by
 refine T.x60.F.okE pq (by walk_at "n") fun _ _ _ s H vs Q E hr h=>?_
 ·obtain⟨d,g,kvs,gs,S,as,rfl,hd,hS,hg,ha,h⟩:=h;refine⟨_,(z8 (pset 2 pq.nd (ur (huR hr) (pv 0) (pix zt (pv 1) zc) (fun _ _=>rfl)))
    (z8 (zG (zi sr (zp zk rfl T.w5 PySem.boot_len (pa1 (pv 2))) (yx (v:=.int 6) rfl T.w16.choose_spec ⟨_,rfl⟩) (zA _))
     (z9 (kh rfl T.w34 rfl T.w26 (pa1 zC))) zq)
    (z9 (zo (zI (pa2 (pix zt (pv 1) zc) (zu vA (pv 2) (zI (pa1 (pix zt (pv 1) zc)))))))))),?_⟩
  have look:∀n r,y9 S n=some r-> ∃p xs,DGet H d (.str n) (some (.ref p))/\H p=some (.tup xs)/\All2 Tup1 H r xs:=fun n r hl=>by
   rcases hS.val n with⟨e1,_⟩|⟨r',v,e1,e2,p,xs,rfl,h1,h2⟩
   ·rw[hl]at e1;cases e1
   ·rw[hl]at e1;cases e1;have:=DGet.k (k:=Sum.inr n) hd;rw[e2]at this;exact⟨p,xs,this,h1,h2⟩
  have open2:∀n h0,as=[.name n,.heap h0]-> ∃q,gs=[.str n,.ref q]/\H q=some (.tup (h0.map V.int)):=fun n h0 e=>by
   subst e;cases ha with
   |cons h1 ha =>
    cases ha with
    |cons h2 ha =>
     cases ha;cases h1;obtain⟨q,rfl,gq⟩:=h2;exact⟨q,rfl,gq⟩
  rcases h with⟨n,r,⟨h0,r0,e0,hl,l6,rfl⟩,k⟩|⟨⟨n,h0,r0,e0,hl,l6⟩,k⟩|⟨e,_⟩
  case inr.inr=>exact False.elim e
  ·obtain⟨q,rfl,gq⟩:=open2 n h0 e0;obtain⟨p,xs,dg,gp,a2⟩:=look n r0 hl;have xl:=a2.length;refine⟨_,rfl,_,rfl,g,_,0,_,rfl,rfl,SqL.of hg,zr (j:=0) rfl,d,_,rfl,dg,?_⟩;refine⟨_,rfl,p,_,rfl,.inr (SqT.of gp),_,_,rfl,rfl,_,rfl,?_⟩;refine ite2 (fun z=>absurd (of_decide_eq_true z) (by omega)) (fun _=>?_);refine⟨_,rfl,g,_,0,_,rfl,rfl,SqL.of hg,zr (j:=0) rfl,_,rfl,_,rfl,g,_,1,_,rfl,rfl,SqL.of hg,zr (j:=1) rfl,by show 1<=sizeLine;decide,fun t1 ht1=>?_⟩;have s1:=Same.new (o:=.tup [V.ref q]) ht1;refine bM (s1 _ _ gp) z6 (le_trans (m:=7) (by simp;omega) (by decide)) fun p2 H2 gp2 s2=>⟨by show 2<=sizeLine;decide,fun t ht=>?_⟩;have s3:=Same.new (o:=.tup [V.str n,V.ref p2]) ht;have s:=s1.trans (s2.trans s3);exact k t _ _ z6 ⟨p2,_,rfl,s3 _ _ gp2,(a2.mv s.tups).snoc ⟨q,rfl,s _ _ gq⟩⟩ s
  ·obtain⟨q,rfl,gq⟩:=open2 n h0 e0;obtain⟨p,xs,dg,gp,a2⟩:=look n r0 hl;have xl:=a2.length;refine⟨_,rfl,_,rfl,g,_,0,_,rfl,rfl,SqL.of hg,zr (j:=0) rfl,d,_,rfl,dg,?_⟩;refine⟨_,rfl,p,_,rfl,.inr (SqT.of gp),_,_,rfl,rfl,_,rfl,?_⟩;exact ite2 (fun _=>⟨by show 1<=sizeLine;decide,k _ (Same.refl _)⟩) (fun z=>absurd (decide_eq_true (by omega)) z)
def ak:List Str:=["standing","given","rule","number"]
theorem wW:FnScope ak ["standing","given"] (z7 xm):=FS
theorem cf(T:Txt P w K mg A):FnOk P w K mg base (CX1 P w) 3 A.a61 A.f61 ["standing","given"] (v8 A iw PNo vg):=by
 refine T.x61.F.okE wW (by walk_at "n") fun _ _ _ s H vs Q E hr h=>?_
 ·obtain⟨d,g,kvs,gs,S,as,rfl,hd,hS,hg,ha,h⟩:=h;refine⟨_,(z8 (pset 2 wW.nd (ur (huR hr) (pv 0) (pix zt (pv 1) zc) (fun _ _=>rfl)))
    (z8 (pset 3 wW.nd (pix zt (pv 1) zc))
    (z8 (zG (zi sr (pv 3) (zp zk rfl T.w5 PySem.boot_len (pa1 (pv 2))) (zA _))
     (z9 (kh rfl T.w33 rfl T.w28 (pa1 zC))) zq)
    (z9 (zo (zI (pa2 (pix zt (pv 1) zc) (zu vA (yr uu (pv 2) kf (kg (pv 3))) (yr uu (pv 2) (kg (zu kr (pv 3) zc)) kf))))))))),?_⟩
  have look:∀n r,y9 S n=some r-> ∃p xs,DGet H d (.str n) (some (.ref p))/\H p=some (.tup xs)/\All2 Tup1 H r xs:=fun n r hl=>by
   rcases hS.val n with⟨e1,_⟩|⟨r',v,e1,e2,p,xs,rfl,h1,h2⟩
   ·rw[hl]at e1;cases e1
   ·rw[hl]at e1;cases e1;have:=DGet.k (k:=Sum.inr n) hd;rw[e2]at this;exact⟨p,xs,this,h1,h2⟩
  have open2:∀n (m:Nat),as=[.name n,.num (m:Int)]->gs=[.str n,.int m]:=fun n h0 e=>by
   subst e;cases ha with
   |cons h1 ha =>
    cases ha with
    |cons h2 ha =>
     cases ha;cases h1;cases h2;rfl
  rcases h with⟨n,r,⟨m,r0,e0,hl,l6,l1000,rfl⟩,k⟩|⟨e,_⟩|⟨⟨n,m,r0,e0,hl,l6⟩,k⟩
  case inr.inl=>exact False.elim e
  ·obtain rfl:=open2 n m e0;obtain⟨p,xs,dg,gp,a2⟩:=look n r0 hl;have xl:=a2.length;refine⟨_,rfl,_,rfl,g,_,0,_,rfl,rfl,SqL.of hg,zr (j:=0) rfl,d,_,rfl,dg,?_⟩;refine⟨_,rfl,g,_,1,_,rfl,rfl,SqL.of hg,zr (j:=1) rfl,?_⟩;refine⟨_,rfl,_,rfl,p,_,rfl,.inr (SqT.of gp),_,_,rfl,rfl,_,rfl,?_⟩;refine ite2 (fun z=>absurd (of_decide_eq_true z) (by omega)) (fun _=>?_);refine⟨_,rfl,g,_,0,_,rfl,rfl,SqL.of hg,zr (j:=0) rfl,_,rfl,?_⟩;dsimp only[yH,tNil];refine⟨_,rfl,_,rfl,wz gp fun p1 H1 g1 s1=>?_⟩;refine⟨_,rfl,_,rfl,_,_,rfl,rfl,_,rfl,?_⟩;dsimp only[yH,tNil];refine wz (s1 _ _ gp) fun p2 H2 g2 s2=>?_;refine bM (s2 _ _ g1) g2 ?_ fun p3 H3 g3 s3=>⟨by show 2<=sizeLine;decide,fun t ht=>?_⟩
   ·rw[<-length_append,j3 xs m (by omega)];rw[List.length_eraseIdx];split <;>exact le_trans (m:=1000) (by omega) (by decide)
   rw[j3 xs m (by omega)]at g3;have s4:=Same.new (o:=.tup [V.str n,V.ref p3]) ht;have s:=s1.trans (s2.trans (s3.trans s4));exact k t _ _ z6 ⟨p3,_,rfl,s4 _ _ g3,(a2.mv s.tups).erase m⟩ s
  ·obtain rfl:=open2 n m e0;obtain⟨p,xs,dg,gp,a2⟩:=look n r0 hl;have xl:=a2.length;refine⟨_,rfl,_,rfl,g,_,0,_,rfl,rfl,SqL.of hg,zr (j:=0) rfl,d,_,rfl,dg,?_⟩;refine⟨_,rfl,g,_,1,_,rfl,rfl,SqL.of hg,zr (j:=1) rfl,?_⟩;refine⟨_,rfl,_,rfl,p,_,rfl,.inr (SqT.of gp),_,_,rfl,rfl,_,rfl,?_⟩;exact ite2 (fun _=>⟨by show 1<=sizeLine;decide,k _ (Same.refl _)⟩) (fun z=>absurd (decide_eq_true (by omega)) z)
def bZ:List Str:=["self","line","said","word","given","named"]
theorem kQ:FnScope bZ ["self","line"] (z7 xa):=FS
def Yq(A:Adr)(f:Addr)(sp:Sp):Prop:=(f=A.a29/\sp=sp_tell_names)\/(f=A.a35/\sp=sp_tell_rule)\/(f=A.a40/\sp=sp_tell_keeps)\/(f=A.a52/\sp=sp_tell_count)\/(f=A.a57/\sp=sp_tell_list)
def Zf(A:Adr)(f:Addr)(sp:Sp):Prop:=(f=A.a58/\sp=v8 A PNew PNo PNo)\/(f=A.a60/\sp=v8 A PAdd fm PNo)\/(f=A.a61/\sp=v8 A iw PNo vg)\/(f=A.a59/\sp=v8 A om PNo PNo)
def TAsk(A:Adr)(S:Std)(wd:Str)(as:List DArg)(H:Hp)(Q:VK):Prop :=
 (wd=Str.ofString "names"/\as=[]/\mO S/\ ∀t H',yf (S.map (·.1)) t->Same H H'->Q (.str t) H')\/
 (wd=Str.ofString "show"/\ ∃n r,as=[.name n]/\y9 S n=some r/\mL r/\ ∀H',Same H H'->Q (.str (rtxt r)) H')\/
 (wd=Str.ofString "keeps"/\ ∃(n:Str)(r:List (List Int))(h:List Int),as=[.name n,.heap h]/\y9 S n=some r/\r.length<=60/\ ∀H',Same H H'->Q (.str (uF r h)) H')\/
 (wd=Str.ofString "count"/\ ∃(n:Str)(r:List (List Int))(m:Nat),as=[.name n,.num (m:Int)]/\y9 S n=some r/\bi r m/\ ∀H',Same H H'->Q (.str (numS (wg r m))) H')\/
 (wd=Str.ofString "list"/\ ∃(n:Str)(r:List (List Int))(m:Nat),as=[.name n,.num (m:Int)]/\y9 S n=some r/\r.length<=60/\m<=24/\ ∀H',Same H H'->Q (.str (jA r m)) H')
inductive sp_tell(A:Adr)(vs:List V)(H:Hp)(Q:VK)(E:XK):Prop
 |mk (x:Addr) (z:Str) (O:List Addr) (S:Std) (past und:List Std) (wd:Str) (as:List DArg):vs=[.ref x,.str z]->z.length<=100000->DeskAt A.w8 H x O S past und->jL z=some (wd,as)->S.length<=50->past.length<=1000->und.length<=1000->((TAsk A S wd as H Q\/
  (∃n r,fo S wd as n r/\mL r/\ ∀(H':Hp)(O':List Addr),After A.w8 H H' x O O' (putS S n r) (past++[S]) []->Q (.str (rtxt r)) H')\/
  (∃S' past' und',mM S past und wd as S' past' und'/\mO S'/\S'.length<64/\ ∀t (H':Hp) (O':List Addr),yf (S'.map (·.1)) t->After A.w8 H H' x O O' S' past' und'->Q (.str t) H')\/
  (∃form n,zZ wd=some form/\zB S form as=some n/\ ∀(dx:Addr)(H':Hp),H' dx=some (.xd [("name",.str n)])->Same H H'->E (.ref A.w6) (some dx) H')\/
  (wd=Str.ofString "add"/\fm S as/\ ∀H',Same H H'->E (.ref A.w2) none H')\/
  (wd=Str.ofString "take"/\vg S as/\ ∀H',Same H H'->E (.ref A.w4) none H')\/
  (wd=Str.ofString "undo"/\as=[]/\past=[]/\ ∀H',Same H H'->E (.ref A.w7) none H')\/
  (wd=Str.ofString "again"/\as=[]/\und=[]/\ ∀H',Same H H'->E (.ref A.w7) none H')))->sp_tell A vs H Q E
theorem dY(T:Txt P w K mg A):FnOk P w K mg base (CX1 P w) 30 A.a62 A.f62 ["self","line"] (sp_tell A):=by
 refine T.x62.F.okE kQ (by walk_at "n") fun _ _ _ s H vs Q E hr h=>?_
 ·obtain⟨x,z,O,S,past,und,wd,as,rfl,hz,D,hR,l50,lp,lu,h⟩:=h;refine⟨_,(z8 (pset 2 kQ.nd (pcl (cg T) hr T.x26 (pa1 (pv 1))))
    (z8 (pset 3 kQ.nd (pix uE (pv 2) zc))
    (z8 (pset 4 kQ.nd (pix uE (pv 2) zc))
    (z8 (zM (yc (uN T) (hr.mono (by decide)) rfl T.x28.g T.x28.F.kp T.x28.b .nil gC (pa3 (kY (pv 0) rfl) (pv 3) (pv 4))))
    (z8 (zG (zi n8 (pv 3) (yx (v:=.ref A.w11) rfl T.w54 rfl) rfl)
     (z9 (zo (eN (G:=Yq A) (E:=E) (fun f sp g=>by rcases g with⟨rfl,rfl⟩|⟨rfl,rfl⟩|⟨rfl,rfl⟩|⟨rfl,rfl⟩|⟨rfl,rfl⟩ <;>first|exact CallsOk.of (uO T) (hr.mono (by decide)) T.x29.F.kp T.x29.b cz|exact CallsOk.of (cq T) (hr.mono (by decide)) T.x35.F.kp T.x35.b cz|exact CallsOk.of (m5 T) (hr.mono (by decide)) T.x40.F.kp T.x40.b cz|exact CallsOk.of (m4 T) (hr.mono (by decide)) T.x52.F.kp T.x52.b cz|exact CallsOk.of (cn T) (hr.mono (by decide)) T.x57.F.kp T.x57.b cz) (pY (yx (v:=.ref A.w11) rfl T.w54 rfl) (pv 3) (fun _ _=>rfl)) (pa2 (kY (pv 0) rfl) (pv 4)) (fun h=>Call_ h)))) zq)
    (z8 (zG (zi n8 (pv 3) (yx (v:=.ref A.w10) rfl T.w53 rfl) rfl)
     (z8 (pset 5 kQ.nd (eN (G:=Zf A) (E:=E) (fun f sp g=>by rcases g with⟨rfl,rfl⟩|⟨rfl,rfl⟩|⟨rfl,rfl⟩|⟨rfl,rfl⟩ <;>first|exact CallsOk.of (fX T) (hr.mono (by decide)) T.x58.F.kp T.x58.b gC|exact CallsOk.of (cc T) (hr.mono (by decide)) T.x60.F.kp T.x60.b gC|exact CallsOk.of (cf T) (hr.mono (by decide)) T.x61.F.kp T.x61.b gC|exact CallsOk.of (tZ T) (hr.mono (by decide)) T.x59.F.kp T.x59.b gC) (pY (yx (v:=.ref A.w10) rfl T.w53 rfl) (pv 3) (fun _ _=>rfl)) (pa2 (kY (pv 0) rfl) (pv 4)) (fun h=>Call_ h)))
    (z8 (zM (m7 (pv 0) T.w44 T.x31.mt (xG T) (hr.mono (by decide)) T.x31.b .nil wu (pa2 (pix uE (pv 5) zc) (pix uE (pv 5) zc))))
    (z9 (zo (pcl (p6 T) hr T.x18 (pa1 (pix uE (pv 5) zc))))))) zq)
    (z8 (zG (zi yM (pv 3) zC (zA _))
     (z9 (zM (m7 (pv 0) T.w44 T.x32.mt (gj T) (hr.mono (by decide)) T.x32.b .nil wu (pa1 (pix zt (pv 4) zc))))) (z9 (zG (zi yM (pv 3) zC (zA _))
     (z9 (zM (eQ (pv 0) T.w44 T.x33.mt (gm T) (hr.mono (by decide)) T.x33.b .nil gC))) (z9 (zM (eQ (pv 0) T.w44 T.x34.mt (pH T) (hr.mono (by decide)) T.x34.b .nil gC))))))
    (z9 (zo (pcl (uO T) hr T.x29 (pa2 (kY (pv 0) rfl) (pv 4)))))))))))),?_⟩
  obtain⟨form,_,hf,_⟩:=gQ hR;obtain⟨ln,nms⟩:=aG hR hf;refine cut4 fun nxt hnt=>?_;refine⟨_,rfl,z,wd,as,rfl,hz,hR,fun t g gs H1 gt gg ga s1=>?_⟩;refine⟨_,rfl,t,_,0,_,rfl,rfl,SqT.of gt,zr (j:=0) rfl,?_⟩;refine⟨_,rfl,t,_,1,_,rfl,rfl,SqT.of gt,zr (j:=1) rfl,?_⟩;obtain⟨mx,al,dx,d,pl,ul,xs,ys,hx,⟨_,kvs,ed,md,hd,sd⟩,hp,ap,hu,au,mp,mu,npu⟩:=D.same s1;cases ed;refine⟨_,rfl,x,A.w8,dx,_,_,rfl,hx,T.w44,T.w47,rfl,_,rfl,_,rfl,d,g,kvs,gs,S,wd,form,as,rfl,hd,sd,hf,gg,ga,ln,nms,?_⟩;have nl:(∃n,zB S form as=some n/\ ∀(dx:Addr)(H':Hp),H' dx=some (.xd [("name",.str n)])->Same H H'->E (.ref A.w6) (some dx) H')\/zB S form as=none:=by
   rcases h with(⟨rfl,rfl,_⟩|⟨rfl,n,r,rfl,hl,_⟩|⟨rfl,n,r,h1,rfl,hl,hb,k⟩|⟨rfl,n,r,m,rfl,hl,hb,k⟩|⟨rfl,n,r,m,rfl,hl,hb,hm,k⟩)|⟨n,r,hp,_⟩|⟨S',p',u',hm,_⟩|⟨form',n,hf',hn,k⟩|⟨rfl,⟨n,h0,r0,rfl,hl,_⟩,_⟩|⟨rfl,⟨n,h0,r0,rfl,hl,_⟩,_⟩|⟨rfl,rfl,_⟩|⟨rfl,rfl,_⟩
   ·rw[fD]at hf;cases hf;exact .inr rfl
   ·rw[iU]at hf;cases hf;exact .inr (by rw[jB _ _ _ hl,eI])
   ·rw[vk]at hf;cases hf;exact .inr (by rw[jB _ _ _ hl];simp[zB])
   ·rw[u4]at hf;cases hf;exact .inr (by rw[jB _ _ _ hl];simp[zB])
   ·rw[qr]at hf;cases hf;exact .inr (by rw[jB _ _ _ hl];simp[zB])
   ·exact .inr (YJ hp hf)
   ·exact .inr (ZT hm hf)
   ·rw[hf]at hf';cases hf';exact .inl ⟨n,hn,k⟩
   ·rw[tw]at hf;cases hf;exact .inr (by rw[jB _ _ _ hl];simp[zB])
   ·rw[qu]at hf;cases hf;exact .inr (by rw[jB _ _ _ hl];simp[zB])
   ·rw[qv]at hf;cases hf;exact .inr rfl
   ·rw[vj]at hf;cases hf;exact .inr rfl
  rcases nl with⟨n,hn,kn⟩|hn
  ·exact .inr ⟨n,hn,fun dx H' hx' s'=>kn dx H' hx' (s1.trans s')⟩
  refine .inl ⟨hn,fun H2 s2=>?_⟩;dsimp only;subst hnt;refine cut1 fun nxt hnt=>?_;have s12:=s1.trans s2;have D2:=D.same s12;obtain⟨wsA,kdA,keysA,fsA⟩:=T.w57;obtain⟨wsP,kdP,keysP,fsP⟩:=T.w56;have hx2:=s2 _ _ hx;have hd2:=s2 _ _ hd;have sd2:=sd.mv s2.tups;have gg2:=s2 _ _ gg;have ga2:All2 ArgV H2 as gs:=ga.imp fun _ _ z=>z.mv s2.tups;refine⟨_,rfl,_,wsA,wd,rfl,rfl,kdA,_,rfl,?_⟩;rw[pE keysA];by_cases hA:wd∈rR
  ·rw[decide_eq_true hA];refine iteT ?_;have hT:TAsk A S wd as H Q:=by
    rcases h with hT|⟨n,r,hp,_⟩|⟨S',p',u',hm,_⟩|⟨form',n,hf',hn',k⟩|⟨rfl,_⟩|⟨rfl,_⟩|⟨rfl,_⟩|⟨rfl,_⟩
    ·exact hT
    ·rcases hp with⟨rfl,_⟩|⟨rfl,_⟩|⟨rfl,_⟩|⟨rfl,_⟩ <;>exact absurd hA (by decide+kernel)
    ·rcases hm with⟨rfl,_⟩|⟨rfl,_⟩|⟨rfl,_⟩ <;>exact absurd hA (by decide+kernel)
    ·rw[hf]at hf';cases hf';rw[hn]at hn';cases hn'
    ·exact absurd hA (by decide+kernel)
    ·exact absurd hA (by decide+kernel)
    ·exact absurd hA (by decide+kernel)
    ·exact absurd hA (by decide+kernel)
   rcases hT with⟨rfl,rfl,hb,k⟩|⟨rfl,n,r,rfl,hl,hb,k⟩|⟨rfl,n,r,h1,rfl,hl,hb,k⟩|⟨rfl,n,r,m,rfl,hl,hb,k⟩|⟨rfl,n,r,m,rfl,hl,hb,hm,k⟩
   ·exact⟨_,rfl,_,_,wsA,_,rfl,rfl,kdA,fsA ("names",A.a29) (by simp),_,_,rfl,.inl ⟨rfl,rfl⟩,_,rfl,x,A.w8,dx,_,_,rfl,hx2,T.w44,T.w47,rfl,_,rfl,d,_,kvs,S,rfl,hd2,sd2,by omega,hb,fun t' H' hn s'=>k t' H' hn (s12.trans s')⟩
   ·exact⟨_,rfl,_,_,wsA,_,rfl,rfl,kdA,fsA ("show",A.a35) (by simp),_,_,rfl,.inr (.inl ⟨rfl,rfl⟩),_,rfl,x,A.w8,dx,_,_,rfl,hx2,T.w44,T.w47,rfl,_,rfl,d,g,kvs,gs,S,n,r,rfl,hd2,sd2,gg2,ga2,hl,hb,fun H' s'=>k H' (s12.trans s')⟩
   ·exact⟨_,rfl,_,_,wsA,_,rfl,rfl,kdA,fsA ("keeps",A.a40) (by simp),_,_,rfl,.inr (.inr (.inl ⟨rfl,rfl⟩)),_,rfl,x,A.w8,dx,_,_,rfl,hx2,T.w44,T.w47,rfl,_,rfl,d,g,kvs,gs,S,n,r,h1,rfl,hd2,sd2,gg2,ga2,hl,hb,fun H' s'=>k H' (s12.trans s')⟩
   ·exact⟨_,rfl,_,_,wsA,_,rfl,rfl,kdA,fsA ("count",A.a52) (by simp),_,_,rfl,.inr (.inr (.inr (.inl ⟨rfl,rfl⟩))),_,rfl,x,A.w8,dx,_,_,rfl,hx2,T.w44,T.w47,rfl,_,rfl,d,g,kvs,gs,S,n,r,m,rfl,hd2,sd2,gg2,ga2,hl,hb,fun H' s'=>k H' (s12.trans s')⟩
   ·exact⟨_,rfl,_,_,wsA,_,rfl,rfl,kdA,fsA ("list",A.a57) (by simp),_,_,rfl,.inr (.inr (.inr (.inr ⟨rfl,rfl⟩))),_,rfl,x,A.w8,dx,_,_,rfl,hx2,T.w44,T.w47,rfl,_,rfl,d,g,kvs,gs,S,n,r,m,rfl,hd2,sd2,gg2,ga2,hl,hb,hm,fun H' s'=>k H' (s12.trans s')⟩
  rw[decide_eq_false hA];refine iteF ?_;dsimp only[bc];subst hnt;refine cut1 fun nxt hnt=>?_;refine⟨_,rfl,_,wsP,wd,rfl,rfl,kdP,_,rfl,?_⟩;rw[pE keysP];by_cases hP:wd∈rS
  ·rw[decide_eq_true hP];refine iteT ?_;have hT:(∃n r,fo S wd as n r/\mL r/\ ∀(H':Hp)(O':List Addr),After A.w8 H H' x O O' (putS S n r) (past++[S]) []->Q (.str (rtxt r)) H')\/(wd=Str.ofString "add"/\fm S as/\ ∀H',Same H H'->E (.ref A.w2) none H')\/(wd=Str.ofString "take"/\vg S as/\ ∀H',Same H H'->E (.ref A.w4) none H'):=by
    rcases h with hT|hT|⟨S',p',u',hm,_⟩|⟨form',n,hf',hn',k⟩|hT|hT|⟨rfl,_⟩|⟨rfl,_⟩
    ·rcases hT with⟨rfl,_⟩|⟨rfl,_⟩|⟨rfl,_⟩|⟨rfl,_⟩|⟨rfl,_⟩ <;>exact absurd hP (by decide+kernel)
    ·exact .inl hT
    ·rcases hm with⟨rfl,_⟩|⟨rfl,_⟩|⟨rfl,_⟩ <;>exact absurd hP (by decide+kernel)
    ·rw[hf]at hf';cases hf';rw[hn]at hn';cases hn'
    ·exact .inr (.inl hT)
    ·exact .inr (.inr hT)
    ·exact absurd hP (by decide+kernel)
    ·exact absurd hP (by decide+kernel)
   obtain⟨f,R,F,B,hv,hG,hc⟩:∃f R F B,valueAt wsP (.inr wd)=some (.ref f)/\Zf A f (v8 A R F B)/\((∃n r,R S as n r/\mL r/\ ∀(H':Hp)(O':List Addr),After A.w8 H H' x O O' (putS S n r) (past++[S]) []->Q (.str (rtxt r)) H')\/(F S as/\ ∀H',Same H H'->E (.ref A.w2) none H')\/(B S as/\ ∀H',Same H H'->E (.ref A.w4) none H')):=by
    rcases hT with⟨n,r,hp,k⟩|⟨rfl,k⟩|⟨rfl,k⟩
    ·rcases hp with⟨rfl,e⟩|⟨rfl,e⟩|⟨rfl,e⟩|⟨rfl,e⟩
     ·exact⟨_,PNew,PNo,PNo,fsP ("rule",A.a58) (by simp),.inl ⟨rfl,rfl⟩,.inl ⟨n,r,e,k⟩⟩
     ·exact⟨_,PAdd,fm,PNo,fsP ("add",A.a60) (by simp),.inr (.inl ⟨rfl,rfl⟩),.inl ⟨n,r,e,k⟩⟩
     ·exact⟨_,iw,PNo,vg,fsP ("take",A.a61) (by simp),.inr (.inr (.inl ⟨rfl,rfl⟩)),.inl ⟨n,r,e,k⟩⟩
     ·exact⟨_,om,PNo,PNo,fsP ("copy",A.a59) (by simp),.inr (.inr (.inr ⟨rfl,rfl⟩)),.inl ⟨n,r,e,k⟩⟩
    ·exact⟨_,PAdd,fm,PNo,fsP ("add",A.a60) (by simp),.inr (.inl ⟨rfl,rfl⟩),.inr (.inl k)⟩
    ·exact⟨_,iw,PNo,vg,fsP ("take",A.a61) (by simp),.inr (.inr (.inl ⟨rfl,rfl⟩)),.inr (.inr k)⟩
   refine⟨_,rfl,_,_,wsP,_,rfl,rfl,kdP,hv,_,_,rfl,hG,_,rfl,x,A.w8,dx,_,_,rfl,hx2,T.w44,T.w47,rfl,_,rfl,d,g,kvs,gs,S,as,rfl,hd2,sd2,gg2,ga2,?_⟩;rcases hc with⟨n,r,e,hb,k⟩|⟨e,k⟩|⟨e,k⟩
   case inr.inl=>exact .inr (.inl ⟨e,fun H' s'=>k H' (s12.trans s')⟩)
   case inr.inr=>exact .inr (.inr ⟨e,fun H' s'=>k H' (s12.trans s')⟩)
   refine .inl ⟨n,r,e,fun tt v H3 gt3 hv3 s3=>?_⟩;refine⟨_,rfl,x,dx,_,rfl,s3 _ _ hx2,rfl,_,rfl,tt,_,0,_,rfl,rfl,SqT.of gt3,zr (j:=0) rfl,_,rfl,tt,_,1,_,rfl,rfl,SqT.of gt3,zr (j:=1) rfl,x,n,v,r,O,S,past,und,rfl,D2.same s3,hv3,by omega,lp,fun H4 O4 A4=>?_⟩;obtain⟨p,rs,rfl,gp,a2⟩:=hv3.mv A4.tups;refine⟨_,rfl,tt,_,1,_,rfl,rfl,SqT.of (A4.tups _ _ gt3),zr (j:=1) rfl,p,r,rs,rfl,gp,a2,hb.1,hb.2,fun H5 s5=>?_⟩;exact k H5 O4 ((A4.post s5).pre (s12.trans s3))
  rw[decide_eq_false hP];refine iteF ?_;dsimp only[bc];subst hnt;have hT:(∃S' past' und',mM S past und wd as S' past' und'/\mO S'/\S'.length<64/\ ∀t (H':Hp) (O':List Addr),yf (S'.map (·.1)) t->After A.w8 H H' x O O' S' past' und'->Q (.str t) H')\/(wd=Str.ofString "undo"/\as=[]/\past=[]/\ ∀H',Same H H'->E (.ref A.w7) none H')\/(wd=Str.ofString "again"/\as=[]/\und=[]/\ ∀H',Same H H'->E (.ref A.w7) none H'):=by
   rcases h with hT|⟨n,r,hp,_⟩|hT|⟨form',n,hf',hn',k⟩|⟨rfl,_⟩|⟨rfl,_⟩|hT|hT
   ·rcases hT with⟨rfl,_⟩|⟨rfl,_⟩|⟨rfl,_⟩|⟨rfl,_⟩|⟨rfl,_⟩ <;>exact absurd (by decide+kernel) hA
   ·rcases hp with⟨rfl,_⟩|⟨rfl,_⟩|⟨rfl,_⟩|⟨rfl,_⟩ <;>exact absurd (by decide+kernel) hP
   ·exact .inl hT
   ·rw[hf]at hf';cases hf';rw[hn]at hn';cases hn'
   ·exact absurd (by decide+kernel) hP
   ·exact absurd (by decide+kernel) hP
   ·exact .inr (.inl hT)
   ·exact .inr (.inr hT)
  dsimp only[bc,kc];rcases hT with⟨S',past',und',hm,hb,l64,k⟩|⟨rfl,rfl,rfl,k⟩|⟨rfl,rfl,rfl,k⟩
  case inr.inl =>
   refine⟨_,rfl,rfl,_,rfl,ite2 (fun z=>absurd z (by decide+kernel)) (fun _=>⟨_,rfl,rfl,_,rfl,iteT ?_⟩)⟩;exact⟨_,rfl,x,dx,_,rfl,hx2,rfl,x,O,S,[],und,rfl,D2,lp,lu,.inr ⟨rfl,k _ s12⟩⟩
  case inr.inr =>
   refine⟨_,rfl,rfl,_,rfl,ite2 (fun z=>absurd z (by decide+kernel)) (fun _=>⟨_,rfl,rfl,_,rfl,iteF ?_⟩)⟩;exact⟨_,rfl,x,dx,_,rfl,hx2,rfl,x,O,S,past,[],rfl,D2,lp,lu,.inr ⟨rfl,k _ s12⟩⟩
  refine ye (fun σ' H'=>∃ O',σ'=[some (.ref x),some (.str z),some (.ref t),some (.str wd),some (.ref g),none]/\After A.w8 H H' x O O' S' past' und') (fun nx hnx=>?_) ?_
  ·rcases hm with⟨rfl,n,r,rfl,hl,rfl,rfl,rfl⟩|⟨rfl,rfl,rfl,rfl⟩|⟨rfl,rfl,rfl,rfl⟩
   ·cases ga2 with
    |cons h1 ga2 =>
     cases ga2;cases h1;refine⟨_,rfl,rfl,_,rfl,iteT ?_⟩;exact⟨_,rfl,x,dx,_,rfl,hx2,rfl,_,rfl,g,_,0,_,rfl,rfl,SqL.of gg2,zr (j:=0) rfl,x,n,r,O,S,past,und,rfl,D2,hl,lp,fun H3 O3 A3=>hnx _ _ ⟨O3,rfl,A3.pre s12⟩⟩
   ·refine⟨_,rfl,rfl,_,rfl,ite2 (fun z=>absurd z (by decide+kernel)) (fun _=>⟨_,rfl,rfl,_,rfl,iteT ?_⟩)⟩;exact⟨_,rfl,x,dx,_,rfl,hx2,rfl,x,O,S,_,und,rfl,D2,lp,lu,.inl ⟨S',past',rfl,fun H3 A3=>hnx _ _ ⟨O,rfl,A3.pre s12⟩⟩⟩
   ·refine⟨_,rfl,rfl,_,rfl,ite2 (fun z=>absurd z (by decide+kernel)) (fun _=>⟨_,rfl,rfl,_,rfl,iteF ?_⟩)⟩;exact⟨_,rfl,x,dx,_,rfl,hx2,rfl,x,O,S,past,_,rfl,D2,lp,lu,.inl ⟨S',und',rfl,fun H3 A3=>hnx _ _ ⟨O,rfl,A3.pre s12⟩⟩⟩
  ·rintro σ' H' ⟨O',rfl,A'⟩;obtain⟨mx',al',dx',d',pl',ul',xs',ys',hx',⟨_,kvs',ed',md',hd',sd'⟩,_⟩:=A'.desk;cases ed';exact⟨_,rfl,x,A.w8,dx',_,_,rfl,hx',T.w44,T.w47,rfl,_,rfl,d',_,kvs',S',rfl,hd',sd',l64,hb,fun t' H'' hn' s'=>k t' H'' O' hn' (A'.post s')⟩
def ah:List Str:=["_law_desk","_law_line","_law_found","e"]
theorem jt:FnScope ah ["_law_desk","_law_line"] (z7 xi):=FS
inductive sp_told(A:Adr)(vs:List V)(H:Hp)(Q:VK)(E:XK):Prop
 |mk (x:Addr) (line:Str) (O:List Addr) (S:Std) (past und:List Std) (due:DueT) (S':Std) (past' und':List Std):vs=[.ref x,.str line]->DeskAt A.w8 H x O S past und->xO S past und line due S' past' und'->(∀(t:Addr)(H':Hp)(O':List Addr),H' t=some (.tup (KZ due))->After A.w8 H H' x O O' S' past' und'->Q (.ref t) H')->sp_told A vs H Q E
theorem c8(T:Txt P w K mg A):FnOk P w K mg base CX0 32 A.a63 A.f63 ["_law_desk","_law_line"] (sp_told A):=by
 refine T.x63.F.ok jt (by walk_at "n") fun _ _ _ s H vs Q E hr h=>?_
 ·obtain⟨x,line,O,S,past,und,due,S',past',und',rfl,D,hs,k⟩:=h;refine⟨_,(z8 (pset 2 jt.nd (zI (pa2 zC zc)))
    (z8 (Y5 (i:=3) (j:=2) rfl rfl (Y7 (Y6 (pv 0) T.w44 T.x62.mt (dY T) (hr.mono (by decide)) T.x62.b .nil (pa1 (pv 1)))) rfl T.w30 (fun _=>(z9 (pset 2 jt.nd (zI (pa2 zC (ZZ (K:=K) rfl (pv 3) rfl)))))) zq jt.nd rfl rfl rfl (by first|exact Or.inl rfl|exact Or.inr rfl))
    (z9 (zo (pv 2))))),?_⟩
  obtain⟨hh,hk⟩:=T.kin;obtain⟨lz,l50,lp,lu,wd,as,hrd,hc⟩:=hs;refine⟨by show 2<=sizeLine;decide,fun t0 ht0=>?_⟩;have s0:=Same.new (o:=.tup [V.str (Str.ofString "none"),V.int 0]) ht0;have D0:=D.same s0;generalize upd H t0 (.tup [V.str (Str.ofString "none"),V.int 0])=H0 at s0 D0 ⊢;obtain⟨mx,al,dx,d,pl,ul,xs,ys,hx,_⟩:=id D0;refine⟨_,rfl,x,dx,_,rfl,hx,rfl,_,rfl,x,line,O,S,past,und,wd,as,rfl,lz,D0,hrd,l50,lp,lu,?_⟩;rcases hc with⟨t,rfl,rfl,rfl,rfl,ha⟩|⟨n,r,hp,hb,rfl,rfl,rfl,rfl⟩|⟨t,hm,nm,l64,hN,rfl⟩|⟨form,n,hf,hn,rfl,rfl,rfl,rfl⟩
  ·have fin:∀H1,Same H0 H1-> ∀p,H1 p=none-> ∃v,([some (V.ref x),some (V.str line),some (V.ref p),none]:L2.St)[2]? =some (some v)/\Q v (upd H1 p (.tup [V.str (Str.ofString "told"),V.str t])):=fun H1 s1 p hp=>⟨_,rfl,k p _ O z6 (After.refl D ((s0.trans s1).trans (Same.new hp)))⟩;refine .inl ?_;rcases ha with⟨rfl,n,r,h,rfl,hl,hb,rfl⟩|⟨rfl,n,r,m,rfl,hl,hb,rfl⟩|⟨rfl,n,r,m,rfl,hl,hb,hm,rfl⟩
   ·exact .inr (.inr (.inl ⟨rfl,n,r,h,rfl,hl,hb,fun H1 s1 p hp=>fin H1 s1 p hp⟩))
   ·exact .inr (.inr (.inr (.inl ⟨rfl,n,r,m,rfl,hl,hb,fun H1 s1 p hp=>fin H1 s1 p hp⟩)))
   ·exact .inr (.inr (.inr (.inr ⟨rfl,n,r,m,rfl,hl,hb,hm,fun H1 s1 p hp=>fin H1 s1 p hp⟩)))
  ·exact .inr (.inl ⟨n,r,hp,hb,fun H1 O1 A1 p hp=>⟨_,rfl,k p _ O1 z6 ((A1.pre s0).post (Same.new hp))⟩⟩)
  ·refine .inr (.inr (.inl ⟨S',past',und',hm,nm,l64,fun t' H1 O1 hN' A1 p hp=>⟨_,rfl,k p _ O1 ?_ ((A1.pre s0).post (Same.new hp))⟩⟩));rw[yf.eq (List.Perm.refl _) hN hN'];exact z6
  ·refine .inr (.inr (.inr (.inl ⟨form,n,hf,hn,fun dx1 H1 gdx s1=>?_⟩)));refine⟨_,rfl,Takes.mkI hk T.w50 (T.w50.isX hk) T.w43,fun e hen=>?_⟩;have sE:=Same.new (o:=.ext (vS e (.ref A.w6) (some dx1))) hen;have he:=z6 (H:=H1) (a:=e) (o:=.ext (vS e (.ref A.w6) (some dx1)));have gE:=sE _ _ gdx;generalize upd H1 e (.ext (vS e (.ref A.w6) (some dx1)))=HE at sE he gE ⊢;have hlk:List.lookup ("name" : Str) [(("name" : Str),V.str n)]=some (V.str n):=by simp[List.lookup]
   refine⟨_,rfl,e,A.w6,dx1,_,_,rfl,he,gE,T.w51,T.w49,hlk,by show 2<=sizeLine;decide,fun p hp=>?_⟩;exact⟨_,rfl,k p _ O z6 (After.refl D (((s0.trans s1).trans sE).trans (Same.new hp)))⟩
def fL:List Str:=["_law_desk","_law_rows_here","_law_line","_law_due","_law_word","_law_value"]
theorem jo:FnScope fL ["_law_desk","_law_rows_here"] (z7 rB):=FS
inductive sp_all(A:Adr)(vs:List V)(H:Hp)(Q:VK)(E:XK):Prop
 |mk (x rl:Addr) (O:List Addr) (S:Std) (past und:List Std) (rows:List (Str×DueT)) (us:List V):vs=[.ref x,.ref rl]->DeskAt A.w8 H x O S past und->H rl=some (.lst us)->All2 RowD H rows us->rl∉O->Runs S past und rows->rows.length<=1000->(∀H',Q (.bl true) H')->sp_all A vs H Q E
theorem ar(T:Txt P w K mg A):FnOk P w K mg base CX0 34 A.a64 A.f64 ["_law_desk","_law_rows_here"] (sp_all A):=by
 refine T.x64.F.ok jo (by walk_at "n") fun _ _ _ s H vs Q E hr h=>?_
 ·obtain⟨x,rl,O,S,past,und,rows,us,rfl,D,hrl,hv,no,run,ll,k⟩:=h;refine⟨_,(z8 (yK PassesOwn.never rfl (zT (pv 1)) (eS rfl (yR (pgn 2 jo.nd) (yR (pgn 3 jo.nd) vF)))
     (z8 (nA (pcl (c8 T) hr T.x63 (pa2 (pv 0) (pv 2))) (eS rfl (yR (pgn 4 jo.nd) (yR (pgn 5 jo.nd) vF))))
    (z9 (zG (yh (zp aQ rfl T.w4 boot_isinstance (pa2 (pv 3) (nj (v:=.ty "tuple") rfl T.w13 boot_tuple rfl))) (fun _=>rfl))
     (z9 (zG (zi (na ZH (huR hr)) (zI (pa2 (pv 4) (pv 5))) (pv 3) (zA _))
     (z9 (zo aB)) zq)) (z9 (zG (PW.pt (cE (zi YM (pv 4) zC (zA _)) (gP (gM (yh (pcl (fT T) hr T.x16 (pa2 (pv 5) (pv 3))) (fun _=>rfl))))))
     (z9 (zo aB)) zq))))))
    (z9 (zo aB))),?_⟩
  refine⟨_,rfl,rl,rfl,⟨_,SqL.of hrl⟩,jq (xs:=us) (fun i σ' H'=>∃(O':List Addr)(S':Std)(past' und':List Std)(v2 v3 v4 v5:Option V),σ'=[some (.ref x),some (.ref rl),v2,v3,v4,v5]/\After A.w8 H H' x O O' S' past' und'/\Runs S' past' und' (rows.drop i)) ⟨O,S,past,und,_,_,_,_,rfl,After.refl D (Same.refl _),run⟩ ?_ ?_ ?_⟩
  ·rintro i σ' H' _ ⟨O',S',past',und',v2,v3,v4,v5,rfl,A',_⟩;exact SqL.of (A'.keep _ _ hrl no)
  ·rintro i y σ' H' hy ⟨O',S',past',und',v2,v3,v4,v5,rfl,A',run'⟩;obtain⟨⟨line,due⟩,hr0,q,u,rfl,gq,hu⟩:=hv.get hy;have hi:=(List.getElem?_eq_some_iff.mp hr0).1;rw[drop_eq_getElem_cons hi,(List.getElem?_eq_some_iff.mp hr0).2]at run';cases run' with
   | @cons _ S2 _ _ p2 u2 _ _ _ hst run2 =>
    dsimp only at gq hu;refine⟨q,_,rfl,SqT.of (A'.tups _ _ gq),rfl,_,_,rfl,_,_,rfl,rfl,?_⟩;refine⟨_,rfl,_,rfl,x,line,O',S',past',und',due,S2,p2,u2,rfl,A'.desk,hst,fun t H2 O2 gt A2=>?_⟩;have A02:=A'.trans A2;have hu2:=hu.mv A02.tups;cases due with
    |inl z =>
     have eu:u= .str z:=hu2;subst eu;refine⟨t,_,rfl,SqT.of gt,rfl,_,_,rfl,_,_,rfl,rfl,?_⟩;refine⟨_,rfl,_,_,_,false,rfl,TyOf.str _,bT,false,rfl,iteF ?_⟩;refine⟨_,rfl,rfl,_,rfl,oM rfl ?_⟩;refine⟨_,rfl,_,rfl,z,z,rfl,true,by rw[decide_eq_true rfl];rfl,iteF ?_⟩;exact⟨O2,S2,p2,u2,_,_,_,_,rfl,A02,run2⟩
    |inr n =>
     obtain⟨d,rfl,gd⟩:=hu2;refine⟨t,_,rfl,SqT.of gt,rfl,_,_,rfl,_,_,rfl,rfl,?_⟩;refine⟨_,rfl,_,_,_,true,rfl,TyOf.tup gd,bU,true,rfl,iteT ?_⟩;refine⟨_,rfl,_,rfl,by show 2<=sizeLine;decide,fun t2 ht2=>?_⟩;have s2:=Same.new (o:=.tup [V.str (Str.ofString "name"),V.str n]) ht2;refine⟨_,rfl,[Str.ofString "name",n],[Str.ofString "name",n],⟨t2,_,rfl,SqT.of z6,qi [Str.ofString "name",n]⟩,⟨d,_,rfl,SqT.of (s2 _ _ gd),qi [Str.ofString "name",n]⟩,_,rfl,oM rfl ?_⟩;exact⟨O2,S2,p2,u2,_,_,_,_,rfl,A02.post s2,run2⟩
  ·rintro σ' H' _;exact k H'
def vx:List Str:=["_law_state","_law_rule","_law_heap_here"]
theorem kj:FnScope vx ["_law_state","_law_rule"] (z7 jP):=FS
inductive sp_asked(vs:List V)(H:Hp)(Q:VK)(E:XK):Prop
 |mk (st ga ca:Addr) (N:Nat) (p:Addr) (rs:List V) (rule:List (List Int)):vs=[.ref st,.ref p]->StAt H st ga ca N->N<=10^6->H p=some (.tup rs)->All2 Tup1 H rule rs->rule.length<=6->(∀h∈rule,h.length<=8/\ ∀x∈h,1<=x/\x<=8)->(∀(q:Addr)(h:List Int)(H':Hp),H' q=some (.tup (h.map V.int))->h.length<=10->(∀x∈h,1<=x/\x<=8)->h.Pairwise (· >= ·)->StAt H' st ga ca (N+500)->Keep [st,ga] H H'->Q (.ref q) H')->sp_asked vs H Q E
theorem uL(T:Txt P w K mg A):FnOk P w K mg base CX0 5 A.a65 A.f65 ["_law_state","_law_rule"] sp_asked:=by
 refine T.x65.F.ok kj (by walk_at "n") fun _ _ _ s H vs Q E hr h=>?_
 ·obtain⟨st,ga,ca,N,p,rs,rule,rfl,S,hN,gp,a2,hl,hb,k⟩:=h;refine⟨_,(z8 (pset 2 kj.nd (pcl (wL T) hr T.x3 (pa3 (pv 0) zc zc)))
    (z8 (zG (PW.pt (gO (yh (pv 1) (fun _=>rfl)) (vG (zi yM (pcl (zw T) hr T.x2 (pa2 (pv 0) zc)) zc (zA _)))))
     (z9 (pset 2 kj.nd (pZ rfl T.w10 (zu vA (pix uE (pv 1) (pcl (zw T) hr T.x2 (pa2 (pv 0) (zp zk rfl T.w5 PySem.boot_len (pa1 (pv 1)))))) (yr uu (pv 2) kf (kg zc)))))) zq)
    (z9 (zo (zH zU rfl T.w13 boot_tuple (pa1 (pv 2))))))),?_⟩
  have rl:=a2.length;refine⟨_,rfl,st,ga,ca,N,8,8,rfl,S,by omega,by decide,by decide,by decide,by decide,fun q h H1 hl1 hb1 hp1 gq nq S1 K1=>?_⟩;have gp1:=K1.tups S _ _ gp;have a1:=a2.mv (K1.tups S);dsimp only[bc,kc];refine ye (fun σ' H'=>∃(q:Addr)(h:List Int),σ'=[some (.ref st),some (.ref p),some (.ref q)]/\(H' q=some (.tup (h.map V.int))\/H' q=some (.lst (h.map V.int)))/\h.length<=10/\(∀x∈h,1<=x/\x<=8)/\h.Pairwise (· >= ·)/\StAt H' st ga ca (N+450)/\Keep [st,ga] H H') (fun nx hnx=>?_) ?_
  ·have skp:∀H' M,StAt H' st ga ca M->M<=N+450->Keep [st,ga] H1 H'->nx [some (.ref st),some (.ref p),some (.ref q)] H':=fun H' M S' hM K'=>hnx _ _ ⟨q,h,rfl,.inl (K'.tups S1 _ _ gq),by omega,hb1,hp1,S'.mono hM,K1.trans K'⟩;by_cases h0:rs=[]
   ·subst h0;exact⟨_,rfl,false,.inr (.inl ⟨_,SqT.of gp1,rfl⟩),iteF (skp H1 _ S1 (by omega) (Keep.refl _ _))⟩
   have hne:true= !rs.isEmpty:=by cases rs with|nil=>exact absurd rfl h0|cons _ _=>rfl
   have rpos:0<rs.length:=List.length_pos_iff.mpr h0;refine⟨_,rfl,true,.inr (.inl ⟨_,SqT.of gp1,hne⟩),iteT ?_⟩;refine⟨_,rfl,st,ga,ca,_,2,rfl,S1,by omega,by decide,by decide,fun b H2 b0 b1 S2 K2=>⟨rfl,_,rfl,ite2 (fun _=>?_) (fun _=>skp H2 _ S2 (by omega) K2)⟩⟩;have gp2:=K2.tups S1 _ _ gp1;have a22:=a1.mv (K2.tups S1);have gq2:=K2.tups S1 _ _ gq;refine⟨_,rfl,_,rfl,_,rfl,p,_,rfl,.inr (SqT.of gp2),st,ga,ca,_,_,rfl,S2,by omega,by omega,Int.le_trans (show(rs.length:Int)<=6 by omega) (by decide),fun z H3 z0 z1 S3 K3=>?_⟩;obtain⟨j,rfl⟩:∃j:Nat,z=(j:Int):=⟨z.toNat,by omega⟩;obtain⟨u,hu⟩:∃u,rs[j]? =some u:=⟨_,getElem?_eq_getElem (by omega)⟩;obtain⟨h',hh',q',rfl,gq'⟩:=a22.get hu;have hb':=hb h' (mem_of_getElem? hh');have t3:=K3.tups S2;refine⟨p,_,_,_,rfl,rfl,SqT.of (t3 _ _ gp2),zr hu,_,rfl,?_⟩;dsimp only[yH,tNil];refine⟨2,rfl,wz (t3 _ _ gq2) fun q3 H4 g4 s4=>?_⟩;have e2:cutV (h.map V.int) none (some 2)=(h.take 2).map V.int:=by
    rw[show(some (2:Int))=some ((2:Nat):Int)from rfl,pT,length_map,List.map_take];rcases Nat.le_total 2 h.length with c|c
    ·rw[Nat.min_eq_left c]
    ·rw[Nat.min_eq_right c,take_of_length_le (by simp),take_of_length_le (by simpa using c)]
   rw[e2]at g4;refine bM (s4 _ _ (t3 _ _ gq')) g4 (le_trans (m:=20) (by rw[length_map,length_map,length_take];omega) (by decide)) fun q5 H5 g5 s5=>?_;rw[<-map_append]at g5;refine⟨q5,h'++h.take 2,rfl,.inr (SqT.of g5),by rw[length_append,length_take];omega,fun ms q6 pm od hq6=>?_⟩;have s45:=s4.trans (s5.trans (Same.new (o:=.lst (ms.map V.int)) hq6));have K2':=K1.trans (K2.trans (K3.trans s45.keep));refine hnx _ _ ⟨q6,ms,rfl,.inr z6,by rw[pm.length_eq,length_append,length_take];omega,fun x hx=>?_,od,(S3.same s45).mono (by omega),K2'⟩;rcases mem_append.mp (pm.mem_iff.mp hx)with hx|hx
   ·exact hb'.2 x hx
   ·exact hb1 x (List.mem_of_mem_take hx)
  rintro _ H2 ⟨q2,h2,rfl,gq2,l2,b2,p2,S2,K2⟩;refine⟨_,rfl,q2,h2.map V.int,rfl,?_⟩;rcases gq2 with g|g
  ·exact .inr ⟨SqT.of g,k q2 h2 H2 g l2 b2 p2 (S2.mono (by omega)) K2⟩
  ·refine .inl ⟨SqL.of g,fun l hl'=>?_⟩;have s:=Same.new (o:=.tup (h2.map V.int)) hl';exact k l h2 _ z6 l2 b2 p2 ((S2.same s).mono (by omega)) (K2.trans s.keep)
def qN:List Str:=["self"]
theorem pL:FnScope qN ["self"] (z7 wS):=FS
inductive sp_desk_init(A:Adr)(vs:List V)(H:Hp)(Q:VK)(E:XK):Prop
 |mk (x dx:Addr):vs=[.ref x]->H x=some (.ins A.w8 dx [])->(∀(H':Hp)(O:List Addr),DeskAt A.w8 H' x O [] [] []->(∀b o,H b=some o->b≠x->H' b=some o)->(∀b∈O,b=x\/H b=none)->Q .non H')->sp_desk_init A vs H Q E
theorem pG(T:Txt P w K mg A):FnOk P w K mg base CX0 1 A.a66 A.f66 ["self"] (sp_desk_init A):=by
 refine T.x66.F.ok pL (by walk_at "n") fun _ _ _ s H vs Q E hr h=>?_
 ·obtain⟨x,dx,rfl,hx,k⟩:=h;refine⟨_,(z8 (gL (pv 0) eO rfl)
    (z8 (gL (pv 0) (yd ku) rfl)
    (z9 (gL (pv 0) (yd ku) rfl)))),?_⟩
  refine fun d hd=>⟨_,rfl,x,A.w8,dx,[],rfl,by rw[zh (zj hx hd)];exact hx,T.w44,T.w47,(by show 0<1000;decide),?_⟩;have nxd:=zj hx hd;refine⟨by show 0<=sizeLine;decide,fun pl hpl=>⟨_,rfl,x,A.w8,dx,[("standing",.ref d)],rfl,?_,T.w44,T.w46,(by show 1<1000;decide),?_⟩⟩
  ·have:x≠pl:=fun e=>by rw[<-e,z6]at hpl;cases hpl
   rw[zh this,z6];rfl
  have nxp:pl≠x:=fun e=>by rw[e,z6]at hpl;cases hpl
  rw[zh nxp]at hpl;have npd:pl≠d:=fun e=>by rw[e,z6]at hpl;cases hpl
  rw[zh npd]at hpl;refine⟨by show 0<=sizeLine;decide,fun ul hul=>⟨_,rfl,x,A.w8,dx,[("standing",.ref d),("past",.ref pl)],rfl,?_,T.w44,T.w48,(by show 2<1000;decide),?_⟩⟩
  ·have:x≠ul:=fun e=>by rw[<-e,z6]at hul;cases hul
   rw[zh this,z6];rfl
  have nxu:ul≠x:=fun e=>by rw[e,z6]at hul;cases hul
  rw[zh nxu]at hul;have nup:ul≠pl:=fun e=>by rw[e,z6]at hul;cases hul
  rw[zh nup,zh nxu]at hul;have nud:ul≠d:=fun e=>by rw[e,z6]at hul;cases hul
  rw[zh nud]at hul;refine k _ [x,d,pl,ul] ⟨by simp,fun b hb=>?_,dx,d,pl,ul,[],[],z6,⟨d,[],rfl,by simp,?_,.nil⟩,?_,.nil,?_,.nil,by simp,by simp,nup.symm⟩ (fun b o hb hne=>?_) (fun b hb=>?_)
  ·have:b=x\/b=d\/b=pl\/b=ul:=by simpa using hb
   rcases this with rfl|rfl|rfl|rfl
   ·exact⟨_,z6⟩
   ·exact⟨_,by rw[zh nxd.symm,zh nud.symm,zh nxd.symm,zh npd.symm,zh nxd.symm,z6]⟩
   ·exact⟨_,by rw[zh nxp,zh nup.symm,zh nxp,z6]⟩
   ·exact⟨_,by rw[zh nxu,z6]⟩
  ·rw[zh nxd.symm,zh nud.symm,zh nxd.symm,zh npd.symm,zh nxd.symm,z6]
  ·rw[zh nxp,zh nup.symm,zh nxp,z6]
  ·rw[zh nxu,z6]
  ·rw[zh hne,zh (zj hb hul),zh hne,zh (zj hb hpl),zh hne,zh (zj hb hd)];exact hb
  ·have:b=x\/b=d\/b=pl\/b=ul:=by simpa using hb
   rcases this with rfl|rfl|rfl|rfl
   ·exact .inl rfl
   ·exact .inr hd
   ·exact .inr hpl
   ·exact .inr hul
def YI:List Str:=["_law_script","_law_state","_law_names","_law_rule","_law_other","_law_heap_here","_law_small","_law_great","_law_ways_here","_law_more","_law_deed","_law_new","_law_at","_law_first_here","_law_behind","_law_second","_law_both","_law_rows_here"]
theorem yn:FnScope YI ["_law_script"] (z7 nO):=FS
inductive sp_law(K:W.Frag)(vs:List V)(H:Hp)(Q:VK)(E:XK):Prop
 |mk (a:Addr) (ns:List Int):vs=[.ref a]->SqL K H a (ns.map V.int)->ns.length<=63->(∀H',Q (.bl true) H')->sp_law K vs H Q E
theorem YL(T:Txt P w K mg A):FnOk P w K mg base CX0 40 A.a67 A.f67 ["_law_script"] (sp_law K):=by
 refine T.x67.F.ok yn (by walk_at "n") fun _ _ _ s H vs Q E hr h=>?_
 ·obtain⟨a,ns,rfl,hS,hl,k⟩:=h;refine⟨_,(z8 (pset 1 yn.nd (pcl (tW T) hr T.x0 (pa1 (pv 0))))
    (z8 (pset 2 yn.nd (yd (pa1 (pcl (vY T) hr T.x5 (pa2 (pv 1) (yd ku))))))
    (z8 (zM (yU PySem.F.plainAttrs_list PySem.F.slot_list_append PySem.F.type_list_append yw (pv 2 (hv:=Or.inr (Or.inl rfl))) (pa1 (pcl (vY T) hr T.x5 (pa2 (pv 1) (pv 2 (hv:=Or.inr (Or.inl rfl))))))))
    (z8 (pset 3 yn.nd (pcl (wm T) hr T.x4 (zW (pv 1) (pa3 (pcl (zw T) hr T.x2 (pa2 (pv 1) zc)) zc zc))))
    (z8 (pset 4 yn.nd (pcl (wm T) hr T.x4 (zW (pv 1) (pa3 (pcl (zw T) hr T.x2 (pa2 (pv 1) zc)) zc zc))))
    (z8 (pset 5 yn.nd (pcl (uL T) hr T.x65 (pa2 (pv 1) (pv 3))))
    (z8 (pset 6 yn.nd (pcl (zw T) hr T.x2 (pa2 (pv 1) zc)))
    (z8 (pset 7 yn.nd (pcl (zw T) hr T.x2 (pa2 (pv 1) (pix zt (yd (pa2 zc zc)) (pcl (zw T) hr T.x2 (pa2 (pv 1) zc))))))
    (z8 (zG (zi yM (pcl (zw T) hr T.x2 (pa2 (pv 1) zc)) zc (zA _))
     (z8 (nE (i:=3) (j:=4) rfl yn.nd rfl rfl (by decide) rfl rfl (pa2 (yr uu (pv 3) kf (kg zc)) (yr uu (pv 4) kf (kg zc))) rfl)
    (z9 (pset 6 yn.nd (zu kr zc (pcl (zw T) hr T.x2 (pa2 (pv 1) zc)))))) zq)
    (z8 (zG (zi yM (pcl (zw T) hr T.x2 (pa2 (pv 1) zc)) zc (zA _))
     (z9 (pset 7 yn.nd (zu wN zc (pcl (zw T) hr T.x2 (pa2 (pv 1) zc))))) zq)
    (z8 (pset 8 yn.nd (pcl (c9 T) hr T.x8 (pa1 (pv 7))))
    (z8 (zG (PW.pt (gO (zi hV (zp zk rfl T.w5 PySem.boot_len (pa1 (pv 3))) zc (zA _)) (vG (PW.pt (cE (zi yM (zp zk rfl T.w5 PySem.boot_len (pa1 (pv 3))) zc (zA _)) (gP (zi yM (pcl (zw T) hr T.x2 (pa2 (pv 1) zc)) zc (zA _))))))))
     (z8 (pset 9 yn.nd (pcl (wL T) hr T.x3 (pa3 (pv 1) zc zc)))
    (z9 (nE (i:=10) (j:=11) rfl yn.nd rfl rfl (by decide) rfl rfl (pa2 (zu yI (vE (yz (kx (pix zt (pv 2 (hv:=Or.inr (Or.inl rfl))) zc) (yz jK)))) (pcl (ya T) hr T.x6 (pa1 (pv 9)))) (zu vA (pv 3) (zI (pa1 (pv 9))))) rfl))) (z8 (pset 12 yn.nd (pcl (zw T) hr T.x2 (pa2 (pv 1) (zp zk rfl T.w5 PySem.boot_len (pa1 (pv 3))))))
    (z9 (nE (i:=10) (j:=11) rfl yn.nd rfl rfl (by decide) rfl rfl (pa2 (vE (yz (kx (pix zt (pv 2 (hv:=Or.inr (Or.inl rfl))) zc) (yz (kx (pv 12) jK))))) (zu vA (yr uu (pv 3) kf (kg (pv 12))) (yr uu (pv 3) (kg (zu kr (pv 12) zc)) kf))) rfl))))
    (z8 (pset 13 yn.nd (pcl (js T) hr T.x15 (zW (pix zt (pv 2 (hv:=Or.inr (Or.inl rfl))) zc) (zW (pv 3) (zW (pv 5) (pa3 (pv 6) (pv 7) (pv 8)))))))
    (z8 (pset 14 yn.nd (pcl (js T) hr T.x15 (zW (pix zt (pv 2 (hv:=Or.inr (Or.inl rfl))) zc) (zW (pv 11) (zW (pv 5) (pa3 (pv 6) (pv 7) (pv 8)))))))
    (z8 (pset 15 yn.nd (pcl (js T) hr T.x15 (zW (pix zt (pv 2 (hv:=Or.inr (Or.inl rfl))) zc) (zW (pv 4) (zW (pv 5) (pa3 (pv 6) (pv 7) (pv 8)))))))
    (z8 (pset 16 yn.nd (yU PySem.F.plainAttrs_str PySem.F.slot_str_join PySem.F.type_str_join wE zC (pa1 (zp bC rfl T.w10 boot_sorted (pa1 (pv 2 (hv:=Or.inr (Or.inl rfl))))))))
    (z8 (pset 17 yn.nd (yd (pa1 (zI (pa2 (zu yI (vE (yz (kx (pix zt (pv 2 (hv:=Or.inr (Or.inl rfl))) zc) (yz jK)))) (pcl (zN T) hr T.x7 (pa1 (pv 4)))) (pcl (zN T) hr T.x7 (pa1 (pv 4))))))))
    (z8 (zM (yU PySem.F.plainAttrs_list PySem.F.slot_list_append PySem.F.type_list_append yw (pv 17) (pa1 (zI (pa2 (zu yI (vE (yz (kx (pix zt (pv 2 (hv:=Or.inr (Or.inl rfl))) zc) (yz jK)))) (pcl (zN T) hr T.x7 (pa1 (pv 3)))) (pcl (zN T) hr T.x7 (pa1 (pv 3))))))))
    (z8 (pset 17 yn.nd (zu kO (zu kO (zu kO (zu kO (zu kO (zu kO (pv 17) (pv 13)) (pv 15)) (yd (pa1 (zI (pa2 (pv 10) (pcl (zN T) hr T.x7 (pa1 (pv 11)))))))) (pv 14)) (yd (pa1 (zI (pa2 zC (pv 16)))))) (pv 13)))
    (z8 (pset 17 yn.nd (zu kO (zu kO (zu kO (pv 17) (yd (pa1 (zI (pa2 zC (pv 16)))))) (pv 14)) (yd (pa1 (zI (pa2 (vE (yz (kx (pix zt (pv 2 (hv:=Or.inr (Or.inl rfl))) zc) (yz (kx (pix zt (pv 2 (hv:=Or.inr (Or.inl rfl))) zc) jK))))) (pcl (zN T) hr T.x7 (pa1 (pv 4)))))))))
    (z8 (pset 17 yn.nd (zu kO (pv 17) (pcl (js T) hr T.x15 (zW (pix zt (pv 2 (hv:=Or.inr (Or.inl rfl))) zc) (zW (pv 4) (zW (pv 5) (pa3 (pv 6) (pv 7) (pv 8))))))))
    (z8 (zM (yU PySem.F.plainAttrs_list PySem.F.slot_list_append PySem.F.type_list_append yw (pv 17) (pa1 (zI (pa2 (vE (yz (kx (pix zt (pv 2 (hv:=Or.inr (Or.inl rfl))) zc) jK))) (pix zt (pv 2 (hv:=Or.inr (Or.inl rfl))) zc))))))
    (z8 (pset 17 yn.nd (zu kO (zu kO (pv 17) (zP (ls:=["_law_line","_law_due"]) (fr:=[("_law_names",2)]) (csf (z7 nO) YI) rfl (zT (pv 13)) (fun _ _ _ _=>aE 2 rfl (yR (pgc (ls:=["_law_line","_law_due"]) (fr:=[("_law_names",2)]) 0 (by decide+kernel) rfl rfl) (yR (pgc (ls:=["_law_line","_law_due"]) (fr:=[("_law_names",2)]) 1 (by decide+kernel) rfl rfl) vF)) rfl rfl) (fun _ _ _ _=>yy) (fun _ _ _ _=>(zI (pa2 (pvc (z7 nO) 0) (zI (pa2 zC (pix (oN K rfl) (pvc (z7 nO) 2) zc)))))))) (yd (pa2 (zI (pa2 zC (pv 16))) (zI (pa2 zC (pv 16)))))))
    (z9 (zo (pcl (ar T) hr T.x64 (pa2 (sw T.w45 (pG T) (hr.mono (by decide)) rfl T.w32 T.x66.b .nil wu) (zu kO (zu kO (pv 17) (yr aL (pv 14) (kg zc) kf)) (yr aL (pv 15) kf (kg zc)))))))))))))))))))))))))))))),?_⟩
  refine cut8 fun nx0 hx0=>?_;refine⟨_,rfl,a,ns,rfl,hS,hl,fun st ga ca H1 S1 n1 n2 n3 s1=>?_⟩;refine⟨_,rfl,by show 0<=sizeLine;decide,fun l0 hl0=>?_⟩;have S2:=S1.same (Same.new (o:=.lst []) hl0);refine⟨st,ga,ca,_,l0,[],rfl,S2,by decide,z6,S1.nin hl0,by decide,(fun _ h=>by cases h),fun m0 H3 hm0 _ S3 K3=>?_⟩;refine⟨by show 1<=sizeLine;decide,fun nl hnl=>?_⟩;have S4:=S3.same (Same.new (o:=.lst [V.str m0]) hnl);have g4:=z6 (H:=H3) (a:=nl) (o:=.lst [V.str m0]);generalize upd H3 nl (.lst [V.str m0])=H4 at S4 g4 ⊢;refine⟨_,rfl,.inl ⟨rfl,_,SqL.of g4⟩,_,rfl,_,rfl,st,ga,ca,_,nl,[m0],rfl,S4,by decide,g4,S3.nin hnl,by show 1<=20;decide,fun n hn=>by rw[List.mem_singleton.mp hn];exact hm0,fun m1 H5 hm1 hne5 S5 K5=>?_⟩;have hne:m0≠m1:=fun e=>hne5 (by rw[e];simp);have g5:=K5.at g4 (S3.nin hnl);refine⟨nl,_,_,rfl,rfl,g5,by show 1<sizeLine;decide,?_⟩;have nl3:=S3.nin3 hnl;have S6:=S5.upd (p:=nl) (o:=.lst ([V.str m0]++[V.str m1])) nl3;have g6:=z6 (H:=H5) (a:=nl) (o:=.lst ([V.str m0]++[V.str m1]));generalize upd H5 nl (.lst ([V.str m0]++[V.str m1]))=H6 at S6 g6 ⊢;have nl2:=nin2 nl3;have ruleOf:∀{H':Hp}{p:Addr}{rs:List V}{rule:List (List Int)},H' p=some (.tup rs)->All2 Tup1 H' rule rs->rule.length<=6->(∀h∈rule,GH 5 8 h)->RuleAt H' p rs rule:=fun g a2 l6 hg=>⟨g,a2,l6,fun h hh=>⟨by have:=(hg h hh).1;omega,fun x hx=>⟨((hg h hh).2.1 x hx).1,Int.le_trans ((hg h hh).2.1 x hx).2 (by decide)⟩,(hg h hh).2.2⟩⟩;refine⟨_,rfl,_,rfl,st,ga,ca,_,7,rfl,S6,by decide,by decide,by decide,fun q H7 q0 q1 S7 K7=>?_⟩;refine⟨st,ga,ca,_,q,5,8,rfl,S7,by decide,q0,by omega,by decide,by decide,by decide,by decide,fun rp rs rule H8 gp8 a8 ln hg np S8 K8=>?_⟩;have q86:q.toNat<=6:=by omega
  have S8':StAt H8 st ga ca 4000:=S8.mono (by omega);have g8:=(K7.trans K8).at g6 nl2;have l6:rule.length<=6:=by omega
  clear S8 S7 K7 K8 S6 g6 g5 K5 S5 S4 g4 S3 K3 S2 s1 np hnl ln q0 q1;refine⟨_,rfl,_,rfl,st,ga,ca,_,5,rfl,S8',by decide,by decide,by decide,fun q' H9 q0 q1 S9 K9=>?_⟩;refine⟨st,ga,ca,_,q',5,8,rfl,S9,by decide,q0,by omega,by decide,by decide,by decide,by decide,fun op os other HA gpA aA lnA hgA npA SA KA=>?_⟩;have K8A:=K9.trans KA;have qA6:q'.toNat<=4:=by omega
  have SA':StAt HA st ga ca 8000:=SA.mono (by omega);have R0:=ruleOf (K8A.tups S8' _ _ gp8) (a8.mv (K8A.tups S8')) l6 hg;have R1:=ruleOf gpA aA (by omega) hgA;have gA:=K8A.at g8 nl2;have e80:Sm8 rule:=fun h hh x hx=>((hg h hh).2.1 x hx).2;have e81:Sm8 other:=fun h hh x hx=>((hgA h hh).2.1 x hx).2;clear SA S9 K9 KA K8A gp8 a8 S8' gpA aA npA lnA hgA q0 q1;refine⟨_,rfl,_,rfl,st,ga,ca,_,rp,rs,rule,rfl,SA',by decide,R0.at_,R0.h2,l6,fun h hh=>⟨by have:=(hg h hh).1;omega,(hg h hh).2.1⟩,fun hq hs HB gqB lB bB pB SB KB=>?_⟩;have tB:=KB.tups SA';have R0B:=R0.mv tB;have R1B:=R1.mv tB;have gB:=KB.at gA nl2;clear R0 R1 gA SA' KB tB hg;refine⟨_,rfl,st,ga,ca,_,10,rfl,SB,by decide,by decide,by decide,fun z HC z0 z1 SC KC=>?_⟩;obtain⟨sm,rfl⟩:∃sm:Nat,z=(sm:Int):=⟨z.toNat,by walk_at "o"⟩;refine⟨_,rfl,by show 2<=sizeLine;decide,fun l1 hl1=>?_⟩;have sD:=Same.new (o:=.lst [V.int 41,V.int 101]) hl1;refine⟨_,rfl,st,ga,ca,_,2,rfl,SC.same sD,by decide,by decide,by decide,fun y HD y0 y1 SD KD=>?_⟩;have gl1:=KD.at (z6 (H:=HC) (a:=l1) (o:=.lst [V.int 41,V.int 101])) (SC.nin hl1);obtain⟨bd,eb,b0,b1⟩:∃bd:Int,atI [V.int 41,V.int 101] y=some (.int bd)/\0<bd/\bd<=101:=by
   have:y=0\/y=1:=by omega
   rcases this with rfl|rfl
   ·exact⟨41,rfl,by decide,by decide⟩
   ·exact⟨101,rfl,by decide,by decide⟩
  refine⟨l1,_,_,_,rfl,rfl,SqL.of gl1,eb,st,ga,ca,_,bd,rfl,SD,by decide,b0,Int.le_trans b1 (by decide),fun z2 HE z20 z21 SE KE=>?_⟩;obtain⟨gr,rfl⟩:∃gr:Nat,z2=(gr:Int):=⟨z2.toNat,by walk_at "o"⟩;have KBE:Keep [st,ga] HB HE:=KC.trans (sD.keep.trans (KD.trans KE));have tE:=KBE.tups SB;have R0E:=R0B.mv tE;have R1E:=R1B.mv tE;have gE:=KBE.at gB nl2;have gqE:=tE _ _ gqB;have SE':StAt HE st ga ca 9000:=SE.mono (by decide);have sm9:sm<=24:=by omega
  have gr1:gr<=400:=by omega
  clear SE KE SD KD SC KC sD R0B R1B gB gqB SB KBE tE gl1 hl1 b0 b1 eb y0 y1 z0 z1 z20 z21;dsimp only[kc];subst hx0;refine ye (fun σ' H'=>∃(rp op:Addr)(rs os:List V)(rule other:List (List Int))(sm gr:Nat),σ'=[some (.ref a),some (.ref st),some (.ref nl),some (.ref rp),some (.ref op),some (.ref hq),some (.int (sm:Int)),some (.int (gr:Int)),none,none,none,none,none,none,none,none,none,none]/\RuleAt H' rp rs rule/\RuleAt H' op os other/\Sm8 rule/\Sm8 other/\H' hq=some (.tup (hs.map V.int))/\H' nl=some (.lst [V.str m0,V.str m1])/\sm<=24/\gr<=400/\StAt H' st ga ca 9100) (fun nx hnx=>?_) ?_
  ·refine⟨_,rfl,st,ga,ca,_,16,rfl,SE',by decide,by decide,by decide,fun b HF b0 b1 SF KF=>⟨rfl,_,rfl,?_⟩⟩;have tF:=KF.tups SE';have R0F:=R0E.mv tF;have R1F:=R1E.mv tF;have gF:=KF.at gE nl2;have gqF:=tF _ _ gqE;refine ite2 (fun _=>?_) (fun _=>hnx _ _ ⟨rp,op,rs,os,rule,other,sm,gr,rfl,R0F,R1F,e80,e81,gqF,gF,sm9,gr1,SF.mono (by decide)⟩);refine⟨_,rfl,?_⟩;dsimp only[yH,tNil];refine⟨2,rfl,xr (n:=2) R0F fun rp' HG R0G sG=>?_⟩;refine⟨_,rfl,?_⟩;dsimp only[yH,tNil];refine⟨2,rfl,xr (n:=2) (R1F.mv sG.tups) fun op' HH R1H sH=>⟨_,_,rfl,?_⟩⟩;have sGH:=sG.trans sH;refine⟨_,rfl,st,ga,ca,_,8,rfl,SF.same sGH,by decide,by decide,by decide,fun v HI v0 v1 SI KI=>⟨_,_,rfl,rfl,?_⟩⟩;have tI:=KI.tups (SF.same sGH);obtain⟨vn,rfl⟩:∃vn:Nat,v=(vn:Int):=⟨v.toNat,by walk_at "o"⟩;refine hnx _ _ ⟨rp',op',rs.take 2,os.take 2,rule.take 2,other.take 2,17+vn,gr,?_,(R0G.mv sH.tups).mv tI,R1H.mv tI,(fun h hh=>e80 h (List.mem_of_mem_take hh)),(fun h hh=>e81 h (List.mem_of_mem_take hh)),tI _ _ (sGH _ _ gqF),KI.at (sGH _ _ gF) nl2,by omega,gr1,SI.mono (by decide)⟩;rw[show((17+vn:Nat):Int)=17+(vn:Int)by simp];rfl
  rintro _ HF ⟨rp',op',rs',os',rule',other',sm',gr',rfl,R0,R1,e80',e81',gqF,gF,sm24,gr4,SF⟩;clear R0E R1E gE gqE SE' sm9 gr1 l6;refine ye (fun σ' H'=>∃(gr:Nat),σ'=[some (.ref a),some (.ref st),some (.ref nl),some (.ref rp'),some (.ref op'),some (.ref hq),some (.int (sm':Int)),some (.int (gr:Int)),none,none,none,none,none,none,none,none,none,none]/\RuleAt H' rp' rs' rule'/\RuleAt H' op' os' other'/\H' hq=some (.tup (hs.map V.int))/\H' nl=some (.lst [V.str m0,V.str m1])/\gr<=400/\StAt H' st ga ca 9200) (fun nx hnx=>?_) ?_
  ·refine⟨_,rfl,st,ga,ca,_,16,rfl,SF,by decide,by decide,by decide,fun b HG b0 b1 SG KG=>⟨rfl,_,rfl,?_⟩⟩;have tG:=KG.tups SF;refine ite2 (fun _=>?_) (fun _=>hnx _ _ ⟨gr',rfl,R0.mv tG,R1.mv tG,tG _ _ gqF,KG.at gF nl2,gr4,SG.mono (by decide)⟩);refine⟨_,rfl,st,ga,ca,_,2,rfl,SG,by decide,by decide,by decide,fun v HH v0 v1 SH KH=>⟨_,_,rfl,rfl,?_⟩⟩;have tH:=tG.trans (KH.tups SG);obtain⟨vn,rfl⟩:∃vn:Nat,v=(vn:Int):=⟨v.toNat,by walk_at "o"⟩;refine hnx _ _ ⟨400-vn,?_,R0.mv tH,R1.mv tH,tH _ _ gqF,(KG.trans KH).at gF nl2,by simp,SH.mono (by decide)⟩;rw[show((400-vn:Nat):Int)=400-(vn:Int)by omega];rfl
  rintro _ HG ⟨g,rfl,R0G,R1G,gqG,gG,g4,SG⟩;clear R0 R1 gqF gF gr4 SF;refine cut1 fun nx1 hx1=>?_;refine⟨_,rfl,g,rfl,by omega,fun w HH gw sH nw=>?_⟩;have R0H:=R0G.mv sH.tups;have R1H:=R1G.mv sH.tups;have gqH:=sH _ _ gqG;have gH:=sH _ _ gG;have SH:=SG.same sH;have nw2:=SG.nin nw;clear R0G R1G gqG gG SG sH;dsimp only[kc];subst hx1;have lm0:=y8 hm0;have lm1:=y8 hm1;have lb:(Str.ofString " ").length=1:=by decide+kernel
  have lad:(Str.ofString "add ").length=4:=by decide+kernel
  have ltk:(Str.ofString "take ").length=5:=by decide+kernel
  have big:∀k:Nat,k<=20000->k<=sizeLine:=fun k h=>le_trans h (by decide);have ee:∀a b c:Str,((Str.empty++a)++b)++c=(a++b)++c:=fun a b c=>by rw[yu]
  have ee4:∀a b c d:Str,(((Str.empty++a)++b)++c)++d=((a++b)++c)++d:=fun a b c d=>by rw[yu]
  have rl:=R0H.h2.length;have rl6:=R0H.ln;have t0:Tups HH HH:=Tups.refl _;refine ye (fun σ' H'=>∃(v9 v12:Option V)(np:Addr)(nss:List V)(new:List (List Int))(deed:Str),σ'=[some (.ref a),some (.ref st),some (.ref nl),some (.ref rp'),some (.ref op'),some (.ref hq),some (.int (sm':Int)),some (.int (g:Int)),some (.ref w),v9,some (.str deed),some (.ref np),v12,none,none,none,none,none]/\ir m0 rule' new deed/\RuleAt H' np nss new/\Sm8 new/\RuleAt H' rp' rs' rule'/\RuleAt H' op' os' other'/\H' hq=some (.tup (hs.map V.int))/\H' nl=some (.lst [V.str m0,V.str m1])/\H' w=some (.lst ((zy g g).map V.int))) (fun nx hnx=>?_) ?_
  ·refine⟨_,rfl,rp',_,rfl,.inr (SqT.of R0H.at_),_,_,rfl,rfl,_,rfl,?_⟩;refine ite2 (fun c6=>?_) (fun c6=>iteF ?_)
   ·have l6:rule'.length<6:=by have:=of_decide_eq_true c6;omega
    refine⟨_,rfl,rp',_,rfl,.inr (SqT.of R0H.at_),rfl,_,rfl,?_⟩;refine ite2 (fun c0=>iteT ?_) (fun c0=>?_)
    ·refine⟨_,rfl,st,ga,ca,_,3,4,rfl,SH,by decide,by decide,by decide,by decide,by decide,fun mq mh HJ ml mb mp gmq nmq SJ KJ=>?_⟩;have tJ:=t0.trans (KJ.tups SH);have gJ:=KJ.at gH nl2;have gwJ:=KJ.at gw nw2;refine⟨big _ (by walk_at "b"),_,rfl,nl,_,0,_,rfl,rfl,SqL.of gJ,zr (j:=0) rfl,m0,.inr rfl,big _ (by walk_at "o"),big _ (by walk_at "b"),big _ (by walk_at "b"),big _ (by walk_at "b"),?_⟩;rw[ee];have lmh:(txt mh).length<=10000:=uw (by omega) fun x hx=>⟨(mb x hx).1,Int.le_trans (mb x hx).2 (by decide)⟩;refine⟨_,rfl,mq,mh,rfl,gmq,by omega,(fun x hx=>⟨(mb x hx).1,Int.le_trans (mb x hx).2 (by decide)⟩),fun HK sK=>?_⟩;refine⟨_,_,rfl,rfl,big _ (by walk_at "b"),_,rfl,_,rfl,by show 1<=sizeLine;decide,fun t1 ht1=>?_⟩;have sL:=sK.trans (Same.new (o:=.tup [V.ref mq]) ht1);have R0L:=(R0H.mv tJ).mv sL.tups;refine bM R0L.at_ z6 (le_trans (m:=7) (by show rs'.length+1<=7;omega) (by decide)) fun np HM gnp sM=>⟨_,_,rfl,?_⟩;have sLM:=sL.trans sM;have R0M:=R0L.mv sM.tups;refine hnx _ _ ⟨_,_,np,_,rule'++[mh],_,rfl,.inr ⟨rfl,l6,mh,⟨by omega,by omega,fun x hx=>⟨(mb x hx).1,Int.lt_of_le_of_lt (mb x hx).2 (by decide)⟩,mp⟩,rfl,rfl⟩,⟨gnp,R0M.h2.snoc ⟨mq,rfl,sLM _ _ gmq⟩,by rw[length_append];show rule'.length+1<=6;omega,fun h hh=>?_⟩,(fun h hh x hx=>?_),R0M,(R1H.mv tJ).mv sLM.tups,sLM _ _ (tJ _ _ gqH),sLM _ _ gJ,sLM _ _ gwJ⟩
     ·rcases mem_append.mp hh with hh|hh
      ·exact R0M.gd h hh
      ·rw[List.mem_singleton.mp hh];exact⟨by omega,fun x hx=>⟨(mb x hx).1,Int.le_trans (mb x hx).2 (by decide)⟩,mp⟩
     ·rcases mem_append.mp hh with hh|hh
      ·exact e80' h hh x hx
      ·rw[List.mem_singleton.mp hh]at hx;exact Int.le_trans (mb x hx).2 (by decide)
    ·refine⟨_,rfl,st,ga,ca,_,2,rfl,SH,by decide,by decide,by decide,fun b HI b0 b1 SI KI=>⟨rfl,_,rfl,?_⟩⟩;have l0:0<rs'.length:=by
      have:rs'.length≠0:=fun e=>c0 (by rw[e];rfl);omega
     have tI:=KI.tups SH;have gI:=KI.at gH nl2;have gwI:=KI.at gw nw2;refine ite2 (fun _=>?_) (fun _=>?_)
     ·refine⟨_,rfl,st,ga,ca,_,3,4,rfl,SI,by decide,by decide,by decide,by decide,by decide,fun mq mh HJ ml mb mp gmq nmq SJ KJ=>?_⟩;have tJ:=tI.trans (KJ.tups SI);have gJ:=KJ.at gI nl2;have gwJ:=KJ.at gwI nw2;refine⟨big _ (by walk_at "b"),_,rfl,nl,_,0,_,rfl,rfl,SqL.of gJ,zr (j:=0) rfl,m0,.inr rfl,big _ (by walk_at "o"),big _ (by walk_at "b"),big _ (by walk_at "b"),big _ (by walk_at "b"),?_⟩;rw[ee];have lmh:(txt mh).length<=10000:=uw (by omega) fun x hx=>⟨(mb x hx).1,Int.le_trans (mb x hx).2 (by decide)⟩;refine⟨_,rfl,mq,mh,rfl,gmq,by omega,(fun x hx=>⟨(mb x hx).1,Int.le_trans (mb x hx).2 (by decide)⟩),fun HK sK=>?_⟩;refine⟨_,_,rfl,rfl,big _ (by walk_at "b"),_,rfl,_,rfl,by show 1<=sizeLine;decide,fun t1 ht1=>?_⟩;have sL:=sK.trans (Same.new (o:=.tup [V.ref mq]) ht1);have R0L:=(R0H.mv tJ).mv sL.tups;refine bM R0L.at_ z6 (le_trans (m:=7) (by show rs'.length+1<=7;omega) (by decide)) fun np HM gnp sM=>⟨_,_,rfl,?_⟩;have sLM:=sL.trans sM;have R0M:=R0L.mv sM.tups;refine hnx _ _ ⟨_,_,np,_,rule'++[mh],_,rfl,.inr ⟨rfl,l6,mh,⟨by omega,by omega,fun x hx=>⟨(mb x hx).1,Int.lt_of_le_of_lt (mb x hx).2 (by decide)⟩,mp⟩,rfl,rfl⟩,⟨gnp,R0M.h2.snoc ⟨mq,rfl,sLM _ _ gmq⟩,by rw[length_append];show rule'.length+1<=6;omega,fun h hh=>?_⟩,(fun h hh x hx=>?_),R0M,(R1H.mv tJ).mv sLM.tups,sLM _ _ (tJ _ _ gqH),sLM _ _ gJ,sLM _ _ gwJ⟩
      ·rcases mem_append.mp hh with hh|hh
       ·exact R0M.gd h hh
       ·rw[List.mem_singleton.mp hh];exact⟨by omega,fun x hx=>⟨(mb x hx).1,Int.le_trans (mb x hx).2 (by decide)⟩,mp⟩
      ·rcases mem_append.mp hh with hh|hh
       ·exact e80' h hh x hx
       ·rw[List.mem_singleton.mp hh]at hx;exact Int.le_trans (mb x hx).2 (by decide)
     ·refine⟨_,rfl,_,rfl,rp',_,rfl,.inr (SqT.of (R0H.mv tI).at_),st,ga,ca,_,_,rfl,SI,by decide,by omega,Int.le_trans (show(rs'.length:Int)<=6 by omega) (by decide),fun z HJ z0 z1 SJ KJ=>?_⟩;obtain⟨at',rfl⟩:∃at':Nat,z=(at':Int):=⟨z.toNat,by walk_at "o"⟩;have tJ:=tI.trans (KJ.tups SI);have gJ:=KJ.at gI nl2;have gwJ:=KJ.at gwI nw2;have lat:(numS (at':Int)).length<=1:=by rw[zV];exact yq (by walk_at "o") (by decide) (by omega)
      refine⟨big _ (by walk_at "b"),_,rfl,nl,_,0,_,rfl,rfl,SqL.of gJ,zr (j:=0) rfl,m0,.inr rfl,big _ (by walk_at "o"),big _ (by walk_at "b"),big _ (by walk_at "b"),_,rfl,numS (at':Int),.inl ⟨_,rfl,jr (by walk_at "o") (Int.le_trans (show(at':Int)<=6 by omega) (by decide)),rfl⟩,big _ (by walk_at "o"),big _ (by walk_at "b"),big _ (by walk_at "b"),?_⟩;rw[ee4];have R0J:=R0H.mv tJ;refine⟨_,rfl,?_⟩;dsimp only[yH,tNil];refine⟨_,rfl,_,rfl,wz R0J.at_ fun p1 HK g1 sK=>?_⟩;refine⟨_,rfl,_,rfl,_,_,rfl,rfl,_,rfl,?_⟩;dsimp only[yH,tNil];refine wz (sK _ _ R0J.at_) fun p2 HL g2 sL=>?_;refine bM (sL _ _ g1) g2 ?_ fun np HM gnp sM=>⟨_,_,rfl,?_⟩
      ·rw[<-length_append,j3 rs' at' (by omega),List.length_eraseIdx];split <;>exact le_trans (m:=1000) (by omega) (by decide)
      rw[j3 rs' at' (by omega)]at gnp;have sLM:=sK.trans (sL.trans sM);have R0M:=R0J.mv sLM.tups;refine hnx _ _ ⟨_,_,np,_,rule'.eraseIdx at',_,rfl,.inl ⟨rfl,at',by omega,rfl,rfl⟩,⟨gnp,R0M.h2.erase at',?_,fun h hh=>R0M.gd h (List.mem_of_mem_eraseIdx hh)⟩,(fun h hh=>e80' h (List.mem_of_mem_eraseIdx hh)),R0M,(R1H.mv tJ).mv sLM.tups,sLM _ _ (tJ _ _ gqH),sLM _ _ gJ,sLM _ _ gwJ⟩;rw[List.length_eraseIdx];have:=R0M.ln;split <;>omega
   ·have l6:rule'.length=6:=by
     have:¬((rs'.length:Int)<6):=fun z=>c6 (decide_eq_true z);omega
    refine⟨_,rfl,_,rfl,rp',_,rfl,.inr (SqT.of (R0H).at_),st,ga,ca,_,_,rfl,SH,by decide,by omega,Int.le_trans (show(rs'.length:Int)<=6 by omega) (by decide),fun z HJ z0 z1 SJ KJ=>?_⟩;obtain⟨at',rfl⟩:∃at':Nat,z=(at':Int):=⟨z.toNat,by walk_at "o"⟩;have tJ:=t0.trans (KJ.tups SH);have gJ:=KJ.at gH nl2;have gwJ:=KJ.at gw nw2;have lat:(numS (at':Int)).length<=1:=by rw[zV];exact yq (by walk_at "o") (by decide) (by omega)
    refine⟨big _ (by walk_at "b"),_,rfl,nl,_,0,_,rfl,rfl,SqL.of gJ,zr (j:=0) rfl,m0,.inr rfl,big _ (by walk_at "o"),big _ (by walk_at "b"),big _ (by walk_at "b"),_,rfl,numS (at':Int),.inl ⟨_,rfl,jr (by walk_at "o") (Int.le_trans (show(at':Int)<=6 by omega) (by decide)),rfl⟩,big _ (by walk_at "o"),big _ (by walk_at "b"),big _ (by walk_at "b"),?_⟩;rw[ee4];have R0J:=R0H.mv tJ;refine⟨_,rfl,?_⟩;dsimp only[yH,tNil];refine⟨_,rfl,_,rfl,wz R0J.at_ fun p1 HK g1 sK=>?_⟩;refine⟨_,rfl,_,rfl,_,_,rfl,rfl,_,rfl,?_⟩;dsimp only[yH,tNil];refine wz (sK _ _ R0J.at_) fun p2 HL g2 sL=>?_;refine bM (sL _ _ g1) g2 ?_ fun np HM gnp sM=>⟨_,_,rfl,?_⟩
    ·rw[<-length_append,j3 rs' at' (by omega),List.length_eraseIdx];split <;>exact le_trans (m:=1000) (by omega) (by decide)
    rw[j3 rs' at' (by omega)]at gnp;have sLM:=sK.trans (sL.trans sM);have R0M:=R0J.mv sLM.tups;refine hnx _ _ ⟨_,_,np,_,rule'.eraseIdx at',_,rfl,.inl ⟨rfl,at',by omega,rfl,rfl⟩,⟨gnp,R0M.h2.erase at',?_,fun h hh=>R0M.gd h (List.mem_of_mem_eraseIdx hh)⟩,(fun h hh=>e80' h (List.mem_of_mem_eraseIdx hh)),R0M,(R1H.mv tJ).mv sLM.tups,sLM _ _ (tJ _ _ gqH),sLM _ _ gJ,sLM _ _ gwJ⟩;rw[List.length_eraseIdx];have:=R0M.ln;split <;>omega
  rintro _ HJ ⟨v9,v12,np,nss,new,deed,rfl,hdeed,R2,e82,R0,R1,gqJ,gJ,gwJ⟩;clear R0H R1H gqH gH SH gw;have hh:IsHeap 60 (10^60) hs:=⟨by omega,fun x hx=>⟨(bB x hx).1,Int.lt_of_le_of_lt (bB x hx).2 (by decide)⟩,pB⟩;have A0:=bo R0;have A1:=bo R1;have A2:=bo R2;have H0:=tz R0 e80';have H1':=tz R1 e81';have H2':=tz R2 e82;have lg0:(zY rule' (fun j=>(zy g g).getD j 0) g (chG (upto rule'.length))).natAbs.log2<1920:=by rw[u3 g4];exact uC A0.pos g4
  have lg1:(zY other' (fun j=>(zy g g).getD j 0) g (chG (upto other'.length))).natAbs.log2<1920:=by rw[u3 g4];exact uC A1.pos g4
  have lg2:(zY new (fun j=>(zy g g).getD j 0) g (chG (upto new.length))).natAbs.log2<1920:=by rw[u3 g4];exact uC A2.pos g4
  refine cut1 fun nx hx=>?_;refine⟨_,rfl,nl,_,0,_,rfl,rfl,SqL.of (gJ),zr (j:=0) rfl,_,rfl,_,rfl,_,rfl,_,rfl,_,rfl,m0,rp',hq,w,rs',rule',hs,sm',g,rfl,hm0,R0,gqJ,lB,bB,sm24,g4,gwJ,lg0,fun f xf HK gf af sf nf=>?_⟩;dsimp only[kc];subst hx;refine cut1 fun nx hx=>?_;refine⟨_,rfl,nl,_,0,_,rfl,rfl,SqL.of (sf _ _ gJ),zr (j:=0) rfl,_,rfl,_,rfl,_,rfl,_,rfl,_,rfl,m0,np,hq,w,nss,new,hs,sm',g,rfl,hm0,(R2.mv sf.tups),(sf _ _ gqJ),lB,bB,sm24,g4,(sf _ _ gwJ),lg2,fun b xb HL gb ab sb nb=>?_⟩;have sfb:=sf.trans sb;dsimp only[kc];subst hx;refine cut1 fun nx hx=>?_;refine⟨_,rfl,nl,_,1,_,rfl,rfl,SqL.of (sfb _ _ gJ),zr (j:=1) rfl,_,rfl,_,rfl,_,rfl,_,rfl,_,rfl,m1,op',hq,w,os',other',hs,sm',g,rfl,hm1,(R1.mv sfb.tups),(sfb _ _ gqJ),lB,bB,sm24,g4,(sfb _ _ gwJ),lg1,fun c xc HM gc ac sc nc=>?_⟩;have sbc:=sb.trans sc;have sM:=sf.trans sbc;dsimp only[kc];subst hx;refine cut1 fun nx hx=>?_;refine⟨rfl,_,rfl,nl,[m0,m1],rfl,SqL.of (sM _ _ gJ),by show 2<64;decide,fun ss bq pm so hbq=>?_⟩;have h2l:(Str.ofString " ").length=1:=by rw[kH];rfl
  have h3:=pm.length_eq;have hb8:∀s∈ss,s.length<=8:=fun s hs'=>by
   have:s=m0\/s=m1:=by simpa using pm.mem_iff.mp hs'
   rcases this with rfl|rfl <;>omega
  have hsum:(ss.map (·.length)).sum<=ss.length*8:=rQ hb8;refine⟨_,bq,ss,rfl,rfl,SqL.of z6,by rw[h2l];have:[m0,m1].length=2:=rfl;omega,?_⟩;have both:yf [m0,m1] (Txt.join (Str.ofString " ") ss):=.inr ⟨by simp,ss,pm,so,rfl⟩;have sN0:=Same.new (o:=.lst (ss.map V.str)) hbq;generalize Txt.join (Str.ofString " ") ss=zb at both ⊢;generalize upd HM bq (.lst (ss.map V.str))=HN at sN0 ⊢;have sN:=sM.trans sN0;have gN:=sN _ _ gJ;have gf1:=(sbc.trans sN0) _ _ gf;have gb1:=(sc.trans sN0) _ _ gb;have gc1:=sN0 _ _ gc;have af1:All2 RowD HN (je m0 rule' hs sm' g) xf:=af.imp fun _ _ z=>z.mv (sbc.trans sN0).tups;have ab1:All2 RowD HN (je m0 new hs sm' g) xb:=ab.imp fun _ _ z=>z.mv (sc.trans sN0).tups;have ac1:All2 RowD HN (je m1 other' hs sm' g) xc:=ac.imp fun _ _ z=>z.mv sN0.tups;have R0N:=R0.mv sN.tups;have R1N:=R1.mv sN.tups;have R2N:=R2.mv sN.tups;have gqN:=sN _ _ gqJ;have gwN:=sN _ _ gwJ;clear sN sM sbc sfb sf sb sc sN0 gJ R0 R1 R2 gqJ gwJ af ab ac gf gb gc hbq;have lru:(Str.ofString "rule ").length=5:=by decide+kernel
  have lcp:(Str.ofString "copy ").length=5:=by decide+kernel
  have ldr:(Str.ofString "drop ").length=5:=by decide+kernel
  have lt0:=uT H0.1 H0.fine.2;have lt1:=uT H1'.1 H1'.fine.2;have lt2:=uT H2'.1 H2'.fine.2;dsimp only[kc];subst hx;refine cut1 fun nx hx=>?_;refine⟨big _ (by walk_at "b"),_,rfl,nl,_,1,_,rfl,rfl,SqL.of gN,zr (j:=1) rfl,m1,.inr rfl,big _ (by walk_at "o"),big _ (by walk_at "b"),big _ (by walk_at "b"),big _ (by walk_at "b"),?_⟩;rw[ee];refine⟨_,rfl,op',other',os',rfl,R1N.at_,R1N.h2,R1N.ln,H1'.fine.2,fun HO sO=>?_⟩;refine⟨_,_,rfl,rfl,big _ (by walk_at "b"),_,rfl,op',other',os',rfl,sO _ _ R1N.at_,R1N.h2.mv sO.tups,R1N.ln,H1'.fine.2,fun HP sP=>?_⟩;refine⟨by show 2<=sizeLine;decide,fun t1 ht1=>⟨by show 1<=sizeLine;decide,fun rl1 hrl1=>?_⟩⟩;have sOP:=sO.trans sP;have st1:=Same.new (o:=.tup [V.str (((Str.ofString "rule "++m1)++Str.ofString " ")++rtxt other'),V.str (rtxt other')]) ht1;have sr1:=Same.new (o:=.lst [V.ref t1]) hrl1;have sQ:=sOP.trans (st1.trans sr1);have gr1:=z6 (H:=upd HP t1 (.tup [V.str (((Str.ofString "rule "++m1)++Str.ofString " ")++rtxt other'),V.str (rtxt other')])) (a:=rl1) (o:=.lst [V.ref t1]);have ar1:All2 RowD (upd (upd HP t1 (.tup [V.str (((Str.ofString "rule "++m1)++Str.ofString " ")++rtxt other'),V.str (rtxt other')])) rl1 (.lst [V.ref t1])) [(((Str.ofString "rule "++m1)++Str.ofString " ")++rtxt other',.inl (rtxt other'))] [V.ref t1]:=.cons ⟨t1,_,rfl,sr1 _ _ z6,rfl⟩ .nil;have nr1:HN rl1=none:=sOP.free (st1.free hrl1);generalize upd (upd HP t1 (.tup [V.str (((Str.ofString "rule "++m1)++Str.ofString " ")++rtxt other'),V.str (rtxt other')])) rl1 (.lst [V.ref t1])=HQ at sQ gr1 ar1 ⊢;clear sr1 st1 sOP sO sP ht1 hrl1;dsimp only[kc];subst hx;refine cut1 fun nx hx=>?_;refine⟨_,rfl,.inl ⟨rfl,_,SqL.of gr1⟩,?_⟩;refine⟨big _ (by walk_at "b"),_,rfl,nl,_,0,_,rfl,rfl,SqL.of (sQ _ _ gN),zr (j:=0) rfl,m0,.inr rfl,big _ (by walk_at "o"),big _ (by walk_at "b"),big _ (by walk_at "b"),big _ (by walk_at "b"),?_⟩;rw[ee];refine⟨_,rfl,rp',rule',rs',rfl,sQ _ _ R0N.at_,R0N.h2.mv sQ.tups,R0N.ln,H0.fine.2,fun HR sR=>?_⟩;have sQR:=sQ.trans sR;refine⟨_,_,rfl,rfl,big _ (by walk_at "b"),_,rfl,rp',rule',rs',rfl,sQR _ _ R0N.at_,R0N.h2.mv sQR.tups,R0N.ln,H0.fine.2,fun HS sS=>?_⟩;refine⟨by show 2<=sizeLine;decide,fun t2 ht2=>?_⟩;have st2:=sR.trans (sS.trans (Same.new (o:=.tup [V.str (((Str.ofString "rule "++m0)++Str.ofString " ")++rtxt rule'),V.str (rtxt rule')]) ht2));refine⟨rl1,_,_,rfl,rfl,st2 _ _ gr1,by show 1<sizeLine;decide,?_⟩;have tU:=vd (H:=upd HS t2 (.tup [V.str (((Str.ofString "rule "++m0)++Str.ofString " ")++rtxt rule'),V.str (rtxt rule')])) (a:=rl1) (o:=.lst ([V.ref t1]++[V.ref t2])) (st2 _ _ gr1) (fun _ z=>by cases z);have sU:=(sQ.trans st2).updN (o:=.lst ([V.ref t1]++[V.ref t2])) nr1;have gr2:=z6 (H:=upd HS t2 (.tup [V.str (((Str.ofString "rule "++m0)++Str.ofString " ")++rtxt rule'),V.str (rtxt rule')])) (a:=rl1) (o:=.lst ([V.ref t1]++[V.ref t2]));have ar2:=(ar1.imp (H':=upd (upd HS t2 (.tup [V.str (((Str.ofString "rule "++m0)++Str.ofString " ")++rtxt rule'),V.str (rtxt rule')])) rl1 (.lst ([V.ref t1]++[V.ref t2]))) fun _ _ z=>z.mv (st2.tups.trans tU)).snoc (a:=(((Str.ofString "rule "++m0)++Str.ofString " ")++rtxt rule',(.inl (rtxt rule'):DueT))) ⟨t2,_,rfl,tU _ _ z6,rfl⟩;generalize upd (upd HS t2 (.tup [V.str (((Str.ofString "rule "++m0)++Str.ofString " ")++rtxt rule'),V.str (rtxt rule')])) rl1 (.lst ([V.ref t1]++[V.ref t2]))=HU at sU gr2 ar2 ⊢;clear tU st2 sQR sR sS sQ gr1 ar1 ht2;have two:2<=sizeLine:=by decide
  have one:1<=sizeLine:=by decide
  have ee2:∀a b:Str,(Str.empty++a)++b=a++b:=fun a b=>by rw[yu]
  dsimp only[kc];subst hx;refine cut1 fun nx hx=>?_;refine⟨_,rfl,_,rfl,catC gr2 ar2 (sU _ _ gf1) (af1.mvD sU.tups) (by show 2+4<=200;decide) fun p1 I1 g1 a1 i1 _=>?_⟩;refine⟨_,rfl,catC g1 a1 ((sU.trans i1) _ _ gc1) (ac1.mvD (sU.trans i1).tups) (by show 6+4<=200;decide) fun p2 I2 g2 a2 i2 _=>?_⟩;have J2:=sU.trans (i1.trans i2);clear g1 a1 i1 gr2 ar2 sU;refine⟨_,rfl,_,rfl,np,new,nss,rfl,J2 _ _ R2N.at_,R2N.h2.mv J2.tups,R2N.ln,H2'.fine.2,fun I3 i3=>⟨two,fun t3 ht3=>⟨one,fun l3 hl3=>?_⟩⟩⟩;obtain⟨k3,b3⟩:=mk1 ht3 hl3;refine catC ((i3.trans k3) _ _ g2) (a2.mvD (i3.trans k3).tups) z6 b3 (by show 10+1<=200;decide) fun p4 I4 g4' a4 i4 _=>?_;have J4:=J2.trans ((i3.trans k3).trans i4);clear J2 i3 k3 b3 g2 a2 i2;refine⟨_,rfl,catC g4' a4 (J4 _ _ gb1) (ab1.mvD J4.tups) (by show 11+4<=200;decide) fun p5 I5 g5 a5 i5 _=>?_⟩;have J5:=J4.trans i5;clear g4' a4 i4;refine⟨_,rfl,two,fun t6 ht6=>⟨one,fun l6 hl6=>?_⟩⟩;obtain⟨k6,b6⟩:=mk1 ht6 hl6;refine catC (k6 _ _ g5) (a5.mvD k6.tups) z6 b6 (by show 15+1<=200;decide) fun p7 I7 g7 a7 i7 _=>?_;have J7:=J5.trans (k6.trans i7);clear J5 J4 k6 b6 g5 a5 i5;refine⟨_,rfl,catC g7 a7 (J7 _ _ gf1) (af1.mvD J7.tups) (by show 16+4<=200;decide) fun p8 I8 g8' a8 i8 _=>?_⟩;have J8:=J7.trans i8;clear J7 g7 a7 i7;dsimp only[kc];subst hx;refine cut1 fun nx hx=>?_;refine⟨_,rfl,_,rfl,two,fun t9 ht9=>⟨one,fun l9 hl9=>?_⟩⟩;obtain⟨k9,b9⟩:=mk1 ht9 hl9;refine catC (k9 _ _ g8') (a8.mvD k9.tups) z6 b9 (by show 20+1<=200;decide) fun p10 I10 g10 a10 i10 _=>?_;have J10:=J8.trans (k9.trans i10);clear J8 k9 b9 g8' a8 i8;refine⟨_,rfl,catC g10 a10 (J10 _ _ gb1) (ab1.mvD J10.tups) (by show 21+4<=200;decide) fun p11 I11 g11 a11 i11 _=>?_⟩;have J11:=J10.trans i11;clear J10 g10 a10 i10;refine⟨big _ (by walk_at "b"),_,rfl,nl,_,1,_,rfl,rfl,SqL.of (J11 _ _ gN),zr (j:=1) rfl,m1,.inr rfl,big _ (by walk_at "o"),big _ (by walk_at "b"),big _ (by walk_at "b"),_,rfl,nl,_,0,_,rfl,rfl,SqL.of (J11 _ _ gN),zr (j:=0) rfl,m0,.inr rfl,big _ (by walk_at "o"),big _ (by walk_at "b"),big _ (by walk_at "b"),?_⟩;rw[ee4];refine⟨_,rfl,op',other',os',rfl,J11 _ _ R1N.at_,R1N.h2.mv J11.tups,R1N.ln,H1'.fine.2,fun I12 i12=>⟨two,fun t12 ht12=>⟨one,fun l12 hl12=>?_⟩⟩⟩;obtain⟨k12,b12⟩:=mk1 ht12 hl12;refine catC ((i12.trans k12) _ _ g11) (a11.mvD (i12.trans k12).tups) z6 b12 (by show 25+1<=200;decide) fun p13 I13 g13 a13 i13 _=>?_;have J13:=J11.trans ((i12.trans k12).trans i13);clear J11 i12 k12 b12 g11 a11 i11;dsimp only[kc];subst hx;refine cut1 fun nx hx=>?_;refine⟨_,rfl,_,rfl,nl,_,0,_,rfl,rfl,SqL.of (J13 _ _ gN),zr (j:=0) rfl,_,rfl,_,rfl,_,rfl,_,rfl,_,rfl,m0,op',hq,w,os',other',hs,sm',g,rfl,hm0,(R1N.mv J13.tups),(J13 _ _ gqN),lB,bB,sm24,g4,(J13 _ _ gwN),lg1,fun d xd I14 gd ad i14 nd=>?_⟩;refine catC (i14 _ _ g13) (a13.mvD i14.tups) gd ad (by show 26+4<=200;decide) fun p15 I15 g15 a15 i15 n15=>?_;have J15:=J13.trans (i14.trans i15);have n15':HN p15=none:=(J13.trans i14).free n15;clear J13 i14 i15 g13 a13 gd ad i13 n15;dsimp only[kc];subst hx;refine cut1 fun nx hx=>?_;refine⟨_,rfl,.inl ⟨rfl,_,SqL.of g15⟩,?_⟩;refine⟨big _ (by walk_at "b"),_,rfl,nl,_,0,_,rfl,rfl,SqL.of (J15 _ _ gN),zr (j:=0) rfl,m0,.inr rfl,big _ (by walk_at "o"),big _ (by walk_at "b"),big _ (by walk_at "b"),?_⟩;rw[ee2];refine⟨_,rfl,nl,_,1,_,rfl,rfl,SqL.of (J15 _ _ gN),zr (j:=1) rfl,two,fun t16 ht16=>?_⟩;clear hl3 ht3 hl6 ht6 hl9 ht9 hl12 ht12 nd;have k16:=Same.new (o:=.tup [V.str (Str.ofString "drop "++m0),V.str m1]) ht16;refine⟨p15,_,_,rfl,rfl,k16 _ _ g15,?_,?_⟩
  ·have:=a15.length;rw[<-this];exact lt_of_le_of_lt (m:=30) (le_refl _) (by decide)
  generalize hx15:([V.ref t1]++[V.ref t2]++xf++xc++[V.ref t3]++xb++[V.ref t6]++xf++[V.ref t9]++xb++[V.ref t12]++xd)=x15 at g15 a15 ⊢;have tV:=vd (H:=upd I15 t16 (.tup [V.str (Str.ofString "drop "++m0),V.str m1])) (a:=p15) (o:=.lst (x15++[V.ref t16])) (k16 _ _ g15) (fun _ z=>by cases z);have sV:=(J15.trans k16).updN (o:=.lst (x15++[V.ref t16])) n15';have gV:=z6 (H:=upd I15 t16 (.tup [V.str (Str.ofString "drop "++m0),V.str m1])) (a:=p15) (o:=.lst (x15++[V.ref t16]));have aV:=(a15.mvD (k16.tups.trans tV)).snoc (a:=(Str.ofString "drop "++m0,(.inl m1:DueT))) ⟨t16,_,rfl,tV _ _ z6,rfl⟩;generalize upd (upd I15 t16 (.tup [V.str (Str.ofString "drop "++m0),V.str m1])) p15 (.lst (x15++[V.ref t16]))=HV at sV gV aV ⊢;clear tV k16 J15 g15 a15 ht16 hx15;dsimp only[kc];subst hx;refine cut1 fun nx hx=>?_;refine⟨_,rfl,_,rfl,f,rfl,⟨_,SqL.of (sV _ _ gf1)⟩,?_⟩;refine iG (rows:=je m0 rule' hs sm' g) (tl:=[some (V.ref nl)]) m0 (by show 4<=200;decide) rfl (sV _ _ gf1) (af1.mvD sV.tups) (fun z u H' P s' k'=>?_) fun zs H' pz s' az hz=>?_
  ·refine⟨_,rfl,_,rfl,nl,_,0,_,rfl,rfl,SqL.of (s' _ _ (sV _ _ gN)),zr (j:=0) rfl,two,fun d1 hd1=>⟨two,fun q1 hq1=>k' q1 d1 _ ((Same.new hd1).trans (Same.new hq1)) z6 (Same.new hq1 _ _ z6)⟩⟩
  have kz:=s'.trans (Same.new (o:=.lst zs) hz);refine catC (kz _ _ gV) (aV.mvD kz.tups) z6 (az.mvD (Same.new hz).tups) (by show 31+4<=200;decide) fun p17 I17 g17 a17 i17 _=>?_;have J17:=sV.trans (kz.trans i17);clear sV kz az s' gV aV i17 hz;refine⟨_,rfl,two,fun t18 ht18=>⟨_,rfl,two,fun t19 ht19=>⟨two,fun l18 hl18=>?_⟩⟩⟩;obtain⟨k18,b18⟩:=mk2 ht18 ht19 hl18;refine catC (k18 _ _ g17) (a17.mvD k18.tups) z6 b18 (by show 35+2<=200;decide) fun p20 I20 g20 a20 i20 _=>?_;have J20:=J17.trans (k18.trans i20);have a20':All2 RowD I20 (vv m0 m1 deed zb rule' other' new hs sm' g) _:=a20;clear J17 k18 b18 g17 a17 i20 ht18 ht19 hl18 a20;dsimp only[kc];subst hx;refine fun x dx nx ndx ne=>⟨x,dx,rfl,z6,fun H9 O D9 k9 o9=>⟨rfl,?_⟩⟩;obtain⟨s9,f9⟩:=fz nx ndx (.inr ne) k9 o9;have J21:=J20.trans s9;refine⟨_,rfl,_,rfl,?_⟩;dsimp only[yH,tNil];refine⟨_,rfl,b,_,rfl,SqL.of (J21 _ _ gb1),fun p22 hp22=>?_⟩;have k22:=Same.new (o:=.lst (cutV xb (some 2) none)) hp22;have b22:All2 RowD (upd H9 p22 (.lst (cutV xb (some 2) none))) ((je m0 new hs sm' g).drop 2) (cutV xb (some 2) none):=by
   rw[show cutV xb (some 2) none=xb.drop 2 from rZ xb 2];exact(ab1.mvD (J21.trans (Same.new hp22)).tups).drop 2
  refine catC ((s9.trans k22) _ _ g20) (a20'.mvD (s9.trans k22).tups) z6 b22 (by rw[qH];show 37+2<=200;decide) fun p23 I23 g23 a23 i23 _=>?_;have K23:=k22.trans i23;have J23:=J21.trans K23;clear b22 k22 hp22 i23 J20 a20' g20;refine⟨_,rfl,?_⟩;dsimp only[yH,tNil];refine⟨_,rfl,c,_,rfl,SqL.of (J23 _ _ gc1),fun p24 hp24=>?_⟩;have k24:=Same.new (o:=.lst (cutV xc none (some 1))) hp24;have b24:All2 RowD (upd I23 p24 (.lst (cutV xc none (some 1)))) ((je m1 other' hs sm' g).take 1) (cutV xc none (some 1)):=by
   have l4:xc.length=4:=ac1.length.symm;rw[show cutV xc none (some 1)=xc.take (min 1 xc.length)from pT xc 1,l4];exact(ac1.mvD (J23.trans (Same.new hp24)).tups).take 1
  have hlen:(vv m0 m1 deed zb rule' other' new hs sm' g++(je m0 new hs sm' g).drop 2).length=39:=by rw[length_append,qH];rfl
  refine catC (k24 _ _ g23) (a23.mvD k24.tups) z6 b24 (by rw[hlen];show 39+1<=200;decide) fun p25 I25 g25 a25 i25 n25=>?_;have K25:=K23.trans (k24.trans i25);exact⟨x,p25,O,[],[],[],_,_,rfl,D9.same K25,g25,a25,D9.nin ((K23.trans k24).free n25),Kn hm0 hm1 hne hdeed A0 A1 A2 H0 H1' H2' hh lB sm24 g4 both,by rw[length_append,hlen];show 39+1<=1000;decide,fun H'=>k H'⟩
end
theorem JI{l:W.OpenLaw}{w:World}{K:W.Frag}{mg:Str->Option Value}{fa:Addr}{A:Adr}(hfa:mg "law"=some (.ref fa))(T:Txt l.prog w K mg A) :
  ∃fd:FuncData,(∀(s:Shared)(v:Value),BindsTo s fd ⟨[v],[]⟩ [("_law_script",v)])/\ ∀base:Heap,K.In base->base.Ns mainGlobals mg->FnOk l.prog w K mg base CX0 40 fa fd ["_law_script"] (sp_law K):=by
 have e:=hfa.symm.trans T.x67.g;cases e;obtain⟨_,_,_,_,_,_,_,_,_,e,_⟩:=T.x67.F.ex;exact⟨A.f67,fun s v=>by rw[e];exact .of_eq rfl,fun base _ _=>YL T⟩
theorem walk{l:W.OpenLaw}{q:Program}{loose:List Str}{XP:(Str->Option Value)->Heap->Prop}{YP:World->Heap->Prop}{d:DefRec}{K:Params->W.Frag}(hn:l.most=some 63)(hdf:d.params.defaults=[])(hY:∀(w:World) (h:Heap),YP w h->(K w.params).In h)(F:∀(w:World) (mg:Str->Option Value) (fa:Addr) (h:Heap),(K w.params).In h->h.Ns mainGlobals mg->mg d.name=some (.ref fa)->
   ∃fd:FuncData,(∀(s:Shared) (u:Value),BindsTo s fd ⟨[u],[]⟩ [("_law_script",u)])/\ ∀base:Heap,(K w.params).In base->base.Ns mainGlobals mg->FnOk l.prog w (K w.params) mg base CX0 40 fa fd ["_law_script"] (sp_law (K w.params))) :
  W.WalkO q loose XP YP l.row.toRowW d [] (fun f vs=>PySem.call f vs) :=
 L2.JF (n:=63) (k:=40) (x :="_law_script") (CX:=fun _=>CX0) (sp:=fun w=>sp_law (K w.params)) hn (by decide) hdf ⟨fun _=>rfl,by decide,by decide⟩ hY F (fun _ _ a ns hl _ hS=>⟨a,ns,rfl,hS,hl,fun _=>rfl⟩) fun _ _ _ _ _ z=>z
end My
namespace PySem.W.Fast
def Z:=Nat
def tw18268488481162057336:=Z
def tw17671463353071167459:=Z
def tw8633935190190246825:=Z
def tw9348390938689540524:=Z
def tw975195040711117146:=Z
def tw6878680322439230073:=Z
def tw11592136232093974885:=Z
def tw9588176091244083460:=Z
def tw4896483980349431232:=Z
def tw8293328360238534595:=Z
def tw5947649396739911429:=Z
def tw11125332201376519255:=Z
def tw3739978086083514281:=Z
def tw3265064653861691565:=Z
def tw1078197612982255544:=Z
def tw255420254688539156:=Z
def tw14788817263933809131:=Z
def tw11206143467794548163:=Z
def tw6976063492291530975:=Z
def tw7695073654857011359:=Z
def tw2588617436998845438:=Z
def tw5426624799770927955:=Z
def tw13948922677926976014:=Z
def tw8888737991357968159:=Z
def tw3360910199176159044:=Z
def tw16205245381470731047:=Z
def tw4449523741692230150:=Z
def tw15668440360300280795:=Z
def tw9011657078974614180:=Z
def tw8465879964040027614:=Z
def tw7805846741836340012:=Z
def tw4362470558893911829:=Z
def tw255190144198361182:=Z
def tw12630935605685525521:=Z
def tw16011153876552547474:=Z
def tw7251106437379941547:=Z
def tw7132714589473854981:=Z
def tw14908921817417658191:=Z
def tw11707830757129777111:=Z
def tw394253905828695153:=Z
def tw7692519746164664996:=Z
def tw10168362190868053735:=Z
def tw6787078770115026652:=Z
def tw8343700210605475296:=Z
def tw14157768231117547580:=Z
def tw8825492121124872905:=Z
def tw7964362568082053609:=Z
def tw15503172437871421493:=Z
def tw2253837185153684794:=Z
def tw7500156389108329706:=Z
def tw16982948677118724252:=Z
def tw13136142474740174105:=Z
def tw17510987466573716852:=Z
def tw1885371981625400618:=Z
def tw16963856313972069492:=Z
def tw6861330563409757782:=Z
def tw1050972754716193812:=Z
def tw10909567956188766809:=Z
def tw502559649077306059:=Z
def tw13704949070310171777:=Z
def tw4019605427660952150:=Z
def tw2940113492811588276:=Z
def tw1149256755564848721:=Z
def tw7932193443385186871:=Z
def tw2516961479683707707:=Z
def tw1542851795316718476:=Z
def tw1201225849077581723:=Z
def tw4088468351974143635:=Z
def tw5606772843124002420:=Z
def tw8389036774951288160:=Z
def tw8465147178464137860:=Z
def tw5775433587285138024:=Z
def tw1986312765248895219:=Z
def tw8670615364788045686:=Z
def tw12236798980526387163:=Z
def tw4003795696347707126:=Z
def tw8668395043189342315:=Z
def tw4247505822171206629:=Z
def tw1308963336710153971:=Z
def tw15422970168248631519:=Z
def tw13353397396931189161:=Z
def tw15997711110421633902:=Z
def tw16698324569955097918:=Z
def tw18346052019383710457:=Z
def tw7208014833047890857:=Z
def tw5699850887661187434:=Z
def tw12132684244811529403:=Z
def tw1068572739815828739:=Z
def tw6987405961601432062:=Z
def tw2262223957662835226:=Z
def tw12722443602067528229:=Z
def tw15828178912670119845:=Z
def tw8283096228093113349:=Z
def tw14754198330970735363:=Z
def tw14585285864646678410:=Z
def tw7513967474551003006:=Z
def tw2061358888080273196:=Z
def tw1370734029652224053:=Z
def tw1118362046088819196:=Z
def tw15936574368841012114:=Z
def tw9216574954637230162:=Z
def tw9590313025486430947:=Z
def tw6525174850030606326:=Z
def tw16295774895028970764:=Z
def tw4497389471862107561:=Z
def tw9807199460084107313:=Z
def tw16674693690111415275:=Z
def tw6591720711784638145:=Z
def tw13600455671186171604:=Z
def tw11688682453406127866:=Z
def tw17648562283309729534:=Z
def tw7772586747581925482:=Z
def tw5623438661781447543:=Z
def tw11125464432115148098:=Z
def tw2640713878606484984:=Z
def tw3225964498431004490:=Z
def tw2641966097464689327:=Z
def tw11808772965225475229:=Z
def tw17559110718814289678:=Z
def tw3073132024715878153:=Z
def tw17619574323543003624:=Z
def tw1973554962133211639:=Z
def tw14795804556473235840:=Z
def tw10020150462948612184:=Z
def tw2594663152513844729:=Z
def tw10730805256178366370:=Z
def tw6687761540879999699:=Z
def tw18084744118587358154:=Z
def tw8543574450401625714:=Z
def tw5654396076206412852:=Z
def tw678539866276725368:=Z
def tw11319880738259568937:=Z
def tw12245861699643861902:=Z
def tw8048180155628613435:=Z
def tw12352510203402845999:=Z
def tw18399948915631944121:=Z
def tw4509977418521707348:=Z
def tw2086576402776364811:=Z
def tw4259773301568426357:=Z
def tw14285339911339664238:=Z
def tw557687997533255002:=Z
def tw1331144197616408969:=Z
def tw12314648207344710710:=Z
def tw3631810669482058104:=Z
def tw2480940204944815983:=Z
def tw8805780494810864620:=Z
def tw9484637235552308126:=Z
def tw6105238292382725301:=Z
def tw12666050275480845101:=Z
def tw1432837891729194639:=Z
def tw18155445481625725110:=Z
def tw9957537663576853855:=Z
def tw6212948368268130383:=Z
def tw6776039431615155608:=Z
def tw7957218986548687856:=Z
def tw12023732623802098452:=Z
def tw15310496930457706463:=Z
def tw3418441773286719452:=Z
def tw16636735678712355251:=Z
def tw13783652520304867465:=Z
def tw2430109190202794638:=Z
def tw11620393350064378056:=Z
def tw145787368579642633:=Z
def tw15128935694168624449:=Z
def tw7381712472306380072:=Z
def tw15402699673117299235:=Z
def tw2054978850474180076:=Z
def tw7364829396920196363:=Z
def tw9403476524952760779:=Z
def tw5925981966636764027:=Z
def tw7613285503480177734:=Z
def tw10585784442097968421:=Z
def tw9230700085429454610:=Z
def tw4947005833659284247:=Z
def tw11088619484369503385:=Z
def tw17466757080539137464:=Z
def tw14893006419139869641:=Z
def tw11809741572382610177:=Z
def tw9857322277028496579:=Z
def tw15820296564823615266:=Z
def tw16754865281754270907:=Z
def tw2119656454386271119:=Z
def tw5689920476126385150:=Z
def tw1889514360755474387:=Z
def tw7776927260069336788:=Z
def tw8272702826687668808:=Z
def tw13542337325146382581:=Z
def tw12505179771129587219:=Z
def tw9884686479961314454:=Z
def tw7366319222381468587:=Z
def tw17713226485964508258:=Z
def tw16853707153280849613:=Z
def tw7729211229488283096:=Z
def tw3514362739008722025:=Z
def tw12464901606926024670:=Z
def tw2065247712789035831:=Z
def tw12327045377847195636:=Z
def tw18208663476111503716:=Z
def tw4423160458947724303:=Z
def tw111823503806768548:=Z
def tw15342071171007199396:=Z
def tw10930248746397709231:=Z
def tw6649227211304248817:=Z
def tw15595249124156563808:=Z
def tw12726824906020974835:=Z
def tw4407027675187194745:=Z
def tw9884479398568291766:=Z
def tw4553078631790642448:=Z
def tw5821827883381582061:=Z
def tw1868367038094424978:=Z
def tw1242234385099086463:=Z
def tw8745326913841040100:=Z
def tw9173786889195318079:=Z
def tw7398827387873769930:=Z
def tw4888646195427950757:=Z
def tw12967032209496258468:=Z
def tw15837033095667439053:=Z
def tw15176297847039190903:=Z
def tw14566075249646738730:=Z
def tw4324490167574393507:=Z
def tw10237367076820477948:=Z
def tw7576702164982830805:=Z
def tw1140287711304701638:=Z
def tw958438911589648054:=Z
def tw11691238482025116569:=Z
def tw965032085475915188:=Z
def tw4282713745610251655:=Z
def tw924117290824197247:=Z
def tw8481912325832413847:=Z
def tw17878671249857105556:=Z
def tw772415308029511147:=Z
def tw17882288213028459621:=Z
def tw14127944007660791173:=Z
def tw14824553943379768378:=Z
def tw12077869833729297912:=Z
def tw7958652595807025931:=Z
def tw8846781893746783677:=Z
def tw5032387493371411080:=Z
def tw1361973169487494122:=Z
def tw13357799112051308798:=Z
def tw1142703468866400104:=Z
def tw3403325249266591138:=Z
def tw13844261158723090260:=Z
def tw14891005693716836031:=Z
def tw17470612421706981613:=Z
def tw7544370339905471244:=Z
def tw9295351366743662839:=Z
def tw2910998050173657057:=Z
def tw9591771424348548020:=Z
def tw3908770930329289969:=Z
def tw12141284446123978893:=Z
def tw5609705580783675180:=Z
def tw17877414858234711100:=Z
def tw18125621294595051536:=Z
def tw4972612797005483317:=Z
def tw8895317105533322645:=Z
def tw4304689720371003733:=Z
def tw14787922565154230892:=Z
def tw4160363552256696393:=Z
def tw7418879002333141467:=Z
def tw1641121639396809103:=Z
def tw966006297478090339:=Z
def tw13449240320993647476:=Z
def tw8624750263511907260:=Z
def tw5570719278375473338:=Z
def tw8938552921853926781:=Z
def tw2260662418945486208:=Z
def tw11556668370154578685:=Z
def tw1830191209819933427:=Z
def tw9462335119680489039:=Z
def tw17497479609128834420:=Z
def tw17478049565446061675:=Z
def tw5857574713988199293:=Z
def tw8805100181081908384:=Z
def tw7361689360786767399:=Z
def tw6722907440630496409:=Z
def tw6185997818723440500:=Z
def tw6016264265071898002:=Z
def tw546126446546482977:=Z
def tw4159433353946408363:=Z
def tw13023952026161385021:=Z
def tw16734010399534945628:=Z
def tw4781843186663116415:=Z
def tw9160091979539933926:=Z
def tw13923211287107173433:=Z
def tw17714929444949824762:=Z
def tw8431175548451525802:=Z
def tw2242662565680127215:=Z
def tw12736508355776274200:=Z
def tw9228097333112406800:=Z
def tw17891918178799318354:=Z
def tw4225441347979304663:=Z
def tw2884487970290348229:=Z
def tw2115307350346041450:=Z
def tw16727837842335361940:=Z
def tw12458611106939910586:=Z
def tw16516021638124961454:=Z
def tw8534188568480550827:=Z
def tw5195059382703641429:=Z
def tw17835814581228036124:=Z
def tw17034799727801133998:=Z
def tw14385091996148738916:=Z
def tw1410004022578662837:=Z
def tw13803557575566412142:=Z
def tw1806356696847350796:=Z
def tw16473978173420604047:=Z
def tw10127728434972954767:=Z
def tw6476800454211043163:=Z
def tw5181998861915555935:=Z
def tw3175800419940533621:=Z
def tw13951900013851981215:=Z
def tw13441371731463250684:=Z
def tw287867759870070553:=Z
def tw15967262400905308927:=Z
def tw4671757356026972564:=Z
def tw11943592228625129741:=Z
def tw4571536582664118891:=Z
def tw15608483103421863843:=Z
def tw12899716042006043228:=Z
def tw8790401680503321500:=Z
def tw7206537015452047418:=Z
def tw3590936859800186561:=Z
def tw18269988332157719355:=Z
def tw16536693368423900863:=Z
def tw9533252972950483100:=Z
def tw17214185301674835574:=Z
def tw16083051586529454469:=Z
def tw12270415947664696339:=Z
def tw13485369000827007185:=Z
def tw9259498733391155714:=Z
def tw2183580010090408411:=Z
def tw9892330292364807951:=Z
def tw6675268578903197409:=Z
def tw14982880740582484284:=Z
def tw10373271518470102291:=Z
def tw1723000174378720495:=Z
def tw5934653725774934126:=Z
def tw13590758521387620469:=Z
def tw13282706987249058073:=Z
def tw13141891853758263329:=Z
def tw8106465058290687090:=Z
def tw16682591583565876476:=Z
def tw15707926798945298175:=Z
def tw10371748635559317054:=Z
def tw12985052662233636703:=Z
def tw5967579373290381388:=Z
def tw18431894261616416532:=Z
def tw15027516209843302587:=Z
def tw3607898445333405155:=Z
def tw16417015863279768234:=Z
def tw15408430402381945049:=Z
def tw10873581416108437925:=Z
def tw3627167369530359093:=Z
def tw3948403105980585812:=Z
def tw9453927097702659503:=Z
def tw16552117337124137:=Z
def tw13375389302590179978:=Z
def tw10157523156148139780:=Z
def tw2096281287755679478:=Z
def tw7610106325039724498:=Z
def tw5704920966340740442:=Z
def tw12785980466495302437:=Z
def tw11273336105919677418:=Z
def tw12794698336822575146:=Z
def tw2905708850852632997:=Z
def tw14711924114300661893:=Z
def tw18256181480215912530:=Z
def tw13424591562249407884:=Z
def tw11959323806527587578:=Z
def tw13708798055454388621:=Z
def tw11409188947688106508:=Z
def tw9780229248508805974:=Z
def tw6899721883589831957:=Z
def tw11732742343571527003:=Z
def tw17524925258024057065:=Z
def tw12124767618618455244:=Z
def tw1879491690241467223:=Z
def tw18227479583826371697:=Z
def tw17791285487656717335:=Z
def tw13851204389106286549:=Z
def tw6116933361875058966:=Z
def tw5288755067100070544:=Z
def tw9466655662402271149:=Z
def tw6749877491314177602:=Z
def tw15872375450193961026:=Z
def tw14355812404030528704:=Z
def tw13909344252406838712:=Z
def tw10051428086727161989:=Z
def tw7164174768147389600:=Z
def tw12327445031818174433:=Z
def tw9552542482959421389:=Z
def tw2548324278549416852:=Z
def tw16749710641930593173:=Z
def tw287918958780590228:=Z
def tw13482843917348961690:=Z
def tw11493358889902053413:=Z
def tw1143817482660028175:=Z
def tw10947607364821456251:=Z
def tw14163121187128573687:=Z
def tw5818964607917963747:=Z
def tw15082544072869021577:=Z
def tw14849691009201155609:=Z
def tw801660594197135740:=Z
def tw6308164285073890839:=Z
def tw1928034407692699843:=Z
def tw8031835122502238100:=Z
def tw641955768645233668:=Z
def tw18098906757875238188:=Z
def tw17302848142276410173:=Z
def tw15011881361666005516:=Z
def tw13614890394968995398:=Z
def tw1142270970643163314:=Z
def tw8747224974153300882:=Z
def tw6931233007250705442:=Z
def tw8299192725054303974:=Z
def tw2075171501987199463:=Z
def tw1694233657609555513:=Z
def tw15405977438943420704:=Z
def tw15091865526097538838:=Z
def tw14456278427314897694:=Z
def tw415986822122651805:=Z
def tw4498368330584852346:=Z
def tw16057455805163233907:=Z
def tw5895266851745648307:=Z
def tw16526983584475899058:=Z
def tw5358026776617074076:=Z
def tw4790073983247057185:=Z
def tw1923963983723522584:=Z
def tw17958384907370068752:=Z
def tw17359321397342052118:=Z
def tw1249855511046111404:=Z
def tw11375052741571104807:=Z
def tw10494402749026853108:=Z
def tw8439397369811216262:=Z
def tw7787921258477469320:=Z
def tw7056330185531903259:=Z
def tw16413060390324372138:=Z
def tw9644562419897230930:=Z
def tw4946375301680396875:=Z
def tw3836271542253832030:=Z
def tw18311510113786628416:=Z
def tw17199181133248616027:=Z
def tw236632162206562980:=Z
def tw12562330432668220873:=Z
def tw17381927130923221009:=Z
def tw9163276255490158964:=Z
def tw8728183993263552033:=Z
def tw7433014153685319562:=Z
def tw7417194762381577750:=Z
def tw6514135733641465194:=Z
def tw3021036627401679573:=Z
def tw1882775526277137591:=Z
def tw17417672645636929253:=Z
def tw15027023439760552680:=Z
def tw13849860374094427023:=Z
def tw13725491810641105519:=Z
def tw1192958052214168383:=Z
def tw9284692645512923659:=Z
def tw2092261263775798704:=Z
def tw14189828192199938685:=Z
def tw11558594033943628002:=Z
def tw368093380186534914:=Z
def tw11465522778485291867:=Z
def tw9730995495876080301:=Z
def tw931122977537780971:=Z
def tw8550049781813476224:=Z
def tw7841685390690173918:=Z
def tw7122741641953766435:=Z
def tw4803564432400060555:=Z
def tw4300274504546439034:=Z
def tw352716459658351157:=Z
def tw2406886557536552179:=Z
def tw2276273137480889406:=Z
def tw2108802774442106331:=Z
def tw15677559152076447609:=Z
def tw11534504925226989588:=Z
def tw10592039494533003896:=Z
def tw10535892649756581592:=Z
def tw10250255950662834390:=Z
def tw10004423029299670769:=Z
def tw931744965945018276:=Z
def tw5469662843510502373:=Z
def tw17569426184518359656:=Z
def tw18135384040133033362:=Z
def tw13885998281414427788:=Z
def tw599503942581761851:=Z
def tw2131676406626582622:=Z
def tw10816720363479287673:=Z
def tw12107808163153138795:=Z
def tw9269570207445963297:=Z
def tw7824965870788011923:=Z
def tw5180663404637284649:=Z
def tw462631076101413162:=Z
def tw2853358219631346607:=Z
def tw16715138234378282847:=Z
def tw15366376036793656164:=Z
def tw14792640952758142100:=Z
def tw12054531039908480053:=Z
def tw10924632473307508014:=Z
def tw14341123557454649909:=Z
def tw9469819046627251339:=Z
def tw8928840262235340887:=Z
def tw7980793011786300752:=Z
def tw7862275469245703208:=Z
def tw7533637848025729993:=Z
def tw6820575712935082246:=Z
def tw5613692806991731790:=Z
def tw5112611595999208037:=Z
def tw4098265929084368110:=Z
def tw365351511446084556:=Z
def tw2542952005152527160:=Z
def tw177722532368086854:=Z
def tw14657656612266831534:=Z
def tw11192631819841211800:=Z
def tw8959462303095402151:=Z
def tw7807285454073701233:=Z
def tw6482484744447555995:=Z
def tw12545227923927557316:=Z
def tw6076955855574529287:=Z
def tw8223522879102168533:=Z
def tw12748590270218943338:=Z
def tw7243174743574106369:=Z
def tw13987055615503378433:=Z
def tw9920942788229059956:=Z
def tw9528779845761769757:=Z
def tw9409631128612242057:=Z
def tw8408317370213481186:=Z
def tw7665219500001461611:=Z
def tw7529615709209545379:=Z
def tw5016221789634176621:=Z
def tw3901420252874532326:=Z
def tw16104122795577598900:=Z
def tw15430262705109296761:=Z
def tw14580480701206210413:=Z
def tw14192130424189113134:=Z
def tw14114374739037751473:=Z
def tw13571506287275981343:=Z
def tw13552061496836309309:=Z
def tw12520639325422830851:=Z
def tw11443104567580273620:=Z
end PySem.W.Fast
open PySem PySem.W PyProof.Rows
set_option maxRecDepth 100000 in
set_option maxHeartbeats 0 in
theorem PySem.Challenge.cw_shutpairs_k48_what_keeps_on_the_desk_holds : PySem.Challenge.rw_shutpairs_k48_what_keeps_on_the_desk.Holds := by
 w_on;o_law;k_head;(case hw=>w_witness2)
 k_fill
 refine My.walk (l:=PySem.Challenge.rw_shutpairs_k48_what_keeps_on_the_desk) rfl rfl (fun w h Y=>W.kIn_of Y) ?F
 case F =>
  intro w mg fa h KX G hmg;apply My.JI (A:=⟨_,_,_,_,_,_,_,_,_,_,_,_,_,_,_,_,_,_,_,_,_,_,_,_,_,_,_,_,_,_,_,_,_,_,_,_,_,_,_,_,_,_,_,_,_,_,_,_,_,_,_,_,_,_,_,_,_,_,_,_,_,_,_,_,_,_,_,_,_,_,_,_,_,_,_,_,_,_,_,_,_,_,_,_,_,_,_,_,_,_,_,_,_,_,_,_,_,_,_,_,_,_,_,_,_,_,_,_,_,_,_,_,_,_,_,_,_,_,_,_,_,_,_,_,_,_,_,_,_,_,_,_,_,_,_,_,_,_,_,_,_,_,_,_,_,_,_,_⟩) hmg;constructor
  all_goals try dsimp only
  iterate 60 (refine' L2.FB.of KX G ?n ?l ?c ?k ?b;(case n=>k_is);(case l=>k_is);(case c=>k_is);(case k=>k_is);(case b=>(intro _ _ _ _ _ _;(repeat intro _);exact rfl)))
  iterate 15 (refine' W.mg_none_of KX G ?z;(case z=>k_is))
  iterate 4 (refine' L2.mgI KX G ?z;(case z=>k_is))
  (refine' L2.mgS KX G ?z;(case z=>k_is))
  (refine' L2.mgI KX G ?z;(case z=>k_is))
  (refine' L2.mgS KX G ?z;(case z=>k_is))
  iterate 2 (refine' L2.mgI KX G ?z;(case z=>k_is))
  (exact⟨_,KX⟩)
  iterate 9 (refine' W.mg_of KX G ?z;(case z=>k_is))
  iterate 4 (refine'⟨?x,?y⟩;(case x=>k_exc);(case y=>k_is))
  iterate 5 (constructor <;>k_is)
  iterate 2 (k_is)
  iterate 8 (refine' L2.MB.of ?n ?i ?l ?c ?k ?b;(case n=>k_is);(case i=>k_is);(case l=>k_is);(case c=>k_is);(case k=>k_is);(case b=>(intro _ _ _ _ _ _;(repeat intro _);exact rfl)))
  iterate 2 (constructor <;>k_is)
  iterate 4 (unfold L2.kX;k_is)
  (constructor <;>first|k_is|(unfold L2.kX;k_is)|kernel_rfl)
  (constructor <;>first|k_is|kernel_rfl)
  iterate 3 (refine' W.mg_of KX G ?z;(case z=>k_is))
  (refine' L2.iu.lit [L2.rowI "rule",L2.rowI "add",L2.rowI "take",L2.rowI "copy",L2.rowI "drop",L2.rowI "undo",L2.rowI "again",L2.rowI "names",L2.rowI "show",L2.rowI "keeps",L2.rowI "count",L2.rowI "list",L2.rowI "match",L2.rowI "send",L2.rowI "steps"] _ rfl ?l (show(["rule","add","take","copy","drop","undo","again","names","show","keeps","count","list","match","send","steps"]:List Str).Nodup by decide+kernel) rfl ⟨⟨0,_,_,rfl,L2.KTup.lit [L2.colI "FREE",L2.colI "RULE"] ?k0 (show 2<=100 by decide)⟩,⟨1,_,_,rfl,L2.KTup.lit [L2.colI "NAME",L2.colI "HEAP"] ?k1 (show 2<=100 by decide)⟩,⟨2,_,_,rfl,L2.KTup.lit [L2.colI "NAME",L2.colI "NUMBER"] ?k2 (show 2<=100 by decide)⟩,⟨3,_,_,rfl,L2.KTup.lit [L2.colI "NAME",L2.colI "FREE"] ?k3 (show 2<=100 by decide)⟩,⟨4,_,_,rfl,L2.KTup.lit [L2.colI "NAME"] ?k4 (show 1<=100 by decide)⟩,⟨5,_,_,rfl,L2.KTup.lit [] ?k5 (show 0<=100 by decide)⟩,⟨6,_,_,rfl,L2.KTup.lit [] ?k6 (show 0<=100 by decide)⟩,⟨7,_,_,rfl,L2.KTup.lit [] ?k7 (show 0<=100 by decide)⟩,⟨8,_,_,rfl,L2.KTup.lit [L2.colI "NAME"] ?k8 (show 1<=100 by decide)⟩,⟨9,_,_,rfl,L2.KTup.lit [L2.colI "NAME",L2.colI "HEAP"] ?k9 (show 2<=100 by decide)⟩,⟨10,_,_,rfl,L2.KTup.lit [L2.colI "NAME",L2.colI "NUMBER"] ?k10 (show 2<=100 by decide)⟩,⟨11,_,_,rfl,L2.KTup.lit [L2.colI "NAME",L2.colI "NUMBER"] ?k11 (show 2<=100 by decide)⟩,⟨12,_,_,rfl,L2.KTup.lit [L2.colI "NAME",L2.colI "NAME"] ?k12 (show 2<=100 by decide)⟩,⟨13,_,_,rfl,L2.KTup.lit [L2.colI "NAME",L2.colI "NAME",L2.colI "HEAP"] ?k13 (show 3<=100 by decide)⟩,⟨14,_,_,rfl,L2.KTup.lit [L2.colI "NAME",L2.colI "NAME",L2.colI "HEAP"] ?k14 (show 3<=100 by decide)⟩,trivial⟩;(case l=>k_is);(case k0=>k_is);(case k1=>k_is);(case k2=>k_is);(case k3=>k_is);(case k4=>k_is);(case k5=>k_is);(case k6=>k_is);(case k7=>k_is);(case k8=>k_is);(case k9=>k_is);(case k10=>k_is);(case k11=>k_is);(case k12=>k_is);(case k13=>k_is);(case k14=>k_is))
  (refine' L2.KFns.lit [L2.rowI "rule",L2.rowI "add",L2.rowI "take",L2.rowI "copy"] _ rfl ?l (show(["rule","add","take","copy"]:List Str).Nodup by decide+kernel) _ rfl ⟨⟨0,_,rfl⟩,⟨1,_,rfl⟩,⟨2,_,rfl⟩,⟨3,_,rfl⟩,trivial⟩;(case l=>k_is))
  (refine' L2.KFns.lit [L2.rowI "names",L2.rowI "show",L2.rowI "keeps",L2.rowI "count",L2.rowI "list",L2.rowI "match",L2.rowI "send",L2.rowI "steps"] _ rfl ?l (show(["names","show","keeps","count","list","match","send","steps"]:List Str).Nodup by decide+kernel) _ rfl ⟨⟨0,_,rfl⟩,⟨1,_,rfl⟩,⟨2,_,rfl⟩,⟨3,_,rfl⟩,⟨4,_,rfl⟩,trivial⟩;(case l=>k_is))
