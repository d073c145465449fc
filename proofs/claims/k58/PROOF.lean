import PyProof.Rows.All
import Wide.All
import OpenK.AllK
import Wide.FinOn
import PyProof.EqAt
import PyProof.EqKinds
import PyProof.TupleCall
import PyProof.StrBlockH
import PyProof.StrWalks
import PyProof.StrCalls
import PyProof.SetRoads
import PyProof.DictRoadsH
import Lean
import PySem.Challenge.RW_foreseehall_k58_fair_calls_refused
open List (mem_append_right getElem?_eq_getElem mem_append_left length_map getD_eq_getElem?_getD getElem?_map append_assoc mem_cons_of_mem mem_cons_self mem_of_getElem? length_set size_toArray getElem?_set_ne getElem?_set_self length_append map_cons map_map getElem_mem length_cons nodup_nil append_nil set_set lookup_cons getElem?_append_left flatten_cons length_take getElem?_append_right all_eq_true nil_append length_filter_le contains_iff_mem replicate_succ mem_cons not_mem_nil any_eq_true mem_range length_range pairwise_map filter_cons take_of_length_le getElem?_replicate length_singleton length_dropLast perm_append_comm getElem_of_mem find?_cons length_nil getElem?_eq_none mem_map length_drop map_nil mem_of_getLast? filter_sublist map_inj_right map_append filterMap_cons of_mem_zip drop_eq_getElem_cons ext_getElem? map_take nodup_range length_pos_of_mem)
set_option Elab.async false
set_option linter.all false
set_option maxRecDepth 100000
set_option maxHeartbeats 4000000
set_option maxRecDepth 10000
abbrev Fg:=PySem.W.Frag
abbrev JG (i:Nat):PySem.Stmt:=(PySem.Challenge.pw_foreseehall_k58_fair_calls_refused.main.body)[i]!
theorem ME {α:Type _} {a:α} (s:List α) {t:List α} (h:a∈t):a∈s++t:=List.mem_append_right s h
theorem MF {α:Type _} {a:α} {s:List α} (t:List α) (h:a∈s):a∈s++t:=List.mem_append_left t h
theorem MG {α:Type _} {a:α} {s t:List α} (h:a∈s++t):a∈s\/a∈t:=List.mem_append.mp h
theorem MH {α:Type _} {a b:α} {t:List α} (h:a∈b::t):a=b\/a∈t:=List.mem_cons.mp h
theorem MI {α:Type _} {l:List α} {i:Nat} (h:i<l.length):l[i]?=some l[i]:=List.getElem?_eq_getElem h
theorem MJ {α:Type _} {l:List α} {i:Nat} {a:α}:l.getD i a=l[i]?.getD a:=List.getD_eq_getElem?_getD
theorem MK {α:Type _} (y:α) {a:α} {l:List α} (h:a∈l):a∈y::l:=List.mem_cons_of_mem y h
abbrev ML {α:Type _} {a b:List α}:=(List.nodup_append (l₁:=a) (l₂:=b)).mp
abbrev MM {α:Type _} {a:α} {l:List α} {i:Nat}:=(List.getElem?_eq_some_iff (l:=l) (i:=i) (a:=a)).mp
abbrev MN:=@PySem.wpAny_bind
abbrev MO:=@PySem.wpAny_pure
abbrev MP:=@PySem.Heap.get?_push_of_some
abbrev MQ:=@Nat.le_refl
abbrev MR:=PySem.PyData
namespace L2
open PySem PySem.Spec PyProof.Rows
abbrev bJ:=Sum Int Str
def gR:bJ->Value->Bool
 | .inl k,v=>Value.isInt k v
 | .inr x,v=>Value.isStrOf x v
def BZ (w:World):bJ->Int
 | .inl k=>hashInt k
 | .inr x=>hashStr w x
theorem wb:∀{k:bJ} {v:Value},gR k v=true->(∃i t,k=Sum.inl i/\v=Value.int i t)\/(∃x t,k=Sum.inr x/\v=Value.str x t)
 | .inl i,v,h=>by
  obtain ⟨t,e⟩:=Value.isInt_shape (k:=i) (v:=v) h
  exact .inl ⟨i,t,rfl,e⟩
 | .inr x,v,h=>by
  obtain ⟨t,e⟩:=Value.isStrOf_shape (x:=x) (v:=v) h
  exact .inr ⟨x,t,rfl,e⟩
theorem qS (i:Int) (t:Tok):gR (.inl i) (.int i t)=true:=by simp [gR,Value.isInt]
theorem qR (x:Str) (t:Tok):gR (.inr x) (.str x t)=true:=by simp [gR,Value.isStrOf]
theorem BY (a b:Int):decide ((Sum.inl a:bJ)=Sum.inl b)=(a==b):=by
 by_cases e:a=b
 ·subst e;simp
 ·have h:¬(Sum.inl a:bJ)=Sum.inl b:=fun q=>e (Sum.inl.inj q)
  rw [decide_eq_false h];exact (beq_eq_false_iff_ne.mpr e).symm
theorem BV (a b:Str):decide ((Sum.inr a:bJ)=Sum.inr b)=decide (a=b):=by
 by_cases e:a=b
 ·subst e;simp
 ·have h:¬(Sum.inr a:bJ)=Sum.inr b:=fun q=>e (Sum.inr.inj q)
  rw [decide_eq_false h,decide_eq_false e]
theorem BX (a:Int) (b:Str):decide ((Sum.inl a:bJ)=Sum.inr b)=false:=decide_eq_false (fun q=>nomatch q)
theorem BW (a:Str) (b:Int):decide ((Sum.inr a:bJ)=Sum.inl b)=false:=decide_eq_false (fun q=>nomatch q)
def iV (prog:Program) (w:World):PySem.KeyKind prog w bJ where
 is:=gR
 hash:=BZ w
 inj:=fun v a b ha hb=>by
  rcases wb ha with ⟨i,t,rfl,rfl⟩ | ⟨x,t,rfl,rfl⟩
  ·rcases wb hb with ⟨j,u,rfl,e⟩ | ⟨y,u,rfl,e⟩
   ·injection e with e1 _;rw [e1]
   ·exact nomatch e
  ·rcases wb hb with ⟨j,u,rfl,e⟩ | ⟨y,u,rfl,e⟩
   ·exact nomatch e
   ·injection e with e1 _;rw [e1]
 byValue:=fun k v h=>by
  rcases wb h with ⟨i,t,rfl,rfl⟩ | ⟨x,t,rfl,rfl⟩<;>rfl
 pyHash:=fun hv h=>by
  rcases wb hv with ⟨i,t,rfl,rfl⟩ | ⟨x,t,rfl,rfl⟩
  ·exact wpAny_pyHash_int h
  ·exact wpAny_pyHash_str h
 eqBool:=fun hu hv h=>by
  rcases wb hu with ⟨i,t,rfl,rfl⟩ | ⟨x,t,rfl,rfl⟩
  ·rcases wb hv with ⟨j,u,rfl,rfl⟩ | ⟨y,u,rfl,rfl⟩
   ·rw [BY] at h;exact wpAny_eqBool_int h
   ·rw [BX] at h;exact SeqAt.EqAt.int_str i t y u _ _ _ _ h
  ·rcases wb hv with ⟨j,u,rfl,rfl⟩ | ⟨y,u,rfl,rfl⟩
   ·rw [BW] at h;exact SeqAt.EqAt.str_int x t j u _ _ _ _ h
   ·rw [BV] at h;exact wpAny_eqBool_str h
 «strs»:=fun k x t v h=>by
  rcases wb h with ⟨i,u,rfl,e⟩ | ⟨y,u,rfl,e⟩
  ·exact nomatch e
  ·injection e with e1 _
   subst e1
   cases v<;>rfl
theorem ll (prog:Program) (w:World) (i:Int) (t:Tok):(iV prog w).is (.inl i) (.int i t)=true:=qS i t
theorem lh (prog:Program) (w:World) (x:Str) (t:Tok):(iV prog w).is (.inr x) (.str x t)=true:=qR x t
inductive V where
 | non | bl (b:Bool) | int (i:Int) | str (x:Str) | byt (b:Array UInt8) | flt (b:UInt64) | ref (a:Addr) | ty (n:String)
 deriving DecidableEq
def RelV:V->Value->Prop
 | .non,u=>u=Value.none
 | .bl b,u=>u=Value.bool b
 | .int i,u=>∃t,u=Value.int i t
 | .str x,u=>∃t,u=Value.str x t
 | .byt b,u=>∃t,u=Value.bytes b t
 | .flt b,u=>∃t,u=Value.float b t
 | .ref a,u=>u=Value.ref a
 | .ty n,u=>u=Value.type n
abbrev Vals:List V->List Value->Prop:=Paired RelV
theorem Vals.length {xs:List V} {us:List Value} (r:Vals xs us):xs.length=us.length:=Paired.length r
theorem Vals.get:∀{xs:List V} {us:List Value} {i:Nat} {x:V},Vals xs us->xs[i]?=some x->∃u,us[i]?=some u/\RelV x u
 | _,_,_,_,.nil,e=>by simp at e
 | _,_,0,_,.cons r _,e=>by simp at e;subst e;exact ⟨_,rfl,r⟩
 | _,_,i+1,x,.cons _ t,e=>by
  obtain ⟨u,h1,h2⟩:=Vals.get (i:=i) (x:=x) t (by simpa using e)
  exact ⟨u,by simpa using h1,h2⟩
theorem Vals.set {x:V} {u:Value} (r:RelV x u):∀{xs:List V} {us:List Value} (i:Nat),Vals xs us->Vals (xs.set i x) (us.set i u)
 | _,_,_,.nil=>.nil
 | _,_,0,.cons _ t=>.cons r t
 | _,_,i+1,.cons q t=>.cons q (Vals.set r i t)
theorem Vals.append:∀{xs ys:List V} {us ws:List Value},Vals xs us->Vals ys ws->Vals (xs++ys) (us++ws)
 | _,_,_,_,.nil,s=>s
 | _,_,_,_,.cons r t,s=>.cons r (Vals.append t s)
theorem Vals.take:∀{xs:List V} {us:List Value} (n:Nat),Vals xs us->Vals (xs.take n) (us.take n)
 | _,_,0,_=>.nil
 | _,_,_+1,.nil=>.nil
 | _,_,n+1,.cons r t=>.cons r (Vals.take n t)
theorem Vals.drop:∀{xs:List V} {us:List Value} (n:Nat),Vals xs us->Vals (xs.drop n) (us.drop n)
 | _,_,0,r=>r
 | _,_,_+1,.nil=>.nil
 | _,_,n+1,.cons _ t=>Vals.drop n t
def RelO:Option V->Option Value->Prop
 | some v,some u=>RelV v u
 | none,none=>True
 | _,_=>False
def KV {κ:Type}:List (κ×V)->List (κ×Value)->Prop:=Paired fun (p:κ×V) (q:κ×Value)=>p.1=q.1/\RelV p.2 q.2
def kV:bJ->V
 | .inl i=>.int i
 | .inr x=>.str x
inductive HO where
 | lst (xs:List V)
 | tup (xs:List V)
 | dK (kvs:List (bJ×V)) | dT (kvs:List (List bJ×V))
 | set (S:Int->Bool) (n:Nat)
 | ins (C dx:Addr) (fs:List (Str×V))
 | own (x:Addr)
 | xd (fs:List (Str×V))
 | met (f x:Addr)
 | rng (lo hi:Int)
 | frz (o:Obj) (u:HO)
 | tbl (ps:Array Value)
 | ext (φ:Heap->Prop)
abbrev Hp:=Addr->Option HO
def bF (H:Hp) (a:Addr) (o:HO):Hp:=fun b=>if b=a then some o else H b
theorem dO {H:Hp} {a:Addr} {o:HO}:bF H a o a=some o:=by unfold bF;rw [if_pos rfl]
theorem cO {H:Hp} {a b:Addr} {o:HO} (h:b≠a):bF H a o b=H b:=by unfold bF;rw [if_neg h]
theorem EO {H:Hp} {a b:Addr} {o u:HO} (h:H a=some o) (h':H b=some u) (d:o≠u):a≠b:=by
 intro e;subst e;rw [h] at h';exact d (Option.some.inj h')
theorem kc {H:Hp} {a b:Addr} {o:HO} (h:H a=some o) (h':H b=none):a≠b:=by
 intro e;subst e;rw [h] at h';cases h'
section
variable (P:Program) (w:World)
def ObjOk (H:Hp) (h:Heap) (a:Addr):HO->Prop
 | .lst xs=>xs.length<=sizeLine/\∃(its:List Value) (n:Nat),Vals xs its/\h.get? a=some { cls:=.type "list",data:=.seq its.toArray n }
 | .tup xs=>xs.length<=sizeLine/\∃its:List Value,Vals xs its/\IsTup h a its.toArray
 | .dK kvs=>kvs.length<=sizeLine/\(a==sysModules)=false/\∃vs,KV kvs vs/\h.DictOf (iV P w) a vs
 | .dT kvs=>kvs.length<=sizeLine/\(a==sysModules)=false/\∃xs:List (List bJ×Addr×Value),
   Paired (fun (p:List bJ×V) (q:List bJ×Addr×Value)=>p.1=q.1/\H q.2.1=some (.tup (p.1.map kV))/\RelV p.2 q.2.2) kvs xs /\
   ∃o es ep,h.get? a=some o/\o.ExactDict/\o.data=.dict es ep/\es.toList=xs.map (entryOfKey (tupleKind (iV P w)))/\(xs.map (·.1)).Nodup
 | .set S n=>h.SetOf (intKind P w) a S n
 | .ins C dx fs=>H dx=some (.own a)/\fs.length<=1000/\dx≠a/\h.get? a=some (PySem.W.instObj C dx) /\
   ∃mA,h.Ns1 dx mA/\(∀f,RelO (fs.lookup f) (mA f))/\PySem.Within mA (fs.map (·.1))
 | .own _=>∃o,h.get? a=some o
 | .xd fs=>∃mA,h.Ns1 a mA/\∀f,RelO (fs.lookup f) (mA f)
 | .rng lo hi=>∃t u v,h.get? a=some { cls:=.type "range",data:=.fields #[.int lo t,.int hi u,.int 1 v] }
 | .frz o u=>h.get? a=some o/\ObjOk H h a u
 | .tbl ps=>h.get? a=some { cls:=.none,data:=.fields ps }
 | .met f x=>h.get? a=some (PySem.W.methodObj (.ref f) (.ref x))
 | .ext φ=>φ h/\(∃o,h.get? a=some o)/\∀h1 h2:Heap,φ h1->(∀o,h1.get? a=some o->h2.get? a=some o)->φ h2
def HOk (H:Hp) (h:Heap):Prop:=∀a o,H a=some o->ObjOk P w H h a o
end
section
variable {P:Program} {w:World} {H H':Hp} {h h':Heap} {a:Addr} {o:HO}
theorem ObjOk.lt (x:ObjOk P w H h a o):a<h.objs.size:=by
 cases o with
 | lst xs=>obtain ⟨_,_,_,_,e⟩:=x;exact Heap.lt_size e
 | tup xs=>obtain ⟨_,_,_,p⟩:=x;exact p.lt
 | dK kvs=>obtain ⟨_,_,_,_,o,_,_,e,_⟩:=x;exact Heap.lt_size e
 | dT kvs=>obtain ⟨_,_,_,_,o,_,_,e,_⟩:=x;exact Heap.lt_size e
 | set S n=>obtain ⟨o,_,_,_,e,_⟩:=x;exact Heap.lt_size e
 | ins C dx fs=>obtain ⟨_,_,_,e,_⟩:=x;exact Heap.lt_size e
 | own y=>obtain ⟨_,e⟩:=x;exact Heap.lt_size e
 | xd fs=>obtain ⟨_,⟨_,_,_,e,_⟩,_⟩:=x;exact Heap.lt_size e
 | rng lo hi=>obtain ⟨_,_,_,e⟩:=x;exact Heap.lt_size e
 | frz ob u=>obtain ⟨e,_⟩:=x;exact Heap.lt_size e
 | tbl ps=>exact Heap.lt_size (show h.get? a=some _ from x)
 | met f y=>exact Heap.lt_size (show h.get? a=some _ from x)
 | ext φ=>obtain ⟨_,⟨_,e⟩,_⟩:=x;exact Heap.lt_size e
theorem Paired.mapP {α β:Type} {F G:α->β->Prop}:∀{l₁:List α} {l₂:List β},Paired F l₁ l₂->(∀a b,F a b->G a b)->Paired G l₁ l₂
 | _,_,.nil,_=>.nil
 | _,_,.cons r t,f=>.cons (f _ _ r) (Paired.mapP t f)
theorem ObjOk.stay (x:ObjOk P w H h a o) (k:∀b u,(b=a\/H b=some (.own a))->h.get? b=some u->h'.get? b=some u)
  (ho:∀b,H b=some (.own a)->H' b=some (.own a)) (ht:∀b xs,H b=some (.tup xs)->H' b=some (.tup xs)):ObjOk P w H' h' a o:=by
 induction o with
 | lst xs=>obtain ⟨z,its,n,r,e⟩:=x;exact ⟨z,its,n,r,k _ _ (.inl rfl) e⟩
 | tup xs=>obtain ⟨z,its,r,ob,e,c⟩:=x;exact ⟨z,its,r,ob,k _ _ (.inl rfl) e,c⟩
 | dK kvs=>obtain ⟨z,y,vs,r,ob,es,ep,e,c⟩:=x;exact ⟨z,y,vs,r,ob,es,ep,k _ _ (.inl rfl) e,c⟩
 | dT kvs=>
  obtain ⟨z,y,xs,r,ob,es,ep,e,c⟩:=x;exact ⟨z,y,xs,Paired.mapP r fun p q z=>⟨z.1,ht _ _ z.2.1,z.2.2⟩,ob,es,ep,k _ _ (.inl rfl) e,c⟩
 | set S n=>obtain ⟨ob,es,ep,t,e,c⟩:=x;exact ⟨ob,es,ep,t,k _ _ (.inl rfl) e,c⟩
 | ins C dx fs=>
  obtain ⟨d,z,ne,e,mA,⟨od,es,ep,e2,c⟩,r⟩:=x;exact ⟨ho _ d,z,ne,k _ _ (.inl rfl) e,mA,⟨od,es,ep,k _ _ (.inr d) e2,c⟩,r⟩
 | own y=>obtain ⟨ob,e⟩:=x;exact ⟨ob,k _ _ (.inl rfl) e⟩
 | xd fs=>obtain ⟨mA,⟨od,es,ep,e,c⟩,r⟩:=x;exact ⟨mA,⟨od,es,ep,k _ _ (.inl rfl) e,c⟩,r⟩
 | rng lo hi=>obtain ⟨t,u,v,e⟩:=x;exact ⟨t,u,v,k _ _ (.inl rfl) e⟩
 | frz ob u ih=>obtain ⟨e,q⟩:=x;exact ⟨k _ _ (.inl rfl) e,ih q⟩
 | tbl ps=>
  have e:h.get? a=some { cls:=.none,data:=.fields ps }:=x
  show h'.get? a=some { cls:=.none,data:=.fields ps }
  exact k a _ (.inl rfl) e
 | met f y=>
  have e:h.get? a=some (PySem.W.methodObj (.ref f) (.ref y)):=x
  show h'.get? a=some (PySem.W.methodObj (.ref f) (.ref y))
  exact k a _ (.inl rfl) e
 | ext φ=>obtain ⟨p,⟨o,e⟩,st⟩:=x;exact ⟨st _ _ p fun o q=>k _ _ (.inl rfl) q,⟨o,k _ _ (.inl rfl) e⟩,st⟩
theorem HOk.lt (x:HOk P w H h) (e:H a=some o):a<h.objs.size:=(x a o e).lt
theorem HOk.fresh (x:HOk P w H h) (e:h.objs.size<=a):H a=none:=by
 cases q:H a with
 | none=>rfl
 | some u=>exact absurd (Nat.lt_of_lt_of_le (x.lt q) e) (Nat.lt_irrefl _)
theorem HOk.kept (x:HOk P w H h) (k:∀b u,h.get? b=some u->h'.get? b=some u):HOk P w H h':=fun a o e=>
 (x a o e).stay (fun b u _ q=>k b u q) (fun _ q=>q) fun _ _ q=>q
theorem HOk.laid (x:HOk P w H h) (k:∀b u,h.get? b=some u->h'.get? b=some u) (hp:h.objs.size<=a) (new:ObjOk P w (bF H a o) h' a o):HOk P w (bF H a o) h':=fun b u e=>by
 have hn:=x.fresh hp
 by_cases hb:b=a
 ·subst hb;rw [dO] at e;cases e;exact new
 ·rw [cO hb] at e
  exact (x b u e).stay (fun c v _ q=>k c v q) (fun c q=>by rw [cO (kc q hn)];exact q) fun c xs q=>by rw [cO (kc q hn)];exact q
end
def Rd (H:Hp) (a:Addr) (u:HO):Prop:=H a=some u\/∃o,H a=some (.frz o u)
theorem Rd.ok {P:Program} {w:World} {H:Hp} {h:Heap} {a:Addr} {u:HO} (r:Rd H a u) (x:HOk P w H h):ObjOk P w H h a u:=by
 rcases r with r | ⟨o,r⟩
 ·exact x a u r
 ·obtain ⟨_,q⟩:=x a _ r
  exact q
def F7:Option HO->Prop
 | some (.lst _)=>True
 | some (.dK _)=>True
 | some (.dT _)=>True
 | some (.set _ _)=>True
 | some (.ins _ _ _)=>True
 | some (.ext _)=>True
 | _=>False
section
variable {P:Program} {w:World} {H:Hp} {h h':Heap} {x e:Addr} {o':HO}
theorem HOk.write (ok:HOk P w H h) (mu:F7 (H x)) (he:e=x\/H e=some (.own x)) (k:∀b u,b≠e->h.get? b=some u->h'.get? b=some u) (heo:∃u,h'.get? e=some u)
  (new:ObjOk P w (bF H x o') h' x o'):HOk P w (bF H x o') h':=fun b u q=>by
 have nown:∀c y,H c=some (.own y)->c≠x:=fun c y r z=>by subst z;rw [r] at mu;exact mu
 have ntup:∀c xs,H c=some (.tup xs)->c≠x:=fun c xs r z=>by subst z;rw [r] at mu;exact mu
 by_cases hb:b=x
 ·subst hb;rw [dO] at q;cases q;exact new
 ·rw [cO hb] at q
  by_cases hbe:b=e
  ·have q':H b=some (.own x):=by
    rcases he with z | z
    ·exact absurd (hbe.trans z) hb
    ·rw [hbe];exact z
   rw [q] at q';cases q'
   obtain ⟨v,hv⟩:=heo;exact ⟨v,by rw [hbe];exact hv⟩
  ·refine (ok b u q).stay (fun c v hc r=>k c v ?_ r) (fun c r=>by rw [cO (nown c b r)];exact r) fun c xs r=>by rw [cO (ntup c xs r)];exact r
   rcases hc with rfl | hc
   ·exact hbe
   ·rintro rfl
    rcases he with z | z
    ·exact nown c b hc z
    ·rw [hc] at z;cases z;exact hb rfl
end
structure Un (fs ex:List Addr) (H H':Hp) (h h':Heap):Prop where
 keep:∀b o,h.get? b=some o->H b=none->b∉fs->b∉ex->h'.get? b=some o
 slot:∀b o,h.get? b=some o->H b=none->b∈fs->b∉ex->∃sl,h'.get? b=some { o with slots:=sl }
 free:∀b o,h.get? b=some o->H b=none->b∉ex->H' b=none
 there:∀b o,h.get? b=some o->b∉ex->∃o',h'.get? b=some o'
 tups:∀b xs,H b=some (.tup xs)->H' b=some (.tup xs)
 frzs:∀b o u,H b=some (.frz o u)->H' b=some (.frz o u)
 tbls:∀b ps,H b=some (.tbl ps)->∃more,H' b=some (.tbl (ps++more))
section
variable {fs fs' ex ex':List Addr} {H H1 H2:Hp} {h h1 h2 h':Heap} {a x e:Addr} {o:HO}
theorem Un.any (u:Un fs ex H H1 h h1) {b:Addr} {ob:Obj} (q:h.get? b=some ob) (n:H b=none) (hx:b∉ex):∃sl,h1.get? b=some { ob with slots:=sl }:=by
 by_cases hb:b∈fs
 ·exact u.slot b ob q n hb hx
 ·exact ⟨ob.slots,u.keep b ob q n hb hx⟩
theorem Un.kept (k:∀b u,h.get? b=some u->h'.get? b=some u):Un fs ex H H h h':=
 ⟨fun b ob q _ _ _=>k b ob q,fun b ob q _ _ _=>⟨ob.slots,k b ob q⟩,fun _ _ _ n _=>n,fun b ob q _=>⟨ob,k b ob q⟩,fun _ _ q=>q,fun _ _ _ q=>q,fun _ ps q=>⟨#[],by rw [q];simp⟩⟩
theorem Un.refl:Un fs ex H H h h:=Un.kept fun _ _ q=>q
theorem Un.laid (k:∀b u,h.get? b=some u->h'.get? b=some u) (hp:h.objs.size<=a) (hn:H a=none):Un fs ex H (bF H a o) h h' where
 keep:=fun b u q _ _ _=>k b u q
 slot:=fun b u q _ _ _=>⟨u.slots,k b u q⟩
 free:=fun b u q n _=>by rw [cO (Nat.ne_of_lt (Nat.lt_of_lt_of_le (Heap.lt_size q) hp))];exact n
 there:=fun b u q _=>⟨u,k b u q⟩
 tups:=fun b xs q=>by rw [cO (kc q hn)];exact q
 frzs:=fun b u xs q=>by rw [cO (kc q hn)];exact q
 tbls:=fun b ps q=>⟨#[],by rw [cO (kc q hn),q];simp⟩
theorem Un.write (mu:F7 (H x)) (he:e=x\/H e=some (.own x)) (k:∀b u,b≠e->h.get? b=some u->h'.get? b=some u) (heo:∃u,h'.get? e=some u):Un fs ex H (bF H x o) h h':=by
 have hx:∀b,H b=none->b≠x:=fun b n z=>by subst z;rw [n] at mu;exact mu
 have hb:∀b,H b=none->b≠e:=fun b n z=>by
  subst z;rcases he with r | r
  ·exact hx b n r
  ·rw [n] at r;cases r
 have hm:∀b u,H b=some u->¬F7 (some u)->b≠x:=fun b u q nm z=>by subst z;rw [q] at mu;exact nm mu
 refine ⟨fun b u q n _ _=>k b u (hb b n) q,fun b u q n _ _=>⟨u.slots,k b u (hb b n) q⟩,fun b u q n _=>by rw [cO (hx b n)];exact n,fun b u q _=>?_,
  fun b xs q=>by rw [cO (hm b _ q fun z=>z)];exact q,fun b u xs q=>by rw [cO (hm b _ q fun z=>z)];exact q,fun b ps q=>⟨#[],by rw [cO (hm b _ q fun z=>z),q];simp⟩⟩
 by_cases hbe:b=e
 ·subst hbe;exact heo
 ·exact ⟨u,k b u hbe q⟩
end
def Hd (h:Heap) (H:Hp):List Addr:=(List.range h.objs.size).filter fun a=>(H a).isSome
def jX (h:Heap) (H:Hp):Heap:=PySem.W.hideAll h (Hd h H)
theorem qW (h:Heap) (H:Hp):(jX h H).objs.size=h.objs.size:=PySem.W.hideAll_size _ _
theorem vd {h:Heap} {H:Hp} {b:Addr} {o:Obj} (e:h.get? b=some o) (n:H b=none):(jX h H).get? b=some o:=
 PySem.W.hideAll_get _ e fun hm=>by
  have q:(H b).isSome=true:=(List.mem_filter.mp hm).2
  rw [n] at q;simp at q
theorem xM {h:Heap} {H:Hp} {b:Addr} {o:Obj} (e:(jX h H).get? b=some o):h.get? b=some o/\H b=none:=by
 have e':h.get? b=some o:=PySem.W.of_hideAll (Hd h H) e
 refine ⟨e',?_⟩
 cases q:H b with
 | none=>rfl
 | some x=>
  have hm:b∈Hd h H:=List.mem_filter.mpr ⟨List.mem_range.mpr (Heap.lt_size e'),by simp [q]⟩
  have z:(jX h H).get? b=none:=PySem.W.hideAll_none (Hd h H) hm
  rw [z] at e;cases e
def yK (g h:Heap) (L:Addr):List (Addr×Obj):=(List.range h.objs.size).filterMap fun a=>if a=L\/(g.get? a).isSome=true then none else (h.get? a).map fun o=>(a,o)
def rest (g h:Heap) (L d:Addr):List (Addr×Obj):=(yK g h L).filter fun p=>decide (p.1≠d)
structure Mod (K:Fg) (mg:Str->Option Value) (base:Heap):Prop where
 kin:K.In base
 glob:base.Ns mainGlobals mg
 blt:∃mb,base.Ns builtinsNs mb/\∀x:Str,x ≠ "__name__"->mb x=bootBuiltins x
 nolimit:base.NoLimit
structure Cx where
 prog:Program
 w:World
 K:Fg
 mg:Str->Option Value
 base:Heap
 A:Around
 N:List Str
 s₀:Shared
 H₀:Hp
 env:Env
 outer:List Env
 stack:List Env
 ex:List Addr
 fn:Str->Bool
 calm:Bool
 pn:List (Addr×Obj)
 xe:Value->Shared->Prop
def fI (l:List Env):List Addr:=l.filterMap (·.frame)
abbrev Cx.fs (X:Cx):List Addr:=fI X.outer
def CU (sc:Scope) (x:Str):Prop:=sc.names.lookup x=some .local\/sc.names.lookup x=some .cell\/sc.names.lookup x=some .free
def Loc (sc:Scope) (x:Str):Prop:=sc.names.lookup x=some .local\/sc.names.lookup x=some .cell
def Look (env:Env) (h:Heap) (m:Str->Option Value) (x:Str) (u:Value):Prop:=
 (env.kindOf x=some .local/\m x=some u)\/((env.kindOf x=some .cell\/env.kindOf x=some .free)/\∃c,env.cells.lookup x=some c/\h.IsCell c (some u))
structure Cx.Ok (X:Cx):Prop where
 mod:Mod X.K X.mg X.base
 kind:X.env.scope.kind=.function
 glob:X.env.globals=mainGlobals
 blt:X.env.builtins=builtinsNs
 above:X.s₀.heap.objs.size<=X.env.locals
 inj:∀x y c,X.env.cells.lookup x=some c->X.env.cells.lookup y=some c->x=y
 has:∀x,(X.env.kindOf x=some .cell\/X.env.kindOf x=some .free)->∃c,X.env.cells.lookup x=some c
 cab:∀x c,X.fn x=true->X.env.cells.lookup x=some c->X.s₀.heap.objs.size<=c
 hd:X.calm=true->X.A.handled=none
 frames:X.A.frames=some X.stack
 stk:X.stack=X.outer\/(X.stack=X.env::X.outer/\X.env.frame=some X.env.locals)
 exf:∀b∈X.ex,b≠X.env.locals/\∀x c,X.env.cells.lookup x=some c->c≠b
 bs:∀b o,X.base.get? b=some o->X.s₀.heap.get? b=some o/\X.H₀ b=none
 bsz:X.base.objs.size<=X.s₀.heap.objs.size
 noex:∀b o,X.base.get? b=some o->b∉X.ex
 exfs:∀b∈X.ex,b∉X.fs
 funs:X.s₀.heap.FunFrames X.base X.outer
 frf:∀b∈X.fs,X.H₀ b=none
structure Inv (X:Cx) (pins:List (Addr×Obj)) (σ:List (Option V)) (H:Hp) (s:Shared):Prop where
 ok:X.Ok
 os:s.os=X.s₀.os
 bare:AllBare s.gens
 base:Un X.fs X.ex X.H₀ H X.s₀.heap s.heap
 loc:∃m,s.heap.Ns X.env.locals m/\∀(i:Nat) (x:Str) (v:V),X.N[i]?=some x->σ[i]?=some (some v)->CU X.env.scope x->∃u,RelV v u/\Look X.env s.heap m x u
 cell:∀x c,X.env.cells.lookup x=some c->∃v,s.heap.IsCell c v
 free:H X.env.locals=none
 freeC:∀x c,X.env.cells.lookup x=some c->H c=none
 pin:∀p∈X.pn++pins,s.heap.get? p.1=some p.2/\H p.1=none/\p.1≠X.env.locals/\p.1∉X.fs/\∀v,p.2.data≠.cell v
 hok:HOk X.prog X.w H s.heap
 len:σ.length=X.N.length
section
variable {X:Cx} {pins:List (Addr×Obj)} {σ:List (Option V)} {H H':Hp} {s:Shared} {h':Heap}
theorem Cx.Ok.nofr (ok:X.Ok) {b:Addr} {o:Obj} (e:X.base.get? b=some o):b∉X.fs:=fun hb=>by
 have:=(ok.funs.mem hb).1
 rw [e] at this;cases this
theorem Inv.bs (I:Inv X pins σ H s):∀b o,X.base.get? b=some o->s.heap.get? b=some o/\H b=none:=fun b o e=>
 ⟨I.base.keep b o (I.ok.bs b o e).1 (I.ok.bs b o e).2 (I.ok.nofr e) (I.ok.noex b o e),I.base.free b o (I.ok.bs b o e).1 (I.ok.bs b o e).2 (I.ok.noex b o e)⟩
theorem Inv.bk (I:Inv X pins σ H s):∀b o,X.base.get? b=some o->s.heap.get? b=some o:=fun b o e=>(I.bs b o e).1
theorem Inv.mod (I:Inv X pins σ H s):Mod X.K X.mg X.base:=I.ok.mod
theorem Inv.kIn (I:Inv X pins σ H s):X.K.In s.heap:=I.ok.mod.kin.keeps I.bk
theorem Inv.lt (I:Inv X pins σ H s):X.env.locals<s.heap.objs.size:=let ⟨_,hn,_⟩:=I.loc;hn.lt
theorem Inv.sz (I:Inv X pins σ H s):X.s₀.heap.objs.size<=s.heap.objs.size:=Nat.le_trans I.ok.above (Nat.le_of_lt I.lt)
theorem Inv.nofs (I:Inv X pins σ H s) {a:Addr} (h:s.heap.objs.size<=a):a∉X.fs:=fun hb=>by
 obtain ⟨_,o,ho,_⟩:=I.ok.funs.mem hb;exact absurd (Nat.lt_of_lt_of_le (Heap.lt_size ho) (Nat.le_trans I.sz h)) (Nat.lt_irrefl _)
theorem Inv.cne (I:Inv X pins σ H s):∀x c,X.env.cells.lookup x=some c->c≠X.env.locals:=fun x c e z=>by
 obtain ⟨v,o,ho,hd⟩:=I.cell x c e;obtain ⟨m,⟨o',es,ep,ho',hd',_⟩,_⟩:=I.loc;rw [z,ho'] at ho;cases ho;rw [hd'] at hd;cases hd
theorem Inv.funs (I:Inv X pins σ H s):s.heap.FunFrames X.base X.outer:=by
 have all:∀(l:List Env),(∀b∈fI l,b∈X.fs)->X.s₀.heap.FunFrames X.base l->s.heap.FunFrames X.base l:=by
  intro l;induction l with
  | nil=>intro _ _;trivial
  | cons env r ih=>
   intro hs hl;obtain ⟨hk,⟨L,o,hf,hn,ho,hd⟩,hr⟩:=hl;have hL:L∈X.fs:=hs L (by unfold fI;rw [filterMap_cons,hf];exact mem_cons_self)
   obtain ⟨sl,e⟩:=I.base.slot L o ho (I.ok.frf L hL) hL fun z=>I.ok.exfs L z hL
   exact ⟨hk,⟨L,_,hf,hn,e,hd⟩,ih (fun b hb=>hs b (by unfold fI;rw [filterMap_cons,hf];exact MK _ hb)) hr⟩
 exact all X.outer (fun _ hb=>hb) I.ok.funs
theorem Inv.stack (I:Inv X pins σ H s):s.heap.FunFrames X.base X.stack:=by
 rcases I.ok.stk with e | ⟨e,hf⟩
 ·rw [e];exact I.funs
 ·rw [e]
  obtain ⟨m,hn,_⟩:=I.loc;refine .cons (by rw [I.ok.kind];decide) hf hn ?_ I.funs
  exact Heap.get?_none_of_le (Nat.le_trans I.ok.bsz I.ok.above)
theorem Inv.stkSub (I:Inv X pins σ H s):∀b∈fI X.stack,b∈X.env.locals::X.fs:=fun b hb=>by
 rcases I.ok.stk with e | ⟨e,hf⟩
 ·rw [e] at hb;exact MK _ hb
 ·rw [e] at hb
  unfold fI at hb;rw [filterMap_cons,hf] at hb;exact hb
theorem Inv.stkFree (I:Inv X pins σ H s):∀b∈fI X.stack,H b=none:=fun b hb=>by
 rcases MH (I.stkSub b hb) with e | hb
 ·rw [e];exact I.free
 ·obtain ⟨_,o,ho,_⟩:=I.ok.funs.mem hb
  exact I.base.free b o ho (I.ok.frf b hb) fun z=>I.ok.exfs b z hb
theorem Inv.step {g':Array GenState} {t':Nat} {d':Drawn} {ch:List Addr} (I:Inv X pins σ H s)
  (hch:∀b∈ch,(b∈X.ex\/X.s₀.heap.objs.size<=b)/\b≠X.env.locals/\(∀x c,X.env.cells.lookup x=some c->c≠b)/\∀p∈X.pn++pins,p.1≠b)
  (keep:∀b o,b≠X.env.locals->b∉X.fs->b∉ch->s.heap.get? b=some o->H b=none->h'.get? b=some o)
  (slot:∀b o,b≠X.env.locals->b∈X.fs->b∉ch->s.heap.get? b=some o->H b=none->∃sl,h'.get? b=some { o with slots:=sl }) (free:∀b o,b∉ch->s.heap.get? b=some o->H b=none->H' b=none)
  (there:∀b o,b∉ch->s.heap.get? b=some o->∃o',h'.get? b=some o')
  (tups:∀b xs,H b=some (.tup xs)->H' b=some (.tup xs)) (frzs:∀b o u,H b=some (.frz o u)->H' b=some (.frz o u)) (tbls:∀b ps,H b=some (.tbl ps)->∃more,H' b=some (.tbl (ps++more)))
  (ns:∀m,s.heap.Ns X.env.locals m->h'.Ns X.env.locals m) (hok:HOk X.prog X.w H' h') (hg:AllBare g') :
  Inv X pins σ H' { s with heap:=h',gens:=g',drawn:=d',toks:=t' }:=by
 have neL:∀b o,X.s₀.heap.get? b=some o->b≠X.env.locals:=fun b o e=>Nat.ne_of_lt (Nat.lt_of_lt_of_le (Heap.lt_size e) I.ok.above)
 have neC:∀b o,X.s₀.heap.get? b=some o->b∉X.ex->b∉ch:=fun b o e hx hb=>by
  rcases (hch b hb).1 with z | z
  ·exact hx z
  ·exact absurd (Nat.lt_of_lt_of_le (Heap.lt_size e) z) (Nat.lt_irrefl _)
 have cellK:∀x c,X.env.cells.lookup x=some c->∀v,s.heap.IsCell c v->h'.IsCell c v:=fun x c e v ⟨o,ho,hd⟩=>by
  have nch:c∉ch:=fun z=>(hch c z).2.2.1 x c e rfl
  by_cases hc:c∈X.fs
  ·obtain ⟨sl,q⟩:=slot c o (I.cne x c e) hc nch ho (I.freeC x c e)
   exact ⟨_,q,hd⟩
  ·exact ⟨o,keep c o (I.cne x c e) hc nch ho (I.freeC x c e),hd⟩
 refine ⟨I.ok,I.os,hg,⟨fun b o e n hb hx=>?_,fun b o e n hb hx=>?_,fun b o e n hx=>?_,fun b o e hx=>?_,fun b xs e=>tups b xs (I.base.tups b xs e),fun b o xs e=>frzs b o xs (I.base.frzs b o xs e),fun b ps e=>?_⟩,?_,fun x c e=>?_,?_,fun x c e=>?_,fun p hp=>?_,hok,I.len⟩
 ·exact keep b o (neL b o e) hb (neC b o e hx) (I.base.keep b o e n hb hx) (I.base.free b o e n hx)
 ·obtain ⟨sl,e1⟩:=I.base.slot b o e n hb hx
  obtain ⟨sl',e2⟩:=slot b _ (neL b o e) hb (neC b o e hx) e1 (I.base.free b o e n hx);exact ⟨sl',e2⟩
 ·obtain ⟨o',e1⟩:=I.base.there b o e hx
  exact free b o' (neC b o e hx) e1 (I.base.free b o e n hx)
 ·obtain ⟨o',e1⟩:=I.base.there b o e hx
  exact there b o' (neC b o e hx) e1
 ·obtain ⟨m1,e1⟩:=I.base.tbls b ps e
  obtain ⟨m2,e2⟩:=tbls b _ e1;exact ⟨m1++m2,by rw [e2,Array.append_assoc]⟩
 ·obtain ⟨m,hn,hl⟩:=I.loc
  refine ⟨m,ns m hn,fun i x v e1 e2 e3=>?_⟩
  obtain ⟨u,r,l⟩:=hl i x v e1 e2 e3;refine ⟨u,r,?_⟩
  rcases l with l | ⟨k,c,e,z⟩
  ·exact .inl l
  ·exact .inr ⟨k,c,e,cellK x c e _ z⟩
 ·obtain ⟨v,z⟩:=I.cell x c e
  exact ⟨v,cellK x c e v z⟩
 ·obtain ⟨m,⟨o,_,_,ho,_⟩,_⟩:=I.loc
  exact free _ o (fun z=>(hch _ z).2.1 rfl) ho I.free
 ·obtain ⟨v,o,ho,hd⟩:=I.cell x c e
  exact free c o (fun z=>(hch c z).2.2.1 x c e rfl) ho (I.freeC x c e)
 ·obtain ⟨e,n,ne,nf,d⟩:=I.pin p hp
  have nch:p.1∉ch:=fun z=>(hch p.1 z).2.2.2 p hp rfl
  exact ⟨keep p.1 p.2 ne nf nch e n,free p.1 p.2 nch e n,ne,nf,d⟩
theorem Inv.un {t':Nat} (I:Inv X pins σ H s) (u:Un X.fs [] H H' s.heap h') (hok:HOk X.prog X.w H' h'):Inv X pins σ H' { s with heap:=h',toks:=t' }:=by
 obtain ⟨m,⟨o,es,ep,ho,r⟩,_⟩:=id I.loc;obtain ⟨sl,hL⟩:=u.any ho I.free (by simp)
 exact I.step (g':=s.gens) (d':=s.drawn) (ch:=[]) (fun _ z=>nomatch z) (fun b o _ hb _ e n=>u.keep b o e n hb (by simp)) (fun b o _ hb _ e n=>u.slot b o e n hb (by simp)) (fun b o _ e n=>u.free b o e n (by simp)) (fun b o _ e=>u.there b o e (by simp)) u.tups u.frzs u.tbls (fun m' hm=>by
  obtain ⟨o',es',ep',ho',r'⟩:=hm;rw [ho] at ho';cases ho'
  exact ⟨_,es',ep',hL,r'⟩) hok I.bare
theorem Inv.call {g':Array GenState} {t':Nat} {d':Drawn} {ch:List Addr} (I:Inv X pins σ H s) (u:Un (fI X.stack) ch H H' s.heap h') (hok:HOk X.prog X.w H' h') (hg:AllBare g')
  (hch:∀b∈ch,(b∈X.ex\/X.s₀.heap.objs.size<=b)/\b≠X.env.locals/\(∀x c,X.env.cells.lookup x=some c->c≠b)/\∀p∈X.pn++pins,p.1≠b) :
  Inv X pins σ H' { s with heap:=h',gens:=g',drawn:=d',toks:=t' }:=by
 obtain ⟨m,⟨o,es,ep,ho,r⟩,_⟩:=id I.loc;obtain ⟨sl,hL⟩:=u.any ho I.free fun z=>(hch _ z).2.1 rfl
 exact I.step (ch:=ch) hch (fun b o hL hb hc e n=>u.keep b o e n (fun z=>(MH (I.stkSub b z)).elim hL hb) hc) (fun b o _ _ hc e n=>u.any e n hc) (fun b o hc e n=>u.free b o e n hc) (fun b o hc e=>u.there b o e hc) u.tups u.frzs u.tbls (fun m' hm=>by
  obtain ⟨o',es',ep',ho',r'⟩:=hm;rw [ho] at ho';cases ho'
  exact ⟨_,es',ep',hL,r'⟩) hok hg
theorem Inv.turned {t':Nat} {it:Addr} (I:Inv X pins σ H s) (k:∀b o,b≠it->s.heap.get? b=some o->h'.get? b=some o) (hn:H it=none) (hL:it≠X.env.locals)
  (h1:it∈X.ex\/X.s₀.heap.objs.size<=it) (h2:∀x c,X.env.cells.lookup x=some c->c≠it) (h3:∀p∈X.pn++pins,p.1≠it):Inv X pins σ H { s with heap:=h',toks:=t' }:=by
 have nit:∀b u,H b=some u->b≠it:=fun b u e z=>by rw [z,hn] at e;cases e
 refine I.step (g':=s.gens) (d':=s.drawn) (ch:=[it]) (fun b hb=>?_) (fun b o _ _ hc e _=>k b o (fun z=>hc (by simp [z])) e) (fun b o _ _ hc e _=>⟨o.slots,k b o (fun z=>hc (by simp [z])) e⟩) (fun _ _ _ _ n=>n)
  (fun b o hc e=>⟨o,k b o (fun z=>hc (by simp [z])) e⟩) (fun _ _ e=>e) (fun _ _ _ e=>e) (fun b ps e=>⟨#[],by rw [e];simp⟩) (fun m hm=>?_) (fun b u e=>?_) I.bare
 ·have e:b=it:=by simpa using hb
  subst e;exact ⟨h1,hL,h2,h3⟩
 ·obtain ⟨o,es,ep,ho,r⟩:=hm
  exact ⟨o,es,ep,k _ o (Ne.symm hL) ho,r⟩
 ·refine (I.hok b u e).stay (fun c v hc q=>k c v ?_ q) (fun _ q=>q) fun _ _ q=>q
  rcases hc with z | z
  ·rw [z];exact nit b u e
  ·exact nit c _ z
theorem Inv.tok (I:Inv X pins σ H s) (t:Nat):Inv X pins σ H { s with toks:=t }:=I.un (h':=s.heap) (t':=t) Un.refl I.hok
theorem Inv.kept {t':Nat} (I:Inv X pins σ H s) (k:∀b u,s.heap.get? b=some u->h'.get? b=some u):Inv X pins σ H { s with heap:=h',toks:=t' }:=I.un (Un.kept k) (I.hok.kept k)
theorem Inv.laid {a:Addr} {o:HO} {t':Nat} (I:Inv X pins σ H s) (k:∀b u,s.heap.get? b=some u->h'.get? b=some u) (hp:s.heap.objs.size<=a) (new:ObjOk X.prog X.w (bF H a o) h' a o) :
  Inv X pins σ (bF H a o) { s with heap:=h',toks:=t' }:=I.un (Un.laid k hp (I.hok.fresh hp)) (I.hok.laid k hp new)
theorem Inv.write {x e:Addr} {o:HO} {t':Nat} (I:Inv X pins σ H s) (mu:F7 (H x)) (he:e=x\/H e=some (.own x)) (k:∀b u,b≠e->s.heap.get? b=some u->h'.get? b=some u) (heo:∃u,h'.get? e=some u)
  (new:ObjOk X.prog X.w (bF H x o) h' x o):Inv X pins σ (bF H x o) { s with heap:=h',toks:=t' }:=I.un (Un.write mu he k heo) (I.hok.write mu he k heo new)
theorem Inv.weak {σ':List (Option V)} (I:Inv X pins σ H s) (hl:σ'.length=σ.length) (w:∀(i:Nat) v,σ'[i]?=some (some v)->σ[i]?=some (some v)):Inv X pins σ' H s:=
 ⟨I.ok,I.os,I.bare,I.base,let ⟨m,hn,hl'⟩:=I.loc;⟨m,hn,fun i x v e1 e2 e3=>hl' i x v e1 (w i v e2) e3⟩,I.cell,I.free,I.freeC,I.pin,I.hok,hl.trans I.len⟩
theorem Inv.pins_of {pins':List (Addr×Obj)} (I:Inv X pins σ H s) (h:∀p∈pins',s.heap.get? p.1=some p.2/\H p.1=none/\p.1≠X.env.locals/\p.1∉X.fs/\∀v,p.2.data≠.cell v):Inv X pins' σ H s:=
 ⟨I.ok,I.os,I.bare,I.base,I.loc,I.cell,I.free,I.freeC,fun p hp=>(MG hp).elim (fun z=>I.pin p (MF _ z)) (h p),I.hok,I.len⟩
theorem IG {N:List Str} (hN:N.Nodup) {i j:Nat} {x:Str} (a:N[i]?=some x) (b:N[j]?=some x):i=j:=by
 obtain ⟨h1,e1⟩:=MM a
 obtain ⟨h2,e2⟩:=MM b
 exact (List.getElem_inj hN).mp (e1.trans e2.symm)
theorem i9 {M:Model} {A:Around} {E:Value->Shared->Prop} {i:Nat} {x:Str} {v:V} {u:Value} {Q:Unit->Shared->Prop} (I:Inv X pins σ H s) (hN:X.N.Nodup) (hi:X.N[i]?=some x) (hx:Loc X.env.scope x) (r:RelV v u)
  (h:∀s',Inv X pins (σ.set i (some v)) H s'->(∃a,Heap.SameBut a s.heap s'.heap/\(a=X.env.locals\/X.env.cells.lookup x=some a))->Q () s') (hf:X.fn x=true\/X.env.scope.names.lookup x=some .local:=by first | exact .inl rfl | exact .inr rfl | assumption):wpAny M A (storeName X.env x u) Q E s:=by
 obtain ⟨m,hn,hl⟩:=id I.loc;have hcls:(X.env.scope.kind==.class||(X.env.scope.kind==.module&&X.env.locals != X.env.globals))=false:=by rw [I.ok.kind];rfl
 have hiσ:i<σ.length:=by rw [I.len];exact (MM hi).1
 have cne:=I.cne
 have tracked:∀{a:Addr} {h':Heap},(∃o,s.heap.get? a=some o/\H a=none)->Heap.SameBut a s.heap h'->HOk X.prog X.w H h':=fun {a h'} ha hs b ob e=>by
  obtain ⟨_,_,hfree⟩:=ha;refine (I.hok b ob e).stay (fun c w' hc q=>(hs.2 c ?_).trans q) (fun _ q=>q) fun _ _ q=>q
  rintro rfl
  rcases hc with rfl | hc
  ·rw [hfree] at e;cases e
  ·rw [hfree] at hc;cases hc
 rcases hx with hk | hk
 ·refine wpAny_storeName_local hk hn (fun h' hn' hs=>?_) hcls
  obtain ⟨oL,_,_,hoL,_⟩:=id hn;refine h _ ⟨I.ok,I.os,I.bare,⟨fun b o e n hb hx=>?_,fun b o e n hb hx=>?_,I.base.free,fun b o e hx=>?_,I.base.tups,I.base.frzs,I.base.tbls⟩,⟨_,hn',fun j y v' e1 e2 e3=>?_⟩,fun y c e=>?_,I.free,I.freeC,fun p hp=>?_,tracked ⟨oL,hoL,I.free⟩ hs,by simpa using I.len⟩ ⟨_,hs,.inl rfl⟩
  ·exact (hs.2 b (Nat.ne_of_lt (Nat.lt_of_lt_of_le (Heap.lt_size e) I.ok.above))).trans (I.base.keep b o e n hb hx)
  ·obtain ⟨sl,e1⟩:=I.base.slot b o e n hb hx
   exact ⟨sl,(hs.2 b (Nat.ne_of_lt (Nat.lt_of_lt_of_le (Heap.lt_size e) I.ok.above))).trans e1⟩
  ·obtain ⟨o',e1⟩:=I.base.there b o e hx
   exact ⟨o',(hs.2 b (Nat.ne_of_lt (Nat.lt_of_lt_of_le (Heap.lt_size e) I.ok.above))).trans e1⟩
  ·by_cases hj:j=i
   ·subst hj
    rw [hi] at e1;cases e1;rw [getElem?_set_self hiσ] at e2
    cases e2;exact ⟨u,r,.inl ⟨hk,by simp⟩⟩
   ·rw [getElem?_set_ne (Ne.symm hj)] at e2
    obtain ⟨u',r',q⟩:=hl j y v' e1 e2 e3
    refine ⟨u',r',?_⟩
    rcases q with ⟨k,e⟩ | ⟨k,c,e,z⟩
    ·refine .inl ⟨k,?_⟩
     have:y≠x:=fun e=>hj (IG hN e1 (e▸hi))
     simp [this,e]
    ·exact .inr ⟨k,c,e,z.sameBut hs (cne y c e)⟩
  ·obtain ⟨w',z⟩:=I.cell y c e
   exact ⟨w',z.sameBut hs (cne y c e)⟩
  ·obtain ⟨e,n,ne,nf,d⟩:=I.pin p hp
   exact ⟨(hs.2 p.1 ne).trans e,n,ne,nf,d⟩
 ·have hfn:X.fn x=true:=by
   rcases hf with z | z
   ·exact z
   ·rw [z] at hk;cases hk
  obtain ⟨c,hc⟩:=I.ok.has x (.inl hk);obtain ⟨w',z⟩:=I.cell x c hc;refine wpAny_storeName_cell I.ok.kind hk hc z (fun h' hc' hs=>?_)
  obtain ⟨oc,hoc,hocd⟩:=id z;refine h { s with heap:=h' } ⟨I.ok,I.os,I.bare,⟨fun b o e n hb hx=>?_,fun b o e n hb hx=>?_,I.base.free,fun b o e hx=>?_,I.base.tups,I.base.frzs,I.base.tbls⟩,⟨m,hn.sameBut hs (Ne.symm (cne x c hc)),fun j y v' e1 e2 e3=>?_⟩,fun y c' e=>?_,I.free,I.freeC,fun p hp=>?_,tracked ⟨oc,hoc,I.freeC x c hc⟩ hs,by simpa using I.len⟩ ⟨c,hs,.inr hc⟩
  ·exact (hs.2 b (Nat.ne_of_lt (Nat.lt_of_lt_of_le (Heap.lt_size e) (I.ok.cab x c hfn hc)))).trans (I.base.keep b o e n hb hx)
  ·obtain ⟨sl,e1⟩:=I.base.slot b o e n hb hx
   exact ⟨sl,(hs.2 b (Nat.ne_of_lt (Nat.lt_of_lt_of_le (Heap.lt_size e) (I.ok.cab x c hfn hc)))).trans e1⟩
  ·obtain ⟨o',e1⟩:=I.base.there b o e hx
   exact ⟨o',(hs.2 b (Nat.ne_of_lt (Nat.lt_of_lt_of_le (Heap.lt_size e) (I.ok.cab x c hfn hc)))).trans e1⟩
  ·by_cases hj:j=i
   ·subst hj
    rw [hi] at e1;cases e1;rw [getElem?_set_self hiσ] at e2
    cases e2;exact ⟨u,r,.inr ⟨.inl hk,c,hc,hc'⟩⟩
   ·rw [getElem?_set_ne (Ne.symm hj)] at e2
    obtain ⟨u',r',q⟩:=hl j y v' e1 e2 e3
    refine ⟨u',r',?_⟩
    rcases q with q | ⟨k,c',e,z'⟩
    ·exact .inl q
    ·refine .inr ⟨k,c',e,z'.sameBut hs ?_⟩
     rintro rfl
     exact hj (IG hN e1 (I.ok.inj _ _ _ e hc▸hi))
  ·by_cases hcc:c'=c
   ·subst hcc;exact ⟨_,hc'⟩
   ·obtain ⟨w2,z2⟩:=I.cell y c' e
    exact ⟨w2,z2.sameBut hs hcc⟩
  ·obtain ⟨e,n,ne,nf,d⟩:=I.pin p hp
   refine ⟨(hs.2 p.1 ?_).trans e,n,ne,nf,d⟩
   intro q;rw [q,hoc] at e;have q':oc=p.2:=Option.some.inj e
   exact d w' (by rw [<-q'];exact hocd)
theorem GU {M:Model} {A:Around} {E:Value->Shared->Prop} {i:Nat} {x:Str} {v:V} {u:Value} {Q:Unit->Shared->Prop} (I:Inv X pins σ H s) (hN:X.N.Nodup) (hi:X.N[i]?=some x) (hx:Loc X.env.scope x) (r:RelV v u)
  (h:∀s',Inv X pins (σ.set i (some v)) H s'->Q () s') (hf:X.fn x=true\/X.env.scope.names.lookup x=some .local:=by first | exact .inl rfl | exact .inr rfl | assumption):wpAny M A (storeName X.env x u) Q E s:=
 i9 I hN hi hx r (fun s' I' _=>h s' I') hf
theorem Inv.call' {s':Shared} {ch:List Addr} (I:Inv X pins σ H s) (ho:s'.os=s.os) (u:Un (fI X.stack) ch H H' s.heap s'.heap) (hok:HOk X.prog X.w H' s'.heap) (hg:AllBare s'.gens)
  (hch:∀b∈ch,(b∈X.ex\/X.s₀.heap.objs.size<=b)/\b≠X.env.locals/\(∀x c,X.env.cells.lookup x=some c->c≠b)/\∀p∈X.pn++pins,p.1≠b):Inv X pins σ H' s':=by
 obtain ⟨h',g',d',t',o'⟩:=s'
 have e:o'=s.os:=ho
 subst e;exact I.call (g':=g') (t':=t') (d':=d') u hok hg hch
end
abbrev XK:=Value->Option Addr->Hp->Prop
abbrev St:=List (Option V)
abbrev VK:=V->Hp->Prop
abbrev TE:=St->Hp->VK->Prop
abbrev TT:=St->Hp->(Bool->Hp->Prop)->Prop
abbrev TA:=St->Hp->(List V->Hp->Prop)->Prop
structure dz where
 nx:St->Hp->Prop
 rt:VK
 bk:St->Hp->Prop:=fun _ _=>False
 ct:St->Hp->Prop:=fun _ _=>False
abbrev TS:=dz->St->Hp->Prop
def EP (X:Cx) (pins:List (Addr×Obj)) (σ:St) (Q:VK) (u:Value) (s':Shared):Prop:=∃v H',Inv X pins σ H' s'/\RelV v u/\Q v H'
def TP (X:Cx) (pins:List (Addr×Obj)) (σ:St) (Q:Bool->Hp->Prop) (b:Bool) (s':Shared):Prop:=∃H',Inv X pins σ H' s'/\Q b H'
def AP (X:Cx) (pins:List (Addr×Obj)) (σ:St) (Q:List V->Hp->Prop) (us:List Value) (s':Shared):Prop:=∃vs H',Inv X pins σ H' s'/\Vals vs us/\Q vs H'
def SP (X:Cx) (pins:List (Addr×Obj)) (D:dz) (f:Flow) (s':Shared):Prop:=
 match f with
 | .next=>∃σ' H',Inv X pins σ' H' s'/\D.nx σ' H'
 | .brk=>∃σ' H',Inv X pins σ' H' s'/\D.bk σ' H'
 | .cont=>∃σ' H',Inv X pins σ' H' s'/\D.ct σ' H'
 | .ret u=>∃v σ' H',Inv X pins σ' H' s'/\RelV v u/\D.rt v H'
def PE (X:Cx) (e:Expr) (t:TE):Prop:=
 ∀(pins:List (Addr×Obj)) (s:Shared) (σ:St) (H:Hp) (Q:VK),Inv X pins σ H s->t σ H Q->wpAny (model X.prog X.w) X.A (eval e X.env) (EP X pins σ Q) X.xe s
def PT (X:Cx) (e:Expr) (t:TT):Prop:=
 ∀(pins:List (Addr×Obj)) (s:Shared) (σ:St) (H:Hp) (Q:Bool->Hp->Prop),Inv X pins σ H s->t σ H Q->wpAny (model X.prog X.w) X.A (isTrue e X.env (eval e X.env)) (TP X pins σ Q) X.xe s
def PW (X:Cx) (e:Expr) (t:TT):Prop:=
 ∀(whole:Sem Value) (pins:List (Addr×Obj)) (s:Shared) (σ:St) (H:Hp) (Q:Bool->Hp->Prop),Inv X pins σ H s->t σ H Q->wpAny (model X.prog X.w) X.A (isTrue e X.env whole) (TP X pins σ Q) X.xe s
theorem PW.pt {X:Cx} {e:Expr} {t:TT} (h:PW X e t):PT X e t:=h _
def PA (X:Cx) (es:List Expr) (t:TA):Prop:=
 ∀(pos:Pos) (pins:List (Addr×Obj)) (s:Shared) (σ:St) (H:Hp) (Q:List V->Hp->Prop),Inv X pins σ H s->t σ H Q->wpAny (model X.prog X.w) X.A (spliced (backTo pos (starEach es X.env))) (AP X pins σ Q) X.xe s
def PS (X:Cx) (st:Stmt) (t:TS):Prop:=
 ∀(pins:List (Addr×Obj)) (s:Shared) (σ:St) (H:Hp) (D:dz),Inv X pins σ H s->t D σ H->wpAny (model X.prog X.w) X.A (exec st X.env) (SP X pins D) X.xe s
def PSs (X:Cx) (st:List Stmt) (t:TS):Prop:=
 ∀(pins:List (Addr×Obj)) (s:Shared) (σ:St) (H:Hp) (D:dz),Inv X pins σ H s->t D σ H->wpAny (model X.prog X.w) X.A (execs st X.env) (SP X pins D) X.xe s
theorem bx {α:Type} {t:Sem α} {Q Q':α->Shared->Prop} {M:Model} {A:Around} {E:Value->Shared->Prop} {s:Shared} (h:wpAny M A t Q E s) (hQ:∀a s,Q a s->Q' a s):wpAny M A t Q' E s:=wpAny_mono h hQ fun _ _ x=>x
section
variable {X:Cx}
def bg (i:Nat):TE:=fun σ H Q=>∃v,σ[i]?=some (some v)/\Q v H
def tC (v:V):TE:=fun _ H Q=>Q v H
theorem nY {i:Nat} {x:Str} {pos:Pos} (hN:X.N[i]?=some x) (hv:CU X.env.scope x) (hd:(x==("__debug__":Str))=false:=by decide) (hcd:(x==("__classdict__":Str))=false:=by decide):PE X (.Name x pos) (bg i):=by
 intro pins s σ H Q I h;obtain ⟨v,e,h⟩:=h;obtain ⟨m,hn,hl⟩:=I.loc;obtain ⟨u,r,l⟩:=hl i x v hN e hv;have fin:EP X pins σ Q u s:=⟨v,H,I,r,h⟩
 rcases l with ⟨hk,hm⟩ | ⟨hk,c,hc,hcell⟩
 ·exact wpAny_Name (wpAny_loadName_local I.ok.kind hk hn hm fin) hd
 ·rcases hk with hk | hk
  ·exact wpAny_Name (wpAny_loadName_cell I.ok.kind hk hc hcell fin) hd
  ·exact wpAny_Name (wpAny_loadName_free I.ok.kind hk hc hcell fin hcd) hd
theorem HS {i j pos}:PE X (.Constant (.int i) j pos) (tC (.int i)):=fun _ _ _ H _ I h=>wpAny_Constant_int ⟨.int i,H,I.tok _,⟨_,rfl⟩,h⟩
theorem kU {b j pos}:PE X (.Constant (.bool b) j pos) (tC (.bl b)):=fun _ _ _ H _ I h=>Constant_bool ⟨.bl b,H,I,rfl,h⟩
theorem Bw {j pos}:PE X (.Constant .none j pos) (tC .non):=fun _ _ _ H _ I h=>Constant_none ⟨.non,H,I,rfl,h⟩
theorem uB {x j pos}:PE X (.Constant (.str x) j pos) (tC (.str x)):=fun _ _ _ H _ I h=>Calls.Constant_str ⟨.str x,H,I.tok _,⟨_,rfl⟩,h⟩
def Gl (X:Cx) (x:Str):Prop:=X.env.kindOf x=some .globalImplicit
theorem DF {E:Value->Shared->Prop} {pins:List (Addr×Obj)} {s:Shared} {σ:St} {H:Hp} {x:Str} {u:Value} {pos:Pos} {Q:Value->Shared->Prop} (I:Inv X pins σ H s) (hg:Gl X x) (hm:X.mg x=some u) (h:Q u s)
  (hd:(x==("__debug__":Str))=false:=by decide):wpAny (model X.prog X.w) X.A (eval (.Name x pos) X.env) Q E s:=
 Calls.Name_function_global I.ok.kind hg (Calls.loadGlobal_global (by rw [I.ok.glob];exact I.mod.glob.keeps I.bk) hm h) hd
theorem vY {E:Value->Shared->Prop} {pins:List (Addr×Obj)} {s:Shared} {σ:St} {H:Hp} {x:Str} {u:Value} {pos:Pos} {Q:Value->Shared->Prop} (I:Inv X pins σ H s) (hg:Gl X x) (hm:X.mg x=none) (hv:bootBuiltins x=some u) (h:Q u s)
  (hn:x ≠ "__name__":=by decide) (hd:(x==("__debug__":Str))=false:=by decide):wpAny (model X.prog X.w) X.A (eval (.Name x pos) X.env) Q E s:=by
 obtain ⟨mb,h1,h2⟩:=I.mod.blt;exact Calls.Name_function_global I.ok.kind hg (Calls.loadGlobal_builtin (by rw [I.ok.glob];exact I.mod.glob.keeps I.bk) hm (by rw [I.ok.blt];exact h1.keeps I.bk) ((h2 x hn).trans hv) h) hd
theorem o5 {x:Str} {v:V} {u:Value} {pos:Pos} (hg:Gl X x) (hm:X.mg x=some u) (r:RelV v u) (hd:(x==("__debug__":Str))=false:=by decide):PE X (.Name x pos) (tC v):=
 fun _ _ _ H _ I h=>DF I hg hm ⟨v,H,I,r,h⟩ hd
theorem xG {x:Str} {v:V} {u:Value} {pos:Pos} (hg:Gl X x) (hm:X.mg x=none) (hv:bootBuiltins x=some u) (r:RelV v u) (hn:x ≠ "__name__":=by decide) (hd:(x==("__debug__":Str))=false:=by decide):PE X (.Name x pos) (tC v):=
 fun _ _ _ H _ I h=>vY I hg hm hv ⟨v,H,I,r,h⟩ hn hd
variable {a b:Expr} {ta tb:TE} {pos:Pos}
def PC (X:Cx) (op:CmpOp) (a b:Expr) (t:TE):Prop:=
 ∀(pins:List (Addr×Obj)) (s:Shared) (σ:St) (H:Hp) (Q:VK),Inv X pins σ H s->t σ H Q ->
  wpAny (model X.prog X.w) X.A (eval a X.env) (fun v s₁=>wpAny (model X.prog X.w) X.A (eval b X.env) (fun u s₂=>wpAny (model X.prog X.w) X.A (compareOp op v u) (EP X pins σ Q) X.xe s₂) X.xe s₁) X.xe s
def tB (t:TE):TT:=fun σ H Q=>t σ H fun x H1=>∃c,x=.bl c/\Q c H1
theorem uk {op:CmpOp} {t:TE} (h:PC X op a b t) (h1:behindInMarks op b=false:=by first | exact nobehind _ (by decide) (by decide) | rfl):PT X (.Compare a [op] [b] pos) (tB t):=by
 intro pins s σ H Q I hw;refine wpAny_isTrue_Compare1 (bx (h pins s σ H _ I hw) fun v s1 h1=>bx h1 fun u s2 h2=>bx h2 fun c s3 ⟨x,H1,I1,r1,q1⟩=>?_) h1
 obtain ⟨d,rfl,q⟩:=q1
 cases r1;exact wpAny_truthy_bool ⟨H1,I1,q⟩
variable {tA tB':TT} {rest:List Expr}
def Ed (t u:TT):TT:=fun σ H Q=>t σ H fun c H1=>if c=true then u σ H1 Q else Q false H1
def Lb (t u:TT):TT:=fun σ H Q=>t σ H fun c H1=>if c=true then Q true H1 else u σ H1 Q
def D9 (t:TT):TT:=fun σ H Q=>t σ H fun c H1=>Q (!c) H1
theorem xr (ha:PT X a tA):PW X (.BoolOp .And [a] pos) tA:=by
 intro wh pins s σ H Q I h;refine isTrue_and (bx (ha pins s σ H Q I h) fun c s1 e=>?_)
 cases c with
 | true=>exact isTrue_and_nil e
 | false=>exact e
theorem uh (ha:PT X a tA):PW X (.BoolOp .Or [a] pos) tA:=by
 intro wh pins s σ H Q I h;refine isTrue_or (bx (ha pins s σ H Q I h) fun c s1 e=>?_)
 cases c with
 | false=>exact isTrue_or_nil e
 | true=>exact e
theorem Br (ha:PT X a tA) (hb:PW X (.BoolOp .And (b::rest) pos) tB'):PW X (.BoolOp .And (a::b::rest) pos) (Ed tA tB'):=by
 intro wh pins s σ H Q I h;refine isTrue_and (bx (ha pins s σ H _ I h) fun c s1 ⟨H1,I1,q1⟩=>?_)
 cases c with
 | true=>exact hb wh pins s1 σ H1 Q I1 q1
 | false=>exact ⟨H1,I1,q1⟩
theorem zt (ha:PT X a tA) (hb:PW X (.BoolOp .Or (b::rest) pos) tB'):PW X (.BoolOp .Or (a::b::rest) pos) (Lb tA tB'):=by
 intro wh pins s σ H Q I h;refine isTrue_or (bx (ha pins s σ H _ I h) fun c s1 ⟨H1,I1,q1⟩=>?_)
 cases c with
 | true=>exact ⟨H1,I1,q1⟩
 | false=>exact hb wh pins s1 σ H1 Q I1 q1
theorem uj (ha:PT X a tA):PT X (.UnaryOp .Not a pos) (D9 tA):=by
 intro pins s σ H Q I h;exact isTrue_not (ha pins s σ H (fun c H1=>Q (!c) H1) I h)
def zh (ta tb:TE):TE:=fun σ H Q=>ta σ H fun x H1=>∃c,x=.bl c/\if c=true then tb σ H1 Q else Q (.bl false) H1
theorem pe_one {op} {t:TE} (h:PE X a t):PE X (.BoolOp op [a] pos) t:=fun pins s σ H Q I hw=>BoolOp_one (h pins s σ H Q I hw)
theorem By (ha:PE X a ta) (hb:PE X (.BoolOp .And (b::rest) pos) tb):PE X (.BoolOp .And (a::b::rest) pos) (zh ta tb):=by
 intro pins s σ H Q I h;refine BoolOp_and (bx (ha pins s σ H _ I h) fun v s1 ⟨x,H1,I1,r1,q1⟩=>?_)
 obtain ⟨c,rfl,q1⟩:=q1
 cases r1;refine wpAny_truthy_bool ?_
 cases c with
 | true=>exact hb pins s1 σ H1 Q I1 q1
 | false=>exact ⟨.bl false,H1,I1,rfl,q1⟩
def Ld (t:TT) (ta tb:TE):TE:=fun σ H Q=>t σ H fun c H1=>if c=true then ta σ H1 Q else tb σ H1 Q
theorem uC {c:Expr} (hc:PT X c tA) (ha:PE X a ta) (hb:PE X b tb):PE X (.IfExp c a b pos) (Ld tA ta tb):=by
 intro pins s σ H Q I h;refine wpAny_IfExp (bx (hc pins s σ H _ I h) fun d s1 ⟨H1,I1,q1⟩=>?_)
 cases d with
 | true=>exact ha pins s1 σ H1 Q I1 q1
 | false=>exact hb pins s1 σ H1 Q I1 q1
end
def SqL (K:Fg) (H:Hp) (a:Addr) (xs:List V):Prop:=
 Rd H a (.lst xs) \/
  ∃(o:Obj) (its:Array Value) (n:Nat),K.lookup a=some o/\o.cls=.type "list"/\o.dict=none/\o.data=.seq its n/\its.size<=sizeLine/\Vals xs its.toList
def SqT (K:Fg) (H:Hp) (a:Addr) (xs:List V):Prop:=
 Rd H a (.tup xs) \/
  ∃(o:Obj) (its:Array Value) (n:Nat),K.lookup a=some o/\o.cls=.type "tuple"/\o.data=.seq its n/\its.size<=sizeLine/\Vals xs its.toList
def KN:Value->Option V
 | .none=>some .non
 | .bool b=>some (.bl b)
 | .int i _=>some (.int i)
 | .str x _=>some (.str x)
 | .bytes b _=>some (.byt b)
 | .float b _=>some (.flt b)
 | .ref a=>some (.ref a)
 | .type n=>some (.ty n)
 | _=>none
theorem RelV.abs {x:V} {u:Value} (r:RelV x u):KN u=some x:=by
 cases x with
 | non=>cases r;rfl
 | bl _=>cases r;rfl
 | int _=>obtain ⟨t,rfl⟩:=r;rfl
 | str _=>obtain ⟨t,rfl⟩:=r;rfl
 | byt _=>obtain ⟨t,rfl⟩:=r;rfl
 | flt _=>obtain ⟨t,rfl⟩:=r;rfl
 | ref _=>cases r;rfl
 | ty _=>cases r;rfl
theorem RelV.inj {x y:V} {u:Value} (r:RelV x u) (q:RelV y u):x=y:=Option.some.inj (r.abs.symm.trans q.abs)
theorem Vals.inj:∀{xs ys:List V} {us:List Value},Vals xs us->Vals ys us->xs=ys
 | _,_,_,.nil,.nil=>rfl
 | _,_,_,.cons r t,.cons r' t'=>by rw [r.inj r',Vals.inj t t']
section
variable {X:Cx} {pins:List (Addr×Obj)} {σ:St} {H:Hp} {s:Shared} {a:Addr} {xs ys:List V}
theorem SqL.of {K:Fg} (h:H a=some (.lst xs)):SqL K H a xs:=.inl (.inl h)
theorem SqT.of {K:Fg} (h:H a=some (.tup xs)):SqT K H a xs:=.inl (.inl h)
theorem Inv.list (I:Inv X pins σ H s) (h:SqL X.K H a xs):∃its:List Value,Vals xs its/\PlainL s.heap a its.toArray/\xs.length<=sizeLine:=by
 rcases h with h | ⟨o,its,n,hk,hc,hd,hs,hz,r⟩
 ·obtain ⟨z,its,n,r,e⟩:=h.ok I.hok
  exact ⟨its,r,⟨_,n,e,rfl,rfl,rfl⟩,z⟩
 ·refine ⟨its.toList,r,⟨o,n,I.kIn a o hk,hc,hd,by simpa using hs⟩,?_⟩
  have e:=r.length
  simp only [Array.length_toList] at e
  omega
theorem Inv.tuple (I:Inv X pins σ H s) (h:SqT X.K H a xs):∃its:List Value,Vals xs its/\IsTup s.heap a its.toArray/\xs.length<=sizeLine:=by
 rcases h with h | ⟨o,its,n,hk,hc,hs,hz,r⟩
 ·obtain ⟨z,its,r,p⟩:=h.ok I.hok
  exact ⟨its,r,p,z⟩
 ·refine ⟨its.toList,r,⟨o,I.kIn a o hk,hc,n,by simpa using hs⟩,?_⟩
  have e:=r.length
  simp only [Array.length_toList] at e
  omega
theorem Inv.list_inj (I:Inv X pins σ H s) (h:SqL X.K H a xs) (h':SqL X.K H a ys):xs=ys:=by
 obtain ⟨its,r,⟨o,n,e,_,_,d⟩,_⟩:=I.list h;obtain ⟨its',r',⟨o',n',e',_,_,d'⟩,_⟩:=I.list h'
 rw [e] at e';cases e'
 rw [d] at d';injection d' with d1 _
 have:its=its':=by simpa using congrArg Array.toList d1
 subst this;exact r.inj r'
end
abbrev Cx.wish (X:Cx) (E:Value->Shared->Prop):Cx:={ X with xe:=E }
abbrev Cx.nox (X:Cx):Cx:=X.wish fun _ _=>False
theorem Cx.Ok.wish {X:Cx} (ok:X.Ok) (E:Value->Shared->Prop):(X.wish E).Ok:=
 ⟨ok.mod,ok.kind,ok.glob,ok.blt,ok.above,ok.inj,ok.has,ok.cab,ok.hd,ok.frames,ok.stk,ok.exf,ok.bs,ok.bsz,ok.noex,ok.exfs,ok.funs,ok.frf⟩
theorem Cx.Ok.unwish {X:Cx} {E:Value->Shared->Prop} (ok:(X.wish E).Ok):X.Ok:=
 ⟨ok.mod,ok.kind,ok.glob,ok.blt,ok.above,ok.inj,ok.has,ok.cab,ok.hd,ok.frames,ok.stk,ok.exf,ok.bs,ok.bsz,ok.noex,ok.exfs,ok.funs,ok.frf⟩
section
variable {X:Cx} {pins:List (Addr×Obj)} {σ:St} {H:Hp} {s:Shared} {E:Value->Shared->Prop}
theorem Inv.wish (I:Inv X pins σ H s) (E:Value->Shared->Prop):Inv (X.wish E) pins σ H s:=⟨I.ok.wish E,I.os,I.bare,I.base,I.loc,I.cell,I.free,I.freeC,I.pin,I.hok,I.len⟩
theorem Inv.unwish (I:Inv (X.wish E) pins σ H s):Inv X pins σ H s:=⟨I.ok.unwish,I.os,I.bare,I.base,I.loc,I.cell,I.free,I.freeC,I.pin,I.hok,I.len⟩
theorem SP.unwish {D:dz} {f:Flow} {s':Shared} (h:SP (X.wish E) pins D f s'):SP X pins D f s':=by
 cases f with
 | next=>obtain ⟨σ',H',I,q⟩:=h;exact ⟨σ',H',I.unwish,q⟩
 | brk=>obtain ⟨σ',H',I,q⟩:=h;exact ⟨σ',H',I.unwish,q⟩
 | cont=>obtain ⟨σ',H',I,q⟩:=h;exact ⟨σ',H',I.unwish,q⟩
 | ret u=>obtain ⟨v,σ',H',I,r,q⟩:=h;exact ⟨v,σ',H',I.unwish,r,q⟩
theorem PSs.nox {st:List Stmt} {t:TS} (h:PSs X.nox st t):PSs X st t:=fun pins s σ H D I hw=>
 wpAny_mono (h pins s σ H D (I.wish _) hw) (fun _ _ q=>q.unwish) fun _ _ z=>False.elim z
end
section
variable {X:Cx} {st:Stmt} {rest:List Stmt} {t u:TS} {e:Expr} {te:TE} {pos:Pos}
def kx:TS:=fun D σ H=>D.nx σ H
def d7 (t u:TS):TS:=fun D σ H=>t { D with nx:=u D } σ H
theorem GA:PSs X [] kx:=fun _ _ σ H _ I h=>wpAny_execs_nil ⟨σ,H,I,h⟩
theorem og (h1:PS X st t) (h2:PSs X rest u):PSs X (st::rest) (d7 t u):=by
 intro pins s σ H D I h;refine wpAny_execs_cons (bx (h1 pins s σ H { D with nx:=u D } I h) fun f s1 q=>?_)
 cases f with
 | next=>
  obtain ⟨σ',H',I',q⟩:=q;exact h2 pins s1 σ' H' D I' q
 | ret v=>exact q
 | brk=>exact q
 | cont=>exact q
theorem v9 (h1:PS X st t):PSs X [st] t:=by
 intro pins s σ H D I h;refine wpAny_execs_cons (bx (h1 pins s σ H D I h) fun f s1 q=>?_)
 cases f with
 | next=>exact wpAny_execs_nil q
 | ret v=>exact q
 | brk=>exact q
 | cont=>exact q
theorem Inv.quiet {pins:List (Addr×Obj)} {σ:St} {H:Hp} {s:Shared} (I:Inv X pins σ H s):interactive X.env=false:=by simp [interactive,I.ok.kind]
def ky (te:TE):TS:=fun D σ H=>te σ H fun _ H1=>D.nx σ H1
theorem Im (he:PE X e te) (hs:swapsWith e none pos.line X.env=pure false:=by rfl):PS X (.Expr e pos) (ky te):=by
 intro pins s σ H D I h;exact wpAny_Expr_any (bx (he pins s σ H _ I h) fun v s1 ⟨x,H1,I1,r1,q1⟩=>⟨σ,H1,I1,q1⟩) I.quiet hs
def sU (te:TE):TS:=fun D σ H=>te σ H D.rt
theorem DB (he:PE X e te):PS X (.Return (some e) pos) (sU te):=by
 intro pins s σ H D I h;exact wpAny_Return_some (bx (he pins s σ H _ I h) fun v s1 ⟨x,H1,I1,r1,q1⟩=>⟨x,σ,H1,I1,r1,q1⟩)
def sW (c:TT) (t u:TS):TS:=fun D σ H=>c σ H fun b H1=>if b=true then t D σ H1 else u D σ H1
theorem uq {c:Expr} {a b:List Stmt} {tc:TT} (hc:PT X c tc) (ha:PSs X a t) (hb:PSs X b u):PS X (.If c a b pos) (sW tc t u):=by
 intro pins s σ H D I h;refine wpAny_If (bx (hc pins s σ H _ I h) fun d s1 ⟨H1,I1,q1⟩=>?_)
 cases d with
 | true=>exact ha pins s1 σ H1 D I1 q1
 | false=>exact hb pins s1 σ H1 D I1 q1
end
abbrev TG:=V->St->Hp->(St->Hp->Prop)->Prop
abbrev zL:=List V->St->Hp->(St->Hp->Prop)->Prop
def PG (X:Cx) (target:Expr) (t:TG):Prop:=
 ∀(pins:List (Addr×Obj)) (s:Shared) (σ:St) (H:Hp) (v:V) (u:Value) (Q:St->Hp->Prop),Inv X pins σ H s->RelV v u->t v σ H Q ->
  wpAny (model X.prog X.w) X.A (assign target X.env u) (fun _ s'=>∃σ' H',Inv X pins σ' H' s'/\Q σ' H') X.xe s
def HG (X:Cx) (ts:List Expr) (t:zL):Prop:=
 ∀(pins:List (Addr×Obj)) (s:Shared) (σ:St) (H:Hp) (vs:List V) (us:List Value) (Q:St->Hp->Prop),Inv X pins σ H s->Vals vs us->t vs σ H Q ->
  wpAny (model X.prog X.w) X.A (assignInOrder ((assignEach ts X.env).map (·.2)) us) (fun _ s'=>∃σ' H',Inv X pins σ' H' s'/\Q σ' H') X.xe s
abbrev CV:=V->V->V->Hp->(Hp->Prop)->Prop
def FX (X:Cx) (t:CV):Prop:=
 ∀(pins:List (Addr×Obj)) (s:Shared) (σ:St) (H:Hp) (o i v:V) (ov iv u:Value) (Q:Hp->Prop),Inv X pins σ H s->RelV o ov->RelV i iv->RelV v u->t o i v H Q ->
  wpAny (model X.prog X.w) X.A (setItem ov iv u) (fun _ s'=>∃H',Inv X pins σ H' s'/\Q H') X.xe s
abbrev HE:=V->V->Hp->VK->Prop
def LU (X:Cx) (op:Operator) (t:HE):Prop:=
 ∀(pins:List (Addr×Obj)) (s:Shared) (σ:St) (H:Hp) (x y:V) (v u:Value) (Q:VK),Inv X pins σ H s->RelV x v->RelV y u->t x y H Q ->
  wpAny (model X.prog X.w) X.A (inplaceOp op v u) (EP X pins σ Q) X.xe s
section
variable {X:Cx} {pos:Pos}
def gName (i:Nat):TG:=fun v σ H Q=>Q (σ.set i (some v)) H
theorem rY {i:Nat} {x:Str} (hN:X.N.Nodup) (hi:X.N[i]?=some x) (hx:Loc X.env.scope x) (hf:X.fn x=true\/X.env.scope.names.lookup x=some .local:=by first | exact .inl rfl | exact .inr rfl | assumption):PG X (.Name x pos) (gName i):=by
 intro pins s σ H v u Q I r h;exact wpAny_assign_Name (GU I hN hi hx r (fun s' I'=>⟨_,H,I',h⟩) hf)
def Cs:zL:=fun vs σ H Q=>vs=[]/\Q σ H
def pB (t:TG) (u:zL):zL:=fun vs σ H Q=>∃v r,vs=v::r/\t v σ H fun σ' H'=>u r σ' H' Q
theorem oY:HG X [] Cs:=by
 intro pins s σ H vs us Q I r h;obtain ⟨e,h⟩:=h;subst e
 cases r;exact assignInOrder_nil ⟨σ,H,I,h⟩
theorem DM {e:Expr} {es:List Expr} {t:TG} {u:zL} (h1:PG X e t) (h2:HG X es u)
  (hs:(assignEach (e::es) X.env).map (·.2)=assign e X.env::(assignEach es X.env).map (·.2):=by rfl):HG X (e::es) (pB t u):=by
 intro pins s σ H vs us Q I r h;obtain ⟨v,vr,e1,h⟩:=h;subst e1
 cases r with
 | cons r rr=>
  rw [hs];refine assignInOrder_cons (bx (h1 pins s σ H _ _ _ I r h) fun _ s1 ⟨σ1,H1,I1,q1⟩=>?_)
  exact h2 pins s1 σ1 H1 _ _ Q I1 rr q1
def Cr (K:Fg) (n:Nat) (t:zL):TG:=fun v σ H Q=>∃a xs,v=.ref a/\SqT K H a xs/\xs.length=n/\t xs σ H Q
theorem ux {es:List Expr} {k:Nat} {t:zL} {n:Nat} (hc:X.calm=true) (h:HG X es t)
  (hn:(assignEach es X.env).length=n:=by rfl) (hst:(assignEach es X.env).findIdx? (·.1)=none:=by rfl):PG X (.Tuple es k pos) (Cr X.K n t):=by
 intro pins s σ H v u Q I r hw;obtain ⟨a,xs,e1,hq,hl,hw⟩:=hw;subst e1
 cases r;obtain ⟨its,rv,ht,hz⟩:=I.tuple hq;refine assign_Tuple_tuple (I.ok.hd hc) ht (by simp [hn,<-hl,rv.length]) hst fun h' hx=>?_
 have I1:Inv X pins σ H { s with heap:=h' }:=I.kept (t':=s.toks) fun b o e=>hx b o (Nat.ne_of_lt (Heap.lt_size e)) e
 exact h pins _ σ H xs _ Q I1 (by simpa using rv) hw
def gSub (to ti:TE) (t:CV):TG:=fun v σ H Q=>to σ H fun o H1=>ti σ H1 fun i H2=>t o i v H2 fun H3=>Q σ H3
theorem Bv {o i:Expr} {to ti:TE} {t:CV} (ho:PE X o to) (hi:PE X i ti) (hs:FX X t)
  (ha:∀v,assign (.Subscript o i pos) X.env v=(do
   let ov <-holding [v] (eval o X.env)
   let iv <-holding [v,ov] (eval i X.env)
   standAt pos
   holding [v,ov,iv] (setItem ov iv v)
   release [v,ov,iv] []):=by intro _;rfl):PG X (.Subscript o i pos) (gSub to ti t):=by
 intro pins s σ H v u Q I r h;rw [ha];refine MN (wpAny_holding (bx (ho pins s σ H _ I h) fun ov s1 ⟨x,H1,I1,r1,q1⟩=>?_))
 refine MN (wpAny_holding (bx (hi pins s1 σ H1 _ I1 q1) fun iv s2 ⟨y,H2,I2,r2,q2⟩=>?_))
 refine MN (wpAny_standAt (MN (wpAny_holding (bx (hs pins s2 σ H2 x y v ov iv u _ I2 r1 r2 r q2) fun _ s3 ⟨H3,I3,q3⟩=>?_))))
 exact wpAny_release ⟨σ,H3,I3,q3⟩
def fg (te:TE) (g:TG):TS:=fun D σ H=>te σ H fun x H1=>g x σ H1 D.nx
theorem ur {tg e:Expr} {te:TE} {g:TG} (he:PE X e te) (hg:PG X tg g) (hs:swapsWithSole [tg] e pos.line X.env=pure false:=by rfl) (hw:swappedStores [tg] e X.env=pure none:=by rfl)
  (h1:(assignEach [tg] X.env).map (·.2)=[assign tg X.env]:=by rfl):PS X (.Assign [tg] e pos) (fg te g):=by
 intro pins s σ H D I h;refine wpAny_Assign_stores (bx (he pins s σ H _ I h) fun v s1 ⟨x,H1,I1,r1,q1⟩=>?_) hs hw
 rw [h1];exact bx (hg pins s1 σ H1 x v _ I1 r1 q1) fun _ s2 q=>q
theorem zT {i:Nat} {x:Str} {e:Expr} {te:TE} {pos':Pos} (hN:X.N.Nodup) (hi:X.N[i]?=some x) (hx:Loc X.env.scope x) (he:PE X e te) (hs:swapsWith e (some (.Name x pos')) pos.line X.env=pure false:=by rfl) (hf:X.fn x=true\/X.env.scope.names.lookup x=some .local:=by first | exact .inl rfl | exact .inr rfl | assumption) :
  PS X (.Assign [.Name x pos'] e pos) (fg te (gName i)):=by
 intro pins s σ H D I h;refine wpAny_Assign_Name (bx (he pins s σ H _ I h) fun v s1 ⟨y,H1,I1,r1,q1⟩=>?_) hs
 exact GU I1 hN hi hx r1 (fun s2 I2=>⟨_,H1,I2,q1⟩) hf
def Ec (i:Nat) (te:TE) (ti:HE):TS:=fun D σ H=>∃x,σ[i]?=some (some x)/\te σ H fun y H1=>ti x y H1 fun z H2=>D.nx (σ.set i (some z)) H2
theorem Bt {i:Nat} {x:Str} {e:Expr} {te:TE} {op:Operator} {ti:HE} {pos':Pos} (hN:X.N.Nodup) (hi:X.N[i]?=some x) (hx:Loc X.env.scope x) (he:PE X e te) (ho:LU X op ti) (hf:X.fn x=true\/X.env.scope.names.lookup x=some .local:=by first | exact .inl rfl | exact .inr rfl | assumption) :
  PS X (.AugAssign (.Name x pos') op e pos) (Ec i te ti):=by
 intro pins s σ H D I h;obtain ⟨v,e1,h⟩:=h;obtain ⟨m,hn,hl⟩:=I.loc;have vis:CU X.env.scope x:=by rcases hx with k | k;exact .inl k;exact .inr (.inl k)
 obtain ⟨u,r,l⟩:=hl i x v hi e1 vis;refine wpAny_AugAssign_Name ?_
 have go:wpAny (model X.prog X.w) X.A (eval e X.env) (fun w s₂=>wpAny (model X.prog X.w) X.A (inplaceOp op u w) (fun r s₃=>wpAny (model X.prog X.w) X.A (storeName X.env x r) (fun _=>SP X pins D .next) X.xe s₃) X.xe s₂) X.xe s:=by
  refine bx (he pins s σ H _ I h) fun w s1 ⟨y,H1,I1,r1,q1⟩=>?_
  refine bx (ho pins s1 σ H1 v y u w _ I1 r r1 q1) fun z s2 ⟨zv,H2,I2,r2,q2⟩=>?_
  exact GU I2 hN hi hx r2 (fun s3 I3=>⟨_,H2,I3,q2⟩) hf
 rcases l with ⟨hk,hm⟩ | ⟨hk,c,hc,hcell⟩
 ·exact wpAny_loadName_local I.ok.kind hk hn hm go
 ·rcases hk with hk | hk
  ·exact wpAny_loadName_cell I.ok.kind hk hc hcell go
  ·rcases hx with k | k
   ·have:X.env.scope.names.lookup x=some .free:=hk
    rw [k] at this;cases this
   ·have:X.env.scope.names.lookup x=some .free:=hk
    rw [k] at this;cases this
def LC (f:Int->Int->Int):HE:=fun x y H Q=>∃i j,x=.int i/\y=.int j/\Q (.int (f i j)) H
theorem B5:LU X .Add (LC fun i j=>i+j):=by
 intro pins s σ H x y v u Q I r1 r2 h;obtain ⟨i,j,e1,e2,q⟩:=h;subst e1;subst e2;obtain ⟨t,rfl⟩:=r1;obtain ⟨t',rfl⟩:=r2;exact iadd_int ⟨.int _,H,I.tok _,⟨_,rfl⟩,q⟩
end
section
variable {X:Cx} {pos:Pos}
def Ge (c:TT) (tb:TS):TS:=fun D σ H=>∃W:Nat->St->Hp->Prop,(∃m,W m σ H)/\∀m σ H,W m σ H ->
 c σ H fun b H1=>if b=true then ∃N:St->Hp->Prop,(∀σ' H',N σ' H'->∃m',m'<m/\W m' σ' H')/\tb { D with nx:=N,ct:=N,bk:=D.nx } σ H1 else D.nx σ H1
theorem kT {c:Expr} {body:List Stmt} {tc:TT} {tb:TS} (hp:PassesOwn (model X.prog X.w) X.A X.env X.xe) (hc:PT X c tc) (hb:PSs X body tb):PS X (.While c body [] pos) (Ge tc tb):=by
 intro pins s σ H D I h;obtain ⟨W,⟨m0,w0⟩,turn⟩:=h;refine wpAny_While (codeAny_whileLoop (fun n s'=>∃σ' H',Inv X pins σ' H' s'/\W n σ' H') ?_ m0 ⟨σ,H,I,w0⟩)
 rintro n s1 ⟨σ1,H1,I1,w1⟩
 refine wpAny_passesOwn hp (bx (hc pins s1 σ1 H1 _ I1 (turn n σ1 H1 w1)) fun b s2 ⟨H2,I2,q2⟩=>?_)
 cases b with
 | true=>
  obtain ⟨N,hN,q2⟩:=q2;rw [if_pos rfl];refine wpAny_passesOwn hp (bx (hb pins s2 σ1 H2 _ I2 q2) fun f s3 q3=>?_)
  cases f with
  | next=>
   obtain ⟨σ3,H3,I3,n3⟩:=q3;obtain ⟨m',hm,w3⟩:=hN σ3 H3 n3;exact ⟨m',hm,σ3,H3,I3,w3⟩
  | cont=>
   obtain ⟨σ3,H3,I3,n3⟩:=q3;obtain ⟨m',hm,w3⟩:=hN σ3 H3 n3;exact ⟨m',hm,σ3,H3,I3,w3⟩
  | brk=>exact q3
  | ret v=>exact q3
 | false=>
  rw [if_neg Bool.false_ne_true];exact wpAny_execs_nil ⟨σ1,H2,I2,q2⟩
end
structure It where
 go:Nat->Hp->Prop
 yld:Nat->Hp->V->Hp->Prop
 stop:Nat->Hp->Prop
def iT (X:Cx) (pins:List (Addr×Obj)) (H:Hp) (b:Addr):Prop:=
 H b=none/\b≠X.env.locals/\b∉X.fs/\(b∈X.ex\/X.s₀.heap.objs.size<=b)/\(∀x c,X.env.cells.lookup x=some c->c≠b)/\∀p∈X.pn++pins,p.1≠b
theorem Inv.fpOk {X:Cx} {pins:List (Addr×Obj)} {σ:St} {H H':Hp} {s:Shared} {b:Addr} (I:Inv X pins σ H s) (hb:s.heap.objs.size<=b) (hn:H' b=none):iT X pins H' b:=by
 refine ⟨hn,Nat.ne_of_gt (Nat.lt_of_lt_of_le I.lt hb),I.nofs hb,.inr (Nat.le_trans I.sz hb),fun x c e z=>?_,fun p hp z=>?_⟩
 ·obtain ⟨v,q⟩:=I.cell x c e
  exact absurd (Nat.lt_of_lt_of_le q.lt (by rw [z];exact hb)) (Nat.lt_irrefl _)
 ·exact absurd (Nat.lt_of_lt_of_le (Heap.lt_size (I.pin p hp).1) (by rw [z];exact hb)) (Nat.lt_irrefl _)
structure vS (P:Program) (w:World) (K:Fg) (tg:Expr) (J:It) (fp:List Addr) (it:Addr) (tn:Nat->Heap->Prop):Prop where
 mem:it∈fp
 obj:∀i h,tn i h->∀b∈fp,∃o,h.get? b=some o/\∀v,o.data≠.cell v
 keep:∀i h h',tn i h->(∀b∈fp,∀o,h.get? b=some o->h'.get? b=some o)->tn i h'
 item:∀(X:Cx),X.prog=P->X.w=w->X.K=K->X.calm=true->∀(i:Nat) (pins:List (Addr×Obj)) (s:Shared) (σ:St) (H:Hp) (E:Value->Shared->Prop),Inv X pins σ H s->(∀b∈fp,iT X pins H b)->tn i s.heap->J.go i H ->
  wpAny (model P w) X.A (pyNext (.ref it)) (fun r s1=>∃u,r=some u /\
   wpAny (model P w) X.A (letOwnedTupleGo tg (.ref it) u) (fun _ s2=>∃x H',Inv X pins σ H' s2/\RelV x u/\J.yld i H x H'/\tn (i+1) s2.heap/\∀b∈fp,H' b=none) E s1) E s
 done:∀(X:Cx),X.prog=P->X.w=w->X.K=K->X.calm=true->∀(i:Nat) (pins:List (Addr×Obj)) (s:Shared) (σ:St) (H:Hp) (E:Value->Shared->Prop),Inv X pins σ H s->(∀b∈fp,iT X pins H b)->tn i s.heap->J.stop i H ->
  wpAny (model P w) X.A (pyNext (.ref it)) (fun r s1=>r=none/\Inv X pins σ H s1) E s
 self:∀(A:Around) (i:Nat) (s:Shared) (Q:Value->Shared->Prop) (E:Value->Shared->Prop),tn i s.heap->Q (.ref it) s->wpAny (model P w) A (pyIter (.ref it)) Q E s
abbrev TI:=St->Hp->(It->Hp->Prop)->Prop
def LV (X:Cx) (pins:List (Addr×Obj)) (σ:St) (tg:Expr) (R:It->Hp->Prop) (itv:Value) (s2:Shared):Prop:=
 ∃(it:Addr) (fp:List Addr) (tn:Nat->Heap->Prop) (J:It) (H':Hp),itv=.ref it/\Inv X pins σ H' s2/\vS X.prog X.w X.K tg J fp it tn/\tn 0 s2.heap/\(∀b∈fp,iT X pins H' b)/\R J H'
def PI (X:Cx) (tg iter:Expr) (wi:TI):Prop:=
 ∀(pins:List (Addr×Obj)) (s:Shared) (σ:St) (H:Hp) (R:It->Hp->Prop),Inv X pins σ H s->wi σ H R ->
  wpAny (model X.prog X.w) X.A (eval iter X.env) (fun v s1=>wpAny (model X.prog X.w) X.A (pyIter v) (LV X pins σ tg R) X.xe s1) X.xe s
theorem vh {M:Model} {A:Around} {E:Value->Shared->Prop} {s:Shared} {tg:Expr} {it:Addr} {u:Value} {o:Obj} {n:String} {vs:Array Value} {Q:Unit->Shared->Prop} (ho:s.heap.get? it=some o) (hc:o.cls=.type n) (hd:o.data=.fields vs)
  (hn:["enumerate", "zip", "dict_itemiterator", "dict_reverseitemiterator", "odict_iterator", "itertools.zip_longest", "itertools.pairwise"].contains n=false) (hQ:Q () s):wpAny M A (letOwnedTupleGo tg (.ref it) u) Q E s:=by
 unfold letOwnedTupleGo
 cases tg<;>first
  | exact MO hQ
  | (cases u<;>first
      | exact MO hQ
      | (refine MN (wpAny_load ho ?_)
         rw [hc,hd];show wpAny M A (if (["enumerate", "zip", "dict_itemiterator", "dict_reverseitemiterator", "odict_iterator", "itertools.zip_longest", "itertools.pairwise"].contains n&&vs[0]?==some (rawInt _))=true then _ else _) Q E s
         rw [if_neg (by intro h;rw [hn,Bool.false_and] at h;cases h)]
         exact MO hQ))
def C0 (K:Fg) (a:Addr):It:=
 ⟨fun i H=>∃xs x,SqL K H a xs/\xs[i]?=some x,fun i H x H'=>H'=H/\∀xs,SqL K H a xs->xs[i]?=some x,fun i H=>∃xs,SqL K H a xs/\xs.length<=i⟩
def CZ (lo:Int) (n:Nat):It:=⟨fun i _=>i<n,fun i H x H'=>H'=H/\x=.int (lo+i),fun i _=>n<=i⟩
theorem pY {P:Program} {w:World} {K:Fg} {tg:Expr} (a it:Addr):vS P w K tg (C0 K a) [it] it (fun i h=>h.IsListIter it a i) where
 mem:=by simp
 obj:=fun i h st b hb=>by
  have e:b=it:=by simpa using hb
  subst e;obtain ⟨o,e,c,d⟩:=st;exact ⟨o,e,fun v z=>by rw [d] at z;cases z⟩
 keep:=fun i h h' st k=>st.at fun o e=>k it (by simp) o e
 item:=by
  intro X hP hw hK hc i pins s σ H E I hf st hg;subst hP hw hK;obtain ⟨xs,x,hq,hx⟩:=hg;obtain ⟨its,rv,p,hz⟩:=I.list hq;obtain ⟨u,hu,ru⟩:=rv.get hx;obtain ⟨f0,f1,f2,f3,f4,f5⟩:=hf it (by simp)
  refine wpAny_pyNext_list_item st p.isList (x:=u) (by simpa using hu) fun h' st' sb=>?_
  have I1:Inv X pins σ H { s with heap:=h' }:=I.turned (t':=s.toks) (fun b o hb e=>(sb.2 b hb).trans e) f0 f1 f3 f4 f5
  obtain ⟨o,e,c,d⟩:=id st'
  exact ⟨u,rfl,vh (s:={ s with heap:=h' }) e c d (by decide) ⟨x,H,I1,ru,⟨rfl,fun ys hy=>by rw [I.list_inj hy hq];exact hx⟩,st',fun b hb=>(hf b hb).1⟩⟩
 done:=by
  intro X hP hw hK hc i pins s σ H E I hf st hg;subst hP hw hK;obtain ⟨xs,hq,hx⟩:=hg;obtain ⟨its,rv,p,hz⟩:=I.list hq;obtain ⟨f0,f1,f2,f3,f4,f5⟩:=hf it (by simp)
  have hl:=rv.length
  exact wpAny_pyNext_list_end (I.ok.hd hc) st p.isList (by simp;omega) fun h' eb=>⟨rfl,I.turned (t':=s.toks) (fun b o hb e=>eb b o hb e) f0 f1 f3 f4 f5⟩
 self:=fun _ _ _ _ _ st h=>wpAny_pyIter_listiter st h
theorem mO {P:Program} {w:World} {K:Fg} {tg:Expr} (it:Addr) (lo:Int) (n:Nat):vS P w K tg (CZ lo n) [it] it (fun i h=>IsRangeIter h it (lo+(i:Nat)*1) ((n:Int)-(i:Nat)) 1) where
 mem:=by simp
 obj:=fun i h st b hb=>by
  have e:b=it:=by simpa using hb
  subst e;exact ⟨_,st,fun v z=>by
   have z':Data.fields _=Data.cell v:=z
   cases z'⟩
 keep:=fun i h h' st k=>k it (by simp) _ st
 item:=by
  intro X hP hw hK hc i pins s σ H E I hf st hg;subst hP hw hK;obtain ⟨f0,f1,f2,f3,f4,f5⟩:=hf it (by simp)
  have W:=Walks.range (prog:=X.prog) (w:=X.w) (I.ok.hd hc) it lo 1 n
  refine W.item i s _ _ hg st fun v h' tk hv st' kk=>?_
  obtain ⟨t,rfl⟩:=hv;have I1:Inv X pins σ H { s with heap:=h',toks:=tk }:=I.turned (fun b o hb e=>kk b o (by simpa using hb) e) f0 f1 f3 f4 f5
  refine ⟨_,rfl,vh (s:={ s with heap:=h',toks:=tk }) (n := "range_iterator") st' rfl rfl (by decide) ⟨.int (lo+i),H,I1,⟨t,?_⟩,⟨rfl,rfl⟩,st',fun b hb=>(hf b hb).1⟩⟩
  rw [Int.mul_one]
 done:=by
  intro X hP hw hK hc i pins s σ H E I hf st hg;subst hP hw hK;obtain ⟨f0,f1,f2,f3,f4,f5⟩:=hf it (by simp)
  exact wpAny_pyNext_range_end (I.ok.hd hc) st (by have:n<=i:=hg;omega) fun h' eb=>⟨rfl,I.turned (t':=s.toks) (fun b o hb e=>eb b o hb e) f0 f1 f3 f4 f5⟩
 self:=fun _ _ _ _ _ st h=>wpAny_pyIter_rangeiter st h
section
variable {X:Cx} {tg:Expr}
def gY (K:Fg) (tl:TE):TI:=fun σ H R=>tl σ H fun x H1=>∃a,x=.ref a/\(∃xs,SqL K H1 a xs)/\R (C0 K a) H1
theorem Gy {l:Expr} {tl:TE} (hl:PE X l tl):PI X tg l (gY X.K tl):=by
 intro pins s σ H R I h;refine bx (hl pins s σ H _ I h) fun v s1 ⟨x,H1,I1,r1,q1⟩=>?_
 obtain ⟨a,e,⟨xs,hq⟩,q⟩:=q1;subst e
 cases r1;obtain ⟨its,rv,p,hz⟩:=I1.list hq;refine wpAny_pyIter_list p.isList ?_
 refine ⟨s1.heap.objs.size,[s1.heap.objs.size],_,_,H1,rfl,I1.kept (t':=s1.toks) fun b o e=>MP _ e,pY a _,⟨_,Heap.get?_push_size _ rfl,rfl,rfl⟩,fun b hb=>?_,q⟩
 have e:b=s1.heap.objs.size:=by simpa using hb
 subst e;exact I1.fpOk (MQ _) (I1.hok.fresh (MQ _))
theorem kO {pins:List (Addr×Obj)} {σ:St} {H:Hp} {s:Shared} {R:It->Hp->Prop} {E:Value->Shared->Prop} {lo hi:Int} {t u v:Tok} {tk:Nat} (I:Inv X pins σ H s) (h1:-(2 ^ 62)<=lo) (h2:lo<2 ^ 62) (h3:-(2 ^ 62)<=hi) (h4:hi<2 ^ 62)
  (q:R (CZ lo (hi-lo).toNat) H):wpAny (model X.prog X.w) X.A (pyIter (.ref s.heap.objs.size)) (LV X pins σ tg R) E { s with heap:=s.heap.push { cls:=.type "range",data:=.fields #[.int lo t,.int hi u,.int 1 v] },toks:=tk }:=by
 refine wpAny_pyIter_range (IsRange.new ..) (small_one h1 h2 h3 h4) ?_
 have I1:Inv X pins σ H { s with heap:=s.heap.push { cls:=.type "range",data:=.fields #[.int lo t,.int hi u,.int 1 v] },toks:=tk }:=I.kept fun b o e=>MP _ e
 refine ⟨(s.heap.push { cls:=.type "range",data:=.fields #[.int lo t,.int hi u,.int 1 v] }).objs.size,[(s.heap.push { cls:=.type "range",data:=.fields #[.int lo t,.int hi u,.int 1 v] }).objs.size],_,_,H,rfl,
  I1.kept (t':=tk) fun b o e=>MP _ e,mO _ lo (hi-lo).toNat,?_,fun b hb=>?_,q⟩
 ·have e1:lo+((0:Nat):Int)*1=lo:=by simp
  have e2:(((hi-lo).toNat:Nat):Int)-((0:Nat):Int)=Builtin.Range.rangeSize lo hi 1:=by rw [rangeSize_one];split<;>omega
  show IsRangeIter _ _ (lo+((0:Nat):Int)*1) ((((hi-lo).toNat:Nat):Int)-((0:Nat):Int)) 1
  rw [e1,e2];exact Heap.get?_push_size _ rfl
 ·have e:b=(s.heap.push { cls:=.type "range",data:=.fields #[.int lo t,.int hi u,.int 1 v] }).objs.size:=by simpa using hb
  subst e;exact I1.fpOk (MQ _) (I1.hok.fresh (MQ _))
def zD (ta:TA):TI:=fun σ H R=>ta σ H fun vs H1=>∃j:Int,vs=[.int j]/\-(2 ^ 62)<=j/\j<2 ^ 62/\R (CZ 0 j.toNat) H1
def zC (ta:TA):TI:=fun σ H R=>ta σ H fun vs H1=>∃i j:Int,vs=[.int i,.int j]/\(-(2 ^ 62)<=i/\i<2 ^ 62/\-(2 ^ 62)<=j/\j<2 ^ 62)/\R (CZ i (j-i).toNat) H1
theorem qx {a:Expr} {ta:TA} {p pos:Pos} (hg:Gl X "range") (hm:X.mg "range"=none) (ha:PA X [a] ta) (hs:starEach [a] X.env=[(false,eval a X.env)]:=by rfl):PI X tg (.Call (.Name "range" p) [a] [] pos) (zD ta):=by
 intro pins s σ H R I h;refine Call_ (vY I hg hm boot_range (PyProof.Rows.callWith_type1 (bx (ha pos pins s σ H _ I h) fun us s1 ⟨vs,H1,I1,r1,q1⟩=>?_) hs rfl))
 obtain ⟨j,e,q1,q2,q⟩:=q1;subst e
 cases r1 with
 | cons r rr=>
  cases rr;obtain ⟨t,rfl⟩:=r;exact call_range_1 (kO I1 (by omega) (by omega) q1 q2 (by simpa using q))
theorem qw {a b:Expr} {ta:TA} {p pos:Pos} (hg:Gl X "range") (hm:X.mg "range"=none) (ha:PA X [a,b] ta) (hs:starEach [a,b] X.env=[(false,eval a X.env),(false,eval b X.env)]:=by rfl) (hs2:starEach [b] X.env=[(false,eval b X.env)]:=by rfl) :
  PI X tg (.Call (.Name "range" p) [a,b] [] pos) (zC ta):=by
 intro pins s σ H R I h;refine Call_ (vY I hg hm boot_range (PyProof.Rows.callWith_type1 (bx (ha pos pins s σ H _ I h) fun us s1 ⟨vs,H1,I1,r1,q1⟩=>?_) (by rw [hs,hs2]) (by rw [hs2];rfl)))
 obtain ⟨i,j,e,⟨q1,q2,q3,q4⟩,q⟩:=q1;subst e
 cases r1 with
 | cons r rr=>
  cases rr with
  | cons r' rr=>
   cases rr;obtain ⟨t,rfl⟩:=r;obtain ⟨t',rfl⟩:=r'
   exact call_range_2 (kO I1 q1 q2 q3 q4 q)
def wO (wi:TI) (g:TG) (tb:TS):TS:=fun D σ H=>wi σ H fun J H1=>∃W:Nat->Nat->St->Hp->Prop,(∃m,W 0 m σ H1)/\∀i m σ H,W i m σ H ->
 (J.stop i H/\D.nx σ H)\/(J.go i H/\∃N:St->Hp->Prop,(∀σ' H',N σ' H'->∃m',m'<m/\W (i+1) m' σ' H')/\∀x H',J.yld i H x H'->g x σ H' fun σ2 H2=>tb { D with nx:=N,ct:=N,bk:=D.nx } σ2 H2)
def DA (fp:List Addr) (h:Heap):List (Addr×Obj):=fp.filterMap fun b=>(h.get? b).map fun o=>(b,o)
theorem G0 {fp:List Addr} {h:Heap} {b:Addr} {o:Obj} (hb:b∈fp) (e:h.get? b=some o):(b,o)∈DA fp h:=List.mem_filterMap.mpr ⟨b,hb,by rw [e];rfl⟩
theorem qD {fp:List Addr} {h:Heap} {p:Addr×Obj} (hp:p∈DA fp h):p.1∈fp/\h.get? p.1=some p.2:=by
 obtain ⟨b,hb,e⟩:=List.mem_filterMap.mp hp
 cases q:h.get? b with
 | none=>rw [q] at e;cases e
 | some o=>
  rw [q] at e;have e':(b,o)=p:=Option.some.inj e
  subst e'
  exact ⟨hb,q⟩
theorem Inv.pinned {pins:List (Addr×Obj)} {σ:St} {H:Hp} {s:Shared} {fp:List Addr} (I:Inv X pins σ H s) (hf:∀b∈fp,iT X pins H b) (ho:∀b∈fp,∃o,s.heap.get? b=some o/\∀v,o.data≠.cell v):Inv X (pins++DA fp s.heap) σ H s:=
 I.pins_of fun p hp=>(MG hp).elim (fun z=>I.pin p (ME _ z)) fun z=>by
  obtain ⟨hb,e⟩:=qD z;obtain ⟨f0,f1,f2,_⟩:=hf p.1 hb;obtain ⟨o,e',d⟩:=ho p.1 hb;rw [e] at e';cases e'
  exact ⟨e,f0,f1,f2,d⟩
theorem Inv.unpinned {pins pl:List (Addr×Obj)} {σ:St} {H:Hp} {s:Shared} (I:Inv X (pins++pl) σ H s):Inv X pins σ H s:=I.pins_of fun p hp=>I.pin p (ME _ (MF _ hp))
theorem HW {iter:Expr} {body:List Stmt} {wi:TI} {g:TG} {tb:TS} {pos:Pos} (hp:PassesOwn (model X.prog X.w) X.A X.env X.xe) (hc:X.calm=true) (hi:PI X tg iter wi) (hg:PG X tg g) (hb:PSs X body tb)
  (hs:∀x,foldedSetIterable iter X.env x=pure x:=by intro _;rfl):PS X (.For tg iter body [] pos) (wO wi g tb):=by
 intro pins s σ H D I h;refine wpAny_For (bx (hi pins s σ H _ I h) fun v s1 h1=>bx h1 fun itv s2 h2=>?_) hs
 obtain ⟨it,fp,tn,J,H2,e,I2,T,st2,f2,W,⟨m0,w0⟩,turn⟩:=h2;subst e;have stat:∀{H':Hp},(∀b∈fp,H' b=none)->∀b∈fp,iT X pins H' b:=fun hn b hb=>⟨hn b hb,(f2 b hb).2⟩
 refine codeAny_forLoop_any (fun n s'=>∃i σ' H',Inv X pins σ' H' s'/\tn i s'.heap/\(∀b∈fp,H' b=none)/\W i n σ' H') ?_ m0 ⟨0,σ,H2,I2,st2,fun b hb=>(f2 b hb).1,w0⟩
 rintro n s3 ⟨i,σ3,H3,I3,st3,fr3,w3⟩
 rcases turn i n σ3 H3 w3 with ⟨stop,qn⟩ | ⟨go,N,hN,step⟩
 ·refine wpAny_passesOwn hp (bx (T.done X rfl rfl rfl hc i pins s3 σ3 H3 X.xe I3 (stat fr3) st3 stop) fun r s4 ⟨hr,I4⟩=>?_)
  subst hr;exact wpAny_execs_nil ⟨σ3,H3,I4,qn⟩
 ·refine wpAny_passesOwn hp (bx (T.item X rfl rfl rfl hc i pins s3 σ3 H3 X.xe I3 (stat fr3) st3 go) fun r s4 ⟨u,hr,h4⟩=>?_)
  subst hr;refine wpAny_passesOwn hp (bx h4 fun _ s5 ⟨x,H5,I5,r5,y5,st5,fr5⟩=>?_)
  have I5':=I5.pinned (stat fr5) (T.obj _ _ st5)
  refine wpAny_passesOwn hp (bx (hg _ s5 σ3 H5 x u _ I5' r5 (step x H5 y5)) fun _ s6 ⟨σ6,H6,I6,q6⟩=>?_)
  refine wpAny_passesOwn hp (bx (hb _ s6 σ6 H6 _ I6 q6) fun f s7 q7=>?_)
  have again:∀{σ7:St} {H7:Hp},Inv X (pins++DA fp s5.heap) σ7 H7 s7->N σ7 H7->∃m,m<n/\∃i σ' H',Inv X pins σ' H' s7/\tn i s7.heap/\(∀b∈fp,H' b=none)/\W i m σ' H':=fun {σ7 H7} I7 n7=>by
   obtain ⟨m',hm,w7⟩:=hN σ7 H7 n7;refine ⟨m',hm,i+1,σ7,H7,I7.unpinned,T.keep _ _ _ st5 fun b hb o e=>(I7.pin (b,o) (ME _ (ME _ (G0 hb e)))).1,fun b hb=>?_,w7⟩
   obtain ⟨o,e,d⟩:=T.obj _ _ st5 b hb;exact (I7.pin (b,o) (ME _ (ME _ (G0 hb e)))).2.1
  cases f with
  | next=>obtain ⟨σ7,H7,I7,n7⟩:=q7;exact again I7 n7
  | cont=>obtain ⟨σ7,H7,I7,n7⟩:=q7;exact again I7 n7
  | brk=>obtain ⟨σ7,H7,I7,q7⟩:=q7;exact ⟨σ7,H7,I7.unpinned,q7⟩
  | ret v=>obtain ⟨x7,σ7,H7,I7,r7,q7⟩:=q7;exact ⟨x7,σ7,H7,I7.unpinned,r7,q7⟩
end
abbrev R2:=V->V->Hp->VK->Prop
def OpR (X:Cx) (f:Value->Value->Sem Value) (r:R2):Prop:=
 ∀(pins:List (Addr×Obj)) (s:Shared) (σ:St) (H:Hp) (x y:V) (v u:Value) (Q:VK),Inv X pins σ H s->RelV x v->RelV y u->r x y H Q ->
  wpAny (model X.prog X.w) X.A (f v u) (EP X pins σ Q) X.xe s
def LN (X:Cx) (f:Value->Sem Value) (r:V->Hp->VK->Prop):Prop:=
 ∀(pins:List (Addr×Obj)) (s:Shared) (σ:St) (H:Hp) (x:V) (v:Value) (Q:VK),Inv X pins σ H s->RelV x v->r x H Q ->
  wpAny (model X.prog X.w) X.A (f v) (EP X pins σ Q) X.xe s
def CallR (X:Cx) (f:Value) (r:List V->Hp->VK->Prop):Prop:=
 ∀(pins:List (Addr×Obj)) (s:Shared) (σ:St) (H:Hp) (xs:List V) (us:List Value) (Q:VK),Inv X pins σ H s->Vals xs us->r xs H Q ->
  wpAny (model X.prog X.w) X.A (call f us) (EP X pins σ Q) X.xe s
def KO (X:Cx) (r:V->Hp->(Bool->Hp->Prop)->Prop):Prop:=
 ∀(pins:List (Addr×Obj)) (s:Shared) (σ:St) (H:Hp) (x:V) (v:Value) (Q:Bool->Hp->Prop),Inv X pins σ H s->RelV x v->r x H Q ->
  wpAny (model X.prog X.w) X.A (truthy v) (TP X pins σ Q) X.xe s
def sV (r:R2) (ta tb:TE):TE:=fun σ H Q=>ta σ H fun x H1=>tb σ H1 fun y H2=>r x y H2 Q
def La (r:V->Hp->VK->Prop) (ta:TE):TE:=fun σ H Q=>ta σ H fun x H1=>r x H1 Q
def rI (C:Int->Int->Prop) (g:Int->Int->V):R2:=fun x y H Q=>∃i j,x=.int i/\y=.int j/\C i j/\Q (g i j) H
def oR (g:Int->Int->V):R2:=fun x y H Q=>∃i j,x=.int i/\y=.int j/\Q (g i j) H
section
variable {X:Cx} {a b c:Expr} {ta tb tc:TE} {pos:Pos}
theorem CQ (ha:PE X a ta) (hb:PE X b tb) {pins:List (Addr×Obj)} {s:Shared} {σ:St} {H:Hp} {R:V->V->Hp->Prop} (I:Inv X pins σ H s)
  (h:ta σ H fun x H1=>tb σ H1 fun y H2=>R x y H2) {Q:Value->Shared->Prop} {f:Value->Value->Sem Value}
  (hf:∀v u s2 x y H2,Inv X pins σ H2 s2->RelV x v->RelV y u->R x y H2->wpAny (model X.prog X.w) X.A (f v u) Q X.xe s2) :
  wpAny (model X.prog X.w) X.A (eval a X.env) (fun v s₁=>wpAny (model X.prog X.w) X.A (eval b X.env) (fun u s₂=>wpAny (model X.prog X.w) X.A (f v u) Q X.xe s₂) X.xe s₁) X.xe s:=by
 refine bx (ha pins s σ H _ I h) fun v s1 ⟨x,H1,I1,r1,q1⟩=>?_
 refine bx (hb pins s1 σ H1 _ I1 q1) fun u s2 ⟨y,H2,I2,r2,q2⟩=>?_
 exact hf v u s2 x y H2 I2 r1 r2 q2
theorem fm {op:Operator} {r:R2} (ho:OpR X (binaryOp op) r) (ha:PE X a ta) (hb:PE X b tb):PE X (.BinOp a op b pos) (sV r ta tb):=by
 intro pins s σ H Q I h;exact wpAny_BinOp (CQ ha hb I h fun v u s2 x y H2 I2 rx ry q=>ho pins s2 σ H2 x y v u Q I2 rx ry q)
theorem zu {op:UnaryOp} {r:V->Hp->VK->Prop} (ho:LN X (unaryOp op) r) (ha:PE X a ta):PE X (.UnaryOp op a pos) (La r ta):=by
 intro pins s σ H Q I h;exact UnaryOp_ (bx (ha pins s σ H _ I h) fun v s1 ⟨x,H1,I1,r1,q1⟩=>ho pins s1 σ H1 x v Q I1 r1 q1)
theorem Hr {f:Value->Value->Sem Value} {C:Int->Int->Prop} {g:Int->Int->Int}
  (rule:∀(i j:Int) (t u:Tok) (s:Shared) (Q:Value->Shared->Prop) (E:Value->Shared->Prop),C i j->Q (.int (g i j) s.toks) { s with toks:=s.toks+1 }->wpAny (model X.prog X.w) X.A (f (.int i t) (.int j u)) Q E s) :
  OpR X f (rI C fun i j=>.int (g i j)):=by
 intro pins s σ H x y v u Q I rx ry h;obtain ⟨i,j,rfl,rfl,hc,q⟩:=h;obtain ⟨t,rfl⟩:=rx;obtain ⟨t',rfl⟩:=ry;exact rule i j t t' s _ _ hc ⟨.int (g i j),H,I.tok _,⟨_,rfl⟩,q⟩
theorem EF {f:Value->Value->Sem Value} {g:Int->Int->Int}
  (rule:∀(i j:Int) (t u:Tok) (s:Shared) (Q:Value->Shared->Prop) (E:Value->Shared->Prop),Q (.int (g i j) s.toks) { s with toks:=s.toks+1 }->wpAny (model X.prog X.w) X.A (f (.int i t) (.int j u)) Q E s) :
  OpR X f (oR fun i j=>.int (g i j)):=by
 intro pins s σ H x y v u Q I rx ry h;obtain ⟨i,j,rfl,rfl,q⟩:=h;obtain ⟨t,rfl⟩:=rx;obtain ⟨t',rfl⟩:=ry;exact rule i j t t' s _ _ ⟨.int (g i j),H,I.tok _,⟨_,rfl⟩,q⟩
theorem xJ {f:Value->Value->Sem Value} {g:Int->Int->Bool}
  (rule:∀(i j:Int) (t u:Tok) (s:Shared) (Q:Value->Shared->Prop) (E:Value->Shared->Prop),Q (.bool (g i j)) s->wpAny (model X.prog X.w) X.A (f (.int i t) (.int j u)) Q E s) :
  OpR X f (oR fun i j=>.bl (g i j)):=by
 intro pins s σ H x y v u Q I rx ry h;obtain ⟨i,j,rfl,rfl,q⟩:=h;obtain ⟨t,rfl⟩:=rx;obtain ⟨t',rfl⟩:=ry;exact rule i j t t' s _ _ ⟨.bl (g i j),H,I,rfl,q⟩
def K3 (i j:Int):Prop:=0<j/\j<1073741824
def K1 (i j:Int):Prop:=0<=j/\j<=1000000/\i.natAbs<2 ^ 64
def CMul (i j:Int):Prop:=(-(2 ^ 64)<i/\i<2 ^ 64)\/(-(2 ^ 64)<j/\j<2 ^ 64)
theorem CMul.ok {i j:Int} (h:CMul i j):IntMulOk i j:=by
 rcases h with ⟨h1,h2⟩ | ⟨h1,h2⟩
 ·exact .of_left (intBits_le_64 h1 h2)
 ·exact .of_right (intBits_le_64 h1 h2)
theorem BL:OpR X (binaryOp .Add) (oR fun i j=>.int (i+j)):=EF fun _ _ _ _ _ _ _ q=>add_int q
theorem BC:OpR X (binaryOp .Sub) (oR fun i j=>.int (i-j)):=EF fun _ _ _ _ _ _ _ q=>sub_int q
theorem BG:OpR X (binaryOp .Mult) (rI CMul fun i j=>.int (i*j)):=Hr fun _ _ _ _ _ _ _ hc q=>mul_int q hc.ok
theorem xI:OpR X (binaryOp .FloorDiv) (rI K3 fun i j=>.int (i / j)):=Hr fun i j _ _ _ _ _ hc q=>by
 have h1:(0:Int)<j:=hc.1
 have h2:j<1073741824:=hc.2
 exact floordiv_int (by omega) (by rw [Int.fdiv_eq_ediv_of_nonneg i (by omega)];exact q) (.inl (PyProof.noPylong_small (by omega)))
theorem BH:OpR X (binaryOp .Mod) (rI (fun _ j=>0<j) fun i j=>.int (i % j)):=Hr fun i j _ _ _ _ _ hc q=>by
 have h1:(0:Int)<j:=hc
 exact mod_int' (by omega) (by rw [Int.fmod_eq_emod_of_nonneg i (by omega)];exact q)
theorem BE:OpR X (binaryOp .Pow) (rI K1 fun i j=>.int (i ^ j.toNat)):=Hr fun _ _ _ _ _ _ _ hc q=>pow_int_small hc.1 hc.2.1 hc.2.2 q
end
def scal:V->V->Bool
 | .non,.non=>true | .non,.int _=>true | .int _,.non=>true | .non,.bl _=>true | .bl _,.non=>true | .non,.str _=>true | .str _,.non=>true
 | .int _,.int _=>true | .bl _,.bl _=>true | .str _,.str _=>true | .byt _,.byt _=>true
 | .int _,.str _=>true | .str _,.int _=>true | .bl _,.str _=>true | .str _,.bl _=>true
 | _,_=>false
section
variable {X:Cx} {a b c:Expr} {ta tb tc:TE} {pos:Pos}
theorem Gm {pins:List (Addr×Obj)} {σ:St} {H:Hp} {s:Shared} {Q:VK} {k k':Bool} (I:Inv X pins σ H s) (q:Q (.bl k) H) (e:k=k'):EP X pins σ Q (.bool k') s:=by
 subst e;exact ⟨.bl k,H,I,rfl,q⟩
theorem op_lt:OpR X (compareOp .Lt) (oR fun i j=>.bl (decide (i<j))):=xJ fun _ _ _ _ _ _ _ q=>lt_int q
theorem EC:OpR X (compareOp .LtE) (oR fun i j=>.bl (decide (i<=j))):=xJ fun _ _ _ _ _ _ _ q=>le_int q
theorem ED:OpR X (compareOp .Gt) (oR fun i j=>.bl (decide (j<i))):=xJ fun _ _ _ _ _ _ _ q=>gt_int q
theorem op_ge:OpR X (compareOp .GtE) (oR fun i j=>.bl (decide (j<=i))):=xJ fun _ _ _ _ _ _ _ q=>ge_int q
theorem qA:OpR X (compareOp .Lt) (fun x y H Q=>∃i j,x=.str i/\y=.str j/\Q (.bl (decide (i.cps.toList<j.cps.toList))) H):=by
 intro pins s σ H x y v u Q I rx ry h;obtain ⟨i,j,rfl,rfl,q⟩:=h;obtain ⟨t,rfl⟩:=rx;obtain ⟨t',rfl⟩:=ry;exact lt_str (Gm I q rfl)
theorem BI:OpR X (compareOp .Is) (fun x y H Q=>y=.non/\Q (.bl (decide (x=.non))) H):=by
 intro pins s σ H x y v u Q I rx ry h;obtain ⟨rfl,q⟩:=h
 cases ry;refine is_none_gen (Gm I q ?_)
 cases x<;>first
  | (cases rx;rfl)
  | (obtain ⟨t,rfl⟩:=rx;rfl)
theorem xH:OpR X (compareOp .IsNot) (fun x y H Q=>y=.non/\Q (.bl (!decide (x=.non))) H):=by
 intro pins s σ H x y v u Q I rx ry h;obtain ⟨rfl,q⟩:=h
 cases ry;refine isnot_none_gen (Gm I q ?_)
 cases x<;>first
  | (cases rx;rfl)
  | (obtain ⟨t,rfl⟩:=rx;rfl)
theorem OpR.or {f:Value->Value->Sem Value} {r r':R2} (h:OpR X f r) (h':OpR X f r'):OpR X f (fun x y H Q=>r x y H Q\/r' x y H Q):=by
 intro pins s σ H x y v u Q I rx ry q;rcases q with q | q
 ·exact h pins s σ H x y v u Q I rx ry q
 ·exact h' pins s σ H x y v u Q I rx ry q
theorem xF {op:CmpOp} {r:R2} (ho:OpR X (compareOp op) r) (ha:PE X a ta) (hb:PE X b tb) (hm:behindInMarks op b=false):PE X (.Compare a [op] [b] pos) (sV r ta tb):=by
 intro pins s σ H Q I h;exact wpAny_Compare1 (CQ ha hb I h fun v u s2 x y H2 I2 rx ry q=>ho pins s2 σ H2 x y v u Q I2 rx ry q) hm
def sR (t:TE):TT:=fun σ H Q=>t σ H fun x H'=>∃k,x=.bl k/\Q k H'
theorem xv {op:CmpOp} {r:R2} (ho:OpR X (compareOp op) r) (ha:PE X a ta) (hb:PE X b tb) (hm:behindInMarks op b=false):PT X (.Compare a [op] [b] pos) (sR (sV r ta tb)):=by
 intro pins s σ H Q I h;refine wpAny_isTrue_Compare1 (bx (ha pins s σ H _ I h) fun v s1 ⟨x,H1,I1,r1,q1⟩=>bx (hb pins s1 σ H1 _ I1 q1) fun u s2 ⟨y,H2,I2,r2,q2⟩=>
  bx (ho pins s2 σ H2 x y v u _ I2 r1 r2 q2) fun c s3 ⟨z,H3,I3,r3,k,e,q3⟩=>?_) hm
 subst e
 cases r3;exact wpAny_truthy_bool ⟨H3,I3,q3⟩
def HY (r r':R2) (ta tb tc:TE):TE:=fun σ H Q=>ta σ H fun x H1=>tb σ H1 fun y H2=>r x y H2 fun z H3=>∃k,z=.bl k /\
 (if k=true then tc σ H3 fun w' H4=>r' y w' H4 Q else Q (.bl false) H3)
theorem uE {op op':CmpOp} {r r':R2} (ho:OpR X (compareOp op) r) (ho':OpR X (compareOp op') r') (ha:PE X a ta) (hb:PE X b tb) (hc:PE X c tc)
  (hm:lastMarks [op,op'] [b,c]=false:=by with_unfolding_all rfl):PE X (.Compare a [op,op'] [b,c] pos) (HY r r' ta tb tc):=by
 intro pins s σ H Q I h;refine Compare_chain (bx (ha pins s σ H _ I h) fun v s1 ⟨x,H1,I1,r1,q1⟩=>chain_link (bx (hb pins s1 σ H1 _ I1 q1) fun u s2 ⟨y,H2,I2,r2,q2⟩=>
  bx (ho pins s2 σ H2 x y v u _ I2 r1 r2 q2) fun d s3 ⟨z,H3,I3,r3,k,e,q3⟩=>?_)) hm
 subst e
 cases r3;refine wpAny_truthy_bool ?_
 cases k with
 | false=>exact ite_ff ⟨.bl false,H3,I3,rfl,q3⟩
 | true=>exact ite_tt (chain_last (bx (hc pins s3 σ H3 _ I3 q3) fun w' s4 ⟨z',H4,I4,r4,q4⟩=>ho' pins s4 σ H4 y z' u w' Q I4 r2 r4 q4))
theorem um {op op':CmpOp} {r r':R2} (ho:OpR X (compareOp op) r) (ho':OpR X (compareOp op') r') (ha:PE X a ta) (hb:PE X b tb) (hc:PE X c tc)
  (hm:lastMarks [op,op'] [b,c]=false:=by with_unfolding_all rfl):PT X (.Compare a [op,op'] [b,c] pos) (sR (HY r r' ta tb tc)):=by
 intro pins s σ H Q I h;refine isTrue_chain (bx (ha pins s σ H _ I h) fun v s1 ⟨x,H1,I1,r1,q1⟩=>test_link (bx (hb pins s1 σ H1 _ I1 q1) fun u s2 ⟨y,H2,I2,r2,q2⟩=>
  bx (ho pins s2 σ H2 x y v u _ I2 r1 r2 q2) fun d s3 ⟨z,H3,I3,r3,k,e,q3⟩=>?_)) hm
 subst e
 cases r3;refine wpAny_truthy_bool ?_
 cases k with
 | false=>
  obtain ⟨k',e',q'⟩:=q3
  cases e'
  exact ite_ff ⟨H3,I3,q'⟩
 | true=>
  refine ite_tt (test_last (bx (hc pins s3 σ H3 _ I3 q3) fun w' s4 ⟨z',H4,I4,r4,q4⟩=>bx (ho' pins s4 σ H4 y z' u w' _ I4 r2 r4 q4) fun d' s5 ⟨z2,H5,I5,r5,k2,e2,q5⟩=>?_))
  subst e2
  cases r5;exact wpAny_truthy_bool ⟨H5,I5,q5⟩
def yM (K:Fg) (x:V) (H:Hp) (k:Bool):Prop:=
 match x with
 | .non=>k=false
 | .bl b=>k=b
 | .int i=>k=(i != 0)
 | .str y=>y.length<=sizeLine/\k=((y.length:Int) != 0)
 | .byt y=>y.size<=sizeLine/\k=((y.size:Int) != 0)
 | .ref p=>(∃xs,SqL K H p xs/\k=!xs.isEmpty)\/(∃xs,SqT K H p xs/\k=!xs.isEmpty)\/∃kvs,H p=some (.dK kvs)/\k=!kvs.isEmpty
 | _=>False
theorem nu {κ:Type} {kvs:List (κ×V)} {vs:List (κ×Value)} (r:KV kvs vs):(!vs.isEmpty)=!kvs.isEmpty:=by
 cases r<;>rfl
theorem gU {xs:List V} {its:List Value} (r:Vals xs its):(!its.toArray.isEmpty)=!xs.isEmpty:=by
 cases r<;>simp
theorem yU:(sizeLine:Nat)<2 ^ 63:=by rw [sizeLine_eq];decide
theorem AB:KO X (fun x H Q=>∃k,yM X.K x H k/\Q k H):=by
 intro pins s σ H x v Q I rx h;obtain ⟨k,e,q⟩:=h;have hl:=yU
 have hs:sizeLine=16777216:=sizeLine_eq
 cases x with
 | non=>
  cases rx;have e':k=false:=e
  subst e'
  exact truthy_none ⟨H,I,q⟩
 | bl b=>
  cases rx;have e':k=b:=e
  subst e'
  exact wpAny_truthy_bool ⟨H,I,q⟩
 | int i=>
  obtain ⟨t,rfl⟩:=rx;have e':k=(i != 0):=e
  subst e'
  exact PySem.P.truthy_int ⟨H,I,q⟩
 | str y=>
  obtain ⟨t,rfl⟩:=rx;obtain ⟨hy,e'⟩:y.length<=sizeLine/\k=((y.length:Int) != 0):=e
  subst e'
  exact PySem.P.truthy_str (by omega) ⟨H,I.tok _,q⟩
 | byt y=>
  obtain ⟨t,rfl⟩:=rx;obtain ⟨hy,e'⟩:y.size<=sizeLine/\k=((y.size:Int) != 0):=e
  subst e'
  exact PySem.W.truthy_bytes (by omega) ⟨H,I.tok _,q⟩
 | ref p=>
  cases rx;have e':(∃xs,SqL X.K H p xs/\k=!xs.isEmpty)\/(∃xs,SqT X.K H p xs/\k=!xs.isEmpty)\/∃kvs,H p=some (.dK kvs)/\k=!kvs.isEmpty:=e
  rcases e' with ⟨xs,hx,e'⟩ | ⟨xs,hx,e'⟩ | ⟨kvs,hx,e'⟩
  ·subst e'
   obtain ⟨its,r,pl,hz⟩:=I.list hx;have hlen:=r.length
   exact wpAny_truthy_list pl.isList (by simp only [size_toArray];omega) ⟨H,I.tok _,by rw [gU r];exact q⟩
  ·subst e'
   obtain ⟨its,r,pl,hz⟩:=I.tuple hx;have hlen:=r.length
   exact truthy_tuple pl (by simp only [size_toArray];omega) ⟨H,I.tok _,by rw [gU r];exact q⟩
  ·subst e'
   obtain ⟨hz,hS,vs,r,m⟩:kvs.length<=sizeLine/\(p==sysModules)=false/\∃vs,KV kvs vs/\s.heap.DictOf (iV X.prog X.w) p vs:=I.hok p _ hx
   have hlen:kvs.length=vs.length:=Paired.length r
   exact wpAny_truthy_dict hS m (by omega) ⟨H,I.tok _,by rw [nu r];exact q⟩
 | _=>exact (show False from e).elim
theorem II (ha:PE X a ta) (he:∀whole,isTrue a X.env whole=(do let v <-whole;standAt a.pos;holding [v] (truthy v))) :
  PT X a (fun σ H Q=>ta σ H fun x H'=>∃k,yM X.K x H' k/\Q k H'):=by
 intro pins s σ H Q I h;exact isTrue_plain (bx (ha pins s σ H _ I h) fun v s1 ⟨x,H1,I1,r1,q1⟩=>AB pins s1 σ H1 x v Q I1 r1 q1) (he _)
theorem vals1 {x:V} {us:List Value} (r:Vals [x] us):∃u,us=[u]/\RelV x u:=by
 cases r with
 | cons r1 r2=>cases r2;exact ⟨_,rfl,r1⟩
theorem rP:CallR X (.type "int") (fun xs H Q=>(∃i,xs=[.int i]/\Q (.int i) H)\/∃k,xs=[.bl k]/\Q (.int (if k then 1 else 0)) H):=by
 intro pins s σ H xs us Q I r h;rcases h with ⟨i,rfl,q⟩ | ⟨k,rfl,q⟩
 ·obtain ⟨u,rfl,t,rfl⟩:=vals1 r
  exact call_int_int ⟨.int i,H,I,⟨_,rfl⟩,q⟩
 ·obtain ⟨u,rfl,r1⟩:=vals1 r
  cases r1;exact call_int_bool ⟨.int (if k then 1 else 0),H,I.tok _,⟨_,rfl⟩,q⟩
end
structure Mv (h:Heap) (x dx C:Addr) (mA:Str->Option Value):Prop where
 obj:h.get? x=some (PySem.W.instObj C dx)
 ns:h.Ns1 dx mA
 ne:dx≠x
theorem RelO.some_of {v:V} {o:Option Value} (r:RelO (some v) o):∃u,o=some u/\RelV v u:=by
 cases o with
 | none=>exact (show False from r).elim
 | some u=>exact ⟨u,rfl,r⟩
structure MA (K:Fg) (C:Addr):Prop where
 pg:PySem.W.plainGet K C Str.empty=true
 hd:PySem.W.hasDictIn K C=true
 po:PySem.W.plainOver K C=true
 sa:PySem.W.findIn K (.ref C) "__setattr__"=some (some (.builtin "object.__setattr__"))
structure Con (K:Fg) (C:Addr) (f:Str) (v:V) (u:Value):Prop where
 at_:PySem.W.findIn K (.ref C) f=some (some u)
 rel:RelV v u
 get:PySem.W.specialIn K u "__get__"=some none
 cp:PySem.W.copiedNames.contains f=false
structure Mw (K:Fg) (C:Addr) (m:Str) (f:Addr):Prop where
 at_:PySem.W.findIn K (.ref C) m=some (some (.ref f))
 fn:PySem.W.isFn K (.ref f)=true
 kp:PySem.W.keepIn K (.ref f)=true
section
variable {X:Cx} {pins:List (Addr×Obj)} {σ:St} {H:Hp} {s:Shared} {A:Around} {E:Value->Shared->Prop} {Q:Value->Shared->Prop} {c:Value} {b:Bool}
inductive ib (K:Fg) (H:Hp):V->Value->Prop where
 | non:ib K H .non (.type "NoneType")
 | bl (x:Bool):ib K H (.bl x) (.type "bool")
 | int (i:Int):ib K H (.int i) (.type "int")
 | str (x:Str):ib K H (.str x) (.type "str")
 | flt (x:UInt64):ib K H (.flt x) (.type "float")
 | lst {a:Addr} {xs:List V} (e:H a=some (.lst xs)):ib K H (.ref a) (.type "list")
 | frz {a:Addr} {o:Obj} {xs:List V} (e:H a=some (.frz o (.lst xs))):ib K H (.ref a) (.type "list")
 | tup {a:Addr} {xs:List V} (e:H a=some (.tup xs)):ib K H (.ref a) (.type "tuple")
 | dK {a:Addr} {kvs:List (bJ×V)} (e:H a=some (.dK kvs)):ib K H (.ref a) (.type "dict")
 | dT {a:Addr} {kvs:List (List bJ×V)} (e:H a=some (.dT kvs)):ib K H (.ref a) (.type "dict")
 | ins {a C dx:Addr} {fs:List (Str×V)} (e:H a=some (.ins C dx fs)) (cl:MA K C) (ha:PySem.W.findIn K (.ref C) "__class__"=some (some (.builtin "object.__class__")))
   (hn:PySem.W.specialIn K (.builtin "object.__class__") "__get__"=some (some (.builtin "getset_descriptor.__get__"))) (htk:PySem.W.takesIn K (.builtin "object.__class__")=some true)
   (hm:PySem.W.mroIn K C (.type "object")=some true):ib K H (.ref a) (.ref C)
end
structure Room (k:Nat) (A:Around):Prop where
 hd:A.handled=none
 dp:A.depth+3*k+5<recursionLimit
 un:A.units+16*k+200<cLine
 gd:A.guards=some []
theorem Room.mono {j k:Nat} {A:Around} (r:Room k A) (h:j<=k):Room j A:=⟨r.hd,by have:=r.dp;omega,by have:=r.un;omega,r.gd⟩
theorem Room.deeper {k:Nat} {A:Around} (r:Room (k+1) A) (env:Env):Room k (A.deeper env):=
 ⟨r.hd,by have:=r.dp;show A.depth+1+3*k+5<_;omega,by have:=r.un;show A.units+3+16*k+200<_;omega,r.gd⟩
theorem Room.depth {k:Nat} {A:Around} (r:Room k A):A.depth<recursionLimit:=by have:=r.dp;omega
theorem Room.units {k:Nat} {A:Around} (r:Room k A):A.units+64<cLine:=by have:=r.un;omega
def fD:TA:=fun _ H Q=>Q [] H
def cH (ta:TE) (tr:TA):TA:=fun σ H Q=>ta σ H fun x H1=>tr σ H1 fun xs H2=>Q (x::xs) H2
section
variable {X:Cx} {e:Expr} {es:List Expr} {te:TE} {t:TA} {pos:Pos}
theorem nX:PA X [] fD:=fun _ _ _ _ H Q I h=>Calls.spliced_nil ⟨[],H,I,.nil,h⟩
theorem iY (ha:PE X e te) (hr:PA X es t) (hs:starEach (e::es) X.env=(false,eval e X.env)::starEach es X.env:=by rfl):PA X (e::es) (cH te t):=by
 intro pos pins s σ H Q I h;rw [hs];show wpAny _ _ (spliced ((false,eval e X.env)::backTo pos (starEach es X.env))) _ _ s
 refine Calls.spliced_cons (bx (ha pins s σ H _ I h) fun u s1 ⟨x,H1,I1,r1,q1⟩=>?_)
 exact bx (hr pos pins s1 σ H1 _ I1 q1) fun us s2 ⟨xs,H2,I2,r2,q2⟩=>⟨x::xs,H2,I2,.cons r1 r2,q2⟩
def AC (t:TA):TE:=fun σ H Q=>t σ H fun xs H1=>xs.length<=sizeLine/\∀p,H1 p=none->Q (.ref p) (bF H1 p (.tup xs))
def AF (t:TA):TE:=fun σ H Q=>t σ H fun xs H1=>xs.length<=sizeLine/\∀p,H1 p=none->Q (.ref p) (bF H1 p (.lst xs))
theorem uA {x1} (h:PA X es t):PE X (.Tuple es x1 pos) (AC t):=by
 intro pins s σ H Q I hq;refine wpAny_Tuple_spliced (bx (h pos pins s σ H _ I hq) fun us s1 ⟨xs,H1,I1,r,z,q⟩=>⟨by rw [<-r.length];exact z,?_⟩)
 have hf:H1 s1.heap.objs.size=none:=I1.hok.fresh (MQ _)
 refine ⟨.ref s1.heap.objs.size,bF H1 s1.heap.objs.size (.tup xs),I1.laid (t':=s1.toks) (fun b u e=>MP _ e) (MQ _) ?_,rfl,q _ hf⟩
 exact ⟨z,us,r,⟨_,Heap.get?_push_size _ rfl,rfl,_,rfl⟩⟩
theorem HU (h:PA X es t):PE X (.List es pos) (AF t):=by
 intro pins s σ H Q I hq;refine wpAny_List_spliced (bx (h pos pins s σ H _ I hq) fun us s1 ⟨xs,H1,I1,r,z,q⟩=>⟨by rw [<-r.length];exact z,?_⟩)
 have hf:H1 s1.heap.objs.size=none:=I1.hok.fresh (MQ _)
 refine ⟨.ref s1.heap.objs.size,bF H1 s1.heap.objs.size (.lst xs),I1.laid (t':=s1.toks) (fun b u e=>MP _ e) (MQ _) ?_,rfl,q _ hf⟩
 exact ⟨z,us,0,r,Heap.get?_push_size _ rfl⟩
end
abbrev Sp:=List V->Hp->VK->XK->Prop
abbrev pN:=List Env->Hp->Shared->XK->Value->Shared->Prop
structure rV (P:Program) (w:World) (K:Fg) (mg:Str->Option Value) (base:Heap) (A:Around) (outer:List Env) (s:Shared) (H:Hp):Prop where
 frames:A.frames=some outer
 mod:Mod K mg base
 bs:∀b o,base.get? b=some o->s.heap.get? b=some o/\H b=none
 bsz:base.objs.size<=s.heap.objs.size
 funs:s.heap.FunFrames base outer
 frf:∀b∈fI outer,H b=none
 hok:HOk P w H s.heap
 bare:AllBare s.gens
def CE (outer:List Env) (P:Program) (w:World) (H:Hp) (s:Shared) (Q:VK) (u:Value) (s':Shared):Prop:=
 ∃v H',s'.os=s.os/\AllBare s'.gens/\Un (fI outer) [] H H' s.heap s'.heap/\HOk P w H' s'.heap/\RelV v u/\Q v H'
def CR (CX:pN) (outer:List Env) (P:Program) (w:World) (H:Hp) (s:Shared) (Q:VK) (E:XK) (r:Result) (s':Shared):Prop:=
 match r with
 | .ok (.ret u)=>CE outer P w H s Q u s'
 | .ok _=>False
 | .error e=>CX outer H s E e s'
structure dg (P:Program) (w:World) (K:Fg) (mg:Str->Option Value) (base:Heap) (CX:pN) (k:Nat) (f:Addr) (fd:FuncData) (ps:List Str) (sp:Sp):Prop where
 len:∀vs H Q E,sp vs H Q E->vs.length=ps.length
 run:∀(A:Around) (outer:List Env) (s:Shared) (H:Hp) (args:Args) (us:List Value) (vs:List V) (Q:VK) (E:XK),Room k A->rV P w K mg base A outer s H->BindsTo s fd args (ps.zip us)->Vals vs us->sp vs H Q E ->
  codeAny (model P w) A (.call (.ref f) args) (CR CX outer P w H s Q E) s
section
variable {X:Cx} {pins:List (Addr×Obj)} {σ:St} {H:Hp} {s s':Shared}
theorem Inv.env0 (I:Inv X pins σ H s):rV X.prog X.w X.K X.mg X.base X.A X.stack s H:=
 ⟨I.ok.frames,I.ok.mod,I.bs,Nat.le_trans I.ok.bsz I.sz,I.stack,I.stkFree,I.hok,I.bare⟩
theorem Inv.after {Q:VK} {u:Value} (I:Inv X pins σ H s) (h:CE X.stack X.prog X.w H s Q u s'):EP X pins σ Q u s':=by
 obtain ⟨v,H',os,bare,un,hok,r,q⟩:=h;obtain ⟨hh,g,d,t,os'⟩:=s'
 obtain rfl:os'=s.os:=os
 exact ⟨v,H',I.call (h':=hh) (g':=g) (d':=d) (t':=t) (ch:=[]) un hok bare (fun b z=>absurd z (by simp)),r,q⟩
end
def kz (sp:Sp) (dvs:List V) (E:XK) (t:TA):TE:=fun σ H Q=>t σ H fun vs H1=>sp (vs++dvs) H1 Q E
def Binds (K:Fg) (fd:FuncData) (ps:List Str) (ds:List Value):Prop:=
 ∀(s:Shared) (us:List Value),K.In s.heap->(us++ds).length=ps.length->BindsTo s fd ⟨us,[]⟩ (ps.zip (us++ds))
theorem Binds.all {K:Fg} {fd:FuncData} {ps:List Str} (h:∀us:List Value,us.length=ps.length->bindArgs fd ⟨us,[]⟩=pure (ps.zip us)):Binds K fd ps []:=fun s us _ hl=>by
 rw [append_nil] at hl ⊢;exact .of_eq (h us hl)
def Gh (CX:pN) (X:Cx) (E:XK):Prop:=∀(pins:List (Addr×Obj)) (σ:St) (H:Hp) (s:Shared) (e:Value) (s':Shared),Inv X pins σ H s->CX X.stack H s E e s'->X.xe e s'
section
variable {X:Cx} {CX:pN} {k:Nat} {f C:Addr} {fd:FuncData} {ps:List Str} {sp:Sp} {dvs:List V} {ds:List Value} {E:XK} {x m:Str} {p pos apos:Pos} {e o:Expr} {es:List Expr} {ta:TE} {t:TA}
theorem AU {pins:List (Addr×Obj)} {σ:St} {H:Hp} {s:Shared} {Q:VK} {us:List Value} {vs:List V} (F:dg X.prog X.w X.K X.mg X.base CX k f fd ps sp) (hr:Room k X.A) (hb:Binds X.K fd ps ds) (hd:Vals dvs ds) (hx:Gh CX X E)
  (I:Inv X pins σ H s) (r:Vals vs us) (h:sp (vs++dvs) H Q E):wpAny (model X.prog X.w) X.A (call (.ref f) us) (EP X pins σ Q) X.xe s:=by
 have r2:Vals (vs++dvs) (us++ds):=r.append hd
 have hl:(us++ds).length=ps.length:=by rw [<-r2.length];exact F.len _ _ _ _ h
 refine wpAny_call (codeAny_mono (F.run X.A X.stack s H ⟨us,[]⟩ (us++ds) (vs++dvs) Q E hr I.env0 (hb s us I.kIn hl) r2 h) fun r s' hq=>?_)
 cases r with
 | error e=>exact hx pins σ H s e s' I hq
 | ok fl=>
  cases fl with
  | ret u=>exact I.after hq
  | next=>exact False.elim hq
  | brk=>exact False.elim hq
  | cont=>exact False.elim hq
theorem Il (F:dg X.prog X.w X.K X.mg X.base CX k f fd ps sp) (hr:Room k X.A) (hg:Gl X x) (hm:X.mg x=some (.ref f)) (hk:PySem.W.keepIn X.K (.ref f)=true) (hb:Binds X.K fd ps ds) (hd:Vals dvs ds) (hx:Gh CX X E)
  (ha:PA X (e::es) t) (hdb:(x==("__debug__":Str))=false:=by decide) (he:starEach (e::es) X.env=(false,eval e X.env)::starEach es X.env:=by rfl) (hpl:(backTo pos (starEach es X.env)).any (·.1)=false:=by rfl) :
  PE X (.Call (.Name x p) (e::es) [] pos) (kz sp dvs E t):=by
 intro pins s σ H Q I h;refine wpAny_Call_Name_kw (DF I hg hm ?_ hdb)
 refine PySem.W.callWith_K (h₀:=X.base) I.ok.mod.kin hk (bx (ha pos pins s σ H _ I h) fun us s1 ⟨vs,H1,I1,r,q⟩=>⟨I1.kIn,?_⟩) he hpl
 exact AU F hr hb hd hx I1 r q
structure Mk (K:Fg) (C f:Addr):Prop where
 makes:PySem.W.makesIn K C=true
 init:PySem.W.findIn K (.ref C) "__init__"=some (some (.ref f))
 fn:PySem.W.isFn K (.ref f)=true
 kp:PySem.W.keepIn K (.ref C)=true
end
section
variable {X:Cx} {CX:pN} {k:Nat} {f C:Addr} {fd:FuncData} {ps ks:List Str} {sp:Sp} {E:XK} {x m:Str} {p pos apos kpos:Pos} {e o:Expr} {es:List Expr} {kws:List Keyword} {te ta:TE} {t tk:TA} {nm:Option Str}
structure KW (K:Fg) (fd:FuncData) (ps ks:List Str) (g:List Value->List Value->List Value) (gV:List V->List V->List V):Prop where
 to:∀(s:Shared) (us ws:List Value),K.In s.heap->(g us ws).length=ps.length->BindsTo s fd ⟨us,ks.zip ws⟩ (ps.zip (g us ws))
 rel:∀{vs:List V} {us:List Value} {zs:List V} {ws:List Value},Vals vs us->Vals zs ws->Vals (gV vs zs) (g us ws)
variable {g:List Value->List Value->List Value} {gV:List V->List V->List V}
end
structure bL (N P:List Str) (sc:Scope):Prop where
 kind:sc.kind=.function
 co:sc.isCoroutine=false
 gen:sc.isGenerator=false
 nd:N.Nodup
 pre:N.take P.length=P
 par:∀x∈P,sc.names.lookup x=some .local\/sc.names.lookup x=some .cell
 nofree:∀y∈sc.names,y.2≠.free
theorem jy {kindOf:Str->Option NameKind} {x:Str}:∀{binds:List (Str×Value)} {m:Str->Option Value},(∀v,(x,v)∉binds)->bindL kindOf binds m x=m x
 | [],_,_=>rfl
 | (n,v)::r,m,h=>by
  unfold bindL;rw [jy fun w hw=>h w (MK _ hw)]
  split
  ·have:x≠n:=by rintro rfl;exact h v mem_cons_self
   simp [this]
  ·rfl
theorem jA {kindOf:Str->Option NameKind} {x:Str}:∀{binds:List (Str×Value)} {m:Str->Option Value},(∀v,(x,v)∉binds)->bindC kindOf binds m x=m x
 | [],_,_=>rfl
 | (n,v)::r,m,h=>by
  unfold bindC;rw [jA fun w hw=>h w (MK _ hw)]
  split
  ·rfl
  ·have:x≠n:=by rintro rfl;exact h v mem_cons_self
   simp [this]
theorem jz {kindOf:Str->Option NameKind} {x:Str} {v:Value}:∀{P:List Str} {vs:List Value} {i:Nat} {m:Str->Option Value},P.Nodup->P[i]?=some x->vs[i]?=some v->kindOf x=some .local ->
  bindL kindOf (P.zip vs) m x=some v
 | [],_,_,_,_,h,_,_=>by simp at h
 | _::_,[],_,_,_,_,h,_=>by simp at h
 | p::P,w::vs,0,m,nd,h1,h2,hk=>by
  simp at h1 h2;subst h1;subst h2;show bindL kindOf ((p,w)::P.zip vs) m p=_
  unfold bindL;rw [jy fun v hv=>(List.nodup_cons.mp nd).1 (of_mem_zip hv).1,if_pos hk]
  simp
 | p::P,w::vs,i+1,m,nd,h1,h2,hk=>by
  show bindL kindOf ((p,w)::P.zip vs) m x=_
  unfold bindL;exact jz (i:=i) (List.nodup_cons.mp nd).2 (by simpa using h1) (by simpa using h2) hk
theorem jB {kindOf:Str->Option NameKind} {x:Str} {v:Value}:∀{P:List Str} {vs:List Value} {i:Nat} {m:Str->Option Value},P.Nodup->P[i]?=some x->vs[i]?=some v->kindOf x≠some .local ->
  bindC kindOf (P.zip vs) m x=some v
 | [],_,_,_,_,h,_,_=>by simp at h
 | _::_,[],_,_,_,_,h,_=>by simp at h
 | p::P,w::vs,0,m,nd,h1,h2,hk=>by
  simp at h1 h2;subst h1;subst h2;show bindC kindOf ((p,w)::P.zip vs) m p=_
  unfold bindC;rw [jA fun v hv=>(List.nodup_cons.mp nd).1 (of_mem_zip hv).1,if_neg hk]
  simp
 | p::P,w::vs,i+1,m,nd,h1,h2,hk=>by
  show bindC kindOf ((p,w)::P.zip vs) m x=_
  unfold bindC;exact jB (i:=i) (List.nodup_cons.mp nd).2 (by simpa using h1) (by simpa using h2) hk
def start (N:List Str) (vs:List V):St:=vs.map some++List.replicate (N.length-vs.length) none
def et (CX:pN) (P:Program) (w:World) (K:Fg) (mg:Str->Option Value) (base:Heap) (N:List Str) (qual:Str) (scope:Scope) (f:Addr) (cd:Value) (A:Around) (outer:List Env) (s:Shared) (H:Hp) (E:XK):Cx where
 prog:=P
 w:=w
 K:=K
 mg:=mg
 base:=base
 A:=A.deeper (envOfC qual scope s.heap.objs.size f cd)
 N:=N
 s₀:=s
 H₀:=H
 env:=envOfC qual scope s.heap.objs.size f cd
 outer:=outer
 stack:=envOfC qual scope s.heap.objs.size f cd::outer
 ex:=[]
 calm:=true
 fn:=fun _=>true
 pn:=[]
 xe:=fun e s'=>wpAny (model P w) (A.deeper (envOfC qual scope s.heap.objs.size f cd)) (leaving (envOfC qual scope s.heap.objs.size f cd) e) (fun _ s''=>CX outer H s E e s'') (fun e' s''=>CX outer H s E e' s'') s'
theorem mf {sc:Scope} {n:Nat} {x:Str} (h:sc.names.lookup x=some .cell):∃c,(cellsFrom n sc.names []).lookup x=some c:=by
 have q:=PySem.W.cellsFrom_some sc.names n [] (.inl h)
 exact Option.isSome_iff_exists.mp q
theorem jn {CX:pN} {P:Program} {w:World} {K:Fg} {mg:Str->Option Value} {base:Heap} {N ps:List Str} {qual:Str} {scope:Scope} {f:Addr} {cd:Value} {A:Around} {outer:List Env} {s s1:Shared} {H:Hp} {E:XK} {us:List Value} {vs:List V}
  (S:bL N ps scope) (hd:A.handled=none) (e0:rV P w K mg base A outer s H) (hl:vs.length=ps.length) (r:Vals vs us)
  (x:InCallC s s.heap.objs.size (bindL (envOfC qual scope s.heap.objs.size f cd).kindOf (ps.zip us) fun _=>none) (cellsFrom (s.heap.objs.size+1) scope.names []) (bindC (envOfC qual scope s.heap.objs.size f cd).kindOf (ps.zip us) fun _=>none) s1) :
  Inv (et CX P w K mg base N qual scope f cd A outer s H E) [] (start N vs) H s1:=by
 have hpl:ps.length<=N.length:=by have:=congrArg List.length S.pre;rw [length_take] at this;omega
 obtain ⟨h1,tk,rfl,hk⟩:=x.done;have noA:∀b:Addr,b∉(et CX P w K mg base N qual scope f cd A outer s H E).ex:=fun b z=>absurd (show b∈([]:List Addr) from z) (by simp)
 refine ⟨⟨e0.mod,S.kind,rfl,rfl,MQ _,fun y z c h1 h2=>?_,fun y hy=>?_,fun y c _ h=>?_,fun _=>hd,Around.frames_deeper e0.frames,.inr ⟨rfl,rfl⟩,fun b z=>absurd z (noA b),e0.bs,e0.bsz,fun b _ _=>noA b,fun b z=>absurd z (noA b),e0.funs,e0.frf⟩,
  rfl,e0.bare,Un.kept hk,⟨_,x.toInCall.ns,fun i y v h1 h2 h3=>?_⟩,fun y c h=>⟨_,x.cell y c h⟩,e0.hok.fresh (MQ _),fun y c h=>?_,fun p hp=>absurd (show p∈([]:List (Addr×Obj)) from hp) (by simp),e0.hok.kept hk,?_⟩
 ·exact name_of_addr x.apart (PySem.mem_of_lookup h1) (PySem.mem_of_lookup h2)
 ·have hy:scope.names.lookup y=some .cell\/scope.names.lookup y=some .free:=hy
  rcases hy with hy | hy
  ·exact mf hy
  ·exact absurd rfl (S.nofree _ (PySem.mem_of_lookup hy))
 ·exact Nat.le_of_lt (x.above y c (PySem.mem_of_lookup h))
 ·have hi:i<vs.length:=by
   unfold start at h2;by_cases hi:i<vs.length
   ·exact hi
   ·rw [getElem?_append_right (by simpa using hi)] at h2
    rw [getElem?_replicate] at h2;split at h2<;>cases h2
  have ha:vs[i]?=some v:=by
   unfold start at h2;rw [getElem?_append_left (by simpa using hi),getElem?_map] at h2
   cases e:vs[i]? with
   | none=>rw [e] at h2;cases h2
   | some a=>rw [e] at h2;cases h2;rfl
  obtain ⟨u,hu,rv⟩:=r.get ha;have hp:ps[i]?=some y:=by
   rw [<-S.pre,List.getElem?_take_of_lt (by omega)];exact h1
  have ndP:ps.Nodup:=by rw [<-S.pre];exact S.nd.sublist (List.take_sublist _ _)
  refine ⟨u,rv,?_⟩
  rcases S.par y (mem_of_getElem? hp) with k | k
  ·exact .inl ⟨k,jz ndP hp hu k⟩
  ·obtain ⟨c,e⟩:=mf (n:=s.heap.objs.size+1) k
   refine .inr ⟨.inl k,c,e,?_⟩
   have q:=x.cell y c e
   rw [jB ndP hp hu (by show scope.names.lookup y≠_;rw [k];decide)] at q
   exact q
 ·exact e0.hok.fresh (Nat.le_of_lt (x.above y c (PySem.mem_of_lookup h)))
 ·unfold start
  show _=N.length
  rw [length_append,length_map,List.length_replicate];omega
theorem zH {CX:pN} {P:Program} {w:World} {K:Fg} {mg:Str->Option Value} {base:Heap} {k:Nat} {f:Addr} {name qual:Str} {params:Arguments} {body:List Stmt} {scope:Scope} {dV kV doc pm cdv ct oc:Value} {an od:Option Addr}
  {osl:Array (Option Value)} {N ps:List Str} {sp:Sp} (lk:K.lookup f=some ⟨oc,od,.func (PySem.W.fnOf name qual params body scope dV kV doc pm an cdv ct),osl⟩) (hcd:PySem.W.codeIn K cdv qual=true) (S:bL N ps scope)
  (len:∀vs H Q E,sp vs H Q E->vs.length=ps.length)
  (hbody:∀(A:Around) (outer:List Env) (s:Shared) (H:Hp) (vs:List V) (Q:VK) (E:XK),Room k (A.deeper (envOfC qual scope s.heap.objs.size f cdv))->sp vs H Q E ->
   ∃t,PSs (et CX P w K mg base N qual scope f cdv A outer s H E) body t/\t { nx:=fun _ H'=>Q .non H',rt:=Q } (start N vs) H) :
  dg P w K mg base CX (k+1) f (PySem.W.fnOf name qual params body scope dV kV doc pm an cdv ct) ps sp:=by
 refine ⟨len,fun A outer s H args us vs Q E hr e0 hb r hsp=>?_⟩
 have hl:=len _ _ _ _ hsp
 have KX:K.In s.heap:=e0.mod.kin.keeps fun b o e=>(e0.bs b o e).1
 have lim:s.heap.NoLimit:=e0.mod.nolimit.keeps fun b o e=>(e0.bs b o e).1
 have hkind:∀y∈ps.zip us,scope.names.lookup y.1=some .local\/(scope.names.lookup y.1=some .cell/\((cellsFrom (s.heap.objs.size+1) scope.names []).lookup y.1).isSome=true):=fun ⟨n,v⟩ hy=>by
  rcases S.par n (of_mem_zip hy).1 with q | q
  ·exact .inl q
  ·exact .inr ⟨q,PySem.W.cellsFrom_some _ _ _ (.inl q)⟩
 refine codeAny_call_function hr.depth (KX _ _ lk) rfl S.co S.gen rfl (PySem.W.codeRec_of KX hcd) (hb _ _ _ _ ?_)
 refine wpAny_newFunctionEnv_cells S.kind hkind fun env he s1 x=>?_
 subst he;refine ⟨lim.keeps x.toInCall.keep,codeAny_func ?_⟩
 obtain ⟨t,ht,hq⟩:=hbody A outer s H vs Q E (hr.deeper _) hsp;have I:Inv (et CX P w K mg base N qual scope f cdv A outer s H E) [] (start N vs) H s1:=jn S hr.hd e0 hl r x
 refine wpAny_mono (ht [] s1 (start N vs) H _ I hq) (fun fl s' hs=>?_) fun e s' hs=>hs
 have fin:∀{σ':St} {H':Hp} {v:V} {u:Value},Inv (et CX P w K mg base N qual scope f cdv A outer s H E) [] σ' H' s'->RelV v u->Q v H'->CE outer P w H s Q u s':=
  fun {σ' H' v u} J rv q=>⟨v,H',J.os,J.bare,J.base,J.hok,rv,q⟩
 cases fl with
 | ret u=>
  obtain ⟨v,σ',H',J,rv,q⟩:=hs;exact fin J rv q
 | next=>
  obtain ⟨σ',H',J,q⟩:=hs;exact fin (v:=V.non) (u:=Value.none) J rfl q
 | brk=>
  obtain ⟨_,_,_,q⟩:=hs;exact False.elim q
 | cont=>
  obtain ⟨_,_,_,q⟩:=hs;exact False.elim q
section
variable {X:Cx} {x:Str} {p pos:Pos} {e:Expr} {es:List Expr} {t:TA} {id T:String} {r:List V->Hp->VK->Prop}
def AH (r:List V->Hp->VK->Prop) (t:TA):TE:=fun σ H Q=>t σ H fun vs H1=>r vs H1 Q
theorem DL (hc:CallR X (.builtin id) r) (hg:Gl X x) (hm:X.mg x=none) (hv:bootBuiltins x=some (.builtin id)) (ha:PA X (e::es) t) (hn:x ≠ "__name__":=by decide) (hdb:(x==("__debug__":Str))=false:=by decide)
  (he:starEach (e::es) X.env=(false,eval e X.env)::starEach es X.env:=by rfl) (hpl:(backTo pos (starEach es X.env)).any (·.1)=false:=by rfl):PE X (.Call (.Name x p) (e::es) [] pos) (AH r t):=by
 intro pins s σ H Q I h;refine wpAny_Call_Name_kw (vY I hg hm hv ?_ hn hdb)
 exact PyProof.Rows.callWith_builtin1 (bx (ha pos pins s σ H _ I h) fun us s1 ⟨vs,H1,I1,r1,q1⟩=>hc pins s1 σ H1 vs us Q I1 r1 q1) he hpl
theorem jc (hc:CallR X (.type T) r) (hg:Gl X x) (hm:X.mg x=none) (hv:bootBuiltins x=some (.type T)) (ha:PA X (e::es) t) (hn:x ≠ "__name__":=by decide) (hdb:(x==("__debug__":Str))=false:=by decide)
  (he:starEach (e::es) X.env=(false,eval e X.env)::starEach es X.env:=by rfl) (hpl:(backTo pos (starEach es X.env)).any (·.1)=false:=by rfl):PE X (.Call (.Name x p) (e::es) [] pos) (AH r t):=by
 intro pins s σ H Q I h;refine wpAny_Call_Name_kw (vY I hg hm hv ?_ hn hdb)
 exact PyProof.Rows.callWith_type1 (bx (ha pos pins s σ H _ I h) fun us s1 ⟨vs,H1,I1,r1,q1⟩=>hc pins s1 σ H1 vs us Q I1 r1 q1) he hpl
end
end L2
namespace HT
open PySem PyProof.Rows
section
open PySem.SeqAt
open PySem.AutoSeq1 (wpAny_loadPart')
open PySem.MeetsSeq PySem.MeetsSeq2 PySem.MeetsSeq3
end
section
variable {prog:Program} {w:World} {A:Around} {E:Value->Shared->Prop} {s:Shared}
def sIx (n d:Nat):Option Int->Nat
 | none=>d
 | some v=>if v<0 then (v+(n:Int)).toNat else min v.toNat n
theorem sIx_none (n d:Nat):sIx n d none=d:=rfl
theorem sIx_nat (n d k:Nat):sIx n d (some (k:Int))=min k n:=by
 show (if (k:Int)<0 then ((k:Int)+(n:Int)).toNat else min (k:Int).toNat n)=min k n
 rw [if_neg (by omega),Int.toNat_natCast]
end
end HT
namespace L2
open PySem PySem.Spec PyProof.Rows
abbrev TO:=St->Hp->(Option Int->Hp->Prop)->Prop
def PO (X:Cx) (e:Option Expr) (t:TO):Prop:=
 ∀(pins:List (Addr×Obj)) (s:Shared) (σ:St) (H:Hp) (Q:Option Int->Hp->Prop),Inv X pins σ H s->t σ H Q ->
  wpAny (model X.prog X.w) X.A (evalPart e X.env) (fun u s'=>∃o H',Inv X pins σ H' s'/\IsPart u o/\Q o H') X.xe s
def wN:TO:=fun _ H Q=>Q none H
def D8 (t:TE):TO:=fun σ H Q=>t σ H fun x H1=>∃i,x=.int i/\Q (some i) H1
section
variable {X:Cx} {e:Expr} {te:TE} {lo hi:Option Expr} {tl th:TO} {pos p2:Pos}
theorem oW:PO X none wN:=by
 intro pins s σ H Q I h;rw [evalPart_none];exact MO ⟨none,H,I,.none,h⟩
theorem Gz (h:PE X e te):PO X (some e) (D8 te):=by
 intro pins s σ H Q I hw;rw [evalPart_some];refine bx (h pins s σ H _ I hw) fun u s1 ⟨x,H1,I1,r1,q1⟩=>?_
 obtain ⟨i,rfl,q⟩:=q1;obtain ⟨t,rfl⟩:=r1;exact ⟨some i,H1,I1,.int i t,q⟩
def LP (X:Cx) (r:V->Option Int->Option Int->Hp->VK->Prop):Prop:=
 ∀(pins:List (Addr×Obj)) (s:Shared) (σ:St) (H:Hp) (x:V) (v vl vu:Value) (lo hi:Option Int) (sl:Addr) (Q:VK),Inv X pins σ H s->RelV x v->s.heap.IsSliceOf sl vl vu .none->IsPart vl lo->IsPart vu hi->r x lo hi H Q ->
  ∃T id,typeLookup (.type T) "__getitem__"=pure (some (.builtin id))/\s.TypeIs v T/\wpAny (model X.prog X.w) X.A (getItem v (.ref sl)) (EP X pins σ Q) X.xe s
def L7 (r:V->Option Int->Option Int->Hp->VK->Prop) (te:TE) (tl th:TO):TE:=fun σ H Q=>te σ H fun x H1=>tl σ H1 fun l H2=>th σ H2 fun u H3=>r x l u H3 Q
theorem IH {r:V->Option Int->Option Int->Hp->VK->Prop} (hr:LP X r) (he:PE X e te) (hl:PO X lo tl) (hu:PO X hi th):PE X (.Subscript e (.Slice lo hi none p2) pos) (L7 r te tl th):=by
 intro pins s σ H Q I h;refine Subscript_ (bx (he pins s σ H _ I h) fun v s1 ⟨x,H1,I1,r1,q1⟩=>?_)
 refine wpAny_Slice (bx (hl pins s1 σ H1 _ I1 q1) fun vl s2 ⟨l,H2,I2,pl,q2⟩=>bx (hu pins s2 σ H2 _ I2 q2) fun vu s3 ⟨u,H3,I3,pu,q3⟩=>?_)
 rw [evalPart_none];refine MO ?_
 have I4:Inv X pins σ H3 { s3 with heap:=s3.heap.push { cls:=.type "slice",data:=.fields #[vl,vu,.none] } }:=I3.kept (t':=s3.toks) fun b ob q=>MP _ q
 obtain ⟨T,id,hT,ht,hg⟩:=hr pins { s3 with heap:=s3.heap.push { cls:=.type "slice",data:=.fields #[vl,vu,.none] } } σ H3 x v vl vu l u s3.heap.objs.size Q I4 r1 (Heap.IsSliceOf.new ..) pl pu q3
 show wpAny (model X.prog X.w) X.A (subscriptTail e (.Slice lo hi none p2) v (.ref s3.heap.objs.size)) (EP X pins σ Q) X.xe { s3 with heap:=s3.heap.push { cls:=.type "slice",data:=.fields #[vl,vu,.none] } }
 exact tail_any (ops:=[.ref s3.heap.objs.size,v]) ht hT hg (by with_unfolding_all rfl)
def rK (xs:List V) (lo hi:Option Int):List V:=(xs.drop (HT.sIx xs.length 0 lo)).take (HT.sIx xs.length xs.length hi-HT.sIx xs.length 0 lo)
theorem lZ (xs:List V) (lo hi:Option Int):(rK xs lo hi).length<=xs.length:=by
 unfold rK;rw [length_take,length_drop];omega
end
def dQ (n:Nat) (i:Int):Option Nat:=if 0<=i then (if i<n then some i.toNat else none) else if -(n:Int)<=i then some (i+n).toNat else none
def d5 {α:Type} (xs:List α) (i:Int):Option α:=(dQ xs.length i).bind fun j=>xs[j]?
theorem ph {n:Nat} {i:Int} {j:Nat} (h:dQ n i=some j):seqIndex? i n=some j/\j<n/\-(n:Int)<=i/\i<n:=by
 unfold dQ at h;by_cases h0:0<=i
 ·rw [if_pos h0] at h
  by_cases h1:i<n
  ·rw [if_pos h1] at h
   have e:i.toNat=j:=Option.some.inj h
   exact ⟨by rw [seqIndex_of h0 h1,e],by omega,by omega,h1⟩
  ·rw [if_neg h1] at h;cases h
 ·rw [if_neg h0] at h
  by_cases h1:-(n:Int)<=i
  ·rw [if_pos h1] at h
   have e:(i+n).toNat=j:=Option.some.inj h
   exact ⟨by rw [seqIndex_neg (by omega) h1,e],by omega,h1,by omega⟩
  ·rw [if_neg h1] at h;cases h
theorem Ia {α:Type} {xs:List α} {i:Int} {v:α} (h:d5 xs i=some v):∃j,seqIndex? i xs.length=some j/\xs[j]?=some v/\j<xs.length/\-(xs.length:Int)<=i/\i<xs.length:=by
 unfold d5 at h
 cases e:dQ xs.length i with
 | none=>rw [e] at h;cases h
 | some j=>
  rw [e] at h;obtain ⟨h1,h2,h3,h4⟩:=ph e;exact ⟨j,h1,h,h2,h3,h4⟩
def GI (b:Expr):Prop:=∀o i,subscripted b false o i=operate [o,i] (getItem o i)
def IxR (X:Cx) (r:R2):Prop:=
 ∀(value slice:Expr) (pins:List (Addr×Obj)) (s:Shared) (σ:St) (H:Hp) (x y:V) (v u:Value) (Q:VK),Inv X pins σ H s->RelV x v->RelV y u->r x y H Q ->
  subscripted slice false v u=operate [v,u] (getItem v u)->wpAny (model X.prog X.w) X.A (subscriptTail value slice v u) (EP X pins σ Q) X.xe s
def Do (X:Cx) (id:String) (r:V->List V->Hp->VK->Prop):Prop:=
 ∀(pins:List (Addr×Obj)) (s:Shared) (σ:St) (H:Hp) (x:V) (xs:List V) (v:Value) (us:List Value) (Q:VK),Inv X pins σ H s->RelV x v->Vals xs us->r x xs H Q ->
  wpAny (model X.prog X.w) X.A (call (.builtin id) (v::us)) (EP X pins σ Q) X.xe s
section
variable {X:Cx} {a b:Expr} {ta tb:TE} {pos:Pos}
theorem IxR.or {r r':R2} (h:IxR X r) (h':IxR X r'):IxR X (fun x y H Q=>r x y H Q\/r' x y H Q):=by
 intro value slice pins s σ H x y v u Q I rx ry q hs;rcases q with q | q
 ·exact h value slice pins s σ H x y v u Q I rx ry q hs
 ·exact h' value slice pins s σ H x y v u Q I rx ry q hs
theorem o4 {r:R2} (hr:IxR X r) (ha:PE X a ta) (hb:PE X b tb) (hs:GI b):PE X (.Subscript a b pos) (sV r ta tb):=by
 intro pins s σ H Q I h;exact Subscript_ (CQ ha hb I h fun v u s2 x y H2 I2 rx ry q=>hr a b pins s2 σ H2 x y v u Q I2 rx ry q (hs _ _))
def Ey (K:Fg):R2:=fun x y H Q=>∃p xs i v,x=.ref p/\y=.int i/\SqL K H p xs/\d5 xs i=some v/\Q v H
def Ew (K:Fg):R2:=fun x y H Q=>∃p xs i v,x=.ref p/\y=.int i/\SqT K H p xs/\d5 xs i=some v/\Q v H
def Ex:R2:=fun x y H Q=>∃z i c,x=.str z/\y=.int i/\z.length<=sizeLine/\d5 z.cps.toList i=some c/\Q (.str ⟨#[c]⟩) H
theorem ix_list:IxR X (Ey X.K):=by
 intro value slice pins s σ H x y v u Q I rx ry h hs;obtain ⟨p,xs,i,z,rfl,rfl,hq,he,q⟩:=h
 cases rx;obtain ⟨t,rfl⟩:=ry;obtain ⟨its,r,pl,hz⟩:=I.list hq;obtain ⟨j,h1,h2,h3,h4,h5⟩:=Ia he;obtain ⟨w,ew,rw'⟩:=r.get h2;have hl:=r.length
 have hn:=yU
 have fin:EP X pins σ Q w s:=⟨z,H,I,rw',q⟩
 by_cases h0:0<=i
 ·have hj:i.toNat=j:=by
   rw [seqIndex_of h0 h5] at h1;exact Option.some.inj h1
  exact item_listR pl.isList h0 (by omega) (by rw [hj];simpa using ew) fin hs
 ·have hj:(i+(its.toArray.size:Int)).toNat=j:=by
   rw [seqIndex_neg (by omega) h4] at h1
   rw [size_toArray,<-hl];exact Option.some.inj h1
  exact subscriptTail_builtinR (x:=w) pl.isList.typeIs slot_list_getitem.lookup
   (wpAny_getItem_list_neg (Q:=fun r s'=>r=w/\EP X pins σ Q r s') pl.isList (by omega) (by rw [size_toArray]<;>omega) (by omega) (by rw [hj];simpa using ew) ⟨rfl,fin⟩) hs
theorem ix_tup:IxR X (Ew X.K):=by
 intro value slice pins s σ H x y v u Q I rx ry h hs;obtain ⟨p,xs,i,z,rfl,rfl,hq,he,q⟩:=h
 cases rx;obtain ⟨t,rfl⟩:=ry;obtain ⟨its,r,pl,hz⟩:=I.tuple hq;obtain ⟨j,h1,h2,h3,h4,h5⟩:=Ia he;obtain ⟨w,ew,rw'⟩:=r.get h2;have hl:=r.length
 have hn:=yU
 have fin:EP X pins σ Q w s:=⟨z,H,I,rw',q⟩
 exact subscriptTail_builtinR (x:=w) pl.typeIs slot_tuple_getitem.lookup
  (getItem_tuple (j:=j) (Q:=fun r s'=>r=w/\EP X pins σ Q r s') pl (by omega) (by omega) (by rw [size_toArray,<-hl];exact h1) (by simpa using ew) ⟨rfl,fin⟩) hs
theorem B0:IxR X Ex:=by
 intro value slice pins s σ H x y v u Q I rx ry h hs;obtain ⟨z,i,c,rfl,rfl,hz,he,q⟩:=h;obtain ⟨t,rfl⟩:=rx;obtain ⟨t',rfl⟩:=ry;obtain ⟨j,h1,h2,h3,h4,h5⟩:=Ia he;have hl:z.cps.toList.length=z.length:=by simp [Str.length]
 rw [hl] at h1 h4 h5
 have hn:=yU
 exact tail_any (typeIs_str s z t) slot_str_getitem.lookup (getItem_str (c:=c) (by
  have e1:decide (i < -(2 ^ 63:Int))=false:=decide_eq_false (by omega)
  have e2:decide (i≥2 ^ 63)=false:=decide_eq_false (by omega)
  rw [e1,e2,Bool.or_false]) (by rw [h1];simpa using h2) ⟨.str ⟨#[c]⟩,H,I.tok _,⟨_,rfl⟩,q⟩) hs
def Bm (K:Fg):R2:=fun x y H Q=>Ey K x y H Q\/Ew K x y H Q\/Ex x y H Q
theorem Gp:IxR X (Bm X.K):=ix_list.or (ix_tup.or B0)
theorem nj (its:List Value) (n j:Nat) (u:Value):Obj.mapSeq (·.setIfInBounds j u) { cls:=.type "list",data:=.seq its.toArray n }={ cls:=.type "list",data:=.seq (its.set j u).toArray n }:=by
 simp [Obj.mapSeq]
theorem Inv.lst {pins:List (Addr×Obj)} {σ:St} {H:Hp} {s:Shared} {p:Addr} {xs:List V} (I:Inv X pins σ H s) (h:H p=some (.lst xs)) :
  ∃(its:List Value) (n:Nat),Vals xs its/\s.heap.get? p=some { cls:=.type "list",data:=.seq its.toArray n }/\xs.length<=sizeLine:=by
 obtain ⟨z,its,n,r,e⟩:=I.hok p _ h;exact ⟨its,n,r,e,z⟩
theorem Inv.lstUpd {pins:List (Addr×Obj)} {σ:St} {H:Hp} {s:Shared} {p:Addr} {xs ys:List V} {its its':List Value} {n n':Nat} {f:Obj->Obj} (I:Inv X pins σ H s) (h:H p=some (.lst xs))
  (ho:s.heap.get? p=some { cls:=.type "list",data:=.seq its.toArray n }) (hf:f { cls:=.type "list",data:=.seq its.toArray n }={ cls:=.type "list",data:=.seq its'.toArray n' }) (r:Vals ys its') (hz:ys.length<=sizeLine) (t:Nat) :
  Inv X pins σ (bF H p (.lst ys)) { s with heap:=s.heap.update p f,toks:=t }:=by
 have e:(s.heap.update p f).get? p=some { cls:=.type "list",data:=.seq its'.toArray n' }:=by
  rw [Heap.get?_update_self f ho (by rw [hf]<;>rfl),hf]
 refine I.write (x:=p) (e:=p) (by rw [h];trivial) (.inl rfl) (fun b u hb q=>(Heap.get?_update_other _ _ (Ne.symm hb)).trans q) ⟨_,e⟩ ?_
 exact ⟨hz,its',n',r,e⟩
def ud:V->V->V->Hp->(Hp->Prop)->Prop:=fun o i v H Q=>∃p xs k j,o=.ref p/\i=.int k/\H p=some (.lst xs)/\dQ xs.length k=some j/\Q (bF H p (.lst (xs.set j v)))
theorem tx:FX X ud:=by
 intro pins s σ H o i v ov iv u Q I ro ri rv h;obtain ⟨p,xs,k,j,rfl,rfl,hp,hj,q⟩:=h
 cases ro;obtain ⟨t,rfl⟩:=ri;obtain ⟨its,n,r,ho,hz⟩:=I.lst hp;obtain ⟨h1,h2,h3,h4⟩:=ph hj;have hl:=r.length
 have hn:=yU
 have I':Inv X pins σ (bF H p (.lst (xs.set j v))) { s with heap:=s.heap.update p (Obj.mapSeq (·.setIfInBounds j u)) }:=
  I.lstUpd hp ho (nj its n j u) (r.set rv j) (by rw [length_set];exact hz) s.toks
 by_cases h0:0<=k
 ·have hk:k.toNat=j:=by
   rw [seqIndex_of h0 h4] at h1;exact Option.some.inj h1
  exact PySem.W.ki_setAt ho h0 (by omega) (by rw [size_toArray,<-hl];exact h4) (by rw [hk];exact ⟨_,I',q⟩)
 ·have hk:(k+(its.toArray.size:Int)).toNat=j:=by
   rw [seqIndex_neg (by omega) h3] at h1
   rw [size_toArray,<-hl];exact Option.some.inj h1
  exact PySem.W.ki_setBack ho (by omega) (by rw [size_toArray,<-hl];exact h3) (by omega) (by rw [hk];exact ⟨_,I',q⟩)
theorem jF (lo hi:Option Int) (n:Nat):(sliceBounds lo hi none n).1=((HT.sIx n 0 lo:Nat):Int)/\(sliceBounds lo hi none n).2.1=((HT.sIx n n hi:Nat):Int)/\(sliceBounds lo hi none n).2.2=1:=by
 refine ⟨?_,?_,rfl⟩
 ·cases lo with
  | none=>simp [sliceBounds,HT.sIx]
  | some i=>
   simp only [sliceBounds,HT.sIx,Option.getD_none,show (1:Int)>0 by decide,if_true]
   by_cases h:i<0
   ·simp only [h,if_true]<;>omega
   ·simp only [h,if_false]<;>omega
 ·cases hi with
  | none=>simp [sliceBounds,HT.sIx]
  | some i=>
   simp only [sliceBounds,HT.sIx,Option.getD_none,show (1:Int)>0 by decide,if_true]
   by_cases h:i<0
   ·simp only [h,if_true]<;>omega
   ·simp only [h,if_false]<;>omega
theorem ip (its:List Value) (lo hi:Option Int):slicePick its.toArray lo hi none=((its.drop (HT.sIx its.length 0 lo)).take (HT.sIx its.length its.length hi-HT.sIx its.length 0 lo)).toArray:=by
 obtain ⟨h1,h2,h3⟩:=jF lo hi its.toArray.size;unfold slicePick;rw [h1,h2,h3];simp only [sliceRange_one,pick_run,size_toArray]<;>rfl
def Bi (K:Fg):V->Option Int->Option Int->Hp->VK->Prop:=fun x lo hi H Q=>∃a xs,x=.ref a/\SqL K H a xs/\∀p,H p=none->Q (.ref p) (bF H p (.lst (rK xs lo hi)))
theorem Ir:LP X (Bi X.K):=by
 intro pins s σ H x v vl vu lo hi sl Q I rx hs pl pu h;obtain ⟨a,xs,rfl,hx,q⟩:=h
 cases rx;obtain ⟨its,r,ht,hz⟩:=I.list hx;have hlen:=r.length
 refine ⟨"list",_,slot_list_getitem.lookup,ht.isList.typeIs,?_⟩
 refine wpAny_getItem_list_slice ht.isList hs pl pu .none (by simp) ?_ (by rw [size_toArray]<;>omega)
 rw [ip,<-hlen];refine ⟨.ref s.heap.objs.size,_,I.laid (t':=s.toks) (o:=.lst (rK xs lo hi)) (fun b ob q=>MP _ q) (MQ _) ?_,rfl,q _ (I.hok.fresh (MQ _))⟩
 exact ⟨Nat.le_trans (lZ xs lo hi) hz,_,0,(r.drop (HT.sIx xs.length 0 lo)).take (HT.sIx xs.length xs.length hi-HT.sIx xs.length 0 lo),Heap.get?_push_size _ rfl⟩
theorem call_len_seq:CallR X (.builtin "len") (fun xs H Q=>∃p ys,xs=[.ref p]/\(SqL X.K H p ys\/SqT X.K H p ys)/\Q (.int ys.length) H):=by
 intro pins s σ H xs us Q I r h;obtain ⟨p,ys,rfl,hq,q⟩:=h;obtain ⟨u,rfl,rx⟩:=vals1 r
 cases rx;have hn:=yU
 rcases hq with hq | hq
 ·obtain ⟨its,r',pl,hz⟩:=I.list hq
  have hlen:=r'.length
  exact Calls.call_len_list pl.isList (by simp only [size_toArray]<;>omega) ⟨.int ys.length,H,I.tok _,⟨s.toks+1,by rw [size_toArray,hlen]⟩,q⟩
 ·obtain ⟨its,r',pl,hz⟩:=I.tuple hq
  have hlen:=r'.length
  exact len_tuple pl (by simp only [size_toArray]<;>omega) ⟨.int ys.length,H,I.tok _,⟨s.toks+1,by rw [size_toArray,hlen]⟩,q⟩
theorem j8:CallR X (.builtin "len") (fun xs H Q=>∃z,xs=[.str z]/\z.length<=sizeLine/\Q (.int z.length) H):=by
 intro pins s σ H xs us Q I r h;obtain ⟨z,rfl,hz,q⟩:=h;obtain ⟨u,rfl,t,rfl⟩:=vals1 r;have hn:=yU
 exact len_str (by omega) ⟨.int z.length,H,I.tok _,⟨_,rfl⟩,q⟩
theorem CallR.or {f:Value} {r r':List V->Hp->VK->Prop} (h:CallR X f r) (h':CallR X f r'):CallR X f (fun xs H Q=>r xs H Q\/r' xs H Q):=by
 intro pins s σ H xs us Q I rs q;rcases q with q | q
 ·exact h pins s σ H xs us Q I rs q
 ·exact h' pins s σ H xs us Q I rs q
theorem j7:CallR X (.type "list") (fun xs H Q=>∃p ys,xs=[.ref p]/\(SqL X.K H p ys\/SqT X.K H p ys)/\∀l,H l=none->Q (.ref l) (bF H l (.lst ys))):=by
 intro pins s σ H xs us Q I r h;obtain ⟨p,ys,rfl,hq,q⟩:=h;obtain ⟨u,rfl,rx⟩:=vals1 r
 cases rx;have fin:∀(its:List Value),Vals ys its->ys.length<=sizeLine->∀(h':Heap) (c':Nat),(∀b o',s.heap.get? b=some o'->h'.get? b=some o') ->
   h'.get? s.heap.objs.size=some { cls:=.type "list",dict:=none,data:=.seq its.toArray c',slots:=#[] }->EP X pins σ Q (.ref s.heap.objs.size) { s with heap:=h' }:=fun its r' hz h' c' kp e=>
  ⟨.ref s.heap.objs.size,_,I.laid (t':=s.toks) kp (MQ _) (show ObjOk X.prog X.w _ h' _ (.lst ys) from ⟨hz,its,c',r',e⟩),rfl,q _ (I.hok.fresh (MQ _))⟩
 rcases hq with hq | hq
 ·obtain ⟨its,r',pl,hz⟩:=I.list hq
  have hlen:=r'.length
  obtain ⟨o,ho,hc,n,hd⟩:=pl.isList;exact call_list_seq p (.inl rfl) ho hc hd (fun h' c' kp e=>fin its r' hz h' c' kp e) (by simp only [size_toArray]<;>omega)
 ·obtain ⟨its,r',pl,hz⟩:=I.tuple hq
  have hlen:=r'.length
  obtain ⟨o,ho,hc,n,hd⟩:=pl;exact call_list_seq p (.inr rfl) ho hc hd (fun h' c' kp e=>fin its r' hz h' c' kp e) (by simp only [size_toArray]<;>omega)
def Jy (K:Fg) (T:String) (x:V) (H:Hp):Prop:=match x with
 | .str _=>T = "str"
 | .int _=>T = "int"
 | .ref p=>(T = "list"/\∃xs,SqL K H p xs)\/(T = "tuple"/\∃o,K.lookup p=some o/\o.cls=.type "tuple"/\o.dict=none) \/
   (T = "dict"/\((∃kvs,H p=some (.dK kvs))\/∃kvs,H p=some (.dT kvs)))\/(T = "set"/\∃S n,H p=some (.set S n))
 | _=>False
theorem sQ {pins:List (Addr×Obj)} {σ:St} {H:Hp} {s:Shared} {T:String} {x:V} {v:Value} (I:Inv X pins σ H s) (r:RelV x v) (ty:Jy X.K T x H) :
  s.TypeIs v T/\∀a,v=.ref a->∃ob,s.heap.get? a=some ob/\ob.dict=none:=by
 cases x with
 | str z=>
  obtain ⟨t,rfl⟩:=r
  cases (show T = "str" from ty)
  exact ⟨typeIs_str s z t,fun _ e=>nomatch e⟩
 | int i=>
  obtain ⟨t,rfl⟩:=r
  cases (show T = "int" from ty)
  exact ⟨typeIs_int s i t,fun _ e=>nomatch e⟩
 | ref p=>
  cases r;rcases ty with ⟨rfl,xs,hq⟩ | ⟨rfl,o,hk,hc,hd⟩ | ⟨rfl,hk⟩ | ⟨rfl,S,n,hk⟩
  ·obtain ⟨its,_,pl,_⟩:=I.list hq
   refine ⟨pl.isList.typeIs,fun a e=>?_⟩
   cases e;obtain ⟨o,n,e,c,hd,_⟩:=pl;exact ⟨o,e,hd⟩
  ·refine ⟨⟨o,I.kIn p o hk,hc⟩,fun a e=>?_⟩
   cases e;exact ⟨o,I.kIn _ o hk,hd⟩
  ·have z:∃o,s.heap.get? p=some o/\o.ExactDict:=by
    rcases hk with ⟨kvs,hk⟩ | ⟨kvs,hk⟩
    ·obtain ⟨_,_,_,_,o,_,_,e,ex,_⟩:=I.hok p _ hk
     exact ⟨o,e,ex⟩
    ·obtain ⟨_,_,_,_,o,_,_,e,ex,_⟩:=I.hok p _ hk
     exact ⟨o,e,ex⟩
   obtain ⟨o,e,ex⟩:=z;refine ⟨⟨o,e,ex.1⟩,fun a e2=>?_⟩
   cases e2;exact ⟨o,e,ex.2.1⟩
  ·obtain ⟨o,_,_,_,e,ex,_⟩:=I.hok p _ hk
   refine ⟨⟨o,e,ex.1⟩,fun a e2=>?_⟩
   cases e2;exact ⟨o,e,ex.2.1⟩
 | _=>exact False.elim ty
def Ea (K:Fg) (T:String) (r:V->List V->Hp->VK->Prop) (to:TE):TE:=fun σ H Q=>to σ H fun x H1=>Jy K T x H1/\r x [] H1 Q
def zg (K:Fg) (T:String) (r:V->List V->Hp->VK->Prop) (to:TE) (t:TA):TE:=fun σ H Q=>to σ H fun x H1=>Jy K T x H1/\t σ H1 fun xs H2=>r x xs H2 Q
variable {o e:Expr} {es:List Expr} {to:TE} {t:TA} {name:Str} {apos cpos:Pos} {T id:String} {r:V->List V->Hp->VK->Prop}
theorem Bx (pa:PlainAttrs T) (slot:Slot T name id) (hty:typeOf (.builtin id)=pure (.type "method_descriptor")) (hm:Do X id r) (ho:PE X o to)
  (hbase:attributeBase o name X.env (eval o X.env)=eval o X.env:=by rfl) (hline:(apos.endLine==cpos.line)=true:=by rfl):PE X (.Call (.Attribute o name apos) [] [] cpos) (Ea X.K T r to):=by
 intro pins s σ H Q I h;refine wpAny_Call_method0_late hbase hline (bx (ho pins s σ H _ I h) fun v s1 ⟨x,H1,I1,r1,ty,q1⟩=>?_)
 obtain ⟨h1,h2⟩:=sQ I1 r1 ty;exact ⟨T,id,pa,slot,hty,h1,h2,Calls.callWith_builtin rfl (PySem.evalArgs_none (hm pins s1 σ H1 x [] v [] Q I1 r1 .nil q1))⟩
theorem jd (pa:PlainAttrs T) (slot:Slot T name id) (hty:typeOf (.builtin id)=pure (.type "method_descriptor")) (hm:Do X id r) (ho:PE X o to) (ha:PA X (e::es) t)
  (hbase:attributeBase o name X.env (eval o X.env)=eval o X.env:=by rfl)
  (hfew:((backTo cpos (starEach (e::es) X.env)).all (fun x=>!x.1)&&(backToKw cpos (keywordEach [] X.env)).all (fun x=>x.1.isSome)
   && decide ((e::es).length+([]:List Keyword).length+(if ([]:List Keyword).isEmpty then 0 else 1)<30))=true:=by rfl)
  (hline:(apos.endLine==cpos.line)=true:=by rfl) (hs:starEach (e::es) X.env=(false,eval e X.env)::starEach es X.env:=by rfl) (hplain:(backTo cpos (starEach es X.env)).any (·.1)=false:=by rfl) :
  PE X (.Call (.Attribute o name apos) (e::es) [] cpos) (zg X.K T r to t):=by
 intro pins s σ H Q I h;refine wpAny_Call_method_late hbase hfew hline rfl (bx (ho pins s σ H _ I h) fun v s1 ⟨x,H1,I1,r1,ty,q1⟩=>?_)
 obtain ⟨h1,h2⟩:=sQ I1 r1 ty;refine ⟨T,id,pa,slot,hty,h1,h2,?_⟩
 have hA:=ha cpos pins s1 σ H1 _ I1 q1
 rw [hs] at hA ⊢;refine Calls.callWith_builtin (by show (false||(backTo cpos (starEach es X.env)).any (·.1))=false;rw [hplain]<;>rfl) (Calls.evalArgs_plain ?_)
 exact bx hA fun us s2 ⟨vs,H2,I2,r2,q2⟩=>hm pins s2 σ H2 x vs v us Q I2 r1 r2 q2
end
def LW (X:Cx) (id:String) (r:V->List V->Hp->VK->Prop):Prop:=
 ∀(pins:List (Addr×Obj)) (s:Shared) (σ:St) (H:Hp) (x:V) (xs:List V) (v:Value) (us:List Value) (Q:VK),Inv X pins σ H s->RelV x v->Vals xs us->r x xs H Q ->
  wpAny (model X.prog X.w) X.A (call (.builtin id) (v::us)) (EP X pins σ Q) X.xe s
theorem Vals.one:∀{x:V} {us:List Value},Vals [x] us->∃u,us=[u]/\RelV x u
 | _,_,.cons r .nil=>⟨_,rfl,r⟩
theorem Vals.zero:∀{us:List Value},Vals [] us->us=[]
 | _,.nil=>rfl
theorem Vals.dropLast {xs:List V} {us:List Value} (h:Vals xs us):Vals xs.dropLast us.dropLast:=by
 induction h with
 | nil=>exact .nil
 | cons r t ih=>
  cases t with
  | nil=>exact .nil
  | cons q t'=>exact .cons r ih
theorem Vals.rep {xs:List V} {us:List Value} (h:Vals xs us):∀k:Nat,Vals (List.replicate k xs).flatten (List.replicate k us).flatten
 | 0=>.nil
 | k+1=>by
  rw [replicate_succ,replicate_succ,flatten_cons,flatten_cons];exact Vals.append h (Vals.rep h k)
theorem nz {α:Type} (l:List α):l.eraseIdx (l.length-1)=l.dropLast:=by
 induction l with
 | nil=>rfl
 | cons a r ih=>
  cases r with
  | nil=>rfl
  | cons b r=>
   have e:(a::b::r).length-1=((b::r).length-1)+1:=by
    have h1:(a::b::r).length=r.length+2:=rfl
    have h2:(b::r).length=r.length+1:=rfl
    omega
   rw [e,List.eraseIdx_cons_succ,ih];all_goals rfl
theorem foldl_rep (its:List Value):∀(k:Nat) (acc:List Value),
  List.foldl (fun x1 x2=>x1++x2) acc.toArray (List.replicate k its.toArray)=(acc++(List.replicate k its).flatten).toArray
 | 0,acc=>by simp
 | k+1,acc=>by
  have e:acc.toArray++its.toArray=(acc++its).toArray:=by simp
  have e2:(acc++its)++(List.replicate k its).flatten=acc++(List.replicate (k+1) its).flatten:=by
   rw [replicate_succ,flatten_cons,append_assoc]
  rw [<-e2,<-foldl_rep its k (acc++its),<-e,replicate_succ,List.foldl_cons]
section
variable {X:Cx} {pins:List (Addr×Obj)} {σ:St} {H:Hp} {s:Shared} {l b:Addr} {xs ys zs:List V}
theorem Inv.lset {its its':List Value} {n:Nat} {f:Array Value->Array Value} {t':Nat} (I:Inv X pins σ H s) (hH:H l=some (.lst xs))
  (e:s.heap.get? l=some { cls:=.type "list",data:=.seq its.toArray n }) (hf:f its.toArray=its'.toArray) (hv:Vals ys its') (hz:ys.length<=sizeLine) :
  Inv X pins σ (bF H l (.lst ys)) { s with heap:=s.heap.update l (Obj.mapSeq f),toks:=t' }:=by
 have q:=PySem.IsL.update e f
 rw [hf] at q;refine I.write (x:=l) (e:=l) (by rw [hH];exact trivial) (.inl rfl) (fun b' u hb hu=>(Heap.get?_update_other s.heap (Obj.mapSeq f) (Ne.symm hb)).trans hu) ⟨_,q⟩ ?_
 exact ⟨hz,its',_,hv,q⟩
theorem Inv.lnew {its:List Value} {t':Nat} (I:Inv X pins σ H s) (hv:Vals ys its) (hz:ys.length<=sizeLine) :
  Inv X pins σ (bF H s.heap.objs.size (.lst ys)) { s with heap:=s.heap.push { cls:=.type "list",data:=.seq its.toArray },toks:=t' }:=
 I.laid (fun _ _ q=>MP _ q) (MQ _) ⟨hz,its,0,hv,Heap.get?_push_size _ rfl⟩
theorem Inv.fresh (I:Inv X pins σ H s):H s.heap.objs.size=none:=I.hok.fresh (MQ _)
theorem Inv.lstM (I:Inv X pins σ H s) (hH:H l=some (.lst xs)):xs.length<=sizeLine/\∃(its:List Value) (n:Nat),Vals xs its/\xs.length=its.length/\s.heap.get? l=some { cls:=.type "list",data:=.seq its.toArray n }:=by
 obtain ⟨z,its,n,r,e⟩:=I.hok l _ hH;exact ⟨z,its,n,r,r.length,e⟩
theorem uN {n:Nat} (h:n<=sizeLine):Builtin.List.listTooLong n=false:=by
 unfold Builtin.List.listTooLong;exact decide_eq_false (by omega)
end
section
variable {X:Cx}
def GE:V->List V->Hp->VK->Prop:=fun x vs H Q=>∃l xs y,x=.ref l/\vs=[y]/\H l=some (.lst xs)/\xs.length<sizeLine/\Q .non (bF H l (.lst (xs++[y])))
theorem IZ:LW X "list.append" GE:=by
 intro pins s σ H x vs v us Q I rx rv h;obtain ⟨l,xs,y,rfl,rfl,hH,hz,q⟩:=h
 cases rx;obtain ⟨u,rfl,ru⟩:=rv.one;obtain ⟨z,its,n,r,hl,e⟩:=I.lstM hH;refine call_meets F.slot_list_append ⟨_,e,rfl⟩ F.entry_list_append (F.args_list_append_2 _ _) (PySem.list_append l its.toArray n u (by rw [size_toArray];omega)) ⟨e,?_⟩
 refine ⟨.non,_,I.lset (its':=its++[u]) hH e (by simp) (r.append (.cons ru .nil)) ?_,rfl,q⟩
 rw [length_append,length_singleton];omega
def Et:V->List V->Hp->VK->Prop:=fun x vs H Q=>∃l xs y,x=.ref l/\vs=[]/\H l=some (.lst xs)/\xs[xs.length-1]?=some y/\Q y (bF H l (.lst xs.dropLast))
theorem BO:LW X "list.pop" Et:=by
 intro pins s σ H x vs v us Q I rx rv h;obtain ⟨l,xs,y,rfl,rfl,hH,hy,q⟩:=h
 cases rx;have hus:=rv.zero
 subst hus;obtain ⟨z,its,n,r,hl,e⟩:=I.lstM hH;obtain ⟨u,hu,ru⟩:=r.get hy;have hy':its.toArray[its.toArray.size-1]?=some u:=by
  show its.toArray[its.length-1]?=some u
  rw [<-Array.getElem?_toList,<-hl];exact hu
 refine call_meets F.slot_list_pop ⟨_,e,rfl⟩ F.entry_list_pop (F.args_list_pop_1 _) (MeetsSeq.list_pop_last l its.toArray n u hy' (by rw [size_toArray];omega)) ⟨e,?_⟩
 refine ⟨y,_,I.lset (its':=its.dropLast) hH e ?_ r.dropLast ?_,ru,q⟩
 ·show its.toArray.eraseIdxIfInBounds (its.toArray.size-1)=its.dropLast.toArray
  rw [size_toArray,List.eraseIdxIfInBounds_toArray,nz]
 ·rw [length_dropLast]
  omega
def Bj:R2:=fun x y H Q=>∃l k xs,x=.ref l/\y=.int k/\H l=some (.lst xs)/\-(2 ^ 63)<=k/\k<2 ^ 63/\xs.length*k.toNat<=sizeLine /\
 ∀p,H p=none->Q (.ref p) (bF H p (.lst (List.replicate k.toNat xs).flatten))
theorem Ik {α:Type} (xs:List α) (k:Nat):(List.replicate k xs).flatten.length=k*xs.length:=by
 induction k with
 | zero=>simp
 | succ k ih=>rw [replicate_succ,flatten_cons,length_append,ih,Nat.succ_mul,Nat.add_comm]
theorem BD:OpR X (binaryOp .Mult) Bj:=by
 intro pins s σ H x y v u Q I rx ry h;obtain ⟨l,k,xs,rfl,rfl,hH,h1,h2,hz,q⟩:=h
 cases rx;obtain ⟨t,rfl⟩:=ry;obtain ⟨z,its,n,r,hl,e⟩:=I.lstM hH;have hlen:its.toArray.size*k.toNat<=sizeLine:=by rw [size_toArray,<-hl];exact hz
 have hcap:¬its.toArray.size*k.toNat>(2 ^ 63-1) / 8:=by
  have:(sizeLine:Nat)<=(2 ^ 63-1) / 8:=by decide
  omega
 have hfit:¬(!Builtin.List.listFitsIndex k)=true:=by
  rw [fitsIndex_both h1 h2];exact Bool.false_ne_true
 have hlong:¬Builtin.List.listTooLong (its.toArray.size*k.toNat)=true:=by
  rw [uN hlen];exact Bool.false_ne_true
 have hnew:List.foldl (fun x1 x2=>x1++x2) #[] (List.replicate (if its.toArray.isEmpty=true then 0 else k.toNat) its.toArray)=(List.replicate k.toNat its).flatten.toArray:=by
  have f0:∀m:Nat,List.foldl (fun x1 x2=>x1++x2) #[] (List.replicate m its.toArray)=(List.replicate m its).flatten.toArray:=fun m=>by
   have:=foldl_rep its m []
   rw [nil_append] at this;exact this
  rw [f0]
  cases its with
  | nil=>simp
  | cons a r'=>rw [if_neg (by simp)]
 refine wpAny_binaryOp_repeat_ref (T := "list") (U := "int") (by decide) ⟨_,e,rfl⟩ (fun s'=>typeIs_int s' k t) noFill_list_mul F.fills_int_mul F.slot_int_rmul repeat_list F.slot_int_index.lookup
  (call_meets F.slot_int_rmul (typeIs_int s k t) F.entry_int_rmul (F.args_int_rmul_2 _ _) (int___rmul___int_list k t l its.toArray n)
   ⟨e,rfl,⟨_,e,rfl⟩,call_meets F.slot_list_mul ⟨_,e,rfl⟩ F.entry_list_mul (F.args_list_mul_2 _ _) (AutoListH.list___mul___list_int_3 l its.toArray n k t hfit hcap hlong) ⟨e,?_⟩⟩)
 rw [hnew];exact ⟨.ref _,_,I.lnew (t':=s.toks) (r.rep k.toNat) (by rw [Ik,Nat.mul_comm];exact hz),rfl,q _ I.fresh⟩
end
section
variable {prog:Program} {w:World} {A:Around} {E:Value->Shared->Prop} {s:Shared}
set_option maxRecDepth 100000 in
end
end L2
namespace Att
open PySem PySem.W PySem.Calls PyProof.Rows
theorem gp {P:Params} {h:Heap}:∀(ns:List Int) (vs:List Value),WellAll P h vs (ns.map WData.int)->IntsAre vs ns:=by
 intro ns;induction ns with
 | nil=>
  intro vs w;rw [map_nil] at w
  cases w;exact .nil
 | cons n ns ih=>
  intro vs w;rw [map_cons] at w
  cases w with
  | cons a b=>
   cases a;exact .cons _ _ (ih _ b)
theorem qe {l:OpenLaw} {n:Nat} (hn:l.most=some n) {P:Params} {h:Heap} {args:List WData} {vals:List Value}
  (hpre:l.row.toRowW.claim.pre args=true) (hwl:WellAll P h vals args) :
  ∃a vs ns,vals=[Value.ref a]/\args=[WData.list (ns.map WData.int)]/\h.get? a=some { cls:=.type "list",data:=.seq vs.toArray }/\IntsAre vs ns/\ns.length<=n:=by
 have hsh:WShape.hasAll [] args [.list .int]=true:=(pre_splitW hpre).1
 have hc:l.pre.holds [] { args:=args }=true:=(pre_splitW hpre).2
 obtain ⟨d,r,rfl,h1,h2⟩:=hasAllW_cons hsh;obtain rfl:=hasAllW_nil h2
 obtain ⟨xs,rfl,h3⟩:=hasW_list h1;obtain ⟨ns,rfl⟩:=items_int h3;have hlen:ns.length<=n:=by
  unfold OpenLaw.pre at hc;have h4:(WTm.not (.lt (.lit (.int (n:Int))) (.len (.arg 0)))).holds [] { args:=[.list (ns.map .int)] }=true:=by
   have h4:=(holds_andW hc).1
   rw [hn] at h4;exact h4
  have h5:=condW_of h4 (w_not (w_lt w_lit (w_len_list (w_arg rfl))))
  rw [length_map] at h5;refine Nat.le_of_not_lt fun q=>?_
  have q':(n:Int)<((ns.length:Nat):Int):=by omega
  first
   | (rw [decide_eq_true q'] at h5;exact absurd h5 (by decide))
   | (simp at h5;omega)
 cases hwl with
 | cons w1 w2=>
  cases w2
  cases w1 with
  | list ho hall=>exact ⟨_,_,ns,rfl,rfl,ho,gp ns _ hall,hlen⟩
theorem qv (l:OpenLaw) (args:List WData):l.row.toRowW.claim.post args (.bool true) args=true:=
 postW_of (r:=l.row.toRowW) (X:=(true==true))
  (show WShape.has [] (.bool true) .bool=true by first | rfl | decide | simp [WShape.has,WShape.arms,WShape.armsAll])
  (show (WTm.eq .res (.lit (.bool true))).value [] { args:=args,res:=some (.bool true),after:=args }=some (.bool (true==true)) from w_eq_bool (w_res rfl) w_lit) rfl
theorem attach_call {l:OpenLaw} {n:Nat} {q:Program} {loose:List Str} {XP:(Str->Option Value)->Heap->Prop} {YP:World->Heap->Prop} {d:DefRec}
  (hn:l.most=some n) (hdf:d.params.defaults=[])
  (call:∀(w:World) (s₀ s₁:Shared) (mg mb:Str->Option Value) (fa:Addr) (o:Obj) (pm cd doc:Value) (a:Addr) (vs:List Value) (ns:List Int),
   Ground q loose [] XP w s₀ mg mb s₁.heap->YP w s₁.heap ->
   s₁.heap.get? fa=some o->o.data=.func (docDef d.name d.params d.body d.scope pm cd doc)->s₁.heap.CodeRec cd d.name->mg d.name=some (.ref fa) ->
   s₁.heap.get? a=some { cls:=.type "list",data:=.seq vs.toArray }->IntsAre vs ns->ns.length<=n->s₁.gens=#[] ->
   codeAny (model l.prog w) callerA (.call (.ref fa) ⟨[.ref a],[]⟩) (fun r s'=>r=.ok (.ret (.bool true))/\OldK s₁.heap s'.heap/\s'.os=s₁.os/\AllBare s'.gens) s₁) :
  WalkO q loose XP YP l.row.toRowW d [] (fun f vs=>PySem.call f vs):=by
 intro w s₀ s₁ mg mb G Y fa o pm cd doc dV kV ho hd hcd hD hmg hg args vals as hpre hlay hrd hwl hlo;obtain rfl:dV=.none:=Dflts.none hD hdf
 obtain rfl:kV=.none:=Dflts.noKw hD
 obtain ⟨a,vs,ns,rfl,rfl,hobj,hints,hlen⟩:=qe hn hpre hwl;refine enter_call (codeAny_mono (call w s₀ s₁ mg mb fa o pm cd doc a vs ns G Y ho (fd_plain hd) hcd hmg hobj hints hlen hg) fun r s' hq=>?_)
 obtain ⟨rfl,h2,h3,h4⟩:=hq;exact ⟨.inl ⟨.bool true,.bool true,[],rfl,fun _=>rfl,.bool true,qv l _,fun _=>⟨List.Pairwise.nil,fun _ hm=>(nomatch hm)⟩⟩,h2,h3,h4⟩
end Att
namespace L2
open PySem PySem.Spec PyProof.Rows
theorem i6:∀{vs:List Value} {ns:List Int},IntsAre vs ns->Vals (ns.map V.int) vs
 | _,_,.nil=>.nil
 | _,_,.cons n t h=>.cons ⟨t,rfl⟩ (i6 h)
def CY (H:Hp):Prop:=∀b,H b=none\/∃o xs,H b=some (.frz o (.lst xs))
theorem uU {P:Program} {w:World} {K:Fg} {mg mb:Str->Option Value} {CX:pN} {k:Nat} {fa a:Addr} {fd:FuncData} {x:Str} {sp:Sp} {s₁:Shared} {vs:List Value} {ns:List Int}
  (KX:K.In s₁.heap) (hns:s₁.heap.Ns mainGlobals mg) (hb:s₁.heap.Ns builtinsNs mb) (hbb:∀x:Str,x ≠ "__name__"->mb x=bootBuiltins x) (hlim:s₁.heap.NoLimit) (hg:s₁.gens=#[])
  (ha:s₁.heap.get? a=some { cls:=.type "list",data:=.seq vs.toArray }) (hi:IntsAre vs ns) (hl:ns.length<=sizeLine) (hr:Room k callerA)
  (F:∀base:Heap,K.In base->base.Ns mainGlobals mg->dg P w K mg base CX k fa fd [x] sp) (hbind:∀(s:Shared) (u:Value),BindsTo s fd ⟨[u],[]⟩ [(x,u)])
  (hsp:∀H:Hp,CY H->SqL K H a (ns.map V.int)->sp [.ref a] H (fun v _=>v=.bl true) fun _ _ _=>False)
  (hCX:∀H e s',CX [] H s₁ (fun _ _ _=>False) e s'->False) :
  codeAny (model P w) callerA (.call (.ref fa) ⟨[.ref a],[]⟩) (fun r s'=>r=.ok (.ret (.bool true))/\OldK s₁.heap s'.heap/\s'.os=s₁.os/\AllBare s'.gens) s₁:=by
 have rv:=i6 hi
 have lenV:=hi.length
 have core:∀H:Hp,CY H->SqL K H a (ns.map V.int)->HOk P w H s₁.heap->(∀b,H b≠none->b=a)->(H a≠none->K.lookup a=none) ->
   codeAny (model P w) callerA (.call (.ref fa) ⟨[.ref a],[]⟩) (fun r s'=>r=.ok (.ret (.bool true))/\OldK s₁.heap s'.heap/\s'.os=s₁.os/\AllBare s'.gens) s₁:=by
  intro H hO hS hok hA hK;have base_of:∀{b:Addr} {o:Obj},s₁.heap.get? b=some o->H b=none->(jX s₁.heap H).get? b=some o:=fun e n=>vd e n
  have noA:∀{b:Addr} {o:Obj} {es:Array DictEntry} {ep:Nat},s₁.heap.get? b=some o->o.data=.dict es ep->H b=none:=fun {b o es ep} e d=>by
   cases q:H b with
   | none=>rfl
   | some u=>
    have e':b=a:=hA b (by rw [q];simp)
    subst e'
    rw [ha] at e;cases e;have d':Data.seq vs.toArray _=Data.dict es ep:=d
    cases d'
  have nsK:∀{b:Addr} {m:Str->Option Value},s₁.heap.Ns b m->(jX s₁.heap H).Ns b m:=fun {b m} ⟨o,es,ep,e,d,r⟩=>⟨o,es,ep,base_of e (noA e d),d,r⟩
  have hKb:K.In (jX s₁.heap H):=fun b o e=>base_of (KX b o e) (by
   cases q:H b with
   | none=>rfl
   | some u=>
    have e':b=a:=hA b (by rw [q];simp)
    subst e'
    rw [hK (by rw [q];simp)] at e;cases e)
  have hM:Mod K mg (jX s₁.heap H):=⟨hKb,nsK hns,⟨mb,nsK hb,hbb⟩,let ⟨mc,h1,h2⟩:=hlim;⟨mc,nsK h1,h2⟩⟩
  have e0:rV P w K mg (jX s₁.heap H) callerA [] s₁ H:=⟨rfl,hM,fun b o e=>xM e,Nat.le_of_eq (qW _ _),trivial,fun b hb=>absurd (show b∈([]:List Addr) from hb) (by simp),hok,.of_eq hg⟩
  refine codeAny_mono ((F _ hKb (nsK hns)).run callerA [] s₁ H ⟨[.ref a],[]⟩ [.ref a] [.ref a] _ _ hr e0 (hbind s₁ (.ref a)) (.cons rfl .nil) (hsp H hO hS)) fun r s' h=>?_
  cases r with
  | error e=>exact (hCX H e s' h).elim
  | ok fl=>
   cases fl with
   | next=>exact False.elim h
   | brk=>exact False.elim h
   | cont=>exact False.elim h
   | ret u=>
    obtain ⟨v,H',os,bare,un,hok',r',q⟩:=h;have q':v=.bl true:=q
    subst q'
    obtain rfl:u=Value.bool true:=r'
    refine ⟨rfl,OldK.of_keep fun b o e=>?_,os,bare⟩
    cases q:H b with
    | none=>exact un.keep b o e q (by intro z;exact absurd (show b∈([]:List Addr) from z) (by simp)) (by simp)
    | some u=>
     rcases hO b with z | ⟨ob,xs,z⟩
     ·rw [q] at z;cases z
     ·have z2:=un.frzs b ob _ z
      obtain ⟨e1,_⟩:=hok b _ z;obtain ⟨e2,_⟩:=hok' b _ z2
      rw [e] at e1;cases e1;exact e2
 cases hk:K.lookup a with
 | some o=>
  have e:=KX a o hk
  rw [ha] at e
  cases e;refine core (fun _=>none) (fun _=>.inl rfl) (.inr ⟨_,vs.toArray,_,hk,rfl,rfl,rfl,by rw [size_toArray,lenV];exact hl,by simpa using rv⟩) (fun b u z=>by have z':(none:Option HO)=some u:=z;cases z') (fun b z=>absurd rfl z) fun z=>absurd rfl z
 | none=>
  refine core (fun b=>if b=a then some (.frz { cls:=.type "list",data:=.seq vs.toArray } (.lst (ns.map V.int))) else none) (fun b=>?_) (.inl (.inr ⟨{ cls:=.type "list",data:=.seq vs.toArray },if_pos rfl⟩)) (fun b u z=>?_) (fun b z=>?_) fun _=>hk
  ·by_cases hb:b=a
   ·exact .inr ⟨_,_,if_pos hb⟩
   ·exact .inl (if_neg hb)
  ·by_cases hb:b=a
   ·have z':=(if_pos hb).symm.trans z
    cases z'
    subst hb;exact ⟨ha,by rw [length_map];exact hl,vs,_,rv,ha⟩
   ·have z':=(if_neg hb).symm.trans z
    cases z'
  ·by_cases hb:b=a
   ·exact hb
   ·exact absurd (if_neg hb) z
theorem walk_of {l:PySem.W.OpenLaw} {n k:Nat} {q:Program} {loose:List Str} {XP:(Str->Option Value)->Heap->Prop} {YP:World->Heap->Prop} {d:DefRec} {K:Params->Fg} {CX:World->pN} {sp:World->Sp} {x:Str}
  (hn:l.most=some n) (hn2:n<=sizeLine) (hdf:d.params.defaults=[]) (hr:Room k callerA)
  (hY:∀(w:World) (h:Heap),YP w h->(K w.params).In h)
  (F:∀(w:World) (mg:Str->Option Value) (fa:Addr) (h:Heap),(K w.params).In h->h.Ns mainGlobals mg->mg d.name=some (.ref fa) ->
   ∃fd:FuncData,(∀(s:Shared) (u:Value),BindsTo s fd ⟨[u],[]⟩ [(x,u)]) /\
    ∀base:Heap,(K w.params).In base->base.Ns mainGlobals mg->dg l.prog w (K w.params) mg base (CX w) k fa fd [x] (sp w))
  (hsp:∀(w:World) (H:Hp) (a:Addr) (ns:List Int),ns.length<=n->CY H->SqL (K w.params) H a (ns.map V.int)->sp w [.ref a] H (fun v _=>v=.bl true) fun _ _ _=>False)
  (hCX:∀(w:World) (H:Hp) (s:Shared) (e:Value) (s':Shared),CX w [] H s (fun _ _ _=>False) e s'->False) :
  PySem.W.WalkO q loose XP YP l.row.toRowW d [] (fun f vs=>PySem.call f vs):=by
 refine Att.attach_call hn hdf fun w s₀ s₁ mg mb fa o pm cd doc a vs ns G Y ho hd hcd hmg hobj hints hlen hg=>?_
 have KX:=hY w _ Y
 obtain ⟨fd,hb,hF⟩:=F w mg fa _ KX G.T.g hmg;exact uU KX G.T.g G.T.b G.T.builtins G.T.nolimit hg hobj hints (Nat.le_trans hlen hn2) hr hF hb (fun H hO hS=>hsp w H a ns hlen hO hS) fun H e s'=>hCX w H s₁ e s'
def C7 (s:Stmt):Arguments:=match s with
 | .FunctionDef _ a _ _ _ _ _ _ _ _=>a
 | _=>{ posonlyargs:=[],args:=[],vararg:=none,kwonlyargs:=[],kw_defaults:=[],kwarg:=none,defaults:=[] }
def jD (s:Stmt):List Stmt:=match s with
 | .FunctionDef _ _ b _ _ _ _ _ _ _=>b
 | _=>[]
def dR (s:Stmt):Scope:=match s with
 | .FunctionDef _ _ _ _ _ _ sc _ _ _=>sc
 | _=>{ kind:=.function,names:=[],isGenerator:=false,isCoroutine:=false }
abbrev ic:pN:=fun _ _ _ _ _ _=>False
abbrev E0:XK:=fun _ _ _=>False
theorem uG {X:Cx}:Gh ic X E0:=fun _ _ _ _ _ _ _ h=>h.elim
structure Fun (K:Fg) (x qual:Str) (st:Stmt) (f:Addr) (fd:FuncData):Prop where
 ex:∃(oc:Value) (od:Option Addr) (kV doc pm:Value) (an:Option Addr) (cdv ct:Value) (osl:Array (Option Value)),
  fd=PySem.W.fnOf x qual (C7 st) (jD st) (dR st) .none kV doc pm an cdv ct/\K.lookup f=some ⟨oc,od,.func fd,osl⟩/\PySem.W.codeIn K cdv qual=true
 kp:PySem.W.keepIn K (.ref f)=true
section
variable {P:Program} {w:World} {K:Fg} {mg:Str->Option Value} {base:Heap}
theorem Fun.ok {x qual:Str} {st:Stmt} {f:Addr} {fd:FuncData} {N ps:List Str} {k:Nat} {sp:Sp} (F:Fun K x qual st f fd) (S:bL N ps (dR st)) (len:∀vs H Q E,sp vs H Q E->vs.length=ps.length)
  (hbody:∀(cdv:Value) (A:Around) (outer:List Env) (s:Shared) (H:Hp) (vs:List V) (Q:VK) (E:XK),Room k (A.deeper (envOfC qual (dR st) s.heap.objs.size f cdv))->sp vs H Q E ->
   ∃t,PSs (et ic P w K mg base N qual (dR st) f cdv A outer s H E).nox (jD st) t/\t { nx:=fun _ H'=>Q .non H',rt:=Q } (start N vs) H):dg P w K mg base ic (k+1) f fd ps sp:=by
 obtain ⟨oc,od,kV,doc,pm,an,cdv,ct,osl,rfl,lk,hcd⟩:=F.ex;refine zH lk hcd S len fun A outer s H vs Q E hr hsp=>?_
 obtain ⟨t,h,q⟩:=hbody cdv A outer s H vs Q E hr hsp;exact ⟨t,h.nox,q⟩
theorem Fun.binds {x qual:Str} {st:Stmt} {f:Addr} {fd:FuncData} {ps:List Str} (F:Fun K x qual st f fd)
  (h:∀(kV doc pm:Value) (an:Option Addr) (cdv ct:Value) (us:List Value),us.length=ps.length->bindArgs (PySem.W.fnOf x qual (C7 st) (jD st) (dR st) .none kV doc pm an cdv ct) ⟨us,[]⟩=pure (ps.zip us)):Binds K fd ps []:=by
 obtain ⟨oc,od,kV,doc,pm,an,cdv,ct,osl,rfl,lk,hcd⟩:=F.ex;exact .all (h kV doc pm an cdv ct)
theorem Cv {x qual:Str} {st:Stmt} {f:Addr} {oc:Value} {od an:Option Addr} {osl:Array (Option Value)} {kV doc pm cdv ct:Value} (l:K.lookup f=some ⟨oc,od,.func (PySem.W.fnOf x qual (C7 st) (jD st) (dR st) .none kV doc pm an cdv ct),osl⟩)
  (c:PySem.W.codeIn K cdv qual=true) (k:PySem.W.keepIn K (.ref f)=true):Fun K x qual st f (PySem.W.fnOf x qual (C7 st) (jD st) (dR st) .none kV doc pm an cdv ct):=⟨⟨oc,od,kV,doc,pm,an,cdv,ct,osl,rfl,l,c⟩,k⟩
end
theorem ja {n:Nat} (h:n<=1000):n<sizeLine:=Nat.lt_of_le_of_lt h (by decide)
theorem gk {A B:Prop} (h:B):if false=true then A else B:=by
 rw [if_neg Bool.false_ne_true];exact h
theorem iK {A B:Prop} (h:A):if true=true then A else B:=by
 rw [if_pos rfl];exact h
def Same (H H':Hp):Prop:=∀b o,H b=some o->H' b=some o
theorem Same.refl (H:Hp):Same H H:=fun _ _ h=>h
theorem Same.trans {H H1 H2:Hp} (a:Same H H1) (b:Same H1 H2):Same H H2:=fun c o h=>b c o (a c o h)
theorem Same.free {H H':Hp} (e:Same H H') {l:Addr} (h:H' l=Option.none):H l=Option.none:=by
 cases q:H l with
 | none=>rfl
 | some o=>
  rw [e l o q] at h
  cases h
theorem Same.seq {K:Fg} {H H':Hp} {a:Addr} {xs:List V} (e:Same H H') (h:SqL K H a xs):SqL K H' a xs:=by
 rcases h with (h | ⟨o,h⟩) | h
 ·exact .inl (.inl (e _ _ h))
 ·exact .inl (.inr ⟨o,e _ _ h⟩)
 ·exact .inr h
section
variable {prog:Program} {w:World} {A:Around} {R:Result->Shared->Prop} {s:Shared}
abbrev yN:Value->Shared->Prop:=fun _ _=>False
theorem j6 {elt target iter:Expr} {ifs:List Expr} {scope:Scope} {pos:Pos} {it acc:Value} {env:Env} (I:Nat->Shared->Prop)
  (turn:∀n s,I n s->wpAny (model prog w) A (pyNext it) (fun r s₁=>match r with
   | none=>R (.ok .next) s₁
   | some v=>wpAny (model prog w) A (letOwnedTupleGo target it v) (fun _ s₁'=>wpAny (model prog w) A (assign target env v) (fun _ s₂=>
     wpAny (model prog w) A (forIn ifs true fun c r=>if r=true then do let ok <-isTrue c env (eval c env);pure (ForInStep.yield ok) else pure (ForInStep.yield r)) (fun ok s₃=>
      if ok=true then wpAny (model prog w) A (eval elt env) (fun x s₄=>
       wpAny (model prog w) A (call (.builtin "list.append") [acc,x]) (fun _ s₅=>∃m,m<n/\I m s₅) yN s₄) yN s₃
      else ∃m,m<n/\I m s₃) yN s₂) yN s₁') yN s₁) yN s)
  (n:Nat) (h:I n s) :
  codeAny (model prog w) A (.compLoop (.ListComp elt [⟨target,iter,ifs,0⟩] scope pos) 0 it acc env) R s:=by
 refine codeAny_loop rfl I (fun n s hI=>?_) n h
 show wpAny _ A ((compTurn (.ListComp elt [⟨target,iter,ifs,0⟩] scope pos) 0 it acc env).onRaise (fun x=>do noteFrame x env;theTreesLotGoes x)) _ _ s
 refine wpAny_noted ?_
 rw [compTurn_list];have F:∀{Z:Value->Shared->Prop},∀(e:Value) (s:Shared),yN e s->Z e s:=fun _ _ x=>x.elim
 refine MN (wpAny_standAt (MN (wpAny_mono (turn n s hI) (fun r s₁ h₁=>?_) F)))
 cases r with
 | none=>exact MO h₁
 | some v=>
  refine MN (wpAny_mono h₁ (fun _ s₁' h₁'=>?_) F)
  refine MN (wpAny_mono h₁' (fun _ s₂ h₂=>MN (wpAny_mono h₂ (fun ok s₃ h₃=>?_) F)) F)
  cases ok with
  | false=>exact MO ⟨rfl,h₃⟩
  | true=>
   exact MN (MN (wpAny_mono h₃ (fun x s₄ h₄=>MN (wpAny_mono h₄ (fun _ s₅ h₅=>MO (MO ⟨rfl,h₅⟩)) F)) F))
end
def cM (env:Env):List (Str×NameKind)->List (Str×Addr)->List (Str×Addr)
 | [],acc=>acc
 | (n,k)::r,acc=>if k==.free then cM env r ((n,(env.cells.lookup n).getD 0)::acc) else cM env r acc
theorem IQ {env:Env}:∀(names:List (Str×NameKind)) (acc:List (Str×Addr)),(∀n,(n,NameKind.free)∈names->∃c,env.cells.lookup n=some c) ->
  (forIn names acc fun (x:Str×NameKind) (cs:List (Str×Addr))=>(match x with | (name,kind)=>if kind==.free then (do let a <-cellOf env name;pure (ForInStep.yield ((name,a)::cs))) else pure (ForInStep.yield cs):Sem (ForInStep (List (Str×Addr)))))=(pure (cM env names acc):Sem (List (Str×Addr)))
 | [],acc,_=>by rw [List.forIn_nil];rfl
 | (n,k)::r,acc,h=>by
  rw [List.forIn_cons];unfold cM;by_cases hk:(k==.free)=true
  ·simp only [hk,if_true]
   have hk':k=.free:=by simpa using hk
   obtain ⟨c,hc⟩:=h n (by rw [hk'];exact mem_cons_self)
   have e:cellOf env n=pure c:=by unfold cellOf;rw [hc]
   rw [e,hc];exact IQ r ((n,c)::acc) fun n' hn=>h n' (MK _ hn)
  ·rw [if_neg hk]
   simp only [hk]
   exact IQ r acc fun n' hn=>h n' (MK _ hn)
theorem fA {env:Env} {scope:Scope} (h:∀n,(n,NameKind.free)∈scope.names->∃c,env.cells.lookup n=some c):closureFor scope env=pure (cM env scope.names []):=by
 have:=IQ (env:=env) scope.names [] h
 unfold closureFor;rw [show (pure (cM env scope.names []):Sem (List (Str×Addr)))=(pure (cM env scope.names []) >>= fun x=>pure x) from rfl,<-this]
theorem Jh {env:Env} {x:Str} {c:Addr}:∀{names:List (Str×NameKind)} {acc:List (Str×Addr)},(∀n,(n,NameKind.free)∈names->∃c,env.cells.lookup n=some c)->(cM env names acc).lookup x=some c->env.cells.lookup x=some c\/acc.lookup x=some c
 | [],_,_,e=>.inr e
 | (n,k)::r,acc,h,e=>by
  unfold cM at e;have h':∀n',(n',NameKind.free)∈r->∃c,env.cells.lookup n'=some c:=fun n' hn=>h n' (MK _ hn)
  by_cases hk:(k==.free)=true
  ·rw [if_pos hk] at e
   rcases Jh h' e with q | q
   ·exact .inl q
   ·rw [lookup_cons] at q
    have hk':k=.free:=by simpa using hk
    obtain ⟨c',hc⟩:=h n (by rw [hk'];exact mem_cons_self)
    cases hx:x==n with
    | true=>
     rw [hx,hc] at q
     cases q;rw [eq_of_beq hx];exact .inl hc
    | false=>
     rw [hx] at q;exact .inr q
  ·rw [if_neg hk] at e
   exact Jh h' e
theorem Dj {env:Env} {x:Str}:∀{names:List (Str×NameKind)} {acc:List (Str×Addr)},(x,NameKind.free)∈names\/(acc.lookup x).isSome=true->((cM env names acc).lookup x).isSome=true
 | [],_,h=>h.elim nofun id
 | (n,k)::r,acc,h=>by
  unfold cM;by_cases hk:(k==.free)=true
  ·rw [if_pos hk]
   refine Dj (names:=r) ?_
   rcases h with h | h
   ·rcases MH h with e | h
    ·cases e
     exact .inr (by rw [lookup_cons];simp)
    ·exact .inl h
   ·right
    rw [lookup_cons]
    cases hx:x==n with
    | true=>rfl
    | false=>exact h
  ·rw [if_neg hk]
   refine Dj (names:=r) ?_
   rcases h with h | h
   ·rcases MH h with e | h
    ·cases e
     exact absurd rfl hk
    ·exact .inl h
   ·exact .inr h
theorem DS {x:Str} {c:Addr}:∀{names:List (Str×NameKind)} {n:Nat} {acc:List (Str×Addr)},(cellsFrom n names acc).lookup x=some c->((x,NameKind.cell)∈names/\n<=c)\/acc.lookup x=some c
 | [],_,_,e=>.inr e
 | (y,k)::r,n,acc,e=>by
  unfold cellsFrom at e;by_cases hk:(k==.cell)=true
  ·rw [if_pos hk] at e
   have hk':k=.cell:=by simpa using hk
   rcases DS e with ⟨q,l⟩ | q
   ·exact .inl ⟨MK _ q,by omega⟩
   ·rw [lookup_cons] at q
    cases hx:x==y with
    | true=>
     rw [hx] at q
     cases q;exact .inl ⟨by rw [eq_of_beq hx,hk'];exact mem_cons_self,MQ _⟩
    | false=>
     rw [hx] at q;exact .inr q
  ·rw [if_neg hk] at e
   rcases DS e with ⟨q,l⟩ | q
   ·exact .inl ⟨MK _ q,l⟩
   ·exact .inr q
theorem Jo {x y:Str} {c:Addr}:∀{names:List (Str×NameKind)} {n:Nat} {acc:List (Str×Addr)},(∀z d,acc.lookup z=some d->d<n)->(∀x y d,acc.lookup x=some d->acc.lookup y=some d->x=y) ->
  (cellsFrom n names acc).lookup x=some c->(cellsFrom n names acc).lookup y=some c->x=y
 | [],_,_,_,hi,e,e'=>hi _ _ _ e e'
 | (z,k)::r,n,acc,hl,hi,e,e'=>by
  unfold cellsFrom at e e'
  by_cases hk:(k==.cell)=true
  ·rw [if_pos hk] at e e'
   refine Jo (names:=r) (n:=n+1) (acc:=(z,n)::acc) (fun a d q=>?_) (fun a b d q q'=>?_) e e'
   ·rw [lookup_cons] at q
    cases hx:a==z with
    | true=>rw [hx] at q;cases q;exact Nat.lt_succ_self _
    | false=>rw [hx] at q;exact Nat.lt_succ_of_lt (hl a d q)
   ·rw [lookup_cons] at q q'
    cases hx:a==z with
    | true=>
     rw [hx] at q
     cases q
     cases hy:b==z with
     | true=>rw [eq_of_beq hx,eq_of_beq hy]
     | false=>rw [hy] at q';exact absurd (hl b n q') (Nat.lt_irrefl _)
    | false=>
     rw [hx] at q
     cases hy:b==z with
     | true=>rw [hy] at q';cases q';exact absurd (hl a n q) (Nat.lt_irrefl _)
     | false=>rw [hy] at q';exact hi a b d q q'
  ·rw [if_neg hk] at e e'
   exact Jo hl hi e e'
theorem IS {env:Env} {x:Str} {c:Addr}:∀{names:List (Str×NameKind)} {acc:List (Str×Addr)},(cM env names acc).lookup x=some c->(x,NameKind.free)∈names\/acc.lookup x=some c
 | [],_,e=>.inr e
 | (n,k)::r,acc,e=>by
  unfold cM at e;by_cases hk:(k==.free)=true
  ·rw [if_pos hk] at e
   have hk':k=.free:=by simpa using hk
   rcases IS e with q | q
   ·exact .inl (MK _ q)
   ·rw [lookup_cons] at q
    cases hx:x==n with
    | true=>rw [eq_of_beq hx,hk'];exact .inl mem_cons_self
    | false=>rw [hx] at q;exact .inr q
  ·rw [if_neg hk] at e
   rcases IS e with q | q
   ·exact .inl (MK _ q)
   ·exact .inr q
theorem G7 {x:Str}:∀{names:List (Str×NameKind)} {n:Nat} {acc:List (Str×Addr)},(x,NameKind.cell)∈names\/(acc.lookup x).isSome=true->((cellsFrom n names acc).lookup x).isSome=true
 | [],_,_,h=>h.elim nofun id
 | (y,k)::r,n,acc,h=>by
  unfold cellsFrom;by_cases hk:(k==.cell)=true
  ·rw [if_pos hk]
   refine G7 (names:=r) ?_
   rcases h with h | h
   ·rcases MH h with e | h
    ·cases e
     exact .inr (by rw [lookup_cons];simp)
    ·exact .inl h
   ·right
    rw [lookup_cons]
    cases hx:x==y with
    | true=>rfl
    | false=>exact h
  ·rw [if_neg hk]
   refine G7 (names:=r) ?_
   rcases h with h | h
   ·rcases MH h with e | h
    ·cases e
     exact absurd rfl hk
    ·exact .inl h
   ·exact .inr h
theorem G6 {x:Str}:∀{names:List (Str×NameKind)} {n:Nat} {acc:List (Str×Addr)},(x,NameKind.cell)∉names->(cellsFrom n names acc).lookup x=acc.lookup x
 | [],_,_,_=>rfl
 | (y,k)::r,n,acc,h=>by
  unfold cellsFrom;have hr:(x,NameKind.cell)∉r:=fun z=>h (MK _ z)
  by_cases hk:(k==.cell)=true
  ·rw [if_pos hk,G6 hr,lookup_cons]
   have hk':k=.cell:=by simpa using hk
   cases hx:x==y with
   | true=>exact absurd (by rw [eq_of_beq hx,hk'];exact mem_cons_self) h
   | false=>rfl
  ·rw [if_neg hk]
   exact G6 hr
theorem G8 {x:Str} {c:Addr}:∀{names:List (Str×NameKind)} {n:Nat} {acc:List (Str×Addr)},(x,NameKind.cell)∈names->(cellsFrom n names acc).lookup x=some c->(cellsFrom n names []).lookup x=some c
 | [],_,_,h,_=>nomatch h
 | (y,k)::r,n,acc,h,e=>by
  unfold cellsFrom at e ⊢
  by_cases hk:(k==.cell)=true
  ·rw [if_pos hk] at e ⊢
   by_cases hr:(x,NameKind.cell)∈r
   ·have:∀{acc acc':List (Str×Addr)},(cellsFrom (n+1) r acc).lookup x=some c->(cellsFrom (n+1) r acc').lookup x=some c:=fun {a a'} q=>by
     have q0:=G8 hr q
     have hs:=G7 (n:=n+1) (acc:=a') (.inl hr)
     obtain ⟨c',hc'⟩:=Option.isSome_iff_exists.mp hs;have q1:=G8 hr hc'
     rw [q0] at q1
     cases q1;exact hc'
    exact this e
   ·rw [G6 hr] at e ⊢
    rw [lookup_cons] at e ⊢
    cases hx:x==y with
    | true=>rw [hx] at e;exact e
    | false=>
     rcases MH h with z | z
     ·cases z
      simp at hx
     ·exact absurd z hr
  ·rw [if_neg hk] at e ⊢
   rcases MH h with z | z
   ·cases z
    exact absurd rfl hk
   ·exact G8 z e
def blk (X:Cx) (scope:Scope) (cells:List (Str×Addr)) (C:Addr) (s₀:Shared) (H₀:Hp) (ex:List Addr):Cx where
 prog:=X.prog
 w:=X.w
 K:=X.K
 mg:=X.mg
 base:=X.base
 A:=X.A
 N:=X.N
 s₀:=s₀
 H₀:=H₀
 env:={ scope:=relabel scope X.env,locals:=C,globals:=X.env.globals,cells:=cells,qual:=X.env.qual,func:=none,code:=X.env.code,frame:=X.env.frame,builtins:=X.env.builtins }
 outer:=X.stack
 stack:=X.stack
 ex:=ex
 fn:=fun x=>scope.names.any fun y=>y.1==x&&y.2==.cell
 calm:=X.calm
 pn:=[]
 xe:=fun _ _=>False
structure dv (N:List Str) (is:List Nat) (osc scope:Scope):Prop where
 kind:scope.kind=.function
 free:∀n,(n,NameKind.free)∈scope.names->osc.names.lookup n=some .cell\/osc.names.lookup n=some .free
 own:∀(i:Nat) (x:Str),N[i]?=some x->(x,NameKind.local)∈scope.names\/(x,NameKind.cell)∈scope.names->i∈is
 loc:∀x∈scope.names,x.2=.local->scope.names.lookup x.1=some .local
 one:∀n,(n,NameKind.free)∈scope.names->(n,NameKind.cell)∉scope.names
def bA (is:List Nat) (σ:St):St:=σ.mapIdx fun i v=>if i∈is then none else v
theorem GM (is:List Nat) (σ:St):(bA is σ).length=σ.length:=by unfold bA;simp
theorem jx {is:List Nat} {σ:St} {i:Nat} {v:V} (h:(bA is σ)[i]?=some (some v)):i∉is/\σ[i]?=some (some v):=by
 unfold bA at h;rw [List.getElem?_mapIdx] at h
 cases e:σ[i]? with
 | none=>rw [e] at h;cases h
 | some o=>
  rw [e] at h;simp only [Option.map_some,Option.some.injEq] at h
  by_cases hi:i∈is
  ·rw [if_pos hi] at h;cases h
  ·rw [if_neg hi] at h;exact ⟨hi,by rw [h]⟩
def HI (σ0 σ2:St):Prop:=σ2.length=σ0.length/\∀(i:Nat) v,σ0[i]?=some (some v)->σ2[i]?=some (some v)
theorem gQ {x:Str} {k:NameKind} {l:List (Str×NameKind)} (h:l.lookup x=some k):(x,k)∈l:=PySem.mem_of_lookup h
theorem Di {scope:Scope} {env:Env} {x:Str} {k:NameKind} (h:(relabel scope env).names.lookup x=some k) :
  (x,k)∈scope.names\/((x,NameKind.free)∈scope.names/\k=.cell):=by
 have h:=gQ h
 unfold relabel at h;obtain ⟨⟨n,k'⟩,hm,e⟩:=List.mem_map.mp h;dsimp only at e;by_cases hc:(k'==NameKind.free&&env.scope.kind==.function&&env.kindOf n==some .cell)=true
 ·rw [if_pos hc] at e
  cases e;have:k'=.free:=by
   simp only [Bool.and_eq_true,beq_iff_eq] at hc
   exact hc.1.1
  exact .inr ⟨this▸hm,rfl⟩
 ·rw [if_neg hc] at e
  cases e;exact .inl hm
def jE (X:Cx) (scope:Scope) (C:Addr):List (Str×Addr):=cellsFrom (C+1) scope.names (cM X.env scope.names [])
section
variable {X:Cx} {pins:List (Addr×Obj)} {σ:St} {H:Hp} {s:Shared} {scope:Scope} {is:List Nat}
theorem Inv.freeCells (I:Inv X pins σ H s) (S:dv X.N is X.env.scope scope):∀n,(n,NameKind.free)∈scope.names->∃c,X.env.cells.lookup n=some c:=fun n hn=>
 I.ok.has n (S.free n hn)
theorem Inv.blkOld (I:Inv X pins σ H s) (S:dv X.N is X.env.scope scope) {x:Str} {c:Addr} (h:(cM X.env scope.names []).lookup x=some c):X.env.cells.lookup x=some c:=by
 rcases Jh (I.freeCells S) h with q | q
 ·exact q
 ·cases q
theorem Inv.block {fp:List Addr} {t':Nat} (I:Inv X pins σ H s) (S:dv X.N is X.env.scope scope) (hf:∀b∈fp,iT X pins H b) (hfs:∀b∈fp,b<s.heap.objs.size) :
  Inv (blk X scope (jE X scope (s.heap.objs.size+1)) (s.heap.objs.size+1) s H fp) [] (bA is σ) (bF H s.heap.objs.size (.lst []))
   { s with heap:=pushCells ((s.heap.push { cls:=.type "list",data:=.seq ([]:List Value).toArray }).push { cls:=.type "dict",data:=.dict #[] }) scope.names,toks:=t' }:=by
 generalize hC:s.heap.objs.size+1=C
 have hDn:H s.heap.objs.size=none:=I.hok.fresh (MQ _)
 have s1:(s.heap.push { cls:=.type "list",data:=.seq ([]:List Value).toArray }).objs.size=C:=by rw [Heap.size_push,hC]
 have kept:∀b o,s.heap.get? b=some o->(pushCells ((s.heap.push { cls:=.type "list",data:=.seq ([]:List Value).toArray }).push { cls:=.type "dict",data:=.dict #[] }) scope.names).get? b=some o:=
  fun b o e=>pushCells_keeps _ _ b o (MP _ (MP _ e))
 have cellsL:∀x c,(jE X scope C).lookup x=some c->((x,NameKind.cell)∈scope.names/\C+1<=c)\/X.env.cells.lookup x=some c:=fun x c e=>by
  rcases DS e with q | q
  ·exact .inl q
  ·exact .inr (I.blkOld S q)
 have oldLt:∀x c,X.env.cells.lookup x=some c->c<s.heap.objs.size:=fun x c e=>by
  obtain ⟨v,q⟩:=I.cell x c e;exact q.lt
 have cok:CellsOk (pushCells ((s.heap.push { cls:=.type "list",data:=.seq ([]:List Value).toArray }).push { cls:=.type "dict",data:=.dict #[] }) scope.names) (C+1)
   (cellsFrom (C+1) scope.names []):=by
  have:=cellsFrom_ok scope.names ((s.heap.push { cls:=.type "list",data:=.seq ([]:List Value).toArray }).push { cls:=.type "dict",data:=.dict #[] }) (C+1) [] ⟨fun _ _ hm=>(nomatch hm),List.Pairwise.nil⟩ (by rw [Heap.size_push,s1];exact MQ _)
  rw [Heap.size_push,s1] at this;exact this
 have lt1:∀{b:Nat},b<s.heap.objs.size->b≠C:=fun {b} h e=>by subst e;rw [<-hC] at h;exact absurd (Nat.lt_of_succ_lt h) (Nat.lt_irrefl _)
 have hDle:s.heap.objs.size<=C:=by rw [<-hC];exact Nat.le_succ _
 have cellAt:∀x c,(jE X scope C).lookup x=some c->(C<c/\(pushCells ((s.heap.push { cls:=.type "list",data:=.seq ([]:List Value).toArray }).push { cls:=.type "dict",data:=.dict #[] }) scope.names).IsCell c none)\/X.env.cells.lookup x=some c:=fun x c e=>by
  rcases cellsL x c e with ⟨q1,q2⟩ | q
  ·exact .inl ⟨q2,(cok.empty x c (PySem.mem_of_lookup (G8 q1 e))).1⟩
  ·exact .inr q
 refine ⟨⟨I.ok.mod,S.kind,I.ok.glob,I.ok.blt,hDle,?_,?_,?_,I.ok.hd,I.ok.frames,.inl rfl,?_,I.bs,Nat.le_trans I.ok.bsz I.sz,?_,?_,I.stack,I.stkFree⟩,rfl,I.bare,?_,?_,?_,?_,?_,fun p hp=>absurd (show p∈([]:List (Addr×Obj)) from hp) (by simp),?_,(GM _ _).trans I.len⟩
 ·-- inj
  intro x y c hx hy;refine Jo (fun z d q=>?_) (fun a b d q q'=>I.ok.inj a b d (I.blkOld S q) (I.blkOld S q')) hx hy
  exact Nat.lt_succ_of_lt (Nat.lt_of_lt_of_le (oldLt z d (I.blkOld S q)) hDle)
 ·-- has
  intro x hx;have q:((jE X scope C).lookup x).isSome=true:=by
   refine G7 ?_
   have hx:(relabel scope X.env).names.lookup x=some .cell\/(relabel scope X.env).names.lookup x=some .free:=hx
   rcases hx with hx | hx
   ·rcases Di hx with z | ⟨z,_⟩
    ·exact .inl z
    ·exact .inr (Dj (.inl z))
   ·rcases Di hx with z | ⟨z,_⟩
    ·exact .inr (Dj (.inl z))
    ·exact .inr (Dj (.inl z))
  exact Option.isSome_iff_exists.mp q
 ·-- cab
  intro x c hx e;have hx:(scope.names.any fun y=>y.1==x&&y.2==NameKind.cell)=true:=hx
  obtain ⟨y,hy,hz⟩:=List.any_eq_true.mp hx;simp only [Bool.and_eq_true,beq_iff_eq] at hz
  have hm:(x,NameKind.cell)∈scope.names:=by rw [<-hz.1,<-hz.2];exact hy
  rcases DS e with ⟨_,q⟩ | q
  ·exact Nat.le_trans hDle (Nat.le_of_succ_le q)
  ·rcases IS q with z | z
   ·exact absurd hm (S.one x z)
   ·cases z
 ·-- exf
  intro b hb;obtain ⟨f0,f1,f2,f3,f4,f5⟩:=hf b hb;refine ⟨lt1 (hfs b hb),fun x c e z=>?_⟩
  rcases cellsL x c e with ⟨_,q⟩ | q
  ·subst z
   exact absurd (Nat.lt_of_lt_of_le (hfs _ hb) hDle) (Nat.not_lt.mpr (Nat.le_of_succ_le q))
  ·exact f4 x c q z
 ·-- noex
  intro b o e hb;obtain ⟨f0,f1,f2,f3,f4,f5⟩:=hf b hb;rcases f3 with z | z
  ·exact I.ok.noex b o e z
  ·exact absurd (Nat.lt_of_lt_of_le (Heap.lt_size e) (Nat.le_trans I.ok.bsz z)) (Nat.lt_irrefl _)
 ·-- exfs
  intro b hb z;obtain ⟨f0,f1,f2,f3,f4,f5⟩:=hf b hb;rcases MH (I.stkSub b z) with e | e
  ·exact f1 e
  ·exact f2 e
 ·-- base
  exact Un.laid kept (MQ _) hDn
 ·-- loc
  refine ⟨fun _=>none,?_,fun i x v e1 e2 e3=>?_⟩
  ·have:=(Heap.Ns.new (s.heap.push { cls:=.type "list",data:=.seq ([]:List Value).toArray }) (.type "dict")).keeps (pushCells_keeps scope.names _)
   rw [s1] at this;exact this
  ·obtain ⟨hni,e2'⟩:=jx e2
   obtain ⟨m,hn,hl⟩:=id I.loc;have hfree:(x,NameKind.free)∈scope.names:=by
    have e3:(relabel scope X.env).names.lookup x=some .local\/(relabel scope X.env).names.lookup x=some .cell\/(relabel scope X.env).names.lookup x=some .free:=e3
    rcases e3 with z | z | z
    ·rcases Di z with y | ⟨y,_⟩
     ·exact absurd (S.own i x e1 (.inl y)) hni
     ·exact y
    ·rcases Di z with y | ⟨y,_⟩
     ·exact absurd (S.own i x e1 (.inr y)) hni
     ·exact y
    ·rcases Di z with y | ⟨y,_⟩
     ·exact y
     ·exact y
   have hk:=S.free x hfree
   obtain ⟨u,r,l⟩:=hl i x v e1 e2' (.inr hk)
   refine ⟨u,r,?_⟩
   rcases l with ⟨k,_⟩ | ⟨k,c,e,z⟩
   ·have k:X.env.scope.names.lookup x=some .local:=k
    rcases hk with q | q<;>(rw [q] at k;cases k)
   ·refine .inr ⟨?_,c,?_,z.keeps kept⟩
    ·have e3:(relabel scope X.env).names.lookup x=some .local\/(relabel scope X.env).names.lookup x=some .cell\/(relabel scope X.env).names.lookup x=some .free:=e3
     rcases e3 with y | y | y
     ·rcases Di y with y' | ⟨_,y'⟩
      ·exact absurd (S.own i x e1 (.inl y')) hni
      ·cases y'
     ·exact .inl y
     ·exact .inr y
    ·have q:=Dj (env:=X.env) (acc:=[]) (.inl hfree)
     obtain ⟨c',hc'⟩:=Option.isSome_iff_exists.mp q;have:=I.blkOld S hc'
     rw [e] at this
     cases this;show (jE X scope C).lookup x=some c
     unfold jE;rw [G6 (S.one x hfree)];exact hc'
 ·-- cell
  intro x c e;rcases cellAt x c e with ⟨_,q⟩ | q
  ·exact ⟨_,q⟩
  ·obtain ⟨v,z⟩:=I.cell x c q
   exact ⟨v,z.keeps kept⟩
 ·-- free
  show bF H s.heap.objs.size (.lst []) C=none
  rw [cO (by rw [<-hC];exact Nat.ne_of_gt (Nat.lt_succ_self _))]
  exact I.hok.fresh hDle
 ·-- freeC
  intro x c e;show bF H s.heap.objs.size (.lst []) c=none
  rcases cellAt x c e with ⟨q,_⟩ | q
  ·have hc:s.heap.objs.size<c:=Nat.lt_of_le_of_lt hDle q
   rw [cO (Nat.ne_of_gt hc)];exact I.hok.fresh (Nat.le_of_lt hc)
  ·rw [cO (Nat.ne_of_lt (oldLt x c q))]
   exact I.freeC x c q
 ·-- hok
  exact I.hok.laid kept (MQ _) ⟨Nat.zero_le _,[],0,.nil,pushCells_keeps _ _ _ _ (MP _ (Heap.get?_push_size _ rfl))⟩
end
section
variable {M:Model} {A:Around} {E:Value->Shared->Prop} {s:Shared}
theorem iJ {scope:Scope} {globals:Addr} {cl:List (Str×Addr)} {qual:Str} {env:Env} {Q:Env->Shared->Prop}
  (hQ:Q (newEnv scope s.heap.objs.size globals (cellsFrom (s.heap.objs.size+1) scope.names cl) qual none .none (some env) builtinsNs) { s with heap:=pushCells (s.heap.push { cls:=.type "dict",data:=.dict #[] }) scope.names }) :
  wpAny M A (newFunctionEnv scope globals cl [] qual none .none (some env)) Q E s:=by
 simp only [newFunctionEnv,Option.isSome_some,if_true]
 refine MN (wpAny_alloc ?_)
 refine MN (wpAny_layCells _ (fun name kind cells=>by cases hkc:kind==NameKind.cell<;>simp [hkc]) _ _ _ _ ?_)
 rw [show ({ s with heap:=s.heap.push { cls:=.type "dict",data:=.dict #[] } }:Shared).heap.objs.size=s.heap.objs.size+1 from Heap.size_push ..]
 rw [List.forIn_nil];exact MN (MO (MO hQ))
end
def PF (X:Cx) (ifs:List Expr) (t:TT):Prop:=
 ∀(pins:List (Addr×Obj)) (s:Shared) (σ:St) (H:Hp) (Q:Bool->Hp->Prop),Inv X pins σ H s->t σ H Q ->
  wpAny (model X.prog X.w) X.A (forIn ifs true fun c r=>if r=true then do let ok <-isTrue c X.env (eval c X.env);pure (ForInStep.yield ok) else pure (ForInStep.yield r)) (TP X pins σ Q) X.xe s
def ou:TT:=fun _ H Q=>Q true H
theorem uz {X:Cx}:PF X [] ou:=fun pins s σ H Q I h=>wpAny_tests_nil ⟨H,I,h⟩
theorem uy {X:Cx} {c:Expr} {t:TT} (h:PT X c t):PF X [c] t:=fun pins s σ H Q I q=>wpAny_tests_one (h pins s σ H Q I q)
def fO (is:List Nat) (wi:TI) (g:TG) (tc:TT) (te:TE):TE:=fun σ H Q=>wi σ H fun J H1=>∀D,H1 D=none->∃W:Nat->Nat->List V->Hp->Prop,(∃m,W 0 m [] (bF H1 D (.lst [])))/\∀k m ys H,W k m ys H ->
 H D=some (.lst ys)/\((J.stop k H/\Q (.ref D) H)\/(J.go k H/\ys.length<sizeLine/\∀x H',J.yld k H x H'->g x (bA is σ) H' fun σ2 H2=>HI (bA is σ) σ2/\tc σ2 H2 fun b H3=>
  if b=true then te σ2 H3 fun v H4=>H4 D=some (.lst ys)/\∃m',m'<m/\W (k+1) m' (ys++[v]) (bF H4 D (.lst (ys++[v]))) else ∃m',m'<m/\W (k+1) m' ys H3))
section
variable {X:Cx} {scope:Scope} {is:List Nat} {tg iter elt:Expr} {ifs:List Expr} {wi:TI} {g:TG} {tc:TT} {te:TE} {pos:Pos}
theorem ju {pins:List (Addr×Obj)} {s:Shared} {σ:St} {H:Hp} {Q:VK} {RR:Value->Addr->Result->Shared->Prop} (S:dv X.N is X.env.scope scope) (hcalm:X.calm=true) (hi:PI X tg iter wi)
  (hg:∀cells C s₀ H₀ ex,PG (blk X scope cells C s₀ H₀ ex) tg g) (hc:∀cells C s₀ H₀ ex,PF (blk X scope cells C s₀ H₀ ex) ifs tc) (he:∀cells C s₀ H₀ ex,PE (blk X scope cells C s₀ H₀ ex) elt te)
  (I:Inv X pins σ H s) (h:fO is wi g tc te σ H Q)
  (hRR:∀D C s' H' m,Inv X pins σ H' s'->s'.heap.Ns C m->Q (.ref D) H'->H' C=none->C≠X.env.locals->X.s₀.heap.objs.size<=C->(∀x c,X.env.cells.lookup x=some c->c≠C)->(∀p∈X.pn++pins,p.1≠C)->RR (.ref D) C (.ok .next) s') :
  wpAny (model X.prog X.w) X.A (eval iter X.env) (fun x s₁=>wpAny (model X.prog X.w) X.A (pyIter x) (fun it s₂=>wpAny (model X.prog X.w) X.A (newList []) (fun acc s₃=>
   wpAny (model X.prog X.w) X.A (newFunctionEnv scope X.env.globals (cM X.env scope.names []) [] X.env.qual none .none (some X.env)) (fun cenv s₄=>
    codeAny (model X.prog X.w) X.A (.compStart (.ListComp elt [⟨tg,iter,ifs,0⟩] scope pos) 0 it acc { cenv with scope:=relabel scope X.env }) (RR acc cenv.locals) s₄) X.xe s₃) X.xe s₂) X.xe s₁) X.xe s:=by
 refine bx (hi pins s σ H _ I h) fun v s1 h1=>bx h1 fun itv s2 h2=>?_
 obtain ⟨it,fp,tn,J,H2,e,I2,T,st2,f2,hW⟩:=h2;subst e;obtain ⟨W,⟨m0,w0⟩,turn⟩:=hW s2.heap.objs.size (I2.hok.fresh (MQ _));refine wpAny_newObj_type (iJ ?_)
 have s1:(s2.heap.push { cls:=.type "list",dict:=none,data:=.seq ([]:List Value).toArray }).objs.size=s2.heap.objs.size+1:=by rw [Heap.size_push]
 dsimp only;rw [s1];have hfs:∀b∈fp,b<s2.heap.objs.size:=fun b hb=>by
  obtain ⟨o,e,_⟩:=T.obj 0 _ st2 b hb;exact Heap.lt_size e
 have I4:=I2.block (t':=s2.toks) S f2 hfs
 generalize hCC:s2.heap.objs.size+1=C at I4 ⊢
 have hDC:s2.heap.objs.size<C:=by rw [<-hCC];exact Nat.lt_succ_self _
 have Hg:=hg (jE X scope C) C s2 H2 fp
 have Hc:=hc (jE X scope C) C s2 H2 fp
 have He:=he (jE X scope C) C s2 H2 fp
 have Ha:=IZ (X:=blk X scope (jE X scope C) C s2 H2 fp)
 have hYcell:∀x c,(blk X scope (jE X scope C) C s2 H2 fp).env.cells.lookup x=some c->s2.heap.objs.size<=c\/X.env.cells.lookup x=some c:=fun x c e=>by
  have e:(cellsFrom (C+1) scope.names (cM X.env scope.names [])).lookup x=some c:=e
  rcases DS e with ⟨_,q⟩ | q
  ·exact .inl (Nat.le_trans (Nat.le_of_lt hDC) (Nat.le_of_succ_le q))
  ·exact .inr (I2.blkOld S q)
 have FY:∀{H':Hp},(∀b∈fp,H' b=none)->∀b∈fp,iT (blk X scope (jE X scope C) C s2 H2 fp) [] H' b:=fun {H'} hn b hb=>by
  obtain ⟨f0,f1,f3,f4,f5,f6⟩:=f2 b hb;refine ⟨hn b hb,Nat.ne_of_lt (Nat.lt_trans (hfs b hb) hDC),fun z=>?_,.inl hb,fun x c e z=>?_,fun p hp=>absurd (show p∈([]:List (Addr×Obj)) from hp) (by simp)⟩
  ·rcases MH (I2.stkSub b z) with e | e
   ·exact f1 e
   ·exact f3 e
  ·rcases hYcell x c e with q | q
   ·rw [z] at q
    exact absurd (Nat.lt_of_lt_of_le (hfs b hb) q) (Nat.lt_irrefl _)
   ·exact f5 x c q z
 have hCx:∀x c,X.env.cells.lookup x=some c->c≠C:=fun x c e z=>by
  obtain ⟨v,q⟩:=I2.cell x c e;have:=q.lt
  rw [z] at this;exact absurd (Nat.lt_trans this hDC) (Nat.lt_irrefl _)
 have hCp:∀p∈X.pn++pins,p.1≠C:=fun p hp z=>by
  have:=Heap.lt_size (I2.pin p hp).1
  rw [z] at this;exact absurd (Nat.lt_trans this hDC) (Nat.lt_irrefl _)
 have out:∀{σ':St} {H':Hp} {s':Shared},Inv (blk X scope (jE X scope C) C s2 H2 fp) [] σ' H' s'->Inv X pins σ H' s':=fun {σ' H' s'} J=>
  I2.call' (ch:=fp) J.os J.base J.hok J.bare fun b hb=>by
   obtain ⟨f0,f1,f3,f4,f5,f6⟩:=f2 b hb;exact ⟨f4,f1,f5,f6⟩
 have loop:∀s₃:Shared,s₃={ s2 with heap:=pushCells ((s2.heap.push { cls:=.type "list",data:=.seq ([]:List Value).toArray }).push { cls:=.type "dict",data:=.dict #[] }) scope.names } ->
   codeAny (model X.prog X.w) X.A (.compLoop (.ListComp elt [⟨tg,iter,ifs,0⟩] scope pos) 0 (.ref it) (.ref s2.heap.objs.size) (blk X scope (jE X scope C) C s2 H2 fp).env) (RR (.ref s2.heap.objs.size) C) s₃:=by
  rintro s₃ rfl
  refine j6 (fun n s'=>∃k ys H',Inv (blk X scope (jE X scope C) C s2 H2 fp) [] (bA is σ) H' s'/\tn k s'.heap/\(∀b∈fp,H' b=none)/\W k n ys H') ?_ m0
   ⟨0,[],_,I4,T.keep 0 _ _ st2 fun b _ o e=>pushCells_keeps _ _ b o (MP _ (MP _ e)),fun b hb=>by rw [cO (Nat.ne_of_lt (hfs b hb))];exact (f2 b hb).1,w0⟩
  rintro n s3 ⟨k,ys,H3,I3,st3,fr3,w3⟩
  obtain ⟨hD3,hcase⟩:=turn k n ys H3 w3;rcases hcase with ⟨stop,qn⟩ | ⟨go,hlen,step⟩
  ·refine bx (T.done (blk X scope (jE X scope C) C s2 H2 fp) rfl rfl rfl hcalm k [] s3 (bA is σ) H3 yN I3 (FY fr3) st3 stop) fun r s4 ⟨hr,I4⟩=>?_
   subst hr;obtain ⟨m,hn,_⟩:=id I4.loc;exact hRR _ C s4 H3 m (out I4) hn qn I4.free (fun z=>Nat.lt_irrefl _ (Nat.lt_trans (Nat.lt_of_lt_of_eq hDC z) I2.lt)) (Nat.le_trans I2.sz (Nat.le_of_lt hDC)) hCx hCp
  ·refine bx (T.item (blk X scope (jE X scope C) C s2 H2 fp) rfl rfl rfl hcalm k [] s3 (bA is σ) H3 yN I3 (FY fr3) st3 go) fun r s4 ⟨u,hr,h4⟩=>?_
   subst hr;refine bx h4 fun _ s5 ⟨x,H5,I5,r5,y5,st5,fr5⟩=>?_
   have I5':=I5.pinned (FY fr5) (T.obj _ _ st5)
   refine bx (Hg _ s5 (bA is σ) H5 x u _ I5' r5 (step x H5 y5)) fun _ s6 ⟨σ6,H6,I6,le6,q6⟩=>?_
   refine bx (Hc _ s6 σ6 H6 _ I6 q6) fun ok s7 ⟨H7,I7,q7⟩=>?_
   have again:∀{H8:Hp} {s8:Shared} {ys':List V},Inv (blk X scope (jE X scope C) C s2 H2 fp) ([]++DA fp s5.heap) σ6 H8 s8->(∃m',m'<n/\W (k+1) m' ys' H8) ->
     ∃m,m<n/\∃k ys H',Inv (blk X scope (jE X scope C) C s2 H2 fp) [] (bA is σ) H' s8/\tn k s8.heap/\(∀b∈fp,H' b=none)/\W k m ys H':=fun {H8 s8 ys'} I8 ⟨m',hm,w8⟩=>by
    refine ⟨m',hm,k+1,ys',H8,(I8.weak le6.1.symm le6.2).unpinned,T.keep _ _ _ st5 fun b hb o e=>(I8.pin (b,o) (ME _ (ME _ (G0 hb e)))).1,fun b hb=>?_,w8⟩
    obtain ⟨o,e,d⟩:=T.obj _ _ st5 b hb;exact (I8.pin (b,o) (ME _ (ME _ (G0 hb e)))).2.1
   cases ok with
   | false=>
    rw [if_neg Bool.false_ne_true] at q7;exact again I7 q7
   | true=>
    rw [if_pos rfl] at q7;refine bx (He _ s7 σ6 H7 _ I7 q7) fun y s8 ⟨v8,H8,I8,r8,q8⟩=>?_
    obtain ⟨hD8,q8⟩:=q8;refine bx (Ha _ s8 σ6 H8 (.ref s2.heap.objs.size) [v8] (.ref s2.heap.objs.size) [y] (fun _ H9=>∃m',m'<n/\W (k+1) m' (ys++[v8]) H9) I8 rfl (.cons r8 .nil) ⟨_,ys,v8,rfl,rfl,hD8,hlen,q8⟩) fun _ s9 ⟨_,H9,I9,_,q9⟩=>?_
    exact again I9 q9
 exact codeAny_compStart_list (loop _ rfl) (T.self X.A 0 _ _ _ (T.keep 0 _ _ st2 fun b _ o e=>pushCells_keeps _ _ b o (MP _ (MP _ e))) (loop _ rfl))
theorem o6 (S:dv X.N is X.env.scope scope) (hcalm:X.calm=true) (hi:PI X tg iter wi)
  (hg:∀cells C s₀ H₀ ex,PG (blk X scope cells C s₀ H₀ ex) tg g) (hc:∀cells C s₀ H₀ ex,PF (blk X scope cells C s₀ H₀ ex) ifs tc) (he:∀cells C s₀ H₀ ex,PE (blk X scope cells C s₀ H₀ ex) elt te)
  (hs:∀x,foldedSetIterable iter X.env x=pure x:=by intro _;rfl):PE X (.ListComp elt [⟨tg,iter,ifs,0⟩] scope pos) (fO is wi g tc te):=by
 intro pins s σ H Q I h;rw [eval_ListComp];refine wpAny_comprehension_free (use:=none) rfl hs (fA (I.freeCells S)) S.kind S.loc (ju (RR:=fun acc C=>compPost (model X.prog X.w) X.A X.xe none (EP X pins σ Q) acc C) S hcalm hi hg hc he I h ?_)
 intro D C s' H' m I' hn q n1 n2 n3 n4 n5
 refine ⟨m,hn,fun h' hs'=>?_⟩
 exact ⟨.ref D,H',I'.turned (t':=s'.toks) (fun b o hb e=>(hs'.2 b hb).trans e) n1 n2 (.inr n3) n4 n5,rfl,q⟩
theorem Ji {i:Nat} {y:Str} {pos' spos:Pos} (hN:X.N.Nodup) (hy:X.N[i]?=some y) (hl:X.env.scope.names.lookup y=some .local) (S:dv X.N is X.env.scope scope) (hcalm:X.calm=true) (hi:PI X tg iter wi)
  (hg:∀cells C s₀ H₀ ex,PG (blk X scope cells C s₀ H₀ ex) tg g) (hc:∀cells C s₀ H₀ ex,PF (blk X scope cells C s₀ H₀ ex) ifs tc) (he:∀cells C s₀ H₀ ex,PE (blk X scope cells C s₀ H₀ ex) elt te)
  (hsw:swapsWith (.ListComp elt [⟨tg,iter,ifs,0⟩] scope pos) (some (.Name y pos')) spos.line X.env=pure true)
  (hs:∀x,foldedSetIterable iter X.env x=pure x:=by intro _;rfl):PS X (.Assign [.Name y pos'] (.ListComp elt [⟨tg,iter,ifs,0⟩] scope pos) spos) (fun D σ H=>fO is wi g tc te σ H fun v H'=>D.nx (σ.set i (some v)) H'):=by
 intro pins s σ H Ds I h;rw [exec_Assign_Name_used _ _ _ _ hsw];refine MN (wpAny_standAt (MN ?_))
 show wpAny _ X.A (do let _ <-comprehension (.ListComp elt [⟨tg,iter,ifs,0⟩] scope pos) scope X.env _ (newList []) false (eval iter X.env) (some (assign (.Name y pos') X.env))) _ _ s
 refine MN (wpAny_mono (wpAny_comprehension_free (use:=some (assign (.Name y pos') X.env)) (Q:=fun _ s'=>SP X pins Ds .next s') rfl hs (fA (I.freeCells S)) S.kind S.loc
  (ju (RR:=fun acc C=>compPost (model X.prog X.w) X.A X.xe (some (assign (.Name y pos') X.env)) (fun _ s'=>SP X pins Ds .next s') acc C) S hcalm hi hg hc he I h ?_)) (fun _ s' hq=>MO (MO hq)) fun _ _ e=>e)
 intro D C s' H' m I' hn q n1 n2 n3 n4 n5
 show wpAny _ X.A (assign (.Name y pos') X.env (.ref D)) _ _ _
 refine wpAny_assign_Name (i9 (v:=.ref D) I' hN hy (.inl hl) rfl (fun s'' I'' hch=>?_) (.inr hl))
 obtain ⟨a,hsb,ha⟩:=hch;have hCa:C≠a:=by
  rcases ha with e | e
  ·rw [e];exact n2
  ·exact (n4 y a e).symm
 refine ⟨m,hn.sameBut hsb hCa,fun h' hs'=>?_⟩
 exact ⟨_,H',I''.turned (t':=s''.toks) (fun b o hb e=>(hs'.2 b hb).trans e) n1 n2 (.inr n3) n4 n5,q⟩
end
end L2
namespace T
open PySem PySem.Spec L2
open PyProof.Rows hiding St
abbrev D:=PyData
inductive Rep (K:Fg) (H:Hp):V->D->Prop where
 | non:Rep K H .non .none
 | bl (b:Bool):Rep K H (.bl b) (.bool b)
 | int (i:Int):Rep K H (.int i) (.int i)
 | str (x:Str):Rep K H (.str x) (.str x)
 | lst {p:Addr} {vs:List V} {ds:List D}:SqL K H p vs->vs.length=ds.length->(∀(i:Nat) v d,vs[i]?=some v->ds[i]?=some d->Rep K H v d)->Rep K H (.ref p) (.list ds)
 | tup {p:Addr} {vs:List V} {ds:List D}:SqT K H p vs->vs.length=ds.length->(∀(i:Nat) v d,vs[i]?=some v->ds[i]?=some d->Rep K H v d)->Rep K H (.ref p) (.tuple ds)
theorem mr {K:Fg} {H H':Hp} {a:Addr} {xs:List V} (e:Same H H') (h:SqT K H a xs):SqT K H' a xs:=by
 rcases h with (h | ⟨o,h⟩) | h
 ·exact .inl (.inl (e _ _ h))
 ·exact .inl (.inr ⟨o,e _ _ h⟩)
 ·exact .inr h
theorem Rep.mono {K:Fg} {H H':Hp} {v:V} {d:D} (e:Same H H') (h:Rep K H v d):Rep K H' v d:=by
 induction h with
 | non=>exact .non
 | bl b=>exact .bl b
 | int i=>exact .int i
 | str x=>exact .str x
 | lst hs hl _ ih=>exact .lst (e.seq hs) hl ih
 | tup hs hl _ ih=>exact .tup (mr e hs) hl ih
def Reps (K:Fg) (H:Hp) (vs:List V) (ds:List D):Prop:=vs.length=ds.length/\∀(i:Nat) v d,vs[i]?=some v->ds[i]?=some d->Rep K H v d
def bW (H:Hp) (O:List Addr):Hp:=fun a=>if a∈O then none else H a
theorem hid_le {H:Hp} {O:List Addr}:Same (bW H O) H:=fun b o h=>by
 unfold bW at h;split at h
 ·cases h
 ·exact h
theorem wz {H:Hp} {O:List Addr} {a:Addr} {o:HO} (h:H a=some o) (n:a∉O):bW H O a=some o:=by
 unfold bW;rw [if_neg n];exact h
theorem sq {H H':Hp} {O O':List Addr} (e:Same H H') (h:∀a∈O',a∈O\/H a=none):Same (bW H O) (bW H' O'):=fun b o q=>by
 unfold bW at q ⊢
 split at q
 ·cases q
 ·rename_i hn
  have hb:b∉O':=fun z=>(h b z).elim hn fun z=>by rw [z] at q;cases q
  rw [if_neg hb];exact e b o q
theorem Ig {H:Hp} {O:List Addr} {p:Addr} {o:HO} (h:p∈O):bW (bF H p o) O=bW H O:=by
 funext b
 unfold bW;split
 ·rfl
 ·rename_i hb
  exact cO fun e=>hb (e▸h)
theorem DE {H:Hp}:bW H []=H:=by
 funext b;unfold bW;simp
theorem gB {H:Hp} {p:Addr} {o:HO} (h:H p=none):Same H (bF H p o):=fun b u e=>by
 rw [cO (kc e h)];exact e
inductive Sh where
 | view | leaf | lst (s:Sh) | tup (ss:List Sh)
def Sh.isView:Sh->Bool
 | .view=>true
 | _=>false
inductive Own (K:Fg) (O:List Addr) (H:Hp):Sh->List Addr->V->D->Prop where
 | view {v d}:Rep K H v d->Own K O H .view [] v d
 | leaf {v d}:Rep K (bW H O) v d->Own K O H .leaf [] v d
 | lst {s:Sh} {p:Addr} {vs:List V} {ds:List D} {Fs:List (List Addr)}:s.isView=false->H p=some (.lst vs)->vs.length=ds.length->Fs.length=ds.length->(p::Fs.flatten).Nodup ->
   (∀(i:Nat) v d F,vs[i]?=some v->ds[i]?=some d->Fs[i]?=some F->Own K O H s F v d)->Own K O H (.lst s) (p::Fs.flatten) (.ref p) (.list ds)
 | tup {ss:List Sh} {p:Addr} {vs:List V} {ds:List D} {Fs:List (List Addr)}:(∀s∈ss,s.isView=false)->H p=some (.tup vs)->p∉O->vs.length=ds.length->Fs.length=ds.length->ss.length=ds.length->Fs.flatten.Nodup ->
   (∀(i:Nat) v d F s,vs[i]?=some v->ds[i]?=some d->Fs[i]?=some F->ss[i]?=some s->Own K O H s F v d)->Own K O H (.tup ss) Fs.flatten (.ref p) (.tuple ds)
theorem Own.mono {K:Fg} {O O':List Addr} {H H':Hp} {s:Sh} {G:List Addr} {v:V} {d:D} (h:Own K O H s G v d) (e:Same H H') (hO:∀a∈O',a∈O\/H a=none):Own K O' H' s G v d:=by
 induction h with
 | view r=>exact .view (r.mono e)
 | leaf r=>exact .leaf (r.mono (sq e hO))
 | lst hv hp hl hf nd _ ih=>exact .lst hv (e _ _ hp) hl hf nd fun i v d F h1 h2 h3=>ih i v d F h1 h2 h3
 | tup hv hp hn hl hf hs nd _ ih=>exact .tup hv (e _ _ hp) (fun z=>(hO _ z).elim hn fun z=>by rw [z] at hp;cases hp) hl hf hs nd fun i v d F s h1 h2 h3 h4=>ih i v d F s h1 h2 h3 h4
theorem Own.rep {K:Fg} {O:List Addr} {H:Hp} {s:Sh} {G:List Addr} {v:V} {d:D} (h:Own K O H s G v d):Rep K H v d:=by
 induction h with
 | view r=>exact r
 | leaf r=>exact r.mono hid_le
 | lst hv hp hl hf _ q ih=>
  refine .lst (.of hp) hl fun i v d h1 h2=>?_
  rename_i Fs _;obtain ⟨F,hF⟩:∃F,Fs[i]?=some F:=by
   have:=(MM h2).1
   exact ⟨Fs[i]'(by omega),MI _⟩
  exact ih i v d F h1 h2 hF
 | tup hv hp hn hl hf hs _ q ih=>
  refine .tup (.of hp) hl fun i v d h1 h2=>?_
  rename_i ss _ _ _ Fs _;have hi:=(MM h2).1
  exact ih i v d (Fs[i]'(by omega)) (ss[i]'(by omega)) h1 h2 (MI _) (MI _)
theorem mB {Fs:List (List Addr)} {i:Nat} {F:List Addr} {a:Addr} (h:Fs[i]?=some F) (ha:a∈F):a∈Fs.flatten:=List.mem_flatten.mpr ⟨F,mem_of_getElem? h,ha⟩
theorem Own.freeze {K:Fg} {O O':List Addr} {H:Hp} {s:Sh} {G:List Addr} {v:V} {d:D} (h:Own K O H s G v d) (hs:s.isView=false) (h1:∀a∈O',a∈O) (h2:∀a∈G,a∉O'):Rep K (bW H O') v d:=by
 induction h with
 | view r=>cases hs
 | leaf r=>exact r.mono (sq (Same.refl _) fun a z=>.inl (h1 a z))
 | lst hv hp hl hf _ q ih=>
  refine .lst (.of (wz hp (h2 _ mem_cons_self))) hl fun i v d e1 e2=>?_
  rename_i Fs _;obtain ⟨F,hF⟩:∃F,Fs[i]?=some F:=by
   have:=(MM e2).1
   exact ⟨Fs[i]'(by omega),MI _⟩
  exact ih i v d F e1 e2 hF hv fun a ha=>h2 a (MK _ (mB hF ha))
 | tup hv hp hn hl hf hs' _ q ih=>
  refine .tup (.of (wz hp fun z=>hn (h1 _ z))) hl fun i v d e1 e2=>?_
  rename_i ss _ _ _ Fs _;have hi:=(MM e2).1
  have e3:Fs[i]?=some (Fs[i]'(by omega)):=MI _
  exact ih i v d _ (ss[i]'(by omega)) e1 e2 e3 (MI _) (hv _ (getElem_mem _)) fun a ha=>h2 a (mB e3 ha)
theorem Own.mut {K:Fg} {O:List Addr} {H:Hp} {s:Sh} {G:List Addr} {v:V} {d:D} {p:Addr} {o:HO} {xs:List V} (h:Own K O H s G v d) (hs:s.isView=false) (hp:p∈O) (hg:p∉G) (hl:H p=some (.lst xs)):Own K O (bF H p o) s G v d:=by
 induction h with
 | view r=>cases hs
 | leaf r=>refine .leaf ?_;rw [Ig hp];exact r
 | lst hv hq hl' hf nd q ih=>
  refine .lst hv ?_ hl' hf nd fun i v d F e1 e2 e3=>ih i v d F e1 e2 e3 hv fun z=>hg (MK _ (mB e3 z))
  rw [cO (fun z=>hg (by rw [<-z];exact mem_cons_self))]
  exact hq
 | tup hv hq hn hl' hf hs' nd q ih=>
  refine .tup hv ?_ hn hl' hf hs' nd fun i v d F s e1 e2 e3 e4=>ih i v d F s e1 e2 e3 e4 (hv _ (mem_of_getElem? e4)) fun z=>hg (mB e3 z)
  rw [cO (fun z=>by rw [z,hl] at hq;cases hq)]
  exact hq
inductive Sc:V->D->Prop where
 | non:Sc .non .none
 | bl (b:Bool):Sc (.bl b) (.bool b)
 | int (i:Int):Sc (.int i) (.int i)
 | str (x:Str):Sc (.str x) (.str x)
theorem Sc.rep {K:Fg} {H:Hp} {v:V} {d:D} (h:Sc v d):Rep K H v d:=by cases h<;>constructor
def bo:D->Bool
 | .list _=>false
 | .tuple _=>false
 | .dict _=>false
 | _=>true
theorem Rep.sc {K:Fg} {H:Hp} {v:V} {d:D} (h:Rep K H v d) (s:bo d=true):Sc v d:=by
 cases h with
 | non=>exact .non
 | bl b=>exact .bl b
 | int i=>exact .int i
 | str x=>exact .str x
 | lst _ _ _=>cases s
 | tup _ _ _=>cases s
structure PV where
 s:Sh
 d:D
abbrev Ev:=List (Option PV)
@[simp] abbrev MS (d:PySem.PyData):Option PV:=some ⟨.leaf,d⟩
inductive Out (α:Type) where
 | ok (a:α) (e:Ev)
 | er (c:Str) (e:Ev)
 | no
def Out.bind {α β:Type} (x:Out α) (k:α->Ev->Out β):Out β:=match x with
 | .ok a e=>k a e
 | .er c e=>.er c e
 | .no=>.no
structure EnvOk (K:Fg) (He:Hp) (O:List Addr) (Fs:List (List Addr)) (H:Hp) (σ:St) (Γ:Ev):Prop where
 len1:σ.length=Γ.length
 len2:Fs.length=Γ.length
 same:Same He H
 nd:(O++Fs.flatten).Nodup
 inH:∀a∈O++Fs.flatten,H a≠none
 fresh:∀a∈Fs.flatten,He a=none
 slot:∀(i:Nat) (p:PV),Γ[i]?=some (some p)->p.s.isView=false/\∃v F,σ[i]?=some (some v)/\Fs[i]?=some F/\Own K (O++Fs.flatten) H p.s F v p.d
section
variable {K:Fg} {He H H':Hp} {O O' G:List Addr} {Fs:List (List Addr)} {σ:St} {Γ:Ev}
theorem EnvOk.grow (h:EnvOk K He O Fs H σ Γ) (e:Same H H'):EnvOk K He O Fs H' σ Γ:=
 ⟨h.len1,h.len2,h.same.trans e,h.nd,fun a ha z=>h.inH a ha (e.free z),h.fresh,fun i p q=>let ⟨a,v,F,b,c,d⟩:=h.slot i p q;⟨a,v,F,b,c,d.mono e fun _ z=>.inl z⟩⟩
theorem EnvOk.drop (h:EnvOk K He O Fs H σ Γ) (hs:∀a∈O',a∈O) (nd:O'.Nodup):EnvOk K He O' Fs H σ Γ:=by
 obtain ⟨n1,n2,n3⟩:=ML h.nd;refine ⟨h.len1,h.len2,h.same,List.nodup_append.mpr ⟨nd,n2,fun a ha b hb=>n3 a (hs a ha) b hb⟩,fun a ha=>h.inH a ?_,h.fresh,fun i p q=>let ⟨a,v,F,b,c,d⟩:=h.slot i p q;⟨a,v,F,b,c,d.mono (Same.refl _) fun a z=>.inl ?_⟩⟩
 ·rcases MG ha with z | z
  ·exact MF _ (hs a z)
  ·exact ME _ z
 ·rcases MG z with z | z
  ·exact MF _ (hs a z)
  ·exact ME _ z
theorem EnvOk.dropL (h:EnvOk K He (G++O) Fs H σ Γ):EnvOk K He O Fs H σ Γ:=h.drop (fun a z=>ME _ z) (ML (ML h.nd).1).2.1
theorem EnvOk.hide (h:EnvOk K He O Fs H σ Γ) (e:Same H H') (nd:G.Nodup) (hn:∀a∈G,H a=none) (hi:∀a∈G,H' a≠none):EnvOk K He (G++O) Fs H' σ Γ:=by
 refine ⟨h.len1,h.len2,h.same.trans e,?_,fun a ha=>?_,h.fresh,fun i p q=>let ⟨a,v,F,b,c,d⟩:=h.slot i p q;⟨a,v,F,b,c,d.mono e fun a z=>?_⟩⟩
 ·rw [append_assoc]
  exact List.nodup_append.mpr ⟨nd,h.nd,fun a ha b hb z=>h.inH b hb (by rw [<-z];exact hn a ha)⟩
 ·rw [append_assoc] at ha
  rcases MG ha with z | z
  ·exact hi a z
  ·exact fun q=>h.inH a z (e.free q)
 ·rw [append_assoc] at z
  rcases MG z with z | z
  ·exact .inr (hn a z)
  ·exact .inl z
end
structure Aft (K:Fg) (He:Hp) (O:List Addr) (Fs:List (List Addr)) (H:Hp) (σ:St) (Γ':Ev) (p:PV) (v:V) (H':Hp) (G:List Addr) (Fs':List (List Addr)):Prop where
 same:Same H H'
 env:EnvOk K He (G++O) Fs' H' σ Γ'
 new:∀a∈G++Fs'.flatten,a∈Fs.flatten\/H a=none
 own:Own K (G++O++Fs'.flatten) H' p.s G v p.d
abbrev XW:=Str->St->Hp->Prop
abbrev F1:=Ev->Out PV
def tE (K:Fg) (W:XW) (f:F1):TE:=fun σ H Q=>∃He O Fs Γ,EnvOk K He O Fs H σ Γ/\match f Γ with
 | .ok p Γ'=>∀v H' G Fs',Aft K He O Fs H σ Γ' p v H' G Fs'->Q v H'
 | .er c Γ'=>∀H' Fs',Same H H'->EnvOk K He O Fs' H' σ Γ'->W c σ H'
 | .no=>False
def Wants (K:Fg) (W:XW) (He:Hp) (O:List Addr) (Fs:List (List Addr)) (H:Hp) (σ:St) (Q:VK) (o:Out PV):Prop:=match o with
 | .ok p Γ'=>∀v H' G Fs',Aft K He O Fs H σ Γ' p v H' G Fs'->Q v H'
 | .er c Γ'=>∀H' Fs',Same H H'->EnvOk K He O Fs' H' σ Γ'->W c σ H'
 | .no=>False
section
variable {K:Fg} {W:XW} {He H:Hp} {O:List Addr} {Fs:List (List Addr)} {σ:St} {Γ Γ':Ev} {Q:VK}
theorem Wants.scal {H2:Hp} {O2:List Addr} {Fs2:List (List Addr)} {v:V} {d:D} (h:Wants K W He O Fs H σ Q (.ok ⟨.leaf,d⟩ Γ')) (s:Sc v d) (e:Same H H2) (E:EnvOk K He O2 Fs2 H2 σ Γ')
  (hO:∀a∈O,a∈O2) (nd:O.Nodup) (new:∀a∈Fs2.flatten,a∈Fs.flatten\/H a=none):Q v H2:=
 h v H2 [] Fs2 ⟨e,by rw [nil_append];exact E.drop hO nd,by rw [nil_append];exact new,.leaf s.rep⟩
theorem EnvOk.ndO (E:EnvOk K He O Fs H σ Γ):O.Nodup:=(ML E.nd).1
end
def aS {β:Type} (f:F1) (k:PV->Ev->Out β):Ev->Out β:=fun Γ=>(f Γ).bind k
section
variable {K:Fg} {W:XW} {σ:St} {H:Hp} {Q:VK} {fa fb:F1}
theorem C3 {k:PV->F1} {R:VK} (h:tE K W (aS fa k) σ H Q)
  (hk:∀He O Fs Γ1 p v H1 G Fs1,O.Nodup->Aft K He O Fs H σ Γ1 p v H1 G Fs1->Wants K W He O Fs H σ Q (k p Γ1)->R v H1):tE K W fa σ H R:=by
 obtain ⟨He,O,Fs,Γ,E,h⟩:=h;refine ⟨He,O,Fs,Γ,E,?_⟩
 unfold aS at h
 cases e:fa Γ with
 | ok p Γ1=>
  rw [e] at h;exact fun v H' G Fs' A=>hk He O Fs Γ1 p v H' G Fs' E.ndO A h
 | er c Γ1=>
  rw [e] at h;exact h
 | no=>
  rw [e] at h;exact h
theorem C4 {k:PV->PV->F1} {R:V->V->Hp->Prop} (h:tE K W (aS fa fun p=>aS fb fun q=>k p q) σ H Q)
  (hk:∀He O Fs Γ2 p q v u H1 H2 G1 G2 Fs2,O.Nodup->Same H H1->Same H1 H2->EnvOk K He (G2++(G1++O)) Fs2 H2 σ Γ2->(∀a∈G2++(G1++Fs2.flatten),a∈Fs.flatten\/H a=none) ->
   Own K (G2++(G1++O)++Fs2.flatten) H2 p.s G1 v p.d->Own K (G2++(G1++O)++Fs2.flatten) H2 q.s G2 u q.d->Wants K W He O Fs H σ Q (k p q Γ2)->R v u H2) :
  tE K W fa σ H fun v H1=>tE K W fb σ H1 fun u H2=>R v u H2:=by
 refine C3 (k:=fun p=>aS fb fun q=>k p q) h fun He O Fs Γ1 p v H1 G1 Fs1 nd A1 h1=>?_
 refine ⟨He,G1++O,Fs1,Γ1,A1.env,?_⟩
 unfold aS at h1
 cases e:fb Γ1 with
 | ok q Γ2=>
  rw [e] at h1;intro u H2 G2 Fs2 A2;have new:∀a∈G2++(G1++Fs2.flatten),a∈Fs.flatten\/H a=none:=fun a ha=>by
   have up:a∈G1++Fs1.flatten->a∈Fs.flatten\/H a=none:=A1.new a
   rcases MG ha with z | z
   ·rcases A2.new a (MF _ z) with y | y
    ·exact up (ME _ y)
    ·exact .inr (A1.same.free y)
   ·rcases MG z with z | z
    ·exact up (MF _ z)
    ·rcases A2.new a (ME _ z) with y | y
     ·exact up (ME _ y)
     ·exact .inr (A1.same.free y)
  refine hk He O Fs Γ2 p q v u H1 H2 G1 G2 Fs2 nd A1.same A2.same A2.env new (A1.own.mono A2.same fun a ha=>?_) A2.own h1
  rcases MG ha with z | z
  ·rcases MG z with z | z
   ·rcases A2.new a (MF _ z) with y | y
    ·exact .inl (ME _ y)
    ·exact .inr y
   ·exact .inl (MF _ z)
  ·rcases A2.new a (ME _ z) with y | y
   ·exact .inl (ME _ y)
   ·exact .inr y
 | er c Γ2=>
  rw [e] at h1;intro H2 Fs2 hs E2;exact h1 H2 Fs2 (A1.same.trans hs) E2.dropL
 | no=>
  rw [e] at h1;exact h1
end
section
variable {X:Cx} {e:Expr}
theorem aP {t t':TE} (h:PE X e t) (i:∀σ H Q,t' σ H Q->t σ H Q):PE X e t':=fun pins s σ H Q I q=>h pins s σ H Q I (i σ H Q q)
theorem jC {t t':TT} (h:PT X e t) (i:∀σ H Q,t' σ H Q->t σ H Q):PT X e t':=fun pins s σ H Q I q=>h pins s σ H Q I (i σ H Q q)
theorem vU {t t':TT} (h:PW X e t) (i:∀σ H Q,t' σ H Q->t σ H Q):PW X e t':=fun whole pins s σ H Q I q=>h whole pins s σ H Q I (i σ H Q q)
theorem pM {es:List Expr} {t t':TA} (h:PA X es t) (i:∀σ H Q,t' σ H Q->t σ H Q):PA X es t':=fun pos pins s σ H Q I q=>h pos pins s σ H Q I (i σ H Q q)
theorem cN {st:Stmt} {t t':TS} (h:PS X st t) (i:∀D σ H,t' D σ H->t D σ H):PS X st t':=fun pins s σ H D I q=>h pins s σ H D I (i D σ H q)
theorem Gg {st:List Stmt} {t t':TS} (h:PSs X st t) (i:∀D σ H,t' D σ H->t D σ H):PSs X st t':=fun pins s σ H D I q=>h pins s σ H D I (i D σ H q)
theorem FZ {es:List Expr} {t t':TT} (h:PF X es t) (i:∀σ H Q,t' σ H Q->t σ H Q):PF X es t':=fun pins s σ H Q I q=>h pins s σ H Q I (i σ H Q q)
end
theorem Jn {h:Heap}:∀{vs:List V} {its:List Value} {ds:List D},Vals vs its->vs.length=ds.length->(∀(i:Nat) v d,vs[i]?=some v->ds[i]?=some d->∀u,RelV v u->∃as,Reads h u d as)->∃as,ReadsAll h its ds as
 | _,_,[],.nil,_,_=>⟨_,.nil⟩
 | _,_,d::ds,.cons (a:=v) (b:=u) r t,hl,h=>by
  obtain ⟨as,ra⟩:=h 0 v d rfl rfl u r;obtain ⟨bs,rb⟩:=Jn t (by simpa using hl) fun i v d h1 h2=>h (i+1) v d (by simpa using h1) (by simpa using h2)
  exact ⟨_,.cons ra rb⟩
 | _,_,[],.cons _ _,hl,_=>by simp at hl
 | _,_,_::_,.nil,hl,_=>by simp at hl
theorem Rep.reads {X:Cx} {pins:List (Addr×Obj)} {σ:St} {H:Hp} {s:Shared} {x:V} {d:D} (I:Inv X pins σ H s) (r:Rep X.K H x d):∀u,RelV x u->∃as,Reads s.heap u d as:=by
 induction r with
 | non=>rintro u rfl;exact ⟨_,.none⟩
 | bl b=>rintro u rfl;exact ⟨_,.bool b⟩
 | int i=>rintro u ⟨t,rfl⟩;exact ⟨_,.int i t⟩
 | str x=>rintro u ⟨t,rfl⟩;exact ⟨_,.str x t⟩
 | lst hq hl _ ih=>
  rintro u rfl
  obtain ⟨its,rv,⟨o,n,e1,e2,e3,e4⟩,_⟩:=I.list hq;obtain ⟨as,ra⟩:=Jn rv hl ih;exact ⟨_,.list e1 e2 e4 (by simpa using ra)⟩
 | tup hq hl _ ih=>
  rintro u rfl
  obtain ⟨its,rv,⟨o,e1,e2,n,e4⟩,_⟩:=I.tuple hq;obtain ⟨as,ra⟩:=Jn rv hl ih;exact ⟨_,.tuple e1 e2 e4 (by simpa using ra)⟩
theorem oa {α:Type} {F G:List α}:∀{Fs:List (List α)} {i:Nat},Fs[i]?=some F->(F++(Fs.set i G).flatten).Perm (G++Fs.flatten)
 | [],_,h=>by simp at h
 | A::r,0,h=>by
  simp at h
  subst h;simp only [List.set_cons_zero,flatten_cons]
  rw [<-append_assoc,<-append_assoc];exact List.Perm.append_right _ perm_append_comm
 | A::r,i+1,h=>by
  have ih:=oa (G:=G) (Fs:=r) (i:=i) (by simpa using h)
  simp only [List.set_cons_succ,flatten_cons]
  calc (F++(A++(r.set i G).flatten)).Perm (A++(F++(r.set i G).flatten)):=by
        rw [<-append_assoc,<-append_assoc];exact List.Perm.append_right _ perm_append_comm
    _ |>.Perm (A++(G++r.flatten)):=List.Perm.append_left _ ih
    _ |>.Perm (G++(A++r.flatten)):=by
        rw [<-append_assoc,<-append_assoc];exact List.Perm.append_right _ perm_append_comm
section
variable {K:Fg} {He H:Hp} {O G:List Addr} {Fs:List (List Addr)} {σ:St} {Γ:Ev}
theorem EnvOk.lt (E:EnvOk K He O Fs H σ Γ) {i:Nat} (h:i<Γ.length):∃F,Fs[i]?=some F:=⟨Fs[i]'(by rw [E.len2];exact h),MI _⟩
theorem EnvOk.move {i:Nat} {p:PV} (E:EnvOk K He O Fs H σ Γ) (h:Γ[i]?=some (some p)) :
  p.s.isView=false/\∃v F,σ[i]?=some (some v)/\EnvOk K He (F++O) (Fs.set i []) H σ (Γ.set i none)/\Own K (F++O++(Fs.set i []).flatten) H p.s F v p.d/\(∀a∈F++(Fs.set i []).flatten,a∈Fs.flatten):=by
 obtain ⟨hv,v,F,h1,h2,h3⟩:=E.slot i p h;have pm:(F++(Fs.set i []).flatten).Perm Fs.flatten:=by simpa using oa (G:=[]) h2
 have pm2:(F++O++(Fs.set i []).flatten).Perm (O++Fs.flatten):=by
  rw [append_assoc]
  calc (F++(O++(Fs.set i []).flatten)).Perm (O++(F++(Fs.set i []).flatten)):=by
        rw [<-append_assoc,<-append_assoc];exact List.Perm.append_right _ perm_append_comm
    _ |>.Perm (O++Fs.flatten):=List.Perm.append_left _ pm
 refine ⟨hv,v,F,h1,⟨by rw [length_set];exact E.len1,by rw [length_set,length_set];exact E.len2,E.same,pm2.nodup_iff.mpr E.nd,fun a ha=>E.inH a (pm2.mem_iff.mp ha),fun a ha=>E.fresh a (pm.mem_iff.mp (ME _ ha)),fun j q hq=>?_⟩,h3.mono (Same.refl _) fun a ha=>.inl (pm2.mem_iff.mp ha),fun a ha=>pm.mem_iff.mp ha⟩
 by_cases hj:j=i
 ·subst hj
  rw [List.getElem?_set] at hq;split at hq
  ·split at hq<;>cases hq
  ·rename_i z
   exact absurd rfl z
 ·rw [getElem?_set_ne (Ne.symm hj)] at hq
  obtain ⟨w1,v',F',e1,e2,e3⟩:=E.slot j q hq;exact ⟨w1,v',F',e1,by rw [getElem?_set_ne (Ne.symm hj)];exact e2,e3.mono (Same.refl _) fun a ha=>.inl (pm2.mem_iff.mp ha)⟩
theorem EnvOk.put {i:Nat} {p:PV} {v:V} (E:EnvOk K He (G++O) Fs H σ Γ) (ho:Own K (G++O++Fs.flatten) H p.s G v p.d) (hv:p.s.isView=false) (hn:∀a∈G,He a=none) (hi:i<Γ.length) :
  EnvOk K He O (Fs.set i G) H (σ.set i (some v)) (Γ.set i (some p)):=by
 obtain ⟨F,hF⟩:=E.lt hi;have pm:=oa (G:=G) hF
 have nd:=E.nd
 rw [append_assoc] at nd;have sub:∀a∈O++(Fs.set i G).flatten,a∈G++O++Fs.flatten:=fun a ha=>by
  rw [append_assoc];rcases MG ha with z | z
  ·exact ME _ (MF _ z)
  ·rcases MG (pm.mem_iff.mp (ME _ z)) with y | y
   ·exact MF _ y
   ·exact ME _ (ME _ y)
 refine ⟨by rw [length_set,length_set];exact E.len1,by rw [length_set,length_set];exact E.len2,E.same,?_,fun a ha=>E.inH a (sub a ha),fun a ha=>?_,fun j q hq=>?_⟩
 ·have p1:(O++(F++(Fs.set i G).flatten)).Perm (G++(O++Fs.flatten)):=by
   calc (O++(F++(Fs.set i G).flatten)).Perm (O++(G++Fs.flatten)):=List.Perm.append_left _ pm
     _ |>.Perm (G++(O++Fs.flatten)):=by
       rw [<-append_assoc,<-append_assoc];exact List.Perm.append_right _ perm_append_comm
  have p2:=p1.nodup_iff.mpr nd
  refine p2.sublist ?_
  exact List.Sublist.append_left (List.sublist_append_right _ _) _
 ·rcases MG (pm.mem_iff.mp (ME _ ha)) with y | y
  ·exact hn a y
  ·exact E.fresh a y
 ·by_cases hj:j=i
  ·subst hj
   rw [getElem?_set_self hi] at hq
   cases hq;refine ⟨hv,v,G,?_,?_,ho.mono (Same.refl _) fun a ha=>.inl (sub a ha)⟩
   ·rw [getElem?_set_self (by rw [E.len1];exact hi)]
   ·rw [getElem?_set_self (by rw [E.len2];exact hi)]
  ·rw [getElem?_set_ne (Ne.symm hj)] at hq
   obtain ⟨w1,v',F',e1,e2,e3⟩:=E.slot j q hq;exact ⟨w1,v',F',by rw [getElem?_set_ne (Ne.symm hj)];exact e1,by rw [getElem?_set_ne (Ne.symm hj)];exact e2,e3.mono (Same.refl _) fun a ha=>.inl (sub a ha)⟩
theorem Aft.freshG {Γ':Ev} {p:PV} {v:V} {H':Hp} {Fs':List (List Addr)} (E:EnvOk K He O Fs H σ Γ) (A:Aft K He O Fs H σ Γ' p v H' G Fs'):∀a∈G,He a=none:=fun a ha=>by
 rcases A.new a (MF _ ha) with z | z
 ·exact E.fresh a z
 ·exact E.same.free z
end
def af (i:Nat):F1:=fun Γ=>match Γ[i]? with
 | some (some p)=>(match p.s with
  | .leaf=>.ok ⟨.leaf,p.d⟩ Γ
  | _=>.ok ⟨.view,p.d⟩ Γ)
 | _=>.no
def ck (i:Nat):F1:=fun Γ=>match Γ[i]? with
 | some (some p)=>.ok p (Γ.set i none)
 | _=>.no
def eK (d:D):F1:=fun Γ=>.ok ⟨.leaf,d⟩ Γ
section
variable {X:Cx} {W:XW} {i:Nat} {e:Expr} {pos:Pos}
theorem AX {K:Fg} {σ:St} {H:Hp} {Q:VK} (h:tE K W (af i) σ H Q):bg i σ H Q:=by
 obtain ⟨He,O,Fs,Γ,E,h⟩:=h;unfold af at h
 cases e:Γ[i]? with
 | none=>rw [e] at h;exact h.elim
 | some o=>
  rw [e] at h
  cases o with
  | none=>exact h.elim
  | some p=>
   obtain ⟨hv,v,F,h1,h2,h3⟩:=E.slot i p e;obtain ⟨s,d⟩:=p;have new:∀a∈[]++Fs.flatten,a∈Fs.flatten\/H a=none:=fun a ha=>.inl (by simpa using ha)
   cases s with
   | leaf=>
    cases h3 with
    | leaf r=>exact ⟨v,h1,h v H [] Fs ⟨Same.refl _,by simpa using E,new,.leaf r⟩⟩
   | view=>cases hv
   | lst s=>exact ⟨v,h1,h v H [] Fs ⟨Same.refl _,by simpa using E,new,.view h3.rep⟩⟩
   | tup ss=>exact ⟨v,h1,h v H [] Fs ⟨Same.refl _,by simpa using E,new,.view h3.rep⟩⟩
theorem xc {K:Fg} {σ:St} {H:Hp} {Q:VK} (h:tE K W (ck i) σ H Q):bg i σ H Q:=by
 obtain ⟨He,O,Fs,Γ,E,h⟩:=h;unfold ck at h
 cases e:Γ[i]? with
 | none=>rw [e] at h;exact h.elim
 | some o=>
  rw [e] at h
  cases o with
  | none=>exact h.elim
  | some p=>
   obtain ⟨hv,v,F,h1,E',o',sub⟩:=E.move e;exact ⟨v,h1,h v H F (Fs.set i []) ⟨Same.refl _,E',fun a ha=>.inl (sub a ha),o'⟩⟩
theorem vA (h:PE X e (bg i)):PE X e (tE X.K W (af i)):=aP h fun _ _ _=>AX
theorem yt (h:PE X e (bg i)):PE X e (tE X.K W (ck i)):=aP h fun _ _ _=>xc
theorem tW {K:Fg} {σ:St} {H:Hp} {Q:VK} {v:V} {d:D} (hs:∀H,Rep K H v d) (h:tE K W (eK d) σ H Q):Q v H:=by
 obtain ⟨He,O,Fs,Γ,E,h⟩:=h;exact h v H [] Fs ⟨Same.refl _,by simpa using E,fun a ha=>.inl (by simpa using ha),.leaf (hs _)⟩
theorem de_str {j:Str} {k pos}:PE X (.Constant (.str j) k pos) (tE X.K W (eK (.str j))):=aP uB fun _ _ _=>tW fun _=>.str j
theorem yu {x:Str} {v:V} {u:Value} {d:D} (hg:Gl X x) (hm:X.mg x=some u) (r:RelV v u) (hr:∀H,Rep X.K H v d) (hd:(x==("__debug__":Str))=false:=by decide):PE X (.Name x pos) (tE X.K W (eK d)):=
 aP (o5 hg hm r hd) fun _ _ _=>tW hr
end
def aD (g:D->D->Option D) (fa fb:F1):F1:=aS fa fun p=>aS fb fun q=>fun Γ=>match g p.d q.d with
 | some d=>.ok ⟨.leaf,d⟩ Γ
 | none=>.no
def GOp (K:Fg) (r:R2) (g:D->D->Option D):Prop:=∀x y H Q a b d,Rep K H x a->Rep K H y b->g a b=some d->(∀v,Sc v d->Q v H)->r x y H Q
section
variable {K:Fg} {W:XW} {σ:St} {H:Hp} {Q:VK} {fa fb:F1} {r:R2} {g:D->D->Option D}
theorem fQ (hg:GOp K r g) (h:tE K W (aD g fa fb) σ H Q):sV r (tE K W fa) (tE K W fb) σ H Q:=by
 refine C4 h ?_
 intro He O Fs Γ2 p q v u H1 H2 G1 G2 Fs2 nd s1 s2 E new o1 o2 w
 cases e:g p.d q.d with
 | none=>rw [e] at w;exact w.elim
 | some d=>
  rw [e] at w;exact hg v u H2 Q p.d q.d d o1.rep o2.rep e fun z s=>w.scal s (s1.trans s2) E (fun a ha=>ME _ (ME _ ha)) nd fun a ha=>new a (ME _ (ME _ ha))
end
theorem GOp.or {K:Fg} {r r':R2} {g g':D->D->Option D} (h:GOp K r g) (h':GOp K r' g'):GOp K (fun x y H Q=>r x y H Q\/r' x y H Q) (fun a b=>(g a b).or (g' a b)):=by
 intro x y H Q a b d ra rb e k;have e:(g a b).or (g' a b)=some d:=e
 cases e1:g a b with
 | some z=>rw [e1] at e;cases e;exact .inl (h x y H Q a b _ ra rb e1 k)
 | none=>rw [e1] at e;exact .inr (h' x y H Q a b d ra rb (by simpa using e) k)
def gI (C:Int->Int->Bool) (f:Int->Int->D):D->D->Option D
 | .int i,.int j=>if C i j then some (f i j) else none
 | _,_=>none
theorem pq {K:Fg} {C:Int->Int->Prop} {C':Int->Int->Bool} {g:Int->Int->V} {f:Int->Int->D} (hC:∀i j,C' i j=true->C i j) (hs:∀i j,Sc (g i j) (f i j)):GOp K (rI C g) (gI C' f):=by
 intro x y H Q a b d ra rb e k
 cases ra<;>cases rb<;>simp only [gI] at e<;>try cases e
 rename_i i j;split at e
 ·rename_i c
  cases e;exact ⟨i,j,rfl,rfl,hC i j c,k _ (hs i j)⟩
 ·cases e
def zG (f:Int->Int->D):D->D->Option D
 | .int i,.int j=>some (f i j)
 | _,_=>none
theorem C6 {K:Fg} {g:Int->Int->V} {f:Int->Int->D} (hs:∀i j,Sc (g i j) (f i j)):GOp K (oR g) (zG f):=by
 intro x y H Q a b d ra rb e k
 cases ra<;>cases rb<;>simp only [zG] at e<;>try cases e
 rename_i i j;exact ⟨i,j,rfl,rfl,k _ (hs i j)⟩
abbrev gSub:=zG fun i j=>.int (i-j)
abbrev aJ:=zG fun i j=>.int (i+j)
def rS (i j:Int):Bool:=(decide (-(2 ^ 64)<i)&&decide (i<2 ^ 64))||(decide (-(2 ^ 64)<j)&&decide (j<2 ^ 64))
abbrev lF:=gI rS fun i j=>.int (i*j)
def yG (_ j:Int):Bool:=decide (0<j)&&decide (j<1073741824)
abbrev qY:=gI yG fun i j=>.int (i / j)
def yF (_ j:Int):Bool:=decide (0<j)
abbrev cK:=gI yF fun i j=>.int (i % j)
def yE (i j:Int):Bool:=decide (0<=j)&&decide (j<=1000000)&&decide (i.natAbs<2 ^ 64)
abbrev lE:=gI yE fun i j=>.int (i ^ j.toNat)
mutual
def Sh.same:Sh->Sh->Bool
 | .view,.view=>true
 | .leaf,.leaf=>true
 | .lst a,.lst b=>Sh.same a b
 | .tup as,.tup bs=>Sh.sameL as bs
 | _,_=>false
def Sh.sameL:List Sh->List Sh->Bool
 | [],[]=>true
 | a::as,b::bs=>Sh.same a b&&Sh.sameL as bs
 | _,_=>false
end
mutual
theorem Sh.same_eq:∀{a b:Sh},Sh.same a b=true->a=b
 | .view,.view,_=>rfl
 | .leaf,.leaf,_=>rfl
 | .lst a,.lst b,h=>by rw [Sh.same_eq (a:=a) (b:=b) (by simpa [Sh.same] using h)]
 | .tup as,.tup bs,h=>by rw [Sh.sameL_eq (as:=as) (bs:=bs) (by simpa [Sh.same] using h)]
 | .view,.leaf,h=>by simp [Sh.same] at h
 | .view,.lst _,h=>by simp [Sh.same] at h
 | .view,.tup _,h=>by simp [Sh.same] at h
 | .leaf,.view,h=>by simp [Sh.same] at h
 | .leaf,.lst _,h=>by simp [Sh.same] at h
 | .leaf,.tup _,h=>by simp [Sh.same] at h
 | .lst _,.view,h=>by simp [Sh.same] at h
 | .lst _,.leaf,h=>by simp [Sh.same] at h
 | .lst _,.tup _,h=>by simp [Sh.same] at h
 | .tup _,.view,h=>by simp [Sh.same] at h
 | .tup _,.leaf,h=>by simp [Sh.same] at h
 | .tup _,.lst _,h=>by simp [Sh.same] at h
theorem Sh.sameL_eq:∀{as bs:List Sh},Sh.sameL as bs=true->as=bs
 | [],[],_=>rfl
 | a::as,b::bs,h=>by
  have h:Sh.same a b=true/\Sh.sameL as bs=true:=by simpa [Sh.sameL] using h
  rw [Sh.same_eq h.1,Sh.sameL_eq h.2]
 | [],_::_,h=>by simp [Sh.sameL] at h
 | _::_,[],h=>by simp [Sh.sameL] at h
end
def coer (s:Sh) (p:PV):Bool:=match s with
 | .leaf=>!p.s.isView||bo p.d
 | .view=>false
 | s=>Sh.same s p.s
def bh (s:Sh) (G:List Addr):List Addr:=match s with
 | .leaf=>[]
 | _=>G
theorem ji {s:Sh} {G:List Addr} {a:Addr} (h:a∈bh s G):a∈G:=by
 unfold bh at h;split at h
 ·simp at h
 ·exact h
theorem Own.coer {K:Fg} {O O':List Addr} {H:Hp} {s:Sh} {p:PV} {G:List Addr} {v:V} (h:Own K O H p.s G v p.d) (c:coer s p=true) (h1:∀a∈O',a∈O) (h2:∀a∈G,a∈O'->a∈bh s G):Own K O' H s (bh s G) v p.d:=by
 cases s with
 | view=>simp [T.coer] at c
 | leaf=>
  show Own K O' H .leaf [] v p.d
  have c:(!p.s.isView||bo p.d)=true:=c
  cases hv:p.s.isView with
  | false=>exact .leaf (h.freeze hv h1 fun a ha z=>by simpa [bh] using h2 a ha z)
  | true=>
   rw [hv] at c;exact .leaf (h.rep.sc (by simpa using c)).rep
 | lst s=>
  have e:Sh.lst s=p.s:=Sh.same_eq c
  show Own K O' H (.lst s) G v p.d
  rw [e];exact h.mono (Same.refl _) fun a ha=>.inl (h1 a ha)
 | tup ss=>
  have e:Sh.tup ss=p.s:=Sh.same_eq c
  show Own K O' H (.tup ss) G v p.d
  rw [e];exact h.mono (Same.refl _) fun a ha=>.inl (h1 a ha)
open PySem.SeqAt in
def cP:D->D->Option D:=fun a b=>if shaped a&&shaped b then some (.bool (PyData.eqv a b)) else none
open PySem.SeqAt in
def jq:D->D->Option D:=fun a b=>if shaped a&&shaped b then some (.bool (!PyData.eqv a b)) else none
open PySem.SeqAt in
def qr (K:Fg) (neg:Bool):R2:=fun x y H Q=>∃a b,Rep K H x a/\Rep K H y b/\shaped a=true/\shaped b=true/\Q (.bl (if neg then !PyData.eqv a b else PyData.eqv a b)) H
section
variable {X:Cx}
theorem BK (hu:X.A.units+64<cLine):OpR X (compareOp .Eq) (qr X.K false):=by
 intro pins s σ H x y v u Q I rx ry h;obtain ⟨a,b,ra,rb,sa,sb,q⟩:=h;obtain ⟨as,r1⟩:=ra.reads I v rx;obtain ⟨bs,r2⟩:=rb.reads I u ry;exact SeqAt.compareEq_shaped r1 r2 sa sb hu ⟨.bl _,H,I,rfl,q⟩
theorem BF (hu:X.A.units+64<cLine):OpR X (compareOp .NotEq) (qr X.K true):=by
 intro pins s σ H x y v u Q I rx ry h;obtain ⟨a,b,ra,rb,sa,sb,q⟩:=h;obtain ⟨as,r1⟩:=ra.reads I v rx;obtain ⟨bs,r2⟩:=rb.reads I u ry;exact SeqAt.compareNe_shaped r1 r2 sa sb hu ⟨.bl _,H,I,rfl,q⟩
end
theorem Cg {K:Fg}:GOp K (qr K false) cP:=by
 intro x y H Q a b d ra rb e k;unfold cP at e;split at e
 ·rename_i c
  cases e;simp only [Bool.and_eq_true] at c
  exact ⟨a,b,ra,rb,c.1,c.2,k _ (.bl _)⟩
 ·cases e
theorem Cd {K:Fg}:GOp K (qr K true) jq:=by
 intro x y H Q a b d ra rb e k;unfold jq at e;split at e
 ·rename_i c
  cases e;simp only [Bool.and_eq_true] at c
  exact ⟨a,b,ra,rb,c.1,c.2,k _ (.bl _)⟩
 ·cases e
def Ct:D->D->Option D
 | .str i,.str j=>some (.bool (decide (i.cps.toList<j.cps.toList)))
 | _,_=>none
abbrev Ku:=zG fun i j=>.bool (decide (i<j))
abbrev fU:D->D->Option D:=fun a b=>(Ku a b).or (Ct a b)
abbrev qX:=zG fun i j=>.bool (decide (i<=j))
abbrev pA:=zG fun i j=>.bool (decide (j<i))
abbrev Ms:=zG fun i j=>.bool (decide (j<=i))
theorem yd {K:Fg}:GOp K (fun x y H Q=>∃i j,x=.str i/\y=.str j/\Q (.bl (decide (i.cps.toList<j.cps.toList))) H) Ct:=by
 intro x y H Q a b d ra rb e k
 cases ra<;>cases rb<;>simp only [Ct] at e<;>try cases e
 rename_i i j;exact ⟨i,j,rfl,rfl,k _ (.bl _)⟩
theorem Ce {K:Fg}:GOp K (fun x y H Q=>oR (fun i j=>.bl (decide (i<j))) x y H Q\/∃i j,x=.str i/\y=.str j/\Q (.bl (decide (i.cps.toList<j.cps.toList))) H) fU:=
 (C6 fun _ _=>.bl _).or yd
open PySem.SeqAt in
def cY (neg:Bool):D->D->Option D
 | a,.list xs=>if shaped a&&shaped (.list xs) then some (.bool (if neg then !xs.any fun y=>PyData.eqv y a else xs.any fun y=>PyData.eqv y a)) else none
 | a,.tuple xs=>if shaped a&&shaped (.tuple xs) then some (.bool (if neg then !xs.any fun y=>PyData.eqv y a else xs.any fun y=>PyData.eqv y a)) else none
 | _,_=>none
def ue (K:Fg) (neg:Bool):R2:=fun x y H Q=>∃a b d,Rep K H x a/\Rep K H y b/\cY neg a b=some (.bool d)/\Q (.bl d) H
theorem vg {K:Fg} {neg:Bool}:GOp K (ue K neg) (cY neg):=by
 intro x y H Q a b d ra rb e k;have:∃c,d=.bool c:=by
  cases b<;>simp only [cY] at e<;>(try cases e)<;>(split at e<;>cases e<;>exact ⟨_,rfl⟩)
 obtain ⟨c,rfl⟩:=this;exact ⟨a,b,c,ra,rb,e,k _ (.bl c)⟩
theorem GY {d:D} {xs:List D} (h:SeqAt.shaped d=true) (e:d=.list xs\/d=.tuple xs):PyData.canLayAll0 xs=true/\PyData.depthAll xs+1<=64:=by
 have h1:=SeqAt.canLay_of_shaped h
 have h2:=SeqAt.depth_of_shaped h
 rcases e with e | e<;>subst e<;>exact ⟨by simpa [PyData.canLay0] using h1,by simpa [PyData.depth] using h2⟩
section
variable {X:Cx}
theorem BJ (hu:X.A.units+64<cLine):OpR X (compareOp .In) (ue X.K false):=by
 intro pins s σ H x y v u Q I rx ry h;obtain ⟨a,b,d,ra,rb,e,q⟩:=h;obtain ⟨as,r1⟩:=ra.reads I v rx;obtain ⟨bs,r2⟩:=rb.reads I u ry
 cases b<;>simp only [cY] at e<;>try cases e
 all_goals
  split at e
  ·rename_i c
   simp only [Bool.and_eq_true] at c
   simp only [Option.some.injEq,PyData.bool.injEq] at e
   subst e;first
    | (obtain ⟨p1,p2⟩:=GY c.2 (.inl rfl)
       exact SeqAt.in_list_reads r2 r1 p1 (SeqAt.canLay_of_shaped c.1) (Nat.lt_of_le_of_lt (by have:=Nat.min_le_left (PyData.depthAll ‹_›) a.depth;omega) hu) ⟨.bl _,H,I,rfl,q⟩)
    | (obtain ⟨p1,p2⟩:=GY c.2 (.inr rfl)
       exact SeqAt.in_tuple_reads r2 r1 p1 (SeqAt.canLay_of_shaped c.1) (Nat.lt_of_le_of_lt (by have:=Nat.min_le_left (PyData.depthAll ‹_›) a.depth;omega) hu) ⟨.bl _,H,I,rfl,q⟩)
  ·cases e
theorem qz (hu:X.A.units+64<cLine):OpR X (compareOp .NotIn) (ue X.K true):=by
 intro pins s σ H x y v u Q I rx ry h;obtain ⟨a,b,d,ra,rb,e,q⟩:=h;obtain ⟨as,r1⟩:=ra.reads I v rx;obtain ⟨bs,r2⟩:=rb.reads I u ry
 cases b<;>simp only [cY] at e<;>try cases e
 all_goals
  split at e
  ·rename_i c
   simp only [Bool.and_eq_true] at c
   simp only [Option.some.injEq,PyData.bool.injEq] at e
   subst e;first
    | (obtain ⟨p1,p2⟩:=GY c.2 (.inl rfl)
       exact SeqAt.notIn_list_reads r2 r1 p1 (SeqAt.canLay_of_shaped c.1) (Nat.lt_of_le_of_lt (by have:=Nat.min_le_left (PyData.depthAll ‹_›) a.depth;omega) hu) ⟨.bl _,H,I,rfl,q⟩)
    | (obtain ⟨p1,p2⟩:=GY c.2 (.inr rfl)
       exact SeqAt.notIn_tuple_reads r2 r1 p1 (SeqAt.canLay_of_shaped c.1) (Nat.lt_of_le_of_lt (by have:=Nat.min_le_left (PyData.depthAll ‹_›) a.depth;omega) hu) ⟨.bl _,H,I,rfl,q⟩)
  ·cases e
end
def WantsB (K:Fg) (W:XW) (He:Hp) (O:List Addr) (Fs:List (List Addr)) (H:Hp) (σ:St) (Q:Bool->Hp->Prop) (o:Out Bool):Prop:=match o with
 | .ok b Γ'=>∀H' Fs',Same H H'->EnvOk K He O Fs' H' σ Γ'->(∀a∈Fs'.flatten,a∈Fs.flatten\/H a=none)->Q b H'
 | .er c Γ'=>∀H' Fs',Same H H'->EnvOk K He O Fs' H' σ Γ'->W c σ H'
 | .no=>False
abbrev FB:=Ev->Out Bool
def tT (K:Fg) (W:XW) (f:FB):TT:=fun σ H Q=>∃He O Fs Γ,EnvOk K He O Fs H σ Γ/\WantsB K W He O Fs H σ Q (f Γ)
section
variable {K:Fg} {W:XW} {He H H1:Hp} {O:List Addr} {Fs Fs1:List (List Addr)} {σ:St} {Γ Γ':Ev} {Q:VK} {QB:Bool->Hp->Prop}
theorem Wants.after {o:Out PV} (h:Wants K W He O Fs H σ Q o) (s:Same H H1) (n:∀a∈Fs1.flatten,a∈Fs.flatten\/H a=none):Wants K W He O Fs1 H1 σ Q o:=by
 cases o with
 | ok p Γ'=>exact fun v H' G Fs' A=>h v H' G Fs' ⟨s.trans A.same,A.env,fun a ha=>(A.new a ha).elim (n a) fun z=>.inr (s.free z),A.own⟩
 | er c Γ'=>exact fun H' Fs' e E=>h H' Fs' (s.trans e) E
 | no=>exact h
theorem WantsB.after {o:Out Bool} (h:WantsB K W He O Fs H σ QB o) (s:Same H H1) (n:∀a∈Fs1.flatten,a∈Fs.flatten\/H a=none):WantsB K W He O Fs1 H1 σ QB o:=by
 cases o with
 | ok p Γ'=>exact fun H' Fs' e E n'=>h H' Fs' (s.trans e) E fun a ha=>(n' a ha).elim (n a) fun z=>.inr (s.free z)
 | er c Γ'=>exact fun H' Fs' e E=>h H' Fs' (s.trans e) E
 | no=>exact h
theorem Aft.go {p:PV} {v:V} {G:List Addr} (A:Aft K He O Fs H σ Γ' p v H1 G Fs1):EnvOk K He O Fs1 H1 σ Γ':=A.env.dropL
theorem Aft.newF {p:PV} {v:V} {G:List Addr} (A:Aft K He O Fs H σ Γ' p v H1 G Fs1):∀a∈Fs1.flatten,a∈Fs.flatten\/H a=none:=fun a ha=>A.new a (ME _ ha)
end
section
variable {K:Fg} {W:XW} {σ:St} {H:Hp} {Q:VK} {QB:Bool->Hp->Prop} {fa fb fc:F1} {ga gb:FB}
def aO (g:D->Option Bool) (f:F1):FB:=fun Γ=>(f Γ).bind fun p Γ'=>match g p.d with
 | some b=>.ok b Γ'
 | none=>.no
theorem oy {g:D->Option Bool} {R:VK} (h:tT K W (aO g fa) σ H QB) (hR:∀v d b H1,Rep K H1 v d->g d=some b->QB b H1->R v H1):tE K W fa σ H R:=by
 obtain ⟨He,O,Fs,Γ,E,h⟩:=h;refine ⟨He,O,Fs,Γ,E,?_⟩
 unfold aO at h
 cases e:fa Γ with
 | ok p Γ'=>
  rw [e] at h;intro v H' G Fs' A
  have h:WantsB K W He O Fs H σ QB (match g p.d with | some b=>.ok b Γ' | none=>.no):=h
  cases e2:g p.d with
  | some b=>
   rw [e2] at h;exact hR v p.d b H' A.own.rep e2 (h H' Fs' A.same A.go A.newF)
  | none=>rw [e2] at h;exact h.elim
 | er c Γ'=>rw [e] at h;exact h
 | no=>rw [e] at h;exact h
def aA:D->Option Bool
 | .bool b=>some b
 | _=>none
theorem oJ {t:TE} (hi:∀Q,tE K W fa σ H Q->t σ H Q) (h:tT K W (aO aA fa) σ H QB):sR t σ H QB:=by
 refine hi _ (oy h fun v d b H1 r e q=>?_)
 cases r<;>simp only [aA] at e<;>try cases e
 exact ⟨_,rfl,q⟩
def ba:D->Option Bool
 | .none=>some false
 | .bool b=>some b
 | .int i=>some (i != 0)
 | .str x=>if x.length<=sizeLine then some ((x.length:Int) != 0) else none
 | .list xs=>some (!xs.isEmpty)
 | .tuple xs=>some (!xs.isEmpty)
 | .dict _=>none
theorem tP (h:tT K W (aO ba fa) σ H QB):tE K W fa σ H fun x H'=>∃k,yM K x H' k/\QB k H':=by
 refine oy h fun v d b H1 r e q=>?_
 cases r with
 | non=>cases e;exact ⟨_,rfl,q⟩
 | bl c=>cases e;exact ⟨_,rfl,q⟩
 | int i=>cases e;exact ⟨_,rfl,q⟩
 | str x=>
  simp only [ba] at e
  split at e
  ·rename_i z;cases e;exact ⟨_,⟨z,rfl⟩,q⟩
  ·cases e
 | @lst p vs ds hq hl _=>
  cases e;exact ⟨_,.inl ⟨vs,hq,by cases vs<;>cases ds<;>simp_all⟩,q⟩
 | @tup p vs ds hq hl _=>
  cases e;exact ⟨_,.inr (.inl ⟨vs,hq,by cases vs<;>cases ds<;>simp_all⟩),q⟩
def vK (a b:FB):FB:=fun Γ=>(a Γ).bind fun c Γ'=>if c then b Γ' else .ok false Γ'
def ke (a b:FB):FB:=fun Γ=>(a Γ).bind fun c Γ'=>if c then .ok true Γ' else b Γ'
def bU (a:FB):FB:=fun Γ=>(a Γ).bind fun c Γ'=>.ok (!c) Γ'
theorem H0 {k:Bool->Ev->Out Bool} {R:Bool->Hp->Prop} (h:tT K W (fun Γ=>(ga Γ).bind k) σ H QB)
  (hk:∀(He:Hp) (O:List Addr) Γ1 b H1 Fs1,Same H H1->EnvOk K He O Fs1 H1 σ Γ1->WantsB K W He O Fs1 H1 σ QB (k b Γ1)->R b H1):tT K W ga σ H R:=by
 obtain ⟨He,O,Fs,Γ,E,h⟩:=h;have h:WantsB K W He O Fs H σ QB ((ga Γ).bind k):=h
 refine ⟨He,O,Fs,Γ,E,?_⟩
 cases e:ga Γ with
 | ok b Γ1=>rw [e] at h;exact fun H' Fs' s E' n=>hk He O Γ1 b H' Fs' s E' (WantsB.after (o:=k b Γ1) h s n)
 | er c Γ1=>rw [e] at h;exact h
 | no=>rw [e] at h;exact h
theorem WantsB.now {He:Hp} {O:List Addr} {Fs:List (List Addr)} {Γ:Ev} {b:Bool} (h:WantsB K W He O Fs H σ QB (.ok b Γ)) (E:EnvOk K He O Fs H σ Γ):QB b H:=h H Fs (Same.refl _) E fun _ z=>.inl z
theorem xm (h:tT K W (vK ga gb) σ H QB):Ed (tT K W ga) (tT K W gb) σ H QB:=by
 refine H0 h fun He O Γ1 b H1 Fs1 s E w=>?_
 cases b with
 | true=>exact iK ⟨He,O,Fs1,Γ1,E,w⟩
 | false=>exact gk (WantsB.now w E)
theorem t8 (h:tT K W (ke ga gb) σ H QB):Lb (tT K W ga) (tT K W gb) σ H QB:=by
 refine H0 h fun He O Γ1 b H1 Fs1 s E w=>?_
 cases b with
 | false=>exact gk ⟨He,O,Fs1,Γ1,E,w⟩
 | true=>exact iK (WantsB.now w E)
theorem oO (h:tT K W (bU ga) σ H QB):D9 (tT K W ga) σ H QB:=H0 h fun He O Γ1 b H1 Fs1 s E w=>WantsB.now w E
def eh (fa fb:F1):F1:=aS fa fun p Γ=>match p.d with
 | .bool true=>fb Γ
 | .bool false=>.ok ⟨.leaf,.bool false⟩ Γ
 | _=>.no
def KB (fa:F1):F1:=aS fa fun p Γ=>match p.d with
 | .bool b=>.ok ⟨.leaf,.bool (!b)⟩ Γ
 | _=>.no
theorem Bh (h:tE K W (eh fa fb) σ H Q):zh (tE K W fa) (tE K W fb) σ H Q:=by
 refine C3 h fun He O Fs Γ1 p v H1 G Fs1 nd A w=>?_
 have r:=A.own.rep
 obtain ⟨s,d⟩:=p
 cases r with
 | bl b=>
  cases b with
  | true=>exact ⟨true,rfl,iK ⟨He,O,Fs1,Γ1,A.go,Wants.after w A.same A.newF⟩⟩
  | false=>exact ⟨false,rfl,gk (Wants.scal w (.bl false) A.same A.env (fun a ha=>ME _ ha) nd A.newF)⟩
 | _=>exact w.elim
def Fo (c:FB) (fa fb:F1):F1:=fun Γ=>(c Γ).bind fun b Γ'=>if b then fa Γ' else fb Γ'
theorem Em (h:tE K W (Fo ga fa fb) σ H Q):Ld (tT K W ga) (tE K W fa) (tE K W fb) σ H Q:=by
 obtain ⟨He,O,Fs,Γ,E,h⟩:=h;refine ⟨He,O,Fs,Γ,E,?_⟩
 unfold Fo at h
 cases e:ga Γ with
 | ok b Γ1=>
  rw [e] at h;intro H' Fs' s E' n
  have h':=Wants.after (o:=if b then fa Γ1 else fb Γ1) h s n
  cases b with
  | true=>exact iK ⟨He,O,Fs',Γ1,E',h'⟩
  | false=>exact gk ⟨He,O,Fs',Γ1,E',h'⟩
 | er c Γ1=>rw [e] at h;exact h
 | no=>rw [e] at h;exact h
def mE (g g':D->D->Option D) (fa fb fc:F1):F1:=aS fa fun p=>aS fb fun q=>fun Γ=>match g p.d q.d with
 | some (.bool true)=>if bo q.d then (fc Γ).bind fun z Γ'=>(match g' q.d z.d with | some d=>.ok ⟨.leaf,d⟩ Γ' | none=>.no) else .no
 | some (.bool false)=>.ok ⟨.leaf,.bool false⟩ Γ
 | _=>.no
theorem kN {r r':R2} {g g':D->D->Option D} (hg:GOp K r g) (hg':GOp K r' g') (h:tE K W (mE g g' fa fb fc) σ H Q):HY r r' (tE K W fa) (tE K W fb) (tE K W fc) σ H Q:=by
 refine C4 h ?_
 intro He O Fs Γ2 p q v u H1 H2 G1 G2 Fs2 nd s1 s2 E new o1 o2 w;have sub:∀a∈O,a∈G2++(G1++O):=fun a ha=>ME _ (ME _ ha)
 have newF:∀a∈Fs2.flatten,a∈Fs.flatten\/H a=none:=fun a ha=>new a (ME _ (ME _ ha))
 cases e:g p.d q.d with
 | none=>rw [e] at w;exact w.elim
 | some d=>
  rw [e] at w;refine hg v u H2 _ p.d q.d d o1.rep o2.rep e fun z s=>?_
  cases s with
  | bl b=>
   cases b with
   | false=>exact ⟨false,rfl,gk (Wants.scal w (.bl false) (s1.trans s2) E sub nd newF)⟩
   | true=>
    refine ⟨true,rfl,iK ?_⟩
    have w:Wants K W He O Fs H σ Q (if bo q.d then (fc Γ2).bind fun z Γ'=>(match g' q.d z.d with | some d=>.ok ⟨.leaf,d⟩ Γ' | none=>.no) else .no):=w
    cases hs:bo q.d with
    | false=>rw [hs] at w;exact w.elim
    | true=>
     rw [hs] at w;have w:Wants K W He O Fs H σ Q ((fc Γ2).bind fun z Γ'=>(match g' q.d z.d with | some d=>.ok ⟨.leaf,d⟩ Γ' | none=>.no)):=w
     have su:=o2.rep.sc hs
     refine ⟨He,O,Fs2,Γ2,E.drop sub nd,?_⟩
     cases e3:fc Γ2 with
     | ok p3 Γ3=>
      rw [e3] at w;intro v3 H3 G3 Fs3 A3;have w:Wants K W He O Fs H σ Q (match g' q.d p3.d with | some d=>.ok ⟨.leaf,d⟩ Γ3 | none=>.no):=w
      cases e4:g' q.d p3.d with
      | none=>rw [e4] at w;exact w.elim
      | some d4=>
       rw [e4] at w;exact hg' u v3 H3 Q q.d p3.d d4 su.rep A3.own.rep e4 fun z s=>Wants.scal w s ((s1.trans s2).trans A3.same) A3.env (fun a ha=>ME _ ha) nd fun a ha=>(A3.new a (ME _ ha)).elim (newF a) fun z=>.inr ((s1.trans s2).free z)
     | er c Γ3=>
      rw [e3] at w;exact fun H' Fs' s E'=>w H' Fs' ((s1.trans s2).trans s) E'
     | no=>rw [e3] at w;exact w
  | non=>exact w.elim
  | int i=>exact w.elim
  | str x=>exact w.elim
end
structure AftL (K:Fg) (He:Hp) (O:List Addr) (Fs:List (List Addr)) (H:Hp) (σ:St) (Γ':Ev) (ps:List PV) (vs:List V) (H':Hp) (Gs Fs':List (List Addr)):Prop where
 same:Same H H'
 len1:vs.length=ps.length
 len2:Gs.length=ps.length
 env:EnvOk K He (Gs.flatten++O) Fs' H' σ Γ'
 new:∀a∈Gs.flatten++Fs'.flatten,a∈Fs.flatten\/H a=none
 own:∀(i:Nat) v p G,vs[i]?=some v->ps[i]?=some p->Gs[i]?=some G->Own K (Gs.flatten++O++Fs'.flatten) H' p.s G v p.d
abbrev FL:=Ev->Out (List PV)
def vR (K:Fg) (W:XW) (He:Hp) (O:List Addr) (Fs:List (List Addr)) (H:Hp) (σ:St) (Q:List V->Hp->Prop) (o:Out (List PV)):Prop:=match o with
 | .ok ps Γ'=>∀vs H' Gs Fs',AftL K He O Fs H σ Γ' ps vs H' Gs Fs'->Q vs H'
 | .er c Γ'=>∀H' Fs',Same H H'->EnvOk K He O Fs' H' σ Γ'->W c σ H'
 | .no=>False
def tA (K:Fg) (W:XW) (f:FL):TA:=fun σ H Q=>∃He O Fs Γ,EnvOk K He O Fs H σ Γ/\vR K W He O Fs H σ Q (f Γ)
def ag:FL:=fun Γ=>.ok [] Γ
def ae (fa:F1) (fl:FL):FL:=fun Γ=>(fa Γ).bind fun p Γ1=>(fl Γ1).bind fun ps Γ2=>.ok (p::ps) Γ2
section
variable {K:Fg} {W:XW} {σ:St} {H:Hp} {Q:VK} {QL:List V->Hp->Prop} {fa fb:F1} {fl:FL}
theorem A6 (h:tA K W ag σ H QL):fD σ H QL:=by
 obtain ⟨He,O,Fs,Γ,E,h⟩:=h;exact h [] H [] Fs ⟨Same.refl _,rfl,rfl,by simpa using E,fun a ha=>.inl (by simpa using ha),fun i v p G e=>by simp at e⟩
theorem oZ {α:Type} (A B C:List α):(A++(B++C)).Perm (B++(A++C)):=by
 rw [<-append_assoc,<-append_assoc];exact List.Perm.append_right _ perm_append_comm
theorem EnvOk.perm {He H:Hp} {O O':List Addr} {Fs:List (List Addr)} {Γ:Ev} (E:EnvOk K He O Fs H σ Γ) (p:O'.Perm O):EnvOk K He O' Fs H σ Γ:=E.drop (fun a ha=>p.mem_iff.mp ha) (p.nodup_iff.mpr E.ndO)
theorem Own.perm {H:Hp} {O O':List Addr} {s:Sh} {G:List Addr} {v:V} {d:D} (h:Own K O H s G v d) (p:∀a∈O',a∈O):Own K O' H s G v d:=h.mono (Same.refl _) fun a ha=>.inl (p a ha)
theorem oN (h:tA K W (ae fa fl) σ H QL):cH (tE K W fa) (tA K W fl) σ H QL:=by
 obtain ⟨He,O,Fs,Γ,E,h⟩:=h;refine ⟨He,O,Fs,Γ,E,?_⟩
 unfold ae at h
 cases e:fa Γ with
 | ok p Γ1=>
  rw [e] at h;intro v H1 G1 Fs1 A1;refine ⟨He,G1++O,Fs1,Γ1,A1.env,?_⟩
  have h:vR K W He O Fs H σ QL ((fl Γ1).bind fun ps Γ2=>.ok (p::ps) Γ2):=h
  cases e2:fl Γ1 with
  | ok ps Γ2=>
   rw [e2] at h;intro vs H2 Gs Fs2 A2;have pm:((G1::Gs).flatten++O).Perm (Gs.flatten++(G1++O)):=by
    rw [flatten_cons,append_assoc];exact oZ _ _ _
   refine h (v::vs) H2 (G1::Gs) Fs2 ⟨A1.same.trans A2.same,by simp [A2.len1],by simp [A2.len2],A2.env.perm pm,fun a ha=>?_,fun i u q G h1 h2 h3=>?_⟩
   ·rcases MG ha with z | z
    ·rw [flatten_cons] at z
     rcases MG z with z | z
     ·exact A1.new a (MF _ z)
     ·exact (A2.new a (MF _ z)).elim (fun y=>A1.new a (ME _ y)) fun y=>.inr (A1.same.free y)
    ·exact (A2.new a (ME _ z)).elim (fun y=>A1.new a (ME _ y)) fun y=>.inr (A1.same.free y)
   ·have sub:∀a∈(G1::Gs).flatten++O++Fs2.flatten,a∈Gs.flatten++(G1++O)++Fs2.flatten:=fun a ha=>by
     rcases MG ha with z | z
     ·exact MF _ (pm.mem_iff.mp z)
     ·exact ME _ z
    cases i with
    | zero=>
     simp at h1 h2 h3
     subst h1 h2 h3;refine (A1.own.mono A2.same fun a ha=>?_).perm sub
     rcases MG ha with z | z
     ·rcases MG z with z | z
      ·exact (A2.new a (MF _ z)).elim (fun y=>.inl (ME _ y)) .inr
      ·exact .inl (MF _ z)
     ·exact (A2.new a (ME _ z)).elim (fun y=>.inl (ME _ y)) .inr
    | succ i=>
     simp at h1 h2 h3
     exact (A2.own i u q G h1 h2 h3).perm sub
  | er c Γ2=>
   rw [e2] at h;exact fun H2 Fs2 s E2=>h H2 Fs2 (A1.same.trans s) E2.dropL
  | no=>rw [e2] at h;exact h
 | er c Γ1=>rw [e] at h;exact h
 | no=>rw [e] at h;exact h
theorem AftL.reps {He:Hp} {O:List Addr} {Fs Gs Fs':List (List Addr)} {Γ':Ev} {ps:List PV} {vs:List V} {H':Hp} (A:AftL K He O Fs H σ Γ' ps vs H' Gs Fs'):Reps K H' vs (ps.map (·.d)):=by
 refine ⟨by rw [length_map];exact A.len1,fun i v d h1 h2=>?_⟩
 rw [getElem?_map] at h2
 cases e:ps[i]? with
 | none=>rw [e] at h2;cases h2
 | some p=>
  rw [e] at h2
  cases h2;have hi:=(MM e).1
  exact (A.own i v p (Gs[i]'(by rw [A.len2];exact hi)) h1 e (MI _)).rep
def bG (g:List D->Option D) (fl:FL):F1:=fun Γ=>(fl Γ).bind fun ps Γ'=>match g (ps.map (·.d)) with
 | some d=>.ok ⟨.leaf,d⟩ Γ'
 | none=>.no
def GCall (K:Fg) (r:List V->Hp->VK->Prop) (g:List D->Option D):Prop:=∀vs H Q ds d,Reps K H vs ds->g ds=some d->(∀v,Sc v d->Q v H)->r vs H Q
theorem t4 {r:List V->Hp->VK->Prop} {g:List D->Option D} (hg:GCall K r g) (h:tE K W (bG g fl) σ H Q):AH r (tA K W fl) σ H Q:=by
 obtain ⟨He,O,Fs,Γ,E,h⟩:=h;refine ⟨He,O,Fs,Γ,E,?_⟩
 unfold bG at h
 cases e:fl Γ with
 | ok ps Γ'=>
  rw [e] at h;intro vs H' Gs Fs' A
  have h:Wants K W He O Fs H σ Q (match g (ps.map (·.d)) with | some d=>.ok ⟨.leaf,d⟩ Γ' | none=>.no):=h
  cases e2:g (ps.map (·.d)) with
  | none=>rw [e2] at h;exact h.elim
  | some d=>
   rw [e2] at h;exact hg vs H' Q _ d A.reps e2 fun v s=>Wants.scal h s A.same A.env (fun a ha=>ME _ ha) E.ndO fun a ha=>A.new a (ME _ ha)
 | er c Γ'=>rw [e] at h;exact h
 | no=>rw [e] at h;exact h
theorem GCall.or {r r':List V->Hp->VK->Prop} {g g':List D->Option D} (h:GCall K r g) (h':GCall K r' g'):GCall K (fun xs H Q=>r xs H Q\/r' xs H Q) (fun ds=>(g ds).or (g' ds)):=by
 intro vs H Q ds d rs e k;have e:(g ds).or (g' ds)=some d:=e
 cases e1:g ds with
 | some z=>rw [e1] at e;cases e;exact .inl (h vs H Q ds _ rs e1 k)
 | none=>rw [e1] at e;exact .inr (h' vs H Q ds d rs (by simpa using e) k)
theorem Reps.one {vs:List V} {d:D} (h:Reps K H vs [d]):∃v,vs=[v]/\Rep K H v d:=by
 obtain ⟨hl,h⟩:=h;match vs,hl with
 | [v],_=>exact ⟨v,rfl,h 0 v d rfl rfl⟩
theorem Reps.two {vs:List V} {d e:D} (h:Reps K H vs [d,e]):∃v u,vs=[v,u]/\Rep K H v d/\Rep K H u e:=by
 obtain ⟨hl,h⟩:=h;match vs,hl with
 | [v,u],_=>exact ⟨v,u,rfl,h 0 v d rfl rfl,h 1 u e rfl rfl⟩
end
def zF:List D->Option D
 | [.list xs]=>some (.int xs.length)
 | [.tuple xs]=>some (.int xs.length)
 | _=>none
def vj:List D->Option D
 | [.str x]=>if x.length<=sizeLine then some (.int x.length) else none
 | _=>none
abbrev br:List D->Option D:=fun ds=>(zF ds).or (vj ds)
theorem Ci {K:Fg}:GCall K (fun xs H Q=>(∃p ys,xs=[.ref p]/\(SqL K H p ys\/SqT K H p ys)/\Q (.int ys.length) H)\/∃z,xs=[.str z]/\z.length<=sizeLine/\Q (.int z.length) H) br:=by
 refine GCall.or (g:=zF) (g':=vj) (r:=fun xs H Q=>∃p ys,xs=[.ref p]/\(SqL K H p ys\/SqT K H p ys)/\Q (.int ys.length) H) (r':=fun xs H Q=>∃z,xs=[.str z]/\z.length<=sizeLine/\Q (.int z.length) H) ?_ ?_
 ·intro vs H Q ds d rs e k
  match ds,e with
  | [.list xs],e=>
   obtain ⟨v,rfl,r⟩:=rs.one
   cases e
   cases r with
   | @lst p us _ hq hl _=>exact ⟨p,us,rfl,.inl hq,by rw [hl];exact k _ (.int _)⟩
  | [.tuple xs],e=>
   obtain ⟨v,rfl,r⟩:=rs.one
   cases e
   cases r with
   | @tup p us _ hq hl _=>exact ⟨p,us,rfl,.inr hq,by rw [hl];exact k _ (.int _)⟩
 ·intro vs H Q ds d rs e k
  match ds,e with
  | [.str x],e=>
   obtain ⟨v,rfl,r⟩:=rs.one;simp only [vj] at e
   split at e
   ·rename_i z
    cases e
    cases r;exact ⟨x,rfl,z,k _ (.int _)⟩
   ·cases e
def fH:List D->Option D
 | [.int i]=>some (.int i)
 | [.bool b]=>some (.int (if b then 1 else 0))
 | _=>none
theorem Cj {K:Fg}:GCall K (fun xs H Q=>(∃i,xs=[.int i]/\Q (.int i) H)\/∃k,xs=[.bl k]/\Q (.int (if k then 1 else 0)) H) fH:=by
 intro vs H Q ds d rs e k;match ds,e with
 | [.int i],e=>
  obtain ⟨v,rfl,r⟩:=rs.one
  cases e;cases r;exact .inl ⟨i,rfl,k _ (.int _)⟩
 | [.bool b],e=>
  obtain ⟨v,rfl,r⟩:=rs.one
  cases e;cases r;exact .inr ⟨b,rfl,k _ (.int _)⟩
def Mr:List D->Option D
 | [.int i,.int j]=>some (.int (if j>i then j else i))
 | _=>none
def mG:List D->Option (List Bool)
 | []=>some []
 | .bool b::r=>(mG r).map (b :: ·)
 | _=>none
theorem GZ:∀{ds:List D} {bs:List Bool},mG ds=some bs->ds=bs.map PyData.bool
 | [],bs,h=>by cases h;rfl
 | .bool b::r,bs,h=>by
  simp only [mG] at h
  cases e:mG r with
  | none=>rw [e] at h;cases h
  | some cs=>rw [e] at h;cases h;rw [GZ e];rfl
 | .none::_,_,h=>by cases h
 | .int _::_,_,h=>by cases h
 | .str _::_,_,h=>by cases h
 | .list _::_,_,h=>by cases h
 | .tuple _::_,_,h=>by cases h
 | .dict _::_,_,h=>by cases h
def cQ (any:Bool):List D->Option D
 | [.list xs]=>(mG xs).map fun bs=>.bool (if any then bs.any id else bs.all id)
 | _=>none
theorem G4 {K:Fg} {H:Hp}:∀{vs:List V} {bs:List Bool},Reps K H vs (bs.map PyData.bool)->vs=bs.map V.bl
 | [],[],_=>rfl
 | v::vs,b::bs,⟨hl,h⟩=>by
  have r:=h 0 v (.bool b) rfl rfl
  cases r;rw [G4 (bs:=bs) (vs:=vs) ⟨by simpa using hl,fun i v d h1 h2=>h (i+1) v d (by simpa using h1) (by simpa using h2)⟩]
  rfl
 | [],_::_,⟨hl,_⟩=>by simp at hl
 | _::_,[],⟨hl,_⟩=>by simp at hl
def Bq (K:Fg) (any:Bool):List V->Hp->VK->Prop:=fun xs H Q=>∃(p:Addr) (bs:List Bool),xs=[.ref p]/\SqL K H p (bs.map V.bl)/\Q (.bl (if any then bs.any id else bs.all id)) H
theorem vi {K:Fg} {any:Bool}:GCall K (Bq K any) (cQ any):=by
 intro vs H Q ds d rs e k;match ds,e with
 | [.list xs],e=>
  obtain ⟨v,rfl,r⟩:=rs.one;simp only [cQ] at e
  cases eb:mG xs with
  | none=>rw [eb] at e;cases e
  | some bs=>
   rw [eb] at e
   cases e;have:=GZ eb
   subst this
   cases r with
   | @lst p us _ hq hl hr=>
    have:=G4 ⟨hl,hr⟩
    subst this;exact ⟨p,bs,rfl,hq,k _ (.bl _)⟩
section
variable {X:Cx}
theorem jw {bs:List Bool}:∀{its:List Value},Vals (bs.map V.bl) its->its=bs.map Value.bool:=by
 induction bs with
 | nil=>intro its h;cases h;rfl
 | cons b bs ih=>
  intro its h
  cases h with
  | cons r t=>
   cases (show _=Value.bool b from r)
   rw [ih t];rfl
theorem qq (bs:List Bool):(List.range bs.length).all (fun i=>bs.getD i false)=bs.all id:=by
 rw [Bool.eq_iff_iff,all_eq_true,all_eq_true];constructor
 ·intro h b hb
  obtain ⟨i,hi,e⟩:=List.mem_iff_getElem.mp hb;have:=h i (List.mem_range.mpr hi)
  rw [MJ,MI hi] at this;rw [<-e];simpa using this
 ·intro h i hi
  have hi:=List.mem_range.mp hi
  rw [MJ,MI hi];exact h _ (getElem_mem hi)
theorem qp (bs:List Bool):(List.range bs.length).any (fun i=>bs.getD i false)=bs.any id:=by
 rw [Bool.eq_iff_iff,any_eq_true,any_eq_true];constructor
 ·rintro ⟨i,hi,h⟩
  have hi:=List.mem_range.mp hi
  rw [MJ,MI hi] at h;exact ⟨_,getElem_mem hi,h⟩
 ·rintro ⟨b,hb,h⟩
  obtain ⟨i,hi,e⟩:=List.mem_iff_getElem.mp hb;refine ⟨i,List.mem_range.mpr hi,?_⟩
  rw [MJ,MI hi,e];exact h
theorem fN {prog:Program} {w:World} {A:Around} {bs:List Bool}:TruthOf prog w A (fun i v=>(bs.map Value.bool).toArray[i]?=some v) (fun i=>bs.getD i false):=by
 intro i v s Q E hP hQ;simp only [List.getElem?_toArray,getElem?_map] at hP
 cases e:bs[i]? with
 | none=>rw [e] at hP;cases hP
 | some b=>
  rw [e] at hP
  cases hP;have hQ:Q (bs.getD i false) s:=hQ
  rw [MJ,e] at hQ;exact wpAny_truthy_bool hQ
theorem rR (hc:X.calm=true):CallR X (.builtin "all") (Bq X.K false):=by
 intro pins s σ H vs us Q I rv h;obtain ⟨p,bs,rfl,hq,q⟩:=h;obtain ⟨u,rfl,ru⟩:=vals1 rv
 cases ru;obtain ⟨its,rv,pl,hz⟩:=I.list hq;have:=jw rv
 subst this;have hd:=I.ok.hd hc
 refine call_all_walk (wpAny_pyIter_list pl.isList ?_)
 have ne:p≠s.heap.objs.size:=by
  obtain ⟨o,n,e,_⟩:=pl;exact Nat.ne_of_lt (Heap.lt_size e)
 refine ⟨s.heap.objs.size,_,_,_,_,_,fun i=>bs.getD i false,rfl,Walks.list (prog:=X.prog) (w:=X.w) (A:=X.A.in1) hd s.heap.objs.size p ne (bs.map Value.bool).toArray,⟨⟨_,Heap.get?_push_size _ rfl,rfl,rfl⟩,pl.isList.at fun o e=>MP _ e⟩,fN,fun h' tk hk=>?_⟩
 refine ⟨.bl _,H,I.kept (h':=h') (t':=tk) fun b o e=>hk b o (fun z=>?_) (MP _ e),rfl,?_⟩
 ·have z:b=s.heap.objs.size:=by simpa using z
  exact absurd (Heap.lt_size e) (by rw [z];exact Nat.lt_irrefl _)
 ·rw [size_toArray,length_map,qq]
  exact q
theorem rQ (hc:X.calm=true):CallR X (.builtin "any") (Bq X.K true):=by
 intro pins s σ H vs us Q I rv h;obtain ⟨p,bs,rfl,hq,q⟩:=h;obtain ⟨u,rfl,ru⟩:=vals1 rv
 cases ru;obtain ⟨its,rv,pl,hz⟩:=I.list hq;have:=jw rv
 subst this;have hd:=I.ok.hd hc
 refine call_any_walk (wpAny_pyIter_list pl.isList ?_)
 have ne:p≠s.heap.objs.size:=by
  obtain ⟨o,n,e,_⟩:=pl;exact Nat.ne_of_lt (Heap.lt_size e)
 refine ⟨s.heap.objs.size,_,_,_,_,_,fun i=>bs.getD i false,rfl,Walks.list (prog:=X.prog) (w:=X.w) (A:=X.A.in1) hd s.heap.objs.size p ne (bs.map Value.bool).toArray,⟨⟨_,Heap.get?_push_size _ rfl,rfl,rfl⟩,pl.isList.at fun o e=>MP _ e⟩,fN,fun h' tk hk=>?_⟩
 refine ⟨.bl _,H,I.kept (h':=h') (t':=tk) fun b o e=>hk b o (fun z=>?_) (MP _ e),rfl,?_⟩
 ·have z:b=s.heap.objs.size:=by simpa using z
  exact absurd (Heap.lt_size e) (by rw [z];exact Nat.lt_irrefl _)
 ·rw [size_toArray,length_map,qp]
  exact q
end
def kh (s:Sh) (j:Nat) (d:D):Option Sh:=match s with
 | .leaf=>some .leaf
 | .view=>some (if bo d then .leaf else .view)
 | .lst s=>some s
 | .tup ss=>ss[j]?
def aj (fa fb:F1):F1:=aS fa fun p=>aS fb fun q=>fun Γ=>match q.d with
 | .int i=>(match p.d with
  | .list ds=>(match dQ ds.length i with
   | some j=>(match ds[j]? with
    | some d=>(match kh p.s j d with
     | some s=>.ok ⟨s,d⟩ Γ
     | none=>.no)
    | none=>.no)
   | none=>.no)
  | .tuple ds=>(match dQ ds.length i with
   | some j=>(match ds[j]? with
    | some d=>(match kh p.s j d with
     | some s=>.ok ⟨s,d⟩ Γ
     | none=>.no)
    | none=>.no)
   | none=>.no)
  | .str z=>if z.length<=sizeLine then (match d5 z.cps.toList i with
   | some c=>.ok ⟨.leaf,.str ⟨#[c]⟩⟩ Γ
   | none=>.no) else .no
  | _=>.no)
 | _=>.no
theorem Own.item {K:Fg} {O:List Addr} {H:Hp} {s s':Sh} {G:List Addr} {p:Addr} {ds:List D} {j:Nat} {d:D} (h:Own K O H s G (.ref p) (.list ds)) (hd:ds[j]?=some d) (hs:kh s j d=some s') :
  ∃vs v G',SqL K H p vs/\vs.length=ds.length/\vs[j]?=some v/\(∀a∈G',a∈G)/\G'.Nodup/\Own K O H s' G' v d:=by
 have hi:=(MM hd).1
 cases h with
 | view r=>
  cases r with
  | @lst _ vs _ hq hl hr=>
   have hv:vs[j]?=some (vs[j]'(by omega)):=MI _
   have r':=hr j _ d hv hd
   simp only [kh,Option.some.injEq] at hs
   cases e:bo d with
   | true=>
    rw [e] at hs
    cases hs;exact ⟨vs,_,[],hq,hl,hv,(fun _ z=>nomatch z),nodup_nil,.leaf (r'.sc e).rep⟩
   | false=>
    rw [e] at hs
    cases hs;exact ⟨vs,_,[],hq,hl,hv,(fun _ z=>nomatch z),nodup_nil,.view r'⟩
 | leaf r=>
  cases r with
  | @lst _ vs _ hq hl hr=>
   have hv:vs[j]?=some (vs[j]'(by omega)):=MI _
   cases hs;exact ⟨vs,_,[],hid_le.seq hq,hl,hv,(fun _ z=>nomatch z),nodup_nil,.leaf (hr j _ d hv hd)⟩
 | @lst s₀ _ vs _ Fs hv hp hl hf nd hr=>
  have hv':vs[j]?=some (vs[j]'(by omega)):=MI _
  have hF:Fs[j]?=some (Fs[j]'(by omega)):=MI _
  cases hs;refine ⟨vs,_,_,.of hp,hl,hv',fun a ha=>MK _ (mB hF ha),?_,hr j _ d _ hv' hd hF⟩
  exact ((List.nodup_cons.mp nd).2).sublist (List.sublist_flatten_of_mem (mem_of_getElem? hF))
theorem Own.itemT {K:Fg} {O:List Addr} {H:Hp} {s s':Sh} {G:List Addr} {p:Addr} {ds:List D} {j:Nat} {d:D} (h:Own K O H s G (.ref p) (.tuple ds)) (hd:ds[j]?=some d) (hs:kh s j d=some s') :
  ∃vs v G',SqT K H p vs/\vs.length=ds.length/\vs[j]?=some v/\(∀a∈G',a∈G)/\G'.Nodup/\Own K O H s' G' v d:=by
 have hi:=(MM hd).1
 cases h with
 | view r=>
  cases r with
  | @tup _ vs _ hq hl hr=>
   have hv:vs[j]?=some (vs[j]'(by omega)):=MI _
   have r':=hr j _ d hv hd
   simp only [kh,Option.some.injEq] at hs
   cases e:bo d with
   | true=>
    rw [e] at hs
    cases hs;exact ⟨vs,_,[],hq,hl,hv,(fun _ z=>nomatch z),nodup_nil,.leaf (r'.sc e).rep⟩
   | false=>
    rw [e] at hs
    cases hs;exact ⟨vs,_,[],hq,hl,hv,(fun _ z=>nomatch z),nodup_nil,.view r'⟩
 | leaf r=>
  cases r with
  | @tup _ vs _ hq hl hr=>
   have hv:vs[j]?=some (vs[j]'(by omega)):=MI _
   cases hs;exact ⟨vs,_,[],mr hid_le hq,hl,hv,(fun _ z=>nomatch z),nodup_nil,.leaf (hr j _ d hv hd)⟩
 | @tup ss _ vs _ Fs hv hp hn hl hf hl2 nd hr=>
  have hv':vs[j]?=some (vs[j]'(by omega)):=MI _
  have hF:Fs[j]?=some (Fs[j]'(by omega)):=MI _
  have hs:ss[j]?=some s':=hs
  refine ⟨vs,_,_,.of hp,hl,hv',fun a ha=>mB hF ha,?_,hr j _ d _ _ hv' hd hF hs⟩
  exact nd.sublist (List.sublist_flatten_of_mem (mem_of_getElem? hF))
theorem Wants.part {K:Fg} {W:XW} {σ:St} {He H H2:Hp} {O G G':List Addr} {Fs Fs2:List (List Addr)} {Γ':Ev} {Q:VK} {s:Sh} {v:V} {d:D} (h:Wants K W He O Fs H σ Q (.ok ⟨s,d⟩ Γ')) (e:Same H H2)
  (E:EnvOk K He (G++O) Fs2 H2 σ Γ') (sub:∀a∈G',a∈G) (nd:G'.Nodup) (new:∀a∈G++Fs2.flatten,a∈Fs.flatten\/H a=none) (o:Own K (G++O++Fs2.flatten) H2 s G' v d):Q v H2:=by
 have sub2:∀a∈G'++O,a∈G++O:=fun a ha=>by
  rcases MG ha with z | z
  ·exact MF _ (sub a z)
  ·exact ME _ z
 obtain ⟨n1,n2,n3⟩:=ML E.ndO;refine h v H2 G' Fs2 ⟨e,E.drop sub2 (List.nodup_append.mpr ⟨nd,n2,fun a ha b hb=>n3 a (sub a ha) b hb⟩),fun a ha=>new a ?_,o.perm fun a ha=>?_⟩
 ·rcases MG ha with z | z
  ·exact MF _ (sub a z)
  ·exact ME _ z
 ·rcases MG ha with z | z
  ·exact MF _ (sub2 a z)
  ·exact ME _ z
theorem HM {α β:Type} {xs:List α} {ys:List β} {i:Int} {j:Nat} {v:α} (hl:xs.length=ys.length) (h:dQ ys.length i=some j) (hv:xs[j]?=some v):d5 xs i=some v:=by
 unfold d5;rw [hl,h];exact hv
section
variable {K:Fg} {W:XW} {σ:St} {H:Hp} {Q:VK} {fa fb:F1}
theorem Ba (h:tE K W (aj fa fb) σ H Q):sV (Bm K) (tE K W fa) (tE K W fb) σ H Q:=by
 refine C4 h ?_
 intro He O Fs Γ2 p q v u H1 H2 G1 G2 Fs2 nd s1 s2 E new o1 o2 w;obtain ⟨ps,pd⟩:=p;obtain ⟨qs,qd⟩:=q;have ri:=o2.rep
 cases qd<;>try exact w.elim
 rename_i i
 cases ri;have E':EnvOk K He ((G2++G1)++O) Fs2 H2 σ Γ2:=by rw [append_assoc];exact E
 have new':∀a∈(G2++G1)++Fs2.flatten,a∈Fs.flatten\/H a=none:=fun a ha=>new a (by rw [<-append_assoc];exact ha)
 have o1':Own K ((G2++G1)++O++Fs2.flatten) H2 ps G1 v pd:=o1.perm fun a ha=>by rw [append_assoc G2] at ha;exact ha
 have rp:=o1.rep
 cases pd with
 | list ds=>
  obtain ⟨p0,rfl⟩:∃p0,v=.ref p0:=by cases rp;exact ⟨_,rfl⟩
  have w:Wants K W He O Fs H σ Q (match dQ ds.length i with | some j=>(match ds[j]? with | some d=>(match kh ps j d with | some s=>.ok ⟨s,d⟩ Γ2 | none=>.no) | none=>.no) | none=>.no):=w
  cases e1:dQ ds.length i with
  | none=>rw [e1] at w;exact w.elim
  | some j=>
   rw [e1] at w;have w:Wants K W He O Fs H σ Q (match ds[j]? with | some d=>(match kh ps j d with | some s=>.ok ⟨s,d⟩ Γ2 | none=>.no) | none=>.no):=w
   cases e2:ds[j]? with
   | none=>rw [e2] at w;exact w.elim
   | some d=>
    rw [e2] at w;have w:Wants K W He O Fs H σ Q (match kh ps j d with | some s=>.ok ⟨s,d⟩ Γ2 | none=>.no):=w
    cases e3:kh ps j d with
    | none=>rw [e3] at w;exact w.elim
    | some s=>
     rw [e3] at w;obtain ⟨vs,v',G',h1,h2,h3,h4,h5,h6⟩:=o1'.item e2 e3
     exact .inl ⟨p0,vs,i,v',rfl,rfl,h1,HM h2 e1 h3,Wants.part w (s1.trans s2) E' (fun a ha=>ME _ (h4 a ha)) h5 new' h6⟩
 | tuple ds=>
  obtain ⟨p0,rfl⟩:∃p0,v=.ref p0:=by cases rp;exact ⟨_,rfl⟩
  have w:Wants K W He O Fs H σ Q (match dQ ds.length i with | some j=>(match ds[j]? with | some d=>(match kh ps j d with | some s=>.ok ⟨s,d⟩ Γ2 | none=>.no) | none=>.no) | none=>.no):=w
  cases e1:dQ ds.length i with
  | none=>rw [e1] at w;exact w.elim
  | some j=>
   rw [e1] at w;have w:Wants K W He O Fs H σ Q (match ds[j]? with | some d=>(match kh ps j d with | some s=>.ok ⟨s,d⟩ Γ2 | none=>.no) | none=>.no):=w
   cases e2:ds[j]? with
   | none=>rw [e2] at w;exact w.elim
   | some d=>
    rw [e2] at w;have w:Wants K W He O Fs H σ Q (match kh ps j d with | some s=>.ok ⟨s,d⟩ Γ2 | none=>.no):=w
    cases e3:kh ps j d with
    | none=>rw [e3] at w;exact w.elim
    | some s=>
     rw [e3] at w;obtain ⟨vs,v',G',h1,h2,h3,h4,h5,h6⟩:=o1'.itemT e2 e3
     exact .inr (.inl ⟨p0,vs,i,v',rfl,rfl,h1,HM h2 e1 h3,Wants.part w (s1.trans s2) E' (fun a ha=>ME _ (h4 a ha)) h5 new' h6⟩)
 | str z=>
  cases rp;have w:Wants K W He O Fs H σ Q (if z.length<=sizeLine then (match d5 z.cps.toList i with | some c=>.ok ⟨.leaf,.str ⟨#[c]⟩⟩ Γ2 | none=>.no) else .no):=w
  by_cases hz:z.length<=sizeLine
  ·rw [if_pos hz] at w
   cases e1:d5 z.cps.toList i with
   | none=>rw [e1] at w;exact w.elim
   | some c=>
    rw [e1] at w;exact .inr (.inr ⟨z,i,c,rfl,rfl,hz,e1,Wants.scal w (.str _) (s1.trans s2) E (fun a ha=>ME _ (ME _ ha)) nd fun a ha=>new a (ME _ (ME _ ha))⟩)
  ·rw [if_neg hz] at w
   exact w.elim
 | none=>exact w.elim
 | bool b=>exact w.elim
 | int k=>exact w.elim
 | dict k=>exact w.elim
end
theorem lu (s:Sh):∀Gs:List (List Addr),((Gs.map (bh s)).flatten).Sublist Gs.flatten
 | []=>List.Sublist.refl _
 | G::Gs=>by
  simp only [map_cons,flatten_cons]
  refine List.Sublist.append ?_ (lu s Gs)
  unfold bh;split
  ·exact List.nil_sublist _
  ·exact List.Sublist.refl _
theorem jh:∀Gs:List (List Addr),(Gs.map (bh .leaf)).flatten=[]
 | []=>rfl
 | _::Gs=>by simp only [map_cons,flatten_cons,jh Gs];rfl
section
variable {K:Fg} {W:XW} {σ:St} {He H H':Hp} {O:List Addr} {Fs Fs' Gs:List (List Addr)} {Γ':Ev} {ps:List PV} {vs:List V} {Q:VK}
theorem AftL.newList {s:Sh} {p:Addr} (A:AftL K He O Fs H σ Γ' ps vs H' Gs Fs') (hs:s.isView=false) (hc:ps.all (T.coer s)=true) (hp:H' p=none) :
  Aft K He O Fs H σ Γ' ⟨.lst s,.list (ps.map (·.d))⟩ (.ref p) (bF H' p (.lst vs)) (p::(Gs.map (bh s)).flatten) Fs':=by
 obtain ⟨n1,n2,n3⟩:=ML A.env.ndO;obtain ⟨m1,m2,m3⟩:=ML A.env.nd;have hsub:=lu s Gs
 have E1:EnvOk K He ((Gs.map (bh s)).flatten++O) Fs' H' σ Γ':=A.env.drop (fun a ha=>by
   rcases MG ha with z | z
   ·exact MF _ (hsub.subset z)
   ·exact ME _ z) (List.nodup_append.mpr ⟨n1.sublist hsub,n2,fun a ha b hb=>n3 a (hsub.subset ha) b hb⟩)
 have E2:=E1.hide (G:=[p]) (gB (o:=.lst vs) hp) (by simp) (fun a ha=>by simp at ha;rw [ha];exact hp) (fun a ha=>by simp at ha;rw [ha,dO];exact Option.some_ne_none _)
 have pn:∀{a},a∈Gs.flatten++O++Fs'.flatten->a≠p:=fun {a} ha z=>A.env.inH a ha (by rw [z];exact hp)
 refine ⟨A.same.trans (gB hp),E2,fun a ha=>?_,?_⟩
 ·rcases MG ha with z | z
  ·rcases MH z with z | z
   ·rw [z];exact .inr (A.same.free hp)
   ·exact A.new a (MF _ (hsub.subset z))
  ·exact A.new a (ME _ z)
 ·refine .lst hs dO (by rw [length_map];exact A.len1) (by rw [length_map,length_map];exact A.len2) ?_ fun i v d F h1 h2 h3=>?_
  ·refine List.nodup_cons.mpr ⟨fun z=>pn (MF _ (MF _ (hsub.subset z))) rfl,n1.sublist hsub⟩
  ·rw [getElem?_map] at h2 h3
   cases e2:ps[i]? with
   | none=>rw [e2] at h2;cases h2
   | some q=>
    cases e3:Gs[i]? with
    | none=>rw [e3] at h3;cases h3
    | some G=>
     rw [e2] at h2;rw [e3] at h3
     cases h2
     cases h3;have cq:T.coer s q=true:=List.all_eq_true.mp hc q (mem_of_getElem? e2)
     have o1:=(A.own i v q G h1 e2 e3).mono (O':=p::(Gs.flatten++O++Fs'.flatten)) (gB (o:=.lst vs) hp) fun a ha=>by
      rcases MH ha with z | z
      ·rw [z];exact .inr hp
      ·exact .inl z
     refine o1.coer cq (fun a ha=>?_) fun a ha hO=>?_
     ·rw [append_assoc] at ha
      rcases MG ha with z | z
      ·rcases MH z with z | z
       ·rw [z];exact mem_cons_self
       ·exact MK _ (MF _ (MF _ (hsub.subset z)))
      ·rcases MG z with z | z
       ·exact MK _ (MF _ (ME _ z))
       ·exact MK _ (ME _ z)
     ·have hG:a∈Gs.flatten:=mB e3 ha
      cases s with
      | leaf=>
       rw [jh] at hO;exfalso
       rw [append_assoc] at hO;rcases MG hO with z | z
       ·have z:a=p:=by simpa using z
        exact pn (MF _ (MF _ hG)) z
       ·rcases MG z with z | z
        ·exact n3 a hG a z rfl
        ·exact m3 a (MF _ hG) a z rfl
      | view=>cases hs
      | lst s=>exact ha
      | tup ss=>exact ha
def av (s:Sh) (fl:FL):F1:=fun Γ=>(fl Γ).bind fun ps Γ'=>if !s.isView&&ps.all (T.coer s)&&decide (ps.length<=sizeLine) then .ok ⟨.lst s,.list (ps.map (·.d))⟩ Γ' else .no
theorem oM {s:Sh} {fl:FL} (h:tE K W (av s fl) σ H Q):AF (tA K W fl) σ H Q:=by
 obtain ⟨He,O,Fs,Γ,E,h⟩:=h;refine ⟨He,O,Fs,Γ,E,?_⟩
 unfold av at h
 cases e:fl Γ with
 | ok ps Γ'=>
  rw [e] at h;intro vs H' Gs Fs' A
  have h:Wants K W He O Fs H σ Q (if (!s.isView&&ps.all (T.coer s)&&decide (ps.length<=sizeLine))=true then .ok ⟨.lst s,.list (ps.map (·.d))⟩ Γ' else .no):=h
  by_cases hc:(!s.isView&&ps.all (T.coer s)&&decide (ps.length<=sizeLine))=true
  ·rw [if_pos hc] at h
   simp only [Bool.and_eq_true,decide_eq_true_eq,Bool.not_eq_true'] at hc
   exact ⟨by rw [A.len1];exact hc.2,fun p hp=>h _ _ _ _ (A.newList hc.1.1 hc.1.2 hp)⟩
  ·rw [if_neg hc] at h
   exact h.elim
 | er c Γ'=>rw [e] at h;exact h
 | no=>rw [e] at h;exact h
def AA (p:PV):Sh:=if p.s.isView then .leaf else p.s
def tok (p:PV):Bool:=!p.s.isView||bo p.d
theorem AftL.newTup {p:Addr} (A:AftL K He O Fs H σ Γ' ps vs H' Gs Fs') (hc:ps.all tok=true) (hp:H' p=none) :
  Aft K He O Fs H σ Γ' ⟨.tup (ps.map AA),.tuple (ps.map (·.d))⟩ (.ref p) (bF H' p (.tup vs)) Gs.flatten Fs':=by
 obtain ⟨n1,n2,n3⟩:=ML A.env.ndO;have pn:p∉Gs.flatten++O++Fs'.flatten:=fun ha=>A.env.inH p ha hp
 refine ⟨A.same.trans (gB hp),A.env.grow (gB hp),A.new,?_⟩
 refine .tup (fun s hs=>?_) dO pn (by rw [length_map];exact A.len1) (by rw [length_map];exact A.len2) (by rw [length_map,length_map]) n1 fun i v d F s h1 h2 h3 h4=>?_
 ·obtain ⟨q,_,rfl⟩:=List.mem_map.mp hs
  unfold AA;split
  ·rfl
  ·rename_i z;simpa using z
 ·rw [getElem?_map] at h2 h4
  cases e2:ps[i]? with
  | none=>rw [e2] at h2;cases h2
  | some q=>
   rw [e2] at h2 h4
   cases h2
   cases h4;have cq:tok q=true:=List.all_eq_true.mp hc q (mem_of_getElem? e2)
   have o1:=(A.own i v q F h1 e2 h3).mono (O':=Gs.flatten++O++Fs'.flatten) (gB (o:=.tup vs) hp) fun a ha=>.inl ha
   unfold AA
   cases hv:q.s.isView with
   | false=>exact o1
   | true=>
    unfold tok at cq;rw [hv] at cq;obtain ⟨s,d⟩:=q
    cases s with
    | view=>
     cases o1 with
     | view r=>exact .leaf (r.sc (by simpa using cq)).rep
    | _=>cases hv
def bT (fl:FL):F1:=fun Γ=>(fl Γ).bind fun ps Γ'=>if ps.all tok&&decide (ps.length<=sizeLine) then .ok ⟨.tup (ps.map AA),.tuple (ps.map (·.d))⟩ Γ' else .no
theorem AY {fl:FL} (h:tE K W (bT fl) σ H Q):AC (tA K W fl) σ H Q:=by
 obtain ⟨He,O,Fs,Γ,E,h⟩:=h;refine ⟨He,O,Fs,Γ,E,?_⟩
 unfold bT at h
 cases e:fl Γ with
 | ok ps Γ'=>
  rw [e] at h;intro vs H' Gs Fs' A
  have h:Wants K W He O Fs H σ Q (if (ps.all tok&&decide (ps.length<=sizeLine))=true then .ok ⟨.tup (ps.map AA),.tuple (ps.map (·.d))⟩ Γ' else .no):=h
  by_cases hc:(ps.all tok&&decide (ps.length<=sizeLine))=true
  ·rw [if_pos hc] at h
   simp only [Bool.and_eq_true,decide_eq_true_eq] at hc
   exact ⟨by rw [A.len1];exact hc.2,fun p hp=>h _ _ _ _ (A.newTup hc.1 hp)⟩
  ·rw [if_neg hc] at h
   exact h.elim
 | er c Γ'=>rw [e] at h;exact h
 | no=>rw [e] at h;exact h
end
def dA (p:PV) (ds:List D):Bool:=!p.s.isView||ds.all bo
theorem Own.items {K:Fg} {O O':List Addr} {H:Hp} {s:Sh} {G:List Addr} {v:V} {ds:List D} (h:Own K O H s G v (.list ds)) (hc:dA ⟨s,.list ds⟩ ds=true) (h1:∀a∈O',a∈O) (h2:∀a∈G,a∉O') :
  ∃p vs,v=.ref p/\SqL K H p vs/\(s.isView=false->SqL K (bW H O') p vs)/\Reps K (bW H O') vs ds:=by
 have hr:=h.rep
 cases hv:s.isView with
 | false=>
  have r:=h.freeze hv h1 h2
  cases r with
  | @lst p vs _ hq hl hr=>exact ⟨p,vs,rfl,hid_le.seq hq,fun _=>hq,hl,hr⟩
 | true=>
  unfold dA at hc;have hc:ds.all bo=true:=by simpa [hv] using hc
  cases hr with
  | @lst p vs _ hq hl hr=>exact ⟨p,vs,rfl,hq,nofun,hl,fun i v d e1 e2=>((hr i v d e1 e2).sc (List.all_eq_true.mp hc d (mem_of_getElem? e2))).rep⟩
theorem Own.itemsT {K:Fg} {O O':List Addr} {H:Hp} {s:Sh} {G:List Addr} {v:V} {ds:List D} (h:Own K O H s G v (.tuple ds)) (hc:dA ⟨s,.tuple ds⟩ ds=true) (h1:∀a∈O',a∈O) (h2:∀a∈G,a∉O') :
  ∃p vs,v=.ref p/\SqT K H p vs/\(s.isView=false->SqT K (bW H O') p vs)/\Reps K (bW H O') vs ds:=by
 have hr:=h.rep
 cases hv:s.isView with
 | false=>
  have r:=h.freeze hv h1 h2
  cases r with
  | @tup p vs _ hq hl hr=>exact ⟨p,vs,rfl,mr hid_le hq,fun _=>hq,hl,hr⟩
 | true=>
  unfold dA at hc;have hc:ds.all bo=true:=by simpa [hv] using hc
  cases hr with
  | @tup p vs _ hq hl hr=>exact ⟨p,vs,rfl,hq,nofun,hl,fun i v d e1 e2=>((hr i v d e1 e2).sc (List.all_eq_true.mp hc d (mem_of_getElem? e2))).rep⟩
theorem GS {K:Fg} {σ:St} {He H H1:Hp} {O:List Addr} {Fs Fs1:List (List Addr)} {Γ1:Ev} {vs:List V} {ds:List D} {p:Addr} (E:EnvOk K He O Fs1 H1 σ Γ1) (s:Same H H1) (n:∀a∈Fs1.flatten,a∈Fs.flatten\/H a=none)
  (hr:Reps K (bW H1 (O++Fs1.flatten)) vs ds) (hp:H1 p=none):Aft K He O Fs H σ Γ1 ⟨.lst .leaf,.list ds⟩ (.ref p) (bF H1 p (.lst vs)) [p] Fs1:=by
 have E2:=E.hide (G:=[p]) (gB (o:=.lst vs) hp) (by simp) (fun a ha=>by simp at ha;rw [ha];exact hp) (fun a ha=>by simp at ha;rw [ha,dO];exact Option.some_ne_none _)
 refine ⟨s.trans (gB hp),E2,fun a ha=>?_,?_⟩
 ·rcases MG ha with z | z
  ·have z:a=p:=by simpa using z
   rw [z];exact .inr (s.free hp)
  ·exact n a z
 ·have fl:(List.replicate ds.length ([]:List Addr)).flatten=[]:=by simp
  have:[p]=p::(List.replicate ds.length ([]:List Addr)).flatten:=by rw [fl]
  rw [this];refine .lst rfl dO hr.1 (by simp) (by rw [fl];simp) fun i v d F h1 h2 h3=>?_
  rw [getElem?_replicate] at h3;split at h3
  ·cases h3
   refine .leaf ((hr.2 i v d h1 h2).mono (sq (gB hp) fun a ha=>?_))
   rw [fl] at ha;rcases MG ha with z | z
   ·rcases MG z with z | z
    ·have z:a=p:=by simpa using z
     rw [z];exact .inr hp
    ·exact .inl (MF _ z)
   ·exact .inl (ME _ z)
  ·cases h3
def vZ (fa:F1):F1:=aS fa fun p Γ=>match p.d with
 | .list ds=>if dA p ds then .ok ⟨.lst .leaf,.list ds⟩ Γ else .no
 | .tuple ds=>if dA p ds then .ok ⟨.lst .leaf,.list ds⟩ Γ else .no
 | _=>.no
section
variable {K:Fg} {W:XW} {σ:St} {H:Hp} {Q:VK} {fa fb:F1}
theorem Aft.disj {He H1:Hp} {O G:List Addr} {Fs Fs1:List (List Addr)} {Γ1:Ev} {p:PV} {v:V} (A:Aft K He O Fs H σ Γ1 p v H1 G Fs1):∀a∈G,a∉O++Fs1.flatten:=fun a ha z=>by
 have nd:=A.env.nd
 rw [append_assoc] at nd;exact (ML nd).2.2 a ha a z rfl
theorem qa {G O F:List Addr}:∀a∈O++F,a∈G++O++F:=fun a ha=>by
 rw [append_assoc];exact ME _ ha
theorem qm (h:tE K W (vZ fa) σ H Q):AH (fun xs H Q=>∃p ys,xs=[.ref p]/\(SqL K H p ys\/SqT K H p ys)/\∀l,H l=none->Q (.ref l) (bF H l (.lst ys))) (tA K W (ae fa ag)) σ H Q:=by
 have h1:tE K W fa σ H fun x H1=>∃p ys,x=.ref p/\(SqL K H1 p ys\/SqT K H1 p ys)/\∀l,H1 l=none->Q (.ref l) (bF H1 l (.lst ys)):=by
  refine C3 h fun He O Fs Γ1 p v H1 G Fs1 nd A w=>?_
  obtain ⟨s,d⟩:=p
  cases d with
  | list ds=>
   have w:Wants K W He O Fs H σ Q (if dA ⟨s,.list ds⟩ ds then .ok ⟨.lst .leaf,.list ds⟩ Γ1 else .no):=w
   cases hc:dA ⟨s,.list ds⟩ ds with
   | false=>rw [hc] at w;exact w.elim
   | true=>
    rw [hc] at w;obtain ⟨p,vs,rfl,hq,_,hr⟩:=A.own.items (O':=O++Fs1.flatten) hc qa A.disj
    exact ⟨p,vs,rfl,.inl hq,fun l hl=>w _ _ _ _ (GS A.go A.same A.newF hr hl)⟩
  | tuple ds=>
   have w:Wants K W He O Fs H σ Q (if dA ⟨s,.tuple ds⟩ ds then .ok ⟨.lst .leaf,.list ds⟩ Γ1 else .no):=w
   cases hc:dA ⟨s,.tuple ds⟩ ds with
   | false=>rw [hc] at w;exact w.elim
   | true=>
    rw [hc] at w;obtain ⟨p,vs,rfl,hq,_,hr⟩:=A.own.itemsT (O':=O++Fs1.flatten) hc qa A.disj
    exact ⟨p,vs,rfl,.inr hq,fun l hl=>w _ _ _ _ (GS A.go A.same A.newF hr hl)⟩
  | _=>exact w.elim
 obtain ⟨He,O,Fs,Γ,E,h1⟩:=h1;refine ⟨He,O,Fs,Γ,E,?_⟩
 unfold ae ag
 cases e:fa Γ with
 | ok p Γ'=>
  rw [e] at h1;intro vs H' Gs Fs' A
  match vs,Gs,A.len1,A.len2 with
  | [v],[G],_,_=>
   have A':Aft K He O Fs H σ Γ' p v H' G Fs':=⟨A.same,by simpa using A.env,by simpa using A.new,by simpa using A.own 0 v p G rfl rfl rfl⟩
   obtain ⟨q,ys,rfl,h2,h3⟩:=h1 v H' G Fs' A'
   exact ⟨q,ys,rfl,h2,h3⟩
 | er c Γ'=>rw [e] at h1;exact h1
 | no=>rw [e] at h1;exact h1
end
structure yO (J:It) (P:Hp->Prop) (vs:List V):Prop where
 go:∀(i:Nat) H v,P H->vs[i]?=some v->J.go i H/\∀x H',J.yld i H x H'->H'=H/\x=v
 stop:∀H,P H->J.stop vs.length H
theorem xX {K:Fg} {a:Addr} {vs:List V}:yO (C0 K a) (fun H=>SqL K H a vs) vs:=
 ⟨fun i H v hp hv=>⟨⟨vs,v,hp,hv⟩,fun x H' ⟨e,q⟩=>⟨e,Option.some.inj ((q vs hp).symm.trans hv)⟩⟩,fun H hp=>⟨vs,hp,MQ _⟩⟩
def d8 (lo:Int) (n:Nat):List V:=(List.range n).map fun i=>.int (lo+(i:Nat))
def bX (lo:Int) (n:Nat):List D:=(List.range n).map fun i=>.int (lo+(i:Nat))
theorem uZ {lo:Int} {n:Nat}:yO (CZ lo n) (fun _=>True) (d8 lo n):=by
 refine ⟨fun i H v _ hv=>?_,fun H _=>?_⟩
 ·unfold d8 at hv
  rw [getElem?_map] at hv
  cases e:(List.range n)[i]? with
  | none=>rw [e] at hv;cases hv
  | some k=>
   rw [e] at hv;obtain ⟨h1,h2⟩:=MM e
   simp at h1 h2
   subst h2
   cases hv;exact ⟨h1,fun x H' ⟨q1,q2⟩=>⟨q1,q2⟩⟩
 ·show n<=(d8 lo n).length
  simp [d8]
theorem IL {K:Fg} {H:Hp} {lo:Int} {n:Nat}:Reps K H (d8 lo n) (bX lo n):=by
 refine ⟨by simp [d8,bX],fun i v d h1 h2=>?_⟩
 unfold d8 at h1;unfold bX at h2;rw [getElem?_map] at h1 h2
 cases e:(List.range n)[i]? with
 | none=>rw [e] at h1;cases h1
 | some k=>
  rw [e] at h1 h2
  cases h1
  cases h2;exact .int _
structure LZ where
 ds:List D
 st:Bool
abbrev FI:=Ev->Out LZ
def Gi (K:Fg) (W:XW) (He:Hp) (O:List Addr) (Fs:List (List Addr)) (H:Hp) (σ:St) (R:It->Hp->Prop) (o:Out LZ):Prop:=match o with
 | .ok t Γ'=>∀J H' Fs' vs P,Same H H'->EnvOk K He O Fs' H' σ Γ'->(∀a∈Fs'.flatten,a∈Fs.flatten\/H a=none)->yO J P vs->P H'->(∀H2,Same H' H2->P H2)->(t.st=true->∀H2,Same (bW H' Fs'.flatten) H2->P H2) ->
   Reps K (bW H' (O++Fs'.flatten)) vs t.ds->R J H'
 | .er c Γ'=>∀H' Fs',Same H H'->EnvOk K He O Fs' H' σ Γ'->W c σ H'
 | .no=>False
def tI (K:Fg) (W:XW) (f:FI):TI:=fun σ H R=>∃He O Fs Γ,EnvOk K He O Fs H σ Γ/\Gi K W He O Fs H σ R (f Γ)
theorem pL {X:Cx} {tg iter:Expr} {t t':TI} (h:PI X tg iter t) (i:∀σ H R,t' σ H R->t σ H R):PI X tg iter t':=fun pins s σ H R I q=>h pins s σ H R I (i σ H R q)
def aR (fa:F1):FI:=fun Γ=>(fa Γ).bind fun p Γ'=>match p.d with
 | .list ds=>if dA p ds then .ok ⟨ds,!p.s.isView⟩ Γ' else .no
 | _=>.no
def Fe (fa:F1):FI:=fun Γ=>(fa Γ).bind fun p Γ'=>match p.d with
 | .tuple ds=>if dA p ds then .ok ⟨ds,!p.s.isView⟩ Γ' else .no
 | _=>.no
section
variable {K:Fg} {W:XW} {σ:St} {H:Hp} {R:It->Hp->Prop} {fa fb:F1}
theorem sub_hid {H:Hp} {O F:List Addr}:Same (bW H (O++F)) (bW H F):=sq (Same.refl _) fun a ha=>.inl (ME _ ha)
theorem xj (h:tI K W (aR fa) σ H R):gY K (tE K W fa) σ H R:=by
 obtain ⟨He,O,Fs,Γ,E,h⟩:=h;refine ⟨He,O,Fs,Γ,E,?_⟩
 unfold aR at h
 cases e:fa Γ with
 | ok p Γ1=>
  rw [e] at h;intro v H1 G Fs1 A;obtain ⟨s,d⟩:=p
  cases d with
  | list ds=>
   have h:Gi K W He O Fs H σ R (if dA ⟨s,.list ds⟩ ds then .ok ⟨ds,!s.isView⟩ Γ1 else .no):=h
   cases hc:dA ⟨s,.list ds⟩ ds with
   | false=>rw [hc] at h;exact h.elim
   | true=>
    rw [hc] at h;obtain ⟨p,vs,rfl,hq,hst,hr⟩:=A.own.items (O':=O++Fs1.flatten) hc qa A.disj
    exact ⟨p,rfl,⟨vs,hq⟩,h (C0 K p) H1 Fs1 vs (fun H=>SqL K H p vs) A.same A.go A.newF xX hq (fun H2 s2=>s2.seq hq) (fun ht H2 s2=>s2.seq (sub_hid.seq (hst (by simpa using ht)))) hr⟩
  | _=>exact h.elim
 | er c Γ'=>rw [e] at h;exact h
 | no=>rw [e] at h;exact h
def cj (j:Int):Bool:=decide (-(2 ^ 62)<=j)&&decide (j<2 ^ 62)
def iz:List D->Option Int
 | [.int j]=>if cj j then some j else none
 | _=>none
def qj:List D->Option (Int×Int)
 | [.int i,.int j]=>if cj i&&cj j then some (i,j) else none
 | _=>none
theorem oG {ds:List D} {j:Int} (h:iz ds=some j):ds=[.int j]/\-(2 ^ 62)<=j/\j<2 ^ 62:=by
 unfold iz at h;split at h
 ·split at h
  ·rename_i hc
   cases h;simp only [cj,Bool.and_eq_true,decide_eq_true_eq] at hc
   exact ⟨rfl,hc.1,hc.2⟩
  ·cases h
 ·cases h
theorem wW {ds:List D} {i j:Int} (h:qj ds=some (i,j)):ds=[.int i,.int j]/\(-(2 ^ 62)<=i/\i<2 ^ 62/\-(2 ^ 62)<=j/\j<2 ^ 62):=by
 unfold qj at h;split at h
 ·split at h
  ·rename_i hc
   cases h;simp only [cj,Bool.and_eq_true,decide_eq_true_eq] at hc
   exact ⟨rfl,hc.1.1,hc.1.2,hc.2.1,hc.2.2⟩
  ·cases h
 ·cases h
def fw (fl:FL):FI:=fun Γ=>(fl Γ).bind fun ps Γ'=>match iz (ps.map (·.d)) with
 | some j=>.ok ⟨bX 0 j.toNat,true⟩ Γ'
 | none=>.no
def xZ (fl:FL):FI:=fun Γ=>(fl Γ).bind fun ps Γ'=>match qj (ps.map (·.d)) with
 | some (i,j)=>.ok ⟨bX i (j-i).toNat,true⟩ Γ'
 | none=>.no
theorem Bc {fl:FL} (h:tI K W (fw fl) σ H R):zD (tA K W fl) σ H R:=by
 obtain ⟨He,O,Fs,Γ,E,h⟩:=h;refine ⟨He,O,Fs,Γ,E,?_⟩
 unfold fw at h
 cases e:fl Γ with
 | ok ps Γ1=>
  rw [e] at h;intro vs H1 Gs Fs1 A;have h:Gi K W He O Fs H σ R (match iz (ps.map (·.d)) with | some j=>.ok ⟨bX 0 j.toNat,true⟩ Γ1 | none=>.no):=h
  have rs:=A.reps
  cases e1:iz (ps.map (·.d)) with
  | none=>rw [e1] at h;exact h.elim
  | some j=>
   rw [e1] at h;obtain ⟨e2,h1,h2⟩:=oG e1;rw [e2] at rs;obtain ⟨v,rfl,r⟩:=rs.one
   cases r;exact ⟨j,rfl,h1,h2,h (CZ 0 j.toNat) H1 Fs1 (d8 0 j.toNat) (fun _=>True) A.same A.env.dropL (fun a ha=>A.new a (ME _ ha)) uZ trivial (fun _ _=>trivial) (fun _ _ _=>trivial) IL⟩
 | er c Γ'=>rw [e] at h;exact h
 | no=>rw [e] at h;exact h
theorem Bb {fl:FL} (h:tI K W (xZ fl) σ H R):zC (tA K W fl) σ H R:=by
 obtain ⟨He,O,Fs,Γ,E,h⟩:=h;refine ⟨He,O,Fs,Γ,E,?_⟩
 unfold xZ at h
 cases e:fl Γ with
 | ok ps Γ1=>
  rw [e] at h;intro vs H1 Gs Fs1 A;have h:Gi K W He O Fs H σ R (match qj (ps.map (·.d)) with | some (i,j)=>.ok ⟨bX i (j-i).toNat,true⟩ Γ1 | none=>.no):=h
  have rs:=A.reps
  cases e1:qj (ps.map (·.d)) with
  | none=>rw [e1] at h;exact h.elim
  | some ij=>
   obtain ⟨i,j⟩:=ij;rw [e1] at h;obtain ⟨e2,hb⟩:=wW e1;rw [e2] at rs;obtain ⟨v,u,rfl,r,r'⟩:=rs.two
   cases r
   cases r'
   exact ⟨i,j,rfl,hb,h (CZ i (j-i).toNat) H1 Fs1 (d8 i (j-i).toNat) (fun _=>True) A.same A.env.dropL (fun a ha=>A.new a (ME _ ha)) uZ trivial (fun _ _=>trivial) (fun _ _ _=>trivial) IL⟩
 | er c Γ'=>rw [e] at h;exact h
 | no=>rw [e] at h;exact h
end
def pO (i:Nat) (fc:FB) (fe:F1) (s:Sh):List D->Ev->List D->Out (List D)
 | [],Γ,acc=>.ok acc Γ
 | d::r,Γ,acc=>match fc (Γ.set i (MS d)) with
  | .ok true Γ1=>(match fe Γ1 with
   | .ok p Γ2=>if T.coer s p&&decide (acc.length<sizeLine) then pO i fc fe s r (Γ2.set i none) (acc++[p.d]) else .no
   | _=>.no)
  | .ok false Γ1=>if acc.length<sizeLine then pO i fc fe s r (Γ1.set i none) acc else .no
  | _=>.no
def aB (s:Sh) (i:Nat) (fi:FI) (fc:FB) (fe:F1):F1:=fun Γ=>(fi Γ).bind fun t Γ1=>match pO i fc fe s t.ds (Γ1.set i none) [] with
 | .ok ds Γ2=>if !s.isView&&decide (i<Γ1.length) then .ok ⟨.lst s,.list ds⟩ (Γ2.set i (Γ1.getD i none)) else .no
 | _=>.no
abbrev W0:XW:=fun _ _ _=>False
section
variable {K:Fg} {He H H1 H2:Hp} {O G:List Addr} {Fs Fs1 Fs2:List (List Addr)} {σ:St} {Γ Γ1 Γ2:Ev}
theorem mj {is:List Nat} {σ:St} {j:Nat} (h:j∉is):(bA is σ)[j]?=σ[j]?:=by
 unfold bA;rw [List.getElem?_mapIdx]
 cases σ[j]? with
 | none=>rfl
 | some o=>simp [h]
theorem fh {Γ:Ev} {i j:Nat} {p:PV} (h:(Γ.set i none)[j]?=some (some p)):j≠i/\Γ[j]?=some (some p):=by
 by_cases hj:j=i
 ·subst hj
  rw [List.getElem?_set] at h;split at h
  ·split at h<;>cases h
  ·rename_i z;exact absurd rfl z
 ·rw [getElem?_set_ne (Ne.symm hj)] at h
  exact ⟨hj,h⟩
theorem EnvOk.shut {i:Nat} (E:EnvOk K He O Fs H σ Γ) (hi:i<Γ.length) :
  ∃F,Fs[i]?=some F/\EnvOk K He (F++O) (Fs.set i []) H (bA [i] σ) (Γ.set i none)/\∀a,a∈F++(Fs.set i []).flatten↔a∈Fs.flatten:=by
 obtain ⟨F,hF⟩:=E.lt hi;have pm:(F++(Fs.set i []).flatten).Perm Fs.flatten:=by simpa using oa (G:=[]) hF
 have pm2:(F++O++(Fs.set i []).flatten).Perm (O++Fs.flatten):=by
  rw [append_assoc];exact (oZ _ _ _).trans (List.Perm.append_left _ pm)
 refine ⟨F,hF,⟨by rw [GM,length_set];exact E.len1,by rw [length_set,length_set];exact E.len2,E.same,pm2.nodup_iff.mpr E.nd,fun a ha=>E.inH a (pm2.mem_iff.mp ha),fun a ha=>E.fresh a (pm.mem_iff.mp (ME _ ha)),fun j q hq=>?_⟩,fun a=>pm.mem_iff⟩
 obtain ⟨hj,hq⟩:=fh hq;obtain ⟨w1,v',F',e1,e2,e3⟩:=E.slot j q hq;exact ⟨w1,v',F',by rw [mj (by simpa using hj)];exact e1,by rw [getElem?_set_ne (Ne.symm hj)];exact e2,e3.mono (Same.refl _) fun a ha=>.inl (pm2.mem_iff.mp ha)⟩
theorem EnvOk.forget {i:Nat} {x:Option V} (E:EnvOk K He O Fs H ((bA [i] σ).set i x) Γ) (hi:i<Γ.length):EnvOk K He O (Fs.set i []) H (bA [i] σ) (Γ.set i none):=by
 obtain ⟨F,hF⟩:=E.lt hi;have pm:(F++(Fs.set i []).flatten).Perm Fs.flatten:=by simpa using oa (G:=[]) hF
 have sub:∀a∈O++(Fs.set i []).flatten,a∈O++Fs.flatten:=fun a ha=>by
  rcases MG ha with z | z
  ·exact MF _ z
  ·exact ME _ (pm.mem_iff.mp (ME _ z))
 have l1:=E.len1
 rw [length_set] at l1;obtain ⟨n1,n2,n3⟩:=ML E.nd;have n4:((Fs.set i []).flatten).Nodup:=(ML (pm.nodup_iff.mpr n2)).2.1
 refine ⟨by rw [length_set];exact l1,by rw [length_set,length_set];exact E.len2,E.same,List.nodup_append.mpr ⟨n1,n4,fun a ha b hb=>n3 a ha b (pm.mem_iff.mp (ME _ hb))⟩,fun a ha=>E.inH a (sub a ha),fun a ha=>E.fresh a (pm.mem_iff.mp (ME _ ha)),fun j q hq=>?_⟩
 obtain ⟨hj,hq⟩:=fh hq;obtain ⟨w1,v',F',e1,e2,e3⟩:=E.slot j q hq;rw [getElem?_set_ne (Ne.symm hj)] at e1;exact ⟨w1,v',F',e1,by rw [getElem?_set_ne (Ne.symm hj)];exact e2,e3.mono (Same.refl _) fun a ha=>.inl (sub a ha)⟩
theorem EnvOk.reopen {i:Nat} {F:List Addr} (E1:EnvOk K He O Fs1 H1 σ Γ1) (hF:Fs1[i]?=some F) (E2:EnvOk K He (G++(F++O)) Fs2 H2 (bA [i] σ) Γ2) (hl:Γ2.length=Γ1.length) (s:Same H1 H2)
  (hn:Γ2[i]?=some none) (hF2:Fs2[i]?=some []) (new:∀a∈G++Fs2.flatten,a∈Fs1.flatten\/H1 a=none):EnvOk K He (G++O) (Fs2.set i F) H2 σ (Γ2.set i (Γ1.getD i none)):=by
 have pm:((Fs2.set i F).flatten).Perm (F++Fs2.flatten):=by simpa using oa (G:=F) hF2
 have pm2:(G++O++(Fs2.set i F).flatten).Perm (G++(F++O)++Fs2.flatten):=by
  refine (List.Perm.append_left _ pm).trans ?_
  rw [append_assoc,append_assoc];refine List.Perm.append_left _ ?_
  rw [append_assoc];exact oZ _ _ _
 have hi:i<Γ2.length:=(MM hn).1
 refine ⟨by rw [length_set,hl];exact E1.len1,by rw [length_set,length_set];exact E2.len2,E2.same,pm2.nodup_iff.mpr E2.nd,fun a ha=>E2.inH a (pm2.mem_iff.mp ha),fun a ha=>?_,fun j q hq=>?_⟩
 ·rcases MG (pm.mem_iff.mp ha) with z | z
  ·exact E1.fresh a (mB hF z)
  ·exact E2.fresh a z
 ·by_cases hj:j=i
  ·subst hj
   rw [getElem?_set_self hi] at hq;have hq:Γ1.getD j none=some q:=Option.some.inj hq
   rw [MJ] at hq;have hq':Γ1[j]?=some (some q):=by
    cases e:Γ1[j]? with
    | none=>rw [e] at hq;cases hq
    | some o=>rw [e] at hq;simp only [Option.getD_some] at hq;rw [hq]
   obtain ⟨w1,v',F',e1,e2,e3⟩:=E1.slot j q hq'
   rw [hF] at e2
   cases e2;refine ⟨w1,v',F,e1,getElem?_set_self (by rw [E2.len2];exact hi),e3.mono s fun a ha=>?_⟩
   rcases MG ha with z | z
   ·rcases MG z with z | z
    ·exact (new a (MF _ z)).elim (fun y=>.inl (ME _ y)) .inr
    ·exact .inl (MF _ z)
   ·rcases MG (pm.mem_iff.mp z) with y | y
    ·exact .inl (ME _ (mB hF y))
    ·exact (new a (ME _ y)).elim (fun y=>.inl (ME _ y)) .inr
  ·rw [getElem?_set_ne (Ne.symm hj)] at hq
   obtain ⟨w1,v',F',e1,e2,e3⟩:=E2.slot j q hq;rw [mj (by simpa using hj)] at e1
   exact ⟨w1,v',F',e1,by rw [getElem?_set_ne (Ne.symm hj)];exact e2,e3.mono (Same.refl _) fun a ha=>.inl (pm2.mem_iff.mp ha)⟩
theorem EnvOk.mutO {p:Addr} {o:HO} {xs:List V} (E:EnvOk K He O Fs H σ Γ) (hp:p∈O) (hl:H p=some (.lst xs)) (hn:He p=none):EnvOk K He O Fs (bF H p o) σ Γ:=by
 obtain ⟨n1,n2,n3⟩:=ML E.nd;refine ⟨E.len1,E.len2,fun b u e=>?_,E.nd,fun a ha=>?_,E.fresh,fun j q hq=>?_⟩
 ·rw [cO (kc e hn)]
  exact E.same b u e
 ·by_cases h:a=p
  ·rw [h,dO];exact Option.some_ne_none _
  ·rw [cO h];exact E.inH a ha
 ·obtain ⟨w1,v',F',e1,e2,e3⟩:=E.slot j q hq
  exact ⟨w1,v',F',e1,e2,e3.mut w1 (MF _ hp) (fun z=>n3 p hp p (mB e2 z) rfl) hl⟩
end
structure KZ (K:Fg) (He:Hp) (O F:List Addr) (Fs1:List (List Addr)) (H1:Hp) (σ:St) (i:Nat) (s:Sh) (A0:Addr) (n:Nat) (ys:List V) (H:Hp) (Γk:Ev) (Fk Gs:List (List Addr)) (acc:List D):Prop where
 env:EnvOk K He (A0::Gs.flatten++(F++O)) Fk H (bA [i] σ) Γk
 same:Same H1 H
 at_:H A0=some (.lst ys)
 new:∀a∈Gs.flatten++Fk.flatten,a∈Fs1.flatten\/H1 a=none
 l1:ys.length=acc.length
 l2:Gs.length=acc.length
 own:∀(j:Nat) v d G,ys[j]?=some v->acc[j]?=some d->Gs[j]?=some G->Own K (A0::Gs.flatten++(F++O)++Fk.flatten) H s G v d
 noneG:Γk[i]?=some none
 noneF:Fk[i]?=some []
 len:Γk.length=n
theorem Dh {α:Type} (Gs:List (List α)) (G:List α):(Gs++[G]).flatten=Gs.flatten++G:=by simp
section
variable {K:Fg} {W:XW} {σ:St} {H:Hp} {Q:VK} {fe:F1} {fc:FB} {fi:FI} {s:Sh} {i:Nat}
theorem Io (h:tE K W (aB s i fi fc fe) σ H Q):fO [i] (tI K W fi) (gName i) (tT K W0 fc) (tE K W0 fe) σ H Q:=by
 obtain ⟨He,O,Fs,Γ,E,h⟩:=h;refine ⟨He,O,Fs,Γ,E,?_⟩
 unfold aB at h
 cases e:fi Γ with
 | er c Γ'=>rw [e] at h;exact h
 | no=>rw [e] at h;exact h
 | ok t Γ1=>
  rw [e] at h;intro J H1 Fs1 vs P s1 E1 n1 it hP hP1 _ hr A0 hD;have h:Wants K W He O Fs H σ Q (match pO i fc fe s t.ds (Γ1.set i none) [] with | .ok ds Γ2=>if !s.isView&&decide (i<Γ1.length) then .ok ⟨.lst s,.list ds⟩ (Γ2.set i (Γ1.getD i none)) else .no | _=>.no):=h
  cases eg:pO i fc fe s t.ds (Γ1.set i none) [] with
  | er c Γ'=>rw [eg] at h;exact h.elim
  | no=>rw [eg] at h;exact h.elim
  | ok ds' Γ2=>
   rw [eg] at h;have h:Wants K W He O Fs H σ Q (if (!s.isView&&decide (i<Γ1.length))=true then .ok ⟨.lst s,.list ds'⟩ (Γ2.set i (Γ1.getD i none)) else .no):=h
   by_cases hc:(!s.isView&&decide (i<Γ1.length))=true
   case neg=>rw [if_neg hc] at h;exact h.elim
   rw [if_pos hc] at h;simp only [Bool.and_eq_true,decide_eq_true_eq,Bool.not_eq_true'] at hc
   obtain ⟨hsv,hi⟩:=hc;obtain ⟨F,hF,E0,hmem⟩:=E1.shut hi;have hHeD:He A0=none:=E1.same.free hD
   have E0':EnvOk K He (A0::([]:List (List Addr)).flatten++(F++O)) (Fs1.set i []) (bF H1 A0 (.lst [])) (bA [i] σ) (Γ1.set i none):=
    E0.hide (G:=[A0]) (gB hD) (by simp) (fun a ha=>by simp at ha;rw [ha];exact hD) (fun a ha=>by simp at ha;rw [ha,dO];exact Option.some_ne_none _)
   refine ⟨fun k m ys H'=>m=vs.length-k/\k<=vs.length/\∃Γk Fk Gs acc,KZ K He O F Fs1 H1 σ i s A0 Γ1.length ys H' Γk Fk Gs acc/\pO i fc fe s (t.ds.drop k) Γk acc=.ok ds' Γ2,⟨vs.length,by simp,Nat.zero_le _,Γ1.set i none,Fs1.set i [],[],[],⟨E0',gB hD,dO,fun a ha=>.inl ((hmem a).mp (ME _ (by simpa using ha))),rfl,rfl,fun j v d G h1=>by simp at h1,getElem?_set_self hi,getElem?_set_self (by rw [E1.len2];exact hi),by rw [length_set]⟩,by simpa using eg⟩,?_⟩
   rintro k m ys H' ⟨rfl,hk,Γk,Fk,Gs,acc,g,eg'⟩
   refine ⟨g.at_,?_⟩
   have hPk:P H':=hP1 H' g.same
   have hlen:vs.length=t.ds.length:=hr.1
   by_cases hlt:k<vs.length
   case neg=>
    have hke:k=vs.length:=by omega
    left
    have:t.ds.drop k=[]:=List.drop_eq_nil_of_le (by omega)
    rw [this] at eg';have eg'':(Out.ok acc Γk:Out (List D))=.ok ds' Γ2:=eg'
    injection eg'' with e1 e2
    subst e1;subst e2;refine ⟨by rw [hke];exact it.stop H' hPk,?_⟩
    have E3:EnvOk K He ((A0::Gs.flatten)++O) (Fk.set i F) H' σ (Γk.set i (Γ1.getD i none)):=
     EnvOk.reopen (G:=A0::Gs.flatten) E1 hF g.env g.len g.same g.noneG g.noneF fun a ha=>by
      rcases MG ha with z | z
      ·rcases MH z with z | z
       ·rw [z];exact .inr hD
       ·exact g.new a (MF _ z)
      ·exact g.new a (ME _ z)
    have pmF:((Fk.set i F).flatten).Perm (F++Fk.flatten):=by simpa using oa (G:=F) g.noneF
    obtain ⟨n1',_,n3'⟩:=ML g.env.ndO;refine h (.ref A0) H' (A0::Gs.flatten) (Fk.set i F) ⟨s1.trans g.same,E3,fun a ha=>?_,?_⟩
    ·have up:a∈Fs1.flatten\/H1 a=none->a∈Fs.flatten\/H a=none:=fun z=>z.elim (n1 a) fun y=>.inr (s1.free y)
     rcases MG ha with z | z
     ·rcases MH z with z | z
      ·exact up (.inr (by rw [z];exact hD))
      ·exact up (g.new a (MF _ z))
     ·rcases MG (pmF.mem_iff.mp z) with y | y
      ·exact up (.inl (mB hF y))
      ·exact up (g.new a (ME _ y))
    ·refine .lst hsv g.at_ g.l1 g.l2 n1' fun j v d G h1 h2 h3=>(g.own j v d G h1 h2 h3).perm fun a ha=>?_
     rw [append_assoc] at ha ⊢;rcases MG ha with z | z
     ·exact MF _ z
     ·refine ME _ ?_
      rcases MG z with z | z
      ·exact MF _ (ME _ z)
      ·rcases MG (pmF.mem_iff.mp z) with y | y
       ·exact MF _ (MF _ y)
       ·exact ME _ y
   case pos=>
    right
    have hv:vs[k]?=some vs[k]:=MI hlt
    have hkd:k<t.ds.length:=by omega
    have hd:t.ds[k]?=some t.ds[k]:=MI hkd
    have hdr:t.ds.drop k=t.ds[k]::t.ds.drop (k+1):=drop_eq_getElem_cons hkd
    rw [hdr] at eg';generalize hdk:t.ds[k]=d at hd eg'
    generalize hvk:vs[k]=v at hv
    obtain ⟨hgo,hyld⟩:=it.go k H' v hPk hv
    simp only [pO] at eg'
    have hik:i<Γk.length:=by rw [g.len];exact hi
    have rep:Rep K (bW H' (A0::Gs.flatten++(F++O)++Fk.flatten)) v d:=(hr.2 k v d hv hd).mono (sq g.same fun a ha=>by
     rcases MG ha with z | z
     ·rcases MG z with z | z
      ·rcases MH z with z | z
       ·rw [z];exact .inr hD
       ·exact (g.new a (MF _ z)).elim (fun y=>.inl (ME _ y)) .inr
      ·rcases MG z with z | z
       ·exact .inl (ME _ (mB hF z))
       ·exact .inl (MF _ z)
     ·exact (g.new a (ME _ z)).elim (fun y=>.inl (ME _ y)) .inr)
    have Ep:EnvOk K He (A0::Gs.flatten++(F++O)) (Fk.set i []) H' ((bA [i] σ).set i (some v)) (Γk.set i (MS d)):=
     EnvOk.put (G:=[]) (p:=⟨.leaf,d⟩) (v:=v) g.env (.leaf rep) rfl (fun a ha=>by simp at ha) hik
    have hsl:ys.length<sizeLine:=by
     rw [g.l1]
     cases ec:fc (Γk.set i (MS d)) with
     | no=>rw [ec] at eg';cases eg'
     | er c Γ'=>rw [ec] at eg';cases eg'
     | ok b Γa=>
      rw [ec] at eg'
      cases b with
      | false=>
       dsimp only at eg'
       split at eg'
       ·assumption
       ·cases eg'
      | true=>
       dsimp only at eg'
       split at eg'
       ·split at eg'
        ·rename_i z
         simp only [Bool.and_eq_true,decide_eq_true_eq] at z
         exact z.2
        ·cases eg'
       ·cases eg'
    refine ⟨hgo,hsl,fun x Hx hx=>?_⟩
    obtain ⟨rfl,rfl⟩:=hyld x Hx hx;show HI (bA [i] σ) ((bA [i] σ).set i (some x))/\_
    refine ⟨⟨by rw [length_set],fun j u hj=>?_⟩,?_⟩
    ·have:=(jx hj).1
     rw [getElem?_set_ne (by simp at this;exact fun z=>this z.symm)]
     exact hj
    refine ⟨He,_,_,_,Ep,?_⟩
    cases ec:fc (Γk.set i (MS d)) with
    | no=>rw [ec] at eg';cases eg'
    | er c Γ'=>rw [ec] at eg';cases eg'
    | ok b Γa=>
     rw [ec] at eg';intro H3 Fs3 s3 E3 n3;have lena:Γa.length=Γ1.length:=by
      have:=E3.len1
      rw [length_set,GM,E1.len1] at this;exact this.symm
     have n3':∀a∈Fs3.flatten,a∈Fs1.flatten\/H1 a=none:=fun a ha=>(n3 a ha).elim (fun z=>by
      have pm:((Fk.set i []).flatten).Perm Fk.flatten:=by simpa using oa (G:=[]) g.noneF
      exact g.new a (ME _ (pm.mem_iff.mp z))) fun z=>.inr (g.same.free z)
     cases b with
     | false=>
      dsimp only at eg'
      split at eg'
      case isFalse=>cases eg'
      refine gk ⟨vs.length-(k+1),by omega,rfl,hlt,Γa.set i none,Fs3.set i [],Gs,acc,⟨E3.forget (by rw [lena];exact hi),g.same.trans s3,s3 _ _ g.at_,fun a ha=>?_,g.l1,g.l2,fun j v d G h1 h2 h3=>(g.own j v d G h1 h2 h3).mono s3 fun a ha=>?_,getElem?_set_self (by rw [lena];exact hi),getElem?_set_self (by rw [E3.len2,lena];exact hi),by rw [length_set];exact lena⟩,eg'⟩
      ·rcases MG ha with z | z
       ·exact g.new a (MF _ z)
       ·obtain ⟨F3,hF3⟩:=E3.lt (i:=i) (by rw [lena];exact hi)
        have pm:(F3++(Fs3.set i []).flatten).Perm Fs3.flatten:=by simpa using oa (G:=[]) hF3
        exact n3' a (pm.mem_iff.mp (ME _ z))
      ·rcases MG ha with z | z
       ·exact .inl (MF _ z)
       ·obtain ⟨F3,hF3⟩:=E3.lt (i:=i) (by rw [lena];exact hi)
        have pm:(F3++(Fs3.set i []).flatten).Perm Fs3.flatten:=by simpa using oa (G:=[]) hF3
        have pm2:((Fk.set i []).flatten).Perm Fk.flatten:=by simpa using oa (G:=[]) g.noneF
        exact (n3 a (pm.mem_iff.mp (ME _ z))).elim (fun y=>.inl (ME _ (pm2.mem_iff.mp y))) .inr
     | true=>
      refine iK ⟨He,_,_,_,E3,?_⟩
      dsimp only at eg'
      cases ee:fe Γa with
      | no=>rw [ee] at eg';cases eg'
      | er c Γ'=>rw [ee] at eg';cases eg'
      | ok p Γb=>
       rw [ee] at eg';dsimp only at eg'
       split at eg'
       case isFalse=>cases eg'
       rename_i hco;simp only [Bool.and_eq_true,decide_eq_true_eq] at hco
       obtain ⟨hco,_⟩:=hco;intro u H4 G Fs4 A4;have lenb:Γb.length=Γ1.length:=by
        have:=A4.env.len1
        rw [length_set,GM,E1.len1] at this;exact this.symm
       have hib:i<Γb.length:=by rw [lenb];exact hi
       have at4:H4 A0=some (.lst ys):=A4.same _ _ (s3 _ _ g.at_)
       have s14:Same H1 H4:=(g.same.trans s3).trans A4.same
       have pmk:((Fk.set i []).flatten).Perm Fk.flatten:=by simpa using oa (G:=[]) g.noneF
       obtain ⟨F4,hF4⟩:=A4.env.lt hib;have pm4:(F4++(Fs4.set i []).flatten).Perm Fs4.flatten:=by simpa using oa (G:=[]) hF4
       have new4:∀a∈G++Fs4.flatten,a∈Fs1.flatten\/H1 a=none:=fun a ha=>(A4.new a ha).elim (n3' a) fun z=>.inr ((g.same.trans s3).free z)
       have hG':∀a∈bh s G,a∈G:=fun a ha=>ji ha
       obtain ⟨k1,k2,k3⟩:=ML A4.env.ndO;have ndk:(bh s G).Nodup:=by
        cases s<;>first | exact nodup_nil | exact k1
       have pmO:(A0::(Gs++[bh s G]).flatten++(F++O)).Perm (bh s G++(A0::Gs.flatten++(F++O))):=by
        rw [Dh];show (A0::((Gs.flatten++bh s G)++(F++O))).Perm _
        refine List.Perm.trans ?_ List.perm_middle.symm
        refine List.Perm.cons _ ?_
        rw [append_assoc];exact oZ _ _ _
       have E5:EnvOk K He (bh s G++(A0::Gs.flatten++(F++O))) Fs4 H4 ((bA [i] σ).set i (some x)) Γb:=A4.env.drop (fun a ha=>by
        rcases MG ha with z | z
        ·exact MF _ (hG' a z)
        ·exact ME _ z) (List.nodup_append.mpr ⟨ndk,k2,fun a ha b hb=>k3 a (hG' a ha) b hb⟩)
       have E6:=(E5.perm pmO).forget hib
       have hDin:A0∈A0::(Gs++[bh s G]).flatten++(F++O):=mem_cons_self
       have E7:=E6.mutO (o:=.lst (ys++[u])) hDin at4 hHeD
       have subH:∀a∈A0::(Gs++[bh s G]).flatten++(F++O)++(Fs4.set i []).flatten,a∈G++(A0::Gs.flatten++(F++O))++Fs4.flatten:=fun a ha=>by
        rcases MG ha with z | z
        ·rcases MG (pmO.mem_iff.mp z) with y | y
         ·exact MF _ (MF _ (hG' a y))
         ·exact MF _ (ME _ y)
        ·exact ME _ (pm4.mem_iff.mp (ME _ z))
       have Dnot:∀{j:Nat} {Gj:List Addr},Gs[j]?=some Gj->A0∉Gj:=fun {j Gj} hj z=>by
        have nd:=g.env.ndO
        exact (List.nodup_cons.mp nd).1 (MF _ (mB hj z))
       refine ⟨at4,vs.length-(k+1),by omega,rfl,hlt,Γb.set i none,Fs4.set i [],Gs++[bh s G],acc++[p.d],⟨E7,fun b o hb=>?_,dO,fun a ha=>?_,by simp [g.l1],by simp [g.l2],fun j w d' G' h1 h2 h3=>?_,getElem?_set_self hib,getElem?_set_self (by rw [A4.env.len2];exact hib),by rw [length_set];exact lenb⟩,eg'⟩
       ·rw [cO (kc hb hD)]
        exact s14 b o hb
       ·rcases MG ha with z | z
        ·rw [Dh] at z
         rcases MG z with z | z
         ·exact g.new a (MF _ z)
         ·exact new4 a (MF _ (hG' a z))
        ·exact new4 a (ME _ (pm4.mem_iff.mp (ME _ z)))
       ·by_cases hj:j<ys.length
        ·rw [getElem?_append_left hj] at h1
         rw [getElem?_append_left (by rw [<-g.l1];exact hj)] at h2
         rw [getElem?_append_left (by rw [g.l2,<-g.l1];exact hj)] at h3
         have o1:=g.own j w d' G' h1 h2 h3
         have o2:=o1.mono (O':=A0::(Gs++[bh s G]).flatten++(F++O)++(Fs4.set i []).flatten) (s3.trans A4.same) fun a ha=>by
          have up:a∈G++Fs4.flatten->a∈A0::Gs.flatten++(F++O)++Fk.flatten\/Hx a=none:=fun z=>(A4.new a z).elim (fun y=>(n3 a y).elim (fun y=>.inl (ME _ (pmk.mem_iff.mp y))) .inr) fun y=>.inr (s3.free y)
          rcases MG (subH a ha) with z | z
          ·rcases MG z with z | z
           ·exact up (MF _ z)
           ·exact .inl (MF _ z)
          ·exact up (ME _ z)
         exact o2.mut hsv (MF _ hDin) (Dnot h3) at4
        ·have hj':j=ys.length:=by
          have:=(MM h1).1
          rw [length_append,length_singleton] at this;omega
         subst hj'
         rw [getElem?_append_right (MQ _),Nat.sub_self] at h1;rw [getElem?_append_right (by rw [g.l1];exact MQ _),show ys.length-acc.length=0 by rw [g.l1];exact Nat.sub_self _] at h2
         rw [getElem?_append_right (by rw [g.l2,g.l1];exact MQ _),show ys.length-Gs.length=0 by rw [g.l2,g.l1];exact Nat.sub_self _] at h3
         cases h1
         cases h2
         cases h3;have o3:=A4.own.coer (s:=s) (O':=A0::(Gs++[bh s G]).flatten++(F++O)++(Fs4.set i []).flatten) hco subH fun a ha hO=>by
          cases s with
          | leaf=>
           exfalso
           have hO':a∈(A0::Gs.flatten++(F++O))++(Fs4.set i []).flatten:=by
            rw [Dh] at hO;simpa [bh] using hO
           rcases MG hO' with z | z
           ·exact k3 a ha a z rfl
           ·have nd:=A4.env.nd
            exact (ML nd).2.2 a (MF _ ha) a (pm4.mem_iff.mp (ME _ z)) rfl
          | view=>cases hsv
          | lst s=>exact ha
          | tup ss=>exact ha
         refine o3.mut hsv (MF _ hDin) (fun z=>?_) at4
         exact k3 A0 (hG' A0 z) A0 mem_cons_self rfl
end
inductive eZ where
 | nx (e:Ev) | bk (e:Ev) | ct (e:Ev) | rt (p:PV) | er (c:Str) (e:Ev) | no
abbrev FS:=Ev->eZ
structure RetOk (K:Fg) (He:Hp) (O:List Addr) (p:PV) (v:V) (H':Hp) (G:List Addr):Prop where
 same:Same He H'
 fresh:∀a∈G,He a=none
 inH:∀a∈G,H' a≠none
 nd:G.Nodup
 own:Own K (G++O) H' p.s G v p.d
 nv:p.s.isView=false
def mz (K:Fg) (W:XW) (He:Hp) (O:List Addr) (D:dz):eZ->Prop
 | .nx Γ'=>∀σ' H' Fs',EnvOk K He O Fs' H' σ' Γ'->D.nx σ' H'
 | .bk Γ'=>∀σ' H' Fs',EnvOk K He O Fs' H' σ' Γ'->D.bk σ' H'
 | .ct Γ'=>∀σ' H' Fs',EnvOk K He O Fs' H' σ' Γ'->D.ct σ' H'
 | .rt p=>∀v H' G,RetOk K He O p v H' G->D.rt v H'
 | .er c Γ'=>∀σ' H' Fs',EnvOk K He O Fs' H' σ' Γ'->W c σ' H'
 | .no=>False
def tS (K:Fg) (W:XW) (g:FS):TS:=fun D σ H=>∃He O Fs Γ,EnvOk K He O Fs H σ Γ/\mz K W He O D (g Γ)
def aN:FS:=fun Γ=>.nx Γ
def ay (g1 g2:FS):FS:=fun Γ=>match g1 Γ with
 | .nx Γ'=>g2 Γ'
 | o=>o
def fP (f:F1) (k:PV->Ev->eZ):FS:=fun Γ=>match f Γ with
 | .ok p Γ'=>k p Γ'
 | .er c Γ'=>.er c Γ'
 | .no=>.no
def b6 (c:FB) (a b:FS):FS:=fun Γ=>match c Γ with
 | .ok t Γ'=>if t then a Γ' else b Γ'
 | .er c Γ'=>.er c Γ'
 | .no=>.no
section
variable {K:Fg} {W:XW} {σ:St} {H:Hp} {D:dz} {fa fb:F1} {ga gb:FB} {g1 g2:FS}
theorem oK (h:tS K W aN D σ H):kx D σ H:=by
 obtain ⟨He,O,Fs,Γ,E,h⟩:=h;exact h σ H Fs E
theorem tQ (h:tS K W (ay g1 g2) D σ H):d7 (tS K W g1) (tS K W g2) D σ H:=by
 obtain ⟨He,O,Fs,Γ,E,h⟩:=h;refine ⟨He,O,Fs,Γ,E,?_⟩
 unfold ay at h
 cases e:g1 Γ with
 | nx Γ'=>rw [e] at h;exact fun σ' H' Fs' E'=>⟨He,O,Fs',Γ',E',h⟩
 | bk Γ'=>rw [e] at h;exact h
 | ct Γ'=>rw [e] at h;exact h
 | rt p=>rw [e] at h;exact h
 | er c Γ'=>rw [e] at h;exact h
 | no=>rw [e] at h;exact h
theorem gF {k:PV->Ev->eZ} {R:VK} (h:tS K W (fP fa k) D σ H)
  (hk:∀He O Fs Γ1 p v H1 G Fs1,EnvOk K He O Fs H σ Γ1\/True->(∀a∈G,He a=none)->Aft K He O Fs H σ Γ1 p v H1 G Fs1->mz K W He O D (k p Γ1)->R v H1):tE K W fa σ H R:=by
 obtain ⟨He,O,Fs,Γ,E,h⟩:=h;refine ⟨He,O,Fs,Γ,E,?_⟩
 unfold fP at h
 cases e:fa Γ with
 | ok p Γ1=>rw [e] at h;exact fun v H' G Fs' A=>hk He O Fs Γ1 p v H' G Fs' (.inr trivial) (A.freshG E) A h
 | er c Γ1=>rw [e] at h;exact fun H' Fs' s E'=>h σ H' Fs' E'
 | no=>rw [e] at h;exact h
theorem tX (h:tS K W (b6 ga g1 g2) D σ H):sW (tT K W ga) (tS K W g1) (tS K W g2) D σ H:=by
 obtain ⟨He,O,Fs,Γ,E,h⟩:=h;refine ⟨He,O,Fs,Γ,E,?_⟩
 unfold b6 at h
 cases e:ga Γ with
 | ok b Γ1=>
  rw [e] at h;intro H' Fs' s E' n
  cases b with
  | true=>exact iK ⟨He,O,Fs',Γ1,E',h⟩
  | false=>exact gk ⟨He,O,Fs',Γ1,E',h⟩
 | er c Γ1=>rw [e] at h;exact fun H' Fs' s E'=>h σ H' Fs' E'
 | no=>rw [e] at h;exact h
def aU (f:F1):FS:=fP f fun p _=>if p.s.isView then (if bo p.d then .rt ⟨.leaf,p.d⟩ else .no) else .rt p
theorem tR (h:tS K W (aU fa) D σ H):sU (tE K W fa) D σ H:=by
 refine gF h fun He O Fs Γ1 p v H1 G Fs1 _ fr A w=>?_
 obtain ⟨n1,n2,n3⟩:=ML A.env.ndO;have inH:∀a∈G,H1 a≠none:=fun a ha=>A.env.inH a (MF _ (MF _ ha))
 cases hv:p.s.isView with
 | false=>
  have w:mz K W He O D (.rt p):=by simpa [hv] using w
  exact w v H1 G ⟨A.env.same,fr,inH,n1,A.own.perm fun a ha=>MF _ ha,hv⟩
 | true=>
  cases hs:bo p.d with
  | false=>rw [hv,hs] at w;exact w.elim
  | true=>
   have w:mz K W He O D (.rt ⟨.leaf,p.d⟩):=by simpa [hv,hs] using w
   exact w v H1 [] ⟨A.env.same,(fun _ z=>nomatch z),(fun _ z=>nomatch z),nodup_nil,.leaf (A.own.rep.sc hs).rep,rfl⟩
def az (own:Bool) (i:Nat) (f:F1):FS:=fP f fun p Γ=>if i<Γ.length then (if own&&!p.s.isView then .nx (Γ.set i (some p)) else if T.coer .leaf p then .nx (Γ.set i (MS p.d)) else .no) else .no
theorem Gd {own:Bool} {i:Nat} (h:tS K W (az own i fa) D σ H):fg (tE K W fa) (gName i) D σ H:=by
 refine gF h fun He O Fs Γ1 p v H1 G Fs1 _ fr A w=>?_
 show D.nx (σ.set i (some v)) H1
 have w:mz K W He O D (if i<Γ1.length then (if own&&!p.s.isView then .nx (Γ1.set i (some p)) else if T.coer .leaf p then .nx (Γ1.set i (MS p.d)) else .no) else .no):=w
 by_cases hi:i<Γ1.length
 case neg=>rw [if_neg hi] at w;exact w.elim
 rw [if_pos hi] at w
 cases ho:(own&&!p.s.isView) with
 | true=>
  rw [ho] at w;have hv:p.s.isView=false:=by
   simp only [Bool.and_eq_true,Bool.not_eq_true'] at ho
   exact ho.2
  exact w _ H1 _ (EnvOk.put A.env A.own hv fr hi)
 | false=>
  rw [ho] at w
  cases hc:T.coer .leaf p with
  | false=>rw [hc] at w;exact w.elim
  | true=>
   rw [hc] at w;have o:=A.own.coer (s:=.leaf) (O':=O++Fs1.flatten) hc qa fun a ha z=>absurd z (A.disj a ha)
   exact w _ H1 _ (EnvOk.put (G:=[]) (p:=⟨.leaf,p.d⟩) (v:=v) A.go o rfl (fun a ha=>by simp at ha) hi)
def bq (f:F1):FS:=fP f fun _ Γ=>.nx Γ
theorem xk (h:tS K W (bq fa) D σ H):ky (tE K W fa) D σ H:=
 gF h fun He O Fs Γ1 p v H1 G Fs1 _ fr A w=>w σ H1 Fs1 A.go
theorem De {α:Type} {l:List α} {i:Nat} {x:α} (h:l[i]?=some x):l.set i x=l:=by
 apply ext_getElem?
 intro j;by_cases hj:j=i
 ·subst hj
  rw [getElem?_set_self (MM h).1,h]
 ·rw [getElem?_set_ne (Ne.symm hj)]
def yJ (i:Nat) (p:PV) (Γ:Ev):eZ:=match Γ[i]? with
 | some (some ⟨.lst s,.list ds⟩)=>if T.coer s p&&decide (ds.length<sizeLine) then .nx (Γ.set i (some ⟨.lst s,.list (ds++[p.d])⟩)) else .no
 | _=>.no
def C2:Option (Option PV)->Bool
 | some (some ⟨.lst _,.list _⟩)=>true
 | _=>false
def eu (i:Nat) (f:F1):FS:=fun Γ=>if C2 Γ[i]? then fP f (yJ i) Γ else .no
theorem yI {He H:Hp} {O G:List Addr} {Fs:List (List Addr)} {Γ:Ev} {i:Nat} {s:Sh} {ds:List MR} {p:PV} {v:V} (E:EnvOk K He (G++O) Fs H σ Γ) (o:Own K (G++O++Fs.flatten) H p.s G v p.d) (fr:∀a∈G,He a=none)
  (h:Γ[i]?=some (some ⟨.lst s,.list ds⟩)) (hc:T.coer s p=true) :
  ∃l vs,σ[i]?=some (some (.ref l))/\H l=some (.lst vs)/\vs.length=ds.length/\∃Fs',EnvOk K He O Fs' (bF H l (.lst (vs++[v]))) σ (Γ.set i (some ⟨.lst s,.list (ds++[p.d])⟩)):=by
 obtain ⟨hv,u,F,h1,E1,o1,sub⟩:=E.move h;have hi:i<Γ.length:=(MM h).1
 cases o1 with
 | @lst _ l vs _ Fs0 hsv hp hl hf nd q=>
  refine ⟨l,vs,h1,hp,hl,Fs.set i (l::(Fs0++[bh s G]).flatten),?_⟩
  have hlF:l∈Fs.flatten:=sub l (MF _ mem_cons_self)
  have hHe:He l=none:=E.fresh l hlF
  have hG':∀a∈bh s G,a∈G:=fun a ha=>ji ha
  obtain ⟨k1,k2,k3⟩:=ML E1.ndO;obtain ⟨g1,g2,g3⟩:=ML k2;have ndk:(bh s G).Nodup:=by
   cases s<;>first | exact nodup_nil | exact g1
  have pmO:((l::(Fs0++[bh s G]).flatten)++O).Perm ((l::Fs0.flatten)++(bh s G++O)):=by
   rw [Dh];show (l::((Fs0.flatten++bh s G)++O)).Perm (l::(Fs0.flatten++(bh s G++O)))
   rw [append_assoc]
  have E2:EnvOk K He ((l::Fs0.flatten)++(bh s G++O)) (Fs.set i []) H σ (Γ.set i none):=E1.drop (fun a ha=>by
   rcases MG ha with z | z
   ·exact MF _ z
   ·refine ME _ ?_
    rcases MG z with z | z
    ·exact MF _ (hG' a z)
    ·exact ME _ z) (List.nodup_append.mpr ⟨k1,List.nodup_append.mpr ⟨ndk,g2,fun a ha b hb=>g3 a (hG' a ha) b hb⟩,fun a ha b hb=>k3 a ha b (by
     rcases MG hb with z | z
     ·exact MF _ (hG' b z)
     ·exact ME _ z)⟩)
  have E3:=E2.perm pmO
  have hlin:l∈(l::(Fs0++[bh s G]).flatten)++O:=mem_cons_self
  have E4:=E3.mutO (o:=.lst (vs++[v])) hlin hp hHe
  have lnG:l∉G:=fun z=>k3 l mem_cons_self l (MF _ z) rfl
  have subH:∀a∈(l::(Fs0++[bh s G]).flatten)++O++(Fs.set i []).flatten,a∈(l::Fs0.flatten)++(G++O)++(Fs.set i []).flatten:=fun a ha=>by
   rcases MG ha with z | z
   ·refine MF _ ?_
    rcases MG (pmO.mem_iff.mp z) with y | y
    ·exact MF _ y
    ·refine ME _ ?_
     rcases MG y with y | y
     ·exact MF _ (hG' a y)
     ·exact ME _ y
   ·exact ME _ z
  have ownL:Own K ((l::(Fs0++[bh s G]).flatten)++O++(Fs.set i []).flatten) (bF H l (.lst (vs++[v]))) (.lst s) (l::(Fs0++[bh s G]).flatten) (.ref l) (.list (ds++[p.d])):=by
   refine .lst hsv dO (by simp [hl]) (by simp [hf]) ?_ fun j w d' G' e1 e2 e3=>?_
   ·have nd2:=E3.ndO
    exact (ML nd2).1
   ·by_cases hj:j<vs.length
    ·rw [getElem?_append_left hj] at e1
     rw [getElem?_append_left (by omega)] at e2
     rw [getElem?_append_left (by omega)] at e3
     exact ((q j w d' G' e1 e2 e3).perm subH).mut hsv (MF _ hlin) (fun z=>(List.nodup_cons.mp nd).1 (mB e3 z)) hp
    ·have hj':j=vs.length:=by
      have:=(MM e1).1
      rw [length_append,length_singleton] at this;omega
     subst hj'
     rw [getElem?_append_right (MQ _),Nat.sub_self] at e1;rw [getElem?_append_right (by omega),show vs.length-ds.length=0 by omega] at e2
     rw [getElem?_append_right (by omega),show vs.length-Fs0.length=0 by omega] at e3
     cases e1
     cases e2
     cases e3;have osub:∀a∈(l::(Fs0++[bh s G]).flatten)++O++(Fs.set i []).flatten,a∈G++O++Fs.flatten:=fun a ha=>by
      rcases MG (subH a ha) with z | z
      ·rcases MG z with z | z
       ·exact ME _ (sub a (MF _ z))
       ·exact MF _ z
      ·exact ME _ (sub a (ME _ z))
     have o3:=o.coer (s:=s) hc osub fun a ha hO=>by
      cases s with
      | leaf=>
       exfalso
       rw [Dh] at hO;have hO':a∈(l::Fs0.flatten)++O++(Fs.set i []).flatten:=by simpa [bh] using hO
       have ndE:=E.nd
       rw [append_assoc] at ndE;have dis:=(ML ndE).2.2
       rcases MG hO' with z | z
       ·rcases MG z with z | z
        ·exact dis a ha a (ME _ (sub a (MF _ z))) rfl
        ·exact dis a ha a (MF _ z) rfl
       ·exact dis a ha a (ME _ (sub a (ME _ z))) rfl
      | view=>cases hsv
      | lst s=>exact ha
      | tup ss=>exact ha
     exact o3.mut hsv (MF _ hlin) (fun z=>lnG (hG' l z)) hp
  have fin:=EnvOk.put (i:=i) (p:=⟨.lst s,.list (ds++[p.d])⟩) (v:=.ref l) E4 ownL rfl (fun a ha=>?_) (by rw [length_set];exact hi)
  ·rw [set_set,set_set,De h1] at fin
   exact fin
  ·rcases MH ha with z | z
   ·rw [z];exact hHe
   ·rw [Dh] at z
    rcases MG z with z | z
    ·exact E.fresh a (sub a (MF _ (MK _ z)))
    ·exact fr a (hG' a z)
theorem tj {QL:List V->Hp->Prop} (h1:tE K W fa σ H fun v H'=>QL [v] H'):tA K W (ae fa ag) σ H QL:=by
 obtain ⟨He,O,Fs,Γ,E,h1⟩:=h1;refine ⟨He,O,Fs,Γ,E,?_⟩
 unfold ae ag
 cases e:fa Γ with
 | ok p Γ'=>
  rw [e] at h1;intro vs H' Gs Fs' A
  match vs,Gs,A.len1,A.len2 with
  | [v],[G],_,_=>exact h1 v H' G Fs' ⟨A.same,by simpa using A.env,by simpa using A.new,by simpa using A.own 0 v p G rfl rfl rfl⟩
 | er c Γ'=>rw [e] at h1;exact h1
 | no=>rw [e] at h1;exact h1
theorem qT {o:Option (Option PV)} (h:C2 o=true):∃s ds,o=some (some ⟨.lst s,.list ds⟩):=by
 unfold C2 at h;split at h
 ·exact ⟨_,_,rfl⟩
 ·cases h
theorem EnvOk.ownL {He H:Hp} {O:List Addr} {Fs:List (List Addr)} {Γ:Ev} {i:Nat} {s:Sh} {ds:List MR} (E:EnvOk K He O Fs H σ Γ) (h:Γ[i]?=some (some ⟨.lst s,.list ds⟩)):∃l vs,σ[i]?=some (some (.ref l))/\H l=some (.lst vs)/\vs.length=ds.length:=by
 obtain ⟨hv,v,F,h1,h2,h3⟩:=E.slot i _ h
 cases h3 with
 | @lst _ l vs _ Fs0 hsv hp hl hf nd q=>exact ⟨l,vs,h1,hp,hl⟩
theorem qo {i:Nat} (h:tS K W (eu i fa) D σ H):ky (zg K "list" GE (bg i) (tA K W (ae fa ag))) D σ H:=by
 obtain ⟨He,O,Fs,Γ,E,h⟩:=h;unfold eu at h
 cases ho:C2 Γ[i]? with
 | false=>rw [ho] at h;exact h.elim
 | true=>
  rw [ho] at h;obtain ⟨s,ds,e0⟩:=qT ho;obtain ⟨l,vs,h1,h2,h3⟩:=E.ownL e0;refine ⟨.ref l,h1,.inl ⟨rfl,vs,.of h2⟩,tj (gF (D:=D) ⟨He,O,Fs,Γ,E,h⟩ fun He O Fs Γ1 p v H1 G Fs1 _ fr A w=>?_)⟩
  unfold yJ at w;split at w
  ·rename_i s1 ds1 e1
   cases hc:(T.coer s1 p&&decide (ds1.length<sizeLine)) with
   | false=>rw [hc] at w;exact w.elim
   | true=>
    rw [hc] at w;simp only [Bool.and_eq_true,decide_eq_true_eq] at hc
    obtain ⟨l1,vs1,q1,q2,q3,Fs',E'⟩:=yI A.env A.own fr e1 hc.1;rw [h1] at q1
    cases q1;exact ⟨l,vs1,v,rfl,rfl,q2,by rw [q3];exact hc.2,w σ _ Fs' E'⟩
  ·exact w.elim
def cL (i:Nat) (body:FS):List MR->Ev->eZ
 | [],Γ=>.nx Γ
 | d::r,Γ=>if i<Γ.length then (match body (Γ.set i (MS d)) with
  | .nx Γ'=>cL i body r Γ'
  | .ct Γ'=>cL i body r Γ'
  | .bk Γ'=>.nx Γ'
  | .rt p=>.rt p
  | .er c Γ'=>.er c Γ'
  | .no=>.no) else .no
def dw (i:Nat) (fi:FI) (body:FS):FS:=fun Γ=>match fi Γ with
 | .ok t Γ1=>if t.st then cL i body t.ds Γ1 else .no
 | .er c Γ1=>.er c Γ1
 | .no=>.no
theorem EnvOk.rebase {He H:Hp} {O:List Addr} {Fs:List (List Addr)} {Γ:Ev} (E:EnvOk K He O Fs H σ Γ):EnvOk K (bW H Fs.flatten) O Fs H σ Γ/\Same He (bW H Fs.flatten):=
 ⟨⟨E.len1,E.len2,hid_le,E.nd,E.inH,fun a ha=>by unfold bW;rw [if_pos ha],E.slot⟩,fun b o e=>wz (E.same b o e) fun z=>by have:=E.fresh b z;rw [e] at this;cases this⟩
theorem EnvOk.unbase {He He' H:Hp} {O:List Addr} {Fs:List (List Addr)} {Γ:Ev} (E:EnvOk K He' O Fs H σ Γ) (s:Same He He'):EnvOk K He O Fs H σ Γ:=
 ⟨E.len1,E.len2,s.trans E.same,E.nd,E.inH,fun a ha=>s.free (E.fresh a ha),E.slot⟩
theorem RetOk.unbase {He He' H:Hp} {O G:List Addr} {p:PV} {v:V} (r:RetOk K He' O p v H G) (s:Same He He'):RetOk K He O p v H G:=
 ⟨s.trans r.same,fun a ha=>s.free (r.fresh a ha),r.inH,r.nd,r.own,r.nv⟩
theorem Be {i:Nat} {fi:FI} {body:FS} (h:tS K W (dw i fi body) D σ H):wO (tI K W fi) (gName i) (tS K W body) D σ H:=by
 obtain ⟨He,O,Fs,Γ,E,h⟩:=h;refine ⟨He,O,Fs,Γ,E,?_⟩
 unfold dw at h
 cases e:fi Γ with
 | er c Γ1=>rw [e] at h;exact fun H' Fs' s E'=>h σ H' Fs' E'
 | no=>rw [e] at h;exact h
 | ok t Γ1=>
  rw [e] at h;intro J H1 Fs1 vs P s1 E1 n1 it hP hP1 hst hr;have h:mz K W He O D (if t.st then cL i body t.ds Γ1 else .no):=h
  cases ht:t.st with
  | false=>rw [ht] at h;exact h.elim
  | true=>
   rw [ht] at h;have h:mz K W He O D (cL i body t.ds Γ1):=h
   obtain ⟨E1',sHe⟩:=E1.rebase;have hlen:vs.length=t.ds.length:=hr.1
   refine ⟨fun k m σ' H'=>m=vs.length-k/\k<=vs.length/\∃Γk Fk,EnvOk K (bW H1 Fs1.flatten) O Fk H' σ' Γk/\mz K W He O D (cL i body (t.ds.drop k) Γk),⟨vs.length,by simp,Nat.zero_le _,Γ1,Fs1,E1',by simpa using h⟩,?_⟩
   rintro k m σ' H' ⟨rfl,hk,Γk,Fk,Ek,hw⟩
   have hPk:P H':=hst ht H' Ek.same
   by_cases hlt:k<vs.length
   case neg=>
    left
    have hke:k=vs.length:=by omega
    have:t.ds.drop k=[]:=List.drop_eq_nil_of_le (by omega)
    rw [this] at hw;exact ⟨by rw [hke];exact it.stop H' hPk,hw σ' H' Fk (Ek.unbase sHe)⟩
   case pos=>
    right
    have hv:vs[k]?=some vs[k]:=MI hlt
    have hkd:k<t.ds.length:=by omega
    have hd:t.ds[k]?=some t.ds[k]:=MI hkd
    have hdr:t.ds.drop k=t.ds[k]::t.ds.drop (k+1):=drop_eq_getElem_cons hkd
    rw [hdr] at hw;generalize hdk:t.ds[k]=d at hd hw
    generalize hvk:vs[k]=v at hv
    obtain ⟨hgo,hyld⟩:=it.go k H' v hPk hv
    simp only [cL] at hw
    by_cases hi:i<Γk.length
    case neg=>rw [if_neg hi] at hw;exact hw.elim
    rw [if_pos hi] at hw;have rep:Rep K (bW H' (O++Fk.flatten)) v d:=by
     refine (hr.2 k v d hv hd).mono fun b o hb=>?_
     have hb1:bW H1 Fs1.flatten b=some o:=sub_hid b o hb
     have hbO:b∉O:=fun z=>by
      unfold bW at hb;rw [if_pos (MF _ z)] at hb
      cases hb
     have hbF:b∉Fk.flatten:=fun z=>by
      have:=Ek.fresh b z
      rw [hb1] at this
      cases this
     exact wz (Ek.same b o hb1) fun z=>(MG z).elim hbO hbF
    have Ep:EnvOk K (bW H1 Fs1.flatten) O (Fk.set i []) H' (σ'.set i (some v)) (Γk.set i (MS d)):=
     EnvOk.put (G:=[]) (p:=⟨.leaf,d⟩) (v:=v) Ek (.leaf rep) rfl (fun a ha=>by simp at ha) hi
    refine ⟨hgo,fun σ2 H2=>∃Γk Fk,EnvOk K (bW H1 Fs1.flatten) O Fk H2 σ2 Γk/\mz K W He O D (cL i body (t.ds.drop (k+1)) Γk),fun σ2 H2 q=>⟨vs.length-(k+1),by omega,rfl,hlt,q⟩,fun x Hx hx=>?_⟩
    obtain ⟨rfl,rfl⟩:=hyld x Hx hx;show tS K W body _ (σ'.set i (some x)) Hx
    refine ⟨bW H1 Fs1.flatten,O,_,_,Ep,?_⟩
    cases eb:body (Γk.set i (MS d)) with
    | nx Γ'=>rw [eb] at hw;exact fun σ2 H2 F2 E2=>⟨Γ',F2,E2,hw⟩
    | ct Γ'=>rw [eb] at hw;exact fun σ2 H2 F2 E2=>⟨Γ',F2,E2,hw⟩
    | bk Γ'=>rw [eb] at hw;exact fun σ2 H2 F2 E2=>hw σ2 H2 F2 (E2.unbase sHe)
    | rt p=>rw [eb] at hw;exact fun u H2 G r=>hw u H2 G (r.unbase sHe)
    | er c Γ'=>rw [eb] at hw;exact fun σ2 H2 F2 E2=>hw σ2 H2 F2 (E2.unbase sHe)
    | no=>rw [eb] at hw;exact hw
end
inductive Res where
 | ok (p:PV) | er (c:Str) | no
def qc (K:Fg) (n:Nat) (den:List MR->Res):Sp:=fun vs H Q _=>vs.length=n/\∃O ds,O.Nodup/\(∀a∈O,H a≠none)/\Reps K (bW H O) vs ds/\match den ds with
 | .ok p=>∀v H' G,RetOk K H O p v H' G->Q v H'
 | .er _=>False
 | .no=>False
def aQ (n:Nat) (ds:List MR):Ev:=ds.map (fun d=>some ⟨.leaf,d⟩)++List.replicate (n-ds.length) none
def aG (n:Nat) (g:FS) (ds:List MR):Res:=match g (aQ n ds) with
 | .nx _=>.ok ⟨.leaf,.none⟩
 | .rt p=>.ok p
 | .er c _=>.er c
 | _=>.no
section
variable {P:Program} {w:World} {K:Fg} {mg:Str->Option Value} {base:Heap}
theorem IU {N:List Str} {H:Hp} {O:List Addr} {vs:List V} {ds:List MR} (hn:vs.length<=N.length) (nd:O.Nodup) (inH:∀a∈O,H a≠none) (rs:Reps K (bW H O) vs ds) :
  EnvOk K H O (List.replicate N.length []) H (L2.start N vs) (aQ N.length ds):=by
 have fl:(List.replicate N.length ([]:List Addr)).flatten=[]:=by simp
 have hl:=rs.1
 refine ⟨by simp [L2.start,aQ,hl],by simp [aQ];omega,Same.refl _,by rw [fl];simpa using nd,by rw [fl];simpa using inH,fun a ha=>by rw [fl] at ha;simp at ha,fun i p hp=>?_⟩
 unfold aQ at hp;by_cases hi:i<ds.length
 ·rw [getElem?_append_left (by simpa using hi),getElem?_map,MI hi] at hp
  cases hp;refine ⟨rfl,vs[i]'(by omega),[],?_,?_,?_⟩
  ·unfold L2.start
   rw [getElem?_append_left (by simp;omega),getElem?_map,MI (by omega)]
   rfl
  ·rw [getElem?_replicate,if_pos (by omega)]
  ·refine .leaf ?_
   rw [fl,append_nil];exact rs.2 i _ _ (MI _) (MI hi)
 ·rw [getElem?_append_right (by simpa using hi),getElem?_replicate] at hp
  split at hp<;>cases hp
theorem vm {x qual:Str} {st:Stmt} {f:Addr} {fd:FuncData} {N ps:List Str} {k:Nat} {g:FS} (F:Fun K x qual st f fd) (S:bL N ps (dR st))
  (hb:∀(cdv:Value) (A:Around) (outer:List Env) (s:Shared) (H:Hp) (E:XK),Room k (A.deeper (envOfC qual (dR st) s.heap.objs.size f cdv)) ->
   PSs (et ic P w K mg base N qual (dR st) f cdv A outer s H E).nox (jD st) (tS K W0 g)):dg P w K mg base ic (k+1) f fd ps (qc K ps.length (aG N.length g)):=by
 have hpl:ps.length<=N.length:=by have:=congrArg List.length S.pre;rw [length_take] at this;omega
 refine F.ok S (fun vs H Q E h=>h.1) (fun cdv A outer s H vs Q E hr h=>⟨_,hb cdv A outer s H E hr,?_⟩)
 obtain ⟨hl,O,ds,nd,inH,rs,w⟩:=h;refine ⟨H,O,List.replicate N.length [],aQ N.length ds,IU (by omega) nd inH rs,?_⟩
 unfold aG at w
 cases e:g (aQ N.length ds) with
 | nx Γ'=>
  rw [e] at w;exact fun σ' H' Fs' E'=>w .non H' [] ⟨E'.same,(fun _ z=>nomatch z),(fun _ z=>nomatch z),nodup_nil,.leaf .non,rfl⟩
 | rt p=>rw [e] at w;exact w
 | bk Γ'=>rw [e] at w;exact w.elim
 | ct Γ'=>rw [e] at w;exact w.elim
 | er c Γ'=>rw [e] at w;exact w.elim
 | no=>rw [e] at w;exact w.elim
end
def ao (n:Nat) (den:List MR->Res) (fl:FL):F1:=fun Γ=>(fl Γ).bind fun ps Γ'=>if ps.length=n then (match den (ps.map (·.d)) with
 | .ok p=>if ps.all (T.coer .leaf) then .ok p Γ' else if bo p.d then .ok ⟨.leaf,p.d⟩ Γ' else .ok ⟨.view,p.d⟩ Γ'
 | _=>.no) else .no
section
variable {K:Fg} {W:XW} {σ:St} {H:Hp} {Q:VK} {fl:FL}
theorem xl {n:Nat} {den:List MR->Res} {E:XK} (h:tE K W (ao n den fl) σ H Q):kz (qc K n den) [] E (tA K W fl) σ H Q:=by
 obtain ⟨He,O,Fs,Γ,E0,h⟩:=h;refine ⟨He,O,Fs,Γ,E0,?_⟩
 unfold ao at h
 cases e:fl Γ with
 | er c Γ'=>rw [e] at h;exact h
 | no=>rw [e] at h;exact h
 | ok ps Γ1=>
  rw [e] at h;intro vs H1 Gs Fs1 A;have h:Wants K W He O Fs H σ Q (if ps.length=n then (match den (ps.map (·.d)) with | .ok p=>if ps.all (T.coer .leaf) then .ok p Γ1 else if bo p.d then .ok ⟨.leaf,p.d⟩ Γ1 else .ok ⟨.view,p.d⟩ Γ1 | _=>.no) else .no):=h
  by_cases hn:ps.length=n
  case neg=>rw [if_neg hn] at h;exact h.elim
  rw [if_pos hn] at h;have hl:(vs++[]).length=n:=by rw [append_nil,A.len1];exact hn
  cases ed:den (ps.map (·.d)) with
  | er c=>rw [ed] at h;exact h.elim
  | no=>rw [ed] at h;exact h.elim
  | ok p=>
   rw [ed] at h;have h:Wants K W He O Fs H σ Q (if ps.all (T.coer .leaf) then .ok p Γ1 else if bo p.d then .ok ⟨.leaf,p.d⟩ Γ1 else .ok ⟨.view,p.d⟩ Γ1):=h
   obtain ⟨n1,n2,n3⟩:=ML A.env.nd;obtain ⟨m1,m2,m3⟩:=ML n1;have newF:∀a∈Fs1.flatten,a∈Fs.flatten\/H a=none:=fun a ha=>A.new a (ME _ ha)
   cases hc:ps.all (T.coer .leaf) with
   | true=>
    rw [hc] at h;have h:Wants K W He O Fs H σ Q (.ok p Γ1):=h
    refine ⟨hl,O++Fs1.flatten,ps.map (·.d),A.env.dropL.nd,A.env.dropL.inH,?_,?_⟩
    ·rw [append_nil]
     refine ⟨A.reps.1,fun i v d h1 h2=>?_⟩
     rw [getElem?_map] at h2
     cases e2:ps[i]? with
     | none=>rw [e2] at h2;cases h2
     | some q=>
      rw [e2] at h2
      cases h2;have hi:=(MM e2).1
      have e3:Gs[i]?=some (Gs[i]'(by rw [A.len2];exact hi)):=MI _
      have o:=A.own i v q _ h1 e2 e3
      have o2:=o.coer (s:=.leaf) (O':=O++Fs1.flatten) (List.all_eq_true.mp hc q (mem_of_getElem? e2)) qa fun a ha z=>by
       exfalso
       have hG:=mB e3 ha
       rcases MG z with y | y
       ·exact m3 a hG a y rfl
       ·exact n3 a (MF _ hG) a y rfl
      cases o2 with
      | leaf r=>exact r
    ·rw [ed]
     intro v H2 G r;refine h v H2 G Fs1 ⟨A.same.trans r.same,A.env.dropL.hide r.same r.nd r.fresh r.inH,fun a ha=>?_,by rw [append_assoc];exact r.own⟩
     rcases MG ha with z | z
     ·exact .inr (A.same.free (r.fresh a z))
     ·exact newF a z
   | false=>
    rw [hc] at h;have h:Wants K W He O Fs H σ Q (if bo p.d then .ok ⟨.leaf,p.d⟩ Γ1 else .ok ⟨.view,p.d⟩ Γ1):=h
    refine ⟨hl,[],ps.map (·.d),nodup_nil,(fun _ z=>nomatch z),by rw [append_nil,DE];exact A.reps,?_⟩
    rw [ed];intro v H2 G r
    cases hs:bo p.d with
    | true=>
     rw [hs] at h;exact Wants.scal h (r.own.rep.sc hs) (A.same.trans r.same) (A.env.dropL.grow r.same) (fun a ha=>ha) E0.ndO newF
    | false=>
     rw [hs] at h;have h:Wants K W He O Fs H σ Q (.ok ⟨.view,p.d⟩ Γ1):=h
     exact h v H2 [] Fs1 ⟨A.same.trans r.same,by simpa using A.env.dropL.grow r.same,by simpa using newF,.view r.own.rep⟩
end
theorem zK:bootBuiltins "len"=some (.builtin "len"):=by decide +kernel
theorem FP:bootBuiltins "all"=some (.builtin "all"):=by decide +kernel
theorem FO:bootBuiltins "any"=some (.builtin "any"):=by decide +kernel
theorem FM:bootBuiltins "min"=some (.builtin "min"):=by decide +kernel
theorem ml:bootBuiltins "sorted"=some (.builtin "sorted"):=by decide +kernel
theorem fC:bootBuiltins "isinstance"=some (.builtin "isinstance"):=by decide +kernel
theorem FN:bootBuiltins "int"=some (.type "int"):=by decide +kernel
theorem vJ:bootBuiltins "list"=some (.type "list"):=by decide +kernel
section
variable {X:Cx} {W:XW} {a b c e:Expr} {es:List Expr} {pos:Pos} {fa fb fc:F1} {fl:FL} {ga gb:FB} {g1 g2:FS}
theorem CJ {op:CmpOp} {r:R2} {g:MR->MR->Option MR} (ho:OpR X (compareOp op) r) (hg:GOp X.K r g) (ha:PE X a (tE X.K W fa)) (hb:PE X b (tE X.K W fb)) (hm:behindInMarks op b=false:=by with_unfolding_all rfl) :
  PE X (.Compare a [op] [b] pos) (tE X.K W (aD g fa fb)):=aP (xF ho ha hb hm) fun _ _ _=>fQ hg
theorem CF {op:CmpOp} {r:R2} {g:MR->MR->Option MR} (ho:OpR X (compareOp op) r) (hg:GOp X.K r g) (ha:PE X a (tE X.K W fa)) (hb:PE X b (tE X.K W fb)) (hm:behindInMarks op b=false:=by with_unfolding_all rfl) :
  PT X (.Compare a [op] [b] pos) (tT X.K W (aO aA (aD g fa fb))):=jC (xv ho ha hb hm) fun σ H QB=>oJ fun Q=>fQ hg
theorem vB {op op':CmpOp} {r r':R2} {g g':MR->MR->Option MR} (ho:OpR X (compareOp op) r) (hg:GOp X.K r g) (ho':OpR X (compareOp op') r') (hg':GOp X.K r' g') (ha:PE X a (tE X.K W fa)) (hb:PE X b (tE X.K W fb)) (hc:PE X c (tE X.K W fc))
  (hm:lastMarks [op,op'] [b,c]=false:=by with_unfolding_all rfl):PE X (.Compare a [op,op'] [b,c] pos) (tE X.K W (mE g g' fa fb fc)):=aP (uE ho ho' ha hb hc hm) fun _ _ _=>kN hg hg'
theorem vt {op op':CmpOp} {r r':R2} {g g':MR->MR->Option MR} (ho:OpR X (compareOp op) r) (hg:GOp X.K r g) (ho':OpR X (compareOp op') r') (hg':GOp X.K r' g') (ha:PE X a (tE X.K W fa)) (hb:PE X b (tE X.K W fb)) (hc:PE X c (tE X.K W fc))
  (hm:lastMarks [op,op'] [b,c]=false:=by with_unfolding_all rfl):PT X (.Compare a [op,op'] [b,c] pos) (tT X.K W (aO aA (mE g g' fa fb fc))):=jC (um ho ho' ha hb hc hm) fun σ H QB=>oJ fun Q=>kN hg hg'
theorem da_nil:PA X [] (tA X.K W ag):=pM nX fun _ _ _=>A6
theorem da_cons (ha:PE X e (tE X.K W fa)) (hr:PA X es (tA X.K W fl)) (hs:starEach (e::es) X.env=(false,eval e X.env)::starEach es X.env:=by rfl):PA X (e::es) (tA X.K W (ae fa fl)):=pM (iY ha hr hs) fun _ _ _=>oN
theorem vC {x:Str} {id:String} {r:List V->Hp->VK->Prop} {g:List MR->Option MR} {p:Pos} (hc:CallR X (.builtin id) r) (hg:GCall X.K r g) (hv:bootBuiltins x=some (.builtin id)) (hm:X.mg x=none) (ha:PA X (e::es) (tA X.K W fl)) (hG:Gl X x:=by rfl)
  (hn:x ≠ "__name__":=by decide) (hdb:(x==("__debug__":Str))=false:=by decide) (he:starEach (e::es) X.env=(false,eval e X.env)::starEach es X.env:=by rfl) (hpl:(backTo pos (starEach es X.env)).any (·.1)=false:=by rfl) :
  PE X (.Call (.Name x p) (e::es) [] pos) (tE X.K W (bG g fl)):=aP (DL hc hG hm hv ha hn hdb he hpl) fun _ _ _=>t4 hg
theorem Fz {x:Str} {id:String} {r:List V->Hp->VK->Prop} {g:List MR->Option MR} {p:Pos} (hc:CallR X (.type id) r) (hg:GCall X.K r g) (hv:bootBuiltins x=some (.type id)) (hm:X.mg x=none) (ha:PA X (e::es) (tA X.K W fl)) (hG:Gl X x:=by rfl)
  (hn:x ≠ "__name__":=by decide) (hdb:(x==("__debug__":Str))=false:=by decide) (he:starEach (e::es) X.env=(false,eval e X.env)::starEach es X.env:=by rfl) (hpl:(backTo pos (starEach es X.env)).any (·.1)=false:=by rfl) :
  PE X (.Call (.Name x p) (e::es) [] pos) (tE X.K W (bG g fl)):=aP (jc hc hG hm hv ha hn hdb he hpl) fun _ _ _=>t4 hg
theorem rD {p:Pos} (hm:X.mg "list"=none) (ha:PE X e (tE X.K W fa)) (hG:Gl X "list":=by rfl) (hs:starEach [e] X.env=[(false,eval e X.env)]:=by rfl) :
  PE X (.Call (.Name "list" p) [e] [] pos) (tE X.K W (vZ fa)):=aP (jc j7 hG hm vJ (da_cons ha da_nil hs) (by decide) (by decide) hs rfl) fun _ _ _=>qm
theorem yw {f:Addr} {fd:FuncData} {ps:List Str} {k n:Nat} {den:List MR->Res} {x:Str} {p:Pos} (F:dg X.prog X.w X.K X.mg X.base ic k f fd ps (qc X.K n den)) (hr:Room k X.A) (hm:X.mg x=some (.ref f)) (hk:PySem.W.keepIn X.K (.ref f)=true)
  (hb:Binds X.K fd ps []) (ha:PA X (e::es) (tA X.K W fl)) (hg:Gl X x:=by rfl) (hdb:(x==("__debug__":Str))=false:=by decide) (he:starEach (e::es) X.env=(false,eval e X.env)::starEach es X.env:=by rfl)
  (hpl:(backTo pos (starEach es X.env)).any (·.1)=false:=by rfl):PE X (.Call (.Name x p) (e::es) [] pos) (tE X.K W (ao n den fl)):=aP (Il F hr hg hm hk hb .nil uG ha hdb he hpl) fun _ _ _=>xl
theorem Fy {tg:Expr} {p:Pos} (hm:X.mg "range"=none) (ha:PA X [a] (tA X.K W fl)) (hg:Gl X "range":=by rfl) (hs:starEach [a] X.env=[(false,eval a X.env)]:=by rfl):PI X tg (.Call (.Name "range" p) [a] [] pos) (tI X.K W (fw fl)):=pL (qx hg hm ha hs) fun _ _ _=>Bc
theorem Fw {tg:Expr} {p:Pos} (hm:X.mg "range"=none) (ha:PA X [a,b] (tA X.K W fl)) (hg:Gl X "range":=by rfl) (hs:starEach [a,b] X.env=[(false,eval a X.env),(false,eval b X.env)]:=by rfl) (hs2:starEach [b] X.env=[(false,eval b X.env)]:=by rfl) :
  PI X tg (.Call (.Name "range" p) [a,b] [] pos) (tI X.K W (xZ fl)):=pL (qw hg hm ha hs hs2) fun _ _ _=>Bb
def aT:FB:=fun Γ=>.ok true Γ
theorem yv {scope:Scope} {x:Str} {px:Pos} {iter elt:Expr} {ifs:List Expr} {fi:FI} {fe:F1} {fc:FB} (s:Sh) (i:Nat) (S:dv X.N [i] X.env.scope scope) (hN:X.N.Nodup) (hi':PI X (.Name x px) iter (tI X.K W fi))
  (hc:∀cells C s₀ H₀ ex,PF (blk X scope cells C s₀ H₀ ex) ifs (tT X.K W0 fc)) (he:∀cells C s₀ H₀ ex,PE (blk X scope cells C s₀ H₀ ex) elt (tE X.K W0 fe))
  (hcalm:X.calm=true:=by rfl) (hx:X.N[i]?=some x:=by rfl) (hl:∀cells C s₀ H₀ ex,Loc (blk X scope cells C s₀ H₀ ex).env.scope x:=by first | exact fun _ _ _ _ _=>Or.inl rfl | exact fun _ _ _ _ _=>Or.inr rfl)
  (hf:∀cells C s₀ H₀ ex,(blk X scope cells C s₀ H₀ ex).fn x=true\/(blk X scope cells C s₀ H₀ ex).env.scope.names.lookup x=some .local:=by first | exact fun _ _ _ _ _=>Or.inr rfl | exact fun _ _ _ _ _=>Or.inl rfl)
  (hs:∀x,foldedSetIterable iter X.env x=pure x:=by intro _;rfl):PE X (.ListComp elt [⟨.Name x px,iter,ifs,0⟩] scope pos) (tE X.K W (aB s i fi fc fe)):=
 aP (o6 S hcalm hi' (fun cells C s₀ H₀ ex=>rY (X:=blk X scope cells C s₀ H₀ ex) (i:=i) hN hx (hl cells C s₀ H₀ ex) (hf cells C s₀ H₀ ex)) hc he hs) fun _ _ _=>Io
theorem CG (own:Bool) (i:Nat) {x:Str} {pos':Pos} (hN:X.N.Nodup) (ha:PE X a (tE X.K W fa)) (hi:X.N[i]?=some x:=by rfl) (hx:Loc X.env.scope x:=by first | exact Or.inl rfl | exact Or.inr rfl) (hs:swapsWith a (some (.Name x pos')) pos.line X.env=pure false:=by rfl)
  (hf:X.fn x=true\/X.env.scope.names.lookup x=some .local:=by first | exact .inl rfl | exact .inr rfl):PS X (.Assign [.Name x pos'] a pos) (tS X.K W (az own i fa)):=cN (zT hN hi hx ha hs hf) fun _ _ _=>Gd
theorem nC (own:Bool) (j:Nat) {scope:Scope} {x y:Str} {px pos' spos:Pos} {iter elt:Expr} {ifs:List Expr} {fi:FI} {fe:F1} {fc:FB} (s:Sh) (i:Nat) (S:dv X.N [i] X.env.scope scope) (hN:X.N.Nodup) (hi':PI X (.Name x px) iter (tI X.K W fi))
  (hc:∀cells C s₀ H₀ ex,PF (blk X scope cells C s₀ H₀ ex) ifs (tT X.K W0 fc)) (he:∀cells C s₀ H₀ ex,PE (blk X scope cells C s₀ H₀ ex) elt (tE X.K W0 fe))
  (hsw:swapsWith (.ListComp elt [⟨.Name x px,iter,ifs,0⟩] scope pos) (some (.Name y pos')) spos.line X.env=pure true:=by rfl)
  (hy:X.N[j]?=some y:=by rfl) (hly:X.env.scope.names.lookup y=some .local:=by rfl)
  (hcalm:X.calm=true:=by rfl) (hx:X.N[i]?=some x:=by rfl) (hl:∀cells C s₀ H₀ ex,Loc (blk X scope cells C s₀ H₀ ex).env.scope x:=by first | exact fun _ _ _ _ _=>Or.inl rfl | exact fun _ _ _ _ _=>Or.inr rfl)
  (hf:∀cells C s₀ H₀ ex,(blk X scope cells C s₀ H₀ ex).fn x=true\/(blk X scope cells C s₀ H₀ ex).env.scope.names.lookup x=some .local:=by first | exact fun _ _ _ _ _=>Or.inr rfl | exact fun _ _ _ _ _=>Or.inl rfl)
  (hs:∀x,foldedSetIterable iter X.env x=pure x:=by intro _;rfl):PS X (.Assign [.Name y pos'] (.ListComp elt [⟨.Name x px,iter,ifs,0⟩] scope pos) spos) (tS X.K W (az own j (aB s i fi fc fe))):=
 cN (Ji hN hy hly S hcalm hi' (fun cells C s₀ H₀ ex=>rY (X:=blk X scope cells C s₀ H₀ ex) (i:=i) hN hx (hl cells C s₀ H₀ ex) (hf cells C s₀ H₀ ex)) hc he hsw hs) fun D σ H h=>by
  have h2:fg (tE X.K W (aB s i fi fc fe)) (gName j) D σ H:=Gd h
  exact Io h2
theorem rn (i:Nat) {x:Str} {p apos cpos:Pos} (ha:PE X a (tE X.K W fa)) (hN:X.N[i]?=some x:=by rfl) (hv:CU X.env.scope x:=by first | exact Or.inl rfl | exact Or.inr (Or.inl rfl) | exact Or.inr (Or.inr rfl)) (hd:(x==("__debug__":Str))=false:=by decide)
  (hcd:(x==("__classdict__":Str))=false:=by decide) (hs:starEach [a] X.env=[(false,eval a X.env)]:=by rfl)
  (hbase:attributeBase (.Name x p) "append" X.env (eval (.Name x p) X.env)=eval (.Name x p) X.env:=by rfl) (hline:(apos.endLine==cpos.line)=true:=by rfl)
  (hfew:((backTo cpos (starEach [a] X.env)).all (fun x=>!x.1)&&(backToKw cpos (keywordEach [] X.env)).all (fun x=>x.1.isSome)
   && decide ([a].length+([]:List Keyword).length+(if ([]:List Keyword).isEmpty then 0 else 1)<30))=true:=by rfl)
  (hsw:swapsWith (.Call (.Attribute (.Name x p) "append" apos) [a] [] cpos) none pos.line X.env=pure false:=by rfl) :
  PS X (.Expr (.Call (.Attribute (.Name x p) "append" apos) [a] [] cpos) pos) (tS X.K W (eu i fa)):=
 cN (Im (jd PySem.F.plainAttrs_list PySem.F.slot_list_append PySem.F.type_list_append IZ (nY hN hv hd hcd) (da_cons ha da_nil hs) hbase hfew hline hs rfl) hsw) fun _ _ _=>qo
theorem CH (i:Nat) {x:Str} {px:Pos} {iter:Expr} {body:List Stmt} {fi:FI} {g:FS} (hp:PassesOwn (model X.prog X.w) X.A X.env X.xe) (hN:X.N.Nodup) (hi':PI X (.Name x px) iter (tI X.K W fi)) (hb:PSs X body (tS X.K W g)) (hcalm:X.calm=true:=by rfl)
  (hx:X.N[i]?=some x:=by rfl) (hl:Loc X.env.scope x:=by first | exact Or.inl rfl | exact Or.inr rfl) (hf:X.fn x=true\/X.env.scope.names.lookup x=some .local:=by first | exact .inl rfl | exact .inr rfl)
  (hs:∀x,foldedSetIterable iter X.env x=pure x:=by intro _;rfl):PS X (.For (.Name x px) iter body [] pos) (tS X.K W (dw i fi g)):=
 cN (HW hp hcalm hi' (rY hN hx hl hf) hb hs) fun _ _ _=>Be
end
structure Cp (X:Cx) (N gl:List Str) (vs cs ls lo gs:List Nat):Prop where
 hN:X.N=N
 nd:N.Nodup
 nm:∀x∈N,(x==("__debug__":Str))=false/\(x==("__classdict__":Str))=false
 ng:∀x∈gl,(x==("__debug__":Str))=false/\x ≠ "__name__"
 vis:∀(i:Nat) x,N[i]?=some x->vs.contains i=true->CU X.env.scope x
 cel:∀(i:Nat) x,N[i]?=some x->cs.contains i=true->X.env.scope.names.lookup x=some .cell\/X.env.scope.names.lookup x=some .free
 loc:∀(i:Nat) x,N[i]?=some x->ls.contains i=true->Loc X.env.scope x/\(X.fn x=true\/X.env.scope.names.lookup x=some .local)
 loo:∀(i:Nat) x,N[i]?=some x->lo.contains i=true->X.env.scope.names.lookup x=some .local
 glb:∀(j:Nat) x,gl[j]?=some x->gs.contains j=true->Gl X x
 calm:X.calm=true
 kind:X.env.scope.kind=.function
def yT (sc:Scope) (ks:List NameKind) (o:Option Str):Bool:=match o with
 | some x=>(match sc.names.lookup x with
  | some k=>ks.any fun z=>decide (z=k)
  | none=>false)
 | none=>true
def jt (N gl:List Str) (vs cs ls lo gs:List Nat) (sc:Scope):Bool:=
 decide (sc.kind=.function)&&(vs.all fun i=>yT sc [.local,.cell,.free] N[i]?)&&(cs.all fun i=>yT sc [.cell,.free] N[i]?)&&(ls.all fun i=>yT sc [.local,.cell] N[i]?)&&(lo.all fun i=>yT sc [.local] N[i]?)&&(gs.all fun j=>yT sc [.globalImplicit] gl[j]?)
def r6 (N gl:List Str):Bool:=decide N.Nodup&&(N.all fun x=>!(x==("__debug__":Str))&&!(x==("__classdict__":Str)))&&(gl.all fun x=>!(x==("__debug__":Str))&&!decide (x = "__name__"))
theorem Dg {sc:Scope} {ks:List NameKind} {x:Str} (h:yT sc ks (some x)=true):∃k∈ks,sc.names.lookup x=some k:=by
 unfold yT at h;simp only at h
 split at h
 ·rename_i k e
  simp only [any_eq_true,decide_eq_true_eq] at h
  obtain ⟨z,hz,rfl⟩:=h;exact ⟨z,hz,e⟩
 ·cases h
theorem Dv {P:Nat->Bool} {l:List Nat} {i:Nat} (h:l.all P=true) (hi:l.contains i=true):P i=true:=by
 rw [all_eq_true] at h;exact h i (by simpa using hi)
structure Mz (N gl:List Str) (vs cs ls lo gs:List Nat) (sc:Scope):Prop where
 kind:sc.kind=.function
 vis:∀(i:Nat) x,N[i]?=some x->vs.contains i=true->CU sc x
 cel:∀(i:Nat) x,N[i]?=some x->cs.contains i=true->sc.names.lookup x=some .cell\/sc.names.lookup x=some .free
 loc:∀(i:Nat) x,N[i]?=some x->ls.contains i=true->Loc sc x
 loo:∀(i:Nat) x,N[i]?=some x->lo.contains i=true->sc.names.lookup x=some .local
 glb:∀(j:Nat) x,gl[j]?=some x->gs.contains j=true->sc.names.lookup x=some .globalImplicit
theorem Dw {N gl:List Str} {vs cs ls lo gs:List Nat} {sc:Scope} (h:jt N gl vs cs ls lo gs sc=true):Mz N gl vs cs ls lo gs sc:=by
 unfold jt at h;simp only [Bool.and_eq_true,decide_eq_true_eq] at h
 obtain ⟨⟨⟨⟨⟨h0,h1⟩,h2⟩,h3⟩,h4⟩,h5⟩:=h;refine ⟨h0,fun i x e hi=>?_,fun i x e hi=>?_,fun i x e hi=>?_,fun i x e hi=>?_,fun i x e hi=>?_⟩
 ·have q:=Dv h1 hi
  rw [e] at q;obtain ⟨k,hk,q⟩:=Dg q;simp only [mem_cons,not_mem_nil,or_false] at hk
  rcases hk with rfl | rfl | rfl
  ·exact .inl q
  ·exact .inr (.inl q)
  ·exact .inr (.inr q)
 ·have q:=Dv h2 hi
  rw [e] at q;obtain ⟨k,hk,q⟩:=Dg q;simp only [mem_cons,not_mem_nil,or_false] at hk
  rcases hk with rfl | rfl
  ·exact .inl q
  ·exact .inr q
 ·have q:=Dv h3 hi
  rw [e] at q;obtain ⟨k,hk,q⟩:=Dg q;simp only [mem_cons,not_mem_nil,or_false] at hk
  rcases hk with rfl | rfl
  ·exact .inl q
  ·exact .inr q
 ·have q:=Dv h4 hi
  rw [e] at q;obtain ⟨k,hk,q⟩:=Dg q;simp only [mem_cons,not_mem_nil,or_false] at hk
  rw [hk] at q;exact q
 ·have q:=Dv h5 hi
  rw [e] at q;obtain ⟨k,hk,q⟩:=Dg q;simp only [mem_cons,not_mem_nil,or_false] at hk
  rw [hk] at q;exact q
theorem Gq {N gl:List Str} (h:r6 N gl=true):N.Nodup/\(∀x∈N,(x==("__debug__":Str))=false/\(x==("__classdict__":Str))=false)/\∀x∈gl,(x==("__debug__":Str))=false/\x ≠ "__name__":=by
 unfold r6 at h;simp only [Bool.and_eq_true,decide_eq_true_eq,all_eq_true,Bool.not_eq_true',decide_eq_false_iff_not] at h
 exact ⟨h.1.1,h.1.2,h.2⟩
theorem Cp.fn {P:Program} {w:World} {K:Fg} {mg:Str->Option Value} {base:Heap} {N gl:List Str} {vs cs ls lo gs:List Nat} {qual:Str} {sc:Scope} {f:Addr} {cd:Value} {A:Around} {outer:List Env} {s:Shared} {H:Hp} {E:XK}
  (h:jt N gl vs cs ls lo gs sc=true) (h':r6 N gl=true):Cp (et ic P w K mg base N qual sc f cd A outer s H E).nox N gl vs cs ls lo gs:=by
 obtain ⟨a,b,c⟩:=Gq h'
 have q:=Dw h
 exact ⟨rfl,a,b,c,q.vis,q.cel,fun i x e hi=>⟨q.loc i x e hi,.inl rfl⟩,q.loo,q.glb,rfl,q.kind⟩
theorem zk {env:Env} {x:Str} {k:NameKind}:∀{names:List (Str×NameKind)},names.lookup x=some k ->
  (names.map fun (n,k)=>if (k==NameKind.free&&env.scope.kind==.function&&env.kindOf n==some .cell) then (n,NameKind.cell) else (n,k)).lookup x=some k \/
  (k=.free/\(names.map fun (n,k)=>if (k==NameKind.free&&env.scope.kind==.function&&env.kindOf n==some .cell) then (n,NameKind.cell) else (n,k)).lookup x=some .cell)
 | [],h=>by simp at h
 | (n,k')::r,h=>by
  have ih:=@zk env x k r
  rw [map_cons];show List.lookup x ((if (k'==NameKind.free&&env.scope.kind==.function&&env.kindOf n==some .cell)=true then (n,NameKind.cell) else (n,k'))::_)=_\/_/\List.lookup x ((if (k'==NameKind.free&&env.scope.kind==.function&&env.kindOf n==some .cell)=true then (n,NameKind.cell) else (n,k'))::_)=_
  by_cases hc:(k'==NameKind.free&&env.scope.kind==.function&&env.kindOf n==some .cell)=true
  ·rw [if_pos hc]
   cases hx:x==n with
   | true=>
    simp only [lookup_cons,hx] at h ⊢
    cases h;simp only [Bool.and_eq_true,beq_iff_eq] at hc
    exact .inr ⟨hc.1.1,trivial⟩
   | false=>
    simp only [lookup_cons,hx] at h ⊢
    exact ih h
  ·rw [if_neg hc]
   cases hx:x==n with
   | true=>
    simp only [lookup_cons,hx] at h ⊢
    cases h;exact .inl rfl
   | false=>
    simp only [lookup_cons,hx] at h ⊢
    exact ih h
theorem wt {scope:Scope} {env:Env} {x:Str} {k:NameKind} (h:scope.names.lookup x=some k):(relabel scope env).names.lookup x=some k\/(k=.free/\(relabel scope env).names.lookup x=some .cell):=zk h
theorem Cp.blk {X:Cx} {N gl:List Str} {vs cs ls lo gs vs' cs' ls' lo' gs':List Nat} {scope:Scope} (S:Cp X N gl vs cs ls lo gs) (h:jt N gl vs' cs' ls' lo' gs' scope=true) (cells C s₀ H₀ ex) :
  Cp (blk X scope cells C s₀ H₀ ex) N gl vs' cs' ls' lo' gs':=by
 have q:=Dw h
 refine ⟨S.hN,S.nd,S.nm,S.ng,fun i x e hi=>?_,fun i x e hi=>?_,fun i x e hi=>?_,fun i x e hi=>?_,fun i x e hi=>?_,S.calm,q.kind⟩
 ·show CU (relabel scope X.env) x
  rcases q.vis i x e hi with z | z | z
  ·rcases wt (env:=X.env) z with y | ⟨y,_⟩
   ·exact .inl y
   ·cases y
  ·rcases wt (env:=X.env) z with y | ⟨y,_⟩
   ·exact .inr (.inl y)
   ·cases y
  ·rcases wt (env:=X.env) z with y | ⟨_,y⟩
   ·exact .inr (.inr y)
   ·exact .inr (.inl y)
 ·show (relabel scope X.env).names.lookup x=some .cell\/(relabel scope X.env).names.lookup x=some .free
  rcases q.cel i x e hi with z | z
  ·rcases wt (env:=X.env) z with y | ⟨y,_⟩
   ·exact .inl y
   ·cases y
  ·rcases wt (env:=X.env) z with y | ⟨_,y⟩
   ·exact .inr y
   ·exact .inl y
 ·show Loc (relabel scope X.env) x/\((scope.names.any fun y=>y.1==x&&y.2==.cell)=true\/(relabel scope X.env).names.lookup x=some .local)
  rcases q.loc i x e hi with z | z
  ·rcases wt (env:=X.env) z with y | ⟨y,_⟩
   ·exact ⟨.inl y,.inr y⟩
   ·cases y
  ·rcases wt (env:=X.env) z with y | ⟨y,_⟩
   ·refine ⟨.inr y,.inl ?_⟩
    rw [any_eq_true];exact ⟨(x,.cell),gQ z,by simp⟩
   ·cases y
 ·show (relabel scope X.env).names.lookup x=some .local
  rcases wt (env:=X.env) (q.loo i x e hi) with y | ⟨y,_⟩
  ·exact y
  ·cases y
 ·show (relabel scope X.env).names.lookup x=some .globalImplicit
  rcases wt (env:=X.env) (q.glb i x e hi) with y | ⟨y,_⟩
  ·exact y
  ·cases y
def hX (N:List Str) (i:Nat) (cs:List Nat) (sc:Scope):Bool:=
 decide (sc.kind=.function)&&(sc.names.all fun p=>!decide (p.2=.free)||cs.any fun j=>decide (N[j]?=some p.1)) &&
 ((List.range N.length).all fun j=>j==i||(sc.names.all fun p=>!decide (some p.1=N[j]?)||(!decide (p.2=.local)&&!decide (p.2=.cell)))) &&
 (sc.names.all fun p=>!decide (p.2=.local)||decide (sc.names.lookup p.1=some .local)) &&
 (sc.names.all fun p=>!decide (p.2=.free)||sc.names.all fun q=>!decide (q.1=p.1)||!decide (q.2=.cell))
theorem IC {X:Cx} {N gl:List Str} {vs cs ls lo gs:List Nat} {scope:Scope} {i:Nat} (S:Cp X N gl vs cs ls lo gs) (h:hX N i cs scope=true):dv X.N [i] X.env.scope scope:=by
 unfold hX at h;simp only [Bool.and_eq_true,decide_eq_true_eq,all_eq_true,Bool.or_eq_true,Bool.not_eq_true',decide_eq_false_iff_not,any_eq_true,mem_range,beq_iff_eq] at h
 obtain ⟨⟨⟨⟨h0,h1⟩,h2⟩,h3⟩,h4⟩:=h;refine ⟨h0,fun n hn=>?_,fun j x e hj=>?_,fun x hx e=>?_,fun n hn hc=>?_⟩
 ·rcases h1 _ hn with z | ⟨j,hj,e⟩
  ·exact absurd rfl z
  ·exact S.cel j n e (by simpa using hj)
 ·rw [S.hN] at e
  rcases h2 j (MM e).1 with z | z
  ·rw [z];exact List.mem_singleton.mpr rfl
  ·exfalso
   rcases hj with y | y
   ·rcases z _ y with w | w
    ·exact w e.symm
    ·exact w.1 rfl
   ·rcases z _ y with w | w
    ·exact w e.symm
    ·exact w.2 rfl
 ·rcases h3 x hx with z | z
  ·exact absurd e z
  ·exact z
 ·rcases h4 _ hn with z | z
  ·exact z rfl
  ·rcases z _ hc with w | w
   ·exact w rfl
   ·exact w rfl
structure Fx (X Y:Cx):Prop where
 prog:Y.prog=X.prog
 w:Y.w=X.w
 K:Y.K=X.K
 mg:Y.mg=X.mg
 base:Y.base=X.base
 A:Y.A=X.A
def Rm (X:Cx):Prop:=X.A.units+64<cLine
def wm (X:Cx) (x:Str) (n:Nat) (den:List MR->Res):Prop:=∃(k:Nat) (f:Addr) (fd:FuncData) (ps:List Str),dg X.prog X.w X.K X.mg X.base ic k f fd ps (qc X.K n den)/\Room k X.A/\X.mg x=some (.ref f)/\PySem.W.keepIn X.K (.ref f)=true/\Binds X.K fd ps []
def Con (X:Cx) (x:Str) (d:MR):Prop:=∃u v,X.mg x=some u/\RelV v u/\∀H,Rep X.K H v d
section
variable {X Y:Cx} {x:Str} {m:Nat} {d:MR}
theorem Fx.n (F:Fx X Y) (h:X.mg x=none):Y.mg x=none:=by rw [F.mg];exact h
end
section
variable {X:Cx} {N gl:List Str} {vs cs ls lo gs:List Nat} {W:XW} {a b c e:Expr} {es:List Expr} {pos p:Pos} {fa fb fc:F1} {fl:FL} {ga gb:FB} {g1 g2:FS}
theorem cv (S:Cp X N gl vs cs ls lo gs) (i:Nat) {x:Str} (hN:N[i]?=some x) (hv:vs.contains i=true):PE X (.Name x pos) (tE X.K W (af i)):=by
 have m:=S.nm x (mem_of_getElem? hN)
 exact vA (nY (by rw [S.hN];exact hN) (S.vis i x hN hv) m.1 m.2)
theorem cm (S:Cp X N gl vs cs ls lo gs) (i:Nat) {x:Str} (hN:N[i]?=some x) (hv:vs.contains i=true):PE X (.Name x pos) (tE X.K W (ck i)):=by
 have m:=S.nm x (mem_of_getElem? hN)
 exact yt (nY (by rw [S.hN];exact hN) (S.vis i x hN hv) m.1 m.2)
theorem Cp.g (S:Cp X N gl vs cs ls lo gs) {j:Nat} {x:Str} (hj:gl[j]?=some x) (hg:gs.contains j=true):Gl X x/\(x==("__debug__":Str))=false/\x ≠ "__name__":=
 ⟨S.glb j x hj hg,S.ng x (mem_of_getElem? hj)⟩
def Eu:R2:=fun x y H Q=>oR (fun i j=>.bl (decide (i<j))) x y H Q\/∃i j,x=.str i/\y=.str j/\Q (.bl (decide (i.cps.toList<j.cps.toList))) H
theorem EG:OpR X (compareOp .Lt) Eu:=op_lt.or qA
def Cu:MR->MR->Option MR
 | .str i,.str j=>some (.bool (!decide (i.cps.toList<j.cps.toList)))
 | _,_=>none
abbrev lG:MR->MR->Option MR:=fun a b=>(Ms a b).or (Cu a b)
def Bo:R2:=fun x y H Q=>oR (fun i j=>.bl (decide (j<=i))) x y H Q\/∃i j,x=.str i/\y=.str j/\Q (.bl (!decide (i.cps.toList<j.cps.toList))) H
theorem qB:OpR X (compareOp .GtE) (fun x y H Q=>∃i j,x=.str i/\y=.str j/\Q (.bl (!decide (i.cps.toList<j.cps.toList))) H):=by
 intro pins s σ H x y v u Q I rx ry h;obtain ⟨i,j,rfl,rfl,q⟩:=h;obtain ⟨t,rfl⟩:=rx;obtain ⟨t',rfl⟩:=ry;exact PySem.P.ge_str (Gm I q rfl)
theorem EH:OpR X (compareOp .GtE) Bo:=op_ge.or qB
theorem yf {K:Fg}:GOp K (fun x y H Q=>∃i j,x=.str i/\y=.str j/\Q (.bl (!decide (i.cps.toList<j.cps.toList))) H) Cu:=by
 intro x y H Q a b d ra rb e k
 cases ra<;>cases rb<;>simp only [Cu] at e<;>try cases e
 rename_i i j;exact ⟨i,j,rfl,rfl,k _ (.bl _)⟩
theorem Cf {K:Fg}:GOp K Bo lG:=(C6 fun _ _=>.bl _).or yf
structure Ck (X:Cx) (op:CmpOp) (r:R2) (g:MR->MR->Option MR):Prop where
 o:OpR X (compareOp op) r
 g:GOp X.K r g
theorem kR (R:Rm X):Ck X .Lt Eu fU:=⟨EG,Ce⟩
theorem xp (R:Rm X):Ck X .LtE (oR fun i j=>.bl (decide (i<=j))) qX:=⟨EC,C6 fun _ _=>.bl _⟩
theorem xq (R:Rm X):Ck X .Gt (oR fun i j=>.bl (decide (j<i))) pA:=⟨ED,C6 fun _ _=>.bl _⟩
theorem Kc (R:Rm X):Ck X .GtE Bo lG:=⟨EH,Cf⟩
theorem d9 (R:Rm X):Ck X .Eq (qr X.K false) cP:=⟨BK R,Cg⟩
theorem qt (R:Rm X):Ck X .NotEq (qr X.K true) jq:=⟨BF R,Cd⟩
theorem qu (R:Rm X):Ck X .In (ue X.K false) (cY false):=⟨BJ R,vg⟩
theorem oS (R:Rm X):Ck X .NotIn (ue X.K true) (cY true):=⟨qz R,vg⟩
theorem ct {op:CmpOp} {r:R2} {g:MR->MR->Option MR} (k:Ck X op r g) (ha:PE X a (tE X.K W fa)) (hb:PE X b (tE X.K W fb)) (hm:behindInMarks op b=false):PT X (.Compare a [op] [b] pos) (tT X.K W (aO aA (aD g fa fb))):=CF k.o k.g ha hb hm
theorem cc {x:Str} {n:Nat} {den:List MR->Res} (S:Cp X N gl vs cs ls lo gs) (j:Nat) (hj:gl[j]?=some x) (hg:gs.contains j=true) (C:wm X x n den) (ha:PA X (e::es) (tA X.K W fl)) (he:starEach (e::es) X.env=(false,eval e X.env)::starEach es X.env) (hpl:(backTo pos (starEach es X.env)).any (·.1)=false) :
  PE X (.Call (.Name x p) (e::es) [] pos) (tE X.K W (ao n den fl)):=by
 obtain ⟨k,f,fd,ps,F,hr,hm,hk,hb⟩:=C;exact yw F hr hm hk hb ha (S.g hj hg).1 (S.g hj hg).2.1 he hpl
abbrev wo (X:Cx) (N gl:List Str) (vs cs ls lo gs:List Nat) (R:Cx->Prop):Prop:=∀Y:Cx,Cp Y N gl vs cs ls lo gs->Fx X Y->R Y
theorem co {scope:Scope} {x:Str} {px:Pos} {iter elt:Expr} {ifs:List Expr} {fi:FI} {fe:F1} {fc:FB} {vs' cs' lo' gs':List Nat} (S:Cp X N gl vs cs ls lo gs) (s:Sh) (i:Nat) (hx:N[i]?=some x) (h1:hX N i cs scope=true) (h2:jt N gl vs' cs' [i] lo' gs' scope=true)
  (hi':PI X (.Name x px) iter (tI X.K W fi)) (hc:wo X N gl vs' cs' [i] lo' gs' fun Y=>PF Y ifs (tT Y.K W0 fc)) (he:wo X N gl vs' cs' [i] lo' gs' fun Y=>PE Y elt (tE Y.K W0 fe)) (hs:∀x,foldedSetIterable iter X.env x=pure x) :
  PE X (.ListComp elt [⟨.Name x px,iter,ifs,0⟩] scope pos) (tE X.K W (aB s i fi fc fe)):=by
 have B:=fun cells C s₀ H₀ ex=>S.blk h2 cells C s₀ H₀ ex
 have L:=fun cells C s₀ H₀ ex=>(B cells C s₀ H₀ ex).loc i x hx (by simp)
 exact yv (X:=X) s i (IC S h1) (by rw [S.hN];exact S.nd) hi' (fun cells C s₀ H₀ ex=>hc _ (B cells C s₀ H₀ ex) ⟨rfl,rfl,rfl,rfl,rfl,rfl⟩) (fun cells C s₀ H₀ ex=>he _ (B cells C s₀ H₀ ex) ⟨rfl,rfl,rfl,rfl,rfl,rfl⟩)
  S.calm (by rw [S.hN];exact hx) (fun cells C s₀ H₀ ex=>(L cells C s₀ H₀ ex).1) (fun cells C s₀ H₀ ex=>(L cells C s₀ H₀ ex).2) hs
theorem Jj {elt:Expr} {gens:List Comprehension} {scope:Scope} {y:Str} {pos':Pos} {line:Nat} (hk:X.env.scope.kind=.function) (hy:X.env.scope.names.lookup y=some .local) (hl:(pos'.line==pos.line)=true)
  (hn:(scope.names.any fun (n,k)=>n==y&&(k==NameKind.local||k==NameKind.cell))=false):swapsWith (.ListComp elt gens scope pos) (some (.Name y pos')) line X.env=pure true:=by
 have e1:(X.env.blockKind==ScopeKind.function)=true:=by unfold Env.blockKind;rw [hk];rfl
 have e2:(X.env.kindOf y==some NameKind.local)=true:=by unfold Env.kindOf;rw [hy];rfl
 show (pure (X.env.blockKind==.function&&X.env.kindOf y==some .local&&pos'.line==pos.line&&!(scope.names.any fun (n,k)=>n==y&&(k==NameKind.local||k==NameKind.cell))):Sem Bool)=pure true
 rw [e1,e2,hl,hn];rfl
theorem kA {elt:Expr} {gens:List Comprehension} {scope:Scope} {y:Str} {pos':Pos} {line:Nat} (hy:X.env.scope.names.lookup y=some .cell\/X.env.scope.names.lookup y=some .free):swapsWith (.ListComp elt gens scope pos) (some (.Name y pos')) line X.env=pure false:=by
 have e2:(X.env.kindOf y==some NameKind.local)=false:=by
  unfold Env.kindOf;rcases hy with hy | hy<;>rw [hy]<;>rfl
 show (pure (X.env.blockKind==.function&&X.env.kindOf y==some .local&&pos'.line==pos.line&&!(scope.names.any fun (n,k)=>n==y&&(k==NameKind.local||k==NameKind.cell))):Sem Bool)=pure false
 rw [e2,Bool.and_false,Bool.false_and,Bool.false_and]
theorem cs_append (S:Cp X N gl vs cs ls lo gs) (i:Nat) {x:Str} {apos cpos:Pos} (hi:N[i]?=some x) (hv:vs.contains i=true) (ha:PE X a (tE X.K W fa)) (hs:starEach [a] X.env=[(false,eval a X.env)])
  (hbase:attributeBase (.Name x p) "append" X.env (eval (.Name x p) X.env)=eval (.Name x p) X.env) (hline:(apos.endLine==cpos.line)=true)
  (hfew:((backTo cpos (starEach [a] X.env)).all (fun x=>!x.1)&&(backToKw cpos (keywordEach [] X.env)).all (fun x=>x.1.isSome)
   && decide ([a].length+([]:List Keyword).length+(if ([]:List Keyword).isEmpty then 0 else 1)<30))=true)
  (hsw:swapsWith (.Call (.Attribute (.Name x p) "append" apos) [a] [] cpos) none pos.line X.env=pure false) :
  PS X (.Expr (.Call (.Attribute (.Name x p) "append" apos) [a] [] cpos) pos) (tS X.K W (eu i fa)):=
 rn i ha (by rw [S.hN];exact hi) (S.vis i x hi hv) (S.nm x (mem_of_getElem? hi)).1 (S.nm x (mem_of_getElem? hi)).2 hs hbase hline hfew hsw
end
def eU (g:MR->Option MR) (fa:F1):F1:=aS fa fun p Γ=>match g p.d with
 | some d=>.ok ⟨.leaf,d⟩ Γ
 | none=>.no
def bt:MR->Option MR
 | .int i=>some (.int (-i))
 | _=>none
def jY (fa fb:F1):F1:=aS fa fun p=>aS fb fun q=>fun Γ=>match p.s,p.d,q.d with
 | .lst .leaf,.list ds,.int k=>if cj k&&decide (ds.length*k.toNat<=sizeLine) then .ok ⟨.lst .leaf,.list (List.replicate k.toNat ds).flatten⟩ Γ else .no
 | _,_,_=>.no
def wA:Option (Option PV)->Bool
 | some (some ⟨.lst .leaf,.list _⟩)=>true
 | _=>false
def AR (i:Nat) (p q:PV) (Γ:Ev):eZ:=match Γ[i]? with
 | some (some ⟨.lst .leaf,.list ds⟩)=>(match q.d with
  | .int k=>(match dQ ds.length k with
   | some j=>if T.coer .leaf p then .nx (Γ.set i (some ⟨.lst .leaf,.list (ds.set j p.d)⟩)) else .no
   | none=>.no)
  | _=>.no)
 | _=>.no
def fj (i:Nat) (fv fk:F1):FS:=fun Γ=>if wA Γ[i]? then fP fv (fun p=>fP fk (AR i p)) Γ else .no
section
variable {K:Fg} {W:XW} {σ:St} {H:Hp} {Q:VK} {D:dz} {fa fb:F1} {fl:FL}
theorem Ej {r:V->Hp->VK->Prop} {g:MR->Option MR} (hg:∀x H Q a d,Rep K H x a->g a=some d->(∀v,Sc v d->Q v H)->r x H Q) (h:tE K W (eU g fa) σ H Q):La r (tE K W fa) σ H Q:=by
 refine C3 h fun He O Fs Γ1 p v H1 G Fs1 nd A h1=>?_
 cases e:g p.d with
 | none=>rw [e] at h1;exact h1.elim
 | some d=>
  rw [e] at h1;exact hg v H1 Q p.d d A.own.rep e fun u hu=>Wants.scal h1 hu A.same A.env.dropL (fun a ha=>ha) nd fun a ha=>A.new a (ME _ ha)
theorem lH {α β:Type} {xs:List α} {ys:List β} (hl:xs.length=ys.length):∀(k j:Nat) {x:α} {y:β},(List.replicate k xs).flatten[j]?=some x->(List.replicate k ys).flatten[j]?=some y->∃i:Nat,xs[i]?=some x/\ys[i]?=some y
 | 0,j,x,y,h,_=>by simp at h
 | k+1,j,x,y,h1,h2=>by
  rw [replicate_succ,flatten_cons] at h1 h2
  by_cases hj:j<xs.length
  ·rw [getElem?_append_left hj] at h1
   rw [getElem?_append_left (by omega)] at h2
   exact ⟨j,h1,h2⟩
  ·rw [getElem?_append_right (by omega)] at h1
   rw [getElem?_append_right (by omega),<-hl] at h2
   exact lH hl k (j-xs.length) h1 h2
theorem IV:∀{Fs:List (List Addr)},(∀F∈Fs,F=[])->Fs.flatten=[]
 | [],_=>rfl
 | F::r,h=>by rw [flatten_cons,h F mem_cons_self,IV fun G hG=>h G (MK _ hG)];rfl
theorem Own.leaves {O:List Addr} {G:List Addr} {v:V} {ds:List MR} (h:Own K O H (.lst .leaf) G v (.list ds)):∃l vs,v=.ref l/\G=[l]/\H l=some (.lst vs)/\vs.length=ds.length/\∀(j:Nat) u d,vs[j]?=some u->ds[j]?=some d->Rep K (bW H O) u d:=by
 cases h with
 | @lst _ l vs _ Fs hsv hp hl hf nd q=>
  have hF:∀F∈Fs,F=[]:=fun F hF=>by
   obtain ⟨j,hj,e⟩:=getElem_of_mem hF;have o:=q j (vs[j]'(by omega)) (ds[j]'(by omega)) F (MI _) (MI _) (by rw [MI hj,e])
   cases o;rfl
  refine ⟨l,vs,rfl,by rw [IV hF],hp,hl,fun j u d h1 h2=>?_⟩
  have hj:=(MM h2).1
  have o:=q j u d (Fs[j]'(by omega)) h1 h2 (MI _)
  generalize Fs[j]'(by omega)=F at o
  cases o with
  | leaf r=>exact r
theorem Own.mkLeaves {O:List Addr} {l:Addr} {vs:List V} {ds:List MR} (hp:H l=some (.lst vs)) (hl:vs.length=ds.length) (q:∀(j:Nat) u d,vs[j]?=some u->ds[j]?=some d->Rep K (bW H O) u d):Own K O H (.lst .leaf) [l] (.ref l) (.list ds):=by
 have hF:(List.replicate ds.length ([]:List Addr)).flatten=[]:=IV fun F hF=>(List.mem_replicate.mp hF).2
 have o:Own K O H (.lst .leaf) (l::(List.replicate ds.length ([]:List Addr)).flatten) (.ref l) (.list ds):=by
  refine .lst rfl hp hl (by simp) (by rw [hF];simp) fun j u d F h1 h2 h3=>?_
  have:F=[]:=(List.mem_replicate.mp (mem_of_getElem? h3)).2
  subst this;exact .leaf (q j u d h1 h2)
 rw [hF] at o;exact o
theorem A5 (h:tE K W (jY fa fb) σ H Q):sV Bj (tE K W fa) (tE K W fb) σ H Q:=by
 refine C4 (R:=fun v u H2=>Bj v u H2 Q) h fun He O Fs Γ2 p q v u H1 H2 G1 G2 Fs2 nd s1 s2 E new o1 o2 w=>?_
 obtain ⟨s,d⟩:=p;obtain ⟨s',d'⟩:=q;dsimp only at w o1 o2
 split at w
 ·rename_i ds k
  have hq:=o2.rep
  cases hq;obtain ⟨l,vs,rfl,rfl,hp,hl,hr⟩:=o1.leaves;by_cases hc:(cj k&&decide (ds.length*k.toNat<=sizeLine))=true
  ·rw [if_pos hc] at w
   simp only [Bool.and_eq_true,decide_eq_true_eq,cj] at hc
   refine ⟨l,k,vs,rfl,rfl,hp,by omega,by omega,by rw [hl];exact hc.2,fun p' hp'=>?_⟩
   have nd2:O.Nodup:=nd
   have E1:EnvOk K He O Fs2 H2 σ Γ2:=E.drop (fun a ha=>ME _ (ME _ ha)) nd
   have E2:=E1.hide (G:=[p']) (gB (o:=.lst (List.replicate k.toNat vs).flatten) hp') (by simp) (by simpa using hp') (fun a ha=>by rw [List.mem_singleton.mp ha,dO];exact Option.some_ne_none _)
   refine w (.ref p') _ [p'] Fs2 ⟨(s1.trans s2).trans (gB hp'),E2,fun a ha=>?_,?_⟩
   ·rcases MG ha with z | z
    ·rw [List.mem_singleton.mp z]
     exact .inr (s1.free (s2.free hp'))
    ·exact new a (ME _ (ME _ z))
   ·refine Own.mkLeaves dO (by rw [Ik,Ik,hl]) fun j x d h1 h2=>?_
    obtain ⟨i,e1,e2⟩:=lH hl _ j h1 h2;refine (hr i x d e1 e2).mono (sq (gB hp') fun a ha=>?_)
    rcases MG ha with z | z
    ·rcases MG z with z | z
     ·rw [List.mem_singleton.mp z];exact .inr hp'
     ·exact .inl (MF _ (ME _ (ME _ z)))
    ·exact .inl (ME _ z)
  ·rw [if_neg hc] at w;exact w.elim
 ·exact w.elim
theorem AD {k:PV->PV->Ev->eZ} {R:V->V->Hp->Prop} (h:tS K W (fP fa fun p=>fP fb (k p)) D σ H)
  (hk:∀He O Γ2 p q v u H1 H2 G1 G2 Fs2,O.Nodup->Same H H1->Same H1 H2->EnvOk K He (G2++(G1++O)) Fs2 H2 σ Γ2->(∀a∈G2++G1,He a=none) ->
   Own K (G2++(G1++O)++Fs2.flatten) H2 p.s G1 v p.d->Own K (G2++(G1++O)++Fs2.flatten) H2 q.s G2 u q.d->mz K W He O D (k p q Γ2)->R v u H2) :
  tE K W fa σ H fun v H1=>tE K W fb σ H1 fun u H2=>R v u H2:=by
 refine gF h fun He O Fs Γ1 p v H1 G1 Fs1 _ fr A1 h1=>?_
 refine ⟨He,G1++O,Fs1,Γ1,A1.env,?_⟩
 unfold fP at h1;have nd:O.Nodup:=(ML A1.env.ndO).2.1
 cases e:fb Γ1 with
 | ok q Γ2=>
  rw [e] at h1;intro u H2 G2 Fs2 A2;refine hk He O Γ2 p q v u H1 H2 G1 G2 Fs2 nd A1.same A2.same A2.env (fun a ha=>?_) (A1.own.mono A2.same fun a ha=>?_) A2.own h1
  ·rcases MG ha with z | z
   ·exact A2.freshG A1.env a z
   ·exact fr a z
  ·rcases MG ha with z | z
   ·rcases MG z with z | z
    ·rcases A2.new a (MF _ z) with y | y
     ·exact .inl (ME _ y)
     ·exact .inr y
    ·exact .inl (MF _ z)
   ·rcases A2.new a (ME _ z) with y | y
    ·exact .inl (ME _ y)
    ·exact .inr y
 | er c Γ2=>
  rw [e] at h1;intro H2 Fs2 hs E2;exact h1 σ H2 Fs2 E2.dropL
 | no=>
  rw [e] at h1;exact h1
theorem DI {Q':VK} (h:tE K W fa σ H Q) (hq:∀v H',Q v H'->Q' v H'):tE K W fa σ H Q':=by
 obtain ⟨He,O,Fs,Γ,E,h⟩:=h;refine ⟨He,O,Fs,Γ,E,?_⟩
 cases e:fa Γ with
 | ok p Γ'=>rw [e] at h;exact fun v H' G Fs' A=>hq v H' (h v H' G Fs' A)
 | er c Γ'=>rw [e] at h;exact h
 | no=>rw [e] at h;exact h
theorem EnvOk.chg {He:Hp} {O:List Addr} {Fs:List (List Addr)} {Γ:Ev} {i:Nat} {ds:List MR} (E:EnvOk K He O Fs H σ Γ) (h:Γ[i]?=some (some ⟨.lst .leaf,.list ds⟩)) :
  ∃l vs,σ[i]?=some (some (.ref l))/\H l=some (.lst vs)/\vs.length=ds.length/\(∀(j:Nat) u d,vs[j]?=some u->ds[j]?=some d->Rep K (bW H (O++Fs.flatten)) u d) /\
   ∀(vs':List V) (ds':List MR),vs'.length=ds'.length->(∀(j:Nat) u d,vs'[j]?=some u->ds'[j]?=some d->Rep K (bW H (O++Fs.flatten)) u d)->∃Fs',EnvOk K He O Fs' (bF H l (.lst vs')) σ (Γ.set i (some ⟨.lst .leaf,.list ds'⟩)):=by
 obtain ⟨hv,v,F,h1,E1,o1,sub⟩:=E.move h;have hi:i<Γ.length:=(MM h).1
 obtain ⟨_,v0,F0,h10,h20,o0⟩:=E.slot i _ h;obtain ⟨l,vs,rfl,rfl,hp,hl,hr⟩:=o1.leaves;obtain ⟨l',vs',e0,e1,hp',hl',hr'⟩:=o0.leaves;rw [h1] at h10
 cases h10
 cases e0;rw [hp] at hp'
 cases hp'
 refine ⟨l,vs,h1,hp,hl,hr',fun ws ds' hw q=>?_⟩
 have hlF:l∈Fs.flatten:=sub l (MF _ (List.mem_singleton.mpr rfl))
 have hHe:He l=none:=E.fresh l hlF
 have E4:=E1.mutO (o:=.lst ws) (MF _ (List.mem_singleton.mpr rfl)) hp hHe
 have ownL:Own K ([l]++O++(Fs.set i []).flatten) (bF H l (.lst ws)) (.lst .leaf) [l] (.ref l) (.list ds'):=by
  refine Own.mkLeaves dO hw fun j u d a1 a2=>?_
  rw [Ig (MF _ (MF _ (List.mem_singleton.mpr rfl)))];refine (q j u d a1 a2).mono (sq (Same.refl _) fun a ha=>.inl ?_)
  rcases MG ha with z | z
  ·rcases MG z with z | z
   ·rw [List.mem_singleton.mp z];exact ME _ hlF
   ·exact MF _ z
  ·exact ME _ (sub a (ME _ z))
 have fin:=EnvOk.put (i:=i) (p:=⟨.lst .leaf,.list ds'⟩) (v:=.ref l) E4 ownL rfl (fun a ha=>by rw [List.mem_singleton.mp ha];exact hHe) (by rw [length_set];exact hi)
 rw [set_set,set_set,De h1] at fin;exact ⟨_,fin⟩
theorem gT {o:Option (Option PV)} (h:wA o=true):∃ds,o=some (some ⟨.lst .leaf,.list ds⟩):=by
 unfold wA at h;split at h
 ·exact ⟨_,rfl⟩
 ·cases h
theorem xa {i:Nat} (h:tS K W (fj i fa fb) D σ H):fg (tE K W fa) (L2.gSub (bg i) (tE K W fb) ud) D σ H:=by
 obtain ⟨He,O,Fs,Γ,E,h⟩:=h;unfold fj at h
 cases ho:wA Γ[i]? with
 | false=>rw [ho] at h;exact h.elim
 | true=>
  rw [ho] at h;obtain ⟨ds,e0⟩:=gT ho;obtain ⟨l,vs,h1,h2,h3,_,_⟩:=E.chg e0;refine DI (AD (D:=D) (R:=fun v u H2=>ud (.ref l) u v H2 fun H3=>D.nx σ H3) ⟨He,O,Fs,Γ,E,h⟩ fun He O Γ2 p q v u H1 H2 G1 G2 Fs2 nd s1 s2 E2 fr o1 o2 w=>?_) fun v H' q=>⟨.ref l,h1,q⟩
  unfold AR at w;split at w
  ·rename_i ds1 e1
   split at w
   ·rename_i k ek
    split at w
    ·rename_i j ej
     cases hc:T.coer .leaf p with
     | false=>rw [hc] at w;exact w.elim
     | true=>
      rw [hc] at w;have E3:EnvOk K He O Fs2 H2 σ Γ2:=E2.drop (fun a ha=>ME _ (ME _ ha)) nd
      obtain ⟨l1,vs1,q1,q2,q3,q4,q5⟩:=E3.chg e1;rw [h1] at q1
      cases q1;have hu:=o2.rep
      rw [ek] at hu
      cases hu;have ov:Own K (O++Fs2.flatten) H2 .leaf [] v p.d:=by
       refine o1.coer (s:=.leaf) hc (fun a ha=>?_) fun a ha z=>?_
       ·rcases MG ha with z | z
        ·exact MF _ (ME _ (ME _ z))
        ·exact ME _ z
       ·exfalso
        have ndE:=E2.nd
        rw [append_assoc] at ndE;have n2:=(ML ndE).2.1
        rw [append_assoc] at n2;exact (ML n2).2.2 a ha a z rfl
      cases ov with
      | leaf rv=>
       have ixl:dQ vs1.length k=some j:=by rw [q3];exact ej
       obtain ⟨Fs',E4⟩:=q5 (vs1.set j v) (ds1.set j p.d) (by rw [length_set,length_set,q3]) fun m x d a1 a2=>by
        by_cases hm:m=j
        ·subst hm
         rw [List.getElem?_set] at a1 a2
         rw [if_pos rfl] at a1 a2
         split at a1
         ·split at a2
          ·cases a1;cases a2;exact rv
          ·cases a2
         ·cases a1
        ·rw [getElem?_set_ne (Ne.symm hm)] at a1 a2
         exact q4 m x d a1 a2
       exact ⟨l,vs1,k,j,rfl,rfl,q2,ixl,w σ _ Fs' E4⟩
    ·exact w.elim
   ·exact w.elim
  ·exact w.elim
end
section
variable {X:Cx}
theorem sP:LN X (unaryOp .USub) (fun x H Q=>∃i,x=.int i/\Q (.int (-i)) H):=by
 intro pins s σ H x v Q I rx h;obtain ⟨i,rfl,q⟩:=h;obtain ⟨t,rfl⟩:=rx;exact neg_int ⟨.int (-i),H,I.tok _,⟨_,rfl⟩,q⟩
end
section
variable {X:Cx}
variable {N gl:List Str} {vs cs ls lo gs:List Nat} {W:XW} {a b c e:Expr} {es:List Expr} {pos p:Pos} {fa fb fc:F1} {fl:FL} {g:FS}
theorem cs_setI (S:Cp X N gl vs cs ls lo gs) (i:Nat) {x:Str} {px pos':Pos} (hi:N[i]?=some x) (hv:vs.contains i=true) (ha:PE X a (tE X.K W fa)) (hb:PE X b (tE X.K W fb))
  (hs:swapsWithSole [.Subscript (.Name x px) b pos'] a pos.line X.env=pure false) (hw:swappedStores [.Subscript (.Name x px) b pos'] a X.env=pure none)
  (h1:(assignEach [.Subscript (.Name x px) b pos'] X.env).map (·.2)=[assign (.Subscript (.Name x px) b pos') X.env])
  (has:∀v,assign (.Subscript (.Name x px) b pos') X.env v=(do
   let ov <-holding [v] (eval (.Name x px) X.env)
   let iv <-holding [v,ov] (eval b X.env)
   standAt pos'
   holding [v,ov,iv] (setItem ov iv v)
   release [v,ov,iv] [])):PS X (.Assign [.Subscript (.Name x px) b pos'] a pos) (tS X.K W (fj i fa fb)):=by
 have m:=S.nm x (mem_of_getElem? hi)
 exact cN (ur ha (Bv (nY (by rw [S.hN];exact hi) (S.vis i x hi hv) m.1 m.2) hb tx has) hs hw h1) fun _ _ _=>xa
end
def vX:Expr->Bool
 | .Starred ..=>true
 | _=>false
theorem dh {e:Expr} {es:List Expr} {env:Env} (h:vX e=false):starEach (e::es) env=(false,eval e env)::starEach es env:=by
 cases e<;>first | rfl | cases h
theorem e8 {a:Expr} {env:Env} (h:vX a=false):starEach [a] env=[(false,eval a env)]:=dh h
theorem kB {a b:Expr} {env:Env} (h:vX a=false) (h2:vX b=false):starEach [a,b] env=[(false,eval a env),(false,eval b env)]:=by rw [dh h,e8 h2]
def DefOk (P:Program) (w:World) (K:Fg) (mg:Str->Option Value) (base:Heap) (j:Nat) (x:Str) (n:Nat) (den:List MR->Res):Prop:=
 ∃(f:Addr) (fd:FuncData) (ps:List Str),dg P w K mg base ic j f fd ps (qc K n den)/\mg x=some (.ref f)/\PySem.W.keepIn K (.ref f)=true/\Binds K fd ps []
def nW (K:Fg) (mg:Str->Option Value) (x:Str) (d:MR):Prop:=∃u v,mg x=some u/\RelV v u/\∀H,Rep K H v d
theorem DefOk.cal {X:Cx} {j k n:Nat} {x:Str} {den:List MR->Res} (h:DefOk X.prog X.w X.K X.mg X.base j x n den) (hr:Room k X.A) (hj:decide (j<=k)=true):wm X x n den:=by
 obtain ⟨f,fd,ps,F,a,b,c⟩:=h;exact ⟨j,f,fd,ps,F,hr.mono (of_decide_eq_true hj),a,b,c⟩
def Jz:MR->V
 | .none=>.non
 | .bool b=>.bl b
 | .int i=>.int i
 | .str x=>.str x
 | _=>.non
def rO:List Value->List MR->Bool
 | .int i _::r,.int j::ds=>decide (i=j)&&rO r ds
 | .str x _::r,.str y::ds=>decide (x=y)&&rO r ds
 | [],[]=>true
 | _,_=>false
theorem Ib:∀{us:List Value} {ds:List MR},rO us ds=true->Vals (ds.map Jz) us/\∀d∈ds,Sc (Jz d) d
 | [],[],_=>⟨.nil,fun d hd=>(nomatch hd)⟩
 | .int i t::r,.int j::ds,h=>by
  simp only [rO,Bool.and_eq_true,decide_eq_true_eq] at h
  obtain ⟨rfl,h⟩:=h;obtain ⟨a,b⟩:=Ib h;refine ⟨.cons ⟨t,rfl⟩ a,fun d hd=>?_⟩
  rcases MH hd with z | z
  ·rw [z];exact .int i
  ·exact b d z
 | .str i t::r,.str j::ds,h=>by
  simp only [rO,Bool.and_eq_true,decide_eq_true_eq] at h
  obtain ⟨rfl,h⟩:=h;obtain ⟨a,b⟩:=Ib h;refine ⟨.cons ⟨t,rfl⟩ a,fun d hd=>?_⟩
  rcases MH hd with z | z
  ·rw [z];exact .str i
  ·exact b d z
def CL (its:Array Value) (ds:List MR):Bool:=decide (its.size<=sizeLine)&&rO its.toList ds
theorem yA {K:Fg} {mg:Str->Option Value} {x:Str} {a:Addr} {dd:Option Addr} {its:Array Value} {n:Nat} {sl:Array (Option Value)} {ds:List MR} (hm:mg x=some (.ref a)) (l:K.lookup a=some ⟨.type "tuple",dd,.seq its n,sl⟩) (h:CL its ds=true):nW K mg x (.tuple ds):=by
 unfold CL at h;simp only [Bool.and_eq_true,decide_eq_true_eq] at h
 obtain ⟨v,s⟩:=Ib h.2;refine ⟨.ref a,.ref a,hm,rfl,fun H=>.tup (vs:=ds.map Jz) (.inr ⟨_,its,n,l,rfl,rfl,h.1,v⟩) (by simp) fun i v d h1 h2=>?_⟩
 rw [getElem?_map,h2] at h1
 cases h1;exact (s d (mem_of_getElem? h2)).rep
theorem yB {K:Fg} {mg:Str->Option Value} {x:Str} {i:Int} {t:Tok} (hm:mg x=some (.int i t)):nW K mg x (.int i):=⟨.int i t,.int i,hm,⟨t,rfl⟩,fun H=>.int i⟩
theorem BS {K:Fg} {m:List MR->Res} {H:Hp} {a:Addr} {ns:List Int} {E:XK} (h:m [.list (ns.map .int)]=.ok ⟨.leaf,.bool true⟩) (hS:SqL K H a (ns.map V.int)):qc K 1 m [.ref a] H (fun v _=>v=.bl true) E:=by
 refine ⟨rfl,[],[.list (ns.map .int)],nodup_nil,(fun _ z=>nomatch z),⟨rfl,fun i v d h1 h2=>?_⟩,?_⟩
 ·rw [DE]
  match i,h1,h2 with
  | 0,h1,h2=>
   cases h1
   cases h2;refine .lst hS (by simp) fun i v d h1 h2=>?_
   rw [getElem?_map] at h1 h2
   cases e:ns[i]? with
   | none=>rw [e] at h1;cases h1
   | some z=>
    rw [e] at h1 h2
    cases h1
    cases h2;exact .int z
  | i+1,h1,h2=>simp at h1
 ·rw [h]
  intro v H' G r
  have o:=r.own.rep
  cases o;rfl
end T
namespace TQ
open PySem PySem.Spec L2 T
open PyProof.Rows hiding St
structure Q (p:Prop):Prop where
 p:p
section
variable {X:Cx} {N gl:List Str} {vs cs ls lo gs:List Nat} {W:XW} {a b c e:Expr} {es:List Expr} {pos p:Pos} {fa fb fc:F1} {fl:FL} {ga gb:FB} {g1 g2 g:FS}
theorem w_cv (S:Cp X N gl vs cs ls lo gs) (i:Nat) {x:Str} (hN:N[i]?=some x) (hv:vs.contains i=true):Q (PE X (.Name x pos) (tE X.K W (af i))):=⟨T.cv S i hN hv⟩
theorem mK (S:Cp X N gl vs cs ls lo gs) (i:Nat) {x:Str} (hN:N[i]?=some x) (hv:vs.contains i=true):Q (PE X (.Name x pos) (tE X.K W (ck i))):=⟨T.cm S i hN hv⟩
theorem Au (S:Cp X N gl vs cs ls lo gs) (j:Nat) {x:Str} {d:MR} (hj:gl[j]?=some x) (hg:gs.contains j=true) (h:Con X x d):Q (PE X (.Name x pos) (tE X.K W (eK d))):=⟨by
 obtain ⟨u,v,h1,h2,h3⟩:=h;have q:=S.g hj hg
 exact yu q.1 h1 h2 h3 q.2.1⟩
theorem w_de_int {j:Int} {k pos}:Q (PE X (.Constant (.int j) k pos) (tE X.K W (eK (.int j)))):=⟨aP HS fun _ _ _=>tW fun _=>.int j⟩
theorem yX {j:Bool} {k pos}:Q (PE X (.Constant (.bool j) k pos) (tE X.K W (eK (.bool j)))):=⟨aP kU fun _ _ _=>tW fun _=>.bl j⟩
theorem wC {k pos}:Q (PE X (.Constant .none k pos) (tE X.K W (eK .none))):=⟨aP Bw fun _ _ _=>tW fun _=>.non⟩
theorem dC {j:Str} {k pos}:Q (PE X (.Constant (.str j) k pos) (tE X.K W (eK (.str j)))):=⟨T.de_str ⟩
theorem iW (ha:Q (PE X a (tE X.K W fa))) (hb:Q (PE X b (tE X.K W fb))):Q (PE X (.BinOp a .Add b pos) (tE X.K W (aD aJ fa fb))):=⟨have ha:=ha.p;have hb:=hb.p;aP (fm BL ha hb) fun _ _ _=>fQ (C6 fun _ _=>.int _)⟩
theorem zZ (ha:Q (PE X a (tE X.K W fa))) (hb:Q (PE X b (tE X.K W fb))):Q (PE X (.BinOp a .Sub b pos) (tE X.K W (aD gSub fa fb))):=⟨have ha:=ha.p;have hb:=hb.p;aP (fm BC ha hb) fun _ _ _=>fQ (C6 fun _ _=>.int _)⟩
theorem DP (ha:Q (PE X a (tE X.K W fa))) (hb:Q (PE X b (tE X.K W fb))):Q (PE X (.BinOp a .Mult b pos) (tE X.K W (aD lF fa fb))):=⟨have ha:=ha.p;have hb:=hb.p;aP (fm BG ha hb) fun _ _ _=>fQ (pq (fun i j h=>by
 simp only [rS,Bool.or_eq_true,Bool.and_eq_true,decide_eq_true_eq] at h
 exact h) fun _ _=>.int _)⟩
theorem kn (ha:Q (PE X a (tE X.K W fa))) (hb:Q (PE X b (tE X.K W fb))):Q (PE X (.BinOp a .FloorDiv b pos) (tE X.K W (aD qY fa fb))):=⟨have ha:=ha.p;have hb:=hb.p;aP (fm xI ha hb) fun _ _ _=>fQ (pq (fun i j h=>by
 simp only [yG,Bool.and_eq_true,decide_eq_true_eq] at h
 exact h) fun _ _=>.int _)⟩
theorem pP (ha:Q (PE X a (tE X.K W fa))) (hb:Q (PE X b (tE X.K W fb))):Q (PE X (.BinOp a .Mod b pos) (tE X.K W (aD cK fa fb))):=⟨have ha:=ha.p;have hb:=hb.p;aP (fm BH ha hb) fun _ _ _=>fQ (pq (fun i j h=>by
 simp only [yF,decide_eq_true_eq] at h
 exact h) fun _ _=>.int _)⟩
theorem Jg (ha:Q (PE X a (tE X.K W fa))) (hb:Q (PE X b (tE X.K W fb))):Q (PE X (.BinOp a .Pow b pos) (tE X.K W (aD lE fa fb))):=⟨have ha:=ha.p;have hb:=hb.p;aP (fm BE ha hb) fun _ _ _=>fQ (pq (fun i j h=>by
 simp only [yE,Bool.and_eq_true,decide_eq_true_eq] at h
 exact ⟨h.1.1,h.1.2,h.2⟩) fun _ _=>.int _)⟩
theorem kq (ha:Q (PE X a (tE X.K W fa))) (hb:Q (PE X b (tE X.K W fb))):Q (PE X (.BinOp a .Mult b pos) (tE X.K W (jY fa fb))):=⟨have ha:=ha.p;have hb:=hb.p;aP (fm BD ha hb) fun _ _ _=>A5⟩
theorem kj (ha:Q (PE X a (tE X.K W fa))):Q (PE X (.UnaryOp .USub a pos) (tE X.K W (eU bt fa))):=⟨have ha:=ha.p;aP (zu sP ha) fun _ _ _=>Ej fun x H Q a d r e k=>by
 cases r<;>simp only [bt] at e<;>cases e
 exact ⟨_,rfl,k _ (.int _)⟩⟩
theorem Jv {op:CmpOp} {r:R2} {g:MR->MR->Option MR} (k:Ck X op r g) (ha:Q (PE X a (tE X.K W fa))) (hb:Q (PE X b (tE X.K W fb))) (hm:behindInMarks op b=false):Q (PE X (.Compare a [op] [b] pos) (tE X.K W (aD g fa fb))):=⟨have ha:=ha.p;have hb:=hb.p;CJ k.o k.g ha hb hm⟩
theorem zc {op op':CmpOp} {r r':R2} {g g':MR->MR->Option MR} (k:Ck X op r g) (k':Ck X op' r' g') (ha:Q (PE X a (tE X.K W fa))) (hb:Q (PE X b (tE X.K W fb))) (hc:Q (PE X c (tE X.K W fc))) (hm:lastMarks [op,op'] [b,c]=false):Q (PE X (.Compare a [op,op'] [b,c] pos) (tE X.K W (mE g g' fa fb fc))):=⟨have ha:=ha.p;have hb:=hb.p;have hc:=hc.p;vB k.o k.g k'.o k'.g ha hb hc hm⟩
theorem Aa {op} (h:Q (PE X a (tE X.K W fa))):Q (PE X (.BoolOp op [a] pos) (tE X.K W fa)):=⟨L2.pe_one h.p⟩
theorem yW (ha:Q (PE X a (tE X.K W fa))) (hb:Q (PE X (.BoolOp .And (b::es) pos) (tE X.K W fb))):Q (PE X (.BoolOp .And (a::b::es) pos) (tE X.K W (eh fa fb))):=⟨have ha:=ha.p;have hb:=hb.p;aP (By ha hb) fun _ _ _=>Bh⟩
theorem wJ (hc:Q (PT X c (tT X.K W ga))) (ha:Q (PE X a (tE X.K W fa))) (hb:Q (PE X b (tE X.K W fb))):Q (PE X (.IfExp c a b pos) (tE X.K W (Fo ga fa fb))):=⟨have hc:=hc.p;have ha:=ha.p;have hb:=hb.p;aP (uC hc ha hb) fun _ _ _=>Em⟩
theorem w_de_idx (ha:Q (PE X a (tE X.K W fa))) (hb:Q (PE X b (tE X.K W fb))) (hs:GI b):Q (PE X (.Subscript a b pos) (tE X.K W (aj fa fb))):=⟨have ha:=ha.p;have hb:=hb.p;aP (o4 Gp ha hb hs) fun _ _ _=>Ba⟩
theorem bZ (s:Sh) (h:Q (PA X es (tA X.K W fl))):Q (PE X (.List es pos) (tE X.K W (av s fl))):=⟨have h:=h.p;aP (HU h) fun _ _ _=>oM⟩
theorem km {x1} (h:Q (PA X es (tA X.K W fl))):Q (PE X (.Tuple es x1 pos) (tE X.K W (bT fl))):=⟨have h:=h.p;aP (uA h) fun _ _ _=>AY⟩
theorem iZ :Q (PA X [] (tA X.K W ag)):=⟨T.da_nil ⟩
theorem i5 (ha:Q (PE X e (tE X.K W fa))) (hr:Q (PA X es (tA X.K W fl))) (hs:starEach (e::es) X.env=(false,eval e X.env)::starEach es X.env):Q (PA X (e::es) (tA X.K W (ae fa fl))):=⟨T.da_cons ha.p hr.p hs⟩
theorem Ju {scope:Scope} {x:Str} {px:Pos} {iter elt:Expr} {ifs:List Expr} {fi:FI} {fe:F1} {fc:FB} {vs' cs' lo' gs':List Nat} (S:Cp X N gl vs cs ls lo gs) (s:Sh) (i:Nat) (hx:N[i]?=some x) (h1:hX N i cs scope=true) (h2:jt N gl vs' cs' [i] lo' gs' scope=true) (hi':Q (PI X (.Name x px) iter (tI X.K W fi))) (hc:wo X N gl vs' cs' [i] lo' gs' fun Y=>Q (PF Y ifs (tT Y.K W0 fc))) (he:wo X N gl vs' cs' [i] lo' gs' fun Y=>Q (PE Y elt (tE Y.K W0 fe))) (hs:∀x,foldedSetIterable iter X.env x=pure x):Q (PE X (.ListComp elt [⟨.Name x px,iter,ifs,0⟩] scope pos) (tE X.K W (aB s i fi fc fe))):=⟨T.co S s i hx h1 h2 hi'.p (fun Y S F=>(hc Y S F).p) (fun Y S F=>(he Y S F).p) hs⟩
theorem DQ {scope:Scope} {x y:Str} {px pos' spos:Pos} {iter elt:Expr} {ifs:List Expr} {fi:FI} {fe:F1} {fc:FB} {vs' cs' lo' gs':List Nat} (S:Cp X N gl vs cs ls lo gs) (own:Bool) (j:Nat) (s:Sh) (i:Nat) (hy:N[j]?=some y) (hyl:lo.contains j=true) (hx:N[i]?=some x) (hsl:(pos'.line==pos.line)=true) (hsn:(scope.names.any fun (n,k)=>n==y&&(k==NameKind.local||k==NameKind.cell))=false) (h1:hX N i cs scope=true) (h2:jt N gl vs' cs' [i] lo' gs' scope=true) (hi':Q (PI X (.Name x px) iter (tI X.K W fi))) (hc:wo X N gl vs' cs' [i] lo' gs' fun Y=>Q (PF Y ifs (tT Y.K W0 fc))) (he:wo X N gl vs' cs' [i] lo' gs' fun Y=>Q (PE Y elt (tE Y.K W0 fe))) (hs:∀x,foldedSetIterable iter X.env x=pure x):Q (PS X (.Assign [.Name y pos'] (.ListComp elt [⟨.Name x px,iter,ifs,0⟩] scope pos) spos) (tS X.K W (az own j (aB s i fi fc fe)))):=⟨by
 have hi':=hi'.p
 have hc:=fun Y S F=>(hc Y S F).p
 have he:=fun Y S F=>(he Y S F).p
 have B:=fun cells C s₀ H₀ ex=>S.blk h2 cells C s₀ H₀ ex
 have L:=fun cells C s₀ H₀ ex=>(B cells C s₀ H₀ ex).loc i x hx (by simp)
 exact nC (X:=X) own j s i (IC S h1) (by rw [S.hN];exact S.nd) hi' (fun cells C s₀ H₀ ex=>hc _ (B cells C s₀ H₀ ex) ⟨rfl,rfl,rfl,rfl,rfl,rfl⟩) (fun cells C s₀ H₀ ex=>he _ (B cells C s₀ H₀ ex) ⟨rfl,rfl,rfl,rfl,rfl,rfl⟩)
  (Jj S.kind (S.loo j y hy hyl) hsl hsn) (by rw [S.hN];exact hy) (S.loo j y hy hyl) S.calm (by rw [S.hN];exact hx) (fun cells C s₀ H₀ ex=>(L cells C s₀ H₀ ex).1) (fun cells C s₀ H₀ ex=>(L cells C s₀ H₀ ex).2) hs⟩
theorem sN (S:Cp X N gl vs cs ls lo gs) (j:Nat) (hj:gl[j]?=some ("len":Str)) (hg:gs.contains j=true) (hm:X.mg "len"=none) (ha:Q (PA X (e::es) (tA X.K W fl))) (he:starEach (e::es) X.env=(false,eval e X.env)::starEach es X.env) (hpl:(backTo pos (starEach es X.env)).any (·.1)=false):Q (PE X (.Call (.Name "len" p) (e::es) [] pos) (tE X.K W (bG br fl))):=⟨have ha:=ha.p;vC (call_len_seq.or j8) Ci zK hm ha (S.g hj hg).1 (S.g hj hg).2.2 (S.g hj hg).2.1 he hpl⟩
theorem sv (S:Cp X N gl vs cs ls lo gs) (j:Nat) (hj:gl[j]?=some ("all":Str)) (hg:gs.contains j=true) (hm:X.mg "all"=none) (ha:Q (PA X (e::es) (tA X.K W fl))) (he:starEach (e::es) X.env=(false,eval e X.env)::starEach es X.env) (hpl:(backTo pos (starEach es X.env)).any (·.1)=false):Q (PE X (.Call (.Name "all" p) (e::es) [] pos) (tE X.K W (bG (cQ false) fl))):=⟨have ha:=ha.p;vC (rR S.calm) vi FP hm ha (S.g hj hg).1 (S.g hj hg).2.2 (S.g hj hg).2.1 he hpl⟩
theorem kr (S:Cp X N gl vs cs ls lo gs) (j:Nat) (hj:gl[j]?=some ("any":Str)) (hg:gs.contains j=true) (hm:X.mg "any"=none) (ha:Q (PA X (e::es) (tA X.K W fl))) (he:starEach (e::es) X.env=(false,eval e X.env)::starEach es X.env) (hpl:(backTo pos (starEach es X.env)).any (·.1)=false):Q (PE X (.Call (.Name "any" p) (e::es) [] pos) (tE X.K W (bG (cQ true) fl))):=⟨have ha:=ha.p;vC (rQ S.calm) vi FO hm ha (S.g hj hg).1 (S.g hj hg).2.2 (S.g hj hg).2.1 he hpl⟩
theorem Jf (S:Cp X N gl vs cs ls lo gs) (j:Nat) (hj:gl[j]?=some ("int":Str)) (hg:gs.contains j=true) (hm:X.mg "int"=none) (ha:Q (PA X (e::es) (tA X.K W fl))) (he:starEach (e::es) X.env=(false,eval e X.env)::starEach es X.env) (hpl:(backTo pos (starEach es X.env)).any (·.1)=false):Q (PE X (.Call (.Name "int" p) (e::es) [] pos) (tE X.K W (bG fH fl))):=⟨have ha:=ha.p;Fz rP Cj FN hm ha (S.g hj hg).1 (S.g hj hg).2.2 (S.g hj hg).2.1 he hpl⟩
theorem w_cb_list (S:Cp X N gl vs cs ls lo gs) (j:Nat) (hj:gl[j]?=some ("list":Str)) (hg:gs.contains j=true) (hm:X.mg "list"=none) (ha:Q (PE X e (tE X.K W fa))) (hs:starEach [e] X.env=[(false,eval e X.env)]):Q (PE X (.Call (.Name "list" p) [e] [] pos) (tE X.K W (vZ fa))):=⟨have ha:=ha.p;rD hm ha (S.g hj hg).1 hs⟩
theorem Jw {x:Str} {n:Nat} {den:List MR->Res} (S:Cp X N gl vs cs ls lo gs) (j:Nat) (hj:gl[j]?=some x) (hg:gs.contains j=true) (C:wm X x n den) (ha:Q (PA X (e::es) (tA X.K W fl))) (he:starEach (e::es) X.env=(false,eval e X.env)::starEach es X.env) (hpl:(backTo pos (starEach es X.env)).any (·.1)=false):Q (PE X (.Call (.Name x p) (e::es) [] pos) (tE X.K W (ao n den fl))):=⟨T.cc S j hj hg C ha.p he hpl⟩
theorem fM {tg:Expr} (S:Cp X N gl vs cs ls lo gs) (j:Nat) (hj:gl[j]?=some ("range":Str)) (hg:gs.contains j=true) (hm:X.mg "range"=none) (ha:Q (PA X [a] (tA X.K W fl))) (hs:starEach [a] X.env=[(false,eval a X.env)]):Q (PI X tg (.Call (.Name "range" p) [a] [] pos) (tI X.K W (fw fl))):=⟨have ha:=ha.p;Fy hm ha (S.g hj hg).1 hs⟩
theorem zb {tg:Expr} (S:Cp X N gl vs cs ls lo gs) (j:Nat) (hj:gl[j]?=some ("range":Str)) (hg:gs.contains j=true) (hm:X.mg "range"=none) (ha:Q (PA X [a,b] (tA X.K W fl))) (hs:starEach [a,b] X.env=[(false,eval a X.env),(false,eval b X.env)]) (hs2:starEach [b] X.env=[(false,eval b X.env)]):Q (PI X tg (.Call (.Name "range" p) [a,b] [] pos) (tI X.K W (xZ fl))):=⟨have ha:=ha.p;Fw hm ha (S.g hj hg).1 hs hs2⟩
theorem w_di_seq {tg:Expr} (ha:Q (PE X a (tE X.K W fa))):Q (PI X tg a (tI X.K W (aR fa))):=⟨have ha:=ha.p;pL (Gy ha) fun _ _ _=>xj⟩
theorem Jt {op:CmpOp} {r:R2} {g:MR->MR->Option MR} (k:Ck X op r g) (ha:Q (PE X a (tE X.K W fa))) (hb:Q (PE X b (tE X.K W fb))) (hm:behindInMarks op b=false):Q (PT X (.Compare a [op] [b] pos) (tT X.K W (aO aA (aD g fa fb)))):=⟨T.ct k ha.p hb.p hm⟩
theorem za {op op':CmpOp} {r r':R2} {g g':MR->MR->Option MR} (k:Ck X op r g) (k':Ck X op' r' g') (ha:Q (PE X a (tE X.K W fa))) (hb:Q (PE X b (tE X.K W fb))) (hc:Q (PE X c (tE X.K W fc))) (hm:lastMarks [op,op'] [b,c]=false):Q (PT X (.Compare a [op,op'] [b,c] pos) (tT X.K W (aO aA (mE g g' fa fb fc)))):=⟨have ha:=ha.p;have hb:=hb.p;have hc:=hc.p;vt k.o k.g k'.o k'.g ha hb hc hm⟩
theorem oh (ha:Q (PT X a (tT X.K W ga))):Q (PT X (.UnaryOp .Not a pos) (tT X.K W (bU ga))):=⟨have ha:=ha.p;jC (uj ha) fun _ _ _=>oO⟩
theorem pR (ha:Q (PT X a (tT X.K W ga))):Q (PW X (.BoolOp .And [a] pos) (tT X.K W ga)):=⟨have ha:=ha.p;xr ha⟩
theorem GV (ha:Q (PT X a (tT X.K W ga))):Q (PW X (.BoolOp .Or [a] pos) (tT X.K W ga)):=⟨have ha:=ha.p;uh ha⟩
theorem sI (ha:Q (PT X a (tT X.K W ga))) (hb:Q (PW X (.BoolOp .And (b::es) pos) (tT X.K W gb))):Q (PW X (.BoolOp .And (a::b::es) pos) (tT X.K W (vK ga gb))):=⟨have ha:=ha.p;have hb:=hb.p;vU (Br ha hb) fun _ _ _=>xm⟩
theorem zW (ha:Q (PT X a (tT X.K W ga))) (hb:Q (PW X (.BoolOp .Or (b::es) pos) (tT X.K W gb))):Q (PW X (.BoolOp .Or (a::b::es) pos) (tT X.K W (ke ga gb))):=⟨have ha:=ha.p;have hb:=hb.p;vU (zt ha hb) fun _ _ _=>t8⟩
theorem DJ (h:Q (PW X a (tT X.K W ga))):Q (PT X a (tT X.K W ga)):=⟨L2.PW.pt h.p⟩
theorem gC (ha:Q (PE X a (tE X.K W fa))) (he:∀whole,isTrue a X.env whole=(do let v <-whole;standAt a.pos;holding [v] (truthy v))):Q (PT X a (tT X.K W (aO ba fa))):=⟨have ha:=ha.p;jC (II ha he) fun _ _ _=>tP⟩
theorem eX :Q (PSs X [] (tS X.K W aN)):=⟨Gg GA fun _ _ _=>oK⟩
theorem cS {st:Stmt} (h1:Q (PS X st (tS X.K W g1))):Q (PSs X [st] (tS X.K W g1)):=⟨have h1:=h1.p;v9 h1⟩
theorem bj {st:Stmt} {rest:List Stmt} (h1:Q (PS X st (tS X.K W g1))) (h2:Q (PSs X rest (tS X.K W g2))):Q (PSs X (st::rest) (tS X.K W (ay g1 g2))):=⟨have h1:=h1.p;have h2:=h2.p;Gg (og h1 h2) fun _ _ _=>tQ⟩
theorem sJ (ha:Q (PE X a (tE X.K W fa))):Q (PS X (.Return (some a) pos) (tS X.K W (aU fa))):=⟨have ha:=ha.p;cN (DB ha) fun _ _ _=>tR⟩
theorem dS {A B:List Stmt} (hc:Q (PT X c (tT X.K W ga))) (ha:Q (PSs X A (tS X.K W g1))) (hb:Q (PSs X B (tS X.K W g2))):Q (PS X (.If c A B pos) (tS X.K W (b6 ga g1 g2))):=⟨have hc:=hc.p;have ha:=ha.p;have hb:=hb.p;cN (uq hc ha hb) fun _ _ _=>tX⟩
theorem wD (S:Cp X N gl vs cs ls lo gs) (i:Nat) {x:Str} {px:Pos} {iter:Expr} {body:List Stmt} {fi:FI} {g:FS} (hx:N[i]?=some x) (hl:ls.contains i=true) (hp:PassesOwn (model X.prog X.w) X.A X.env X.xe) (hi':Q (PI X (.Name x px) iter (tI X.K W fi))) (hb:Q (PSs X body (tS X.K W g))) (hs:∀x,foldedSetIterable iter X.env x=pure x):Q (PS X (.For (.Name x px) iter body [] pos) (tS X.K W (dw i fi g))):=⟨have hi':=hi'.p;have hb:=hb.p;CH i hp (by rw [S.hN];exact S.nd) hi' hb S.calm (by rw [S.hN];exact hx) (S.loc i x hx hl).1 (S.loc i x hx hl).2 hs⟩
theorem ko (S:Cp X N gl vs cs ls lo gs) (own:Bool) (i:Nat) {x:Str} {pos':Pos} (hi:N[i]?=some x) (hl:ls.contains i=true) (hs:swapsWith a (some (.Name x pos')) pos.line X.env=pure false) (ha:Q (PE X a (tE X.K W fa))):Q (PS X (.Assign [.Name x pos'] a pos) (tS X.K W (az own i fa))):=⟨have ha:=ha.p;CG own i (by rw [S.hN];exact S.nd) ha (by rw [S.hN];exact hi) (S.loc i x hi hl).1 hs (S.loc i x hi hl).2⟩
theorem pU (S:Cp X N gl vs cs ls lo gs) (i:Nat) {x:Str} {px pos':Pos} (hi:N[i]?=some x) (hv:vs.contains i=true) (ha:Q (PE X a (tE X.K W fa))) (hb:Q (PE X b (tE X.K W fb))) (hs:swapsWithSole [.Subscript (.Name x px) b pos'] a pos.line X.env=pure false) (hw:swappedStores [.Subscript (.Name x px) b pos'] a X.env=pure none) (h1:(assignEach [.Subscript (.Name x px) b pos'] X.env).map (·.2)=[assign (.Subscript (.Name x px) b pos') X.env]) (has:∀v,assign (.Subscript (.Name x px) b pos') X.env v=(do
   let ov <-holding [v] (eval (.Name x px) X.env)
   let iv <-holding [v,ov] (eval b X.env)
   standAt pos'
   holding [v,ov,iv] (setItem ov iv v)
   release [v,ov,iv] [])):Q (PS X (.Assign [.Subscript (.Name x px) b pos'] a pos) (tS X.K W (fj i fa fb))):=⟨T.cs_setI S i hi hv ha.p hb.p hs hw h1 has⟩
theorem Ab (S:Cp X N gl vs cs ls lo gs) (i:Nat) {x:Str} {apos cpos:Pos} (hi:N[i]?=some x) (hv:vs.contains i=true) (ha:Q (PE X a (tE X.K W fa))) (hs:starEach [a] X.env=[(false,eval a X.env)]) (hbase:attributeBase (.Name x p) "append" X.env (eval (.Name x p) X.env)=eval (.Name x p) X.env) (hline:(apos.endLine==cpos.line)=true) (hfew:((backTo cpos (starEach [a] X.env)).all (fun x=>!x.1)&&(backToKw cpos (keywordEach [] X.env)).all (fun x=>x.1.isSome)
   && decide ([a].length+([]:List Keyword).length+(if ([]:List Keyword).isEmpty then 0 else 1)<30))=true) (hsw:swapsWith (.Call (.Attribute (.Name x p) "append" apos) [a] [] cpos) none pos.line X.env=pure false):Q (PS X (.Expr (.Call (.Attribute (.Name x p) "append" apos) [a] [] cpos) pos) (tS X.K W (eu i fa))):=⟨T.cs_append S i hi hv ha.p hs hbase hline hfew hsw⟩
theorem w_df_nil :Q (PF X [] (tT X.K W0 aT)):=⟨FZ uz fun σ H Q h=>by
 obtain ⟨He,O,Fs,Γ,E,h⟩:=h;exact h H Fs (Same.refl _) E fun _ z=>.inl z⟩
theorem Df (h:Q (PT X c (tT X.K W0 ga))):Q (PF X [c] (tT X.K W0 ga)):=⟨have h:=h.p;uy h⟩
end
end TQ
namespace T
open PySem PySem.Spec L2
open PyProof.Rows hiding St
def kJ:FS:=fun _=>.no
section
variable {X:Cx} {W:XW} {e:Expr} {fa:F1} {pos:Pos}
theorem ds_drop (ha:PE X e (tE X.K W fa)) (hs:swapsWith e none pos.line X.env=pure false):PS X (.Expr e pos) (tS X.K W (bq fa)):=cN (Im ha hs) fun _ _ _=>xk
end
def K6:MR->String
 | .none => "NoneType"
 | .bool _ => "bool"
 | .int _ => "int"
 | .str _ => "str"
 | .list _ => "list"
 | .tuple _ => "tuple"
 | .dict _ => "dict"
def E9 (t c:String):Bool:=t==c||(t == "bool"&&c == "int")
def KD (c:String) (fa:F1):F1:=aS fa fun p Γ=>.ok ⟨.leaf,.bool (E9 (K6 p.d) c)⟩ Γ
def nZ (c:FB) (g:FS):Nat->Ev->eZ
 | 0,_=>.no
 | n+1,Γ=>match c Γ with
  | .ok true Γ1=>(match g Γ1 with
   | .nx Γ2=>nZ c g n Γ2
   | .ct Γ2=>nZ c g n Γ2
   | .bk Γ2=>.nx Γ2
   | .rt p=>.rt p
   | .er e Γ2=>.er e Γ2
   | .no=>.no)
  | .ok false Γ1=>.nx Γ1
  | .er e Γ1=>.er e Γ1
  | .no=>.no
def si (n:Nat) (c:FB) (g:FS):FS:=nZ c g n
section
variable {K:Fg} {W:XW} {σ:St} {H:Hp} {Q:VK} {D:dz} {fa fb:F1} {fl:FL}
theorem tM {n:Nat} {c:FB} {g:FS} (h:tS K W (si n c g) D σ H):Ge (tT K W c) (tS K W g) D σ H:=by
 obtain ⟨He,O,Fs,Γ,E,h⟩:=h;refine ⟨fun m σ' H'=>∃Γk Fk,EnvOk K He O Fk H' σ' Γk/\mz K W He O D (nZ c g m Γk),⟨n,Γ,Fs,E,h⟩,?_⟩
 rintro m σ' H' ⟨Γk,Fk,Ek,hw⟩
 cases m with
 | zero=>exact hw.elim
 | succ m=>
  refine ⟨He,O,Fk,Γk,Ek,?_⟩
  rw [nZ] at hw
  cases e:c Γk with
  | er x Γ1=>rw [e] at hw;exact fun H2 Fs2 s E2=>hw σ' H2 Fs2 E2
  | no=>rw [e] at hw;exact hw
  | ok b Γ1=>
   rw [e] at hw;intro H2 Fs2 s2 E2 n2
   cases b with
   | false=>rw [if_neg Bool.false_ne_true];exact hw σ' H2 Fs2 E2
   | true=>
    rw [if_pos rfl];refine ⟨fun σ3 H3=>∃Γ3 F3,EnvOk K He O F3 H3 σ3 Γ3/\mz K W He O D (nZ c g m Γ3),fun σ3 H3 q=>⟨m,Nat.lt_succ_self _,q⟩,He,O,Fs2,Γ1,E2,?_⟩
    have hw:mz K W He O D (match g Γ1 with | .nx Γ2=>nZ c g m Γ2 | .ct Γ2=>nZ c g m Γ2 | .bk Γ2=>.nx Γ2 | .rt p=>.rt p | .er e Γ2=>.er e Γ2 | .no=>.no):=hw
    cases eb:g Γ1 with
    | nx Γ'=>rw [eb] at hw;exact fun σ2 H2 F2 E2=>⟨Γ',F2,E2,hw⟩
    | ct Γ'=>rw [eb] at hw;exact fun σ2 H2 F2 E2=>⟨Γ',F2,E2,hw⟩
    | bk Γ'=>rw [eb] at hw;exact fun σ2 H2 F2 E2=>hw σ2 H2 F2 E2
    | rt p=>rw [eb] at hw;exact fun u H2 G r=>hw u H2 G r
    | er x Γ'=>rw [eb] at hw;exact fun σ2 H2 F2 E2=>hw σ2 H2 F2 E2
    | no=>rw [eb] at hw;exact hw
theorem EnvOk.chgF {He:Hp} {O:List Addr} {Fs:List (List Addr)} {Γ:Ev} {i:Nat} {ds:List MR} (E:EnvOk K He O Fs H σ Γ) (h:Γ[i]?=some (some ⟨.lst .leaf,.list ds⟩)) :
  ∃l vs,σ[i]?=some (some (.ref l))/\H l=some (.lst vs)/\vs.length=ds.length/\(∀(j:Nat) u d,vs[j]?=some u->ds[j]?=some d->Rep K (bW H (O++Fs.flatten)) u d) /\
   ∀(vs':List V) (ds':List MR),vs'.length=ds'.length->(∀(j:Nat) u d,vs'[j]?=some u->ds'[j]?=some d->Rep K (bW H (O++Fs.flatten)) u d)->EnvOk K He O Fs (bF H l (.lst vs')) σ (Γ.set i (some ⟨.lst .leaf,.list ds'⟩)):=by
 obtain ⟨hv,v,F,h1,E1,o1,sub⟩:=E.move h;have hi:i<Γ.length:=(MM h).1
 obtain ⟨_,v0,F0,h10,h20,o0⟩:=E.slot i _ h;obtain ⟨l,vs,rfl,rfl,hp,hl,hr⟩:=o1.leaves;obtain ⟨l',vs',e0,e1,hp',hl',hr'⟩:=o0.leaves;rw [h1] at h10
 cases h10
 cases e0;rw [hp] at hp'
 cases hp'
 refine ⟨l,vs,h1,hp,hl,hr',fun ws ds' hw q=>?_⟩
 have hlF:l∈Fs.flatten:=sub l (MF _ (List.mem_singleton.mpr rfl))
 have hHe:He l=none:=E.fresh l hlF
 have E4:=E1.mutO (o:=.lst ws) (MF _ (List.mem_singleton.mpr rfl)) hp hHe
 have ownL:Own K ([l]++O++(Fs.set i []).flatten) (bF H l (.lst ws)) (.lst .leaf) [l] (.ref l) (.list ds'):=by
  refine Own.mkLeaves dO hw fun j u d a1 a2=>?_
  rw [Ig (MF _ (MF _ (List.mem_singleton.mpr rfl)))];refine (q j u d a1 a2).mono (sq (Same.refl _) fun a ha=>.inl ?_)
  rcases MG ha with z | z
  ·rcases MG z with z | z
   ·rw [List.mem_singleton.mp z];exact ME _ hlF
   ·exact MF _ z
  ·exact ME _ (sub a (ME _ z))
 have fin:=EnvOk.put (i:=i) (p:=⟨.lst .leaf,.list ds'⟩) (v:=.ref l) E4 ownL rfl (fun a ha=>by rw [List.mem_singleton.mp ha];exact hHe) (by rw [length_set];exact hi)
 rw [set_set,set_set,De h1] at fin;rw [e1] at h20;rw [De h20] at fin;exact fin
end
def ub (K:Fg):List V->Hp->VK->Prop:=fun xs H Q=>∃(p:Addr) (ns:List Int),xs=[.ref p]/\SqL K H p (ns.map V.int)/\ns.length<64/\∀l,H l=none->Q (.ref l) (bF H l (.lst ((PySem.W.sortI ns).map V.int)))
theorem Ih:∀{ns:List Int} {us:List Value},Vals (ns.map V.int) us->IntsAre us ns
 | [],_,.nil=>.nil
 | n::ns,_,.cons r t=>by
  obtain ⟨tk,rfl⟩:=(show ∃t,_=Value.int n t from r)
  exact .cons _ _ (Ih t)
theorem Iy:∀{ns:List Int} {us:List Value},IntsAre us ns->Vals (ns.map V.int) us
 | _,_,.nil=>.nil
 | _,_,.cons _ _ t=>.cons ⟨_,rfl⟩ (Iy t)
theorem nQ {X:Cx}:CallR X (.builtin "sorted") (ub X.K):=by
 intro pins s σ H xs us Q I rv h;obtain ⟨p,ns,rfl,hS,h64,q⟩:=h;obtain ⟨u,rfl,ru⟩:=rv.one
 cases ru;obtain ⟨its,r,pl,hz⟩:=I.list hS;have hI:=Ih r
 have hl:its.length=ns.length:=by rw [<-r.length,length_map]
 refine sorted_ints pl.isList hI (by omega) fun out ns' a1 a2 a3=>?_
 have e:=PySem.W.eq_sortI a2 a3
 subst e;obtain ⟨n,ho⟩:=sortedAll_at s.heap its out;have hlen:(PySem.W.sortI ns).length=ns.length:=(PySem.W.sortI_perm ns).length_eq
 have hb:=ja (n:=ns.length) (by omega)
 refine ⟨.ref (s.heap.objs.size+1),bF H (s.heap.objs.size+1) (.lst ((PySem.W.sortI ns).map V.int)),I.laid (t':=s.toks) (fun b o e=>sortedAll_old e) (Nat.le_succ _) ⟨by rw [length_map,hlen];omega,out.toList,n,Iy a1,by simpa [seqObj] using ho⟩,rfl,q _ (I.hok.fresh (Nat.le_succ _))⟩
theorem om:∀{xs:List V} {us:List Value},xs.length=us.length->(∀(i:Nat) x u,xs[i]?=some x->us[i]?=some u->RelV x u)->Vals xs us
 | [],[],_,_=>.nil
 | x::xs,u::us,hl,h=>.cons (h 0 x u rfl rfl) (om (by simpa using hl) fun i x u a b=>h (i+1) x u (by simpa using a) (by simpa using b))
 | [],_::_,hl,_=>by simp at hl
 | _::_,[],hl,_=>by simp at hl
def Lc (ta:TA):TE:=fun σ H Q=>ta σ H fun vs H1=>∃j:Int,vs=[.int j]/\-(2 ^ 62)<=j/\j<=sizeLine/\∀l,H1 l=none->Q (.ref l) (bF H1 l (.lst (d8 0 j.toNat)))
theorem jO {X:Cx} {a:Expr} {ta:TA} {p p2 pos pos2:Pos} (hg:Gl X "list") (hm:X.mg "list"=none) (hg2:Gl X "range") (hm2:X.mg "range"=none) (hc:X.calm=true) (ha:PA X [a] ta) (hs:starEach [a] X.env=[(false,eval a X.env)])
  (hs1:starEach [.Call (.Name "range" p2) [a] [] pos2] X.env=[(false,eval (.Call (.Name "range" p2) [a] [] pos2) X.env)]):PE X (.Call (.Name "list" p) [.Call (.Name "range" p2) [a] [] pos2] [] pos) (Lc ta):=by
 intro pins s σ H Q I h;refine Call_ (vY I hg hm vJ (PyProof.Rows.callWith_type1 ?_ hs1 rfl))
 rw [hs1];show wpAny _ _ (spliced ((false,eval (.Call (.Name "range" p2) [a] [] pos2) X.env)::[])) _ _ s
 refine Calls.spliced_cons (Call_ (vY I hg2 hm2 boot_range (PyProof.Rows.callWith_type1 (bx (ha pos2 pins s σ H _ I h) fun us s1 ⟨vs,H1,I1,r1,q1⟩=>?_) hs rfl)))
 obtain ⟨j,e,q1,q2,q⟩:=q1;subst e;obtain ⟨u,rfl,ru⟩:=r1.one;obtain ⟨t,rfl⟩:=(show ∃t,u=Value.int j t from ru)
 refine call_range_1 (Calls.spliced_nil ?_)
 have hz:(sizeLine:Int)<2 ^ 62:=by decide
 refine call_list_range (n:=j.toNat) (I.ok.hd hc) (IsRange.new ..) (small_one (by omega) (by omega) q1 (by omega)) (by rw [rangeSize_one];split<;>omega) (by have:(sizeLine:Nat)=2 ^ 24:=rfl;omega) fun h' tk acc' c' hk ho hacc=>?_
 have I2:Inv X pins σ H1 { s1 with heap:=s1.heap.push { cls:=.type "range",data:=.fields #[.int 0 s1.toks,.int j t,.int 1 (s1.toks+1)] },toks:=s1.toks+1+1 }:=I1.kept fun b o e=>MP _ e
 have hv:Vals (d8 0 j.toNat) acc'.toList:=by
  refine om (by have:=hacc.1;simp only [Array.length_toList,d8,length_map,length_range];omega) fun i x u e1 e2=>?_
  obtain ⟨t2,rfl⟩:=hacc.2 i u (by rw [<-Array.getElem?_toList];exact e2)
  unfold d8 at e1;rw [getElem?_map] at e1
  cases e3:(List.range j.toNat)[i]? with
  | none=>rw [e3] at e1;cases e1
  | some k=>
   rw [e3] at e1;obtain ⟨k1,k2⟩:=MM e3
   simp at k2
   subst k2
   cases e1;exact ⟨t2,by simp⟩
 refine ⟨.ref _,bF H1 _ (.lst (d8 0 j.toNat)),I2.laid (t':=tk) (fun b o e=>hk b o e) (MQ _) ⟨?_,acc'.toList,c',hv,by simpa using ho⟩,rfl,q _ (I2.hok.fresh (MQ _))⟩
 simp only [d8,length_map,length_range]
 omega
section
variable {K:Fg} {W:XW} {σ:St} {H:Hp} {Q:VK} {fa:F1} {fl:FL}
theorem AftL.newSc {He:Hp} {O:List Addr} {Fs Gs Fs1:List (List Addr)} {Γ1:Ev} {ps:List PV} {us:List V} {H1:Hp} {l:Addr} {vs:List V} {ds:List MR} (A:AftL K He O Fs H σ Γ1 ps us H1 Gs Fs1) (nd:O.Nodup) (hl:H1 l=none) (hv:vs.length=ds.length) (hs:∀(i:Nat) v d,vs[i]?=some v->ds[i]?=some d->Sc v d) :
  Aft K He O Fs H σ Γ1 ⟨.lst .leaf,.list ds⟩ (.ref l) (bF H1 l (.lst vs)) [l] Fs1:=by
 refine ⟨A.same.trans (gB hl),A.env.dropL.hide (gB hl) (by simp) (by simpa using hl) (fun a ha=>by rw [List.mem_singleton.mp ha,dO];exact Option.some_ne_none _),fun a ha=>?_,?_⟩
 ·rcases MG ha with z | z
  ·rw [List.mem_singleton.mp z];exact .inr (A.same.free hl)
  ·exact A.new a (ME _ z)
 ·exact Own.mkLeaves dO hv fun j u d e1 e2=>(hs j u d e1 e2).rep
def zI (fl:FL):F1:=fun Γ=>(fl Γ).bind fun ps Γ'=>match iz (ps.map (·.d)) with
 | some j=>if j<=sizeLine then .ok ⟨.lst .leaf,.list (bX 0 j.toNat)⟩ Γ' else .no
 | none=>.no
theorem En (h:tE K W (zI fl) σ H Q):Lc (tA K W fl) σ H Q:=by
 obtain ⟨He,O,Fs,Γ,E,h⟩:=h;refine ⟨He,O,Fs,Γ,E,?_⟩
 unfold zI at h
 cases e:fl Γ with
 | er c Γ'=>rw [e] at h;exact h
 | no=>rw [e] at h;exact h
 | ok ps Γ1=>
  rw [e] at h;intro vs H1 Gs Fs1 A;have h:Wants K W He O Fs H σ Q (match iz (ps.map (·.d)) with | some j=>if j<=sizeLine then .ok ⟨.lst .leaf,.list (bX 0 j.toNat)⟩ Γ1 else .no | none=>.no):=h
  cases er:iz (ps.map (·.d)) with
  | none=>rw [er] at h;exact h.elim
  | some j=>
   rw [er] at h;obtain ⟨e1,e2,e3⟩:=oG er;have r:=A.reps
   rw [e1] at r;have h:Wants K W He O Fs H σ Q (if j<=sizeLine then .ok ⟨.lst .leaf,.list (bX 0 j.toNat)⟩ Γ1 else .no):=h
   by_cases hj:j<=sizeLine
   ·rw [if_pos hj] at h
    have hv:vs=[.int j]:=by
     have hl:=r.1
     match vs,hl with
     | [v],_=>
      have q:=r.2 0 v (.int j) rfl rfl
      cases q;rfl
    refine ⟨j,hv,e2,hj,fun l hl=>h _ _ _ _ (A.newSc E.ndO hl (by simp [d8,bX]) fun i v d a1 a2=>?_)⟩
    have q:=IL (K:=K) (H:=H1) (lo:=0) (n:=j.toNat)
    refine (q.2 i v d a1 a2).sc ?_
    unfold bX at a2;rw [getElem?_map] at a2
    cases e3:(List.range j.toNat)[i]? with
    | none=>rw [e3] at a2;cases a2
    | some k=>rw [e3] at a2;cases a2;rfl
   ·rw [if_neg hj] at h;exact h.elim
def rW:List MR->Option (List Int)
 | []=>some []
 | .int i::r=>(rW r).map (i :: ·)
 | _=>none
theorem IY:∀{ds:List MR} {ns:List Int},rW ds=some ns->ds=ns.map .int
 | [],ns,h=>by cases h;rfl
 | .int i::r,ns,h=>by
  unfold rW at h
  cases e:rW r with
  | none=>rw [e] at h;cases h
  | some ms=>rw [e] at h;cases h;rw [IY e];rfl
 | .none::_,_,h=>by cases h
 | .bool _::_,_,h=>by cases h
 | .str _::_,_,h=>by cases h
 | .list _::_,_,h=>by cases h
 | .tuple _::_,_,h=>by cases h
 | .dict _::_,_,h=>by cases h
end
theorem Inv.turnedL {X:Cx} {pins:List (Addr×Obj)} {σ:St} {H:Hp} {s:Shared} {h':Heap} {t':Nat} {fp:List Addr} (I:L2.Inv X pins σ H s) (k:∀b o,b∉fp->s.heap.get? b=some o->h'.get? b=some o) (hf:∀b∈fp,iT X pins H b):L2.Inv X pins σ H { s with heap:=h',toks:=t' }:=by
 have nit:∀b u,H b=some u->b∉fp:=fun b u e z=>by have:=(hf b z).1;rw [e] at this;cases this
 have hL:X.env.locals∉fp:=fun z=>(hf _ z).2.1 rfl
 refine I.step (g':=s.gens) (d':=s.drawn) (ch:=fp) (fun b hb=>?_) (fun b o _ _ hc e _=>k b o hc e) (fun b o _ _ hc e _=>⟨o.slots,k b o hc e⟩) (fun _ _ _ _ n=>n)
  (fun b o hc e=>⟨o,k b o hc e⟩) (fun _ _ e=>e) (fun _ _ _ e=>e) (fun b ps e=>⟨#[],by rw [e];simp⟩) (fun m hm=>?_) (fun b u e=>?_) I.bare
 ·obtain ⟨f0,f1,f2,f3,f4,f5⟩:=hf b hb
  exact ⟨f3,f1,f4,f5⟩
 ·obtain ⟨o,es,ep,ho,r⟩:=hm
  exact ⟨o,es,ep,k _ o hL ho,r⟩
 ·refine (I.hok b u e).stay (fun c v hc q=>k c v ?_ q) (fun _ q=>q) fun _ _ q=>q
  rcases hc with z | z
  ·rw [z];exact nit b u e
  ·exact nit c _ z
theorem Inv.turnedT {X:Cx} {pins:List (Addr×Obj)} {σ:St} {H:Hp} {s:Shared} {h':Heap} {t':Nat} {fp:List Addr} {T:Addr} {xs:List V} (I:L2.Inv X pins σ H s) (k:∀b o,b∉fp->s.heap.get? b=some o->h'.get? b=some o) (hf:∀b∈fp,iT X pins H b) (hT:s.heap.objs.size<=T)
  (new:ObjOk X.prog X.w (bF H T (.tup xs)) h' T (.tup xs)):L2.Inv X pins σ (bF H T (.tup xs)) { s with heap:=h',toks:=t' }:=by
 have hTn:H T=none:=I.hok.fresh hT
 have nit:∀b u,H b=some u->b∉fp:=fun b u e z=>by have:=(hf b z).1;rw [e] at this;cases this
 have up:∀b u,H b=some u->bF H T (.tup xs) b=some u:=fun b u e=>by rw [cO (kc e hTn)];exact e
 have hL:X.env.locals∉fp:=fun z=>(hf _ z).2.1 rfl
 refine I.step (g':=s.gens) (d':=s.drawn) (ch:=fp) (fun b hb=>?_) (fun b o _ _ hc e _=>k b o hc e) (fun b o _ _ hc e _=>⟨o.slots,k b o hc e⟩) (fun b o _ e n=>by rw [cO (Nat.ne_of_lt (Nat.lt_of_lt_of_le (Heap.lt_size e) hT))];exact n)
  (fun b o hc e=>⟨o,k b o hc e⟩) (fun b _ e=>up b _ e) (fun b _ _ e=>up b _ e) (fun b ps e=>⟨#[],by rw [up b _ e];simp⟩) (fun m hm=>?_) (fun b u e=>?_) I.bare
 ·obtain ⟨f0,f1,f2,f3,f4,f5⟩:=hf b hb
  exact ⟨f3,f1,f4,f5⟩
 ·obtain ⟨o,es,ep,ho,r⟩:=hm
  exact ⟨o,es,ep,k _ o hL ho,r⟩
 ·by_cases hb:b=T
  ·subst hb
   rw [dO] at e
   cases e;exact new
  ·rw [cO hb] at e
   refine (I.hok b u e).stay (fun c v hc q=>k c v ?_ q) (fun c q=>up c _ q) fun c _ q=>up c _ q
   rcases hc with z | z
   ·rw [z];exact nit b u e
   ·exact nit c _ z
def KY (K:Fg) (a:Addr):It:=
 ⟨fun i H=>∃xs x,SqL K H a xs/\xs[i]?=some x,fun i H x H'=>∃T v,x=.ref T/\H T=none/\H'=bF H T (.tup [.int i,v])/\∀xs,SqL K H a xs->xs[i]?=some v,fun i H=>∃xs,SqL K H a xs/\xs.length<=i⟩
theorem pZ {P:Program} {w:World} {K:Fg} {elts:List Expr} {k:Nat} {pos:Pos} (a e it:Addr) (hei:e≠it) (hae:a≠e) (hai:a≠it) :
  vS P w K (.Tuple elts k pos) (KY K a) [e,it] e (fun i h=>(∃old,IsEnum h e it i old)/\h.IsListIter it a i) where
 mem:=by simp
 obj:=fun i h st b hb=>by
  obtain ⟨⟨old,he⟩,o,e1,c,d⟩:=st;simp only [mem_cons,not_mem_nil,or_false] at hb
  rcases hb with rfl | rfl
  ·exact ⟨_,he,fun v z=>by
    have z':Data.fields _=Data.cell v:=z
    cases z'⟩
  ·exact ⟨o,e1,fun v z=>by rw [d] at z;cases z⟩
 keep:=fun i h h' st kk=>by
  obtain ⟨⟨old,he⟩,hit⟩:=st;exact ⟨⟨old,kk e (by simp) _ he⟩,hit.at fun o q=>kk it (by simp) o q⟩
 item:=by
  intro X hP hw hK hc i pins s σ H E I hf st hg;subst hP hw hK;obtain ⟨xs,x,hq,hx⟩:=hg;obtain ⟨its,rv,p,hz⟩:=I.list hq;obtain ⟨u,hu,ru⟩:=rv.get hx;have W:=WalksT.enumerate (prog:=X.prog) (w:=X.w) (A:=X.A) (I.ok.hd hc) e it a hei hae hai its.toArray
  have hil:i<its.toArray.size:=by
   have:=(MM hu).1
   simpa using this
  refine W.item i s _ _ hil ⟨st.1,st.2,p.isList⟩ fun T vals h' tk hv hT hTT hMid kk=>?_
  obtain ⟨t,y,hy,rfl⟩:=hv;have ey:y=u:=by
   rw [List.getElem?_toArray,hu] at hy;exact (Option.some.inj hy).symm
  subst ey;refine ⟨.ref T,rfl,W.go elts k pos i T _ _ _ hMid fun h2 st2 kk2=>?_⟩
  have hTn:H T=none:=I.hok.fresh hT
  have hTw:T∉[e,it]:=W.apart i T _ hMid
  have kAll:∀b o,b∉[e,it]->s.heap.get? b=some o->h2.get? b=some o:=fun b o hb q=>kk2 b o hb (kk b o hb q)
  have I1:L2.Inv X pins σ H { s with heap:=h2,toks:=tk }:=Inv.turnedL I kAll hf
  have tT:h2.IsTuple T #[.int i t,y]:=by
   obtain ⟨o,q1,q2⟩:=hTT;exact ⟨o,kk2 T o hTw q1,q2⟩
  have hvs:Vals [.int (i:Int),x] [.int i t,y]:=.cons (show RelV (.int (i:Int)) (.int i t) from ⟨t,rfl⟩) (.cons ru .nil)
  have I3:L2.Inv X pins σ (bF H T (.tup [.int i,x])) { s with heap:=h2,toks:=tk }:=Inv.turnedT (t':=tk) I kAll hf hT ⟨by show 2<=sizeLine;decide,[.int i t,y],hvs,(show IsTup h2 T _ from tT)⟩
  refine ⟨.ref T,bF H T (.tup [.int i,x]),I3,rfl,⟨T,x,rfl,hTn,rfl,fun ys hy=>by rw [I.list_inj hy hq];exact hx⟩,⟨st2.1,st2.2.1⟩,fun b hb=>?_⟩
  have hbT:b≠T:=fun z=>by rw [z] at hb;exact hTw hb
  rw [cO hbT];exact (hf b hb).1
 done:=by
  intro X hP hw hK hc i pins s σ H E I hf st hg;subst hP hw hK;obtain ⟨xs,hq,hx⟩:=hg;obtain ⟨its,rv,p,hz⟩:=I.list hq;have hl:=rv.length
  obtain ⟨⟨old,he⟩,hit⟩:=st;refine wpAny_pyNext_enum_end (I.ok.hd hc) he hit p.isList (Array.getElem?_eq_none (by simp;omega)) fun h' hk=>⟨rfl,Inv.turnedL (t':=s.toks) I (fun b o hb q=>hk b o (fun z=>hb (by simp [z])) q) hf⟩
 self:=fun _ _ _ _ _ st h=>by
  obtain ⟨⟨old,he⟩,hit⟩:=st;exact wpAny_pyIter_enum he h
def zE (K:Fg) (ta:TA):TI:=fun σ H R=>ta σ H fun vs H1=>∃a,vs=[.ref a]/\(∃xs,SqL K H1 a xs)/\R (KY K a) H1
theorem xB {X:Cx} {elts:List Expr} {kt:Nat} {ptg:Pos} {l:Expr} {ta:TA} {p pos:Pos} (hg:Gl X "enumerate") (hm:X.mg "enumerate"=none) (ha:PA X [l] ta) (hs:starEach [l] X.env=[(false,eval l X.env)]) :
  PI X (.Tuple elts kt ptg) (.Call (.Name "enumerate" p) [l] [] pos) (zE X.K ta):=by
 intro pins s σ H R I h;refine Call_ (vY I hg hm boot_enumerate (PyProof.Rows.callWith_type1 (bx (ha pos pins s σ H _ I h) fun us s1 ⟨vs,H1,I1,r1,q1⟩=>?_) hs rfl))
 obtain ⟨a,e,⟨xs,hq⟩,q⟩:=q1;subst e;obtain ⟨u,rfl,ru⟩:=r1.one
 cases ru;obtain ⟨its,rv,pl,hz⟩:=I1.list hq;refine call_enumerate_list pl.isList fun h' he hit hsz hk=>?_
 have ha1:a<s1.heap.objs.size:=by
  obtain ⟨o,q1,_⟩:=pl.isList;exact Heap.lt_size q1
 refine wpAny_pyIter_enum (s:={ s1 with heap:=h' }) he ?_
 have I2:L2.Inv X pins σ H1 { s1 with heap:=h' }:=I1.kept (t':=s1.toks) hk
 refine ⟨s1.heap.objs.size+1,[s1.heap.objs.size+1,s1.heap.objs.size],_,KY X.K a,H1,rfl,I2,pZ a _ _ (Nat.succ_ne_self _) (Nat.ne_of_lt (Nat.lt_succ_of_lt ha1)) (Nat.ne_of_lt ha1),⟨⟨_,he⟩,hit⟩,fun b hb=>?_,q⟩
 simp only [mem_cons,not_mem_nil,or_false] at hb
 have hb2:s1.heap.objs.size<=b:=by
  rcases hb with z | z
  ·rw [z];exact Nat.le_succ _
  ·rw [z];exact MQ _
 have f:=I1.fpOk hb2 (I1.hok.fresh hb2)
 exact f
def Ic (i j:Nat) (fc:FB) (fe:F1) (s:Sh):Nat->List MR->Ev->List MR->Out (List MR)
 | _,[],Γ,acc=>.ok acc Γ
 | k,d::r,Γ,acc=>match fc ((Γ.set i (MS (.int (k:Nat)))).set j (MS d)) with
  | .ok true Γ1=>(match fe Γ1 with
   | .ok p Γ2=>if T.coer s p&&decide (acc.length<sizeLine) then Ic i j fc fe s (k+1) r ((Γ2.set i none).set j none) (acc++[p.d]) else .no
   | _=>.no)
  | .ok false Γ1=>if acc.length<sizeLine then Ic i j fc fe s (k+1) r ((Γ1.set i none).set j none) acc else .no
  | _=>.no
def pj:Option (Option PV)->Bool
 | some none=>true
 | _=>false
def CD (s:Sh) (i j:Nat) (fa:F1) (fc:FB) (fe:F1):F1:=fun Γ=>(aR fa Γ).bind fun t Γ1=>if pj Γ1[i]?&&pj Γ1[j]?&&!s.isView then (match Ic i j fc fe s 0 t.ds Γ1 [] with
 | .ok ds Γ2=>.ok ⟨.lst s,.list ds⟩ Γ2
 | _=>.no) else .no
section
variable {K:Fg} {He H H1 H2:Hp} {O G:List Addr} {Fs Fs1 Fs2:List (List Addr)} {σ:St} {Γ Γ1 Γ2:Ev}
structure L0 (K:Fg) (He:Hp) (O:List Addr) (Fs1:List (List Addr)) (H1:Hp) (σ:St) (i j:Nat) (s:Sh) (A0:Addr) (n:Nat) (ys:List V) (H:Hp) (Γk:Ev) (Fk Gs:List (List Addr)) (acc:List MR):Prop where
 env:EnvOk K He (A0::Gs.flatten++O) Fk H (bA [i,j] σ) Γk
 same:Same H1 H
 at_:H A0=some (.lst ys)
 new:∀a∈Gs.flatten++Fk.flatten,a∈Fs1.flatten\/H1 a=none
 l1:ys.length=acc.length
 l2:Gs.length=acc.length
 own:∀(m:Nat) v d G,ys[m]?=some v->acc[m]?=some d->Gs[m]?=some G->Own K (A0::Gs.flatten++O++Fk.flatten) H s G v d
 len:Γk.length=n
end
def Gk (N:List Str) (is:List Nat) (cs:List Nat) (sc:Scope):Bool:=
 decide (sc.kind=.function)&&(sc.names.all fun p=>!decide (p.2=.free)||cs.any fun j=>decide (N[j]?=some p.1)) &&
 ((List.range N.length).all fun j=>is.contains j||(sc.names.all fun p=>!decide (some p.1=N[j]?)||(!decide (p.2=.local)&&!decide (p.2=.cell)))) &&
 (sc.names.all fun p=>!decide (p.2=.local)||decide (sc.names.lookup p.1=some .local)) &&
 (sc.names.all fun p=>!decide (p.2=.free)||sc.names.all fun q=>!decide (q.1=p.1)||!decide (q.2=.cell))
theorem jv {X:Cx} {N gl:List Str} {vs cs ls lo gs is:List Nat} {scope:Scope} (S:Cp X N gl vs cs ls lo gs) (h:Gk N is cs scope=true):dv X.N is X.env.scope scope:=by
 unfold Gk at h;simp only [Bool.and_eq_true,decide_eq_true_eq,all_eq_true,Bool.or_eq_true,Bool.not_eq_true',decide_eq_false_iff_not,any_eq_true,mem_range] at h
 obtain ⟨⟨⟨⟨h0,h1⟩,h2⟩,h3⟩,h4⟩:=h;refine ⟨h0,fun n hn=>?_,fun j x e hj=>?_,fun x hx e=>?_,fun n hn hc=>?_⟩
 ·rcases h1 _ hn with z | ⟨j,hj,e⟩
  ·exact absurd rfl z
  ·exact S.cel j n e (by simpa using hj)
 ·rw [S.hN] at e
  rcases h2 j (MM e).1 with z | z
  ·simpa using z
  ·exfalso
   rcases hj with y | y
   ·rcases z _ y with w | w
    ·exact w e.symm
    ·exact w.1 rfl
   ·rcases z _ y with w | w
    ·exact w e.symm
    ·exact w.2 rfl
 ·rcases h3 x hx with z | z
  ·exact absurd e z
  ·exact z
 ·rcases h4 _ hn with z | z
  ·exact z rfl
  ·rcases z _ hc with w | w
   ·exact w rfl
   ·exact w rfl
end T
namespace TQ
open PySem PySem.Spec L2 T
open PyProof.Rows hiding St
section
variable {X:Cx} {N gl:List Str} {vs cs ls lo gs:List Nat} {W:XW} {a b c e:Expr} {es:List Expr} {pos p:Pos} {fa fb fc:F1} {fl:FL} {ga gb:FB} {g1 g2 g:FS}
theorem mI {st:Stmt}:Q (PS X st (tS X.K W kJ)):=⟨fun pins s σ H D I h=>by
 obtain ⟨He,O,Fs,Γ,E,h⟩:=h;exact h.elim⟩
theorem ki (ha:Q (PE X e (tE X.K W fa))) (hs:swapsWith e none pos.line X.env=pure false):Q (PS X (.Expr e pos) (tS X.K W (bq fa))):=⟨T.ds_drop ha.p hs⟩
theorem dW {p2 pos2:Pos} (S:Cp X N gl vs cs ls lo gs) (j k:Nat) (hj:gl[j]?=some ("list":Str)) (hg:gs.contains j=true) (hm:X.mg "list"=none) (hk:gl[k]?=some ("range":Str)) (hg2:gs.contains k=true) (hm2:X.mg "range"=none) (ha:Q (PA X [a] (tA X.K W fl))) (hs:starEach [a] X.env=[(false,eval a X.env)]) (hs1:starEach [.Call (.Name "range" p2) [a] [] pos2] X.env=[(false,eval (.Call (.Name "range" p2) [a] [] pos2) X.env)]):Q (PE X (.Call (.Name "list" p) [.Call (.Name "range" p2) [a] [] pos2] [] pos) (tE X.K W (zI fl))):=⟨have ha:=ha.p;aP (jO (S.g hj hg).1 hm (S.g hk hg2).1 hm2 S.calm ha hs hs1) fun _ _ _=>En⟩
theorem G5 (n:Nat) {body:List Stmt} (hp:PassesOwn (model X.prog X.w) X.A X.env X.xe) (hc:Q (PT X c (tT X.K W ga))) (hb:Q (PSs X body (tS X.K W g))):Q (PS X (.While c body [] pos) (tS X.K W (si n ga g))):=⟨have hc:=hc.p;have hb:=hb.p;cN (kT hp hc hb) fun _ _ _=>tM⟩
end
end TQ
namespace L2
open PySem PySem.Spec PyProof.Rows
section
variable {κ:Type} [DecidableEq κ]
def di (kvs:List (κ×V)) (k:κ):Option V:=(kvs.find? fun kv=>decide (kv.1=k)).map (·.2)
def dP (kvs:List (κ×V)) (k:κ) (v:V):List (κ×V):=
 if (kvs.any fun kv=>decide (kv.1=k))=true then kvs.map (fun kv=>if kv.1=k then (kv.1,v) else kv) else kvs++[(k,v)]
theorem DO {p:κ×V} {r:List (κ×V)} {k:κ} (e:p.1=k):di (p::r) k=some p.2:=by simp [di,find?_cons,e]
theorem DN {p:κ×V} {r:List (κ×V)} {k:κ} (e:¬p.1=k):di (p::r) k=di r k:=by simp [di,find?_cons,e]
theorem Jd (k:κ):∀kvs:List (κ×V),(kvs.any fun kv=>decide (kv.1=k))=(di kvs k).isSome
 | []=>rfl
 | p::r=>by
  rw [List.any_cons];by_cases e:p.1=k
  ·simp only [DO e,decide_eq_true e,Bool.true_or,Option.isSome_some]
  ·rw [DN e,decide_eq_false e,Bool.false_or];exact Jd k r
theorem Jl (kvs:List (κ×V)) (k:κ) (v:V):(dP kvs k v).length<=kvs.length+1:=by
 unfold dP;split
 ·rw [length_map];omega
 ·rw [length_append,length_cons,length_nil];omega
theorem kS {kvs:List (κ×V)} {k:κ} (v:V) (h:di kvs k=none):dP kvs k v=kvs++[(k,v)]:=by
 unfold dP;rw [Jd,h];exact if_neg (by decide)
theorem RelO.isSome_eq {o:Option V} {u:Option Value} (r:RelO o u):o.isSome=u.isSome:=by
 cases o with
 | none=>cases u with
  | none=>rfl
  | some _=>exact (show False from r).elim
 | some _=>cases u with
  | none=>exact (show False from r).elim
  | some _=>rfl
theorem KV.val {kvs:List (κ×V)} {vs:List (κ×Value)} (r:KV kvs vs) (k:κ):RelO (di kvs k) (valueAt vs k):=by
 unfold KV at r;induction r with
 | nil=>exact True.intro
 | @cons p q ps qs h t ih=>
  obtain ⟨h1,h2⟩:=h;by_cases e:p.1=k
  ·have e':q.1=k:=h1.symm.trans e
   have b:valueAt (q::qs) k=some q.2:=by simp [valueAt,find?_cons,e']
   rw [DO e,b];exact h2
  ·have e':¬q.1=k:=fun z=>e (h1.trans z)
   have b:valueAt (q::qs) k=valueAt qs k:=by simp [valueAt,find?_cons,e']
   rw [DN e,b];exact ih
theorem KV.any {kvs:List (κ×V)} {vs:List (κ×Value)} (r:KV kvs vs) (k:κ):(kvs.any fun kv=>decide (kv.1=k))=vs.any fun kv=>decide (kv.1=k):=by
 unfold KV at r;induction r with
 | nil=>rfl
 | cons h t ih=>rw [List.any_cons,List.any_cons,ih,h.1]
theorem KV.repl {kvs:List (κ×V)} {vs:List (κ×Value)} (r:KV kvs vs) (k:κ) {y:V} {u:Value} (ry:RelV y u) :
  KV (kvs.map fun kv=>if kv.1=k then (kv.1,y) else kv) (vs.map fun kv=>if kv.1=k then (kv.1,u) else kv):=by
 unfold KV at r ⊢
 induction r with
 | nil=>exact .nil
 | @cons p q ps qs h t ih=>
  rw [map_cons,map_cons];refine .cons ?_ ih
  obtain ⟨h1,h2⟩:=h;by_cases e:p.1=k
  ·rw [if_pos e,if_pos (h1.symm.trans e)];exact ⟨h1,ry⟩
  ·rw [if_neg e,if_neg (fun z=>e (h1.trans z))];exact ⟨h1,h2⟩
theorem KV.put {kvs:List (κ×V)} {vs:List (κ×Value)} (r:KV kvs vs) (k:κ) {y:V} {u:Value} (ry:RelV y u):KV (dP kvs k y) (stored vs k u):=by
 unfold dP stored;rw [r.any k];by_cases e:(vs.any fun kv=>decide (kv.1=k))=true
 ·rw [if_pos e,if_pos e];exact r.repl k ry
 ·rw [if_neg e,if_neg e];exact Paired.snoc r ⟨rfl,ry⟩
theorem KV.length {kvs:List (κ×V)} {vs:List (κ×Value)} (r:KV kvs vs):kvs.length=vs.length:=Paired.length r
end
theorem jk {P:Program} {w:World} {k:bJ} {u:Value} (r:RelV (kV k) u):(iV P w).is k u=true:=by
 cases k with
 | inl i=>obtain ⟨t,e⟩:=(show ∃t,u=Value.int i t from r);subst e;exact ll P w i t
 | inr x=>obtain ⟨t,e⟩:=(show ∃t,u=Value.str x t from r);subst e;exact lh P w x t
theorem jl {P:Program} {w:World}:∀{ks:List bJ} {us:List Value},Vals (ks.map kV) us->ItemsAre (iV P w) ks us
 | [],_,r=>by rw [map_nil] at r;cases r;exact .nil
 | k::ks,_,r=>by
  rw [map_cons] at r
  cases r with
  | cons h t=>exact .cons (jk h) (jl t)
abbrev KT (H:Hp):List (List bJ×V)->List (List bJ×Addr×Value)->Prop:=Paired fun p q=>p.1=q.1/\H q.2.1=some (.tup (p.1.map kV))/\RelV p.2 q.2.2
theorem KT.val {H:Hp} {kvs:List (List bJ×V)} {xs:List (List bJ×Addr×Value)} (r:KT H kvs xs) (k:List bJ):RelO (di kvs k) ((atKey xs k).map (·.2)):=by
 induction r with
 | nil=>exact True.intro
 | @cons p q ps qs h t ih=>
  obtain ⟨h1,_,h2⟩:=h;by_cases e:p.1=k
  ·have e':q.1=k:=h1.symm.trans e
   have b:atKey (q::qs) k=some q.2:=by simp [atKey,find?_cons,e']
   rw [DO e,b];exact h2
  ·have e':¬q.1=k:=fun z=>e (h1.trans z)
   have b:atKey (q::qs) k=atKey qs k:=by simp [atKey,find?_cons,e']
   rw [DN e,b];exact ih
theorem KT.repl {H:Hp} {kvs:List (List bJ×V)} {xs:List (List bJ×Addr×Value)} (r:KT H kvs xs) (k:List bJ) {y:V} {u:Value} (ry:RelV y u) :
  KT H (kvs.map fun kv=>if kv.1=k then (kv.1,y) else kv) (xs.map (putAt k u)):=by
 induction r with
 | nil=>exact .nil
 | @cons p q ps qs h t ih=>
  rw [map_cons,map_cons];refine .cons ?_ ih
  obtain ⟨h1,h2,h3⟩:=h;unfold putAt;by_cases e:p.1=k
  ·rw [if_pos e,if_pos (h1.symm.trans e)];exact ⟨h1,h2,ry⟩
  ·rw [if_neg e,if_neg (fun z=>e (h1.trans z))];exact ⟨h1,h2,h3⟩
theorem KT.put {H:Hp} {kvs:List (List bJ×V)} {xs:List (List bJ×Addr×Value)} (r:KT H kvs xs) (k:List bJ) {b:Addr} {y:V} {u:Value} (hb:H b=some (.tup (k.map kV))) (ry:RelV y u) :
  KT H (dP kvs k y) (storedH xs k b u):=by
 have e:(kvs.any fun kv=>decide (kv.1=k))=(atKey xs k).isSome:=by
  rw [Jd,(r.val k).isSome_eq,Option.isSome_map]
 unfold dP storedH;rw [e];by_cases q:(atKey xs k).isSome=true
 ·rw [if_pos q,if_pos q];exact r.repl k ry
 ·rw [if_neg q,if_neg q];exact Paired.snoc r ⟨rfl,hb,ry⟩
theorem KT.keeps {H H':Hp} {kvs:List (List bJ×V)} {xs:List (List bJ×Addr×Value)} (r:KT H kvs xs) (ht:∀b ys,H b=some (.tup ys)->H' b=some (.tup ys)):KT H' kvs xs:=
 Paired.mapP r fun _ _ z=>⟨z.1,ht _ _ z.2.1,z.2.2⟩
section
variable {P:Program} {w:World} {H:Hp} {h:Heap} {a:Addr}
theorem zm {u:HO} (ok:HOk P w H h) (e:Rd H a u):ObjOk P w H h a u:=e.ok ok
theorem lM {kvs:List (bJ×V)} (ok:HOk P w H h) (e:Rd H a (.dK kvs)):kvs.length<=sizeLine/\(a==sysModules)=false/\∃vs,KV kvs vs/\h.DictOf (iV P w) a vs:=
 show ObjOk P w H h a (.dK kvs) from zm ok e
theorem vw {kvs:List (bJ×V)} (ok:HOk P w H h) (e:H a=some (.dK kvs)):kvs.length<=sizeLine/\(a==sysModules)=false/\∃vs,KV kvs vs/\h.DictOf (iV P w) a vs:=lM ok (.inl e)
theorem Dz {ks:List bJ} (ok:HOk P w H h) (e:H a=some (.tup (ks.map kV))):(tupleKind (iV P w)).is h ks a:=by
 obtain ⟨_,its,r,o,h1,h2,n,h3⟩:=(show ObjOk P w H h a (.tup (ks.map kV)) from ok a _ e);exact ⟨o,its.toArray,n,h1,h2,h3,by simpa using jl r⟩
theorem lK {kvs:List (List bJ×V)} (ok:HOk P w H h) (e:Rd H a (.dT kvs)):kvs.length<=sizeLine/\(a==sysModules)=false /\
  ∃xs,KT H kvs xs/\h.DictOfH (tupleKind (iV P w)) a xs:=by
 obtain ⟨z,y,xs,r,o,es,ep,h1,h2,h3,h4,h5⟩:=(show ObjOk P w H h a (.dT kvs) from zm ok e);refine ⟨z,y,xs,r,o,es,ep,h1,h2,h3,h4,fun x hx=>?_,h5⟩
 have all:∀{l:List (List bJ×V)} {m:List (List bJ×Addr×Value)},KT H l m->∀x∈m,(tupleKind (iV P w)).is h x.1 x.2.1:=by
  intro l m q;induction q with
  | nil=>intro x hx;exact nomatch hx
  | @cons p q ps qs hq t ih=>
   intro x hx;rcases MH hx with e | hx
   ·subst e
    exact Dz ok (by rw [<-hq.1];exact hq.2.1)
   ·exact ih x hx
 exact all r x hx
theorem Fq {kvs:List (List bJ×V)} (ok:HOk P w H h) (e:H a=some (.dT kvs)):kvs.length<=sizeLine/\(a==sysModules)=false /\
  ∃xs,KT H kvs xs/\h.DictOfH (tupleKind (iV P w)) a xs:=lK ok (.inl e)
end
def DGet (H:Hp) (a:Addr) (y:V) (r:Option V):Prop:=
 (∃kvs k,Rd H a (.dK kvs)/\y=kV k/\r=di kvs k)\/∃kvs k b,Rd H a (.dT kvs)/\y=.ref b/\H b=some (.tup (k.map kV))/\r=di kvs k
def DPut (H:Hp) (a:Addr) (y v:V) (H':Hp):Prop:=
 (∃kvs k,H a=some (.dK kvs)/\y=kV k/\kvs.length<sizeLine/\H'=bF H a (.dK (dP kvs k v))) \/
 ∃kvs k b,H a=some (.dT kvs)/\y=.ref b/\H b=some (.tup (k.map kV))/\kvs.length<sizeLine/\H'=bF H a (.dT (dP kvs k v))
theorem DGet.k {H:Hp} {a:Addr} {kvs:List (bJ×V)} {k:bJ} (e:H a=some (.dK kvs)):DGet H a (kV k) (di kvs k):=.inl ⟨kvs,k,.inl e,rfl,rfl⟩
theorem DPut.k {H:Hp} {a:Addr} {kvs:List (bJ×V)} {k:bJ} {v:V} (e:H a=some (.dK kvs)) (hl:kvs.length<sizeLine):DPut H a (kV k) v (bF H a (.dK (dP kvs k v))):=.inl ⟨kvs,k,e,rfl,hl,rfl⟩
section
variable {X:Cx} {pins:List (Addr×Obj)} {σ:St} {H:Hp} {s:Shared} {a:Addr} {y v:V} {u r:Value} {o:Option V} {A:Around} {E:Value->Shared->Prop}
theorem Inv.big (I:Inv X pins σ H s):sysModules<s.heap.objs.size:=by
 have h:mainGlobals<s.heap.objs.size:=(I.mod.glob.keeps I.bk).lt
 exact Nat.lt_trans (by decide) h
theorem rJ {Q:Value->Shared->Prop} (hu:A.units+1<cLine) (I:Inv X pins σ H s) (g:DGet H a y (some v)) (ry:RelV y u) (h:∀w' s',Inv X pins σ H s'->RelV v w'->Q w' s') :
  wpAny (model X.prog X.w) A (getItem (.ref a) u) Q E s:=by
 rcases g with ⟨kvs,k,e,ey,l⟩ | ⟨kvs,k,b,e,ey,eb,l⟩
 ·subst ey
  obtain ⟨z,hd,vs,rel,dd⟩:=lM I.hok e;obtain ⟨w',hw,rw'⟩:=RelO.some_of (v:=v) (o:=valueAt vs k) (by rw [l];exact rel.val k)
  exact wpAny_getItem_of (jk ry) dd.mapOf hw (h w' _ (I.tok _) rw')
 ·subst ey
  cases (show u=Value.ref b from ry)
  obtain ⟨z,hd,xs,rel,dd⟩:=lK I.hok e;obtain ⟨w',hw,rw'⟩:=RelO.some_of (v:=v) (o:=(atKey xs k).map (·.2)) (by rw [l];exact rel.val k)
  obtain ⟨p,hp,hp2⟩:=Option.map_eq_some_iff.mp hw;refine wpAny_getItem_heap (tupleKind_room_in1 hu) (Dz I.hok eb) dd hp ?_
  rw [hp2];exact h w' _ (I.tok _) rw'
theorem KG {Q:Value->Shared->Prop} (hu:A.units+1<cLine) (I:Inv X pins σ H s) (g:DGet H a y o) (ry:RelV y u) (h:∀s',Inv X pins σ H s'->Q (.bool o.isSome) s') :
  wpAny (model X.prog X.w) A (compareOp .In u (.ref a)) Q E s:=by
 rcases g with ⟨kvs,k,e,ey,l⟩ | ⟨kvs,k,b,e,ey,eb,l⟩
 ·subst ey
  obtain ⟨z,hd,vs,rel,dd⟩:=lM I.hok e;refine wpAny_in_of (jk ry) hd dd.mapOf ?_
  rw [<-(rel.val k).isSome_eq,<-l];exact h _ (I.tok _)
 ·subst ey
  cases (show u=Value.ref b from ry)
  obtain ⟨z,hd,xs,rel,dd⟩:=lK I.hok e;refine wpAny_in_heap (tupleKind_room_in1 hu) (Dz I.hok eb) hd dd ?_
  have q:=(rel.val k).isSome_eq
  rw [Option.isSome_map] at q;rw [<-q,<-l];exact h _ (I.tok _)
theorem yx {Q:Value->Shared->Prop} (hu:A.units+1<cLine) (I:Inv X pins σ H s) (g:DGet H a y o) (ry:RelV y u) (h:∀s',Inv X pins σ H s'->Q (.bool (!o.isSome)) s') :
  wpAny (model X.prog X.w) A (compareOp .NotIn u (.ref a)) Q E s:=by
 rcases g with ⟨kvs,k,e,ey,l⟩ | ⟨kvs,k,b,e,ey,eb,l⟩
 ·subst ey
  obtain ⟨z,hd,vs,rel,dd⟩:=lM I.hok e;refine wpAny_notIn_of (jk ry) hd dd.mapOf ?_
  rw [<-(rel.val k).isSome_eq,<-l];exact h _ (I.tok _)
 ·subst ey
  cases (show u=Value.ref b from ry)
  obtain ⟨z,hd,xs,rel,dd⟩:=lK I.hok e;refine wpAny_notIn_heap (tupleKind_room_in1 hu) (Dz I.hok eb) hd dd ?_
  have q:=(rel.val k).isSome_eq
  rw [Option.isSome_map] at q;rw [<-q,<-l];exact h _ (I.tok _)
theorem Ie {h':Heap} {t':Nat} {ob:HO} (I:Inv X pins σ H s) (mu:F7 (H a)) (hs:Heap.SameBut a s.heap h') (he:∃q,h'.get? a=some q) (new:ObjOk X.prog X.w (bF H a ob) h' a ob) :
  Inv X pins σ (bF H a ob) { s with heap:=h',toks:=t' }:=
 I.write (x:=a) (e:=a) mu (.inl rfl) (fun b q hb z=>(hs.2 b hb).trans z) he new
theorem vx {P:Program} {w:World} {H':Hp} {h':Heap} {kvs:List (bJ×V)} {vs:List (bJ×Value)} (z:kvs.length<=sizeLine) (hd:(a==sysModules)=false) (rel:KV kvs vs) (dd:h'.DictOf (iV P w) a vs) :
  ObjOk P w H' h' a (.dK kvs):=⟨z,hd,vs,rel,dd⟩
theorem rE {H':Hp} {Q:Unit->Shared->Prop} (hu:A.units+1<cLine) (I:Inv X pins σ H s) (g:DPut H a y v H') (ry:RelV y u) (rv:RelV v r) (h:∀s',Inv X pins σ H' s'->Q () s') :
  wpAny (model X.prog X.w) A (setItem (.ref a) u r) Q E s:=by
 rcases g with ⟨kvs,k,e,ey,l,eH⟩ | ⟨kvs,k,b,e,ey,eb,l,eH⟩
 ·subst ey eH
  obtain ⟨z,hd,vs,rel,dd⟩:=vw I.hok e;have hz:vs.length<=sizeLine:=by rw [<-rel.length];exact z
  have hl:(dP kvs k v).length<=sizeLine:=by have:=Jl kvs k v;omega
  refine wpAny_setItem_pairs (hsz:=hz) (jk ry) dd fun h' dd' hs=>h _ ?_
  have he:∃q,h'.get? a=some q:=let ⟨q,_,_,hq,_⟩:=dd';⟨q,hq⟩
  exact Ie I (by rw [e];exact True.intro) hs he (vx hl hd (rel.put k rv) dd')
 ·subst ey eH
  cases (show u=Value.ref b from ry)
  obtain ⟨z,hd,xs,rel,dd⟩:=Fq I.hok e;have hz:xs.length<=sizeLine:=by rw [<-Paired.length rel];exact z
  have hl:(dP kvs k v).length<=sizeLine:=by have:=Jl kvs k v;omega
  refine wpAny_setItem_heap (hsz:=hz) (tupleKind_room_in1 hu) (Dz I.hok eb) dd fun h' dd' hs=>h _ ?_
  obtain ⟨q,es,ep,hq,h2,h3,h4,_,h5⟩:=dd'
  refine Ie I (by rw [e];exact True.intro) hs ⟨q,hq⟩ ⟨hl,hd,_,(rel.put k eb rv).keeps fun c ys ec=>?_,q,es,ep,hq,h2,h3,h4,h5⟩
  rw [cO (EO ec e nofun)];exact ec
end
def F6 (i:Expr):Prop:=∀ov iv,subscripted i false ov iv=operate [ov,iv] (getItem ov iv)
theorem wQ {prog:Program} {w:World} {A:Around} {E:Value->Shared->Prop} {s:Shared} {env:Env} {value slice:Expr} {pos:Pos} {T id:String} {Q:Value->Shared->Prop}
  (hl:typeLookup (.type T) "__getitem__"=pure (some (.builtin id))) (hs:F6 slice)
  (h:wpAny (model prog w) A (eval value env) (fun o s₁=>wpAny (model prog w) A (eval slice env) (fun i s₂=>s₂.TypeIs o T/\wpAny (model prog w) A (getItem o i) Q E s₂) E s₁) E s) :
  wpAny (model prog w) A (eval (.Subscript value slice pos) env) Q E s:=by
 refine Subscript_ (wpAny_mono h (fun o s₁ h₁=>wpAny_mono h₁ (fun i s₂ h₂=>?_) fun _ _ x=>x) fun _ _ x=>x)
 obtain ⟨hT,h₂⟩:=h₂;unfold subscriptTail;refine MN ?_
 rw [getitemInPython_of_ne hT.not_modules];refine MN (wpAny_specialOf hT hl ?_)
 have fin:wpAny (model prog w) A (subscripted slice false o i) (fun r s₃=>wpAny (model prog w) A (letTemporaryGo value o r >>= fun _=>pure r) Q E s₃) E s₂:=by
  rw [hs o i];exact wpAny_operating (wpAny_mono h₂ (fun r s₃ h₃=>MN (wpAny_letTemporaryGo (MO h₃))) fun _ _ x=>x)
 first
  | exact MO (MN fin)
  | exact MN (MO (MN fin))
  | exact MN fin
theorem lP {X:Cx} {pins:List (Addr×Obj)} {σ:St} {H:Hp} {s:Shared} {a:Addr} {y:V} {o:Option V} (I:Inv X pins σ H s) (g:DGet H a y o):s.TypeIs (.ref a) "dict":=by
 rcases g with ⟨kvs,k,e,_,_⟩ | ⟨kvs,k,b,e,_,_,_⟩
 ·obtain ⟨_,_,vs,_,dd⟩:=lM I.hok e
  exact dd.typeIs
 ·obtain ⟨_,_,xs,_,dd⟩:=lK I.hok e
  exact dd.typeIs
def sZ (td ty:TE):TE:=fun σ H Q=>td σ H fun x H1=>ty σ H1 fun y H2=>∃a v,x=.ref a/\DGet H2 a y (some v)/\Q v H2
def AG (ty td:TE):TE:=fun σ H Q=>ty σ H fun y H1=>td σ H1 fun x H2=>∃a o,x=.ref a/\DGet H2 a y o/\Q (.bl o.isSome) H2
def Iv (ty td:TE):TE:=fun σ H Q=>ty σ H fun y H1=>td σ H1 fun x H2=>∃a o,x=.ref a/\DGet H2 a y o/\Q (.bl (!o.isSome)) H2
def oC (td ty tv:TE):TS:=fun D σ H=>tv σ H fun v H1=>td σ H1 fun x H2=>ty σ H2 fun y H3=>∃a H4,x=.ref a/\DPut H3 a y v H4/\D.nx σ H4
section
variable {X:Cx} {o i e value:Expr} {pos pos' tpos:Pos} {td ty tv:TE}
theorem xE (hu:X.A.units+1<cLine) (ho:PE X o td) (hi:PE X i ty) (hs:F6 i):PE X (.Subscript o i pos) (sZ td ty):=by
 intro pins s σ H Q I h;refine wQ PySem.F.slot_dict_getitem.lookup hs (bx (ho pins s σ H _ I h) fun u s1 ⟨x,H1,I1,rx,q1⟩=>bx (hi pins s1 σ H1 _ I1 q1) fun iv s2 ⟨y,H2,I2,ry,a,v,ex,g,q2⟩=>?_)
 subst ex;obtain rfl:u=Value.ref a:=rx
 exact ⟨lP I2 g,rJ hu I2 g ry fun w' s3 I3 rw'=>⟨v,H2,I3,rw',q2⟩⟩
theorem Bz (hu:X.A.units+1<cLine) (hi:PE X i ty) (ho:PE X o td):PC X .In i o (AG ty td):=by
 intro pins s σ H Q I h;refine bx (hi pins s σ H _ I h) fun iv s1 ⟨y,H1,I1,ry,q1⟩=>bx (ho pins s1 σ H1 _ I1 q1) fun u s2 ⟨x,H2,I2,rx,a,ov,ex,g,q2⟩=>?_
 subst ex;obtain rfl:u=Value.ref a:=rx
 exact KG hu I2 g ry fun s3 I3=>⟨.bl ov.isSome,H2,I3,rfl,q2⟩
theorem qy (hu:X.A.units+1<cLine) (hi:PE X i ty) (ho:PE X o td):PC X .NotIn i o (Iv ty td):=by
 intro pins s σ H Q I h;refine bx (hi pins s σ H _ I h) fun iv s1 ⟨y,H1,I1,ry,q1⟩=>bx (ho pins s1 σ H1 _ I1 q1) fun u s2 ⟨x,H2,I2,rx,a,ov,ex,g,q2⟩=>?_
 subst ex;obtain rfl:u=Value.ref a:=rx
 exact yx hu I2 g ry fun s3 I3=>⟨.bl (!ov.isSome),H2,I3,rfl,q2⟩
theorem oU (hu:X.A.units+1<cLine) (ho:PE X o td) (hi:PE X i ty) (hv:PE X value tv) (hs:swapsWith value (some (.Subscript o i pos')) pos.line X.env=pure false) :
  PS X (.Assign [.Subscript o i pos'] value pos) (oC td ty tv):=by
 intro pins s σ H D I h;refine wpAny_Assign_Subscript (bx (hv pins s σ H _ I h) fun r s1 ⟨v,H1,I1,rv,q1⟩=>bx (ho pins s1 σ H1 _ I1 q1) fun u s2 ⟨x,H2,I2,rx,q2⟩=>bx (hi pins s2 σ H2 _ I2 q2) fun iv s3 ⟨y,H3,I3,ry,a,H4,ex,g,q3⟩=>?_) hs
 subst ex;obtain rfl:u=Value.ref a:=rx
 exact rE hu I3 g ry rv fun s4 I4=>⟨σ,H4,I4,q3⟩
end
theorem lO {P:Program} {w:World} {H:Hp} (h:Heap) (hb:sysModules<h.objs.size):ObjOk P w H (h.push { cls:=.type "dict",data:=.dict #[] }) h.objs.size (.dK []):=
 ⟨Nat.zero_le _,beq_eq_false_iff_ne.mpr (Ne.symm (Nat.ne_of_lt hb)),[],.nil,Heap.DictOf.new h⟩
def sY:TE:=fun _ H Q=>∀p,H p=none->Q (.ref p) (bF H p (.dK []))
section
variable {X:Cx} {pos:Pos}
theorem uD:PE X (.Dict [] [] pos) sY:=fun pins s σ H Q I h=>
 wpAny_Dict_empty ⟨.ref s.heap.objs.size,_,I.laid (a:=s.heap.objs.size) (o:=.dK []) (t':=s.toks) (fun _ _ q=>MP _ q) (MQ _) (lO s.heap I.big),rfl,h _ (I.hok.fresh (MQ _))⟩
end
def HZ:List (TE×TE)->St->Hp->(List (V×V)->Hp->Prop)->Prop
 | [],_,H,Q=>Q [] H
 | (tk,tv)::r,σ,H,Q=>tk σ H fun x H1=>tv σ H1 fun y H2=>HZ r σ H2 fun ps H3=>Q ((x,y)::ps) H3
abbrev VV:List (V×V)->List (Value×Value)->Prop:=Paired fun p q=>RelV p.1 q.1/\RelV p.2 q.2
def HF (X:Cx) (pos:Pos) (keys:List (Option Expr)) (values:List Expr) (trs:List (TE×TE)):Prop:=
 ∀(pins:List (Addr×Obj)) (s:Shared) (σ:St) (H:Hp) (Q:List (V×V)->Hp->Prop),Inv X pins σ H s->HZ trs σ H Q ->
  wpAny (model X.prog X.w) X.A (evalPairs (pairTrees keys values X.env pos)) (fun vs s'=>∃ps H',Inv X pins σ H' s'/\VV ps vs/\Q ps H') X.xe s
theorem xw {X:Cx} {pos:Pos}:HF X pos [] [] []:=fun pins s σ H Q I h=>pairTrees_nil_walk ⟨[],H,I,.nil,h⟩
theorem uu {X:Cx} {pos:Pos} {k v:Expr} {ks:List (Option Expr)} {vs:List Expr} {tk tv:TE} {trs:List (TE×TE)} (hk:PE X k tk) (hv:PE X v tv) (hr:HF X pos ks vs trs) :
  HF X pos (some k::ks) (v::vs) ((tk,tv)::trs):=fun pins s σ H Q I h=>
 pairTrees_cons_walk (bx (hk pins s σ H _ I h) fun u s1 ⟨x,H1,I1,rx,q1⟩=>bx (hv pins s1 σ H1 _ I1 q1) fun w2 s2 ⟨y,H2,I2,ry,q2⟩=>
  bx (hr pins s2 σ H2 _ I2 q2) fun ws s3 ⟨ps,H3,I3,rel,q3⟩=>⟨(x,y)::ps,H3,I3,.cons ⟨rx,ry⟩ rel,q3⟩)
def zR (kvs more:List (bJ×V)):List (bJ×V):=more.foldl (fun acc kv=>dP acc kv.1 kv.2) kvs
theorem KV.merge:∀{more:List (bJ×V)} {rs:List (bJ×Value)} {kvs:List (bJ×V)} {vs:List (bJ×Value)},KV more rs->KV kvs vs->KV (zR kvs more) (merged vs rs):=by
 intro more rs kvs vs r;unfold KV at r;induction r generalizing kvs vs with
 | nil=>intro q;exact q
 | @cons p q ps qs h t ih=>
  intro r0;have e:KV (dP kvs p.1 p.2) (stored vs q.1 q.2):=by
   have:=r0.put p.1 h.2
   rw [<-h.1];exact this
  exact ih e
theorem eJ:∀(more kvs:List (bJ×V)),(zR kvs more).length<=kvs.length+more.length
 | [],kvs=>by show kvs.length<=kvs.length+0;omega
 | p::r,kvs=>by
  have h1:=eJ r (dP kvs p.1 p.2)
  have h2:=Jl kvs p.1 p.2
  show (zR (dP kvs p.1 p.2) r).length<=_
  rw [length_cons];omega
theorem ia {P:Program} {w:World}:∀{kvs:List (bJ×V)} {ws:List (Value×Value)},VV (kvs.map fun kv=>(kV kv.1,kv.2)) ws->∃rs,Carries (iV P w) ws rs/\KV kvs rs
 | [],_,r=>by rw [map_nil] at r;cases r;exact ⟨[],True.intro,.nil⟩
 | p::kvs,_,r=>by
  rw [map_cons] at r
  cases r with
  | @cons a b as bs h t=>
   obtain ⟨rs,c,q⟩:=ia (P:=P) (w:=w) t
   obtain ⟨b1,b2⟩:=b;exact ⟨(p.1,b2)::rs,⟨jk h.1,rfl,c⟩,.cons ⟨rfl,h.2⟩ q⟩
def zf (trs:List (TE×TE)):TE:=fun σ H Q=>∀p,H p=none->HZ trs σ (bF H p (.dK [])) fun ps H2=>H2 p=some (.dK [])/\∃kvs:List (bJ×V),ps=kvs.map (fun kv=>(kV kv.1,kv.2))/\kvs.length<=15/\Q (.ref p) (bF H2 p (.dK (zR [] kvs)))
theorem xD {X:Cx} {pos:Pos} {keys:List (Option Expr)} {values:List Expr} {trs:List (TE×TE)} (h:HF X pos keys values trs) (hall:keys.all (·.isSome)=true) (hl:keys.length=values.length) (h0:keys≠[])
  (h15:keys.length<=15):PE X (.Dict keys values pos) (zf trs):=by
 intro pins s σ H Q I q;have hn:=I.hok.fresh (MQ s.heap.objs.size)
 have I1:=I.laid (a:=s.heap.objs.size) (o:=.dK []) (h':=s.heap.push { cls:=.type "dict",data:=.dict #[] }) (t':=s.toks) (fun _ _ q=>MP _ q) (MQ _) (lO s.heap I.big)
 refine wpAny_Dict_walk (knd:=iV X.prog X.w) hall hl h0 h15 (bx (h pins _ σ _ _ I1 (q _ hn)) fun ws s2 ⟨ps,H2,I2,rel,e,kvs,ep,lk,q2⟩=>?_)
 subst ep;obtain ⟨rs,c,rk⟩:=ia (P:=X.prog) (w:=X.w) rel
 obtain ⟨z,hd,vs0,r0,dd⟩:=vw I2.hok e
 cases r0;refine ⟨rs,c,dd,fun h' dd' hs=>⟨.ref s.heap.objs.size,_,?_,rfl,q2⟩⟩
 have hz:(zR [] kvs).length<=sizeLine:=by
  have h1:=eJ kvs []
  rw [length_nil] at h1;rw [sizeLine_eq];omega
 have he:∃q,h'.get? s.heap.objs.size=some q:=let ⟨q,_,_,hq,_⟩:=dd';⟨q,hq⟩
 exact Ie I2 (by rw [e];exact True.intro) hs he (vx hz hd (rk.merge .nil) dd')
end L2
namespace T
open PySem PySem.Spec L2
open PyProof.Rows hiding St
def cJ (ns:List Int) (v:V):List (bJ×V):=ns.map fun n=>((Sum.inl n:bJ),v)
def uc:List V->Hp->VK->Prop:=fun xs H Q=>∃(p:Addr) (ns:List Int) (v:V),xs=[.ref p]/\H p=some (.dK (cJ ns v))/\ns.length<64/\∀l,H l=none->Q (.ref l) (bF H l (.lst ((PySem.W.sortI ns).map V.int)))
theorem jo {P:Program} {w:World}:∀{ns:List Int} {v:V} {vs:List (bJ×Value)} {us:List Value},KV (cJ ns v) vs->us.length=ns.length->(∀(j:Nat) u,us[j]?=some u->∃k x,vs[j]?=some (k,x)/\(iV P w).is k u=true)->IntsAre us ns
 | [],_,_,[],.nil,_,_=>.nil
 | n::ns,v,_,u::us,.cons r t,hl,h=>by
  obtain ⟨k,x,e,hk⟩:=h 0 u rfl
  cases e;have rk:(Sum.inl n:bJ)=k:=r.1
  have hs:∃t,u=Value.int n t:=by
   rcases wb (show gR _ u=true from hk) with ⟨i,t,e1,e2⟩ | ⟨y,t,e1,e2⟩
   ·rw [<-rk] at e1
    injection e1 with e1
    exact ⟨t,by rw [e2,e1]⟩
   ·rw [<-rk] at e1
    cases e1
  obtain ⟨t',rfl⟩:=hs;exact .cons _ _ (jo t (by simpa using hl) fun j u e=>h (j+1) u (by simpa using e))
 | [],_,_,_::_,_,hl,_=>by simp at hl
 | _::_,_,_,[],_,hl,_=>by simp at hl
theorem nR {X:Cx} (hc:X.calm=true):CallR X (.builtin "sorted") uc:=by
 intro pins s σ H xs us Q I rv h;obtain ⟨p,ns,v,rfl,hS,h64,q⟩:=h;obtain ⟨u,rfl,ru⟩:=rv.one
 cases ru;obtain ⟨hz,lo,vs,r,hD⟩:=vw I.hok hS;obtain ⟨ep,hat⟩:=hD.dictAt;have hl:vs.length=ns.length:=by rw [<-r.length];simp [cJ]
 have hb:=ja (n:=ns.length) (by omega)
 refine Calls.call_function_entry kind_sorted plain_sorted entry_sorted (args_sorted1 _) ?_
 unfold Builtin.«sorted»
 refine MN (m:=checkCount "sorted" 1 1 _) (MO ?_)
 refine MN (PySem.W.kdu_collect (PySem.W.kdl_dict (knd:=iV X.prog X.w) (kvs:=vs) (ep:=ep) lo) (I.ok.hd hc) hat (by rw [hl];omega) fun h' tk acc hk hacc=>?_)
 have hla:acc.toList.length=ns.length:=by rw [Array.length_toList,hacc.1,hl]
 have hI:IntsAre acc.toList ns:=jo (P:=X.prog) (w:=X.w) r hla fun j u e=>hacc.2 j u (by rw [<-Array.getElem?_toList];exact e)
 refine MN (wpAny_newList ?_ (by rw [hla];omega))
 have hoL:(h'.push { cls:=.type "list",data:=.seq acc.toList.toArray }).get? h'.objs.size=some (seqObj "list" acc.toList.toArray 0):=Heap.get?_push_size _ rfl
 refine MN (wpAny_holding (wpAny_call_entry slot_list_sort ⟨_,hoL,rfl⟩ entry_list_sort (list_sort_tree hoL hI (by rw [hla];exact h64) fun out ns' a1 a2 a3=>⟨_,rfl,?_⟩) (args_list_sort _)))
 have e:=PySem.W.eq_sortI a2 a3
 subst e;have hlen:(PySem.W.sortI ns).length=ns.length:=(PySem.W.sortI_perm ns).length_eq
 obtain ⟨n,ho⟩:=sortedHeap_at (out:=out) hoL
 have I1:L2.Inv X pins σ H { s with heap:=h',toks:=tk }:=I.kept (t':=tk) hk
 have kk:∀b o,h'.get? b=some o->(sortedHeap (h'.push { cls:=.type "list",data:=.seq acc.toList.toArray }) h'.objs.size acc.toList out).get? b=some o:=fun b o e=>by
  have hlt:=Heap.lt_size e
  rw [sortedHeap_old (Nat.ne_of_lt hlt) (by rw [Heap.size_push];exact Nat.lt_succ_of_lt hlt)]
  exact MP _ e
 exact MO ⟨_,rfl,.ref h'.objs.size,bF H h'.objs.size (.lst ((PySem.W.sortI ns).map V.int)),I1.laid (t':=tk) kk (MQ _) ⟨by rw [length_map,hlen];omega,out.toList,n,Iy a1,by simpa [seqObj] using ho⟩,rfl,q _ (I1.hok.fresh (MQ _))⟩
def sk:MR->Bool
 | .none=>true
 | _=>false
def dI (neg:Bool):MR->MR->Option MR
 | a,.none=>some (.bool (if neg then !sk a else sk a))
 | _,_=>none
theorem la {K:Fg} {H:Hp} {x:V} {a:MR} (r:Rep K H x a):decide (x=V.non)=sk a:=by
 cases r<;>simp [sk]
theorem ye {K:Fg}:GOp K (fun x y H Q=>y=.non/\Q (.bl (decide (x=.non))) H) (dI false):=by
 intro x y H Q a b d ra rb e k
 cases rb<;>simp only [dI] at e<;>try cases e
 exact ⟨rfl,by rw [la ra];exact k _ (.bl _)⟩
theorem vf {K:Fg}:GOp K (fun x y H Q=>y=.non/\Q (.bl (!decide (x=.non))) H) (dI true):=by
 intro x y H Q a b d ra rb e k
 cases rb<;>simp only [dI] at e<;>try cases e
 exact ⟨rfl,by rw [la ra];exact k _ (.bl _)⟩
theorem Ez {X:Cx} (R:Rm X):Ck X .Is (fun x y H Q=>y=.non/\Q (.bl (decide (x=.non))) H) (dI false):=⟨BI,ye⟩
theorem GD {X:Cx} (R:Rm X):Ck X .IsNot (fun x y H Q=>y=.non/\Q (.bl (!decide (x=.non))) H) (dI true):=⟨xH,vf⟩
def LG:MR->MR->Option MR
 | .str i,.str j=>if i.length+j.length<=sizeLine then some (.str (i++j)) else none
 | _,_=>none
def bz (fa fb:F1):F1:=aS fa fun p=>aS fb fun q=>fun Γ=>match p.d,q.d with
 | .list xs,.list ys=>if dA p xs&&dA q ys&&decide (xs.length+ys.length<=sizeLine) then .ok ⟨.lst .leaf,.list (xs++ys)⟩ Γ else .no
 | _,_=>.no
def LK (fa fb:F1):F1:=aS fa fun p=>aS fb fun q=>fun Γ=>match p.d,q.d with
 | .tuple xs,.tuple ys=>if !p.s.isView&&dA q ys&&!xs.isEmpty&&decide (xs.length+ys.length<=sizeLine) then .ok ⟨.leaf,.tuple (xs++ys)⟩ Γ else .no
 | _,_=>.no
def KA (fa fb:F1):F1:=aS fa fun p=>aS fb fun q=>fun Γ=>match p.d,q.d with
 | .tuple xs,.int k=>if !p.s.isView&&decide (1<=k)&&decide (k<=xs.length) then .ok ⟨.leaf,.tuple (xs.drop k.toNat)⟩ Γ else .no
 | _,_=>.no
def ug (K:Fg):R2:=fun x y H Q=>∃l b xs zs,x=.ref l/\y=.ref b/\SqL K H l xs/\SqL K H b zs/\xs.length+zs.length<=sizeLine/\∀p,H p=none->Q (.ref p) (bF H p (.lst (xs++zs)))
theorem yD {prog:Program} {w:World} {A:Around} {E:Value->Shared->Prop} {s:Shared} {l b:Addr} {vs ws:List Value} {Q:Value->Shared->Prop} (hl:s.heap.IsList l vs.toArray) (hb:s.heap.IsList b ws.toArray) (hz:vs.length+ws.length<=sizeLine)
  (h:Q (.ref s.heap.objs.size) { s with heap:=s.heap.push { cls:=.type "list",data:=.seq (vs++ws).toArray } }):wpAny (model prog w) A (binaryOp .Add (.ref l) (.ref b)) Q E s:=by
 obtain ⟨⟨cls,dd,data,sl⟩,ho,hc,n,hd⟩:=id hl;obtain ⟨⟨cls2,dd2,data2,sl2⟩,ho2,hc2,n2,hd2⟩:=id hb;simp only at hc hd hc2 hd2
 subst hc hd hc2 hd2;have e:vs.toArray++ws.toArray=(vs++ws).toArray:=by simp
 rw [<-e] at h;exact concat_meets ⟨_,ho,rfl⟩ ⟨_,ho2,rfl⟩ noFill_list_add seq_list_add PySem.F.slot_list_add PySem.F.entry_list_add (PySem.F.args_list_add_2 _ _) (list_addW l b vs.toArray ws.toArray n n2 dd dd2 sl sl2 (by simpa using hz)) ⟨ho,ho2,h⟩
theorem o8 {X:Cx}:OpR X (binaryOp .Add) (ug X.K):=by
 intro pins s σ H x y v u Q I rx ry h;obtain ⟨l,b,xs,zs,rfl,rfl,hH,hB,hz,q⟩:=h
 cases rx
 cases ry;obtain ⟨its,r,pl,z⟩:=I.list hH;obtain ⟨its2,r2,pl2,z2⟩:=I.list hB;refine yD pl.isList pl2.isList (by rw [<-r.length,<-r2.length];exact hz) ?_
 exact ⟨.ref _,_,I.lnew (t':=s.toks) (r.append r2) (by rw [length_append];exact hz),rfl,q _ I.fresh⟩
section
variable {K:Fg} {W:XW} {σ:St} {H:Hp} {Q:VK} {D:dz} {fa fb:F1} {fl:FL}
theorem Reps.app {vs ws:List V} {ds es:List MR} (h:Reps K H vs ds) (h':Reps K H ws es):Reps K H (vs++ws) (ds++es):=by
 refine ⟨by rw [length_append,length_append,h.1,h'.1],fun i v d e1 e2=>?_⟩
 by_cases hi:i<vs.length
 ·rw [getElem?_append_left hi] at e1
  rw [getElem?_append_left (by rw [<-h.1];exact hi)] at e2
  exact h.2 i v d e1 e2
 ·rw [getElem?_append_right (by omega)] at e1
  rw [getElem?_append_right (by rw [<-h.1];omega),<-h.1] at e2
  exact h'.2 _ v d e1 e2
theorem Reps.drop {vs:List V} {ds:List MR} (k:Nat) (h:Reps K H vs ds):Reps K H (vs.drop k) (ds.drop k):=by
 refine ⟨by rw [length_drop,length_drop,h.1],fun i v d e1 e2=>?_⟩
 rw [List.getElem?_drop] at e1 e2
 exact h.2 _ v d e1 e2
theorem Fv {G2 G1 O F:List Addr} (nd:(G2++(G1++O)++F).Nodup):(∀a∈G1,a∉O++F)/\(∀a∈G2,a∉O++F):=by
 rw [append_assoc,append_assoc] at nd;obtain ⟨_,n2,n3⟩:=ML nd;obtain ⟨_,_,n4⟩:=ML n2;exact ⟨fun a ha z=>n4 a ha a z rfl,fun a ha z=>n3 a ha a (ME _ z) rfl⟩
theorem AJ {G2 G1 O F:List Addr}:∀a∈O++F,a∈G2++(G1++O)++F:=fun a ha=>by
 rcases MG ha with z | z
 ·exact MF _ (ME _ (ME _ z))
 ·exact ME _ z
theorem Gu {He H1:Hp} {O:List Addr} {Fs Fs1:List (List Addr)} {Γ1:Ev} {v:V} {d:MR} (E:EnvOk K He O Fs1 H1 σ Γ1) (s:Same H H1) (n:∀a∈Fs1.flatten,a∈Fs.flatten\/H a=none)
  (hr:Rep K (bW H1 (O++Fs1.flatten)) v d):Aft K He O Fs H σ Γ1 ⟨.leaf,d⟩ v H1 [] Fs1:=
 ⟨s,by rw [nil_append];exact E,by rw [nil_append];exact n,.leaf (by rw [nil_append];exact hr)⟩
theorem t5 (h:tE K W (bz fa fb) σ H Q):sV (ug K) (tE K W fa) (tE K W fb) σ H Q:=by
 refine C4 (R:=fun v u H2=>ug K v u H2 Q) h fun He O Fs Γ2 p q v u H1 H2 G1 G2 Fs2 nd s1 s2 E new o1 o2 w=>?_
 obtain ⟨s,d⟩:=p;obtain ⟨s',d'⟩:=q;dsimp only at w o1 o2
 split at w
 ·rename_i xs ys
  cases hc:(dA ⟨s,.list xs⟩ xs&&dA ⟨s',.list ys⟩ ys&&decide (xs.length+ys.length<=sizeLine)) with
  | false=>rw [hc] at w;exact w.elim
  | true=>
   rw [hc] at w;simp only [Bool.and_eq_true,decide_eq_true_eq] at hc
   obtain ⟨⟨h1,h2⟩,h3⟩:=hc;obtain ⟨d1,d2⟩:=Fv E.nd;obtain ⟨p1,vs,rfl,q1,_,r1⟩:=o1.items (O':=O++Fs2.flatten) h1 AJ d1
   obtain ⟨p2,ws,rfl,q2,_,r2⟩:=o2.items (O':=O++Fs2.flatten) h2 AJ d2
   refine ⟨p1,p2,vs,ws,rfl,rfl,q1,q2,by rw [r1.1,r2.1];exact h3,fun p' hp'=>w _ _ _ _ (GS (E.drop (fun a ha=>ME _ (ME _ ha)) nd) (s1.trans s2) (fun a ha=>new a (ME _ (ME _ ha))) (r1.app r2) hp')⟩
 ·exact w.elim
end
theorem qk {K:Fg} {H:Hp} {ws:List V} {ns:List Int} (h:Reps K H ws (ns.map .int)):ws=ns.map V.int:=by
 obtain ⟨hwl,hw⟩:=h;apply ext_getElem?
 intro i;by_cases hi:i<ws.length
 ·have hi2:i<ns.length:=by rw [length_map] at hwl;omega
  have q:=hw i (ws[i]'hi) (.int (ns[i]'hi2)) (MI _) (by rw [getElem?_map,MI hi2];rfl)
  rw [MI hi,getElem?_map,MI hi2];generalize ws[i]'hi=u at q
  cases q;rfl
 ·rw [getElem?_eq_none (by omega),getElem?_eq_none (by rw [length_map] at hwl ⊢;omega)]
def fT (k:Str):List (Str×Int)->Option Int
 | []=>none
 | (x,i)::r=>if k=x then some i else fT k r
def KE (neg:Bool) (tab:List (Str×Int)) (fa:F1):F1:=aS fa fun p Γ=>match p.d with
 | .str k=>.ok ⟨.leaf,.bool (if neg then !(fT k tab).isSome else (fT k tab).isSome)⟩ Γ
 | _=>.no
def Fp (tab:List (Str×Int)) (fa:F1):F1:=aS fa fun p Γ=>match p.d with
 | .str k=>(match fT k tab with
  | some i=>.ok ⟨.leaf,.int i⟩ Γ
  | none=>.no)
 | _=>.no
def xY (i:Nat) (q:PV) (Γ:Ev):Out PV:=match Γ[i]?,q.d with
 | some (some ⟨.lst .leaf,.list ds⟩),.int k=>(match dQ ds.length k with
  | some j=>(match ds[j]? with
   | some d=>.ok ⟨.leaf,d⟩ Γ
   | none=>.no)
  | none=>.no)
 | _,_=>.no
def cU (i:Nat) (fb:F1):F1:=fun Γ=>if wA Γ[i]? then (fb Γ).bind (xY i) else .no
section
variable {K:Fg} {W:XW} {σ:St} {H:Hp} {Q:VK} {D:dz} {fa fb:F1} {fl:FL}
theorem xi {i:Nat} (h:tE K W (cU i fb) σ H Q):sV (Bm K) (bg i) (tE K W fb) σ H Q:=by
 obtain ⟨He,O,Fs,Γ,E,h⟩:=h;unfold cU at h
 cases ho:wA Γ[i]? with
 | false=>rw [ho] at h;exact h.elim
 | true=>
  rw [ho] at h;obtain ⟨ds,e0⟩:=gT ho;obtain ⟨l,vs,h1,h2,h3,_,_⟩:=E.chgF e0;refine ⟨.ref l,h1,?_⟩
  refine C3 (k:=xY i) ⟨He,O,Fs,Γ,E,h⟩ fun He O Fs Γ1 q u H1 G Fs1 nd A w=>?_
  unfold xY at w;split at w
  ·rename_i ds1 k e1 e2
   obtain ⟨l1,vs1,q1,q2,q3,q4,_⟩:=A.go.chgF e1;rw [h1] at q1
   cases q1;have r:=A.own.rep
   rw [e2] at r
   cases r
   cases hj:dQ ds1.length k with
   | none=>rw [hj] at w;exact w.elim
   | some j=>
    rw [hj] at w;have w:Wants K W He O Fs H σ Q (match ds1[j]? with | some d=>.ok ⟨.leaf,d⟩ Γ1 | none=>.no):=w
    cases hd:ds1[j]? with
    | none=>rw [hd] at w;exact w.elim
    | some d=>
     rw [hd] at w;have hjl:j<vs1.length:=by rw [q3];exact (MM hd).1
     have hv:vs1[j]?=some (vs1[j]'hjl):=MI _
     refine .inl ⟨l,vs1,k,vs1[j]'hjl,rfl,rfl,.of q2,HM q3 hj hv,?_⟩
     exact w _ _ _ _ (Gu A.go A.same A.newF (q4 j _ d hv hd))
  ·exact w.elim
def ny (p:PV):Bool:=match p with
 | ⟨.lst .leaf,.list ds⟩=>ds.all bo
 | _=>false
def zQ (n:Nat) (den:List MR->Res) (fl:FL):F1:=fun Γ=>(fl Γ).bind fun ps Γ'=>if ps.length=n then (match den (ps.map (·.d)) with
 | .ok p=>if ny p then .ok p Γ' else .no
 | _=>.no) else .no
theorem t7 {n:Nat} {den:List MR->Res} {E:XK} (h:tE K W (zQ n den fl) σ H Q):kz (qc K n den) [] E (tA K W fl) σ H Q:=by
 obtain ⟨He,O,Fs,Γ,E0,h⟩:=h;refine ⟨He,O,Fs,Γ,E0,?_⟩
 unfold zQ at h
 cases e:fl Γ with
 | er c Γ'=>rw [e] at h;exact h
 | no=>rw [e] at h;exact h
 | ok ps Γ1=>
  rw [e] at h;intro vs H1 Gs Fs1 A;have h:Wants K W He O Fs H σ Q (if ps.length=n then (match den (ps.map (·.d)) with | .ok p=>if ny p then .ok p Γ1 else .no | _=>.no) else .no):=h
  by_cases hn:ps.length=n
  case neg=>rw [if_neg hn] at h;exact h.elim
  rw [if_pos hn] at h;have hl:(vs++[]).length=n:=by rw [append_nil,A.len1];exact hn
  cases ed:den (ps.map (·.d)) with
  | er c=>rw [ed] at h;exact h.elim
  | no=>rw [ed] at h;exact h.elim
  | ok p=>
   rw [ed] at h;have h:Wants K W He O Fs H σ Q (if ny p then .ok p Γ1 else .no):=h
   have newF:∀a∈Fs1.flatten,a∈Fs.flatten\/H a=none:=fun a ha=>A.new a (ME _ ha)
   cases hc:ny p with
   | false=>rw [hc] at h;exact h.elim
   | true=>
    rw [hc] at h;have h:Wants K W He O Fs H σ Q (.ok p Γ1):=h
    refine ⟨hl,[],ps.map (·.d),nodup_nil,(fun _ z=>nomatch z),by rw [append_nil,DE];exact A.reps,?_⟩
    rw [ed];intro v H2 G r;unfold ny at hc;split at hc
    ·rename_i ds
     obtain ⟨l,us,rfl,rfl,hp,hul,hr⟩:=r.own.leaves;refine h (.ref l) H2 [l] Fs1 ⟨A.same.trans r.same,A.env.dropL.hide r.same r.nd r.fresh r.inH,fun a ha=>?_,Own.mkLeaves hp hul fun j u d e1 e2=>((hr j u d e1 e2).sc (List.all_eq_true.mp hc d (mem_of_getElem? e2))).rep⟩
     rcases MG ha with z | z
     ·exact .inr (A.same.free (r.fresh a z))
     ·exact newF a z
    ·cases hc
def vL (i:Nat) (a:Int) (p:PV) (Γ:Ev):eZ:=match p.d with
 | .int b=>if i<Γ.length then .nx (Γ.set i (MS (.int (a+b)))) else .no
 | _=>.no
def jb (i:Nat) (f:F1):FS:=fun Γ=>match Γ[i]? with
 | some (some ⟨.leaf,.int a⟩)=>fP f (vL i a) Γ
 | _=>.no
theorem Bg {i:Nat} (h:tS K W (jb i fa) D σ H):Ec i (tE K W fa) (LC fun i j=>i+j) D σ H:=by
 obtain ⟨He,O,Fs,Γ,E,h⟩:=h;unfold jb at h;split at h
 ·rename_i a e0
  obtain ⟨_,v,F,h1,h2,h3⟩:=E.slot i _ e0;have r:=h3.rep
  cases r;refine ⟨.int a,h1,?_⟩
  refine gF (D:=D) (k:=vL i a) ⟨He,O,Fs,Γ,E,h⟩ fun He O Fs Γ1 p u H1 G Fs1 _ fr A w=>?_
  unfold vL at w;split at w
  ·rename_i b eb
   have r:=A.own.rep
   rw [eb] at r
   cases r;by_cases hi:i<Γ1.length
   ·rw [if_pos hi] at w
    exact ⟨a,b,rfl,rfl,w _ _ _ (EnvOk.put (G:=[]) (p:=⟨.leaf,.int (a+b)⟩) (v:=.int (a+b)) A.go (.leaf (.int _)) rfl (fun a ha=>by simp at ha) hi)⟩
   ·rw [if_neg hi] at w;exact w.elim
  ·exact w.elim
 ·exact h.elim
def Kv (i:Nat) (p:PV) (Γ:Ev):eZ:=match Γ[i]?,p.d with
 | some (some ⟨.lst .leaf,.list ds⟩),.tuple es=>if dA p es&&decide (ds.length+es.length<=sizeLine) then .nx (Γ.set i (some ⟨.lst .leaf,.list (ds++es)⟩)) else .no
 | some (some ⟨.lst .leaf,.list ds⟩),.list es=>if dA p es&&decide (ds.length+es.length<=sizeLine) then .nx (Γ.set i (some ⟨.lst .leaf,.list (ds++es)⟩)) else .no
 | _,_=>.no
def JH (i:Nat) (f:F1):FS:=fun Γ=>if wA Γ[i]? then fP f (Kv i) Γ else .no
end
end T
namespace TQ
open PySem PySem.Spec L2 T
open PyProof.Rows hiding St
section
variable {X:Cx} {N gl:List Str} {vs cs ls lo gs:List Nat} {W:XW} {a b c e:Expr} {es:List Expr} {pos p:Pos} {fa fb fc:F1} {fl:FL} {ga gb:FB} {g1 g2 g:FS}
theorem ik (ha:Q (PE X a (tE X.K W fa))) (hb:Q (PE X b (tE X.K W fb))):Q (PE X (.BinOp a .Add b pos) (tE X.K W (bz fa fb))):=⟨have ha:=ha.p;have hb:=hb.p;aP (fm o8 ha hb) fun _ _ _=>t5⟩
theorem Ja (S:Cp X N gl vs cs ls lo gs) (i:Nat) {x:Str} (hi:N[i]?=some x) (hv:vs.contains i=true) (hb:Q (PE X b (tE X.K W fb))) (hs:GI b):Q (PE X (.Subscript (.Name x p) b pos) (tE X.K W (cU i fb))):=⟨by
 have hb:=hb.p
 have m:=S.nm x (mem_of_getElem? hi)
 exact aP (o4 Gp (nY (by rw [S.hN];exact hi) (S.vis i x hi hv) m.1 m.2) hb hs) fun _ _ _=>xi⟩
theorem Av {x:Str} {n:Nat} {den:List MR->Res} (S:Cp X N gl vs cs ls lo gs) (j:Nat) (hj:gl[j]?=some x) (hg:gs.contains j=true) (C:wm X x n den) (ha:Q (PA X (e::es) (tA X.K W fl))) (he:starEach (e::es) X.env=(false,eval e X.env)::starEach es X.env) (hpl:(backTo pos (starEach es X.env)).any (·.1)=false):Q (PE X (.Call (.Name x p) (e::es) [] pos) (tE X.K W (zQ n den fl))):=⟨by
 have ha:=ha.p
 obtain ⟨k,f,fd,ps,F,hr,hm,hk,hb⟩:=C;exact aP (Il F hr (S.g hj hg).1 hm hk hb .nil uG ha (S.g hj hg).2.1 he hpl) fun _ _ _=>t7⟩
theorem sL (S:Cp X N gl vs cs ls lo gs) (i:Nat) {x:Str} {pos':Pos} (hi:N[i]?=some x) (hl:ls.contains i=true) (ha:Q (PE X a (tE X.K W fa))):Q (PS X (.AugAssign (.Name x pos') .Add a pos) (tS X.K W (jb i fa))):=⟨have ha:=ha.p;cN (Bt (by rw [S.hN];exact S.nd) (by rw [S.hN];exact hi) (S.loc i x hi hl).1 ha B5 (S.loc i x hi hl).2) fun _ _ _=>Bg⟩
end
end TQ
namespace T
open PySem PySem.Spec L2
open PyProof.Rows hiding St
def HJ (x:Str):It where
 go:=fun i _=>i<x.cps.size
 yld:=fun i H v H'=>H'=H/\∃c,x.cps[i]?=some c/\v=.str ⟨#[c]⟩
 stop:=fun i _=>x.cps.size<=i
theorem pX {P:Program} {w:World} {K:Fg} {tg:Expr} (it:Addr) (x:Str) (t:Tok):vS P w K tg (HJ x) [it] it (fun i h=>h.IsStrIter it "str_ascii_iterator" x t i) where
 mem:=by simp
 obj:=fun i h st b hb=>by
  have e:b=it:=by simpa using hb
  subst e;obtain ⟨o,ho,hc,hd⟩:=st;exact ⟨o,ho,fun v z=>by rw [hd] at z;cases z⟩
 keep:=fun i h h' st k=>let ⟨o,ho,r⟩:=st;⟨o,k it (by simp) o ho,r⟩
 item:=by
  intro X hP hw hK hc i pins s σ H E I hf st hg;subst hP hw hK;obtain ⟨f0,f1,f2,f3,f4,f5⟩:=hf it (by simp)
  have W:=Walks.strAscii (prog:=X.prog) (w:=X.w) (I.ok.hd hc) it x t
  refine W.item i s _ _ hg st fun v h' tk hv st' kk=>?_
  obtain ⟨c,u,hx,rfl⟩:=hv;have I1:Inv X pins σ H { s with heap:=h',toks:=tk }:=I.turned (fun b o hb e=>kk b o (by simpa using hb) e) f0 f1 f3 f4 f5
  obtain ⟨o,ho,oc,od⟩:=id st'
  exact ⟨_,rfl,vh (s:={ s with heap:=h',toks:=tk }) (n := "str_ascii_iterator") ho oc od (by decide) ⟨.str ⟨#[c]⟩,H,I1,⟨u,rfl⟩,⟨rfl,c,hx,rfl⟩,st',fun b hb=>(hf b hb).1⟩⟩
 done:=by
  intro X hP hw hK hc i pins s σ H E I hf st hg;subst hP hw hK;obtain ⟨f0,f1,f2,f3,f4,f5⟩:=hf it (by simp)
  exact wpAny_pyNext_ascii_end (I.ok.hd hc) st (by have:x.cps.size<=i:=hg;simp;omega) fun h' eb=>⟨rfl,I.turned (t':=s.toks) (fun b o hb e=>eb b o hb e) f0 f1 f3 f4 f5⟩
 self:=fun _ _ _ _ _ st h=>wpAny_pyIter_striter_ascii st h
def vb (x:Str):TI:=fun σ H R=>R (HJ x) H
theorem xA {X:Cx} {tg:Expr} {x:Str} {j:Nat} {pos:Pos} (ha:x.cps.all (·<128)=true):PI X tg (.Constant (.str x) j pos) (vb x):=by
 intro pins s σ H R I h;refine Calls.Constant_str ?_
 refine wpAny_pyIter_ascii ha ?_
 have I1:=I.tok (s.toks+1)
 refine ⟨s.heap.objs.size,[s.heap.objs.size],_,_,H,rfl,I1.kept (t':=s.toks+1) fun b o e=>MP _ e,pX _ x _,⟨_,Heap.get?_push_size _ rfl,rfl,rfl⟩,fun b hb=>?_,h⟩
 have e:b=s.heap.objs.size:=by simpa using hb
 subst e;exact I1.fpOk (MQ _) (I1.hok.fresh (MQ _))
def zJ (x:Str):List V:=x.cps.toList.map fun c=>.str ⟨#[c]⟩
def FH (x:Str):List MR:=x.cps.toList.map fun c=>.str ⟨#[c]⟩
theorem xW {x:Str}:yO (HJ x) (fun _=>True) (zJ x):=by
 refine ⟨fun i H v _ hv=>?_,fun H _=>?_⟩
 ·unfold zJ at hv
  rw [getElem?_map,Array.getElem?_toList] at hv
  cases e:x.cps[i]? with
  | none=>rw [e] at hv;cases hv
  | some c=>
   rw [e] at hv
   cases hv;refine ⟨(Array.getElem?_eq_some_iff.mp e).1,fun y H' ⟨h1,c',h2,h3⟩=>⟨h1,?_⟩⟩
   rw [e] at h2
   cases h2;exact h3
 ·show x.cps.size<=(zJ x).length
  unfold zJ;rw [length_map,Array.length_toList];exact MQ _
theorem w5 {K:Fg} {H:Hp} {x:Str}:Reps K H (zJ x) (FH x):=by
 refine ⟨by simp [zJ,FH],fun i v d h1 h2=>?_⟩
 unfold zJ at h1;unfold FH at h2;rw [getElem?_map] at h1 h2
 cases e:x.cps.toList[i]? with
 | none=>rw [e] at h1;cases h1
 | some c=>
  rw [e] at h1 h2
  cases h1
  cases h2;exact .str _
def gX (x:Str):FI:=fun Γ=>.ok ⟨FH x,true⟩ Γ
theorem tY {K:Fg} {W:XW} {σ:St} {H:Hp} {R:It->Hp->Prop} {x:Str} (h:tI K W (gX x) σ H R):vb x σ H R:=by
 obtain ⟨He,O,Fs,Γ,E,h⟩:=h;exact h (HJ x) H Fs (zJ x) (fun _=>True) (Same.refl _) E (fun a ha=>.inl ha) xW trivial (fun _ _=>trivial) (fun _ _ _=>trivial) w5
def oQ:V->List V->Hp->VK->Prop:=fun x xs H Q=>∃(i j:Str) (k:Nat) (rest:List Nat),x=.str i/\xs=[.str j]/\Builtin.Str.occurrences i j 0 i.length 1=k::rest/\Q (.int k) H
theorem qM {X:Cx}:Do X "str.index" oQ:=by
 intro pins s σ H x xs v us Q I rx rv h;obtain ⟨i,j,k,rest,rfl,rfl,ho,q⟩:=h;obtain ⟨t,rfl⟩:=rx;obtain ⟨u,rfl,ru⟩:=rv.one;obtain ⟨t',rfl⟩:=ru;exact SC.index ho ⟨.int k,H,I.tok _,⟨_,rfl⟩,q⟩
def fx (x:Str):List MR->Option MR
 | [.str j]=>match Builtin.Str.occurrences x j 0 x.length 1 with
  | k::_=>some (.int k)
  | []=>none
 | _=>none
theorem yh {K:Fg} {x:Str}:GCall K (fun xs H Q=>oQ (.str x) xs H Q) (fx x):=by
 intro vs H Q ds d rs e k;unfold fx at e;split at e
 ·rename_i j
  obtain ⟨v,rfl,r⟩:=rs.one
  cases r;split at e
  ·rename_i k' rest ho
   cases e;exact ⟨x,j,k',rest,rfl,rfl,ho,k _ (.int _)⟩
  ·cases e
 ·cases e
theorem xh {K:Fg} {W:XW} {σ:St} {H:Hp} {Q:VK} {x:Str} {fl:FL} (h:tE K W (bG (fx x) fl) σ H Q):zg K "str" oQ (tC (.str x)) (tA K W fl) σ H Q:=
 ⟨rfl,t4 yh h⟩
theorem ce_idxS {X:Cx} {W:XW} {x:Str} {j:Nat} {p apos cpos:Pos} {e:Expr} {fe:F1} (ha:PE X e (tE X.K W fe)) (hs:starEach [e] X.env=[(false,eval e X.env)]) (hline:(apos.endLine==cpos.line)=true) :
  PE X (.Call (.Attribute (.Constant (.str x) j p) "index" apos) [e] [] cpos) (tE X.K W (bG (fx x) (ae fe ag))):=
 aP (jd (T := "str") (r:=oQ) F.plainAttrs_str F.slot_str_index F.type_str_index qM uB (da_cons ha da_nil hs) rfl (by rw [hs];rfl) hline hs rfl) fun _ _ _=>xh
end T
namespace TQ
open PySem PySem.Spec L2 T
open PyProof.Rows hiding St
theorem pS {X:Cx} {W:XW} {tg:Expr} {x:Str} {j:Nat} {pos:Pos} (ha:x.cps.all (·<128)=true):Q (PI X tg (.Constant (.str x) j pos) (tI X.K W (gX x))):=⟨pL (xA ha) fun _ _ _=>tY⟩
theorem pV {X:Cx} {W:XW} {x:Str} {j:Nat} {p apos cpos:Pos} {e:Expr} {fe:F1} (ha:Q (PE X e (tE X.K W fe))) (hs:starEach [e] X.env=[(false,eval e X.env)]) (hline:(apos.endLine==cpos.line)=true) :
  Q (PE X (.Call (.Attribute (.Constant (.str x) j p) "index" apos) [e] [] cpos) (tE X.K W (bG (fx x) (ae fe ag)))):=⟨T.ce_idxS ha.p hs hline⟩
end TQ
namespace T
open PySem PySem.Spec L2
open PyProof.Rows hiding St
def putN:List Nat->List PV->Ev->Option Ev
 | [],[],Γ=>some Γ
 | i::is,p::ps,Γ=>if decide (i<Γ.length)&&!p.s.isView then putN is ps (Γ.set i (some p)) else none
 | _,_,_=>none
def wU:List Nat->List V->St->St
 | i::is,v::vs,σ=>wU is vs (σ.set i (some v))
 | _,_,σ=>σ
def xu:List Sh->List MR->List PV
 | s::ss,d::ds=>⟨s,d⟩::xu ss ds
 | _,_=>[]
def Ay (p:PV):Option (List PV):=match p.s,p.d with
 | .tup ss,.tuple ds=>some (xu ss ds)
 | .leaf,.tuple ds=>some (ds.map fun d=>⟨.leaf,d⟩)
 | _,_=>none
def gJ (is:List Nat) (f:F1):FS:=fP f fun p Γ=>match Ay p with
 | some ps=>if ps.length=is.length then (match putN is ps Γ with
  | some Γ'=>.nx Γ'
  | none=>.no) else .no
 | none=>.no
def HP:List Nat->zL
 | []=>Cs
 | i::is=>pB (gName i) (HP is)
theorem IX {H:Hp} {Q:St->Hp->Prop}:∀{is:List Nat} {vs:List V} {σ:St},vs.length=is.length->Q (wU is vs σ) H->HP is vs σ H Q
 | [],[],_,_,q=>⟨rfl,q⟩
 | i::is,v::vs,σ,hl,q=>⟨v,vs,rfl,IX (is:=is) (vs:=vs) (by simpa using hl) q⟩
 | [],_::_,_,hl,_=>by simp at hl
 | _::_,[],_,hl,_=>by simp at hl
section
variable {K:Fg} {W:XW} {σ:St} {H:Hp} {D:dz} {fa:F1}
theorem IJ {He:Hp} {O:List Addr}:∀{is:List Nat} {ps:List PV} {vs:List V} {Gs:List (List Addr)} {Fs:List (List Addr)} {σ:St} {Γ Γ':Ev},vs.length=ps.length->Gs.length=ps.length->EnvOk K He (Gs.flatten++O) Fs H σ Γ->(∀a∈Gs.flatten,He a=none) ->
  (∀(k:Nat) v p G,vs[k]?=some v->ps[k]?=some p->Gs[k]?=some G->Own K (Gs.flatten++O++Fs.flatten) H p.s G v p.d)->putN is ps Γ=some Γ'->∃Fs',EnvOk K He O Fs' H (wU is vs σ) Γ'
 | [],[],[],[],Fs,σ,Γ,Γ',_,_,E,_,_,h=>by
  cases h;exact ⟨Fs,by simpa [wU] using E⟩
 | i::is,p::ps,v::vs,G::Gs,Fs,σ,Γ,Γ',h1,h2,E,fr,o,h=>by
  unfold putN at h;split at h
  ·rename_i hc
   simp only [Bool.and_eq_true,decide_eq_true_eq,Bool.not_eq_true'] at hc
   obtain ⟨hi,n1⟩:=hc;have fl:(G::Gs).flatten++O=G++(Gs.flatten++O):=by simp [append_assoc]
   rw [fl] at E o
   have E1:=EnvOk.put (i:=i) E (o 0 v p G rfl rfl rfl) n1 (fun a ha=>fr a (by simp [ha])) hi
   refine IJ (is:=is) (ps:=ps) (vs:=vs) (Gs:=Gs) (by simpa using h1) (by simpa using h2) E1 (fun a ha=>fr a (ME G ha)) (fun k v' p' G' a1 a2 a3=>?_) h
   refine (o (k+1) v' p' G' (by simpa using a1) (by simpa using a2) (by simpa using a3)).perm fun a ha=>?_
   rcases MG ha with z | z
   ·exact MF _ (ME _ z)
   ·obtain ⟨F,hF⟩:=E.lt hi
    rcases MG ((oa (G:=G) hF).mem_iff.mp (ME _ z)) with y | y
    ·exact MF _ (MF _ y)
    ·exact ME _ y
  ·cases h
 | [],_::_,_,_,_,_,_,_,_,_,_,_,_,h=>by cases h
 | _::_,[],_,_,_,_,_,_,_,_,_,_,_,h=>by cases h
 | [],[],_::_,_,_,_,_,_,h,_,_,_,_,_=>by simp at h
 | [],[],[],_::_,_,_,_,_,_,h,_,_,_,_=>by simp at h
 | _::_,_::_,[],_,_,_,_,_,h,_,_,_,_,_=>by simp at h
 | _::_,_::_,_::_,[],_,_,_,_,_,h,_,_,_,_=>by simp at h
theorem oT:∀{ss:List Sh} {ds:List MR},ss.length=ds.length->(xu ss ds).length=ds.length
 | [],[],_=>rfl
 | _::ss,_::ds,h=>by simp only [xu,length_cons];rw [oT (ss:=ss) (ds:=ds) (by simpa using h)]
 | [],_::_,h=>by simp at h
 | _::_,[],h=>by simp at h
theorem ui:∀{ss:List Sh} {ds:List MR} {k:Nat} {p:PV},(xu ss ds)[k]?=some p->ss[k]?=some p.s/\ds[k]?=some p.d
 | [],_,k,p,h=>by simp [xu] at h
 | _::_,[],k,p,h=>by simp [xu] at h
 | s::ss,d::ds,0,p,h=>by
  simp only [xu,List.getElem?_cons_zero,Option.some.injEq] at h
  subst h;exact ⟨rfl,rfl⟩
 | s::ss,d::ds,k+1,p,h=>by
  simp only [xu,List.getElem?_cons_succ] at h ⊢
  exact ui h
theorem Ip {n:Nat}:(List.replicate n ([]:List Addr)).flatten=[]:=by
 induction n with
 | zero=>rfl
 | succ n ih=>rw [replicate_succ,flatten_cons,ih];rfl
theorem w6 {is:List Nat} (h:tS K W (gJ is fa) D σ H):fg (tE K W fa) (Cr K is.length (HP is)) D σ H:=by
 refine gF h fun He O Fs Γ1 p v H1 G Fs1 _ fr A w=>?_
 obtain ⟨s,d⟩:=p;have o:=A.own
 have E:=A.env
 dsimp only at w o
 cases hu:Ay ⟨s,d⟩ with
 | none=>rw [hu] at w;exact w.elim
 | some ps=>
  rw [hu] at w;dsimp only at w;by_cases hl:ps.length=is.length
  ·rw [if_pos hl] at w
   cases hp:putN is ps Γ1 with
   | none=>rw [hp] at w;exact w.elim
   | some Γ'=>
    rw [hp] at w
    cases o with
    | view r=>cases hu
    | lst=>cases hu
    | leaf r=>
     cases d with
     | tuple ds=>
      cases hu
      cases r with
      | @tup a vs _ hq hlen hr=>
       obtain ⟨Fs',E'⟩:=IJ (is:=is) (vs:=vs) (Gs:=List.replicate ds.length []) (Fs:=Fs1) (by rw [hlen,length_map]) (by rw [List.length_replicate,length_map]) (by rw [Ip];exact E) (by rw [Ip];intro a ha;simp at ha) (fun k v' p' G' a1 a2 a3=>by
        rw [Ip];rw [getElem?_map] at a2
        cases ed:ds[k]? with
        | none=>rw [ed] at a2;cases a2
        | some d'=>
         rw [ed] at a2
         cases a2;have:G'=[]:=List.eq_of_mem_replicate (mem_of_getElem? a3)
         subst this;exact .leaf (hr k v' d' a1 ed)) hp
       exact ⟨a,vs,rfl,mr hid_le hq,by rw [hlen];simpa using hl,IX (by rw [hlen];simpa using hl) (w _ _ _ E')⟩
     | _=>cases hu
    | @tup ss a vs ds Fs0 hv hpa hn hlen hf hs nd q=>
     cases hu;have pl:=oT hs
     obtain ⟨Fs',E'⟩:=IJ (is:=is) (vs:=vs) (Gs:=Fs0) (Fs:=Fs1) (by rw [hlen,pl]) (by rw [hf,pl]) E fr (fun k v' p' G' a1 a2 a3=>by
      obtain ⟨z1,z2⟩:=ui a2;exact q k v' p'.d G' p'.s a1 z2 a3 z1) hp
     have hn2:vs.length=is.length:=by rw [hlen,<-pl];exact hl
     exact ⟨a,vs,rfl,.of hpa,hn2,IX hn2 (w _ _ _ E')⟩
  ·rw [if_neg hl] at w
   exact w.elim
end
end T
namespace TQ
open PySem PySem.Spec L2 T
open PyProof.Rows hiding St
variable {X:Cx} {N gl:List Str} {vs cs ls lo gs:List Nat} {W:XW} {a:Expr} {pos:Pos} {fa:F1}
end TQ
namespace T
open PySem PySem.Spec L2
open PyProof.Rows hiding St
def cutD (xs:List MR) (lo hi:Option Int):List MR:=(xs.drop (HT.sIx xs.length 0 lo)).take (HT.sIx xs.length xs.length hi-HT.sIx xs.length 0 lo)
theorem Reps.take {K:Fg} {H:Hp} {vs:List V} {ds:List MR} (k:Nat) (h:Reps K H vs ds):Reps K H (vs.take k) (ds.take k):=by
 refine ⟨by rw [length_take,length_take,h.1],fun i v d e1 e2=>?_⟩
 by_cases hi:i<k
 ·rw [List.getElem?_take,if_pos hi] at e1 e2
  exact h.2 _ v d e1 e2
 ·rw [List.getElem?_take,if_neg hi] at e1
  cases e1
theorem Reps.cut {K:Fg} {H:Hp} {vs:List V} {ds:List MR} (lo hi:Option Int) (h:Reps K H vs ds):Reps K H (rK vs lo hi) (cutD ds lo hi):=by
 unfold rK cutD;rw [h.1];exact (h.drop _).take _
def bP (g:Int->Option Int×Option Int) (fa fb:F1):F1:=aS fa fun p=>aS fb fun q=>fun Γ=>match p.d,q.d with
 | .list xs,.int k=>if dA p xs then .ok ⟨.lst .leaf,.list (cutD xs (g k).1 (g k).2)⟩ Γ else .no
 | _,_=>.no
section
variable {K:Fg} {W:XW} {σ:St} {H:Hp} {Q:VK} {fa fb:F1}
theorem HX {g:Int->Option Int×Option Int} (h:tE K W (bP g fa fb) σ H Q):tE K W fa σ H fun v H1=>tE K W fb σ H1 fun u H2=>∃k,u=.int k/\Bi K v (g k).1 (g k).2 H2 Q:=by
 refine C4 (R:=fun v u H2=>∃k,u=.int k/\Bi K v (g k).1 (g k).2 H2 Q) h fun He O Fs Γ2 p q v u H1 H2 G1 G2 Fs2 nd s1 s2 E new o1 o2 w=>?_
 obtain ⟨s,d⟩:=p;obtain ⟨s',d'⟩:=q;dsimp only at w o1 o2
 split at w
 ·rename_i xs k
  cases hc:dA ⟨s,.list xs⟩ xs with
  | false=>rw [hc] at w;exact w.elim
  | true=>
   rw [hc] at w;obtain ⟨d1,d2⟩:=Fv E.nd;obtain ⟨p1,vs,rfl,q1,_,r1⟩:=o1.items (O':=O++Fs2.flatten) hc AJ d1
   have ru:=o2.rep
   cases ru;exact ⟨k,rfl,p1,vs,rfl,q1,fun p' hp'=>w _ _ _ _ (GS (E.drop (fun a ha=>ME _ (ME _ ha)) nd) (s1.trans s2) (fun a ha=>new a (ME _ (ME _ ha))) (r1.cut _ _) hp')⟩
 ·exact w.elim
end
end T
namespace TQ
open PySem PySem.Spec L2 T
open PyProof.Rows hiding St
variable {X:Cx} {W:XW} {a b:Expr} {fa fb:F1} {p2 pos:Pos}
theorem wB (ha:Q (PE X a (tE X.K W fa))) (hb:Q (PE X b (tE X.K W fb))):Q (PE X (.Subscript a (.Slice none (some b) none p2) pos) (tE X.K W (bP (fun k=>(none,some k)) fa fb))):=⟨have ha:=ha.p;have hb:=hb.p;aP (IH Ir ha oW (Gz hb)) fun _ _ _=>HX⟩
theorem DU (ha:Q (PE X a (tE X.K W fa))) (hb:Q (PE X b (tE X.K W fb))):Q (PE X (.Subscript a (.Slice (some b) none none p2) pos) (tE X.K W (bP (fun k=>(some k,none)) fa fb))):=⟨have ha:=ha.p;have hb:=hb.p;aP (IH Ir ha (Gz hb) oW) fun _ _ _=>HX⟩
theorem mL {n:Int} {j:Nat} {p1 p3:Pos} (ha:Q (PE X a (tE X.K W fa))) (hb:Q (PE X b (tE X.K W fb))):Q (PE X (.Subscript a (.Slice (some b) (some (.UnaryOp .USub (.Constant (.int n) j p1) p3)) none p2) pos) (tE X.K W (bP (fun k=>(some k,some (-n))) fa fb))):=⟨have ha:=ha.p;have hb:=hb.p;aP (IH Ir ha (Gz hb) (Gz (zu sP HS))) fun σ H Q h=>by
  refine DI (HX h) fun v H1 q1=>DI q1 fun u H2 q2=>?_
  obtain ⟨k,rfl,q⟩:=q2;exact ⟨k,rfl,n,rfl,-n,rfl,q⟩⟩
end TQ
namespace T
open PySem PySem.Spec L2
open PyProof.Rows hiding St
def Bk (K:Fg):V->List V->Hp->VK->Prop:=fun x xs H Q=>∃(l:Addr) (ns:List Int) (k:Int) (j:Nat),x=.ref l/\xs=[.int k]/\SqL K H l (ns.map V.int)/\ns[j]?=some k/\(∀m,m<j->ns[m]?≠some k)/\Q (.int j) H
theorem pk:∀{us:List Value} {ns:List Int} {m:Nat} {u:Value} {k:Int},IntsAre us ns->us[m]?=some u->isInt k u=true->ns[m]?=some k
 | _,_,_,_,_,.nil,h,_=>by simp at h
 | _,_,0,_,_,.cons n t r,h,e=>by
  simp at h
  subst h;simp [isInt] at e
  simp [e]
 | _,_,m+1,_,_,.cons n t r,h,e=>by
  simp only [List.getElem?_cons_succ] at h ⊢
  exact pk r h e
theorem lB:∀{us:List Value} {ns:List Int} {m:Nat} {u:Value} {k:Int},IntsAre us ns->us[m]?=some u->ns[m]?=some k->isInt k u=true
 | _,_,_,_,_,.nil,h,_=>by simp at h
 | _,_,0,_,_,.cons n t r,h,e=>by
  simp at h e
  subst h e;simp [isInt]
 | _,_,m+1,_,_,.cons n t r,h,e=>by
  simp only [List.getElem?_cons_succ] at h e
  exact lB r h e
theorem qN {X:Cx}:Do X "list.index" (Bk X.K):=by
 intro pins s σ H x xs v us Q I rx rv h;obtain ⟨l,ns,k,j,rfl,rfl,hS,hj,hno,q⟩:=h
 cases rx;obtain ⟨u,rfl,ru⟩:=rv.one;obtain ⟨t,rfl⟩:=ru;obtain ⟨its,r,pl,hz⟩:=I.list hS;have hI:=Ih r
 have hl:its.length=ns.length:=by rw [<-r.length,length_map]
 have hjl:j<its.toArray.size:=by rw [size_toArray,hl];exact (MM hj).1
 obtain ⟨o,n,ho,hc,hd,hdt⟩:=pl;obtain ⟨ocls,odict,odata,oslots⟩:=o;simp only at hc hd hdt
 subst hc hd hdt;have hsm:(j:Int)<2 ^ 63-1:=by
  rw [length_map] at hz;have h1:sizeLine<2 ^ 62:=by decide
  have:=(MM hj).1
  omega
 refine call_meets F.slot_list_index ⟨_,ho,rfl⟩ F.entry_list_index (F.args_list_index_2 _ _) (SeqAt.list_indexAt l its.toArray n none oslots (.int k t) (isInt k) j hjl hsm ?_ fun m hm hmj=>?_) ⟨ho,fun y hy=>?_,⟨.int j,H,I.tok _,⟨_,rfl⟩,q⟩⟩
 ·exact lB hI (m:=j) (u:=its.toArray[j]) (by simp at hjl ⊢) hj
 ·cases e:isInt k its.toArray[m] with
  | false=>rfl
  | true=>exact absurd (pk hI (m:=m) (u:=its.toArray[m]) (by simp at hm ⊢) e) (hno m hmj)
 ·exact (eq_isInt k t hI y (by simpa using hy)).at _ _
def lA:Option (Option PV)->Bool
 | some (some ⟨.leaf,.list _⟩)=>true
 | _=>false
theorem u4 {o:Option (Option PV)} (h:lA o=true):∃ds,o=some (MS (.list ds)):=by
 unfold lA at h;split at h
 ·exact ⟨_,rfl⟩
 ·cases h
def zA (k:Int):List Int->Option Nat
 | []=>none
 | n::r=>if n=k then some 0 else (zA k r).map (·+1)
theorem HQ {k:Int}:∀{ns:List Int} {j:Nat},zA k ns=some j->ns[j]?=some k/\∀m,m<j->ns[m]?≠some k
 | [],_,h=>by cases h
 | n::r,j,h=>by
  unfold zA at h;by_cases e:n=k
  ·rw [if_pos e] at h
   cases h;exact ⟨by simp [e],fun m hm=>by omega⟩
  ·rw [if_neg e] at h
   cases hr:zA k r with
   | none=>rw [hr] at h;cases h
   | some j'=>
    rw [hr] at h
    cases h;obtain ⟨h1,h2⟩:=HQ hr;refine ⟨by simpa using h1,fun m hm=>?_⟩
    cases m with
    | zero=>simpa using e
    | succ m=>simpa using h2 m (by have:m+1<j'+1:=hm;omega)
def xV (i:Nat) (q:PV):Ev->Out PV:=fun Γ=>match Γ[i]?,q.d with
 | some (some ⟨.leaf,.list ds⟩),.int k=>(match rW ds with
  | some ns=>(match zA k ns with
   | some j=>.ok ⟨.leaf,.int (j:Nat)⟩ Γ
   | none=>.no)
  | none=>.no)
 | _,_=>.no
def nB (i:Nat) (fb:F1):F1:=fun Γ=>if lA Γ[i]? then (fb Γ).bind (xV i) else .no
section
variable {K:Fg} {W:XW} {σ:St} {H:Hp} {Q:VK} {fb:F1}
theorem Gv {He:Hp} {O:List Addr} {Fs:List (List Addr)} {Γ:Ev} {i:Nat} {ds:List MR} (E:EnvOk K He O Fs H σ Γ) (h:Γ[i]?=some (MS (.list ds))):∃l vs,σ[i]?=some (some (.ref l))/\SqL K H l vs/\Reps K H vs ds:=by
 obtain ⟨_,v,F,h1,_,o⟩:=E.slot i _ h;have r:=o.rep
 cases r with
 | @lst a vs _ hq hl hr=>exact ⟨a,vs,h1,hq,hl,hr⟩
theorem A7 {i:Nat} (h:tE K W (nB i fb) σ H Q):zg K "list" (Bk K) (bg i) (tA K W (ae fb ag)) σ H Q:=by
 obtain ⟨He,O,Fs,Γ,E,h⟩:=h;unfold nB at h
 cases ho:lA Γ[i]? with
 | false=>rw [ho] at h;exact h.elim
 | true=>
  rw [ho] at h;obtain ⟨ds,e0⟩:=u4 ho;obtain ⟨l,vs,h1,h2,h3⟩:=Gv E e0;refine ⟨.ref l,h1,.inl ⟨rfl,vs,h2⟩,tj ?_⟩
  refine C3 (k:=xV i) ⟨He,O,Fs,Γ,E,h⟩ fun He O Fs Γ1 q u H1 G Fs1 nd A w=>?_
  unfold xV at w;split at w
  ·rename_i ds1 k e1 e2
   obtain ⟨l1,vs1,q1,q2,q3⟩:=Gv A.go e1;rw [h1] at q1
   cases q1;have r:=A.own.rep
   rw [e2] at r
   cases r
   cases hi:rW ds1 with
   | none=>rw [hi] at w;exact w.elim
   | some ns=>
    rw [hi] at w;dsimp only at w
    cases hj:zA k ns with
    | none=>rw [hj] at w;exact w.elim
    | some j=>
     rw [hj] at w;rw [IY hi] at q3;have ev:=qk q3
     subst ev;obtain ⟨a1,a2⟩:=HQ hj;exact ⟨l,ns,k,j,rfl,rfl,q2,a1,a2,w _ _ _ _ (Gu A.go A.same A.newF (.int _))⟩
  ·exact w.elim
end
section
variable {X:Cx} {N gl:List Str} {vs cs ls lo gs:List Nat} {W:XW} {e:Expr} {fe:F1} {p:Pos}
theorem ce_ixN (S:Cp X N gl vs cs ls lo gs) (i:Nat) {x:Str} {apos cpos:Pos} (hi:N[i]?=some x) (hv:vs.contains i=true) (ha:PE X e (tE X.K W fe)) (hbase:attributeBase (.Name x p) "index" X.env (eval (.Name x p) X.env)=eval (.Name x p) X.env) (hs:starEach [e] X.env=[(false,eval e X.env)]) (hline:(apos.endLine==cpos.line)=true) :
  PE X (.Call (.Attribute (.Name x p) "index" apos) [e] [] cpos) (tE X.K W (nB i fe)):=by
 have m:=S.nm x (mem_of_getElem? hi)
 exact aP (jd (T := "list") (r:=Bk X.K) F.plainAttrs_list F.slot_list_index F.type_list_index qN (nY (by rw [S.hN];exact hi) (S.vis i x hi hv) m.1 m.2) (da_cons ha da_nil hs) hbase (by rw [hs];rfl) hline hs rfl) fun _ _ _=>A7
end
end T
namespace TQ
open PySem PySem.Spec L2 T
open PyProof.Rows hiding St
variable {X:Cx} {N gl:List Str} {vs cs ls lo gs:List Nat} {W:XW} {e a:Expr} {fe fa:F1} {p pos:Pos}
theorem sM (S:Cp X N gl vs cs ls lo gs) (i:Nat) {x:Str} {apos cpos:Pos} (hi:N[i]?=some x) (hv:vs.contains i=true) (ha:Q (PE X e (tE X.K W fe))) (hbase:attributeBase (.Name x p) "index" X.env (eval (.Name x p) X.env)=eval (.Name x p) X.env) (hs:starEach [e] X.env=[(false,eval e X.env)]) (hline:(apos.endLine==cpos.line)=true) :
  Q (PE X (.Call (.Attribute (.Name x p) "index" apos) [e] [] cpos) (tE X.K W (nB i fe))):=⟨T.ce_ixN S i hi hv ha.p hbase hs hline⟩
variable {X:Cx} {N gl:List Str} {vs cs ls lo gs:List Nat} {W:XW} {a:Expr} {pos p:Pos} {fa:F1}
variable {X:Cx} {N gl:List Str} {vs cs ls lo gs:List Nat} {W:XW} {a:Expr} {pos p:Pos} {fa:F1}
end TQ
namespace T
open PySem PySem.Spec L2
open PyProof.Rows hiding St
theorem Dd:(1000:Nat)<=sizeLine:=by decide
theorem Jk {i:Nat} {fc:FB} {fe:F1} {s:Sh} {c:D->Bool} {f:D->PV} {Γ:Ev} (hΓ:Γ.set i none=Γ):∀(r acc:List D),(∀d∈r,fc (Γ.set i (MS d))=.ok (c d) (Γ.set i (MS d))) ->
  (∀d∈r,c d=true->fe (Γ.set i (MS d))=.ok (f d) (Γ.set i (MS d))/\coer s (f d)=true)->acc.length+r.length<=sizeLine->pO i fc fe s r Γ acc=.ok (acc++((r.filter c).map fun d=>(f d).d)) Γ
 | [],acc,_,_,_=>by simp [pO]
 | d::r,acc,hc,he,hl=>by
  have h1:=hc d mem_cons_self
  have hl1:acc.length<sizeLine:=by simp at hl;omega
  have back:(Γ.set i (MS d)).set i none=Γ:=by rw [set_set];exact hΓ
  rw [pO,h1]
  cases hcd:c d with
  | false=>
   dsimp only;rw [if_pos hl1,back,Jk hΓ r acc (fun d hd=>hc d (MK _ hd)) (fun d hd=>he d (MK _ hd)) (by simp at hl;omega)]
   rw [List.filter_cons_of_neg (by rw [hcd];exact Bool.false_ne_true)]
  | true=>
   obtain ⟨h2,h3⟩:=he d mem_cons_self hcd;dsimp only;rw [h2];dsimp only;rw [h3,decide_eq_true hl1,Bool.and_self,if_pos rfl,back,Jk hΓ r (acc++[(f d).d]) (fun d hd=>hc d (MK _ hd)) (fun d hd=>he d (MK _ hd)) (by simp at hl ⊢;omega)]
   rw [List.filter_cons_of_pos hcd,map_cons,append_assoc];rfl
theorem gZ {s:Sh} {i:Nat} {fi:FI} {fc:FB} {fe:F1} {c:D->Bool} {f:D->PV} {ds:List D} {st:Bool} {Γ:Ev} (hi:fi Γ=.ok ⟨ds,st⟩ Γ) (hl:i<Γ.length) (hs:s.isView=false) (hn:ds.length<=1000)
  (hc:∀d∈ds,fc (Γ.set i (MS d))=.ok (c d) (Γ.set i (MS d))) (he:∀d∈ds,c d=true->fe (Γ.set i (MS d))=.ok (f d) (Γ.set i (MS d))/\coer s (f d)=true) :
  aB s i fi fc fe Γ=.ok ⟨.lst s,.list ((ds.filter c).map fun d=>(f d).d)⟩ Γ:=by
 have hb:=Dd
 unfold aB;rw [hi];unfold Out.bind;dsimp only;rw [Jk (c:=c) (f:=f) (by rw [set_set]) ds [] (fun d hd=>by rw [set_set];exact hc d hd) (fun d hd=>by rw [set_set];exact he d hd) (by simp;omega)]
 dsimp only;rw [hs,decide_eq_true hl];simp only [Bool.not_false,Bool.and_self,if_true,nil_append,set_set]
 have:Γ.set i (Γ.getD i none)=Γ:=by
  apply De
  rw [MJ,MI hl];rfl
 rw [this]
theorem C9 {s:Sh} {i:Nat} {fi:FI} {fe:F1} {f:D->PV} {ds:List D} {st:Bool} {Γ:Ev} (hi:fi Γ=.ok ⟨ds,st⟩ Γ) (hl:i<Γ.length) (hs:s.isView=false) (hn:ds.length<=1000)
  (he:∀d∈ds,fe (Γ.set i (MS d))=.ok (f d) (Γ.set i (MS d))/\coer s (f d)=true) :
  aB s i fi aT fe Γ=.ok ⟨.lst s,.list (ds.map fun d=>(f d).d)⟩ Γ:=by
 rw [gZ (fc:=aT) (c:=fun _=>true) (f:=f) hi hl hs hn (fun d hd=>rfl) fun d hd _=>he d hd,List.filter_eq_self.mpr fun _ _=>rfl]
theorem GJ {P:Nat->Ev->Prop} {i:Nat} {body:FS}:∀(ds:List D) (n:Nat) (Γ:Ev),P n Γ->(∀k d Γ,d∈ds->n<=k->k<n+ds.length->P k Γ->i<Γ.length/\∃Γ',body (Γ.set i (MS d))=.nx Γ'/\P (k+1) Γ')->∃Γ',cL i body ds Γ=.nx Γ'/\P (n+ds.length) Γ'
 | [],n,Γ,h,_=>⟨Γ,rfl,h⟩
 | d::r,n,Γ,h,st=>by
  obtain ⟨hi,Γ1,e1,h1⟩:=st n d Γ mem_cons_self (MQ _) (by simp) h
  obtain ⟨Γ2,e2,h2⟩:=GJ r (n+1) Γ1 h1 fun k d Γ hd a b c=>st k d Γ (MK _ hd) (by omega) (by simp;omega) c
  refine ⟨Γ2,?_,?_⟩
  ·rw [cL,if_pos hi,e1]
   exact e2
  ·rw [length_cons,show n+(r.length+1)=n+1+r.length by omega]
   exact h2
theorem IF {any:Bool} {α:Type} {xs:List α} {f:α->Bool}:mG (xs.map fun x=>.bool (f x))=some (xs.map f):=by
 induction xs with
 | nil=>rfl
 | cons x r ih=>rw [map_cons,mG,ih];rfl
theorem v7 {α:Type} {xs:List α} {f:α->Bool}:cQ false [.list (xs.map fun x=>.bool (f x))]=some (.bool (xs.all f)):=by
 show Option.map _ (mG _)=_
 rw [IF (any:=false)];simp [List.all_map]
section
variable {Γ Γ1 Γ2:Ev} {fa fb fc:F1} {fl:FL} {p q:PV} {ps:List PV} {d e:D} {s s' s2:Sh} {i j n:Nat}
theorem aw (h:Γ[i]?=some (MS d)):af i Γ=.ok ⟨.leaf,d⟩ Γ:=by unfold af;rw [h]
theorem eD (h:Γ[i]?=some (some ⟨.lst s,d⟩)):af i Γ=.ok ⟨.view,d⟩ Γ:=by unfold af;rw [h]
theorem DC (h:Γ[i]?=some (some p)):ck i Γ=.ok p (Γ.set i none):=by unfold ck;rw [h]
theorem aH:eK d Γ=.ok ⟨.leaf,d⟩ Γ:=rfl
theorem aF {g:D->D->Option D} (ha:fa Γ=.ok p Γ1) (hb:fb Γ1=.ok q Γ2) (hg:g p.d q.d=some d):aD g fa fb Γ=.ok ⟨.leaf,d⟩ Γ2:=by
 unfold aD aS;rw [ha];simp only [Out.bind];rw [hb];simp only [hg]
theorem sO {g:D->Option D} (ha:fa Γ=.ok p Γ1) (hg:g p.d=some d):eU g fa Γ=.ok ⟨.leaf,d⟩ Γ1:=by
 unfold eU aS;rw [ha];simp only [Out.bind,hg]
theorem ax (ha:fa Γ=.ok p Γ1) (hl:fl Γ1=.ok ps Γ2):ae fa fl Γ=.ok (p::ps) Γ2:=by
 unfold ae;rw [ha];simp only [Out.bind];rw [hl]
theorem ah:ag Γ=.ok [] Γ:=rfl
theorem bO {g:List D->Option D} (hl:fl Γ=.ok ps Γ1) (hg:g (ps.map (·.d))=some d):bG g fl Γ=.ok ⟨.leaf,d⟩ Γ1:=by
 unfold bG;rw [hl];simp only [Out.bind];rw [hg]
theorem cz {den:List D->Res} (hl:fl Γ=.ok ps Γ1) (hd:den (ps.map (·.d))=.ok p) (hn:ps.length=n) (hc:ps.all (coer .leaf)=true):ao n den fl Γ=.ok p Γ1:=by
 unfold ao;rw [hl];simp only [Out.bind,hn,hd,hc,if_true]
theorem dU {ds:List D} {k:Int} (ha:fa Γ=.ok ⟨s,.list ds⟩ Γ1) (hb:fb Γ1=.ok ⟨s',.int k⟩ Γ2) (hi:dQ ds.length k=some j) (hd:ds[j]?=some d) (hs:kh s j d=some s2):aj fa fb Γ=.ok ⟨s2,d⟩ Γ2:=by
 unfold aj aS;rw [ha];simp only [Out.bind];rw [hb];simp only [hi,hd,hs]
theorem ig {ds:List D} {k:Int} (ha:fa Γ=.ok ⟨s,.tuple ds⟩ Γ1) (hb:fb Γ1=.ok ⟨s',.int k⟩ Γ2) (hi:dQ ds.length k=some j) (hd:ds[j]?=some d) (hs:kh s j d=some s2):aj fa fb Γ=.ok ⟨s2,d⟩ Γ2:=by
 unfold aj aS;rw [ha];simp only [Out.bind];rw [hb];simp only [hi,hd,hs]
theorem b9 (hl:fl Γ=.ok ps Γ1) (hs:s.isView=false) (hc:ps.all (coer s)=true) (hn:decide (ps.length<=1000)=true):av s fl Γ=.ok ⟨.lst s,.list (ps.map (·.d))⟩ Γ1:=by
 have h2:ps.length<=sizeLine:=Nat.le_trans (of_decide_eq_true hn) Dd
 unfold av;rw [hl];simp only [Out.bind,hs,hc,decide_eq_true h2,Bool.not_false,Bool.and_self,if_true]
theorem cT (hl:fl Γ=.ok ps Γ1) (hc:ps.all tok=true) (hn:decide (ps.length<=1000)=true):bT fl Γ=.ok ⟨.tup (ps.map AA),.tuple (ps.map (·.d))⟩ Γ1:=by
 have h2:ps.length<=sizeLine:=Nat.le_trans (of_decide_eq_true hn) Dd
 unfold bT;rw [hl];simp only [Out.bind,hc,decide_eq_true h2,Bool.and_self,if_true]
theorem Jc {ds:List D} (ha:fa Γ=.ok ⟨s,.list ds⟩ Γ1) (ho:dA ⟨s,.list ds⟩ ds=true):vZ fa Γ=.ok ⟨.lst .leaf,.list ds⟩ Γ1:=by
 unfold vZ aS;rw [ha];simp only [Out.bind,ho,if_true]
theorem v_and {a b:Bool} (ha:fa Γ=.ok ⟨s,.bool a⟩ Γ) (hb:fb Γ=.ok ⟨.leaf,.bool b⟩ Γ):eh fa fb Γ=.ok ⟨.leaf,.bool (a&&b)⟩ Γ:=by
 unfold eh aS;rw [ha];simp only [Out.bind]
 cases a with
 | false=>rfl
 | true=>exact hb
theorem GK {g g':D->D->Option D} {b b':Bool} (ha:fa Γ=.ok p Γ) (hb:fb Γ=.ok q Γ) (hg:g p.d q.d=some (.bool b)) (hs:bo q.d=true) {z:PV} (hc:fc Γ=.ok z Γ) (hg':g' q.d z.d=some (.bool b')):mE g g' fa fb fc Γ=.ok ⟨.leaf,.bool (b&&b')⟩ Γ:=by
 unfold mE aS;rw [ha];simp only [Out.bind];rw [hb];simp only [hg]
 cases b with
 | false=>rfl
 | true=>simp only [hs,if_true,hc,hg',Bool.true_and]
theorem zd {ds:List D} {k:Int} (ha:fa Γ=.ok ⟨.lst .leaf,.list ds⟩ Γ1) (hb:fb Γ1=.ok ⟨s',.int k⟩ Γ2) (h0:-1000<=k) (h1:k<=1000) (hn:ds.length*k.toNat<=1000):jY fa fb Γ=.ok ⟨.lst .leaf,.list (List.replicate k.toNat ds).flatten⟩ Γ2:=by
 have h2:ds.length*k.toNat<=sizeLine:=Nat.le_trans hn Dd
 have h3:cj k=true:=by unfold cj;simp only [Bool.and_eq_true,decide_eq_true_eq];omega
 unfold jY aS;rw [ha];simp only [Out.bind];rw [hb];simp only [h3,decide_eq_true h2,Bool.and_self,if_true]
theorem gz (ha:fa Γ=.ok ⟨s,.bool b⟩ Γ1):aO aA fa Γ=.ok b Γ1:=by unfold aO;rw [ha];rfl
theorem cw (ha:fa Γ=.ok ⟨s,.bool b⟩ Γ1):aO ba fa Γ=.ok b Γ1:=by unfold aO;rw [ha];rfl
theorem de {ga:FB} {b:Bool} (h:ga Γ=.ok b Γ1):bU ga Γ=.ok (!b) Γ1:=by unfold bU;rw [h];rfl
theorem mq {ga gb:FB} {a b:Bool} (ha:ga Γ=.ok a Γ) (hb:gb Γ=.ok b Γ):ke ga gb Γ=.ok (a||b) Γ:=by
 unfold ke;rw [ha];simp only [Out.bind]
 cases a with
 | false=>exact hb
 | true=>rfl
theorem bQ {ds:List D} (ha:fa Γ=.ok ⟨s,.list ds⟩ Γ1) (ho:dA ⟨s,.list ds⟩ ds=true):aR fa Γ=.ok ⟨ds,!s.isView⟩ Γ1:=by
 unfold aR;rw [ha];simp only [Out.bind,ho,if_true]
theorem sG {k:Int} (hl:fl Γ=.ok ps Γ1) (hp:ps.map (·.d)=[.int k]) (h0:-1000<=k) (h1:k<=100000):fw fl Γ=.ok ⟨bX 0 k.toNat,true⟩ Γ1:=by
 have h3:cj k=true:=by unfold cj;simp only [Bool.and_eq_true,decide_eq_true_eq];omega
 unfold fw;rw [hl];simp only [Out.bind,hp,iz,h3,if_true]
theorem As {k m:Int} (hl:fl Γ=.ok ps Γ1) (hp:ps.map (·.d)=[.int k,.int m]) (h0:-1000<=k) (h1:k<=100000) (h2:-1000<=m) (h4:m<=100000):xZ fl Γ=.ok ⟨bX k (m-k).toNat,true⟩ Γ1:=by
 have h3:cj k=true:=by unfold cj;simp only [Bool.and_eq_true,decide_eq_true_eq];omega
 have h5:cj m=true:=by unfold cj;simp only [Bool.and_eq_true,decide_eq_true_eq];omega
 unfold xZ;rw [hl];simp only [Out.bind,hp,qj,h3,h5,Bool.and_self,if_true]
theorem ak {g1 g2:FS} {o:eZ} (h1:g1 Γ=.nx Γ1) (h2:g2 Γ1=o):ay g1 g2 Γ=o:=by unfold ay;rw [h1];exact h2
theorem wu {g1 g2:FS} (h1:g1 Γ=.rt p):ay g1 g2 Γ=.rt p:=by unfold ay;rw [h1]
theorem aY {c:FB} {a b:FS} {t:Bool} {o:eZ} (hc:c Γ=.ok t Γ1) (ht:t=true->a Γ1=o) (hf:t=false->b Γ1=o):b6 c a b Γ=o:=by
 unfold b6;rw [hc]
 cases t with
 | true=>exact ht rfl
 | false=>exact hf rfl
theorem aX (h:fa Γ=.ok p Γ1) (hs:p.s.isView=false):aU fa Γ=.rt p:=by
 unfold aU fP;rw [h];simp only [hs];rfl
theorem b7 (h:fa Γ=.ok p Γ1) (hc:coer .leaf p=true) (hi:i<Γ1.length):az false i fa Γ=.nx (Γ1.set i (MS p.d)):=by
 unfold az fP;rw [h];simp only [hi,if_true,hc,Bool.false_and];rfl
theorem zU (h:fa Γ=.ok p Γ1) (hs:p.s.isView=false) (hi:i<Γ1.length):az true i fa Γ=.nx (Γ1.set i (some p)):=by
 unfold az fP;rw [h];simp only [hi,if_true,hs,Bool.true_and,Bool.not_false]
theorem GX {ds:List D} (ho:Γ[i]?=some (some ⟨.lst s,.list ds⟩)) (h:fa Γ=.ok p Γ) (hc:coer s p=true) (hn:ds.length<=900):eu i fa Γ=.nx (Γ.set i (some ⟨.lst s,.list (ds++[p.d])⟩)):=by
 have h2:ds.length<sizeLine:=Nat.lt_of_lt_of_le (by omega:ds.length<1000) Dd
 unfold eu C2;rw [ho];simp only [if_true];unfold fP;rw [h];simp only;unfold yJ;rw [ho];simp only [hc,decide_eq_true h2,Bool.and_self,if_true]
theorem Ao {ds:List D} {k:Int} (ho:Γ[i]?=some (some ⟨.lst .leaf,.list ds⟩)) (h:fa Γ=.ok p Γ) (hk:fb Γ=.ok ⟨s,.int k⟩ Γ) (hi:dQ ds.length k=some j) (hc:coer .leaf p=true):fj i fa fb Γ=.nx (Γ.set i (some ⟨.lst .leaf,.list (ds.set j p.d)⟩)):=by
 unfold fj wA;rw [ho];simp only [if_true];unfold fP;rw [h];simp only;rw [hk];simp only;unfold AR;rw [ho];simp only [hi,hc,if_true]
theorem eB {fi:FI} {body:FS} {ds:List D} {o:eZ} (h:fi Γ=.ok ⟨ds,true⟩ Γ1) (hg:cL i body ds Γ1=o):dw i fi body Γ=o:=by unfold dw;rw [h];exact hg
end
end T
namespace KC
open PySem PySem.Spec L2 T
open PyProof.Rows hiding St
noncomputable def bY:MR:=.tuple [.str "a",.str "b",.str "c",.str "d",.str "e",.str "f"]
noncomputable def cF:MR:=.tuple [.int 0,.int 1]
noncomputable def dH:MR:=.int 24
noncomputable def lx:MR:=.tuple [.str "some until",.str "all until"]
noncomputable def ly:MR:=.tuple [.str "some always",.str "all always"]
noncomputable def gS:MR:=.tuple [.str "some next",.str "some until",.str "all always"]
noncomputable def wM:List (Str×Int):=[("yes",0),("not",1),("some next",1),("all next",1),("some always",1),("all always",1),("and",2),("or",2),("some until",2),("all until",2)]
noncomputable def lT:FS:=(aU (bG (cQ false) (ae (aB .leaf 1 (xZ (ae (eK (.int 1)) (ae (bG br (ae (af 0) ag)) ag))) aT (aD fU (aj (af 0) (aD gSub (af 1) (eK (.int 1)))) (aj (af 0) (af 1)))) ag)))
noncomputable def dq:List MR->Res:=aG 2 lT
noncomputable def lX:FS:=(aU (eh (bG (cQ false) (ae (aB .leaf 1 (aR (af 0)) aT (aD (cY false) (af 1) (eK bY))) ag)) (ao 1 dq (ae (af 0) ag))))
noncomputable def bf:List MR->Res:=aG 2 lX
noncomputable def lW:FS:=(aU (eh (bG (cQ false) (ae (aB .leaf 2 (aR (af 0)) aT (mE qX fU (eK (.int 0)) (af 2) (af 1))) ag)) (ao 1 dq (ae (af 0) ag))))
noncomputable def bH:List MR->Res:=aG 3 lW
noncomputable def lV:FS:=(aU (eh (aD pA (bG br (ae (af 0) ag)) (eK (.int 0))) (ao 2 bH (ae (af 0) (ae (af 1) ag)))))
noncomputable def dr:List MR->Res:=aG 2 lV
noncomputable def nH:FS:=(ay (az false 3 (bG br (ae (af 0) ag)))
  (ay (b6 (ke (aO aA (aD fU (af 3) (eK (.int 1)))) (ke (aO aA (aD pA (af 3) (eK dH))) (ke (aO aA (aD jq (bG br (ae (af 1) ag)) (af 3))) (aO aA (aD jq (bG br (ae (af 2) ag)) (af 3)))))) (aU (eK (.bool false))) aN)
  (ay (b6 (bU (aO ba (bG (cQ false) (ae (aB .leaf 4 (aR (af 0)) aT (aD (cY false) (af 4) (eK cF))) ag)))) (aU (eK (.bool false))) aN)
  (aU (eh (bG (cQ false) (ae (aB .leaf 5 (aR (af 1)) aT (ao 1 bf (ae (af 5) ag))) ag)) (bG (cQ false) (ae (aB .leaf 5 (aR (af 2)) aT (ao 2 dr (ae (af 5) (ae (af 3) ag)))) ag)))))))
noncomputable def cE:List MR->Res:=aG 6 nH
noncomputable def iR:FS:=(b6 (bU (aO ba (ao 3 cE (ae (aj (af 0) (eK (.int 0))) (ae (aj (af 0) (eK (.int 1))) (ae (aj (af 0) (eK (.int 2))) ag)))))) kJ aN)
noncomputable def aL:List MR->Res:=aG 1 iR
noncomputable def lU:FS:=(aU (Fo (aO ba (af 0)) (bG (cQ true) (ae (af 1) ag)) (bG (cQ false) (ae (af 1) ag))))
noncomputable def dy:List MR->Res:=aG 2 lU
noncomputable def eR:FS:=(ay (az true 4 (av .leaf ag))
  (ay (dw 5 (aR (af 2))
  (b6 (vK (aO aA (aD (dI false) (aj (af 3) (af 5)) (eK .none))) (aO ba (ao 2 dy (ae (aj (af 1) (af 5)) (ae (aB .leaf 6 (aR (aj (aj (af 0) (eK (.int 2))) (af 5))) aT (aD (dI true) (aj (af 3) (af 6)) (eK .none))) ag))))) (eu 4 (af 5)) aN))
  (aU (ck 4))))
noncomputable def bR:List MR->Res:=aG 7 eR
noncomputable def hJ:FS:=(ay (az true 4 (aB .leaf 8 (aR (aj (af 0) (eK (.int 0)))) aT (eK .none)))
  (ay (az false 5 (eK (.int 0)))
  (ay (az false 6 (af 3))
  (ay (si 1000 (aO ba (af 6))
  (ay (dw 7 (aR (af 6))
  (fj 4 (af 5) (af 7)))
  (ay (jb 5 (eK (.int 1)))
  (az false 6 (zQ 4 bR (ae (af 0) (ae (af 1) (ae (af 2) (ae (af 4) ag)))))))))
  (aU (ck 4))))))
noncomputable def eY:List MR->Res:=aG 9 hJ
noncomputable def hV:FS:=(ay (b6 (aO aA (aD fU (af 1) (bG br (ae (af 0) ag)))) (aU (aj (af 0) (af 1))) aN)
  (aU (eK (.int 0))))
noncomputable def aM:List MR->Res:=aG 2 hV
noncomputable def lY:FS:=(ay (b6 (aO aA (aD lG (af 0) (aD lE (eK (.int 10)) (eK (.int 18))))) (ay (az false 4 (af 0))
  (ay (dw 5 (fw (ae (af 1) ag))
  (az false 4 (aD qY (af 4) (af 2))))
  (aU (aD cK (af 4) (af 2))))) aN)
  (ay (az false 3 (aD cK (aD lF (aD aJ (aD aJ (aD cK (af 0) (eK (.int 1000000007))) (aD lF (eK (.int 1009)) (af 1))) (eK (.int 17))) (eK (.int 69621))) (eK (.int 2147483647))))
  (ay (az false 3 (aD cK (aD aJ (aD aJ (aD lF (af 3) (af 3)) (aD lF (eK (.int 40503)) (af 1))) (eK (.int 5))) (eK (.int 2147483629))))
  (aU (aD cK (aD qY (aD cK (aD lF (af 3) (eK (.int 48271))) (eK (.int 2147483647))) (eK (.int 32))) (af 2))))))
noncomputable def ai:List MR->Res:=aG 6 lY
noncomputable def d__law_world:FS:=(ay (az false 3 (aD aJ (eK (.int 1)) (aD cK (ao 2 aM (ae (af 0) (ae (af 1) ag))) (af 2))))
  (ay (az true 4 (av .leaf ag))
  (ay (az true 5 (av .leaf ag))
  (ay (az true 6 (av .leaf ag))
  (ay (dw 7 (fw (ae (af 3) ag))
  (ay (az false 8 (ao 2 aM (ae (af 0) (ae (aD aJ (aD aJ (af 1) (eK (.int 1))) (af 7)) ag))))
  (ay (eu 4 (ao 3 ai (ae (af 8) (ae (eK (.int 0)) (ae (eK (.int 2)) ag)))))
  (ay (eu 5 (aB .leaf 11 (fw (ae (eK (.int 3)) ag)) (aO aA (aD cP (ao 3 ai (ae (af 8) (ae (aD aJ (eK (.int 1)) (af 11)) (ae (eK (.int 2)) ag)))) (eK (.int 1)))) (aj (eK (.str "abc")) (af 11))))
  (ay (az false 9 (aB .leaf 10 (fw (ae (af 3) ag)) (aO aA (aD cP (ao 3 ai (ae (af 8) (ae (aD aJ (eK (.int 4)) (af 10)) (ae (aD aJ (eK (.int 2)) (bG fH (ae (aD pA (af 3) (eK (.int 3))) ag))) ag)))) (eK (.int 1)))) (af 10)))
  (ay (b6 (aO aA (aD cP (af 9) (av .leaf ag))) (az false 9 (av .leaf (ae (ao 3 ai (ae (af 8) (ae (aD aJ (eK (.int 4)) (af 3)) (ae (af 3) ag)))) ag))) aN)
  (eu 6 (af 9))))))))
  (aU (bT (ae (ck 4) (ae (ck 5) (ae (ck 6) ag))))))))))
noncomputable def m__law_world:List MR->Res:=aG 12 d__law_world
open PySem.SeqAt
noncomputable def EV (a b:D):Bool:=match fU a b with
 | some (.bool t)=>t
 | _=>false
noncomputable def RowI (ds:List D):Prop:=∀a∈ds,∃n,a=.int n
noncomputable def iS (ds:List D):Prop:=∀a∈ds,∃x,a=.str x/\PyData.strOk x=true
noncomputable def Row (ds:List D):Prop:=RowI ds\/iS ds
theorem yR (i:Int):shaped (.int i)=true:=by simp [shaped,PyData.canLay0,PyData.depth]
theorem AM {x:Str} (h:PyData.strOk x=true):shaped (.str x)=true:=by simp [shaped,PyData.canLay0,PyData.depth,h]
theorem Row.lt {ds:List D} {a b:D} (h:Row ds) (ha:a∈ds) (hb:b∈ds):fU a b=some (.bool (EV a b))/\lG a b=some (.bool (!EV a b)):=by
 rcases h with h | h
 ·obtain ⟨n,rfl⟩:=h a ha
  obtain ⟨m,rfl⟩:=h b hb;refine ⟨rfl,?_⟩
  show some (PyData.bool (decide (m<=n)))=some (.bool (!decide (n<m)))
  congr 2
  by_cases q:n<m
  ·simp [q,Int.not_le.mpr q]
  ·simp [q,Int.not_lt.mp q]
 ·obtain ⟨n,rfl,_⟩:=h a ha
  obtain ⟨m,rfl,_⟩:=h b hb;exact ⟨rfl,rfl⟩
noncomputable def zz (ds:List D) (d:D):Bool:=match d with
 | .int j=>EV (ds.getD (j-1).toNat .none) (ds.getD j.toNat .none)
 | _=>false
noncomputable def dm (ds:List D):Bool:=(bX 1 ((ds.length:Int)-1).toNat).all (zz ds)
theorem DG {lo:Int} {n:Nat} {d:D} (h:d∈bX lo n):∃k:Nat,k<n/\d=.int (lo+k):=by
 unfold bX at h;simp only [mem_map,mem_range] at h
 obtain ⟨k,hk,e⟩:=h;exact ⟨k,hk,e.symm⟩
theorem GG {lo:Int} {n:Nat}:(bX lo n).length=n:=by unfold bX;simp
theorem rX {n:Nat} {k:Nat} (h:k<n):dQ n (k:Int)=some k:=by
 unfold dQ;rw [if_pos (by omega),if_pos (by omega)]
 simp
theorem EX {n:Nat} {i:Int} (h0:0<=i) (h1:i<n):dQ n i=some i.toNat:=by
 unfold dQ;rw [if_pos h0,if_pos h1]
theorem B6 {i:Int} (h0:-1000<=i) (h1:i<=100000):cj i=true:=by
 unfold cj;simp only [Bool.and_eq_true,decide_eq_true_eq]
 omega
theorem Gn {ds:List D} {k:Nat} (h:k<ds.length):ds[k]?=some (ds.getD k .none):=by
 rw [MJ,MI h];rfl
theorem getD_mem {ds:List D} {k:Nat} (h:k<ds.length):ds.getD k .none∈ds:=mem_of_getElem? (Gn h)
theorem EU {ds:List D} {k:Nat} (h:Row ds) (hk:k<((ds.length:Int)-1).toNat):dQ ds.length (1+(k:Int)-1)=some k/\dQ ds.length (1+(k:Int))=some (k+1)/\ds[k]?=some (ds.getD k .none)/\ds[k+1]?=some (ds.getD (k+1) .none) /\
  fU (ds.getD k .none) (ds.getD (k+1) .none)=some (.bool (zz ds (.int (1+(k:Int)))))/\lG (ds.getD k .none) (ds.getD (k+1) .none)=some (.bool (!zz ds (.int (1+(k:Int))))):=by
 have h1:k<ds.length:=by omega
 have h2:k+1<ds.length:=by omega
 have l:=h.lt (getD_mem h1) (getD_mem h2)
 have e3:zz ds (.int (1+(k:Int)))=EV (ds.getD k .none) (ds.getD (k+1) .none):=by
  unfold zz;dsimp only;rw [show (1+(k:Int)-1).toNat=k by omega,show (1+(k:Int)).toNat=k+1 by omega]
 rw [e3];exact ⟨by rw [show (1+(k:Int)-1)=k by omega];exact rX h1,by rw [show (1+(k:Int))=((k+1:Nat):Int) by omega];exact rX h2,Gn h1,Gn h2,l.1,l.2⟩
theorem aW {n:Nat} {g:FS} {ds:List D} {p:PV} (h:g (aQ n ds)=.rt p):aG n g ds=.ok p:=by unfold aG;rw [h]
theorem eq_int {a b:Int}:cP (.int a) (.int b)=some (.bool (a==b)):=by
 unfold cP;rw [yR,yR,Bool.and_self,if_pos rfl,PyData.eqv]
theorem eO {ds:List D} (h:Row ds) (hl:ds.length<=100):dq [.list ds]=.ok ⟨.leaf,.bool (dm ds)⟩:=by
 have hc:aB .leaf 1 (xZ (ae (eK (.int 1)) (ae (bG br (ae (af 0) ag)) ag))) aT (aD fU (aj (af 0) (aD gSub (af 1) (eK (.int 1)))) (aj (af 0) (af 1))) [MS (.list ds),none] =
   .ok ⟨.lst .leaf,.list ((bX 1 ((ds.length:Int)-1).toNat).map fun d=>.bool (zz ds d))⟩ [MS (.list ds),none]:=by
  refine C9 (f:=fun d=>⟨.leaf,.bool (zz ds d)⟩) (st:=true) (As (k:=1) (m:=(ds.length:Int)) (ax aH (ax (bO (ax (aw rfl) ah) rfl) ah)) rfl (by omega) (by omega) (by omega) (by omega)) (by simp) rfl (by rw [GG];omega) fun d hd=>⟨?_,rfl⟩
  obtain ⟨k,hk,rfl⟩:=DG hd;obtain ⟨e1,e2,e3,e4,e5,e6⟩:=EU h hk;exact aF (dU (aw rfl) (aF (aw rfl) aH rfl) e1 e3 rfl) (dU (aw rfl) (aw rfl) e2 e4 rfl) e5
 exact aW (aX (bO (ax hc ah) v7) rfl)
noncomputable def Fc (a:D):Bool:=[PyData.str "a",.str "b",.str "c",.str "d",.str "e",.str "f"].any fun y=>PyData.eqv y a
noncomputable def B8 (a:D):Bool:=[PyData.int 0,.int 1].any fun y=>PyData.eqv y a
noncomputable def inR (n:Int) (a:D):Bool:=match a with
 | .int i=>decide (0<=i)&&decide (i<n)
 | _=>false
noncomputable def xT (d:D):Bool:=match d with
 | .list xs=>xs.all Fc&&dm xs
 | _=>false
noncomputable def zj (n:Int) (d:D):Bool:=match d with
 | .list xs=>decide (0<xs.length)&&(xs.all (inR n)&&dm xs)
 | _=>false
theorem AO:shaped bY=true:=by decide +kernel
theorem Ee:shaped cF=true:=by decide +kernel
theorem B7 {x:Str} (hx:PyData.strOk x=true):cY false (.str x) bY=some (.bool (Fc (.str x))):=by
 unfold cY bY;have:=AO
 unfold bY at this;simp only [AM hx,this,Bool.and_self,if_true]
 rfl
theorem Fb {i:Int}:cY false (.int i) cF=some (.bool (B8 (.int i))):=by
 unfold cY cF;have:=Ee
 unfold cF at this;simp only [yR,this,Bool.and_self,if_true]
 rfl
theorem iQ {ds:List D} (h:iS ds) (hl:ds.length<=100):bf [.list ds]=.ok ⟨.leaf,.bool (ds.all Fc&&dm ds)⟩:=by
 have hc:aB .leaf 1 (aR (af 0)) aT (aD (cY false) (af 1) (eK bY)) [MS (.list ds),none]=.ok ⟨.lst .leaf,.list (ds.map fun d=>.bool (Fc d))⟩ [MS (.list ds),none]:=by
  refine C9 (f:=fun d=>⟨.leaf,.bool (Fc d)⟩) (bQ (aw rfl) rfl) (by simp) rfl (by omega) fun d hd=>⟨?_,rfl⟩
  obtain ⟨x,rfl,hx⟩:=h d hd;exact aF (aw rfl) aH (B7 hx)
 exact aW (aX (v_and (bO (ax hc ah) v7) (cz (ax (aw rfl) ah) (eO (.inr h) hl) rfl rfl)) rfl)
theorem chain_ev {i n:Int}:qX (.int 0) (.int i)=some (.bool (decide (0<=i)))/\fU (.int i) (.int n)=some (.bool (decide (i<n))):=⟨rfl,rfl⟩
theorem Jp {ds:List D} {n:Int} (h:RowI ds) (hl:ds.length<=100):bH [.list ds,.int n]=.ok ⟨.leaf,.bool (ds.all (inR n)&&dm ds)⟩:=by
 have hc:aB .leaf 2 (aR (af 0)) aT (mE qX fU (eK (.int 0)) (af 2) (af 1)) [MS (.list ds),MS (.int n),none]=.ok ⟨.lst .leaf,.list (ds.map fun d=>.bool (inR n d))⟩ [MS (.list ds),MS (.int n),none]:=by
  refine C9 (f:=fun d=>⟨.leaf,.bool (inR n d)⟩) (bQ (aw rfl) rfl) (by simp) rfl (by omega) fun d hd=>⟨?_,rfl⟩
  obtain ⟨i,rfl⟩:=h d hd;exact GK aH (aw rfl) (chain_ev (n:=n)).1 rfl (aw rfl) chain_ev.2
 exact aW (aX (v_and (bO (ax hc ah) v7) (cz (ax (aw rfl) ah) (eO (.inl h) hl) rfl rfl)) rfl)
theorem iP {ds:List D} {n:Int} (h:RowI ds) (hl:ds.length<=100):dr [.list ds,.int n]=.ok ⟨.leaf,.bool (decide (0<ds.length)&&(ds.all (inR n)&&dm ds))⟩:=by
 have e:pA (.int (ds.length:Nat)) (.int 0)=some (.bool (decide (0<ds.length))):=by
  show some (PyData.bool (decide ((0:Int)<(ds.length:Int))))=_
  congr 2
  exact decide_eq_decide.mpr (by omega)
 exact aW (aX (v_and (aF (bO (ax (aw rfl) ah) rfl) aH e) (cz (ax (aw rfl) (ax (aw rfl) ah)) (Jp h hl) rfl rfl)) rfl)
structure Wk (b:Nat) (os ms ss:List D):Prop where
 o:RowI os
 m:∀r∈ms,∃xs,r=.list xs/\iS xs/\xs.length<=30
 s:∀r∈ss,∃xs,r=.list xs/\RowI xs/\xs.length<=30
 lo:os.length<=b
 lm:ms.length<=b
 ls:ss.length<=b
noncomputable def CS (os ms ss:List D):Bool:=decide ((os.length:Int)<1)||(decide ((24:Int)<os.length)||((!((ms.length:Int)==(os.length:Int)))||(!((ss.length:Int)==(os.length:Int)))))
noncomputable def isW (os ms ss:List D):Bool:=!CS os ms ss&&(os.all B8&&(ms.all xT&&ss.all (zj os.length)))
theorem ne_int {a b:Int}:jq (.int a) (.int b)=some (.bool (!(a==b))):=by
 unfold jq;rw [yR,yR,Bool.and_self,if_pos rfl,PyData.eqv]
theorem fz {b:Nat} {os ms ss:List D} (h:Wk b os ms ss) (hb:b<=100):cE [.list os,.list ms,.list ss]=.ok ⟨.leaf,.bool (isW os ms ss)⟩:=by
 have lo:=h.lo
 have lm:=h.lm
 have ls:=h.ls
 refine aW ?_
 refine ak (b7 (bO (ax (aw rfl) ah) rfl) rfl (by simp [aQ])) ?_
 have hif:(ke (aO aA (aD fU (af 3) (eK (.int 1)))) (ke (aO aA (aD pA (af 3) (eK dH))) (ke (aO aA (aD jq (bG br (ae (af 1) ag)) (af 3))) (aO aA (aD jq (bG br (ae (af 2) ag)) (af 3)))))) [MS (.list os),MS (.list ms),MS (.list ss),MS (.int (os.length:Nat)),none,none]
   = .ok (CS os ms ss) [MS (.list os),MS (.list ms),MS (.list ss),MS (.int (os.length:Nat)),none,none]:=
  mq (gz (aF (aw rfl) aH rfl)) (mq (gz (aF (aw rfl) aH rfl)) (mq (gz (aF (bO (ax (aw rfl) ah) rfl) (aw rfl) ne_int)) (gz (aF (bO (ax (aw rfl) ah) rfl) (aw rfl) ne_int))))
 cases hbad:CS os ms ss with
 | true=>
  rw [hbad] at hif;unfold isW;rw [hbad];exact wu (aY hif (fun _=>aX aH rfl) nofun)
 | false=>
  rw [hbad] at hif;refine ak (aY hif nofun (fun _=>rfl)) ?_
  have c1:aB .leaf 4 (aR (af 0)) aT (aD (cY false) (af 4) (eK cF)) [MS (.list os),MS (.list ms),MS (.list ss),MS (.int (os.length:Nat)),none,none]
    = .ok ⟨.lst .leaf,.list (os.map fun d=>.bool (B8 d))⟩ [MS (.list os),MS (.list ms),MS (.list ss),MS (.int (os.length:Nat)),none,none]:=by
   refine C9 (f:=fun d=>⟨.leaf,.bool (B8 d)⟩) (bQ (aw rfl) rfl) (by simp) rfl (by omega) fun d hd=>⟨?_,rfl⟩
   obtain ⟨i,rfl⟩:=h.o d hd;exact aF (aw rfl) aH Fb
  have c2:aB .leaf 5 (aR (af 1)) aT (ao 1 bf (ae (af 5) ag)) [MS (.list os),MS (.list ms),MS (.list ss),MS (.int (os.length:Nat)),none,none]
    = .ok ⟨.lst .leaf,.list (ms.map fun d=>.bool (xT d))⟩ [MS (.list os),MS (.list ms),MS (.list ss),MS (.int (os.length:Nat)),none,none]:=by
   refine C9 (f:=fun d=>⟨.leaf,.bool (xT d)⟩) (bQ (aw rfl) rfl) (by simp) rfl (by omega) fun d hd=>⟨?_,rfl⟩
   obtain ⟨xs,rfl,hx,hl⟩:=h.m d hd;exact cz (ax (aw rfl) ah) (iQ hx (by omega)) rfl rfl
  have c3:aB .leaf 5 (aR (af 2)) aT (ao 2 dr (ae (af 5) (ae (af 3) ag))) [MS (.list os),MS (.list ms),MS (.list ss),MS (.int (os.length:Nat)),none,none]
    = .ok ⟨.lst .leaf,.list (ss.map fun d=>.bool (zj os.length d))⟩ [MS (.list os),MS (.list ms),MS (.list ss),MS (.int (os.length:Nat)),none,none]:=by
   refine C9 (f:=fun d=>⟨.leaf,.bool (zj os.length d)⟩) (bQ (aw rfl) rfl) (by simp) rfl (by omega) fun d hd=>⟨?_,rfl⟩
   obtain ⟨xs,rfl,hx,hl⟩:=h.s d hd;exact cz (ax (aw rfl) (ax (aw rfl) ah)) (iP hx (by omega)) rfl rfl
  have t1:=de (cw (bO (ax c1 ah) v7))
  cases ho:os.all B8 with
  | false=>
   rw [ho] at t1;unfold isW;rw [ho,Bool.false_and,Bool.and_false];exact wu (aY t1 (fun _=>aX aH rfl) nofun)
  | true=>
   rw [ho] at t1;refine ak (aY t1 nofun (fun _=>rfl)) ?_
   unfold isW;rw [hbad,ho,Bool.not_false,Bool.true_and,Bool.true_and];exact aX (v_and (bO (ax c2 ah) v7) (bO (ax c3 ah) v7)) rfl
theorem CC {xs:List D} (h:shaped (.list xs)=true):cP (.list xs) (.list [])=some (.bool (decide (xs.length=0))):=by
 unfold cP;have h2:shaped (.list [])=true:=by decide +kernel
 rw [h,h2,Bool.and_self,if_pos rfl]
 cases xs with
 | nil=>rfl
 | cons a r=>rfl
theorem DH {xs:List D} (h:RowI xs):shaped (.list xs)=true:=by
 have c:PyData.canLayAll0 xs=true/\PyData.depthAll xs=0:=by
  induction xs with
  | nil=>exact ⟨rfl,rfl⟩
  | cons a r ih=>
   obtain ⟨n,rfl⟩:=h a mem_cons_self;have q:=ih fun x hx=>h x (MK _ hx)
   simp [PyData.canLayAll0,PyData.canLay0,PyData.depthAll,PyData.depth,q.1,q.2]
 simp [shaped,PyData.canLay0,PyData.depth,c.1,c.2]
theorem lt_int {a b:Int}:fU (.int a) (.int b)=some (.bool (decide (a<b))):=rfl
theorem pv {a b:Int}:lG (.int a) (.int b)=some (.bool (decide (b<=a))):=rfl
theorem add_int' {a b:Int}:aJ (.int a) (.int b)=some (.int (a+b)):=rfl
theorem sub_int' {a b:Int}:gSub (.int a) (.int b)=some (.int (a-b)):=rfl
theorem cy {a b:Int} (h:0<b):cK (.int a) (.int b)=some (.int (a % b)):=by
 show (if yF a b then _ else _)=_
 rw [if_pos (by unfold yF;simpa using h)]
theorem pH {a b:Int} (h:0<b) (h2:b<1073741824):qY (.int a) (.int b)=some (.int (a / b)):=by
 show (if yG a b then _ else _)=_
 rw [if_pos (by unfold yG;simp [h,h2])]
theorem pb {a b:Int} (h:-1000000000000<b) (h2:b<1000000000000):lF (.int a) (.int b)=some (.int (a*b)):=by
 show (if rS a b then _ else _)=_
 rw [if_pos (by unfold rS;simp only [Bool.or_eq_true,Bool.and_eq_true,decide_eq_true_eq];right;omega)]
theorem jg {a b:Int} (h:-1000000000000<a) (h2:a<1000000000000):lF (.int a) (.int b)=some (.int (a*b)):=by
 show (if rS a b then _ else _)=_
 rw [if_pos (by unfold rS;simp only [Bool.or_eq_true,Bool.and_eq_true,decide_eq_true_eq];left;omega)]
theorem oV {b:Int} (h:0<=b) (h2:b<=100):lE (.int 10) (.int b)=some (.int (10 ^ b.toNat)):=by
 show (if yE 10 b then _ else _)=_
 rw [if_pos (by unfold yE;simp only [Bool.and_eq_true,decide_eq_true_eq];exact ⟨⟨h,by omega⟩,by decide⟩)]
theorem DK {xs:List D} (h:RowI xs) {k:Int} (hk:0<=k):∃c,aM [.list xs,.int k]=.ok ⟨.leaf,.int c⟩:=by
 have t:aO aA (aD fU (af 1) (bG br (ae (af 0) ag))) [MS (.list xs),MS (.int k)]=.ok (decide (k<(xs.length:Int))) [MS (.list xs),MS (.int k)]:=
  gz (aF (aw rfl) (bO (ax (aw rfl) ah) rfl) lt_int)
 cases hlt:decide (k<(xs.length:Int)) with
 | true=>
  rw [hlt] at t;have hl:=of_decide_eq_true hlt
  have hk2:k.toNat<xs.length:=by omega
  obtain ⟨c,hc⟩:=h _ (getD_mem hk2);have g:=Gn hk2
  rw [hc] at g;exact ⟨c,aW (wu (aY t (fun _=>aX (dU (aw rfl) (aw rfl) (EX hk hl) g rfl) rfl) nofun))⟩
 | false=>
  rw [hlt] at t;exact ⟨0,aW (ak (aY t nofun (fun _=>rfl)) (aX aH rfl))⟩
theorem lS {c k b:Int} (hk:0<=k) (hk2:k<=1000) (hb:1<=b) (hb2:b<=1000):∃r,ai [.int c,.int k,.int b]=.ok ⟨.leaf,.int r⟩/\0<=r/\r<b:=by
 have t:aO aA (aD lG (af 0) (aD lE (eK (.int 10)) (eK (.int 18)))) [MS (.int c),MS (.int k),MS (.int b),none,none,none]=.ok (decide (10 ^ (18:Int).toNat<=c)) [MS (.int c),MS (.int k),MS (.int b),none,none,none]:=
  gz (aF (aw rfl) (aF aH aH (oV (by omega) (by omega))) pv)
 cases hge:decide (10 ^ (18:Int).toNat<=c) with
 | true=>
  rw [hge] at t;obtain ⟨Γ',e,l,x,hΓ⟩:=GJ (P:=fun _ Γ=>∃l x,Γ=[MS (.int c),MS (.int k),MS (.int b),none,MS (.int l),x]) (i:=5) (body:=az false 4 (aD qY (af 4) (af 2))) (bX 0 k.toNat) 0
   [MS (.int c),MS (.int k),MS (.int b),none,MS (.int c),none] ⟨c,none,rfl⟩ (fun m d Γ hd _ _ ⟨l,x,hΓ⟩=>by
    subst hΓ;refine ⟨by simp,_,b7 (aF (aw rfl) (aw rfl) (pH (by omega) (by omega))) rfl (by simp),_,_,rfl⟩)
  subst hΓ;exact ⟨_,aW (wu (aY t (fun _=>ak (b7 (aw rfl) rfl (by simp)) (ak (eB (sG (k:=k) (ax (aw rfl) ah) rfl (by omega) (by omega)) e) (aX (aF (aw rfl) (aw rfl) (cy (by omega))) rfl))) nofun)),Int.emod_nonneg _ (by omega),Int.emod_lt_of_pos _ (by omega)⟩
 | false=>
  rw [hge] at t;have m1:∀x:Int,0<=x % 2147483647/\x % 2147483647<2147483647:=fun x=>⟨Int.emod_nonneg _ (by omega),Int.emod_lt_of_pos _ (by omega)⟩
  refine ⟨_,aW (ak (aY t nofun (fun _=>rfl)) (ak (b7 (aF (aF (aF (aF (aF (aw rfl) aH (cy (by omega))) (aF aH (aw rfl) (jg (by omega) (by omega))) add_int') aH add_int') aH (pb (by omega) (by omega))) aH (cy (by omega))) rfl (by simp [aQ]))
   (ak (b7 (aF (aF (aF (aF (aw rfl) (aw rfl) (jg ?_ ?_)) (aF aH (aw rfl) (jg (by omega) (by omega))) add_int') aH add_int') aH (cy (by omega))) rfl (by simp [aQ]))
   (aX (aF (aF (aF (aF (aw rfl) aH (pb (by omega) (by omega))) aH (cy (by omega))) aH (pH (by omega) (by omega))) (aw rfl) (cy (by omega))) rfl)))),Int.emod_nonneg _ (by omega),Int.emod_lt_of_pos _ (by omega)⟩
  ·exact Int.lt_of_lt_of_le (by omega) (m1 _).1
  ·exact Int.lt_trans (m1 _).2 (by omega)
noncomputable def cR (c k b:Int):Int:=match ai [.int c,.int k,.int b] with
 | .ok ⟨_,.int r⟩=>r
 | _=>0
theorem wx {c k b:Int} (hk:0<=k) (hk2:k<=1000) (hb:1<=b) (hb2:b<=1000):ai [.int c,.int k,.int b]=.ok ⟨.leaf,.int (cR c k b)⟩:=by
 obtain ⟨r,e,_⟩:=lS (c:=c) hk hk2 hb hb2
 unfold cR;rw [e]
theorem Dx {c k b:Int} (hk:0<=k) (hk2:k<=1000) (hb:1<=b) (hb2:b<=1000):0<=cR c k b/\cR c k b<b:=by
 obtain ⟨r,e,h⟩:=lS (c:=c) hk hk2 hb hb2
 unfold cR;rw [e];exact h
theorem RowI.snoc {xs:List D} {i:Int} (h:RowI xs):RowI (xs++[.int i]):=fun a ha=>by
 rcases MG ha with z | z
 ·exact h a z
 ·exact ⟨i,List.mem_singleton.mp z⟩
noncomputable def abc (d:D):D:=match d with
 | .int k=>(match d5 [97,98,99] k with
  | some c=>.str ⟨#[c]⟩
  | none=>.none)
 | _=>.none
theorem uI {c:Nat} (h:c<1000):PyData.strOk ⟨#[c]⟩=true:=by
 unfold PyData.strOk;simp
 omega
noncomputable abbrev eW:FS:=(ay (az false 8 (ao 2 aM (ae (af 0) (ae (aD aJ (aD aJ (af 1) (eK (.int 1))) (af 7)) ag))))
  (ay (eu 4 (ao 3 ai (ae (af 8) (ae (eK (.int 0)) (ae (eK (.int 2)) ag)))))
  (ay (eu 5 (aB .leaf 11 (fw (ae (eK (.int 3)) ag)) (aO aA (aD cP (ao 3 ai (ae (af 8) (ae (aD aJ (eK (.int 1)) (af 11)) (ae (eK (.int 2)) ag)))) (eK (.int 1)))) (aj (eK (.str "abc")) (af 11))))
  (ay (az false 9 (aB .leaf 10 (fw (ae (af 3) ag)) (aO aA (aD cP (ao 3 ai (ae (af 8) (ae (aD aJ (eK (.int 4)) (af 10)) (ae (aD aJ (eK (.int 2)) (bG fH (ae (aD pA (af 3) (eK (.int 3))) ag))) ag)))) (eK (.int 1)))) (af 10)))
  (ay (b6 (aO aA (aD cP (af 9) (av .leaf ag))) (az false 9 (av .leaf (ae (ao 3 ai (ae (af 8) (ae (aD aJ (eK (.int 4)) (af 3)) (ae (af 3) ag)))) ag))) aN)
  (eu 6 (af 9)))))))
theorem kL {ts:List Int} (h:ts.Pairwise (· < ·)):dm (ts.map .int)=true:=by
 unfold dm;rw [all_eq_true];intro d hd;obtain ⟨k,hk,rfl⟩:=DG hd;rw [length_map] at hk;have h1:k<ts.length:=by omega
 have h2:k+1<ts.length:=by omega
 unfold zz;dsimp only;rw [show (1+(k:Int)-1).toNat=k by omega,show (1+(k:Int)).toNat=k+1 by omega]
 rw [MJ,MJ,getElem?_map,getElem?_map,MI h1,MI h2];have:=List.pairwise_iff_getElem.mp h k (k+1) h1 h2 (by omega)
 show decide (ts[k]<ts[k+1])=true
 exact decide_eq_true this
structure Gw (N:Int) (n:Nat) (os ms ss:List D):Prop where
 lo:os.length=n
 lm:ms.length=n
 ls:ss.length=n
 o:∀a∈os,a=.int 0\/a=.int 1
 m:∀r∈ms,∃xs,r=.list xs/\iS xs/\xs.length<=30/\xT r=true
 s:∀r∈ss,∃ts:List Int,r=.list (ts.map .int)/\ts.length<=30/\ts≠[]/\(∀t∈ts,0<=t/\t<N)/\ts.Pairwise (· < ·)
theorem rowI_map {ts:List Int}:RowI (ts.map .int):=fun a ha=>by
 obtain ⟨n,_,e⟩:=List.mem_map.mp ha;exact ⟨n,e.symm⟩
theorem Gw.wk {N:Int} {n b:Nat} {os ms ss:List D} (h:Gw N n os ms ss) (hb:n<=b):Wk b os ms ss:=
 ⟨fun a ha=>(h.o a ha).elim (fun e=>⟨0,e⟩) fun e=>⟨1,e⟩,fun r hr=>let ⟨xs,e,a,b,_⟩:=h.m r hr;⟨xs,e,a,b⟩,fun r hr=>let ⟨ts,e,a,_⟩:=h.s r hr;⟨_,e,rowI_map,by rw [length_map];exact a⟩,by rw [h.lo];exact hb,by rw [h.lm];exact hb,by rw [h.ls];exact hb⟩
theorem Gw.isW {n:Nat} {os ms ss:List D} (h:Gw (n:Int) n os ms ss) (h1:1<=n) (h24:n<=24):isW os ms ss=true:=by
 unfold KC.isW CS;rw [h.lo,h.lm,h.ls];have e1:decide ((n:Int)<1)=false:=decide_eq_false (by omega)
 have e2:decide ((24:Int)<n)=false:=decide_eq_false (by omega)
 rw [e1,e2];simp only [beq_self_eq_true,Bool.not_true,Bool.or_self,Bool.not_false,Bool.true_and,Bool.and_eq_true,all_eq_true]
 refine ⟨fun a ha=>?_,fun r hr=>?_,fun r hr=>?_⟩
 ·rcases h.o a ha with rfl | rfl<;>rfl
 ·obtain ⟨xs,_,_,_,e⟩:=h.m r hr
  exact e
 ·obtain ⟨ts,rfl,h2,h3,h4,h5⟩:=h.s r hr
  unfold zj;simp only [Bool.and_eq_true,decide_eq_true_eq,length_map,all_eq_true]
  refine ⟨by cases ts with | nil=>exact absurd rfl h3 | cons a r=>simp,fun a ha=>?_,kL h5⟩
  obtain ⟨t,ht,rfl⟩:=List.mem_map.mp ha;have:=h4 t ht
  unfold inR;simp only [Bool.and_eq_true,decide_eq_true_eq]
  exact this
theorem Km (c0 c1 c2:Bool):xT (.list (((if c0 then [PyData.str ⟨#[97]⟩] else [])++((if c1 then [PyData.str ⟨#[98]⟩] else [])++(if c2 then [PyData.str ⟨#[99]⟩] else [])))))=true:=by
 cases c0<;>cases c1<;>cases c2<;>decide +kernel
theorem AW (n:Nat) (c:D->Bool):∃ts:List Int,((bX 0 n).filter c).map (fun d=>d)=ts.map .int/\(∀t∈ts,0<=t/\t<(n:Int))/\ts.Pairwise (· < ·)/\ts.length<=n:=by
 refine ⟨((List.range n).map fun i=>(0:Int)+(i:Nat)).filter fun i=>c (.int i),?_,fun t ht=>?_,?_,?_⟩
 ·rw [List.map_id']
  unfold bX;rw [show (fun i:Nat=>PyData.int (0+(i:Int)))=(PyData.int∘fun i:Nat=>(0:Int)+(i:Nat)) from rfl,<-map_map,List.filter_map]
  rfl
 ·obtain ⟨h1,_⟩:=List.mem_filter.mp ht
  obtain ⟨i,hi,rfl⟩:=List.mem_map.mp h1;rw [mem_range] at hi;omega
 ·refine List.Pairwise.filter _ ?_
  rw [pairwise_map];exact List.pairwise_lt_range.imp fun h=>by omega
 ·refine Nat.le_trans (length_filter_le _ _) ?_
  simp
noncomputable abbrev W3:Sh:=.tup [.lst .leaf,.lst .leaf,.lst .leaf]
noncomputable abbrev cX (os ms ss:List D):D:=.tuple [.list os,.list ms,.list ss]
theorem fo {n:Nat} {g:FS} {ds:List D} {Γ:Ev} (h:g (aQ n ds)=.nx Γ):aG n g ds=.ok ⟨.leaf,.none⟩:=by unfold aG;rw [h]
theorem kg {Γ Γ1:Ev} {fa:F1} {p:PV} (h:fa Γ=.ok p Γ1):bq fa Γ=.nx Γ1:=by unfold bq fP;rw [h]
theorem rC {b:Nat} {os ms ss:List D} (h:Wk b os ms ss) (hb:b<=100) (hw:isW os ms ss=true):aL [cX os ms ss]=.ok ⟨.leaf,.none⟩:=by
 have t:bU (aO ba (ao 3 cE (ae (aj (af 0) (eK (.int 0))) (ae (aj (af 0) (eK (.int 1))) (ae (aj (af 0) (eK (.int 2))) ag))))) [MS (cX os ms ss)]=.ok (!(isW os ms ss)) [MS (cX os ms ss)]:=
  de (cw (cz (ax (ig (j:=0) (aw rfl) aH rfl rfl rfl) (ax (ig (j:=1) (aw rfl) aH rfl rfl rfl) (ax (ig (j:=2) (aw rfl) aH rfl rfl rfl) ah))) (fz h hb) rfl rfl))
 rw [hw] at t;exact fo (aY t nofun (fun _=>rfl))
theorem lb {d:D} (h:shaped d=true):jq d d=some (.bool false):=by
 unfold jq;rw [h,Bool.and_self,if_pos rfl,PySem.SeqAt.eqv_refl _ (canLay_of_shaped h)];rfl
noncomputable def dl (S:List (List Int)):List D:=S.map fun ts=>.list (ts.map .int)
structure Sw (n:Nat) (S:List (List Int)):Prop where
 len:S.length=n
 row:∀ts∈S,ts.length<=30/\(∀t∈ts,0<=t/\t<(n:Int))/\ts.Pairwise (· < ·)
theorem u6 {ts:List Int} {i:Int}:cY false (.int i) (.list (ts.map .int))=some (.bool (ts.contains i)):=by
 unfold cY;simp only [yR,DH rowI_map,Bool.and_self,if_true]
 congr 2
 rw [Bool.eq_iff_iff];simp only [Bool.false_eq_true,if_false,any_eq_true,mem_map,contains_iff_mem]
 constructor
 ·rintro ⟨d,⟨t,ht,rfl⟩,e⟩
  rw [PyData.eqv] at e;have:t=i:=by simpa using e
  rw [<-this];exact ht
 ·intro h
  exact ⟨.int i,⟨i,h,rfl⟩,by rw [PyData.eqv];simp⟩
theorem KH {xs:List D} (h:RowI xs):PyData.canLayAll0 xs=true/\PyData.depthAll xs=0:=by
 induction xs with
 | nil=>exact ⟨rfl,rfl⟩
 | cons a r ih=>
  obtain ⟨n,rfl⟩:=h a mem_cons_self;have q:=ih fun x hx=>h x (MK _ hx)
  simp [PyData.canLayAll0,PyData.canLay0,PyData.depthAll,PyData.depth,q.1,q.2]
theorem yC {ms:List D} (h:∀r∈ms,∃xs,r=.list xs/\PyData.canLayAll0 xs=true/\PyData.depthAll xs=0):PyData.canLayAll0 ms=true/\PyData.depthAll ms<=1:=by
 induction ms with
 | nil=>exact ⟨rfl,Nat.zero_le _⟩
 | cons a r ih=>
  obtain ⟨xs,rfl,h1,h2⟩:=h a mem_cons_self;have q:=ih fun x hx=>h x (MK _ hx)
  refine ⟨by simp [PyData.canLayAll0,PyData.canLay0,q.1,h1],?_⟩
  rw [PyData.depthAll,PyData.depth,h2];exact Nat.max_le.mpr ⟨by omega,q.2⟩
noncomputable def has (x:Str) (d:D):Bool:=match d with
 | .list xs=>xs.any fun y=>PyData.eqv y (.str x)
 | _=>false
noncomputable def rg (n:Nat):List Int:=(List.range n).map fun i:Nat=>(0:Int)+(i:Nat)
theorem qI {ts:List Int} {i:Int}:cY true (.int i) (.list (ts.map .int))=some (.bool (!ts.contains i)):=by
 have h:=u6 (ts:=ts) (i:=i)
 unfold cY at h ⊢
 simp only [yR,DH rowI_map,Bool.and_self,if_true,Bool.false_eq_true,if_false] at h ⊢
 have h:=Option.some.inj h
 injection h with h
 rw [h]
end KC
namespace T
open PySem PySem.Spec L2
open PyProof.Rows hiding St
section
variable {Γ Γ1:Ev} {fa fb fc:F1} {fl:FL} {p:PV} {i n:Nat} {ga gb:FB} {g1 g2:FS}
@[simp] theorem JQ:sizeLine=16777216:=rfl
@[simp] theorem yV {α β:Type} {a:α} {e:Ev} {k:α->Ev->Out β}:(Out.ok a e).bind k=k a e:=rfl
@[simp] theorem r_k {d:D}:eK d Γ=.ok ⟨.leaf,d⟩ Γ:=rfl
@[simp] theorem Ln:ag Γ=.ok [] Γ:=rfl
@[simp] theorem JJ:aT Γ=.ok true Γ:=rfl
@[simp] theorem JN:aN Γ=.nx Γ:=rfl
@[simp] theorem J5:ae fa fl Γ=(fa Γ).bind fun p Γ1=>(fl Γ1).bind fun ps Γ2=>.ok (p::ps) Γ2:=rfl
@[simp] theorem Mb {g:D->D->Option D}:aD g fa fb Γ=(fa Γ).bind fun p Γ1=>(fb Γ1).bind fun q Γ2=>match g p.d q.d with | some d=>.ok ⟨.leaf,d⟩ Γ2 | none=>.no:=rfl
@[simp] theorem Md {g:List D->Option D}:bG g fl Γ=(fl Γ).bind fun ps Γ'=>match g (ps.map (·.d)) with | some d=>.ok ⟨.leaf,d⟩ Γ' | none=>.no:=rfl
@[simp] theorem Lw {g:D->Option Bool}:aO g fa Γ=(fa Γ).bind fun p Γ'=>match g p.d with | some b=>.ok b Γ' | none=>.no:=rfl
@[simp] theorem J8:bU ga Γ=(ga Γ).bind fun c Γ'=>.ok (!c) Γ':=rfl
@[simp] theorem J9:vK ga gb Γ=(ga Γ).bind fun c Γ'=>if c then gb Γ' else .ok false Γ':=rfl
@[simp] theorem Lv:ke ga gb Γ=(ga Γ).bind fun c Γ'=>if c then .ok true Γ' else gb Γ':=rfl
@[simp] theorem Lu:Fo ga fa fb Γ=(ga Γ).bind fun b Γ'=>if b then fa Γ' else fb Γ':=rfl
@[simp] theorem J3:eh fa fb Γ=(fa Γ).bind fun p Γ=>match p.d with | .bool true=>fb Γ | .bool false=>.ok ⟨.leaf,.bool false⟩ Γ | _=>.no:=rfl
@[simp] theorem J1:KB fa Γ=(fa Γ).bind fun p Γ=>match p.d with | .bool b=>.ok ⟨.leaf,.bool (!b)⟩ Γ | _=>.no:=rfl
@[simp] theorem oP:ay g1 g2 Γ=match g1 Γ with | .nx Γ'=>g2 Γ' | .rt p=>.rt p | .bk Γ'=>.bk Γ' | .ct Γ'=>.ct Γ' | .er c Γ'=>.er c Γ' | .no=>.no:=by
 unfold ay
 cases g1 Γ<;>rfl
@[simp] theorem xo {k:PV->Ev->eZ}:fP fa k Γ=match fa Γ with | .ok p Γ1=>k p Γ1 | .er c Γ1=>.er c Γ1 | .no=>.no:=by
 unfold fP
 cases fa Γ<;>rfl
@[simp] theorem Mc:b6 ga g1 g2 Γ=match ga Γ with | .ok b Γ1=>if b then g1 Γ1 else g2 Γ1 | .er c Γ1=>.er c Γ1 | .no=>.no:=by
 unfold b6
 cases ga Γ<;>rfl
@[simp] theorem Hk {b:Bool}:aA (.bool b)=some b:=rfl
@[simp] theorem JY {b:Bool}:ba (.bool b)=some b:=rfl
@[simp] theorem Hi {xs:List D}:ba (.list xs)=some (!xs.isEmpty):=rfl
noncomputable def Hq (p:PV):PV:=match p.s with
 | .leaf=>p
 | _=>⟨.view,p.d⟩
@[simp] theorem Lj {d:D}:Hq ⟨.leaf,d⟩=⟨.leaf,d⟩:=rfl
@[simp] theorem Li {s:Sh} {d:D}:Hq ⟨.lst s,d⟩=⟨.view,d⟩:=rfl
@[simp] theorem Lh {s:List Sh} {d:D}:Hq ⟨.tup s,d⟩=⟨.view,d⟩:=rfl
@[simp] theorem Le:af i Γ=match Γ[i]? with | some (some p)=>.ok (Hq p) Γ | _=>.no:=by
 unfold af
 cases h:Γ[i]? with
 | none=>rfl
 | some o=>
  cases o with
  | none=>rfl
  | some p=>
   obtain ⟨s,d⟩:=p
   cases s<;>rfl
@[simp] theorem JO:ck i Γ=match Γ[i]? with | some (some p)=>.ok p (Γ.set i none) | _=>.no:=rfl
@[simp] theorem J6 {d:D}:coer .leaf ⟨.leaf,d⟩=true:=rfl
@[simp] theorem Hm {s:Sh} {d:D}:coer .leaf ⟨.lst s,d⟩=true:=rfl
@[simp] theorem Hl {s:List Sh} {d:D}:coer .leaf ⟨.tup s,d⟩=true:=rfl
@[simp] theorem Hn {i:Int} {s:Sh}:coer .leaf ⟨s,.int i⟩=true:=by cases s<;>rfl
@[simp] theorem Ho {b:Bool} {s:Sh}:coer .leaf ⟨s,.bool b⟩=true:=by cases s<;>rfl
@[simp] theorem JU:Sh.isView .leaf=false:=rfl
@[simp] theorem JT {s:Sh}:Sh.isView (.lst s)=false:=rfl
@[simp] theorem JS {s:List Sh}:Sh.isView (.tup s)=false:=rfl
@[simp] theorem Eo {own:Bool}:az own i fa Γ=match fa Γ with | .ok p Γ1=>(if i<Γ1.length then (if own&&!p.s.isView then .nx (Γ1.set i (some p)) else if T.coer .leaf p then .nx (Γ1.set i (some ⟨.leaf,p.d⟩)) else .no) else .no) | .er c Γ1=>.er c Γ1 | .no=>.no:=by
 unfold az;rw [xo]
@[simp] theorem Er:aU fa Γ=match fa Γ with | .ok p Γ1=>(if p.s.isView then (if bo p.d then .rt ⟨.leaf,p.d⟩ else .no) else .rt p) | .er c Γ1=>.er c Γ1 | .no=>.no:=by
 unfold aU;rw [xo]
@[simp] theorem J4:bq fa Γ=match fa Γ with | .ok p Γ1=>.nx Γ1 | .er c Γ1=>.er c Γ1 | .no=>.no:=by
 unfold bq;rw [xo]
@[simp] theorem J7 {den:List D->Res}:ao n den fl Γ=(fl Γ).bind fun ps Γ'=>if ps.length=n then (match den (ps.map (·.d)) with | .ok p=>if ps.all (T.coer .leaf) then .ok p Γ' else if bo p.d then .ok ⟨.leaf,p.d⟩ Γ' else .ok ⟨.view,p.d⟩ Γ' | _=>.no) else .no:=rfl
@[simp] theorem J0 {a b:Int}:aJ (.int a) (.int b)=some (.int (a+b)):=rfl
@[simp] theorem JZ {a b:Int}:gSub (.int a) (.int b)=some (.int (a-b)):=rfl
@[simp] theorem Lr {a b:Int}:fU (.int a) (.int b)=some (.bool (decide (a<b))):=rfl
@[simp] theorem Ls {a b:Int}:pA (.int a) (.int b)=some (.bool (decide (b<a))):=rfl
@[simp] theorem Gc {ds:List D}:br [.list ds]=some (.int ds.length):=rfl
@[simp] theorem Hj {ds:List D}:br [.tuple ds]=some (.int ds.length):=rfl
noncomputable def lD (p q:PV):Ev->Out PV:=aj (fun Γ=>.ok p Γ) (fun Γ=>.ok q Γ)
@[simp] theorem dN:aj fa fb Γ=(fa Γ).bind fun p Γ1=>(fb Γ1).bind fun q Γ2=>lD p q Γ2:=by
 unfold lD aj aS
 cases fa Γ with
 | ok p Γ1=>simp only [yV]
 | er c Γ1=>rfl
 | no=>rfl
@[simp] theorem kP {ds:List D} {k:Int} {s:Sh}:lD ⟨.leaf,.tuple ds⟩ ⟨s,.int k⟩ Γ=match d5 ds k with | some d=>.ok ⟨.leaf,d⟩ Γ | none=>.no:=by
 unfold lD aj aS d5;simp only [yV]
 cases h:dQ ds.length k with
 | none=>rfl
 | some j=>
  simp only [Option.bind_some]
  cases h2:ds[j]? with
  | none=>rfl
  | some d=>rfl
@[simp] theorem kQ {ds:List D} {k:Int} {s:Sh}:lD ⟨.leaf,.list ds⟩ ⟨s,.int k⟩ Γ=match d5 ds k with | some d=>.ok ⟨.leaf,d⟩ Γ | none=>.no:=by
 unfold lD aj aS d5;simp only [yV]
 cases h:dQ ds.length k with
 | none=>rfl
 | some j=>
  simp only [Option.bind_some]
  cases h2:ds[j]? with
  | none=>rfl
  | some d=>rfl
@[simp] theorem zo {ds:List D} {k:Int} {s:Sh}:lD ⟨.view,.list ds⟩ ⟨s,.int k⟩ Γ=match d5 ds k with | some d=>.ok ⟨if bo d then .leaf else .view,d⟩ Γ | none=>.no:=by
 unfold lD aj aS d5;simp only [yV]
 cases h:dQ ds.length k with
 | none=>rfl
 | some j=>
  simp only [Option.bind_some]
  cases h2:ds[j]? with
  | none=>rfl
  | some d=>rfl
@[simp] theorem zq {α:Type} {a:α} {r:List α}:d5 (a::r) 0=some a:=by
 simp [d5,dQ]
@[simp] theorem Es {α:Type} {a b:α} {r:List α}:d5 (a::b::r) 1=some b:=by
 have:(1:Int)<(r.length:Int)+1+1:=by omega
 simp [d5,dQ,this]
@[simp] theorem zp {α:Type} {a b c:α} {r:List α}:d5 (a::b::c::r) 2=some c:=by
 have:(2:Int)<(r.length:Int)+1+1+1:=by omega
 simp [d5,dQ,this]
theorem yS {α:Type} {xs:List α} {k:Nat} {x:α} (h:xs[k]?=some x):d5 xs (k:Int)=some x:=by
 have hk:=(MM h).1
 have:(k:Int)<(xs.length:Int):=by omega
 simp [d5,dQ,this,h]
end
section
variable {Γ:Ev} {fa fb:F1} {i:Nat}
@[simp] theorem Lo {c:String}:KD c fa Γ=(fa Γ).bind fun p Γ=>.ok ⟨.leaf,.bool (E9 (K6 p.d) c)⟩ Γ:=rfl
@[simp] theorem JP {s:Sh} {fl:FL}:av s fl Γ=(fl Γ).bind fun ps Γ'=>if !s.isView&&ps.all (T.coer s)&&decide (ps.length<=sizeLine) then .ok ⟨.lst s,.list (ps.map (·.d))⟩ Γ' else .no:=rfl
@[simp] theorem Lf {fl:FL}:bT fl Γ=(fl Γ).bind fun ps Γ'=>if ps.all tok&&decide (ps.length<=sizeLine) then .ok ⟨.tup (ps.map AA),.tuple (ps.map (·.d))⟩ Γ' else .no:=rfl
@[simp] theorem JM {d:D}:tok ⟨.leaf,d⟩=true:=rfl
@[simp] theorem JL {s:Sh} {d:D}:tok ⟨.lst s,d⟩=true:=rfl
@[simp] theorem JK {s:List Sh} {d:D}:tok ⟨.tup s,d⟩=true:=rfl
@[simp] theorem Lp {a:D}:dI false a .none=some (.bool (sk a)):=rfl
@[simp] theorem JR {a:D}:dI true a .none=some (.bool (!sk a)):=rfl
@[simp] theorem Lg:KA fa fb Γ=(fa Γ).bind fun p Γ1=>(fb Γ1).bind fun q Γ2=>match p.d,q.d with | .tuple xs,.int k=>if !p.s.isView&&decide (1<=k)&&decide (k<=xs.length) then .ok ⟨.leaf,.tuple (xs.drop k.toNat)⟩ Γ2 else .no | _,_=>.no:=rfl
@[simp] theorem Lq {neg:Bool} {tab:List (Str×Int)}:KE neg tab fa Γ=(fa Γ).bind fun p Γ=>match p.d with | .str k=>.ok ⟨.leaf,.bool (if neg then !(fT k tab).isSome else (fT k tab).isSome)⟩ Γ | _=>.no:=rfl
@[simp] theorem JX {tab:List (Str×Int)}:Fp tab fa Γ=(fa Γ).bind fun p Γ=>match p.d with | .str k=>(match fT k tab with | some i=>.ok ⟨.leaf,.int i⟩ Γ | none=>.no) | _=>.no:=rfl
@[simp] theorem JV:Fe fa Γ=(fa Γ).bind fun p Γ'=>match p.d with | .tuple ds=>if dA p ds then .ok ⟨ds,!p.s.isView⟩ Γ' else .no | _=>.no:=rfl
@[simp] theorem JW:aR fa Γ=(fa Γ).bind fun p Γ'=>match p.d with | .list ds=>if dA p ds then .ok ⟨ds,!p.s.isView⟩ Γ' else .no | _=>.no:=rfl
@[simp] theorem Lm {d:D} {ds:List D}:dA ⟨.leaf,d⟩ ds=true:=rfl
@[simp] theorem Ll {s:Sh} {d:D} {ds:List D}:dA ⟨.lst s,d⟩ ds=true:=rfl
@[simp] theorem Lk {s:List Sh} {d:D} {ds:List D}:dA ⟨.tup s,d⟩ ds=true:=rfl
@[simp] theorem Lx {f:F1}:jb i f Γ=match Γ[i]? with | some (some ⟨.leaf,.int a⟩)=>fP f (vL i a) Γ | _=>.no:=rfl
@[simp] theorem Ka {a b:Int} {s:Sh}:vL i a ⟨s,.int b⟩ Γ=if i<Γ.length then .nx (Γ.set i (MS (.int (a+b)))) else .no:=rfl
theorem GO {β:Type} {c:FB} {g:FS} {G:β->Ev} {test:β->Bool} {Inv:β->Prop} {meas:β->Nat} (hc:∀b,Inv b->c (G b)=.ok (test b) (G b)) (hg:∀b,Inv b->test b=true->∃b',g (G b)=.nx (G b')/\Inv b'/\meas b'<meas b) :
  ∀(N:Nat) (b:β),Inv b->meas b<N->∃b',nZ c g N (G b)=.nx (G b')/\Inv b'/\test b'=false
 | 0,b,_,h=>by omega
 | N+1,b,hi,hm=>by
  rw [nZ,hc b hi]
  cases ht:test b with
  | false=>exact ⟨b,rfl,hi,ht⟩
  | true=>
   obtain ⟨b1,h1,h2,h3⟩:=hg b hi ht;obtain ⟨b',e,q⟩:=GO hc hg N b1 h2 (by omega)
   refine ⟨b',?_,q⟩
   simp only [h1]
   exact e
theorem vN {fa:F1} {p:PV} {ds:List D} (ho:Γ[i]?=some (some ⟨.lst .leaf,.list ds⟩)) (h:fa Γ=.ok p Γ) (hc:coer .leaf p=true) (hn:ds.length<=9000):eu i fa Γ=.nx (Γ.set i (some ⟨.lst .leaf,.list (ds++[p.d])⟩)):=by
 have hb:(10000:Nat)<=sizeLine:=by decide
 unfold eu C2;rw [ho];simp only [if_true,xo,h]
 unfold yJ;rw [ho];have:ds.length<sizeLine:=by omega
 simp only [hc,decide_eq_true this,Bool.and_self,if_true]
end
theorem IT {α:Type} {en:α->D} {i:Nat} {fc:FB} {fe:F1} {s:Sh} {c:α->Bool} {f:α->PV} {Γ:Ev} (hΓ:Γ.set i none=Γ):∀(r:List α) (acc:List D),(∀x∈r,fc (Γ.set i (MS (en x)))=.ok (c x) (Γ.set i (MS (en x)))) ->
  (∀x∈r,c x=true->fe (Γ.set i (MS (en x)))=.ok (f x) (Γ.set i (MS (en x)))/\coer s (f x)=true)->acc.length+r.length<=sizeLine->pO i fc fe s (r.map en) Γ acc=.ok (acc++((r.filter c).map fun x=>(f x).d)) Γ
 | [],acc,_,_,_=>by simp [pO]
 | x::r,acc,hc,he,hl=>by
  have h1:=hc x mem_cons_self
  have hl1:acc.length<sizeLine:=by simp only [length_cons] at hl;omega
  have back:(Γ.set i (MS (en x))).set i none=Γ:=by rw [set_set];exact hΓ
  rw [map_cons,pO,h1]
  cases hcd:c x with
  | false=>
   dsimp only;rw [if_pos hl1,back,IT hΓ r acc (fun d hd=>hc d (MK _ hd)) (fun d hd=>he d (MK _ hd)) (by simp only [length_cons] at hl;omega)]
   rw [List.filter_cons_of_neg (by rw [hcd];exact Bool.false_ne_true)]
  | true=>
   obtain ⟨h2,h3⟩:=he x mem_cons_self hcd;dsimp only;rw [h2];dsimp only;rw [h3,decide_eq_true hl1,Bool.and_self,if_pos rfl,back,IT hΓ r (acc++[(f x).d]) (fun d hd=>hc d (MK _ hd)) (fun d hd=>he d (MK _ hd)) (by simp only [length_cons,length_append,length_nil] at hl ⊢;omega)]
   rw [List.filter_cons_of_pos hcd,map_cons,append_assoc];rfl
theorem Da {α:Type} (en:α->D) (xs:List α) (c:α->Bool) (f:α->PV) {s:Sh} {i:Nat} {fi:FI} {fc:FB} {fe:F1} {st:Bool} {Γ:Ev} (hi:fi Γ=.ok ⟨xs.map en,st⟩ Γ) (hl:i<Γ.length) (hs:s.isView=false) (hn:xs.length<=10000)
  (hc:∀x∈xs,fc (Γ.set i (MS (en x)))=.ok (c x) (Γ.set i (MS (en x)))) (he:∀x∈xs,c x=true->fe (Γ.set i (MS (en x)))=.ok (f x) (Γ.set i (MS (en x)))/\coer s (f x)=true) :
  aB s i fi fc fe Γ=.ok ⟨.lst s,.list ((xs.filter c).map fun x=>(f x).d)⟩ Γ:=by
 have hb:(10000:Nat)<=sizeLine:=by decide
 unfold aB;rw [hi];unfold Out.bind;dsimp only;rw [IT (c:=c) (f:=f) (by rw [set_set]) xs [] (fun d hd=>by rw [set_set];exact hc d hd) (fun d hd=>by rw [set_set];exact he d hd) (by simp;omega)]
 dsimp only;rw [hs,decide_eq_true hl];simp only [Bool.not_false,Bool.and_self,if_true,nil_append,set_set]
 have:Γ.set i (Γ.getD i none)=Γ:=by
  apply De
  rw [MJ,MI hl];rfl
 rw [this]
theorem mC {α:Type} (en:α->D) (xs:List α) (f:α->PV) {s:Sh} {i:Nat} {fi:FI} {fe:F1} {st:Bool} {Γ:Ev} (hi:fi Γ=.ok ⟨xs.map en,st⟩ Γ) (hl:i<Γ.length) (hs:s.isView=false) (hn:xs.length<=10000)
  (he:∀x∈xs,fe (Γ.set i (MS (en x)))=.ok (f x) (Γ.set i (MS (en x)))/\coer s (f x)=true):aB s i fi aT fe Γ=.ok ⟨.lst s,.list (xs.map fun x=>(f x).d)⟩ Γ:=by
 rw [Da (fc:=aT) en xs (fun _=>true) f hi hl hs hn (fun _ _=>rfl) fun x hx _=>he x hx,List.filter_eq_self.mpr fun _ _=>rfl]
theorem IE {α β:Type} (en:α->D) (step:β->α->β) {Inv:β->List α->Prop} {i:Nat} {body:FS} {G:β->Option PV->Ev} (hi:∀b x,i<(G b x).length) (hset:∀b x y,(G b x).set i y=G b y)
  (hb:∀b a r,Inv b (a::r)->body (G b (MS (en a)))=.nx (G (step b a) (MS (en a)))/\Inv (step b a) r):∀(xs:List α) (b:β) (x:Option PV),Inv b xs->∃y,cL i body (xs.map en) (G b x)=.nx (G (xs.foldl step b) y)/\Inv (xs.foldl step b) []
 | [],b,x,h=>⟨x,rfl,h⟩
 | a::r,b,x,h=>by
  obtain ⟨h1,h2⟩:=hb b a r h;obtain ⟨y,e,h3⟩:=IE en step hi hset hb r (step b a) (MS (en a)) h2
  refine ⟨y,?_,h3⟩
  rw [map_cons,cL,if_pos (hi b x),hset,h1];exact e
end T
namespace KC
open PySem PySem.Spec L2 T PySem.SeqAt
open PyProof.Rows hiding St
noncomputable abbrev rm (t:Nat):D:=.int (t:Int)
noncomputable abbrev aC (r:List Nat):D:=.list (r.map rm)
theorem oF {n:Nat}:bX 0 n=(List.range n).map rm:=by
 unfold bX;simp
theorem Dy {t:Nat} {r:List Nat}:cY false (rm t) (aC r)=some (.bool (r.contains t)):=by
 have h:=u6 (ts:=r.map fun t:Nat=>(t:Int)) (i:=t)
 rw [map_map] at h;refine h.trans ?_
 congr 2
 rw [Bool.eq_iff_iff,contains_iff_mem,contains_iff_mem,mem_map];exact ⟨fun ⟨a,h1,h2⟩=>by rw [<-Int.ofNat_inj.mp h2];exact h1,fun h=>⟨t,h,rfl⟩⟩
theorem qJ {t:Nat} {r:List Nat}:cY true (rm t) (aC r)=some (.bool (!r.contains t)):=by
 have h:=qI (ts:=r.map fun t:Nat=>(t:Int)) (i:=t)
 rw [map_map] at h;refine h.trans ?_
 congr 3
 rw [Bool.eq_iff_iff,contains_iff_mem,contains_iff_mem,mem_map];exact ⟨fun ⟨a,h1,h2⟩=>by rw [<-Int.ofNat_inj.mp h2];exact h1,fun h=>⟨t,h,rfl⟩⟩
structure Wd where
 n:Nat
 os:List D
 m:List (List Str)
 s:List (List Nat)
noncomputable def ot (r:List Str):D:=.list (r.map .str)
noncomputable def Wd.enc (w:Wd):D:=cX w.os (w.m.map ot) (w.s.map aC)
structure Wd.Ok (w:Wd):Prop where
 g:Gw (w.n:Int) w.n w.os (w.m.map ot) (w.s.map aC)
 h1:1<=w.n
 h24:w.n<=24
 lm:w.m.length=w.n
 ls:w.s.length=w.n
 st:∀r∈w.s,r≠[]/\r.length<=30/\∀t∈r,t<w.n
 mc:∀r∈w.m,∀c∈r,PyData.strOk c=true
noncomputable def Wd.stp (w:Wd) (r:Nat):List Nat:=w.s.getD r []
noncomputable def Wd.mks (w:Wd) (r:Nat):List Str:=w.m.getD r []
theorem Wd.Ok.at2 {w:Wd} (h:w.Ok) {r:Nat} (hr:r<w.n):d5 (w.s.map aC) (r:Int)=some (aC (w.stp r)):=by
 refine yS ?_
 unfold Wd.stp;rw [getElem?_map,MJ,MI (by rw [h.ls];exact hr)]
 rfl
theorem Wd.Ok.at1 {w:Wd} (h:w.Ok) {r:Nat} (hr:r<w.n):d5 (w.m.map ot) (r:Int)=some (ot (w.mks r)):=by
 refine yS ?_
 unfold Wd.mks;rw [getElem?_map,MJ,MI (by rw [h.lm];exact hr)]
 rfl
theorem Wd.Ok.stp_lt {w:Wd} (h:w.Ok) {r t:Nat} (ht:t∈w.stp r):t<w.n:=by
 unfold Wd.stp at ht;rw [MJ] at ht
 cases e:w.s[r]? with
 | none=>rw [e] at ht;simp at ht
 | some x=>rw [e] at ht;exact (h.st x (mem_of_getElem? e)).2.2 t ht
theorem Wd.Ok.stp_ne {w:Wd} (h:w.Ok) {r:Nat} (hr:r<w.n):w.stp r≠[]:=by
 unfold Wd.stp;rw [MJ,MI (by rw [h.ls];exact hr)]
 exact (h.st _ (getElem_mem _)).1
inductive Wr where
 | yes | mark | not | sn | an | sa | aa | and | or | su | au
 deriving DecidableEq
noncomputable def Wr.t:Wr->Str
 | .yes => "yes" | .mark => "mark" | .not => "not" | .sn => "some next" | .an => "all next" | .sa => "some always" | .aa => "all always" | .and => "and" | .or => "or" | .su => "some until" | .au => "all until"
theorem lI (a b:Wr):cP (.str a.t) (.str b.t)=some (.bool (decide (a=b))):=by cases a<;>cases b<;>kernel_rfl
@[simp] theorem Kw (a:Wr):cP (.str a.t) (.str "yes")=some (.bool (decide (a=.yes))):=lI a .yes
@[simp] theorem HD (a:Wr):cP (.str a.t) (.str "mark")=some (.bool (decide (a=.mark))):=lI a .mark
@[simp] theorem Kx (a:Wr):cP (.str a.t) (.str "not")=some (.bool (decide (a=.not))):=lI a .not
@[simp] theorem Ky (a:Wr):cP (.str a.t) (.str "and")=some (.bool (decide (a=.and))):=lI a .and
@[simp] theorem LJ (a:Wr):cP (.str a.t) (.str "or")=some (.bool (decide (a=.or))):=lI a .or
@[simp] theorem Kn (a:Wr):cY false (.str a.t) lx=some (.bool (decide (a=.su\/a=.au))):=by cases a<;>kernel_rfl
@[simp] theorem Hw (a:Wr):cY true (.str a.t) lx=some (.bool (!decide (a=.su\/a=.au))):=by cases a<;>kernel_rfl
@[simp] theorem Kr (a:Wr):cY false (.str a.t) ly=some (.bool (decide (a=.sa\/a=.aa))):=by cases a<;>kernel_rfl
@[simp] theorem HA (a:Wr):cY true (.str a.t) ly=some (.bool (!decide (a=.sa\/a=.aa))):=by cases a<;>kernel_rfl
noncomputable def Wr.some (a:Wr):Bool:=decide (a=.sn\/a=.su\/a=.aa)
@[simp] theorem Kp (a:Wr):cY false (.str a.t) gS=.some (.bool a.some):=by cases a<;>kernel_rfl
noncomputable def Wr.ar:Wr->Option Int
 | .yes=>Option.some 0 | .mark=>none | .and=>Option.some 2 | .or=>Option.some 2 | .su=>Option.some 2 | .au=>Option.some 2 | _=>Option.some 1
@[simp] theorem HB (a:Wr):fT a.t wM=a.ar:=by cases a<;>kernel_rfl
inductive U5 where
 | not | sn | an | sa | aa
 deriving DecidableEq
inductive B4 where
 | and | or | su | au
 deriving DecidableEq
noncomputable def U5.w:U5->Wr
 | .not=>.not | .sn=>.sn | .an=>.an | .sa=>.sa | .aa=>.aa
noncomputable def B4.w:B4->Wr
 | .and=>.and | .or=>.or | .su=>.su | .au=>.au
inductive Sn where
 | yes | mk (c:Str) | un (k:U5) (a:Sn) | bi (k:B4) (a b:Sn)
 deriving DecidableEq
noncomputable def Sn.w:Sn->Wr
 | .yes=>.yes | .mk _=>.mark | .un k _=>k.w | .bi k _ _=>k.w
noncomputable def Sn.args:Sn->List Sn
 | .yes=>[] | .mk _=>[] | .un _ a=>[a] | .bi _ a b=>[a,b]
noncomputable def Sn.enc:Sn->D
 | .yes=>.tuple [.str Wr.yes.t] | .mk c=>.tuple [.str Wr.mark.t,.str c] | .un k a=>.tuple [.str k.w.t,a.enc] | .bi k a b=>.tuple [.str k.w.t,a.enc,b.enc]
noncomputable def Sn.size:Sn->Nat
 | .yes=>1 | .mk _=>1 | .un _ a=>a.size+1 | .bi _ a b=>a.size+b.size+1
noncomputable def Sn.dep:Sn->Nat
 | .yes=>1 | .mk _=>1 | .un _ a=>a.dep+1 | .bi _ a b=>max a.dep b.dep+1
noncomputable def xU:List Str:=["a", "b", "c", "d", "e", "f"]
noncomputable def Sn.ok:Sn->Prop
 | .yes=>True | .mk c=>c∈xU | .un _ a=>a.ok | .bi _ a b=>a.ok/\b.ok
noncomputable def Sn.psh:Sn->Sh
 | .mk _=>.tup [] | _=>.leaf
@[simp] theorem Ly (s:Sn):s.psh.isView=false:=by cases s<;>rfl
noncomputable def L8 (l:List Sn):Nat:=(l.map Sn.size).sum
noncomputable def KF (l:List Sn):Nat:=l.foldr (fun s m=>max s.dep m) 0
structure LS where
 ls:List (List Sn)
 l:List Sn
 many:Nat
structure LI (s:Sn) (b:LS):Prop where
 tot:(b.ls.map List.length).sum+L8 b.l=s.size
 mny:b.many=(b.ls.map List.length).sum
 dep:b.ls.length+KF b.l=s.dep
 ok:∀a∈b.l,a.ok
end KC
namespace KC
noncomputable def bB (rk:List (Option Nat)) (t:Nat):Option Nat:=rk.getD t none
noncomputable def led (any:Bool) (l:List Nat) (P:Nat->Prop):Prop:=if any then ∃t∈l,P t else ∀t∈l,P t
theorem led_t {l:List Nat} {P:Nat->Prop}:led true l P↔∃t∈l,P t:=by unfold led;simp
theorem led_f {l:List Nat} {P:Nat->Prop}:led false l P↔∀t∈l,P t:=by unfold led;simp
theorem Dc {any:Bool} {l:List Nat} {P Q:Nat->Prop} (h:led any l P) (i:∀t∈l,P t->Q t):led any l Q:=by
 cases any with
 | true=>obtain ⟨t,ht,hp⟩:=led_t.mp h;exact led_t.mpr ⟨t,ht,i t ht hp⟩
 | false=>exact led_f.mpr fun t ht=>i t ht (led_f.mp h t ht)
structure RightG (n:Nat) (st:Nat->List Nat) (ch:Nat->Bool) (thr goal:List Nat) (rk:List (Option Nat)):Prop where
 len:rk.length=n
 g:∀r,r<n->r∈goal->bB rk r=some 0
 p:∀r k,r<n->r∉goal->bB rk r=some k->0<k/\r∈thr/\led (ch r) (st r) fun t=>∃j,bB rk t=some j/\j<k
 z:∀r,r<n->bB rk r=none->r∉goal/\(r∉thr\/¬led (ch r) (st r) fun t=>bB rk t≠none)
section
variable {n:Nat} {st:Nat->List Nat} {ch own:Nat->Bool} {thr goal:List Nat} {rk:List (Option Nat)}
theorem RightG.goal_ok (h:RightG n st ch thr goal rk) {r:Nat} (hr:r<n) (hg:r∈goal):bB rk r≠none:=by rw [h.g r hr hg];simp
theorem RightG.step_ok (h:RightG n st ch thr goal rk) {r:Nat} (hr:r<n) (ht:r∈thr) (hl:led (ch r) (st r) fun t=>bB rk t≠none):bB rk r≠none:=fun z=>by
 rcases (h.z r hr z).2 with q | q
 ·exact q ht
 ·exact q hl
end
noncomputable def inn (st:Nat->List Nat) (L:List Nat) (r:Nat):List Nat:=(st r).filter fun t=>L.contains t
structure CW (n:Nat) (st:Nat->List Nat) (own:Nat->Bool) (T X:Nat->Prop):Prop where
 lt:∀r,X r->r<n
 c:∀r,X r->led (own r) (st r) X
 a:∀S:Nat->Prop,(∀r,X r->T r->S r)->(∀r,X r->led (own r) (st r) (fun t=>X t/\S t)->S r)->∀r,X r->S r
structure Fr {α:Type} (n:Nat) (st:Nat->List Nat) (R:Nat->Prop) (M:List α) (mk:α->Nat->Prop) (X:Nat->Prop):Prop where
 lt:∀r,X r->r<n
 sub:∀r,X r->R r
 c:∀r,X r->∃t∈st r,X t
 a:∀m∈M,∀S:Nat->Prop,(∀r,X r->mk m r->S r)->(∀r,X r->(∃t∈st r,X t/\S t)->S r)->∀r,X r->S r
noncomputable def Std (n:Nat) (L:List Nat):Prop:=∃q:Nat->Bool,L=(List.range n).filter q
theorem Std.lt {n:Nat} {L:List Nat} (h:Std n L):∀r∈L,r<n:=by
 obtain ⟨q,rfl⟩:=h;intro r hr;exact List.mem_range.mp (List.mem_filter.mp hr).1
theorem Std.len {n:Nat} {L:List Nat} (h:Std n L):L.length<=n:=by
 obtain ⟨q,rfl⟩:=h;exact Nat.le_trans (length_filter_le _ _) (by simp)
theorem Std.range {n:Nat}:Std n (List.range n):=⟨fun _=>true,(List.filter_eq_self.mpr fun _ _=>rfl).symm⟩
theorem Std.of {n:Nat} (q:Nat->Bool):Std n ((List.range n).filter q):=⟨q,rfl⟩
open PySem PySem.Spec L2 T PySem.SeqAt
open PyProof.Rows hiding St
noncomputable def oD:Option Nat->D
 | none=>.none
 | some k=>.int (k:Int)
@[simp] theorem Ht (o:Option Nat):sk (oD o)=o.isNone:=by cases o<;>rfl
@[simp] theorem Hs (o:Option Nat):bo (oD o)=true:=by cases o<;>rfl
noncomputable abbrev iA (rk:List (Option Nat)):D:=.list (rk.map oD)
theorem pJ {rk:List (Option Nat)} {t:Nat} (h:t<rk.length):d5 (rk.map oD) (t:Int)=some (oD (bB rk t)):=by
 refine yS ?_
 unfold bB;rw [getElem?_map,MJ,MI h];rfl
noncomputable def jV (any:Bool) (bs:List Bool):Bool:=if any then bs.any id else bs.all id
theorem pC {bs:List Bool}:cQ true [.list (bs.map .bool)]=some (.bool (bs.any id)):=by
 have h:=IF (any:=true) (xs:=bs) (f:=id)
 show Option.map _ (mG _)=_
 rw [show (bs.map PyData.bool)=bs.map fun x=>PyData.bool (id x) from rfl,h]
 simp
theorem vk {bs:List Bool}:cQ false [.list (bs.map .bool)]=some (.bool (bs.all id)):=by
 have h:=IF (any:=true) (xs:=bs) (f:=id)
 show Option.map _ (mG _)=_
 rw [show (bs.map PyData.bool)=bs.map fun x=>PyData.bool (id x) from rfl,h]
 simp
theorem yq {c:Bool} {bs:List Bool}:dy [.bool c,.list (bs.map .bool)]=.ok ⟨.leaf,.bool (jV c bs)⟩:=by
 unfold jV
 cases c<;>simp [dy,aG,lU,aQ,pC,vk]
structure Wd.Ok0 (w:Wd):Prop where
 lo:w.os.length=w.n
 h24:w.n<=24
 ls:w.s.length=w.n
 st:∀r∈w.s,r.length<=30/\∀t∈r,t<w.n
theorem Wd.Ok.z {w:Wd} (h:w.Ok):w.Ok0:=⟨h.g.lo,h.h24,h.ls,fun r hr=>(h.st r hr).2⟩
theorem Wd.Ok0.at2 {w:Wd} (h:w.Ok0) {r:Nat} (hr:r<w.n):d5 (w.s.map aC) (r:Int)=some (aC (w.stp r)):=by
 refine yS ?_
 unfold Wd.stp;rw [getElem?_map,MJ,MI (by rw [h.ls];exact hr)]
 rfl
theorem Wd.Ok0.stp_lt {w:Wd} (h:w.Ok0) {r t:Nat} (ht:t∈w.stp r):t<w.n:=by
 unfold Wd.stp at ht;rw [MJ] at ht
 cases e:w.s[r]? with
 | none=>rw [e] at ht;simp at ht
 | some x=>rw [e] at ht;exact (h.st x (mem_of_getElem? e)).2 t ht
theorem Wd.Ok0.len {w:Wd} (h:w.Ok0) {r:Nat}:(w.stp r).length<=10000:=by
 unfold Wd.stp;rw [MJ]
 cases e:w.s[r]? with
 | none=>simp
 | some x=>
  have:=(h.st x (mem_of_getElem? e)).1
  simp only [Option.getD_some]
  omega
noncomputable abbrev nP (cl:List Bool):D:=.list (cl.map .bool)
noncomputable def gA (cl:List Bool) (r:Nat):Bool:=cl.getD r false
theorem FR {cl:List Bool} {t:Nat} (h:t<cl.length):d5 (cl.map PyData.bool) (t:Int)=some (.bool (gA cl t)):=by
 refine yS ?_
 unfold gA;rw [getElem?_map,MJ,MI h];rfl
noncomputable def uM (w:Wd) (ch:Nat->Bool) (thr:List Nat) (rk:List (Option Nat)):List Nat:=thr.filter fun r=>(bB rk r).isNone&&jV (ch r) ((w.stp r).map fun t=>(bB rk t).isSome)
theorem vz {w:Wd} (h:w.Ok0) {cl:List Bool} {thr:List Nat} {rk:List (Option Nat)} (hcl:cl.length=w.n) (ht:∀r∈thr,r<w.n) (hl:rk.length=w.n) (hn:thr.length<=1000):bR [w.enc,nP cl,aC thr,iA rk]=.ok ⟨.lst .leaf,aC (uM w (gA cl) thr rk)⟩:=by
 obtain ⟨y,e,_⟩:=IE rm (fun (b:List Nat) r=>if (bB rk r).isNone&&jV (gA cl r) ((w.stp r).map fun t=>(bB rk t).isSome) then b++[r] else b) (Inv:=fun b r=>b.length+r.length<=1000/\∀t∈r,t<w.n) (i:=5)
  (body:=(b6 (vK (aO aA (aD (dI false) (aj (af 3) (af 5)) (eK .none))) (aO ba (ao 2 dy (ae (aj (af 1) (af 5)) (ae (aB .leaf 6 (aR (aj (aj (af 0) (eK (.int 2))) (af 5))) aT (aD (dI true) (aj (af 3) (af 6)) (eK .none))) ag))))) (eu 4 (af 5)) aN))
  (G:=fun b x=>[MS w.enc,MS (nP cl),MS (aC thr),MS (iA rk),some ⟨.lst .leaf,aC b⟩,x,none])
  (fun _ _=>by simp) (fun _ _ _=>by simp) (fun b r rest hI=>by
   obtain ⟨h1,h2⟩:=hI;have hr:r<w.n:=h2 r mem_cons_self
   have a1:=pJ (rk:=rk) (t:=r) (by omega)
   have a2:=h.at2 hr
   have a4:=FR (cl:=cl) (t:=r) (by omega)
   simp only [length_cons] at h1
   have c1:aB .leaf 6 (aR (aj (aj (af 0) (eK (.int 2))) (af 5))) aT (aD (dI true) (aj (af 3) (af 6)) (eK .none)) [MS w.enc,MS (nP cl),MS (aC thr),MS (iA rk),some ⟨.lst .leaf,aC b⟩,MS (rm r),none]
     = .ok ⟨.lst .leaf,.list ((w.stp r).map fun t=>.bool (bB rk t).isSome)⟩ [MS w.enc,MS (nP cl),MS (aC thr),MS (iA rk),some ⟨.lst .leaf,aC b⟩,MS (rm r),none]:=by
    refine mC rm (w.stp r) (fun t=>⟨.leaf,.bool (bB rk t).isSome⟩) (st:=true) (by simp [Wd.enc,a2]) (by simp) rfl h.len fun t ht=>?_
    have a3:=pJ (rk:=rk) (t:=t) (by rw [hl];exact h.stp_lt ht)
    simp [a3]
   have dl:=yq (c:=gA cl r) (bs:=(w.stp r).map fun t=>(bB rk t).isSome)
   rw [map_map] at dl;have dl:dy [.bool (gA cl r),.list ((w.stp r).map fun t=>.bool (bB rk t).isSome)]=.ok ⟨.leaf,.bool (jV (gA cl r) ((w.stp r).map fun t=>(bB rk t).isSome))⟩:=dl
   have ap:eu 4 (af 5) [MS w.enc,MS (nP cl),MS (aC thr),MS (iA rk),some ⟨.lst .leaf,aC b⟩,MS (rm r),none]=.nx [MS w.enc,MS (nP cl),MS (aC thr),MS (iA rk),some ⟨.lst .leaf,.list (b.map rm++[rm r])⟩,MS (rm r),none]:=
    vN rfl (aw rfl) rfl (by simp;omega)
   refine ⟨?_,?_⟩
   ·cases q1:(bB rk r).isNone with
    | false=>simp [a1,q1]
    | true=>
     cases q2:jV (gA cl r) ((w.stp r).map fun t=>(bB rk t).isSome) with
     | false=>simp [a1,a4,q1,c1,dl,q2]
     | true=>simp [a1,a4,q1,c1,dl,q2,ap]
   ·refine ⟨?_,fun t ht=>h2 t (MK _ ht)⟩
    split
    ·rw [length_append,length_singleton];omega
    ·omega) thr [] none (by simp;exact ⟨hn,ht⟩)
 have ef:∀(l b:List Nat),l.foldl (fun (b:List Nat) r=>if (bB rk r).isNone&&jV (gA cl r) ((w.stp r).map fun t=>(bB rk t).isSome) then b++[r] else b) b=b++uM w (gA cl) l rk:=by
  intro l;induction l with
  | nil=>intro b;simp [uM]
  | cons r t ih=>
   intro b;rw [List.foldl_cons,ih];unfold uM;rw [filter_cons];split<;>simp
 rw [ef,nil_append] at e;refine aW ?_
 have e2:=eB (fi:=aR (af 2)) (Γ:=[MS w.enc,MS (nP cl),MS (aC thr),MS (iA rk),some ⟨.lst .leaf,aC []⟩,none,none]) (bQ (ds:=thr.map rm) (aw rfl) rfl) e
 have e1:az true 4 (av .leaf ag) (aQ 7 [w.enc,nP cl,aC thr,iA rk])=.nx [MS w.enc,MS (nP cl),MS (aC thr),MS (iA rk),some ⟨.lst .leaf,aC []⟩,none,none]:=by simp [aQ]
 unfold eR;rw [oP,e1];simp only
 rw [oP,e2];simp
theorem led_iff {any:Bool} {l:List Nat} {b:Nat->Bool}:jV any (l.map b)=true↔led any l fun t=>b t=true:=by
 unfold jV led
 cases any<;>simp
structure LQ (w:Wd) (any:Bool) (thr goal:List Nat) (rk:List (Option Nat)):Prop where
 len:rk.length=w.n
 g:∀r,r<w.n->r∈goal->bB rk r=some 0
 p:∀r k,r<w.n->r∉goal->bB rk r=some k->0<k/\r∈thr/\led any (w.stp r) fun t=>∃j,bB rk t=some j/\j<k
 z:∀r,r<w.n->bB rk r=none->r∉goal/\(r∉thr\/¬led any (w.stp r) fun t=>bB rk t≠none)
inductive FV (w:Wd) (any:Bool) (P Q:Nat->Prop):Nat->Prop where
 | now {r:Nat}:Q r->FV w any P Q r
 | some {r t:Nat}:any=true->P r->t∈w.stp r->FV w any P Q t->FV w any P Q r
 | all {r:Nat}:any=false->P r->(∀t∈w.stp r,FV w any P Q t)->FV w any P Q r
noncomputable def cC (rk:List (Option Nat)) (k:Nat) (fr:List Nat):List (Option Nat):=fr.foldl (fun l r=>l.set r (some k)) rk
theorem IK {k:Nat}:∀(fr:List Nat) (rk:List (Option Nat)),(cC rk k fr).length=rk.length
 | [],_=>rfl
 | a::r,rk=>by
  show (cC (rk.set a (some k)) k r).length=_
  rw [IK,length_set]
theorem w4 {rk:List (Option Nat)} {a t:Nat} {o:Option Nat} (h:a<rk.length):bB (rk.set a o) t=if t=a then o else bB rk t:=by
 unfold bB;rw [MJ,MJ];split
 ·rename_i e;subst e;rw [getElem?_set_self h];rfl
 ·rename_i e;rw [getElem?_set_ne (fun z=>e z.symm)]
theorem oI {k t:Nat}:∀(fr:List Nat) (rk:List (Option Nat)),(∀a∈fr,a<rk.length)->bB (cC rk k fr) t=if t∈fr then some k else bB rk t
 | [],rk,_=>by simp [cC]
 | a::r,rk,h=>by
  show bB (cC (rk.set a (some k)) k r) t=_
  rw [oI r _ (fun b hb=>by rw [length_set];exact h b (MK _ hb)),w4 (h a mem_cons_self)]
  by_cases e1:t∈r
  ·simp [e1]
  ·by_cases e2:t=a
   ·simp [e2]
   ·simp [e1,e2]
noncomputable def bN (rk:List (Option Nat)):Nat:=(rk.filter Option.isNone).length
theorem qK {rk:List (Option Nat)} {a k:Nat} (h:rk[a]?=some none):bN (rk.set a (some k))+1=bN rk:=by
 induction rk generalizing a with
 | nil=>simp at h
 | cons x r ih=>
  cases a with
  | zero=>
   simp at h
   subst h;simp [bN]
  | succ a=>
   have:=ih (a:=a) (by simpa using h)
   simp only [bN,List.set_cons_succ,filter_cons] at this ⊢
   cases x with
   | none=>simp only [Option.isNone_none,if_true,length_cons];omega
   | some v=>simpa using this
theorem uO {rk:List (Option Nat)} {a k:Nat}:bN (rk.set a (some k))<=bN rk:=by
 induction rk generalizing a with
 | nil=>simp [bN]
 | cons x r ih=>
  cases a with
  | zero=>cases x<;>simp [bN]
  | succ a=>
   have:=ih (a:=a)
   simp only [bN,List.set_cons_succ,filter_cons] at this ⊢
   cases x with
   | none=>simp only [Option.isNone_none,if_true,length_cons];omega
   | some v=>simpa using this
theorem fq {k:Nat}:∀(fr:List Nat) (rk:List (Option Nat)),bN (cC rk k fr)<=bN rk
 | [],_=>MQ _
 | a::r,rk=>Nat.le_trans (fq r (rk.set a (some k))) uO
theorem qL {k:Nat} {fr:List Nat} {rk:List (Option Nat)} (hne:fr≠[]) (h:∀a∈fr,rk[a]?=some none):bN (cC rk k fr)<bN rk:=by
 cases fr with
 | nil=>exact absurd rfl hne
 | cons a r=>
  have h1:=qK (k:=k) (h a mem_cons_self)
  have h2:=fq (k:=k) r (rk.set a (some k))
  show bN (cC (rk.set a (some k)) k r)<_
  omega
structure RS where
 rk:List (Option Nat)
 k:Nat
 fr:List Nat
 x8:Option PV
structure RI (w:Wd) (ch:Nat->Bool) (thr goal:List Nat) (b:RS):Prop where
 len:b.rk.length=w.n
 frn:∀r∈b.fr,r<w.n/\bB b.rk r=none
 frl:b.fr.length<=1000
 lt:∀r j,bB b.rk r=some j->j<b.k
 zero:b.k=0->b.fr=goal
 g:0<b.k->∀r,r∈goal->bB b.rk r=some 0
 p:∀r j,r<w.n->r∉goal->bB b.rk r=some j->0<j/\r∈thr/\led (ch r) (w.stp r) fun t=>∃i,bB b.rk t=some i/\i<j
 nx:0<b.k->b.fr=uM w ch thr b.rk
 m1:∀r,r∈thr->bB b.rk r=none->¬led (ch r) (w.stp r) fun t=>∃i,bB b.rk t=some i/\i+1<b.k
 m2:∀r j,r∉goal->bB b.rk r=some j->¬led (ch r) (w.stp r) fun t=>∃i,bB b.rk t=some i/\i+1<j
noncomputable def Mx (st:Nat->List Nat) (ch:Nat->Bool) (goal:List Nat) (rk:List (Option Nat)):Prop:=∀r j,r∉goal->bB rk r=some j->¬led (ch r) (st r) fun t=>∃i,bB rk t=some i/\i+1<j
theorem RI.right {w:Wd} {ch:Nat->Bool} {thr goal:List Nat} {b:RS} (hne:∀r∈thr,w.stp r≠[]) (I:RI w ch thr goal b) (he:b.fr=[]):RightG w.n w.stp ch thr goal b.rk:=by
 refine ⟨I.len,fun r hr hg=>?_,I.p,fun r hr hz=>?_⟩
 ·rcases Nat.eq_zero_or_pos b.k with h | h
  ·rw [<-I.zero h,he] at hg;simp at hg
  ·exact I.g h r hg
 ·rcases Nat.eq_zero_or_pos b.k with h | h
  ·have hg:goal=[]:=by rw [<-I.zero h];exact he
   refine ⟨by rw [hg];simp,?_⟩
   by_cases ht:r∈thr
   case neg=>exact .inl ht
   refine .inr fun hl=>?_
   have no:∀t,bB b.rk t=none:=fun t=>by
    cases e:bB b.rk t with
    | none=>rfl
    | some j=>have:=I.lt t j e;omega
   cases hc:ch r with
   | true=>
    rw [hc] at hl;obtain ⟨t,_,z⟩:=led_t.mp hl;exact z (no t)
   | false=>
    rw [hc] at hl;obtain ⟨t,ht'⟩:=List.exists_mem_of_ne_nil _ (hne r ht);exact led_f.mp hl t ht' (no t)
  ·refine ⟨fun hg=>(by rw [I.g h r hg] at hz;cases hz),?_⟩
   by_cases ht:r∈thr
   ·refine .inr fun hl=>?_
    have hx:=I.nx h
    rw [he] at hx;have:r∈uM w ch thr b.rk:=by
     unfold uM;refine List.mem_filter.mpr ⟨ht,?_⟩
     rw [hz];simp only [Option.isNone_none,Bool.true_and]
     exact led_iff.mpr (Dc hl fun t _ z=>by cases e:bB b.rk t with | none=>exact absurd e z | some j=>rfl)
    rw [<-hx] at this;simp at this
   ·exact .inl ht
theorem RI.step {w:Wd} {ch:Nat->Bool} {thr goal:List Nat} (hne0:∀r∈thr,w.stp r≠[]) {b:RS} {y:Option PV} (hthr:∀r∈thr,r<w.n) (hl:thr.length<=1000) (I:RI w ch thr goal b) (hne:b.fr≠[]) :
  RI w ch thr goal ⟨cC b.rk b.k b.fr,b.k+1,uM w ch thr (cC b.rk b.k b.fr),y⟩/\bN (cC b.rk b.k b.fr)<bN b.rk:=by
 have hfl:∀a∈b.fr,a<b.rk.length:=fun a ha=>by rw [I.len];exact (I.frn a ha).1
 have pt:∀t,bB (cC b.rk b.k b.fr) t=if t∈b.fr then some b.k else bB b.rk t:=fun t=>oI _ _ hfl
 refine ⟨⟨by rw [IK];exact I.len,fun r hr=>?_,?_,fun r j e=>?_,fun z=>absurd z (Nat.succ_ne_zero _),fun _ r hg=>?_,fun r j hr hg e=>?_,fun _=>rfl,fun r ht hz hl=>?_,fun r j hg e hl=>?_⟩,qL hne fun a ha=>?_⟩
 ·obtain ⟨h1,h2⟩:=List.mem_filter.mp hr
  simp only [Bool.and_eq_true,Option.isNone_iff_eq_none] at h2
  exact ⟨hthr r h1,h2.1⟩
 ·exact Nat.le_trans (length_filter_le _ _) hl
 ·rw [pt] at e
  show j<b.k+1
  split at e
  ·cases e;omega
  ·have:=I.lt r j e;omega
 ·show bB (cC b.rk b.k b.fr) r=some 0
  rw [pt];rcases Nat.eq_zero_or_pos b.k with h | h
  ·rw [I.zero h,if_pos hg,h]
  ·have:=I.g h r hg
   split
   ·rename_i z;rw [(I.frn r z).2] at this;cases this
   ·exact this
 ·have e:bB (cC b.rk b.k b.fr) r=some j:=e
  rw [pt] at e;split at e
  ·rename_i hm
   cases e;have hk:0<b.k:=by
    rcases Nat.eq_zero_or_pos b.k with h | h
    ·rw [I.zero h] at hm;exact absurd hm hg
    ·exact h
   have hx:=I.nx hk
   rw [hx] at hm;obtain ⟨h1,h2⟩:=List.mem_filter.mp hm;simp only [Bool.and_eq_true] at h2
   refine ⟨hk,h1,Dc (led_iff.mp h2.2) fun t _ z=>?_⟩
   cases e:bB b.rk t with
   | none=>rw [e] at z;cases z
   | some i=>
    refine ⟨i,?_,I.lt t i e⟩
    show bB (cC b.rk b.k b.fr) t=_
    rw [pt,if_neg (fun q=>by rw [(I.frn t q).2] at e;cases e),e]
  ·obtain ⟨h1,h2,h3⟩:=I.p r j hr hg e
   refine ⟨h1,h2,Dc h3 fun t _ ⟨i,hi,hlt⟩=>⟨i,?_,hlt⟩⟩
   show bB (cC b.rk b.k b.fr) t=_
   rw [pt,if_neg (fun q=>by rw [(I.frn t q).2] at hi;cases hi),hi]
 ·have hz:bB (cC b.rk b.k b.fr) r=none:=hz
  rw [pt] at hz;split at hz
  ·cases hz
  rename_i hf;have hl:led (ch r) (w.stp r) fun t=>∃i,bB (cC b.rk b.k b.fr) t=some i/\i+1<b.k+1:=hl
  have hl:led (ch r) (w.stp r) fun t=>∃i,bB b.rk t=some i/\i<b.k:=Dc hl fun t _ ⟨i,hi,hlt⟩=>by
   rw [pt] at hi;split at hi
   ·cases hi;omega
   ·exact ⟨i,hi,by omega⟩
  rcases Nat.eq_zero_or_pos b.k with h | h
  ·cases hc:ch r with
   | true=>
    rw [hc] at hl;obtain ⟨t,_,i,_,z⟩:=led_t.mp hl;omega
   | false=>
    rw [hc] at hl;obtain ⟨t,ht'⟩:=List.exists_mem_of_ne_nil _ (hne0 r ht);obtain ⟨i,_,z⟩:=led_f.mp hl t ht'
    omega
  ·refine hf ?_
   rw [I.nx h];refine List.mem_filter.mpr ⟨ht,?_⟩
   rw [hz];simp only [Option.isNone_none,Bool.true_and]
   exact led_iff.mpr (Dc hl fun t _ ⟨i,hi,_⟩=>by rw [hi];rfl)
 ·have e:bB (cC b.rk b.k b.fr) r=some j:=e
  have hl:led (ch r) (w.stp r) fun t=>∃i,bB (cC b.rk b.k b.fr) t=some i/\i+1<j:=hl
  have hj:j<=b.k:=by
   rw [pt] at e;split at e
   ·cases e;omega
   ·have:=I.lt r j e;omega
  have hl:led (ch r) (w.stp r) fun t=>∃i,bB b.rk t=some i/\i+1<j:=Dc hl fun t _ ⟨i,hi,hlt⟩=>by
   rw [pt] at hi;split at hi
   ·cases hi;omega
   ·exact ⟨i,hi,hlt⟩
  rw [pt] at e;split at e
  ·rename_i hm
   cases e;have hk:0<b.k:=by
    rcases Nat.eq_zero_or_pos b.k with h | h
    ·rw [I.zero h] at hm;exact absurd hm hg
    ·exact h
   have hm':=hm
   rw [I.nx hk] at hm';exact I.m1 r (List.mem_filter.mp hm').1 (I.frn r hm).2 hl
  ·exact I.m2 r j hg e hl
 ·obtain ⟨h1,h2⟩:=I.frn a ha
  unfold bB at h2;rw [MJ,MI (by rw [I.len];exact h1)] at h2
  rw [MI (by rw [I.len];exact h1)]
  simpa using h2
noncomputable abbrev GR (w:Wd) (cl:List Bool) (thr goal:List Nat) (b:RS):Ev:=[MS w.enc,MS (nP cl),MS (aC thr),MS (aC goal),some ⟨.lst .leaf,iA b.rk⟩,MS (.int (b.k:Int)),MS (aC b.fr),b.x8,none]
noncomputable abbrev jN:FS:=(ay (dw 7 (aR (af 6))
  (fj 4 (af 5) (af 7)))
  (ay (jb 5 (eK (.int 1)))
  (az false 6 (zQ 4 bR (ae (af 0) (ae (af 1) (ae (af 2) (ae (af 4) ag))))))))
theorem wZ {w:Wd} (ok:w.Ok0) {cl:List Bool} {thr goal:List Nat} {b:RS} (hcl:cl.length=w.n) (hne0:∀r∈thr,w.stp r≠[]) (hthr:∀r∈thr,r<w.n) (hl:thr.length<=1000) (I:RI w (gA cl) thr goal b) (hne:b.fr≠[]) :
  ∃b',jN (GR w cl thr goal b)=.nx (GR w cl thr goal b')/\RI w (gA cl) thr goal b'/\bN b'.rk<bN b.rk:=by
 obtain ⟨y,e,_⟩:=IE rm (fun (l:List (Option Nat)) r=>l.set r (some b.k)) (Inv:=fun l r=>l.length=w.n/\∀t∈r,t<w.n) (i:=7) (body:=fj 4 (af 5) (af 7))
  (G:=fun l x=>[MS w.enc,MS (nP cl),MS (aC thr),MS (aC goal),some ⟨.lst .leaf,iA l⟩,MS (.int (b.k:Int)),MS (aC b.fr),x,none])
  (fun _ _=>by simp) (fun _ _ _=>by simp) (fun l r rest ⟨h1,h2⟩=>by
   have hr:=h2 r mem_cons_self
   refine ⟨?_,by rw [length_set];exact h1,fun t ht=>h2 t (MK _ ht)⟩
   rw [Ao (ds:=l.map oD) (j:=r) (k:=(r:Int)) rfl (aw rfl) (aw rfl) (rX (by rw [length_map,h1];exact hr)) rfl]
   simp [List.map_set,oD]) b.fr b.rk b.x8 ⟨I.len,fun t ht=>(I.frn t ht).1⟩
 obtain ⟨I',hm⟩:=RI.step (y:=y) hne0 hthr hl I hne
 refine ⟨⟨cC b.rk b.k b.fr,b.k+1,uM w (gA cl) thr (cC b.rk b.k b.fr),y⟩,?_,I',hm⟩
 have e2:=eB (fi:=aR (af 6)) (Γ:=GR w cl thr goal b) (bQ (ds:=b.fr.map rm) (aw rfl) rfl) e
 have dn:=vz ok (cl:=cl) (thr:=thr) (rk:=cC b.rk b.k b.fr) hcl hthr (by rw [IK];exact I.len) hl
 unfold jN;rw [oP,e2];have fr:ny ⟨.lst .leaf,aC (uM w (gA cl) thr (cC b.rk b.k b.fr))⟩=true:=by
  unfold ny;simp [bo]
 have ec:∀Γ:Ev,Γ=[MS w.enc,MS (nP cl),MS (aC thr),MS (aC goal),some ⟨.lst .leaf,iA (cC b.rk b.k b.fr)⟩,MS (.int ((b.k:Int)+1)),MS (aC b.fr),y,none] ->
   zQ 4 bR (ae (af 0) (ae (af 1) (ae (af 2) (ae (af 4) ag)))) Γ=.ok ⟨.lst .leaf,aC (uM w (gA cl) thr (cC b.rk b.k b.fr))⟩ Γ:=fun Γ hΓ=>by
  subst hΓ;unfold zQ;simp [dn,fr]
 have pu:b.fr.foldl (fun l r=>l.set r (some b.k)) b.rk=cC b.rk b.k b.fr:=rfl
 rw [pu];simp [ec _ rfl]
theorem j0 {w:Wd} (ok:w.Ok0) {cl:List Bool} {thr goal:List Nat} (hcl:cl.length=w.n) (hne0:∀r∈thr,w.stp r≠[]) (hthr:∀r∈thr,r<w.n) (hl:thr.length<=1000) (hgoal:∀r∈goal,r<w.n) (hgl:goal.length<=1000) :
  ∃rk,eY [w.enc,nP cl,aC thr,aC goal]=.ok ⟨.lst .leaf,iA rk⟩/\RightG w.n w.stp (gA cl) thr goal rk/\Mx w.stp (gA cl) goal rk:=by
 have lo:=ok.lo
 have h24:=ok.h24
 have i0:RI w (gA cl) thr goal ⟨w.os.map fun _=>none,0,goal,none⟩:=by
  have z:∀r,bB (w.os.map fun _=>none) r=none:=fun r=>by
   unfold bB;rw [MJ,getElem?_map]
   cases w.os[r]?<;>rfl
  refine ⟨by simp [lo],fun r hr=>⟨hgoal r hr,z r⟩,hgl,fun r j e=>(by rw [z] at e;cases e),fun _=>rfl,fun h=>absurd h (by simp),fun r j _ _ e=>(by rw [z] at e;cases e),fun h=>absurd h (by simp),fun r ht _ hl=>?_,fun r j _ e=>(by rw [z] at e;cases e)⟩
  have hl:led (gA cl r) (w.stp r) fun t=>∃i,bB (w.os.map fun _=>none) t=some i/\i+1<0:=hl
  cases hc:gA cl r with
  | true=>
   rw [hc] at hl;obtain ⟨t,_,i,_,z⟩:=led_t.mp hl;omega
  | false=>
   rw [hc] at hl;obtain ⟨t,ht'⟩:=List.exists_mem_of_ne_nil _ (hne0 r ht);obtain ⟨i,_,z⟩:=led_f.mp hl t ht'
   omega
 obtain ⟨b',e,I,hf⟩:=GO (c:=aO ba (af 6)) (g:=jN) (G:=GR w cl thr goal) (test:=fun b=>!b.fr.isEmpty) (Inv:=RI w (gA cl) thr goal) (meas:=fun b=>bN b.rk) (fun b I=>by simp) (fun b I hb=>wZ ok hcl hne0 hthr hl I (by intro z;rw [z] at hb;simp at hb)) 1000 _ i0 (by
  have:bN (w.os.map fun _=>none)<=w.os.length:=by unfold bN;exact Nat.le_trans (length_filter_le _ _) (by simp)
  show bN (w.os.map fun _=>none)<1000
  omega)
 refine ⟨b'.rk,?_,I.right hne0 (by simpa using hf),I.m2⟩
 refine aW ?_
 have co:∀Γ:Ev,Γ.length=9->Γ[0]?=some (MS w.enc)->aB .leaf 8 (aR (aj (af 0) (eK (.int 0)))) aT (eK .none) Γ=.ok ⟨.lst .leaf,.list (w.os.map fun _=>.none)⟩ Γ:=fun Γ h1 h2=>by
  have:=mC (fun d:D=>d) w.os (fun _=>⟨.leaf,.none⟩) (s:=.leaf) (i:=8) (fi:=aR (aj (af 0) (eK (.int 0)))) (fe:=eK .none) (st:=true) (Γ:=Γ) (by simp [h2,Wd.enc]) (by omega) rfl (by omega) (fun x hx=>by simp)
  simpa using this
 have e:nZ (aO ba (af 6)) jN 1000 [MS w.enc,MS (nP cl),MS (aC thr),MS (aC goal),some ⟨.lst .leaf,.list (w.os.map fun _=>.none)⟩,MS (.int 0),MS (aC goal),none,none]=.nx (GR w cl thr goal b'):=by
  have q:iA (w.os.map fun _=>none)=.list (w.os.map fun _=>.none):=by
   unfold iA;rw [map_map];rfl
  rw [<-q];exact e
 unfold hJ;rw [oP,Eo,co _ rfl rfl];simp [aQ]
 unfold si;rw [e];simp
theorem Jx {Γ Γ1:Ev} {fl:FL} {ps:List PV} {k:Int} (hl:fl Γ=.ok ps Γ1) (hp:ps.map (·.d)=[.int k]) (h0:0<=k) (h1:k<=1000):zI fl Γ=.ok ⟨.lst .leaf,.list (bX 0 k.toNat)⟩ Γ1:=by
 have h3:cj k=true:=B6 (by omega) (by omega)
 have hb:=Dd
 have h4:k<=(sizeLine:Int):=by omega
 unfold zI;rw [hl];simp only [Out.bind,hp,iz,h3,if_true,h4]
theorem Wd.Ok.check {w:Wd} (ok:w.Ok):aL [w.enc]=.ok ⟨.leaf,.none⟩:=rC (ok.g.wk (b:=24) ok.h24) (by omega) (ok.g.isW ok.h1 ok.h24)
end KC
namespace T
open PySem PySem.Spec L2
open PyProof.Rows hiding St
theorem IW {α:Type} (en:α->D) {i:Nat} {body:FS} {Inv:List α->Ev->Prop} (hb:∀a r Γ,Inv (a::r) Γ->i<Γ.length/\∃Γ',body (Γ.set i (MS (en a)))=.nx Γ'/\Inv r Γ'):∀(xs:List α) (Γ:Ev),Inv xs Γ->∃Γ',cL i body (xs.map en) Γ=.nx Γ'/\Inv [] Γ'
 | [],Γ,h=>⟨Γ,rfl,h⟩
 | a::r,Γ,h=>by
  obtain ⟨hi,Γ1,h1,h2⟩:=hb a r Γ h;obtain ⟨Γ2,e,h3⟩:=IW en hb r Γ1 h2;refine ⟨Γ2,?_,h3⟩
  rw [map_cons,cL,if_pos hi,h1];exact e
theorem Ax {Γ:Ev} {i j:Nat} {fb:F1} {s:Sh} {k:Int} {ds:List D} {d:D} (ho:Γ[i]?=some (some ⟨.lst .leaf,.list ds⟩)) (hb:fb Γ=.ok ⟨s,.int k⟩ Γ) (hi:dQ ds.length k=some j) (hd:ds[j]?=some d):cU i fb Γ=.ok ⟨.leaf,d⟩ Γ:=by
 unfold cU wA;rw [ho];simp only [if_true,hb,yV]
 unfold xY;rw [ho];simp only [hi,hd]
theorem cG {Γ Γ1 Γ2:Ev} {fa fb:F1} {s s':Sh} {xs ys:List D} (ha:fa Γ=.ok ⟨s,.list xs⟩ Γ1) (hb:fb Γ1=.ok ⟨s',.list ys⟩ Γ2) (h1:dA ⟨s,.list xs⟩ xs=true) (h2:dA ⟨s',.list ys⟩ ys=true) (hn:xs.length+ys.length<=10000):bz fa fb Γ=.ok ⟨.lst .leaf,.list (xs++ys)⟩ Γ2:=by
 have hb':(10000:Nat)<=sizeLine:=by decide
 have:xs.length+ys.length<=sizeLine:=Nat.le_trans hn hb'
 unfold bz aS;rw [ha];simp only [yV]
 rw [hb];simp only [yV,h1,h2,decide_eq_true this,Bool.and_self,if_true]
end T
namespace KC
open PySem PySem.Spec L2 T PySem.SeqAt
open PyProof.Rows hiding St
theorem D5 {n:Nat} {os ms ss:List D} (g:Gw (n:Int) n os ms ss) (h1:1<=n) (h24:n<=24):∃w:Wd,w.Ok/\w.enc=cX os ms ss/\w.n=n:=by
 have hm:∀l:List D,(∀r∈l,∃xs,r=.list xs/\iS xs)->∃M:List (List Str),l=M.map ot/\∀r∈M,∀c∈r,PyData.strOk c=true:=by
  have one:∀xs:List D,iS xs->∃r:List Str,xs=r.map .str/\∀c∈r,PyData.strOk c=true:=by
   intro xs;induction xs with
   | nil=>intro _;exact ⟨[],rfl,by simp⟩
   | cons a r ih=>
    intro h;obtain ⟨x,rfl,hx⟩:=h a mem_cons_self;obtain ⟨t,rfl,ht⟩:=ih fun b hb=>h b (MK _ hb)
    exact ⟨x::t,rfl,fun c hc=>(MH hc).elim (fun e=>by rw [e];exact hx) (ht c)⟩
  intro l;induction l with
  | nil=>intro _;exact ⟨[],rfl,by simp⟩
  | cons a r ih=>
   intro h;obtain ⟨xs,rfl,hx⟩:=h a mem_cons_self;obtain ⟨x,rfl,hx2⟩:=one xs hx;obtain ⟨M,rfl,hM⟩:=ih fun b hb=>h b (MK _ hb)
   exact ⟨x::M,rfl,fun c hc=>(MH hc).elim (fun e=>by rw [e];exact hx2) (hM c)⟩
 have hs:∀l:List D,(∀r∈l,∃ts:List Int,r=.list (ts.map .int)/\ts.length<=30/\ts≠[]/\(∀t∈ts,0<=t/\t<(n:Int))/\ts.Pairwise (· < ·))->∃S:List (List Nat),l=S.map aC/\∀r∈S,r≠[]/\r.length<=30/\∀t∈r,t<n:=by
  have one:∀ts:List Int,(∀t∈ts,0<=t/\t<(n:Int))->∃r:List Nat,ts.map PyData.int=r.map rm/\r.length=ts.length/\∀t∈r,t<n:=by
   intro ts;induction ts with
   | nil=>intro _;exact ⟨[],rfl,rfl,by simp⟩
   | cons a r ih=>
    intro h;have ha:=h a mem_cons_self
    obtain ⟨t,e,el,ht⟩:=ih fun b hb=>h b (MK _ hb)
    refine ⟨a.toNat::t,?_,by simp [el],fun c hc=>(MH hc).elim (fun e=>by omega) (ht c)⟩
    rw [map_cons,map_cons,e];congr 2
    omega
  intro l;induction l with
  | nil=>intro _;exact ⟨[],rfl,by simp⟩
  | cons a r ih=>
   intro h;obtain ⟨ts,rfl,t1,t2,t3,_⟩:=h a mem_cons_self;obtain ⟨x,e,el,hx⟩:=one ts t3;obtain ⟨S,rfl,hS⟩:=ih fun b hb=>h b (MK _ hb)
   refine ⟨x::S,by rw [map_cons,e],fun c hc=>(MH hc).elim (fun e=>by
    subst e;exact ⟨fun z=>t2 (List.length_eq_zero_iff.mp (by rw [<-el,z];rfl)),by omega,hx⟩) (hS c)⟩
 obtain ⟨M,eM,hM⟩:=hm ms fun r hr=>let ⟨xs,a,b,_⟩:=g.m r hr;⟨xs,a,b⟩
 obtain ⟨S,eS,hS⟩:=hs ss g.s;subst eM eS;refine ⟨⟨n,os,M,S⟩,⟨g,h1,h24,?_,?_,hS,hM⟩,rfl,rfl⟩
 ·have:=g.lm;simpa using this
 ·have:=g.ls;simpa using this
noncomputable def knd:List Wr:=[.mark,.mark,.not,.and,.su,.au,.sn,.an,.sa,.aa,.or,.yes]
@[simp] theorem Kq (a:Wr):cY false (.str a.t) (.tuple [.str "and",.str "or",.str "some until",.str "all until"])=some (.bool (decide (a=.and\/a=.or\/a=.su\/a=.au))):=by cases a<;>kernel_rfl
structure Mad (made:List Sn):Prop where
 ne:0<made.length
 ok:∀s∈made,s.ok
 dp:∀s∈made,s.dep<=made.length
theorem kK {n:Nat}:bX 1 n=(List.range n).map fun k:Nat=>PyData.int (1+(k:Int)):=rfl
theorem gW (l:List Int):rW (l.map .int)=some l:=by
 induction l with
 | nil=>rfl
 | cons a r ih=>rw [map_cons,rW,ih];rfl
end KC
namespace KQ
open PySem PySem.Spec L2 T PySem.SeqAt KC
open PyProof.Rows hiding St
noncomputable def d__law_world:FS:=(ay (az false 3 (aD aJ (eK (.int 1)) (aD cK (ao 2 aM (ae (af 0) (ae (af 1) ag))) (af 2))))
  (ay (az true 4 (av .leaf ag))
  (ay (az true 5 (av .leaf ag))
  (ay (az true 6 (av .leaf ag))
  (ay (dw 7 (fw (ae (af 3) ag))
  (ay (az false 8 (ao 2 aM (ae (af 0) (ae (aD aJ (aD aJ (af 1) (eK (.int 1))) (af 7)) ag))))
  (ay (eu 4 (ao 3 ai (ae (af 8) (ae (eK (.int 0)) (ae (eK (.int 2)) ag)))))
  (ay (eu 5 (aB .leaf 11 (gX "abc") (aO aA (aD cP (ao 3 ai (ae (af 8) (ae (aD aJ (eK (.int 1)) (bG (fx "abc") (ae (af 11) ag))) (ae (eK (.int 2)) ag)))) (eK (.int 1)))) (af 11)))
  (ay (az false 9 (aB .leaf 10 (fw (ae (af 3) ag)) (aO aA (aD cP (ao 3 ai (ae (af 8) (ae (aD aJ (eK (.int 4)) (af 10)) (ae (aD aJ (eK (.int 2)) (bG fH (ae (aD pA (af 3) (eK (.int 3))) ag))) ag)))) (eK (.int 1)))) (af 10)))
  (ay (b6 (aO aA (aD cP (af 9) (av .leaf ag))) (az false 9 (av .leaf (ae (ao 3 ai (ae (af 8) (ae (aD aJ (eK (.int 4)) (af 3)) (ae (af 3) ag)))) ag))) aN)
  (eu 6 (af 9))))))))
  (aU (bT (ae (ck 4) (ae (ck 5) (ae (ck 6) ag))))))))))
noncomputable def m__law_world:List MR->Res:=aG 12 d__law_world
noncomputable abbrev eW:FS:=(ay (az false 8 (ao 2 aM (ae (af 0) (ae (aD aJ (aD aJ (af 1) (eK (.int 1))) (af 7)) ag))))
  (ay (eu 4 (ao 3 ai (ae (af 8) (ae (eK (.int 0)) (ae (eK (.int 2)) ag)))))
  (ay (eu 5 (aB .leaf 11 (gX "abc") (aO aA (aD cP (ao 3 ai (ae (af 8) (ae (aD aJ (eK (.int 1)) (bG (fx "abc") (ae (af 11) ag))) (ae (eK (.int 2)) ag)))) (eK (.int 1)))) (af 11)))
  (ay (az false 9 (aB .leaf 10 (fw (ae (af 3) ag)) (aO aA (aD cP (ao 3 ai (ae (af 8) (ae (aD aJ (eK (.int 4)) (af 10)) (ae (aD aJ (eK (.int 2)) (bG fH (ae (aD pA (af 3) (eK (.int 3))) ag))) ag)))) (eK (.int 1)))) (af 10)))
  (ay (b6 (aO aA (aD cP (af 9) (av .leaf ag))) (az false 9 (av .leaf (ae (ao 3 ai (ae (af 8) (ae (aD aJ (eK (.int 4)) (af 3)) (ae (af 3) ag)))) ag))) aN)
  (eu 6 (af 9)))))))
noncomputable def we (k:Nat):D:=.str ⟨#[97+k]⟩
theorem vQ {Γ:Ev}:gX "abc" Γ=.ok ⟨[0,1,2].map we,true⟩ Γ:=by
 have:FH "abc"=[0,1,2].map we:=by kernel_rfl
 unfold gX;rw [this]
theorem uT {k:Nat} (h:k∈[0,1,2]):k<3:=by
 simp at h
 omega
theorem B1 {k:Nat} (h:k∈[0,1,2]):fx "abc" [we k]=some (.int (k:Int)):=by
 simp at h
 rcases h with rfl | rfl | rfl<;>kernel_rfl
theorem nS {xs os ms ss:List D} {at' lim many:Int} {n:Nat} {x8 x9:Option PV} (hx:RowI xs) (ha:0<=at') (hm:1<=many) (hm2:many<=24) (h:Gw many n os ms ss) (hn:n<=30) {r:Nat} :
  ∃os' ms' ss' x8' x9',eW [MS (.list xs),MS (.int at'),MS (.int lim),MS (.int many),some ⟨.lst .leaf,.list os⟩,some ⟨.lst .leaf,.list ms⟩,some ⟨.lst .leaf,.list ss⟩,MS (.int (r:Nat)),x8,x9,none,none]
   = .nx [MS (.list xs),MS (.int at'),MS (.int lim),MS (.int many),some ⟨.lst .leaf,.list os'⟩,some ⟨.lst .leaf,.list ms'⟩,some ⟨.lst .leaf,.list ss'⟩,MS (.int (r:Nat)),x8',x9',none,none]/\Gw many (n+1) os' ms' ss':=by
 obtain ⟨c,hc⟩:=DK hx (k:=at'+1+(r:Int)) (by omega)
 have lo:=h.lo
 have lm:=h.lm
 have ls:=h.ls
 have c5:∀(Γ:Ev),Γ.length=12->Γ[8]?=some (MS (.int c))->(aB .leaf 11 (gX "abc") (aO aA (aD cP (ao 3 ai (ae (af 8) (ae (aD aJ (eK (.int 1)) (bG (fx "abc") (ae (af 11) ag))) (ae (eK (.int 2)) ag)))) (eK (.int 1)))) (af 11)) Γ
   = .ok ⟨.lst .leaf,.list (([0,1,2].filter fun k:Nat=>cR c (1+(k:Int)) 2==1).map we)⟩ Γ:=fun Γ hl h8=>by
  refine Da we [0,1,2] (fun k:Nat=>cR c (1+(k:Int)) 2==1) (fun k=>⟨.leaf,we k⟩) (st:=true) vQ (by omega) rfl (by simp) (fun k hk=>?_) fun k hk _=>?_
  ·have g11:(Γ.set 11 (MS (we k)))[11]?=some (MS (we k)):=by rw [getElem?_set_self (by omega)]
   have g8:(Γ.set 11 (MS (we k)))[8]?=some (MS (.int c)):=by rw [getElem?_set_ne (by omega)];exact h8
   exact gz (aF (cz (ax (aw g8) (ax (aF aH (bO (ax (aw g11) ah) (B1 hk)) add_int') (ax aH ah))) (wx (by omega) (by have:=uT hk;omega) (by omega) (by omega)) rfl rfl) aH eq_int)
  ·exact ⟨aw (by rw [getElem?_set_self (by omega)]),rfl⟩
 generalize hM:(([0,1,2].filter fun k:Nat=>cR c (1+(k:Int)) 2==1).map we)=M at c5
 have rM:iS M/\M.length<=30/\xT (.list M)=true:=by
  refine ⟨?_,?_,?_⟩
  ·rw [<-hM]
   intro a ha;obtain ⟨k,hk,rfl⟩:=List.mem_map.mp ha;have:=uT (List.mem_filter.mp hk).1
   exact ⟨_,rfl,uI (by omega)⟩
  ·rw [<-hM,length_map]
   exact Nat.le_trans (length_filter_le _ _) (by simp)
  ·rw [<-hM]
   simp only [filter_cons,List.filter_nil]
   have:=Km (cR c (1+((0:Nat):Int)) 2==1) (cR c (1+((1:Nat):Int)) 2==1) (cR c (1+((2:Nat):Int)) 2==1)
   revert this
   cases (cR c (1+((0:Nat):Int)) 2==1)<;>cases (cR c (1+((1:Nat):Int)) 2==1)<;>cases (cR c (1+((2:Nat):Int)) 2==1)<;>exact fun h=>h
 have c6:∀(Γ:Ev),Γ.length=12->Γ[8]?=some (MS (.int c))->Γ[3]?=some (MS (.int many))->aB .leaf 10 (fw (ae (af 3) ag)) (aO aA (aD cP (ao 3 ai (ae (af 8) (ae (aD aJ (eK (.int 4)) (af 10)) (ae (aD aJ (eK (.int 2)) (bG fH (ae (aD pA (af 3) (eK (.int 3))) ag))) ag)))) (eK (.int 1)))) (af 10) Γ
   = .ok ⟨.lst .leaf,.list (((bX 0 many.toNat).filter fun d=>match d with | .int k=>cR c (4+k) (2+(if decide (3<many) then 1 else 0))==1 | _=>false).map fun d=>d)⟩ Γ:=fun Γ hl h8 h3=>by
  refine gZ (c:=fun d=>match d with | .int k=>cR c (4+k) (2+(if decide (3<many) then 1 else 0))==1 | _=>false) (f:=fun d=>⟨.leaf,d⟩) (st:=true) (sG (k:=many) (ax (aw h3) ah) rfl (by omega) (by omega)) (by omega) rfl (by rw [GG];omega) (fun d hd=>?_) fun d hd _=>?_
  ·obtain ⟨k,hk,rfl⟩:=DG hd
   have g10:(Γ.set 10 (MS (.int (0+(k:Int)))))[10]?=some (MS (.int (0+(k:Int)))):=by rw [getElem?_set_self (by omega)]
   have g8:(Γ.set 10 (MS (.int (0+(k:Int)))))[8]?=some (MS (.int c)):=by rw [getElem?_set_ne (by omega)];exact h8
   have g3:(Γ.set 10 (MS (.int (0+(k:Int)))))[3]?=some (MS (.int many)):=by rw [getElem?_set_ne (by omega)];exact h3
   have b1:(1:Int)<=2+(if decide (3<many) then 1 else 0)/\(2:Int)+(if decide (3<many) then 1 else 0)<=1000:=by split<;>omega
   exact gz (aF (cz (ax (aw g8) (ax (aF aH (aw g10) add_int') (ax (aF aH (bO (ax (aF (aw g3) aH rfl) ah) rfl) add_int') ah))) (wx (by omega) (by omega) b1.1 b1.2) rfl rfl) aH eq_int)
  ·obtain ⟨k,hk,rfl⟩:=DG hd
   exact ⟨aw (by rw [getElem?_set_self (by omega)]),rfl⟩
 obtain ⟨ts,hT,hts1,hts2,hts3⟩:=AW many.toNat (fun d=>match d with | .int k=>cR c (4+k) (2+(if decide (3<many) then 1 else 0))==1 | _=>false)
 rw [hT] at c6;have fin:∀(Γ:Ev) (T:List Int),(T.length<=30/\T≠[]/\(∀t∈T,0<=t/\t<many)/\T.Pairwise (· < ·))->Γ=[MS (.list xs),MS (.int at'),MS (.int lim),MS (.int many),some ⟨.lst .leaf,.list (os++[.int (cR c 0 2)])⟩,some ⟨.lst .leaf,.list (ms++[.list M])⟩,some ⟨.lst .leaf,.list ss⟩,MS (.int (r:Nat)),MS (.int c),MS (.list (T.map .int)),none,none] ->
   ∃os' ms' ss' x8' x9',eu 6 (af 9) Γ=.nx [MS (.list xs),MS (.int at'),MS (.int lim),MS (.int many),some ⟨.lst .leaf,.list os'⟩,some ⟨.lst .leaf,.list ms'⟩,some ⟨.lst .leaf,.list ss'⟩,MS (.int (r:Nat)),x8',x9',none,none]/\Gw many (n+1) os' ms' ss':=fun Γ T hT2 hΓ=>by
  subst hΓ;refine ⟨os++[.int (cR c 0 2)],ms++[.list M],ss++[.list (T.map .int)],_,_,GX rfl (aw rfl) rfl (by omega),by simp;omega,by simp;omega,by simp;omega,fun a ha=>?_,fun a ha=>?_,fun a ha=>?_⟩
  ·rcases MG ha with z | z
   ·exact h.o a z
   ·have:=Dx (c:=c) (k:=0) (b:=2) (by omega) (by omega) (by omega) (by omega)
    rw [List.mem_singleton.mp z];rcases (by omega:cR c 0 2=0\/cR c 0 2=1) with e | e
    ·exact .inl (by rw [e])
    ·exact .inr (by rw [e])
  ·rcases MG ha with z | z
   ·exact h.m a z
   ·exact ⟨M,List.mem_singleton.mp z,rM.1,rM.2.1,by rw [List.mem_singleton.mp z];exact rM.2.2⟩
  ·rcases MG ha with z | z
   ·exact h.s a z
   ·exact ⟨T,List.mem_singleton.mp z,hT2⟩
 have e1:=b7 (i:=8) (cz (fl:=ae (af 0) (ae (aD aJ (aD aJ (af 1) (eK (.int 1))) (af 7)) ag)) (Γ:=[MS (.list xs),MS (.int at'),MS (.int lim),MS (.int many),some ⟨.lst .leaf,.list os⟩,some ⟨.lst .leaf,.list ms⟩,some ⟨.lst .leaf,.list ss⟩,MS (.int (r:Nat)),x8,x9,none,none]) (ax (aw rfl) (ax (aF (aF (aw rfl) aH add_int') (aw rfl) add_int') ah)) hc rfl rfl) rfl (by simp)
 have e2:eu 4 (ao 3 ai (ae (af 8) (ae (eK (.int 0)) (ae (eK (.int 2)) ag)))) [MS (.list xs),MS (.int at'),MS (.int lim),MS (.int many),some ⟨.lst .leaf,.list os⟩,some ⟨.lst .leaf,.list ms⟩,some ⟨.lst .leaf,.list ss⟩,MS (.int (r:Nat)),MS (.int c),x9,none,none]=_:=
  GX rfl (cz (ax (aw rfl) (ax aH (ax aH ah))) (wx (by omega) (by omega) (by omega) (by omega)) rfl rfl) rfl (by omega)
 have e3:=GX (i:=5) (Γ:=[MS (.list xs),MS (.int at'),MS (.int lim),MS (.int many),some ⟨.lst .leaf,.list (os++[.int (cR c 0 2)])⟩,some ⟨.lst .leaf,.list ms⟩,some ⟨.lst .leaf,.list ss⟩,MS (.int (r:Nat)),MS (.int c),x9,none,none]) rfl (c5 _ rfl rfl) rfl (by omega)
 have e4:=b7 (i:=9) (Γ:=[MS (.list xs),MS (.int at'),MS (.int lim),MS (.int many),some ⟨.lst .leaf,.list (os++[.int (cR c 0 2)])⟩,some ⟨.lst .leaf,.list (ms++[.list M])⟩,some ⟨.lst .leaf,.list ss⟩,MS (.int (r:Nat)),MS (.int c),x9,none,none]) (c6 _ rfl rfl rfl) rfl (by simp)
 have t:aO aA (aD cP (af 9) (av .leaf ag)) [MS (.list xs),MS (.int at'),MS (.int lim),MS (.int many),some ⟨.lst .leaf,.list (os++[.int (cR c 0 2)])⟩,some ⟨.lst .leaf,.list (ms++[.list M])⟩,some ⟨.lst .leaf,.list ss⟩,MS (.int (r:Nat)),MS (.int c),MS (.list (ts.map .int)),none,none]
   = .ok (decide ((ts.map PyData.int).length=0)) _:=gz (aF (aw rfl) (b9 (s:=.leaf) ah rfl rfl rfl) (CC (DH rowI_map)))
 cases hz:decide ((ts.map PyData.int).length=0) with
 | true=>
  rw [hz] at t;obtain ⟨o',m',s',y8,y9,f1,f2⟩:=fin _ [cR c (4+many) many] ⟨by simp,by simp,fun t ht=>by rw [List.mem_singleton.mp ht];exact Dx (by omega) (by omega) (by omega) (by omega),List.pairwise_singleton _ _⟩ rfl
  exact ⟨o',m',s',y8,y9,ak e1 (ak e2 (ak e3 (ak e4 (ak (aY t (fun _=>b7 (b9 (s:=.leaf) (ax (cz (ax (aw rfl) (ax (aF aH (aw rfl) add_int') (ax (aw rfl) ah))) (wx (by omega) (by omega) (by omega) (by omega)) rfl rfl) ah) rfl rfl rfl) rfl (by simp)) nofun) f1)))),f2⟩
 | false=>
  rw [hz] at t;obtain ⟨o',m',s',y8,y9,f1,f2⟩:=fin _ ts ⟨by omega,(fun z=>by rw [z] at hz;cases hz),(fun t ht=>by have:=hts1 t ht;omega),hts2⟩ rfl
  exact ⟨o',m',s',y8,y9,ak e1 (ak e2 (ak e3 (ak e4 (ak (aY t nofun (fun _=>rfl)) f1)))),f2⟩
theorem rq {xs:List D} {at' lim:Int} (hx:RowI xs) (ha:0<=at') (hl:1<=lim) (hl2:lim<=24):∃(n:Nat) (os ms ss:List D),m__law_world [.list xs,.int at',.int lim]=.ok ⟨W3,cX os ms ss⟩/\Gw (n:Int) n os ms ss/\1<=n/\(n:Int)<=lim:=by
 obtain ⟨c,hc⟩:=DK hx (k:=at') ha
 have b0:0<=c % lim:=Int.emod_nonneg _ (by omega)
 have b1:c % lim<lim:=Int.emod_lt_of_pos _ (by omega)
 generalize hmm:1+c % lim=many at *
 have e0:az false 3 (aD aJ (eK (.int 1)) (aD cK (ao 2 aM (ae (af 0) (ae (af 1) ag))) (af 2))) [MS (.list xs),MS (.int at'),MS (.int lim),none,none,none,none,none,none,none,none,none]
   = .nx [MS (.list xs),MS (.int at'),MS (.int lim),MS (.int many),none,none,none,none,none,none,none,none]:=by
  rw [<-hmm];exact b7 (aF aH (aF (cz (ax (aw rfl) (ax (aw rfl) ah)) hc rfl rfl) (aw rfl) (cy (by omega))) add_int') rfl (by simp)
 obtain ⟨Γ',e,os,ms,ss,x7,x8,x9,hΓ,hw⟩:=GJ (P:=fun n Γ=>∃os ms ss x7 x8 x9,Γ=[MS (.list xs),MS (.int at'),MS (.int lim),MS (.int many),some ⟨.lst .leaf,.list os⟩,some ⟨.lst .leaf,.list ms⟩,some ⟨.lst .leaf,.list ss⟩,x7,x8,x9,none,none]/\Gw many n os ms ss) (i:=7) (body:=eW) (bX 0 many.toNat) 0
  [MS (.list xs),MS (.int at'),MS (.int lim),MS (.int many),some ⟨.lst .leaf,.list []⟩,some ⟨.lst .leaf,.list []⟩,some ⟨.lst .leaf,.list []⟩,none,none,none,none,none] ⟨[],[],[],none,none,none,rfl,rfl,rfl,rfl,fun a ha=>(nomatch ha),fun a ha=>(nomatch ha),fun a ha=>(nomatch ha)⟩ (fun m d Γ hd h1 h2 ⟨os,ms,ss,x7,x8,x9,hΓ,hw⟩=>by
   subst hΓ;obtain ⟨k,hk,rfl⟩:=DG hd;rw [GG] at h2;rw [Int.zero_add];obtain ⟨os',ms',ss',y8,y9,f1,f2⟩:=nS (at':=at') (lim:=lim) (many:=many) (x8:=x8) (x9:=x9) hx ha (by omega) (by omega) hw (by omega) (r:=k)
   exact ⟨by simp,_,f1,os',ms',ss',_,y8,y9,rfl,f2⟩)
 subst hΓ;rw [GG,Nat.zero_add] at hw;have en:((many.toNat:Nat):Int)=many:=by omega
 refine ⟨many.toNat,os,ms,ss,aW (ak e0 (ak (zU (b9 (s:=.leaf) ah rfl rfl rfl) rfl (by simp)) (ak (zU (b9 (s:=.leaf) ah rfl rfl rfl) rfl (by simp)) (ak (zU (b9 (s:=.leaf) ah rfl rfl rfl) rfl (by simp)) (ak (eB (sG (k:=many) (ax (aw rfl) ah) rfl (by omega) (by omega)) e) (aX (cT (ax (DC (p:=⟨.lst .leaf,.list os⟩) rfl) (ax (DC (p:=⟨.lst .leaf,.list ms⟩) rfl) (ax (DC (p:=⟨.lst .leaf,.list ss⟩) rfl) ah))) rfl rfl) rfl)))))),by rw [en];exact hw,by omega,by omega⟩
end KQ
namespace KC
open PySem PySem.Spec L2 T
open PyProof.Rows hiding St
noncomputable def dJ:FS:=(aU (eh (aD (dI true) (af 0) (eK .none)) (eh (aD (dI true) (af 1) (eK .none)) (aD fU (af 0) (af 1)))))
noncomputable def dE:List MR->Res:=aG 2 dJ
noncomputable def eT:FS:=(aU (aB .leaf 3 (aR (aj (aj (af 0) (eK (.int 2))) (af 2))) (aO ba (ao 2 dE (ae (aj (af 1) (af 3)) (ae (aj (af 1) (af 2)) ag)))) (af 3)))
noncomputable def bS:List MR->Res:=aG 4 eT
noncomputable def nG:FS:=(aU (ao 4 eY (ae (af 0) (ae (aB .leaf 3 (aR (aj (af 0) (eK (.int 0)))) aT (eK (.bool true))) (ae (af 1) (ae (af 2) ag))))))
noncomputable def dD:List MR->Res:=aG 4 nG
noncomputable def j5:FS:=(b6 (aO aA (aD (cY true) (af 0) (eK bY))) kJ aN)
noncomputable def jU:List MR->Res:=aG 1 j5
noncomputable def eV:FS:=(b6 (bU (aO ba (ao 2 bH (ae (af 1) (ae (bG br (ae (aj (af 0) (eK (.int 0))) ag)) ag))))) kJ aN)
noncomputable def du:List MR->Res:=aG 2 eV
noncomputable def vD:FS:=(ay (bq (ao 1 aL (ae (af 0) ag)))
  (ay (bq (ao 1 jU (ae (af 1) ag)))
  (aU (CD .leaf 2 3 (aj (af 0) (eK (.int 1))) (aO aA (aD (cY false) (af 1) (af 3))) (af 2)))))
noncomputable def uR:List MR->Res:=aG 4 vD
noncomputable def gv:FS:=(aU (ao 3 dD (ae (af 0) (ae (af 1) (ae (aB .leaf 3 (aR (af 1)) (aO aA (aD (cY false) (af 2) (aj (aj (af 0) (eK (.int 1))) (af 3)))) (af 3)) ag)))))
noncomputable def gj:List MR->Res:=aG 4 gv
noncomputable def d_row_off:FS:=(ay (az false 3 (aB .leaf 7 (aR (af 1)) (bU (aO ba (bG (cQ true) (ae (aB .leaf 8 (aR (aj (aj (af 0) (eK (.int 2))) (af 7))) aT (aD (cY false) (af 8) (af 1))) ag)))) (af 7)))
  (ay (b6 (aO ba (af 3)) (aU (bT (ae (af 3) (ae (eK .none) ag)))) aN)
  (ay (dw 4 (aR (af 2))
  (ay (az false 5 (ao 3 gj (ae (af 0) (ae (af 1) (ae (af 4) ag)))))
  (ay (az false 6 (aB .leaf 7 (aR (af 1)) (aO aA (aD (dI false) (aj (af 5) (af 7)) (eK .none))) (af 7)))
  (b6 (aO ba (af 6)) (aU (bT (ae (af 6) (ae (af 4) ag)))) aN))))
  (aU (eK .none)))))
noncomputable def m_row_off:List MR->Res:=aG 9 d_row_off
noncomputable def d_rows_and_kept:FS:=(ay (az true 3 (av .leaf ag))
  (ay (az false 4 (vZ (af 1)))
  (ay (az false 5 (ao 3 m_row_off (ae (af 0) (ae (af 4) (ae (af 2) ag)))))
  (ay (si 1000 (aO aA (aD (dI true) (af 5) (eK .none)))
  (ay (eu 3 (af 5))
  (ay (az false 4 (aB .leaf 6 (aR (af 4)) (aO aA (aD (cY true) (af 6) (aj (af 5) (eK (.int 0))))) (af 6)))
  (az false 5 (ao 3 m_row_off (ae (af 0) (ae (af 4) (ae (af 2) ag))))))))
  (aU (bT (ae (ck 3) (ae (af 4) ag))))))))
noncomputable def m_rows_and_kept:List MR->Res:=aG 7 d_rows_and_kept
open PySem.SeqAt
theorem mw {n:Nat} {fl:FL} {Γ:Ev} {s:Sh} (hn:n<=1000) (h:fl Γ=.ok [⟨s,.int (n:Int)⟩] Γ):fw fl Γ=.ok ⟨(List.range n).map rm,true⟩ Γ:=by
 rw [sG (k:=(n:Int)) h rfl (by omega) (by omega),Int.toNat_natCast,oF]
theorem zM {n:Nat} {fl:FL} {Γ:Ev} {s:Sh} (hn:n<=1000) (h:fl Γ=.ok [⟨s,.int (n:Int)⟩] Γ):zI fl Γ=.ok ⟨.lst .leaf,aC (List.range n)⟩ Γ:=by
 rw [Jx (k:=(n:Int)) h rfl (by omega) (by omega),Int.toNat_natCast,oF]
theorem GF {r:List Nat}:r.map rm=(r.map fun t:Nat=>(t:Int)).map PyData.int:=by rw [map_map];rfl
theorem Std.sorted {n:Nat} {L:List Nat} (h:Std n L):L.Pairwise (· < ·):=by
 obtain ⟨q,rfl⟩:=h;exact List.Pairwise.filter _ List.pairwise_lt_range
theorem fy {n:Nat} (h24:n<=24) {R:List Nat} (h:Std n R):bH [aC R,.int (n:Int)]=.ok ⟨.leaf,.bool true⟩:=by
 have hl:=h.len
 rw [aC,GF,Jp rowI_map (by simp;omega)]
 have h1:((R.map fun t:Nat=>(t:Int)).map PyData.int).all (inR (n:Int))=true:=by
  rw [all_eq_true];intro d hd;obtain ⟨i,hi,rfl⟩:=List.mem_map.mp hd;obtain ⟨t,ht,rfl⟩:=List.mem_map.mp hi;have:=h.lt t ht
  simp [inR]
  omega
 have h2:dm ((R.map fun t:Nat=>(t:Int)).map PyData.int)=true:=kL (by
  rw [pairwise_map];exact h.sorted.imp fun h=>by omega)
 rw [h1,h2];rfl
theorem gr {w:Wd} (ok:w.Ok) {R:List Nat} (h:Std w.n R):du [w.enc,aC R]=.ok ⟨.leaf,.none⟩:=by
 have lo:=ok.g.lo
 have:=fy ok.h24 h
 refine fo (Γ:=aQ 2 [w.enc,aC R]) ?_
 simp [eV,aQ,Wd.enc,cX,lo,this]
noncomputable def Mj (p:Int):D->Bool
 | .int o=>o==p
 | _=>false
noncomputable def own (w:Wd) (p:Int):Nat->Bool:=gA (w.os.map (Mj p))
theorem Wd.Ok.o_at {w:Wd} (ok:w.Ok) {r:Nat} (hr:r<w.n):∃o:Int,(o=0\/o=1)/\d5 w.os (r:Int)=some (.int o)/\∀p,own w p r=(o==p):=by
 have hl:r<w.os.length:=by rw [ok.g.lo];exact hr
 have hm:=ok.g.o _ (getElem_mem hl)
 have key:∀o:Int,w.os[r]=.int o->d5 w.os (r:Int)=some (.int o)/\∀p,own w p r=(o==p):=fun o e=>by
  refine ⟨yS (by rw [MI hl,e]),fun p=>?_⟩
  unfold own gA;rw [MJ,getElem?_map,MI hl,e];rfl
 rcases hm with e | e
 ·exact ⟨0,.inl rfl,key 0 e⟩
 ·exact ⟨1,.inr rfl,key 1 e⟩
theorem RightG.congr {n:Nat} {st:Nat->List Nat} {ch ch':Nat->Bool} {thr goal:List Nat} {rk:List (Option Nat)} (h:RightG n st ch thr goal rk) (e:∀r,r<n->ch r=ch' r):RightG n st ch' thr goal rk:=
 ⟨h.len,h.g,fun r k hr hg hk=>by rw [<-e r hr];exact h.p r k hr hg hk,fun r hr hz=>by rw [<-e r hr];exact h.z r hr hz⟩
noncomputable def qQ:Option Nat->Option Nat->Bool
 | some a,some b=>decide (a<b)
 | _,_=>false
theorem rA {a b:Option Nat}:dE [oD a,oD b]=.ok ⟨.leaf,.bool (qQ a b)⟩:=by
 refine aW ?_
 cases a with
 | none=>simp [dJ,aQ,oD,qQ,sk]
 | some a=>
  cases b with
  | none=>simp [dJ,aQ,oD,qQ,sk]
  | some b=>simp [dJ,aQ,oD,qQ,sk]
noncomputable def nr (w:Wd) (rk:List (Option Nat)) (r:Nat):List Nat:=(w.stp r).filter fun t=>qQ (bB rk t) (bB rk r)
theorem gq {w:Wd} (ok:w.Ok) {rk:List (Option Nat)} (hl:rk.length=w.n) {r:Nat} (hr:r<w.n):bS [w.enc,iA rk,rm r]=.ok ⟨.lst .leaf,aC (nr w rk r)⟩:=by
 have a2:=ok.at2 hr
 have a1:=pJ (rk:=rk) (t:=r) (by omega)
 have e:aB .leaf 3 (aR (aj (aj (af 0) (eK (.int 2))) (af 2))) (aO ba (ao 2 dE (ae (aj (af 1) (af 3)) (ae (aj (af 1) (af 2)) ag)))) (af 3) (aQ 4 [w.enc,iA rk,rm r])=.ok ⟨.lst .leaf,.list ((nr w rk r).map fun t=>rm t)⟩ (aQ 4 [w.enc,iA rk,rm r]):=by
  refine Da rm (w.stp r) (fun t=>qQ (bB rk t) (bB rk r)) (fun t=>⟨.leaf,rm t⟩) (st:=true) (by simp [aQ,Wd.enc,cX,a2]) (by simp [aQ]) rfl ok.z.len (fun t ht=>?_) (fun t ht _=>?_)
  ·have a3:=pJ (rk:=rk) (t:=t) (by rw [hl];exact ok.stp_lt ht)
   have dl:=rA (a:=bB rk t) (b:=bB rk r)
   simp [aQ,a1,a3,dl]
  ·simp [aQ]
 refine aW ?_
 unfold eT;rw [Er,e];rfl
structure KS (w:Wd) (p:Int) (pl:List (Option Nat)):Prop where
 len:pl.length=w.n
 st:∀r t,r<w.n->bB pl r=some t->own w p r=true/\t∈w.stp r
end KC
namespace TQ
open PySem PySem.Spec L2 T
open PyProof.Rows hiding St
variable {X:Cx} {N gl:List Str} {vs cs ls lo gs:List Nat} {W:XW} {a b:Expr} {pos p:Pos} {fl:FL}
end TQ
namespace T
open PySem PySem.Spec L2
open PyProof.Rows hiding St
section
variable {K:Fg} {W:XW} {σ:St} {H:Hp} {Q:VK} {D:dz} {fa fb:F1} {fl:FL}
open Classical in
end
end T
namespace KC
open PySem PySem.Spec L2 T PySem.SeqAt
open PyProof.Rows hiding St
noncomputable def Wd.inn (w:Wd) (L:List Nat):Wd:=⟨w.n,w.os,w.m,w.s.map fun row=>row.filter fun t=>L.contains t⟩
noncomputable abbrev gl (T L:List Nat):List Nat:=L.filter fun r=>T.contains r
noncomputable abbrev lst (rk:List (Option Nat)) (L:List Nat):List Nat:=L.filter fun r=>(bB rk r).isNone
noncomputable def tD:Option (Nat×Nat)->D
 | none=>.none
 | some (a,b)=>.tuple [.int (a:Int),.int (b:Int)]
@[simp] theorem Hf (o:Option (Nat×Nat)):sk (tD o)=o.isNone:=by cases o<;>rfl
noncomputable def Dl (tn:List (Option (Nat×Nat))) (t:Nat):Option (Nat×Nat):=tn.getD t none
noncomputable def F9 (tn:List (Option (Nat×Nat))) (a b t:Nat):Prop:=∃a' b',Dl tn t=some (a',b')/\(a'<a\/(a'=a/\(b'<b\/(b=0/\b'=0))))
structure TS where
 tn:List (Option (Nat×Nat))
 L:List Nat
 k:Nat
 lost:List Nat
 x7:Option PV
 x8:Option PV
structure TI (w:Wd) (p:Int) (T:List Nat) (b:TS):Prop where
 len:b.tn.length=w.n
 std:Std w.n b.L
 mem:∀r,r<w.n->(r∈b.L↔Dl b.tn r=none)
 c:∀r∈b.L,led (own w p r) (w.stp r) (·∈b.L)
 big:∀X,CW w.n w.stp (own w p) (·∈T) X->∀r,X r->r∈b.L
 los:∃rk,RightG w.n (inn w.stp b.L) (own w p) b.L (gl T b.L) rk/\b.lost=lst rk b.L
 tk:∀r a j,Dl b.tn r=some (a,j)->a<b.k
 td:∀r a j,r<w.n->Dl b.tn r=some (a,j)->(j=0->r∉T)/\led (!own w p r) (w.stp r) (F9 b.tn a j)
structure MD (w:Wd) (p:Int) (T:List Nat) (tn:List (Option (Nat×Nat))) (L:List Nat):Prop where
 len:tn.length=w.n
 std:Std w.n L
 mem:∀r,r<w.n->(r∈L↔Dl tn r=none)
 c:∀r∈L,led (own w p r) (w.stp r) (·∈L)
 suff:CW w.n w.stp (own w p) (·∈T) (·∈L)
 big:∀X,CW w.n w.stp (own w p) (·∈T) X->∀r,X r->r∈L
 td:∀r a j,r<w.n->Dl tn r=some (a,j)->(j=0->r∉T)/\led (!own w p r) (w.stp r) (F9 tn a j)
noncomputable abbrev Kj (w:Wd) (c:Str) (r:Nat):Prop:=c∈w.mks r
noncomputable abbrev gm (w:Wd) (c:Str) (L:List Nat):List Nat:=L.filter fun r=>(w.mks r).contains c
structure F5 (w:Wd) (M:List Str) (L off:List Nat):Prop where
 ne:off≠[]
 sub:∀r∈off,r∈L
 no:∀(R:Nat->Prop) X,Fr w.n w.stp R M (Kj w) X->(∀r,X r->r∈L)->∀r∈off,¬X r
structure F8 (w:Wd) (M:List Str) (L:List Nat):Prop where
 c:∀r∈L,∃t∈w.stp r,t∈L
 a:∀m∈M,∀S:Nat->Prop,(∀r,r∈L->Kj w m r->S r)->(∀r,r∈L->(∃t∈w.stp r,t∈L/\S t)->S r)->∀r,r∈L->S r
theorem CT {l L:List Nat}:cQ true [.list (l.map fun t=>PyData.bool (L.contains t))]=some (.bool (l.any fun t=>L.contains t)):=by
 have:=pC (bs:=l.map fun t=>L.contains t)
 rw [map_map] at this;refine this.trans ?_
 rw [List.any_map];rfl
structure My where
 rows:List D
 L:List Nat
 row:D
structure FI (w:Wd) (R:List Nat) (M:List Str) (b:My):Prop where
 std:Std w.n b.L
 sub:∀r∈b.L,r∈R
 cnt:b.rows.length+b.L.length<=w.n
 big:∀X,Fr w.n w.stp (·∈R) M (Kj w) X->∀r,X r->r∈b.L
 row:(b.row=.none/\F8 w M b.L)\/(∃off o,b.row=.tuple [aC off,o]/\F5 w M b.L off)
theorem Ak {is:List Nat} {f:F1} {Γ Γ1 Γ':Ev} {p:PV} {ps:List PV} (h:f Γ=.ok p Γ1) (hu:Ay p=some ps) (hl:ps.length=is.length) (hp:putN is ps Γ1=some Γ'):gJ is f Γ=.nx Γ':=by
 unfold gJ fP;rw [h];simp only [hu,hl,if_true,hp]
theorem wR {r:List Nat}:shaped (aC r)=true:=DH fun a ha=>by
 obtain ⟨t,_,e⟩:=List.mem_map.mp ha;exact ⟨(t:Int),e.symm⟩
noncomputable def wj (w:Wd):List Nat->Prop
 | a::b::r=>b∈w.stp a/\wj w (b::r)
 | _=>True
structure Las (w:Wd) (p:List Nat):Prop where
 ch:wj w p
 nd:p.Nodup
 bk:∃z t,p.getLast?=some z/\t∈w.stp z/\t∈p
theorem IB {w:Wd} {z t:Nat} (ht:t∈w.stp z):∀{p:List Nat},wj w p->p.getLast?=some z->wj w (p++[t])
 | [],_,h=>by simp at h
 | [a],_,h=>by
  simp at h
  subst h;exact ⟨ht,trivial⟩
 | a::b::r,h,e=>⟨h.1,IB ht h.2 (by simpa using e)⟩
theorem HR:∀{n:Nat} {p:List Nat},p.Nodup->(∀x∈p,x<n)->p.length<=n
 | 0,[],_,_=>MQ _
 | 0,a::p,_,h=>absurd (h a (by simp)) (Nat.not_lt_zero _)
 | n+1,p,nd,h=>by
  by_cases hn:n∈p
  ·have:=HR (n:=n) (nd.erase n) fun x hx=>by
    obtain ⟨h1,h2⟩:=nd.mem_erase_iff.mp hx;have:=h x h2
    omega
   rw [List.length_erase_of_mem hn] at this;omega
  ·have:=HR (n:=n) nd fun x hx=>by
    have h1:=h x hx
    have:x≠n:=fun e=>hn (e▸hx)
    omega
   omega
end KC
namespace KC
open PySem PySem.Spec L2 T
open PyProof.Rows hiding St
noncomputable def rH:FS:=(ay (az false 2 (bz (bz (aj (af 1) (eK (.int 0))) (aj (af 1) (eK (.int 1)))) (bP (fun k=>(none,some k)) (aj (af 1) (eK (.int 1))) (eK (.int 1)))))
  (ay (b6 (ke (bU (aO ba (aj (af 1) (eK (.int 1))))) (bU (aO ba (bG (cQ false) (ae (aB .leaf 4 (aR (af 2)) aT (mE qX fU (eK (.int 0)) (af 4) (bG br (ae (aj (af 0) (eK (.int 0))) ag)))) ag))))) (aU (eK (.bool false))) aN)
  (aU (bG (cQ false) (ae (aB .leaf 3 (xZ (ae (eK (.int 1)) (ae (bG br (ae (af 2) ag)) ag))) aT (aD (cY false) (aj (af 2) (af 3)) (aj (aj (af 0) (eK (.int 2))) (aj (af 2) (aD gSub (af 3) (eK (.int 1))))))) ag)))))
noncomputable def bw:List MR->Res:=aG 5 rH
end KC
namespace KQ
open PySem PySem.Spec L2 T
open PyProof.Rows hiding St
open KC
noncomputable def nI:FS:=(ay (az true 4 (av .leaf (ae (af 2) ag)))
  (ay (dw 5 (fw (ae (af 3) ag))
  (ay (az false 8 (aj (aj (af 0) (eK (.int 2))) (aj (af 4) (eU bt (eK (.int 1))))))
  (eu 4 (aj (af 8) (aD cK (ao 3 ai (ae (af 1) (ae (af 5) (ae (eK (.int 24)) ag)))) (bG br (ae (af 8) ag)))))))
  (ay (si 100 (aO aA (aD (cY true) (aj (af 4) (eU bt (eK (.int 1)))) (bP (fun k=>(none,some k)) (af 4) (eU bt (eK (.int 1))))))
  (ay (az false 8 (aj (aj (af 0) (eK (.int 2))) (aj (af 4) (eU bt (eK (.int 1))))))
  (eu 4 (aj (af 8) (aD cK (ao 3 ai (ae (af 1) (ae (bG br (ae (af 4) ag)) (ae (eK (.int 24)) ag)))) (bG br (ae (af 8) ag)))))))
  (ay (az false 6 (aB .leaf 5 (fw (ae (aD gSub (bG br (ae (af 4) ag)) (eK (.int 1))) ag)) (aO aA (aD cP (aj (af 4) (af 5)) (aj (af 4) (eU bt (eK (.int 1)))))) (af 5)))
  (ay (az false 7 (aj (af 6) (aD cK (ao 3 ai (ae (af 1) (ae (eK (.int 59)) (ae (eK (.int 24)) ag)))) (bG br (ae (af 6) ag)))))
  (aU (bT (ae (bP (fun k=>(none,some k)) (af 4) (af 7)) (ae (bP (fun k=>(some k,some (-1))) (af 4) (af 7)) ag)))))))))
noncomputable def dF:List MR->Res:=aG 9 nI
end KQ
namespace KC
open PySem PySem.Spec L2 T PySem.SeqAt
open PyProof.Rows hiding St
theorem eC {Γ Γ1 Γ2:Ev} {g:Int->Option Int×Option Int} {fa fb:F1} {s s':Sh} {xs:List D} {k:Int} (ha:fa Γ=.ok ⟨s,.list xs⟩ Γ1) (hb:fb Γ1=.ok ⟨s',.int k⟩ Γ2) (ho:dA ⟨s,.list xs⟩ xs=true):bP g fa fb Γ=.ok ⟨.lst .leaf,.list (T.cutD xs (g k).1 (g k).2)⟩ Γ2:=by
 unfold bP aS;rw [ha];simp only [Out.bind]
 rw [hb];simp only [ho,if_true]
theorem zS {s:Sh} {l:List Nat}:dA ⟨s,aC l⟩ (l.map rm)=true:=by
 unfold dA;simp [bo]
theorem zi {l:List Nat} {k:Nat}:T.cutD (l.map rm) none (some (k:Int))=(l.take k).map rm:=by
 unfold T.cutD;rw [HT.sIx_none,HT.sIx_nat,List.drop_zero,length_map,Nat.sub_zero,map_take];by_cases h:k<=l.length
 ·rw [Nat.min_eq_left h]
 ·rw [Nat.min_eq_right (by omega),take_of_length_le (by simp),take_of_length_le (by simp;omega)]
theorem oA {n d k:Nat} (h:1<=k):HT.sIx n d (some (-(k:Int)))=n-k:=by
 unfold HT.sIx;simp only
 rw [if_pos (by omega)]
 omega
theorem Iq {l:List Nat}:T.cutD (l.map rm) none (some (-1))=l.dropLast.map rm:=by
 unfold T.cutD;rw [HT.sIx_none,List.drop_zero,Nat.sub_zero,List.dropLast_eq_take,map_take,length_map];rw [show (-1:Int)=-((1:Nat):Int) from rfl,oA (by omega)]
theorem AL {l:List Nat} {k:Nat} (h:k<=l.length):T.cutD (l.map rm) (some (k:Int)) (some (-1))=(l.dropLast.drop k).map rm:=by
 unfold T.cutD;rw [HT.sIx_nat,List.dropLast_eq_take,List.map_drop,map_take,length_map,Nat.min_eq_left h];rw [show (-1:Int)=-((1:Nat):Int) from rfl,oA (by omega),List.drop_take]
theorem yH {l:List Nat} {z:Nat} (h:l.getLast?=some z):d5 (l.map rm) (-1)=some (rm z):=by
 have hl:0<l.length:=by
  cases l with
  | nil=>simp at h
  | cons a r=>simp
 rw [List.getLast?_eq_getElem?] at h;unfold d5 dQ;rw [length_map];simp only [show ¬(0:Int) <= -1 by omega,false_and,if_false]
 rw [if_pos (by omega)]
 simp only [Option.bind_some]
 rw [getElem?_map,show (-1+(l.length:Int)).toNat=l.length-1 by omega,h]
 rfl
theorem Gf {Γ:Ev}:eU bt (eK (.int 1)) Γ=.ok ⟨.leaf,.int (-1)⟩ Γ:=sO aH rfl
theorem Iw {Γ:Ev} {fa fb:F1} {s:Sh} {l:List Nat} {z:Nat} (ha:fa Γ=.ok ⟨.view,aC l⟩ Γ) (hb:fb Γ=.ok ⟨s,.int (-1)⟩ Γ) (h:l.getLast?=some z):aj fa fb Γ=.ok ⟨.leaf,rm z⟩ Γ:=by
 rw [dN,ha];simp only [Out.bind]
 rw [hb];simp only
 rw [zo,yH h];rfl
theorem D3 {Γ:Ev} {fa fb:F1} {s:Sh} {l:List Nat} {k:Nat} (ha:fa Γ=.ok ⟨.view,aC l⟩ Γ) (hb:fb Γ=.ok ⟨s,.int (k:Int)⟩ Γ) (h:k<l.length):aj fa fb Γ=.ok ⟨.leaf,rm (l.getD k 0)⟩ Γ:=by
 rw [dN,ha];simp only [Out.bind]
 rw [hb];simp only
 rw [zo,yS (x:=rm (l.getD k 0)) (by rw [getElem?_map,MJ,MI h];rfl)]
 rfl
theorem i7 {Γ:Ev} {fa fb:F1} {s:Sh} {l:List Nat} {k:Nat} (ha:fa Γ=.ok ⟨.leaf,aC l⟩ Γ) (hb:fb Γ=.ok ⟨s,.int (k:Int)⟩ Γ) (h:k<l.length):aj fa fb Γ=.ok ⟨.leaf,rm (l.getD k 0)⟩ Γ:=by
 rw [dN,ha];simp only [Out.bind]
 rw [hb];simp only
 rw [kQ,yS (x:=rm (l.getD k 0)) (by rw [getElem?_map,MJ,MI h];rfl)]
theorem vO {α:Type} {xs:List α}:cQ false [.list (xs.map fun _=>.bool true)]=some (.bool true):=by
 rw [v7 (xs:=xs) (f:=fun _=>true),List.all_eq_true.mpr fun _ _=>rfl]
noncomputable abbrev wy (F R:List Nat):D:=.tuple [aC F,aC R]
structure mx (w:Wd) (F R:List Nat):Prop where
 ne:R≠[]
 lt:∀x∈F++R,x<w.n
 ch:wj w (F++R++R.take 1)
 len:F.length+R.length<=1000
theorem pI {w:Wd}:∀{l:List Nat} {k:Nat},wj w l->k+1<l.length->l.getD (k+1) 0∈w.stp (l.getD k 0)
 | [],k,_,h=>by simp at h
 | [a],k,_,h=>by simp at h
 | a::b::r,0,h,_=>h.1
 | a::b::r,k+1,h,hk=>by
  have:=pI (k:=k) h.2 (by simpa using hk)
  simpa using this
theorem GT {w:Wd} (ok:w.Ok) {Γ:Ev} {i:Nat} {fb:F1} {s:Sh} {r:Nat} (h0:Γ[i]?=some (MS w.enc)) (hb:fb Γ=.ok ⟨s,rm r⟩ Γ) (hr:r<w.n):aj (aj (af i) (eK (.int 2))) fb Γ=.ok ⟨.leaf,aC (w.stp r)⟩ Γ:=by
 rw [dN,dN,aw h0];simp only [Out.bind,aH,Wd.enc,cX,kP,zp]
 rw [hb];simp only [kQ]
 rw [ok.at2 hr]
theorem zV {w:Wd} (ok:w.Ok) {Γ:Ev} {i:Nat} (h0:Γ[i]?=some (MS w.enc)):bG br (ae (aj (af i) (eK (.int 0))) ag) Γ=.ok ⟨.leaf,.int (w.n:Int)⟩ Γ:=by
 have e:aj (af i) (eK (.int 0)) Γ=.ok ⟨.leaf,.list w.os⟩ Γ:=by
  rw [dN,aw h0];simp only [Out.bind,aH,Wd.enc,cX,kP,zq]
 refine bO (ax e ah) ?_
 simp [ok.g.lo]
theorem D7 {R:List Nat} (h:R≠[]):∃a,R.take 1=[a]/\a∈R:=by
 cases R with
 | nil=>exact absurd rfl h
 | cons a r=>exact ⟨a,rfl,by simp⟩
theorem lR {w:Wd} (ok:w.Ok) {F R:List Nat} (h:mx w F R):bw [w.enc,wy F R]=.ok ⟨.leaf,.bool true⟩:=by
 obtain ⟨a,ea,ha⟩:=D7 h.ne;have hl:=h.len
 have ltA:∀x∈F++R++R.take 1,x<w.n:=fun x hx=>by
  rcases MG hx with z | z
  ·exact h.lt x z
  ·rw [ea] at z
   rw [List.mem_singleton.mp z];exact h.lt a (ME _ ha)
 have lnA:(F++R++R.take 1).length<=1001:=by rw [ea];simp;omega
 have l1:1<=(F++R++R.take 1).length:=by rw [ea];simp;omega
 have c1:bz (bz (aj (af 1) (eK (.int 0))) (aj (af 1) (eK (.int 1)))) (bP (fun k=>(none,some k)) (aj (af 1) (eK (.int 1))) (eK (.int 1))) (aQ 5 [w.enc,wy F R])=.ok ⟨.lst .leaf,aC (F++R++R.take 1)⟩ (aQ 5 [w.enc,wy F R]):=by
  have i0:aj (af 1) (eK (.int 0)) (aQ 5 [w.enc,wy F R])=.ok ⟨.leaf,aC F⟩ (aQ 5 [w.enc,wy F R]):=by simp [aQ]
  have i1:aj (af 1) (eK (.int 1)) (aQ 5 [w.enc,wy F R])=.ok ⟨.leaf,aC R⟩ (aQ 5 [w.enc,wy F R]):=by simp [aQ]
  have s1:bP (fun k=>(none,some k)) (aj (af 1) (eK (.int 1))) (eK (.int 1)) (aQ 5 [w.enc,wy F R])=.ok ⟨.lst .leaf,aC (R.take 1)⟩ (aQ 5 [w.enc,wy F R]):=by
   rw [eC i1 aH rfl,show T.cutD (R.map rm) none (some (1:Int))=(R.take 1).map rm from zi (k:=1)]
  have:=cG (cG i0 i1 rfl rfl (by simp;omega)) s1 rfl rfl (by simp;omega)
  rw [this];simp [aC]
 generalize hA:F++R++R.take 1=A at c1 ltA lnA l1
 have hch:wj w A:=hA▸h.ch
 refine aW ?_
 refine ak (Γ1:=[MS w.enc,MS (wy F R),MS (aC A),none,none]) (b7 c1 rfl (by simp [aQ])) ?_
 refine ak (aY (t:=false) (mq (a:=false) (b:=false) (de (b:=true) (Γ1:=[MS w.enc,MS (wy F R),MS (aC A),none,none]) ?_) (de (b:=true) (cw (s:=.leaf) (bO (ps:=[⟨.lst .leaf,.list (A.map fun x=>.bool true)⟩]) (ax (mC rm A (fun x=>⟨.leaf,.bool true⟩) (st:=true) ?_ (by simp) rfl (by omega) ?_) ah) ?_)))) nofun fun _=>rfl) ?_
 ·cases R with
  | nil=>exact absurd rfl h.ne
  | cons b r=>
   have i1:aj (af 1) (eK (.int 1)) [MS w.enc,MS (wy F (b::r)),MS (aC A),none,none]=.ok ⟨.leaf,aC (b::r)⟩ [MS w.enc,MS (wy F (b::r)),MS (aC A),none,none]:=by simp
   unfold aO;rw [i1];rfl
 ·exact bQ (aw rfl) rfl
 ·intro x hx
  refine ⟨?_,rfl⟩
  have:=ltA x hx
  have e:=GK (b:=decide ((0:Int)<=(x:Int))) (b':=decide ((x:Int)<(w.n:Int))) (g:=qX) (g':=fU) (fa:=eK (.int 0)) (fb:=af 4) (Γ:=[MS w.enc,MS (wy F R),MS (aC A),none,MS (rm x)]) aH (aw rfl) rfl rfl (zV ok (i:=0) rfl) rfl
  rw [show (decide ((0:Int)<=(x:Int))&&decide ((x:Int)<(w.n:Int)))=true by simp;omega] at e
  exact e
 ·exact vO
 ·refine aX (p:=⟨.leaf,.bool true⟩) (bO (ps:=[⟨.lst .leaf,.list ((List.range (A.length-1)).map fun x=>.bool true)⟩]) (ax (mC (fun k:Nat=>PyData.int (1+(k:Int))) (List.range (A.length-1)) (fun x=>⟨.leaf,.bool true⟩) (st:=true) ?_ (by simp) rfl (by simp;omega) ?_) ah) ?_) rfl
  ·refine (As (k:=1) (m:=(A.length:Int)) (ax aH (ax (bO (ax (aw rfl) ah) ?_) ah)) rfl (by omega) (by omega) (by omega) (by omega)).trans ?_
   ·simp only [map_cons,map_nil,Gc,length_map]
   ·rw [show ((A.length:Int)-1).toNat=A.length-1 by omega,kK]
  ·intro k hk
   have hk:=List.mem_range.mp hk
   refine ⟨?_,rfl⟩
   have e1:=i7 (Γ:=[MS w.enc,MS (wy F R),MS (aC A),MS (.int (1+(k:Int))),none]) (fa:=af 2) (fb:=af 3) (s:=.leaf) (l:=A) (k:=k+1) (aw rfl) (by rw [aw (d:=.int (1+(k:Int))) rfl,show (1+(k:Int))=((k+1:Nat):Int) by omega]) (by omega)
   have e2:=i7 (Γ:=[MS w.enc,MS (wy F R),MS (aC A),MS (.int (1+(k:Int))),none]) (fa:=af 2) (fb:=aD gSub (af 3) (eK (.int 1))) (s:=.leaf) (l:=A) (k:=k) (aw rfl) (by rw [aF (aw rfl) aH sub_int',show (1+(k:Int)-1)=(k:Int) by omega]) (by omega)
   have hm:A.getD k 0<w.n:=ltA _ (by rw [MJ,MI (by omega:k<A.length)];exact getElem_mem _)
   refine aF e1 (GT ok rfl e2 hm) ?_
   rw [Dy,List.contains_iff_mem.mpr (pI hch (by omega))]
  ·exact vO
end KC
namespace KQ
open PySem PySem.Spec L2 T PySem.SeqAt KC
open PyProof.Rows hiding St
noncomputable abbrev GW (w:Wd) (c:Int) (r sz:Nat) (l:List Nat) (x5 x8:Option PV):Ev:=[MS w.enc,MS (.int c),MS (rm r),MS (.int (sz:Int)),some ⟨.lst .leaf,aC l⟩,x5,none,none,x8]
noncomputable abbrev gD (fk:F1):FS:=ay (az false 8 (aj (aj (af 0) (eK (.int 2))) (aj (af 4) (eU bt (eK (.int 1))))))
  (eu 4 (aj (af 8) (aD cK (ao 3 ai (ae (af 1) (ae fk (ae (eK (.int 24)) ag)))) (bG br (ae (af 8) ag)))))
theorem EA {c k:Int} (h0:0<=k) (h1:k<=1000) {b m:Nat} (hb:1<=b) (hb2:b<=1000) (hm:1<=m):∃j:Nat,j<m/\cR c k b % (m:Int)=(j:Int):=by
 have h:=Dx (c:=c) (k:=k) (b:=b) h0 h1 (by omega) (by omega)
 have h2:=Int.emod_nonneg (cR c k b) (show (m:Int)≠0 by omega)
 have h3:=Int.emod_lt_of_pos (cR c k b) (show (0:Int)<m by omega)
 exact ⟨(cR c k b % (m:Int)).toNat,by omega,by omega⟩
theorem oi {w:Wd} (ok:w.Ok) {c:Int} {r sz:Nat} {l:List Nat} {x5 x8:Option PV} {fk:F1} {kk:Int} (h0:0<=kk) (h1:kk<=1000) (hf:∀x,fk (GW w c r sz l x5 x)=.ok ⟨.leaf,.int kk⟩ (GW w c r sz l x5 x)) {z:Nat} (hz:l.getLast?=some z) (hzn:z<w.n) (hl:l.length<=900) :
  ∃t x,t∈w.stp z/\gD fk (GW w c r sz l x5 x8)=.nx (GW w c r sz (l++[t]) x5 x):=by
 have hne:=ok.stp_ne hzn
 have hpos:1<=(w.stp z).length:=by
  cases e:w.stp z with
  | nil=>exact absurd e hne
  | cons a b=>simp
 obtain ⟨j,hj,ej⟩:=EA (c:=c) h0 h1 (b:=24) (by omega) (by omega) hpos
 refine ⟨(w.stp z).getD j 0,MS (aC (w.stp z)),?_,?_⟩
 ·rw [MJ,MI hj]
  exact getElem_mem _
 ·refine ak (Γ1:=GW w c r sz l x5 (MS (aC (w.stp z)))) (b7 (GT ok rfl (Iw (eD rfl) Gf hz) hzn) rfl (by simp)) ?_
  have m1:cK (.int (cR c kk 24)) (.int ((w.stp z).length:Int))=some (.int (j:Int)):=by
   rw [cy (by omega),show cR c kk 24 % ((w.stp z).length:Int)=(j:Int) from ej]
  have e:=GX (i:=4) (s:=.leaf) (ds:=l.map rm) (Γ:=GW w c r sz l x5 (MS (aC (w.stp z)))) (fa:=aj (af 8) (aD cK (ao 3 ai (ae (af 1) (ae fk (ae (eK (.int 24)) ag)))) (bG br (ae (af 8) ag)))) (p:=⟨.leaf,rm ((w.stp z).getD j 0)⟩) rfl
   (i7 (aw rfl) (s:=.leaf) (k:=j) (aF (cz (ax (aw rfl) (ax (hf (MS (aC (w.stp z)))) (ax aH ah))) (wx (b:=24) h0 h1 (by omega) (by omega)) rfl rfl) (bO (d:=.int ((w.stp z).length:Int)) (ax (aw rfl) ah) (by simp)) m1) hj) rfl (by simpa using hl)
  refine e.trans ?_
  simp [aC]
structure Wg (w:Wd) (r:Nat) (l:List Nat):Prop where
 hd:l.head?=some r
 lt:∀x∈l,x<w.n
 ch:wj w l
theorem Wg.last {w:Wd} {r:Nat} {l:List Nat} (h:Wg w r l):∃z,l.getLast?=some z/\z<w.n:=by
 cases l with
 | nil=>exact absurd h.hd (by simp)
 | cons a s=>exact ⟨_,List.getLast?_eq_some_getLast (by simp),h.lt _ (List.getLast_mem _)⟩
theorem Wg.snoc {w:Wd} (ok:w.Ok) {r z t:Nat} {l:List Nat} (h:Wg w r l) (hz:l.getLast?=some z) (ht:t∈w.stp z):Wg w r (l++[t]):=by
 refine ⟨?_,fun x hx=>?_,IB ht h.ch hz⟩
 ·have:=h.hd
  cases l with
  | nil=>simp at this
  | cons a s=>simpa using this
 ·rcases MG hx with q | q
  ·exact h.lt x q
  ·rw [List.mem_singleton.mp q]
   exact ok.stp_lt ht
theorem pD {p q:Nat->Bool} {z:Nat} (hpq:∀x,q x=true->p x=true) (hp:p z=true) (hq:q z=false):∀{l:List Nat},z∈l->(l.filter q).length<(l.filter p).length
 | [],h=>by simp at h
 | a::r,h=>by
  have le:(r.filter q).length<=(r.filter p).length:=by
   clear h;induction r with
   | nil=>simp
   | cons b s ih=>
    simp only [filter_cons]
    cases eq:q b with
    | true=>
     rw [hpq b eq];simp
     exact ih
    | false=>
     cases p b with
     | true=>
      simp
      omega
     | false=>
      simpa using ih
  rcases MH h with e | e
  ·subst e
   simp only [filter_cons,hp,hq,if_true,Bool.false_eq_true,if_false,length_cons]
   omega
  ·have:=pD hpq hp hq e
   simp only [filter_cons]
   cases eq:q a with
   | true=>
    rw [hpq a eq];simp
    exact this
   | false=>
    cases p a with
    | true=>
     simp
     omega
    | false=>
     simpa using this
noncomputable def Aq (w:Wd) (l:List Nat):Nat:=((List.range w.n).filter fun x=>!l.dropLast.contains x).length
theorem K5 {w:Wd} (l:List Nat):Aq w l<=w.n:=by
 unfold Aq;exact Nat.le_trans (length_filter_le _ _) (by simp)
theorem pQ {w:Wd} (ok:w.Ok) {c:Int} {r sz:Nat} (hr:r<w.n) (hs:sz<=100):∃l x5 x8,cL 5 (gD (af 5)) ((List.range sz).map rm) (GW w c r sz [r] none none)=.nx (GW w c r sz l x5 x8)/\Wg w r l/\l.length=sz+1:=by
 obtain ⟨Γ1,e1,l,x5,x8,rfl,g,hlen⟩:=IW rm (i:=5) (body:=gD (af 5)) (Inv:=fun rest Γ=>∃l x5 x8,Γ=GW w c r sz l x5 x8/\Wg w r l/\l.length+rest.length=sz+1/\∀a∈rest,a<=1000)
  (fun a rest Γ ⟨l,x5,x8,e,g,hl,ha⟩=>by
   subst e;refine ⟨by simp,?_⟩
   obtain ⟨z,hz,hzn⟩:=g.last;have ha0:=ha a (by simp)
   obtain ⟨t,x,ht,e⟩:=oi ok (c:=c) (r:=r) (sz:=sz) (l:=l) (x5:=some ⟨.leaf,rm a⟩) (x8:=x8) (fk:=af 5) (kk:=(a:Int)) (by omega) (by omega) (fun x=>aw rfl) hz hzn (by simp only [length_cons] at hl;omega)
   exact ⟨_,e,l++[t],_,x,rfl,g.snoc ok hz ht,by simp only [length_cons,length_append,length_nil] at hl ⊢;omega,fun b hb=>ha b (by simp [hb])⟩) (List.range sz) (GW w c r sz [r] none none) ⟨[r],none,none,rfl,⟨rfl,fun x hx=>by rw [List.mem_singleton.mp hx];exact hr,trivial⟩,by simp;omega,fun a ha=>by have:=List.mem_range.mp ha;omega⟩
 obtain ⟨hlen,_⟩:=hlen;simp only [length_nil,Nat.add_zero] at hlen
 exact ⟨l,x5,x8,e1,g,hlen⟩
theorem wI {w:Wd} (ok:w.Ok) {c:Int} {r sz:Nat} (hs:sz<=100) {l l':List Nat} {x5 x8 y5 y8:Option PV} {b:FS} (h:cL 5 b ((List.range sz).map rm) (GW w c r sz l' y5 y8)=.nx (GW w c r sz l x5 x8)):dw 5 (fw (ae (af 3) ag)) b (GW w c r sz l' y5 y8)=.nx (GW w c r sz l x5 x8):=by
 have e:fw (ae (af 3) ag) (GW w c r sz l' y5 y8)=.ok ⟨(List.range sz).map rm,true⟩ (GW w c r sz l' y5 y8):=mw (s:=.leaf) (n:=sz) (by omega) (ax (aw rfl) ah)
 exact eB e h
theorem sE {w:Wd} (ok:w.Ok) {c:Int} {r sz:Nat} (hs:sz<=100) {l:List Nat} {x5 x8:Option PV} (g:Wg w r l) (hlen:l.length=sz+1):∃l2 x8',nZ (aO aA (aD (cY true) (aj (af 4) (eU bt (eK (.int 1)))) (bP (fun k=>(none,some k)) (af 4) (eU bt (eK (.int 1)))))) (gD (bG br (ae (af 4) ag))) 100 (GW w c r sz l x5 x8)=.nx (GW w c r sz l2 x5 x8')/\Wg w r l2/\l2.length<=sz+1+w.n/\l2.getLast?.getD 0∈l2.dropLast:=by
 have h24:=ok.h24
 obtain ⟨b',e2,⟨g2,hl2⟩,ht2⟩:=GO (β:=List Nat×Option PV) (c:=aO aA (aD (cY true) (aj (af 4) (eU bt (eK (.int 1)))) (bP (fun k=>(none,some k)) (af 4) (eU bt (eK (.int 1)))))) (g:=gD (bG br (ae (af 4) ag)))
  (G:=fun b=>GW w c r sz b.1 x5 b.2) (test:=fun b=>!b.1.dropLast.contains (b.1.getLast?.getD 0)) (Inv:=fun b=>Wg w r b.1/\b.1.length+Aq w b.1<=sz+1+w.n) (meas:=fun b=>Aq w b.1)
  (fun b ⟨gb,_⟩=>by
   obtain ⟨z,hz,hzn⟩:=gb.last;refine gz (s:=.leaf) (aF (Iw (eD rfl) Gf hz) (eC (eD rfl) Gf zS) ?_)
   simp only
   rw [Iq,qJ,hz];rfl)
  (fun b ⟨gb,hb⟩ ht=>by
   obtain ⟨z,hz,hzn⟩:=gb.last;obtain ⟨t,x,htz,e⟩:=oi ok (c:=c) (r:=r) (sz:=sz) (l:=b.1) (x5:=x5) (x8:=b.2) (fk:=bG br (ae (af 4) ag)) (kk:=(b.1.length:Int)) (by omega) (by omega) (fun x=>bO (ax (eD rfl) ah) (by simp)) hz hzn (by omega)
   have hlt:Aq w (b.1++[t])<Aq w b.1:=by
    rw [hz] at ht;simp only [Option.getD_some,Bool.not_eq_true',Bool.eq_false_iff,ne_eq,contains_iff_mem] at ht
    have hzm:z∈b.1:=mem_of_getLast? hz
    unfold Aq;rw [List.dropLast_concat];refine pD (z:=z) (fun x hx=>?_) (by simpa using ht) (by simpa using hzm) (List.mem_range.mpr hzn)
    simp only [Bool.not_eq_true',Bool.eq_false_iff,ne_eq,contains_iff_mem] at hx ⊢
    exact fun q=>hx (List.dropLast_subset _ q)
   refine ⟨(b.1++[t],x),e,⟨gb.snoc ok hz htz,?_⟩,hlt⟩
   simp only [length_append,length_cons,length_nil]
   omega) 100 (l,x8) ⟨g,by have:=K5 (w:=w) l;simp only;omega⟩ (by have:=K5 (w:=w) l;simp only;omega)
 refine ⟨b'.1,b'.2,e2,g2,by omega,?_⟩
 simpa using ht2
theorem vy {w:Wd} (ok:w.Ok) {c:Int} {r sz:Nat} (hr:r<w.n) (hs:sz<=100):∃F R,dF [w.enc,.int c,rm r,.int (sz:Int)]=.ok ⟨.tup [.lst .leaf,.lst .leaf],wy F R⟩/\mx w F R/\(F++R).head?=some r/\F.length+R.length<=sz+w.n:=by
 have h24:=ok.h24
 obtain ⟨l,x5,x8,e1,g,hlen⟩:=pQ ok (c:=c) hr hs
 obtain ⟨l2,x8',e2,g2,hlb,ht2⟩:=sE ok (c:=c) hs (x5:=x5) (x8:=x8) g hlen
 obtain ⟨z,hz,hzn⟩:=g2.last;rw [hz] at ht2;simp only [Option.getD_some] at ht2
 have pl:aB .leaf 5 (fw (ae (aD gSub (bG br (ae (af 4) ag)) (eK (.int 1))) ag)) (aO aA (aD cP (aj (af 4) (af 5)) (aj (af 4) (eU bt (eK (.int 1)))))) (af 5) (GW w c r sz l2 x5 x8')=.ok ⟨.lst .leaf,aC ((List.range (l2.length-1)).filter fun k=>((l2.getD k 0:Nat):Int)==(z:Int))⟩ (GW w c r sz l2 x5 x8'):=by
  refine Da rm (List.range (l2.length-1)) (fun k=>((l2.getD k 0:Nat):Int)==(z:Int)) (fun k=>⟨.leaf,rm k⟩) (st:=true) (mw (s:=.leaf) (by omega) (ax (aF (bO (ax (eD rfl) ah) Gc) aH ?_) ah)) (by simp) rfl (by simp;omega) (fun k hk=>?_) fun k hk _=>⟨aw rfl,rfl⟩
  ·have:1<=l2.length:=by
    cases l2 with
    | nil=>simp at hz
    | cons a b=>simp
   rw [KC.sub_int',length_map,show ((l2.length:Int)-1)=((l2.length-1:Nat):Int) by omega]
  ·have hk:=List.mem_range.mp hk
   exact gz (s:=.leaf) (aF (D3 (eD rfl) (s:=.leaf) (aw rfl) (by omega)) (Iw (eD rfl) Gf hz) eq_int)
 generalize hP:((List.range (l2.length-1)).filter fun k=>((l2.getD k 0:Nat):Int)==(z:Int))=P at pl
 have memP:∀k,k∈P↔k<l2.length-1/\l2.getD k 0=z:=fun k=>by
  rw [<-hP,List.mem_filter,mem_range];simp
  omega
 have posP:1<=P.length:=by
  obtain ⟨k,hk,ek⟩:=getElem_of_mem ht2;rw [length_dropLast] at hk;have:k∈P:=(memP k).mpr ⟨hk,by rw [List.getElem_dropLast] at ek;rw [MJ,MI (by omega),ek];rfl⟩
  cases P with
  | nil=>simp at this
  | cons a b=>simp
 obtain ⟨j,hj,ej⟩:=EA (c:=c) (k:=59) (by omega) (by omega) (b:=24) (by omega) (by omega) posP
 have atM:P.getD j 0∈P:=by
  rw [MJ,MI hj];exact getElem_mem _
 obtain ⟨ha1,ha2⟩:=(memP _).mp atM;generalize hA:P.getD j 0=A at ha1 ha2
 have z1:l2.dropLast++[z]=l2:=by
  cases l2 with
  | nil=>simp at hz
  | cons a b=>
   rw [List.getLast?_eq_some_getLast (by simp)] at hz
   rw [<-Option.some.inj hz];exact List.dropLast_concat_getLast _
 have app:l2.take A++l2.dropLast.drop A=l2.dropLast:=by
  have:l2.take A=l2.dropLast.take A:=by
   rw [List.dropLast_eq_take,List.take_take,Nat.min_eq_left (by omega)]
  rw [this,List.take_append_drop]
 have tk:(l2.dropLast.drop A).take 1=[z]:=by
  have hA2:A<l2.dropLast.length:=by rw [length_dropLast];exact ha1
  rw [drop_eq_getElem_cons hA2,List.getElem_dropLast];rw [MJ,MI (by omega)] at ha2
  exact congrArg (fun x=>[x]) ha2
 refine ⟨l2.take A,l2.dropLast.drop A,?_,⟨?_,?_,?_,?_⟩,?_,?_⟩
 ·refine aW ?_
  have z0:az true 4 (av .leaf (ae (af 2) ag)) (aQ 9 [w.enc,.int c,rm r,.int (sz:Int)])=.nx (GW w c r sz [r] none none):=zU (b9 (ax (aw rfl) ah) rfl rfl rfl) rfl (by simp [aQ])
  refine ak z0 ?_
  refine ak (Γ1:=GW w c r sz l x5 x8) ?_ ?_
  ·exact wI ok hs e1
  refine ak (Γ1:=GW w c r sz l2 x5 x8') ?_ ?_
  ·unfold si
   exact e2
  refine ak (Γ1:=[MS w.enc,MS (.int c),MS (rm r),MS (.int (sz:Int)),some ⟨.lst .leaf,aC l2⟩,x5,MS (aC P),none,x8']) (b7 pl rfl (by simp)) ?_
  refine ak (Γ1:=[MS w.enc,MS (.int c),MS (rm r),MS (.int (sz:Int)),some ⟨.lst .leaf,aC l2⟩,x5,MS (aC P),MS (rm A),x8']) ?_ ?_
  ·rw [<-hA]
   refine b7 (p:=⟨.leaf,rm (P.getD j 0)⟩) (i7 (aw rfl) (s:=.leaf) (k:=j) (aF (cz (ax (aw rfl) (ax aH (ax aH ah))) (wx (by omega) (by omega) (by omega) (by omega)) rfl rfl) (bO (ax (aw rfl) ah) Gc) ?_) hj) rfl (by simp)
   simp only [length_map]
   rw [cy (by omega),show cR c 59 24 % (P.length:Int)=(j:Int) from ej]
  ·have q1:=eC (g:=fun k=>(none,some k)) (Γ:=[MS w.enc,MS (.int c),MS (rm r),MS (.int (sz:Int)),some ⟨.lst .leaf,aC l2⟩,x5,MS (aC P),MS (rm A),x8']) (fa:=af 4) (fb:=af 7) (k:=(A:Int)) (eD rfl) (aw rfl) zS
   have q2:=eC (g:=fun k=>(some k,some (-1))) (Γ:=[MS w.enc,MS (.int c),MS (rm r),MS (.int (sz:Int)),some ⟨.lst .leaf,aC l2⟩,x5,MS (aC P),MS (rm A),x8']) (fa:=af 4) (fb:=af 7) (k:=(A:Int)) (eD rfl) (aw rfl) zS
   simp only at q1 q2
   rw [zi] at q1;rw [AL (by omega)] at q2
   exact aX (cT (ax q1 (ax q2 ah)) rfl rfl) rfl
 ·intro e
  rw [e] at tk;simp at tk
 ·rw [app]
  exact fun x hx=>g2.lt x (List.dropLast_subset _ hx)
 ·rw [app,tk,z1]
  exact g2.ch
 ·simp only [length_take,length_drop,length_dropLast]
  omega
 ·rw [app]
  have:=g2.hd
  rw [<-z1] at this
  cases e:l2.dropLast with
  | nil=>rw [e] at ht2;simp at ht2
  | cons a b=>rw [e] at this;simpa using this
 ·simp only [length_take,length_drop,length_dropLast]
  omega
theorem yn {w:Wd} (ok:w.Ok) {c:Int} {r sz:Nat} (hr:r<w.n) (hs:sz<=100):∃F R,dF [w.enc,.int c,rm r,.int (sz:Int)]=.ok ⟨.tup [.lst .leaf,.lst .leaf],wy F R⟩/\mx w F R/\(F++R).head?=some r/\F.length+R.length<=sz+25:=by
 have h24:=ok.h24
 obtain ⟨F,R,a,b,c,d⟩:=vy ok (c:=c) hr hs
 exact ⟨F,R,a,b,c,by omega⟩
end KQ
namespace KC
structure Emb (n1:Nat) (st1:Nat->List Nat) (s n:Nat) (st:Nat->List Nat):Prop where
 cl:∀r t,t∈st1 r->t<n1
 lt:∀r,r<n1->r+s<n
 st:∀r,r<n1->st (r+s)=(st1 r).map (·+s)
section
variable {n1 s n:Nat} {st1 st:Nat->List Nat} {ch1 ch:Nat->Bool} {goal1 goal:List Nat} {rk:List (Option Nat)} {T1 T X:Nat->Prop}
noncomputable def cut (s n1:Nat) (rk:List (Option Nat)):List (Option Nat):=(List.range n1).map fun r=>bB rk (r+s)
end
open PySem PySem.Spec L2 T PySem.SeqAt
open PyProof.Rows hiding St
end KC
namespace KC
open PySem PySem.Spec L2 T
open PyProof.Rows hiding St
noncomputable def jj:MR:=.tuple [.str "some next",.str "some until",.str "some always"]
noncomputable def uW:MR:=.tuple [.str "all next",.str "all until",.str "all always"]
noncomputable def j4:FS:=(b6 (bU (aO aA (mE qX fU (eK (.int 0)) (af 1) (bG br (ae (aj (af 0) (eK (.int 0))) ag))))) kJ aN)
noncomputable def aV:List MR->Res:=aG 2 j4
open PySem.SeqAt
noncomputable def Wr.ofS (a:Wr):Bool:=decide (a=.sn\/a=.su\/a=.sa)
noncomputable def Wr.ofA (a:Wr):Bool:=decide (a=.an\/a=.au\/a=.aa)
@[simp] theorem Ko (a:Wr):cY false (.str a.t) jj=some (.bool a.ofS):=by cases a<;>kernel_rfl
@[simp] theorem Hy (a:Wr):cY true (.str a.t) jj=some (.bool (!a.ofS)):=by cases a<;>kernel_rfl
@[simp] theorem Hz (a:Wr):cY true (.str a.t) uW=some (.bool (!a.ofA)):=by cases a<;>kernel_rfl
noncomputable def Sn.tm (s:Sn):Bool:=s.w.ofS||s.w.ofA
end KC
namespace KQ
open PySem PySem.Spec L2 T PySem.SeqAt KC
open PyProof.Rows hiding St
noncomputable abbrev GP (w:Wd) (p c:Int) (b:Bool) (l:List (Option Nat)) (x5 x6 x7:Option PV):Ev:=[MS w.enc,MS (.int p),MS (.int c),MS (.bool b),some ⟨.lst .leaf,iA l⟩,x5,x6,x7]
end KQ
namespace KC
open PySem PySem.Spec L2 T PySem.SeqAt
open PyProof.Rows hiding St
noncomputable def K0 (ch:List (Option Nat)):List Nat->Prop
 | a::b::r=>bB ch a=some b/\K0 ch (b::r)
 | _=>True
structure LX (n:Nat) (ch:List (Option Nat)) (r:Nat) (F R:List Nat):Prop where
 ne:R≠[]
 lt:∀x∈F++R,x<n
 nd:(F++R).Nodup
 hd:(F++R).head?=some r
 fc:K0 ch (F++R++R.take 1)
structure AI (n:Nat) (ch:List (Option Nat)) (r:Nat) (b:List Nat×Option Nat):Prop where
 nd:b.1.Nodup
 lt:∀x∈b.1,x<n
 hl:∀t,b.2=some t->t<n
 fc:K0 ch b.1
 st:(b.1=[]/\b.2=some r)\/(b.1.head?=some r/\∃z,b.1.getLast?=some z/\b.2=bB ch z)
end KC
namespace KC
structure Mor (n1:Nat) (st1:Nat->List Nat) (f:Nat->Nat) (n:Nat) (st:Nat->List Nat):Prop where
 cl:∀r t,t∈st1 r->t<n1
 lt:∀r,r<n1->f r<n
 up:∀r,r<n1->∀t∈st1 r,f t∈st (f r)
 dn:∀r,r<n1->∀c∈st (f r),∃t∈st1 r,f t=c
end KC
namespace KC
open PySem PySem.Spec L2 T PySem.SeqAt
open PyProof.Rows hiding St
structure Det (w:Wd):Prop where
 d:∀x,x<w.n->∃t,w.stp x=[t]
noncomputable def Sn.pl:Sn->Bool
 | .yes=>true | .mk _=>true | .un .not a=>a.pl | .bi .and a b=>a.pl&&b.pl | .bi .or a b=>a.pl&&b.pl | _=>false
structure Tmd (s a b:Sn):Prop where
 tm:s.tm=true
 ar:∀x∈s.args,x=a\/x=b
 sz:s.size<=a.size+b.size+1
 dp:s.dep<=max a.dep b.dep+1
 ok:a.ok->b.ok->s.ok
end KC
namespace KQ
open PySem PySem.Spec L2 T PySem.SeqAt KC
open PyProof.Rows hiding St
theorem vv {c k:Int} {b:Nat} (h0:0<=k) (h1:k<=1000) (hb:1<=b) (hb2:b<=1000):∃r:Nat,r<b/\ai [.int c,.int k,.int (b:Int)]=.ok ⟨.leaf,rm r⟩:=by
 have d:=wx (c:=c) (k:=k) (b:=(b:Int)) h0 h1 (by omega) (by omega)
 have i:=Dx (c:=c) (k:=k) (b:=(b:Int)) h0 h1 (by omega) (by omega)
 refine ⟨(cR c k b).toNat,by omega,?_⟩
 rw [d];show _=Res.ok ⟨.leaf,.int ((cR c k b).toNat:Int)⟩
 rw [Int.toNat_of_nonneg i.1]
end KQ
namespace KC
open PySem PySem.Spec L2 T PySem.SeqAt
open PyProof.Rows hiding St
theorem g9 {w:Wd} (ok:w.Ok) {r:Nat} (hr:r<w.n):aV [w.enc,rm r]=.ok ⟨.leaf,.none⟩:=by
 have c:=GK (g:=qX) (g':=fU) (Γ:=aQ 2 [w.enc,rm r]) (fa:=eK (.int 0)) (fb:=af 1) (fc:=bG br (ae (aj (af 0) (eK (.int 0))) ag)) (b:=decide ((0:Int)<=(r:Int))) (b':=decide ((r:Int)<(w.n:Int))) aH (aw (i:=1) rfl) rfl rfl (zV ok rfl) rfl
 have t:=de (gz (s:=.leaf) c)
 rw [decide_eq_true (show (0:Int)<=(r:Int) by omega),decide_eq_true (show (r:Int)<(w.n:Int) by omega)] at t
 exact fo (aY t nofun fun _=>rfl)
end KC
namespace T
open PySem PySem.Spec L2
open PyProof.Rows hiding St
theorem qE {P:Program} {w:World} {H:Hp} {h:Heap} {a:Addr} {o:HO} (x:ObjOk P w H h a o):∃u,h.get? a=some u:=by
 cases o with
 | lst xs=>obtain ⟨_,_,_,_,e⟩:=x;exact ⟨_,e⟩
 | tup xs=>obtain ⟨_,_,_,_,e,_⟩:=x;exact ⟨_,e⟩
 | dK kvs=>obtain ⟨_,_,_,_,o,_,_,e,_⟩:=x;exact ⟨_,e⟩
 | dT kvs=>obtain ⟨_,_,_,_,o,_,_,e,_⟩:=x;exact ⟨_,e⟩
 | set S n=>obtain ⟨o,_,_,_,e,_⟩:=x;exact ⟨_,e⟩
 | ins C dx fs=>obtain ⟨_,_,_,e,_⟩:=x;exact ⟨_,e⟩
 | own y=>obtain ⟨_,e⟩:=x;exact ⟨_,e⟩
 | xd fs=>obtain ⟨_,⟨_,_,_,e,_⟩,_⟩:=x;exact ⟨_,e⟩
 | rng lo hi=>obtain ⟨_,_,_,e⟩:=x;exact ⟨_,e⟩
 | frz ob u=>obtain ⟨e,_⟩:=x;exact ⟨_,e⟩
 | tbl ps=>exact ⟨_,show h.get? a=some _ from x⟩
 | met f y=>exact ⟨_,show h.get? a=some _ from x⟩
 | ext φ=>obtain ⟨_,⟨_,e⟩,_⟩:=x;exact ⟨_,e⟩
structure C1 (P:Program) (w:World) (outer:List Env) (H:Hp) (s:Shared) (H':Hp) (C a:Addr) (s':Shared):Prop where
 os:s'.os=s.os
 bare:AllBare s'.gens
 un:Un (fI outer) [] H H' s.heap s'.heap
 hok:HOk P w H' s'.heap
 fly:∃B a0,Heap.FlyingW B outer a (.ref C) a0 s'.heap/\(∀b o,H' b=some o->∃u,B.get? b=some u)/\(∀b o,s.heap.get? b=some o->b∉fI outer->∃u,B.get? b=some u)
def sf (P:Program) (w:World):pN:=fun outer H s E e s'=>∃a C H',e=.ref a/\C1 P w outer H s H' C a s'/\E (.ref C) none H'
section
variable {X:Cx} {pins:List (Addr×Obj)} {σ:St} {H H':Hp} {s s':Shared} {B h2:Heap} {C a:Addr} {a0:Value} {E:XK}
theorem vo (I:Inv X pins σ H s) (hex:X.ex=[]) (hst:X.stack=X.env::X.outer) (hf:X.env.frame=some X.env.locals)
  (un:Un (fI X.stack) [] H H' s.heap h2) (hok:HOk X.prog X.w H' h2) (st:B.StaysIn h2) (c1:∀b o,H' b=some o->∃u,B.get? b=some u) (c2:∀b o,s.heap.get? b=some o->b∉fI X.stack->∃u,B.get? b=some u)
  (ff:h2.FunFrames B X.stack) (fl:Heap.FlyingW B X.outer a (.ref C) a0 s'.heap) (up:h2.UpToSlots s'.heap) (os:s'.os=s.os) (bare:AllBare s'.gens):C1 X.prog X.w X.outer X.H₀ X.s₀ H' C a s':=by
 have hfs:fI X.stack=X.env.locals::X.fs:=by
  rw [hst];show List.filterMap _ _=_
  rw [filterMap_cons,hf];rfl
 have hx:∀b:Addr,b∉X.ex:=fun b=>by rw [hex];exact nofun
 have hn:∀b:Addr,b∉([]:List Addr):=fun b z=>nomatch z
 have old:∀b o,X.s₀.heap.get? b=some o->b∉X.fs->b∉fI X.stack:=fun b o q hb z=>by
  rw [hfs] at z;rcases MH z with z | z
  ·have l1:=Heap.lt_size q
   have l2:=I.ok.above
   rw [<-z] at l2;exact absurd l1 (Nat.not_lt.mpr l2)
  ·exact hb z
 have keepB:∀b o u,B.get? b=some u->h2.get? b=some o->s'.heap.get? b=some o:=fun b o u e1 e2=>by
  have e3:=st b u e1
  rw [e2] at e3
  cases e3;exact fl.1 b o e1
 have ffo:=fl.2.2.1
 refine ⟨os.trans I.os,bare,⟨fun b o q n hb _=>?_,fun b o q n hb _=>?_,fun b o q n _=>?_,fun b o q _=>?_,fun b xs q=>un.tups b xs (I.base.tups b xs q),fun b o u q=>un.frzs b o u (I.base.frzs b o u q),fun b ps q=>?_⟩,fun b o e=>?_,B,a0,fl,c1,fun b o q hb=>?_⟩
 ·have q1:=I.base.keep b o q n hb (hx b)
  have n1:=I.base.free b o q n (hx b)
  have hb':=old b o q hb
  obtain ⟨u,e⟩:=c2 b o q1 hb'
  exact keepB b o u e (un.keep b o q1 n1 hb' (hn b))
 ·obtain ⟨sl,q1⟩:=I.base.slot b o q n hb (hx b)
  have n1:=I.base.free b o q n (hx b)
  have hb':b∈fI X.stack:=by rw [hfs];exact MK _ hb
  obtain ⟨sl2,q2⟩:=un.slot b _ q1 n1 hb' (hn b)
  obtain ⟨_,o',e,d⟩:=ff.mem hb'
  rw [q2] at e
  cases e;obtain ⟨sl3,q3⟩:=up b _ q2 d;exact ⟨sl3,q3⟩
 ·obtain ⟨o1,q1⟩:=I.base.there b o q (hx b)
  exact un.free b o1 q1 (I.base.free b o q n (hx b)) (hn b)
 ·obtain ⟨o1,q1⟩:=I.base.there b o q (hx b)
  by_cases hb:b∈X.fs
  ·obtain ⟨_,o',e,_⟩:=ffo.mem hb
   exact ⟨o',e⟩
  ·obtain ⟨u,e⟩:=c2 b o1 q1 (old b o q hb)
   exact ⟨u,fl.1 b u e⟩
 ·obtain ⟨m1,e1⟩:=I.base.tbls b ps q
  obtain ⟨m2,e2⟩:=un.tbls b _ e1;exact ⟨m1++m2,by rw [e2,Array.append_assoc]⟩
 ·refine (hok b o e).stay (fun c u hc q=>?_) (fun _ q=>q) fun _ _ q=>q
  have hc':∃o',H' c=some o':=by
   rcases hc with z | z
   ·exact ⟨o,by rw [z];exact e⟩
   ·exact ⟨_,z⟩
  obtain ⟨o',z⟩:=hc'
  obtain ⟨v,e1⟩:=c1 c o' z
  exact keepB c u v e1 q
 ·obtain ⟨o1,q1⟩:=I.base.there b o q (hx b)
  exact c2 b o1 q1 (old b o q hb)
theorem Cy {M:Model} {A:Around} {E2:Value->Shared->Prop} {Q:Unit->Shared->Prop} (I:Inv X pins σ H s) (hex:X.ex=[]) (hst:X.stack=X.env::X.outer) (hf:X.env.frame=some X.env.locals) (hA:A.frames=some X.stack) (f:C1 X.prog X.w X.stack H s H' C a s')
  (hQ:∀h',C1 X.prog X.w X.outer X.H₀ X.s₀ H' C a { s' with heap:=h' }->Q () { s' with heap:=h' }):wpAny M A (leaving X.env (.ref a)) Q E2 s':=by
 obtain ⟨os,bare,un,hok,B,a0,fl,c1,c2⟩:=f;refine wpAny_leaves_onW (by rw [hA,hst]) hf (by rw [<-hst];exact fl) fun h' fl' up=>hQ h' ?_
 exact vo (s':={ s' with heap:=h' }) I hex hst hf un hok fl.1 c1 c2 fl.2.2.1 fl' up os bare
theorem vp {M:Model} {A:Around} {E2:Value->Shared->Prop} {Q:Unit->Shared->Prop} {h1:Heap} {args:List Value} (I:Inv X pins σ H s) (hex:X.ex=[]) (hst:X.stack=X.env::X.outer) (hf:X.env.frame=some X.env.locals) (hA:A.frames=some X.stack)
  (hx:Heap.MadeExcOf s.heap h1 a (.ref C) args) (hQ:∀h',C1 X.prog X.w X.outer X.H₀ X.s₀ H C a { s with heap:=h' }->Q () { s with heap:=h' }):wpAny M A (leaving X.env (.ref a)) Q E2 { s with heap:=h1 }:=by
 have ff:s.heap.FunFrames (PySem.W.hideAll s.heap (fI X.stack)) X.stack:=PySem.W.funFrames_hide I.stack fun env he b hb=>List.mem_filterMap.mpr ⟨env,he,hb⟩
 refine wpAny_leaves_madeW (base:=PySem.W.hideAll s.heap (fI X.stack)) (h:=s.heap) (env:=X.env) (outer:=X.outer) (by rw [hA,hst]) hf (fun b o q=>PySem.W.of_hideAll _ q) (by rw [<-hst];exact ff) hx fun h' t fl _ _ up=>hQ h' ?_
 refine vo (h2:=s.heap) (s':={ s with heap:=h' }) I hex hst hf (Un.kept fun b o q=>q) I.hok (fun b o q=>PySem.W.of_hideAll _ q) (fun b o e=>?_) (fun b o q hb=>⟨o,PySem.W.hideAll_get _ q hb⟩) ff fl ((Heap.UpToSlots.of_keeps hx.keeps).trans up) rfl I.bare
 by_cases hb:b∈fI X.stack
 ·have:=I.stkFree b hb
  rw [this] at e
  cases e
 ·obtain ⟨u,hu⟩:∃u,s.heap.get? b=some u:=by
   exact qE (I.hok b o e)
  exact ⟨u,PySem.W.hideAll_get _ hu hb⟩
end
theorem EB {P:Program} {w:World} {K:Fg} {mg:Str->Option Value} {base:Heap} {N:List Str} {qual:Str} {sc:Scope} {f:Addr} {cd:Value} {A:Around} {outer:List Env} {s:Shared} {H:Hp} {E E':XK}
  (h:∀u d H',E' u d H'->E u d H'):Gh (sf P w) (et (sf P w) P w K mg base N qual sc f cd A outer s H E) E':=by
 intro pins σ H1 s1 e s2 I h2;obtain ⟨a,C,H',rfl,fl,hE⟩:=h2;exact Cy I rfl rfl rfl I.ok.frames fl fun h' fl'=>⟨a,C,H',rfl,fl',h _ _ _ hE⟩
def Makes (X:Cx) (E:XK):Prop:=∀(pins:List (Addr×Obj)) (σ:St) (H:Hp) (s:Shared) (h1:Heap) (a C:Addr) (args:List Value),Inv X pins σ H s->Heap.MadeExcOf s.heap h1 a (.ref C) args->E (.ref C) none H->X.xe (.ref a) { s with heap:=h1 }
theorem BQ {P:Program} {w:World} {K:Fg} {mg:Str->Option Value} {base:Heap} {N:List Str} {qual:Str} {sc:Scope} {f:Addr} {cd:Value} {A:Around} {outer:List Env} {s:Shared} {H:Hp} {E E':XK}
  (h:∀u d H',E' u d H'->E u d H'):Makes (et (sf P w) P w K mg base N qual sc f cd A outer s H E) E':=by
 intro pins σ H1 s1 h1 a C args I hx hE;exact vp I rfl rfl rfl I.ok.frames hx fun h' fl=>⟨a,C,H1,rfl,fl,h _ _ _ hE⟩
section
variable {X:Cx} {x:Str} {C:Addr} {B Bn newId nid initId inN:String} {bm bmN:List Value} {np cpos pos:Pos} {e:Expr} {es:List Expr} {t:TA} {E:XK}
def AE (C:Addr) (E:XK) (t:TA):TS:=fun _ σ H=>t σ H fun vs H1=>vs.length<=sizeLine/\E (.ref C) none H1
theorem uo (hc:X.calm=true) (O:OwnCls x C bm newId X.mg X.base) (Fn:ExcBaseFacts Bn newId inN bmN) (hBn:bm.contains (.type Bn)=true) (FB:ExcBaseFacts B nid initId bm) (hg:Gl X x) (hM:Makes X E) (ha:PA X (e::es) t)
  (he:starEach (e::es) X.env=(false,eval e X.env)::starEach es X.env:=by rfl) (hplain:(backTo cpos (starEach es X.env)).any (·.1)=false:=by rfl) (hd:(x==("__debug__":Str))=false:=by decide) :
  PS X (.Raise (some (.Call (.Name x np) (e::es) [] cpos)) none pos) (AE C E t):=by
 intro pins s σ H D I h;obtain ⟨tl,N,nm,q,bs,hdct,sn,sub,ab,col,dd,k0,k1,k2,k3,k5,mN,hC,hN,hni,T⟩:=O.obj;refine wpAny_Raise_call_subU (C:=C) (nm:=nm) (q:=q) (N:=N) (bs:=bs) (bm:=tl) (hdct:=hdct) (sn:=sn) (sub:=sub) (ab:=ab) (col:=col) (dd:=dd) (k0:=k0) (k1:=k1) (k2:=k2) (k3:=k3) (k5:=k5)
  Fn hBn FB (mN:=mN) (T.hasType FB.hasBase) (I.ok.hd hc) (by rw [he];show (false||(backTo cpos (starEach es X.env)).any (·.1))=false;rw [hplain];rfl) hni (DF I hg O.bound ⟨rfl,?_⟩ hd)
 have h2:=ha cpos pins s σ H _ I h
 rw [he] at h2 ⊢;refine Calls.evalArgs_plain (wpAny_mono h2 (fun vs s₂ h₂=>?_) fun _ _ y=>y)
 obtain ⟨ws,H1,I1,r,hl,hE⟩:=h₂;exact ⟨rfl,by rw [<-r.length];exact hl,I1.bk _ _ hC,hN.keeps I1.bk,T.keeps I1.bk,fun h' a hx=>hM pins σ H1 s₂ h' a C vs I1 hx hE⟩
end
def GH (CX:pN) (X:Cx) (EE:St->XK):Prop:=∀(pins:List (Addr×Obj)) (σ:St) (H:Hp) (s:Shared) (e:Value) (s':Shared),Inv X pins σ H s->CX X.stack H s (EE σ) e s'->X.xe e s'
def tf (sp:Sp) (EE:St->XK) (t:TA):TE:=fun σ H Q=>t σ H fun vs H1=>sp vs H1 Q (EE σ)
section
variable {X:Cx} {CX:pN} {k:Nat} {f:Addr} {fd:FuncData} {ps:List Str} {sp:Sp} {EE:St->XK} {x:Str} {p pos:Pos} {e:Expr} {es:List Expr} {t:TA}
theorem wV {pins:List (Addr×Obj)} {σ:St} {H:Hp} {s:Shared} {Q:VK} {us:List Value} {vs:List V} (F:dg X.prog X.w X.K X.mg X.base CX k f fd ps sp) (hr:Room k X.A) (hb:Binds X.K fd ps []) (hx:GH CX X EE)
  (I:Inv X pins σ H s) (r:Vals vs us) (h:sp vs H Q (EE σ)):wpAny (model X.prog X.w) X.A (call (.ref f) us) (EP X pins σ Q) X.xe s:=by
 have hl:us.length=ps.length:=by rw [<-r.length];exact F.len _ _ _ _ h
 have hb2:=hb s us I.kIn (by rw [append_nil];exact hl)
 rw [append_nil] at hb2;refine wpAny_call (codeAny_mono (F.run X.A X.stack s H ⟨us,[]⟩ us vs Q (EE σ) hr I.env0 hb2 r h) fun r s' hq=>?_)
 cases r with
 | error e=>exact hx pins σ H s e s' I hq
 | ok fl=>
  cases fl with
  | ret u=>exact I.after hq
  | next=>exact False.elim hq
  | brk=>exact False.elim hq
  | cont=>exact False.elim hq
theorem uF (F:dg X.prog X.w X.K X.mg X.base CX k f fd ps sp) (hr:Room k X.A) (hg:Gl X x) (hm:X.mg x=some (.ref f)) (hk:PySem.W.keepIn X.K (.ref f)=true) (hb:Binds X.K fd ps []) (hx:GH CX X EE)
  (ha:PA X (e::es) t) (hdb:(x==("__debug__":Str))=false:=by decide) (he:starEach (e::es) X.env=(false,eval e X.env)::starEach es X.env:=by rfl) (hpl:(backTo pos (starEach es X.env)).any (·.1)=false:=by rfl) :
  PE X (.Call (.Name x p) (e::es) [] pos) (tf sp EE t):=by
 intro pins s σ H Q I h;refine wpAny_Call_Name_kw (DF I hg hm ?_ hdb)
 refine PySem.W.callWith_K (h₀:=X.base) I.ok.mod.kin hk (bx (ha pos pins s σ H _ I h) fun us s1 ⟨vs,H1,I1,r,q⟩=>⟨I1.kIn,?_⟩) he hpl
 exact wV F hr hb hx I1 r q
end
def dY (X:Cx) (pins:List (Addr×Obj)) (W:Addr->St->Hp->Prop):Cx:=
 { X with pn:=X.pn++pins,xe:=fun e s'=>∃(ps:List (Addr×Obj)) (σ:St) (H H':Hp) (s:Shared) (a C:Addr),e=.ref a/\Inv X (pins++ps) σ H s/\C1 X.prog X.w X.stack H s H' C a s'/\W C σ H' }
section
variable {X:Cx} {pins ps:List (Addr×Obj)} {W:Addr->St->Hp->Prop} {σ:St} {H:Hp} {s:Shared}
theorem va (ok:X.Ok):(dY X pins W).Ok:=⟨ok.mod,ok.kind,ok.glob,ok.blt,ok.above,ok.inj,ok.has,ok.cab,ok.hd,ok.frames,ok.stk,ok.exf,ok.bs,ok.bsz,ok.noex,ok.exfs,ok.funs,ok.frf⟩
theorem u7 (ok:(dY X pins W).Ok):X.Ok:=⟨ok.mod,ok.kind,ok.glob,ok.blt,ok.above,ok.inj,ok.has,ok.cab,ok.hd,ok.frames,ok.stk,ok.exf,ok.bs,ok.bsz,ok.noex,ok.exfs,ok.funs,ok.frf⟩
theorem u9 (I:Inv X (pins++ps) σ H s):Inv (dY X pins W) ps σ H s:=⟨va I.ok,I.os,I.bare,I.base,I.loc,I.cell,I.free,I.freeC,fun p hp=>I.pin p (by rw [<-append_assoc];exact hp),I.hok,I.len⟩
theorem lC (I:Inv (dY X pins W) ps σ H s):Inv X (pins++ps) σ H s:=⟨u7 I.ok,I.os,I.bare,I.base,I.loc,I.cell,I.free,I.freeC,fun p hp=>I.pin p (by rw [<-append_assoc] at hp;exact hp),I.hok,I.len⟩
theorem Inv.less (I:Inv X (pins++ps) σ H s):Inv X pins σ H s:=⟨I.ok,I.os,I.bare,I.base,I.loc,I.cell,I.free,I.freeC,fun p hp=>I.pin p (by rw [<-append_assoc];exact MF _ hp),I.hok,I.len⟩
theorem jW:GH (sf X.prog X.w) (dY X pins W) fun σ=>fun u _ H'=>∃C,u=.ref C/\W C σ H':=by
 intro qs σ H s e s' I h
 obtain ⟨a,C,H',rfl,fl,C',hC,hW⟩:=h
 cases hC;exact ⟨qs,σ,H,H',s,a,C,rfl,lC I,fl,hW⟩
end
end T
namespace T
open PySem
def Rs (xs:Array Nat):Prop:=xs.toList.Pairwise (· < ·)
structure Tb (b:Bool) (t:SetTable):Prop where
 led:b=false->t.led=true
 rs:Rs t.place
 nd:t.dummies=#[]
open PySem.Spec L2
open PyProof.Rows hiding St
end T
namespace T
open PySem PySem.Spec L2
open PyProof.Rows hiding St
abbrev It:=bJ ⊕ List bJ
section
variable {prog:Program} {w:World}
inductive vV (h:Heap):List It->List Value->Prop
 | nil:vV h [] []
 | v {k:bJ} {u:Value} {ks:List It} {us:List Value}:(iV prog w).is k u=true->vV h ks us->vV h (.inl k::ks) (u::us)
 | t {l:List bJ} {b:Addr} {ks:List It} {us:List Value}:IsTupleKey (iV prog w) h l b->vV h ks us->vV h (.inr l::ks) (.ref b::us)
variable (prog w)
variable {prog w}
def hI (w:World):It->Int
 | .inl k=>BZ w k
 | .inr l=>reduceHash (Builtin.Tuple.tupleHashOf (l.map (BZ w)))
variable {A:Around} {E:Value->Shared->Prop} {s:Shared}
def Mi:It->Bool
 | .inl _=>false
 | .inr _=>true
end
def Mh (K:Fg) (H:Hp):It->V->Prop
 | .inl k,v=>v=kV k
 | .inr l,v=>∃c,v=.ref c/\SqT K H c (l.map kV)
def K2 (K:Fg) (H:Hp) (ks:List It) (b:Addr):Prop:=∃vs,SqT K H b vs/\Paired (Mh K H) ks vs
abbrev KX (K:Fg) (H:Hp) (sh:List Bool):List (List It×V)->List (List It×Addr×Value)->Prop:=Paired fun p q=>p.1=q.1/\p.1.map Mi=sh/\K2 K H p.1 q.2.1/\RelV p.2 q.2.2
def Kl (k:List It) (acc:List (List It)):Bool:=acc.any fun a=>decide (a=k)
def Fu (acc:List (List It)) (k:List It):List (List It):=if Kl k acc then acc else acc++[k]
def Mu (ks:List (List It)):List (List It):=ks.foldl Fu []
def LA (k:List It):List (List It)->Nat
 | []=>0
 | a::r=>if a=k then 0 else LA k r+1
theorem EY {A B:Bool->Hp->Prop} {H:Hp} {σ:St} (h:A true H):ou σ H fun b H=>if b=true then A b H else B b H:=by
 show (if true=true then A true H else B true H)
 rw [if_pos rfl];exact h
noncomputable def Kd (ks:List (List It)):List Nat:=ks.map fun k=>LA k (Mu ks)
end T
namespace KC
open PySem PySem.Spec L2 T PySem.SeqAt
open PyProof.Rows hiding St
noncomputable def zy (w:Wd) (r:Nat):Int:=if own w 0 r then 0 else 1
noncomputable def HC (w:Wd) (o:Bool) (r:Nat):List T.It:=.inr ((w.mks r).map .inr)::if o then [.inl (.inl (zy w r))] else []
section
variable {w:Wd}
theorem BA (ok:w.Ok) {Γ:Ev} {i:Nat} {fb:F1} {s:Sh} {r:Nat} (h0:Γ[i]?=some (MS w.enc)) (hb:fb Γ=.ok ⟨s,rm r⟩ Γ) (hr:r<w.n):aj (aj (af i) (eK (.int 0))) fb Γ=.ok ⟨.leaf,.int (zy w r)⟩ Γ:=by
 obtain ⟨o,ho,e,h⟩:=ok.o_at hr;have:zy w r=o:=by
  unfold zy;rw [h 0];rcases ho with rfl | rfl<;>rfl
 rw [this,dN,dN,aw h0];simp only [Out.bind,aH,Wd.enc,cX,kP,zq]
 rw [hb];simp only [kQ]
 rw [e]
theorem BP (ok:w.Ok) {Γ:Ev} {i:Nat} {fb:F1} {s:Sh} {r:Nat} (h0:Γ[i]?=some (MS w.enc)) (hb:fb Γ=.ok ⟨s,rm r⟩ Γ) (hr:r<w.n):aj (aj (af i) (eK (.int 1))) fb Γ=.ok ⟨.leaf,ot (w.mks r)⟩ Γ:=by
 rw [dN,dN,aw h0];simp only [Out.bind,aH,Wd.enc,cX,kP,Es]
 rw [hb];simp only [kQ]
 rw [ok.at1 hr]
noncomputable def nA (N:List Nat) (r:Nat):Nat:=N.getD r 0
structure CN (w:Wd) (o:Bool) (N:List Nat) (m:Nat):Prop where
 len:N.length=w.n
 m1:1<=m
 mn:m<=w.n
 lt:∀r,r<w.n->nA N r<m
 onto:∀c,c<m->∃r,r<w.n/\nA N r=c
 look:∀i j,i<w.n->j<w.n->nA N i=nA N j->HC w o i=HC w o j
 st:∀i j,i<w.n->j<w.n->nA N i=nA N j->∀t∈w.stp i,∃t'∈w.stp j,nA N t=nA N t'
structure GdN (w:Wd) (o:Bool) (N:List Nat):Prop where
 ks:∃ks:List (List T.It),ks.length=w.n/\N=Kd ks
 look:∀i j,i<w.n->j<w.n->nA N i=nA N j->HC w o i=HC w o j
end
section
variable {w:Wd} {o:Bool} {N:List Nat} {m:Nat}
theorem xS (ok:w.Ok) {r:Nat} (hr:r<w.n):w.mks r∈w.m:=by
 unfold Wd.mks;rw [MJ,MI (by rw [ok.lm];exact hr)]
 exact getElem_mem _
theorem oz (ok:w.Ok) {Γ:Ev} {i:Nat} {fb:F1} {s:Sh} {r:Nat} (h0:Γ[i]?=some (MS w.enc)) (hb:fb Γ=.ok ⟨s,rm r⟩ Γ) (hr:r<w.n):aj (aj (af i) (eK (.int 2))) fb Γ=.ok ⟨.leaf,aC (w.stp r)⟩ Γ:=by
 rw [dN,dN,aw h0];simp only [Out.bind,aH,Wd.enc,cX,kP,zp]
 rw [hb];simp only [kQ]
 rw [ok.at2 hr]
end
end KC
namespace T
open PySem PySem.Spec L2
open PyProof.Rows hiding St
noncomputable def d6 (h:Heap) (L:Addr):List (Addr×Obj):=(List.range h.objs.size).filterMap fun b=>if b=L then none else (h.get? b).map fun o=>(b,o)
theorem mem_objsBut {h:Heap} {L b:Addr} {o:Obj}:(b,o)∈d6 h L↔b≠L/\h.get? b=some o:=by
 unfold d6;rw [List.mem_filterMap];constructor
 ·rintro ⟨c,_,e⟩
  split at e
  ·cases e
  ·rename_i hc
   obtain ⟨o',h1,h2⟩:=Option.map_eq_some_iff.mp e
   cases h2;exact ⟨hc,h1⟩
 ·rintro ⟨h1,h2⟩
  exact ⟨b,List.mem_range.mpr (Heap.lt_size h2),by rw [if_neg h1,h2];rfl⟩
noncomputable def noHeap:Heap:={ objs:=#[] }
theorem gP (b:Addr):noHeap.get? b=none:=Heap.get?_none_of_le (Nat.zero_le _)
noncomputable def zr (K:Fg):List V->Hp->VK->Prop:=fun xs H Q=>∃(p:Addr) (vs:List V) (ls:List (List V)),xs=[.ref p]/\SqL K H p vs/\vs.length=ls.length/\(∀(i:Nat) v l,vs[i]?=some v->ls[i]?=some l->∃a,v=.ref a/\SqL K H a l)/\0<vs.length /\
 ∀(i:Nat) v l,vs[i]?=some v->ls[i]?=some l->(∀(j:Nat) l',ls[j]?=some l'->l.length<=l'.length/\(j<i->l.length<l'.length))->Q v H
theorem xN {h:Heap} {L:Addr} {m m':Str->Option Value} (a:h.Ns L m) (b:h.Ns L m'):m=m':=by
 obtain ⟨o,es,ep,h1,h2,_,h3⟩:=a;obtain ⟨o',es',ep',g1,g2,_,g3⟩:=b;rw [h1] at g1
 cases g1;rw [h2] at g2
 cases g2;funext x
 rw [<-h3,<-g3]
theorem qU {X:Cx} {pins:List (Addr×Obj)} {σ:St} {H:Hp} {s:Shared} {h':Heap} {t':Nat} {m:Str->Option Value} (I:L2.Inv X pins σ H s) (hn:s.heap.Ns X.env.locals m) (k:∀b o,b≠X.env.locals->s.heap.get? b=some o->h'.get? b=some o) (hn':h'.Ns X.env.locals m):L2.Inv X pins σ H { s with heap:=h',toks:=t' }:=by
 have nit:∀b u,H b=some u->b≠X.env.locals:=fun b u e z=>by rw [z,I.free] at e;cases e
 refine I.step (g':=s.gens) (d':=s.drawn) (ch:=[]) (fun _ z=>nomatch z) (fun b o hb _ _ e _=>k b o hb e) (fun b o hb _ _ e _=>⟨o.slots,k b o hb e⟩) (fun _ _ _ _ n=>n)
  (fun b o _ e=>?_) (fun _ _ e=>e) (fun _ _ _ e=>e) (fun b ps e=>⟨#[],by rw [e];simp⟩) (fun m' hm=>by rw [<-xN hn hm];exact hn') (fun b u e=>?_) I.bare
 ·by_cases hb:b=X.env.locals
  ·subst hb
   obtain ⟨o',_,_,h1,_⟩:=hn'
   exact ⟨o',h1⟩
  ·exact ⟨o,k b o hb e⟩
 ·refine (I.hok b u e).stay (fun c v hc q=>k c v ?_ q) (fun _ q=>q) fun _ _ q=>q
  rcases hc with z | z
  ·rw [z];exact nit b u e
  ·exact nit c _ z
theorem xC {X:Cx} {e:Expr} {ta:TA} {p p2 kpos pos:Pos} (hc:X.calm=true) (hg:Gl X "min") (hm:X.mg "min"=none) (hg2:Gl X "len") (hm2:X.mg "len"=none) (ha:PA X [e] ta) (hs:starEach [e] X.env=[(false,eval e X.env)]) :
  PE X (.Call (.Name "min" p) [e] [⟨some "key",.Name "len" p2,kpos⟩] pos) (AH (zr X.K) ta):=by
 intro pins s σ H Q I h;refine wpAny_Call_Name_kw (vY I hg hm FM ?_)
 refine PyProof.Rows.callWith_kw (bx (ha pos pins s σ H _ I h) fun us s1 ⟨xs,H1,I1,r1,q1⟩=>?_) (by rw [hs];rfl) (by rw [hs];rfl) rfl rfl
 show wpAny _ _ (evalAll [do let v <-eval (.Name "len" p2) X.env;standAt pos;pure v]) _ _ s1
 refine wpAny_evalAll_cons (MN (vY I1 hg2 hm2 zK (MN (wpAny_standAt (MO (wpAny_evalAll_nil ?_))))))
 obtain ⟨a,vs,ls,rfl,hq,hl,hel,hne,q⟩:=q1;obtain ⟨u,rfl,ru⟩:=vals1 r1
 cases ru;obtain ⟨its,rv,pl,hz⟩:=I1.list hq;obtain ⟨m,hns,hlook⟩:=I1.loc;have hlen:vs.length=its.length:=rv.length
 have neL:∀{b:Addr} {xs:Array Value},s1.heap.IsList b xs->b≠X.env.locals:=fun {b xs} h z=>by
  obtain ⟨o,h1,_,n,h2⟩:=h;obtain ⟨o',es,ep,g1,g2,_⟩:=hns;rw [z,g1] at h1
  cases h1;rw [g2] at h2
  cases h2
 have mv:∀{h:Heap} {b:Addr} {xs:Array Value},News noHeap X.env.locals h (d6 s1.heap X.env.locals)->s1.heap.IsList b xs->h.IsList b xs:=fun {h b xs} N hl=>by
  have hb:=neL hl
  obtain ⟨o,h1,h2⟩:=hl;exact ⟨o,(N (b,o) (mem_objsBut.mpr ⟨hb,h1⟩)).1,h2⟩
 have F0:Fr noHeap X.env.locals s1.heap m:=⟨hns,(fun b o e=>by rw [gP] at e;cases e),Nat.zero_le _⟩
 have N0:News noHeap X.env.locals s1.heap (d6 s1.heap X.env.locals):=fun p hp=>⟨(mem_objsBut.mp hp).2,(mem_objsBut.mp hp).1,gP _⟩
 show wpAny _ _ (call (.builtin "min") [.ref a] [(Str.ofString "key",.builtin "len")]) _ _ s1
 refine kmb_min (h₀:=noHeap) (L:=X.env.locals) (m:=m) (news:=d6 s1.heap X.env.locals) (vs:=its) (fun i=>((ls.getD i []).length:Int)) (I1.ok.hd hc) F0 N0 (fun h _ N=>mv N pl.isList) (by omega) (fun i v hv h tk own F N=>?_) fun i v h' tk' hv hb F N=>?_
 ·have hi:i<vs.length:=by have:=(MM hv).1;omega
  have hi2:i<ls.length:=by omega
  obtain ⟨u,hu,ru⟩:=rv.get (MI hi)
  rw [hv] at hu
  cases hu;obtain ⟨b,eb,hb⟩:=hel i vs[i] ls[i] (MI hi) (MI hi2)
  rw [eb] at ru
  cases ru;obtain ⟨its2,rv2,pl2,hz2⟩:=I1.list hb;have hl2:=rv2.length
  have hN:News noHeap X.env.locals h (d6 s1.heap X.env.locals):=fun p hp=>N p (MF _ hp)
  have hn63:=yU
  refine Calls.call_len_list (mv hN pl2.isList) (by simp only [size_toArray];omega) ⟨h,_,tk+1,rfl,?_,F,N⟩
  rw [MJ,MI hi2,size_toArray,<-hl2];rfl
 ·have hi:i<vs.length:=by have:=(MM hv).1;omega
  have hi2:i<ls.length:=by omega
  obtain ⟨u,hu,ru⟩:=rv.get (MI hi)
  rw [hv] at hu
  cases hu;refine ⟨vs[i],H1,qU I1 hns (fun b o hb e=>(N (b,o) (mem_objsBut.mpr ⟨hb,e⟩)).1) F.ns,ru,q i _ ls[i] (MI hi) (MI hi2) fun j l' hj=>?_⟩
  have hj2:=(MM hj).1
  have this:=hb j (by omega)
  rw [MJ,MI hi2,MJ,hj] at this;have this:(ls[i].length:Int)<=(l'.length:Int)/\(j<i->(ls[i].length:Int)<(l'.length:Int)):=this
  exact ⟨by omega,fun z=>by have:=this.2 z;omega⟩
end T
namespace TQ
open PySem PySem.Spec L2 T
open PyProof.Rows hiding St
variable {X:Cx} {N gl:List Str} {vs cs ls lo gs:List Nat} {W:XW} {a b:Expr} {pos p:Pos} {fl:FL}
end TQ
namespace T
open PySem PySem.Spec L2
open PyProof.Rows hiding St
section
variable {K:Fg} {W:XW} {He H:Hp} {O:List Addr} {Fs:List (List Addr)} {σ:St} {Γ:Ev} {D:dz}
theorem EnvOk.nm {j:Nat} {x:Option V} (E:EnvOk K He O Fs H σ Γ) (hj:∀p,Γ[j]?≠some (some p)):EnvOk K He O Fs H (σ.set j x) Γ:=
 ⟨by rw [length_set];exact E.len1,E.len2,E.same,E.nd,E.inH,E.fresh,fun m p hm=>by
  have hne:j≠m:=fun z=>hj p (by rw [z];exact hm)
  obtain ⟨a,v,F,b,c,d⟩:=E.slot m p hm;exact ⟨a,v,F,by rw [getElem?_set_ne hne];exact b,c,d⟩⟩
end
section
variable {X:Cx} {N gl:List Str} {vs cs ls lo gs:List Nat} {W:XW}
structure Ap (X:Cx) (o a:Expr) (apos cpos:Pos) (epos:Pos):Prop where
 hbase:attributeBase o "append" X.env (eval o X.env)=eval o X.env
 hline:(apos.endLine==cpos.line)=true
 hfew:((backTo cpos (starEach [a] X.env)).all (fun x=>!x.1)&&(backToKw cpos (keywordEach [] X.env)).all (fun x=>x.1.isSome)&&decide ([a].length+([]:List Keyword).length+(if ([]:List Keyword).isEmpty then 0 else 1)<30))=true
 hsw:swapsWith (.Call (.Attribute o "append" apos) [a] [] cpos) none epos.line X.env=pure false
 hst:starEach [a] X.env=[(false,eval a X.env)]
end
def FU (L:List Nat) (σ σ':St):Prop:=∀i∈L,σ'[i]?=σ[i]?
def nD (L:List Nat) (D:dz) (σ:St):dz:={ D with nx:=fun σ' H'=>FU L σ σ'->D.nx σ' H' }
def tN (L:List Nat) (K:Fg) (W:XW) (g:FS):TS:=fun D σ H=>tS K W g (nD L D σ) σ H
section
variable {K:Fg} {W:XW} {σ:St} {H:Hp} {D:dz} {fa fb fk:F1} {g g1 g2:FS} {c:FB} {L:List Nat}
theorem yL {i:Nat} {x:Option V} (h:i∉L):FU L σ (σ.set i x):=fun j hj=>getElem?_set_ne (fun z:i=j=>h (by rw [z];exact hj))
theorem xP:(nD L D σ).nx σ=D.nx σ:=funext fun _=>propext ⟨fun h=>h fun _ _=>rfl,fun h _=>h⟩
theorem Ke {R:(Hp->Prop)->Prop} (h:R ((nD L D σ).nx σ)):R (D.nx σ):=xP (L:=L) (D:=D) (σ:=σ)▸h
theorem ox {D':dz} (h:tS K W g D σ H) (h1:∀σ' H',D.nx σ' H'->D'.nx σ' H') (h2:D'.rt=D.rt) (h3:D'.bk=D.bk) (h4:D'.ct=D.ct):tS K W g D' σ H:=by
 obtain ⟨He,O,Fs,Γ,E,h⟩:=h;refine ⟨He,O,Fs,Γ,E,?_⟩
 cases e:g Γ with
 | nx Γ'=>rw [e] at h;exact fun σ' H' Fs' E'=>h1 _ _ (h σ' H' Fs' E')
 | bk Γ'=>rw [e] at h;exact fun σ' H' Fs' E'=>by rw [h3];exact h σ' H' Fs' E'
 | ct Γ'=>rw [e] at h;exact fun σ' H' Fs' E'=>by rw [h4];exact h σ' H' Fs' E'
 | rt p=>rw [e] at h;exact fun v H' G r=>by rw [h2];exact h v H' G r
 | er c Γ'=>rw [e] at h;exact h
 | no=>rw [e] at h;exact h
theorem BN {σ1:St} (h:FU L σ σ1):nD L D σ1=nD L D σ:=by
 unfold nD;congr 1
 funext σ' H'
 have:FU L σ1 σ'↔FU L σ σ':=⟨fun z i hi=>(z i hi).trans (h i hi),fun z i hi=>(z i hi).trans (h i hi).symm⟩
 rw [propext this]
theorem xb (h:tN L K W (ay g1 g2) D σ H):d7 (tN L K W g1) (tN L K W g2) D σ H:=by
 have h:=tQ h
 refine ox (D':=nD L { D with nx:=tN L K W g2 D } σ) h (fun σ1 H1 z a=>?_) rfl rfl rfl
 show tS K W g2 (nD L D σ1) σ1 H1
 rw [BN a];exact z
theorem tV (h:tN L K W aN D σ H):kx D σ H:=Ke (L:=L) (R:=fun P=>P H) (oK h)
theorem A9 (h:tN L K W (b6 c g1 g2) D σ H):sW (tT K W c) (tN L K W g1) (tN L K W g2) D σ H:=tX h
theorem w9 {own:Bool} {i:Nat} (hi:i∉L) (h:tN L K W (az own i fa) D σ H):fg (tE K W fa) (L2.gName i) D σ H:=by
 have h:tE K W fa σ H fun v H1=>(nD L D σ).nx (σ.set i (some v)) H1:=Gd h
 have e:(fun v H1=>(nD L D σ).nx (σ.set i (some v)) H1)=fun v H1=>D.nx (σ.set i (some v)) H1:=funext fun v=>funext fun H1=>propext ⟨fun z=>z (yL hi),fun z _=>z⟩
 rw [e] at h;exact h
end
structure KU (K:Fg) (He:Hp) (O:List Addr) (ss:List Sh) (vs:List V) (ds:List MR) (H:Hp) (Gs:List (List Addr)):Prop where
 same:Same He H
 lg:Gs.length=ss.length
 ld:ds.length=ss.length
 nd:Gs.flatten.Nodup
 inH:∀a∈Gs.flatten,H a≠none
 fresh:∀a∈Gs.flatten,He a=none
 own:∀(i:Nat) v d G s,vs[i]?=some v->ds[i]?=some d->Gs[i]?=some G->ss[i]?=some s->Own K (Gs.flatten++O) H s G v d
abbrev C5 (x:Str) (s:Stmt) (ps:List Str) (us:List Value):Prop:=∀(kV doc pm:Value) (an:Option Addr) (cdv ct:Value),bindArgs (PySem.W.fnOf x x (C7 s) (jD s) (dR s) .none kV doc pm an cdv ct) ⟨us,[]⟩=pure (ps.zip us)
abbrev sg (x:Str) (s:Stmt) (ps:List Str):Prop:=∀us:List Value,us.length=ps.length->C5 x s ps us
section
variable {x:Str} {s:Stmt} {p1 p2 p3 p4 p5 p6:Str}
theorem Dn (h:∀a,C5 x s [p1] [a]:=by exact fun _ _ _ _ _ _ _=>rfl):sg x s [p1]:=fun us hl=>match us,hl with | [_],_=>h _
theorem mi (h:∀a b,C5 x s [p1,p2] [a,b]:=by exact fun _ _ _ _ _ _ _ _=>rfl):sg x s [p1,p2]:=fun us hl=>match us,hl with | [_,_],_=>h _ _
theorem r9 (h:∀a b c,C5 x s [p1,p2,p3] [a,b,c]:=by exact fun _ _ _ _ _ _ _ _ _=>rfl):sg x s [p1,p2,p3]:=fun us hl=>match us,hl with | [_,_,_],_=>h _ _ _
theorem CP (h:∀a b c d,C5 x s [p1,p2,p3,p4] [a,b,c,d]:=by exact fun _ _ _ _ _ _ _ _ _ _=>rfl):sg x s [p1,p2,p3,p4]:=fun us hl=>match us,hl with | [_,_,_,_],_=>h _ _ _ _
theorem LL (h:∀a b c d e f,C5 x s [p1,p2,p3,p4,p5,p6] [a,b,c,d,e,f]:=by exact fun _ _ _ _ _ _ _ _ _ _ _ _=>rfl):sg x s [p1,p2,p3,p4,p5,p6]:=fun us hl=>match us,hl with | [_,_,_,_,_,_],_=>h _ _ _ _ _ _
end
def Ft (K:Fg) (mg:Str->Option Value) (n:Str) (s:Stmt):Prop:=∃f fd,mg n=some (.ref f)/\Fun K n n s f fd
theorem ft {K:Fg} {h:Heap} {mg:Str->Option Value} {n:Str} {s:Stmt} {f:Addr} {od an:Option Addr} {sl:Array (Option Value)} {oc kV dc pm cd ct:Value} (X:K.In h) (G:h.Ns mainGlobals mg) (a:PySem.W.nsIn K mainGlobals n=some (some (.ref f))) (l:K.lookup f=some ⟨oc,od,.func (PySem.W.fnOf n n (C7 s) (jD s) (dR s) .none kV dc pm an cd ct),sl⟩) (c:PySem.W.codeIn K cd n=true) (k:PySem.W.keepIn K (.ref f)=true):Ft K mg n s:=⟨f,_,PySem.W.mg_of X G a,Cv (st:=s) l c k⟩
theorem zP {K:Fg} {x:Str} {st:Stmt} {f:Addr} {fd:FuncData} {ps:List Str} (F:Fun K x x st f fd) (b:sg x st ps):Binds K fd ps []:=F.binds fun kV doc pm an cdv ct us hl=>b us hl kV doc pm an cdv ct
def nq (vs cs:List Nat):List Nat:=vs.filter fun i=>!cs.contains i
def fB (N gl ps:List Str) (vs cs gs:List Nat) (s:Stmt):Bool:=jt N gl vs cs vs (nq vs cs) gs (dR s)&&r6 N gl&&(!(dR s).isCoroutine&&!(dR s).isGenerator&&decide (N.take ps.length=ps)&&(ps.all fun x=>yT (dR s) [.local,.cell] (some x))&&((dR s).names.all fun y=>!decide (y.2=.free)))
theorem pE {N gl ps:List Str} {vs cs gs:List Nat} {s:Stmt} (h:fB N gl ps vs cs gs s=true):jt N gl vs cs vs (nq vs cs) gs (dR s)=true/\r6 N gl=true/\bL N ps (dR s):=by
 unfold fB at h;simp only [Bool.and_eq_true,decide_eq_true_eq,all_eq_true,Bool.not_eq_true',decide_eq_false_iff_not] at h
 obtain ⟨⟨h1,h2⟩,⟨⟨⟨h3,h4⟩,h5⟩,h6⟩,h7⟩:=h;refine ⟨h1,h2,(Dw h1).kind,h3,h4,(Gq h2).1,h5,fun x hx=>?_,h7⟩
 obtain ⟨k,hk,q⟩:=Dg (h6 x hx);simp only [mem_cons,not_mem_nil,or_false] at hk
 rcases hk with rfl | rfl
 ·exact .inl q
 ·exact .inr q
structure In (p:Fg->(Str->Option Value)->Prop) (X:Cx) (P:Program) (w:World) (K:Fg) (mg:Str->Option Value) (base:Heap) (k:Nat):Prop where
 e1:X.prog=P
 e2:X.w=w
 e3:X.K=K
 e4:X.mg=mg
 e5:X.base=base
 rm:Room k X.A
 pp:p K mg
section
variable {p:Fg->(Str->Option Value)->Prop} {X Y:Cx} {P:Program} {w:World} {K:Fg} {mg:Str->Option Value} {base:Heap} {j k n:Nat} {x:Str} {s:Stmt} {ps:List Str} {g:FS} {den:List MR->Res} {ss:List Sh}
theorem In.r (I:In p X P w K mg base k):Rm X:=I.rm.units
theorem In.e (I:In p X P w K mg base k):p X.K X.mg:=by rw [I.e3,I.e4];exact I.pp
theorem In.c (I:In p X P w K mg base k) (h:DefOk P w K mg base j x n den) (hj:decide (j<=k)=true:=by first | exact rfl | exact decide_eq_true (by omega)):wm X x n den:=by
 obtain ⟨rfl,rfl,rfl,rfl,rfl,r,_⟩:=I;exact h.cal r hj
theorem Fx.i (F:Fx X Y) (I:In p X P w K mg base k):In p Y P w K mg base k:=⟨F.prog.trans I.e1,F.w.trans I.e2,F.K.trans I.e3,F.mg.trans I.e4,F.base.trans I.e5,by rw [F.A];exact I.rm,I.pp⟩
abbrev Bd (p:Fg->(Str->Option Value)->Prop) (P:Program) (w:World) (K:Fg) (mg:Str->Option Value) (base:Heap) (k:Nat) (N gl:List Str) (vs cs gs:List Nat) (s:Stmt) (g:FS):Prop:=∀X:Cx,Cp X N gl vs cs vs (nq vs cs) gs->In p X P w K mg base k->PassesOwn (model X.prog X.w) X.A X.env X.xe->TQ.Q (PSs X (jD s) (tS X.K W0 g))
theorem Mg {f:Addr} {fd:FuncData} (F:Fun K x x s f fd) (e:p K mg) (N gl:List Str) (vs cs gs:List Nat) (h:fB N gl ps vs cs gs s=true) (hb:Bd p P w K mg base k N gl vs cs gs s g):dg P w K mg base ic (k+1) f fd ps (qc K ps.length (aG N.length g)):=by
 obtain ⟨h1,h2,h3⟩:=pE h;exact vm F h3 fun cdv A outer s H E hr=>(hb _ (Cp.fn h1 h2) ⟨rfl,rfl,rfl,rfl,rfl,hr,e⟩ PassesOwn.never).p
theorem mk (F:Ft K mg x s) (e:p K mg) (ps:List Str) (b:sg x s ps) (rs gl:List Str) (vs cs gs:List Nat) (hb:Bd p P w K mg base k (ps++rs) gl vs cs gs s g) (h:fB (ps++rs) gl ps vs cs gs s=true:=by kernel_rfl):DefOk P w K mg base (k+1) x ps.length (aG (ps++rs).length g):=by
 obtain ⟨f,fd,hm,F⟩:=F;exact ⟨f,fd,ps,Mg F e _ gl vs cs gs h hb,hm,F.kp,zP F b⟩
section
variable {h:Heap} {a:Addr} {dd:Option Addr} {its:Array Value} {n:Nat} {sl:Array (Option Value)} {ds:List MR} (KX:K.In h) (G:h.Ns mainGlobals mg)
include KX G
theorem gn (z:PySem.W.nsIn K mainGlobals x=some none):mg x=none:=PySem.W.mg_none_of KX G z
theorem gi {i:Int} {t:Tok} (z:PySem.W.nsIn K mainGlobals x=some (some (.int i t))):nW K mg x (.int i):=yB (PySem.W.mg_of KX G z)
theorem gt (z:PySem.W.nsIn K mainGlobals x=some (some (.ref a))) (l:K.lookup a=some ⟨.type "tuple",dd,.seq its n,sl⟩) (c:CL its ds=true):nW K mg x (.tuple ds):=yA (PySem.W.mg_of KX G z) l c
end
theorem walkG {m:List MR->Res} {l:PySem.W.OpenLaw} {q:Program} {loose:List Str} {XP:(Str->Option Value)->Heap->Prop} {YP:World->Heap->Prop} {d:DefRec} {K:Params->Fg} (lt:∀ns:List Int,ns.length<=63->m [.list (ns.map .int)]=.ok ⟨.leaf,.bool true⟩) (hr:Room j callerA) (hn:l.most=some 63) (hdf:d.params.defaults=[])
  (hY:∀(w:World) (h:Heap),YP w h->(K w.params).In h)
  (F:∀(w:World) (mg:Str->Option Value) (fa:Addr) (h:Heap),(K w.params).In h->h.Ns mainGlobals mg->mg d.name=some (.ref fa) ->
   ∃fd:FuncData,(∀(s:Shared) (u:Value),BindsTo s fd ⟨[u],[]⟩ [("script",u)])/\∀base:Heap,(K w.params).In base->base.Ns mainGlobals mg->dg l.prog w (K w.params) mg base ic j fa fd ["script"] (qc (K w.params) 1 m)) :
  PySem.W.WalkO q loose XP YP l.row.toRowW d [] (fun f vs=>PySem.call f vs):=
 L2.walk_of (n:=63) (k:=j) (x := "script") (CX:=fun _=>ic) (sp:=fun w=>qc (K w.params) 1 m) hn (by decide) hdf hr hY F (fun _ _ a ns hl _ hS=>BS (lt ns hl) hS) fun _ _ _ _ _ z=>z
end
end T
namespace TQ
open PySem PySem.Spec L2 T
open PyProof.Rows hiding St
section
variable {X:Cx} {N gl:List Str} {vs cs ls lo gs:List Nat} {W:XW} {a b c e:Expr} {es:List Expr} {pos p:Pos} {fa fb fc:F1} {fl:FL} {ga gb:FB} {g1 g2 g:FS}
theorem aq (S:Cp X N gl vs cs ls lo gs) (i:Nat) {x:Str} (hN:N[i]?=some x:=by exact rfl) (hv:vs.contains i=true:=by exact rfl):Q (PE X (.Name x pos) (tE X.K W (af i))):=w_cv S i hN hv
theorem aE (ha:Q (PE X e (tE X.K W fa))) (hr:Q (PA X es (tA X.K W fl))) (hs:vX e=false:=by exact rfl):Q (PA X (e::es) (tA X.K W (ae fa fl))):=i5 ha hr (dh hs)
theorem aI (ha:Q (PE X e (tE X.K W fa))) (hs:vX e=false:=by exact rfl):Q (PA X [e] (tA X.K W (ae fa ag))):=i5 ha iZ (dh hs)
theorem bC (ha:Q (PE X a (tE X.K W fa))) (hb:Q (PE X b (tE X.K W fb))) (hs:GI b:=by exact fun _ _=>rfl):Q (PE X (.Subscript a b pos) (tE X.K W (aj fa fb))):=w_de_idx ha hb hs
theorem b8 {x:Str} {n:Nat} {den:List MR->Res} (S:Cp X N gl vs cs ls lo gs) (j:Nat) (C:wm X x n den) (ha:Q (PA X (e::es) (tA X.K W fl))) (hj:gl[j]?=some x:=by exact rfl) (hg:gs.contains j=true:=by exact rfl) (he:vX e=false:=by exact rfl) (hpl:(backTo pos (starEach es X.env)).any (·.1)=false:=by exact rfl):Q (PE X (.Call (.Name x p) (e::es) [] pos) (tE X.K W (ao n den fl))):=Jw S j hj hg C ha (dh he) hpl
theorem cB (S:Cp X N gl vs cs ls lo gs) (own:Bool) (i:Nat) {x:Str} {pos':Pos} (ha:Q (PE X a (tE X.K W fa))) (hi:N[i]?=some x:=by exact rfl) (hl:ls.contains i=true:=by exact rfl) (hs:swapsWith a (some (.Name x pos')) pos.line X.env=pure false:=by exact rfl):Q (PS X (.Assign [.Name x pos'] a pos) (tS X.K W (az own i fa))):=ko S own i hi hl hs ha
theorem gE (S:Cp X N gl vs cs ls lo gs) (j:Nat) (hm:X.mg "len"=none) (ha:Q (PA X (e::es) (tA X.K W fl))) (hj:gl[j]?=some ("len":Str):=by exact rfl) (hg:gs.contains j=true:=by exact rfl) (he:vX e=false:=by exact rfl) (hpl:(backTo pos (starEach es X.env)).any (·.1)=false:=by exact rfl):Q (PE X (.Call (.Name "len" p) (e::es) [] pos) (tE X.K W (bG br fl))):=sN S j hj hg hm ha (dh he) hpl
theorem e9 {op:CmpOp} {r:R2} {g:MR->MR->Option MR} (k:Ck X op r g) (ha:Q (PE X a (tE X.K W fa))) (hb:Q (PE X b (tE X.K W fb))) (hm:behindInMarks op b=false:=by with_unfolding_all rfl):Q (PT X (.Compare a [op] [b] pos) (tT X.K W (aO aA (aD g fa fb)))):=Jt k ha hb hm
theorem mM {op:CmpOp} {r:R2} {g:MR->MR->Option MR} (k:Ck X op r g) (ha:Q (PE X a (tE X.K W fa))) (hb:Q (PE X b (tE X.K W fb))) (hm:behindInMarks op b=false:=by with_unfolding_all rfl):Q (PE X (.Compare a [op] [b] pos) (tE X.K W (aD g fa fb))):=Jv k ha hb hm
theorem dk (ha:Q (PE X a (tE X.K W fa))):Q (PSs X [.Return (some a) pos] (tS X.K W (aU fa))):=cS (sJ ha)
theorem i8 {scope:Scope} {x:Str} {px:Pos} {iter elt:Expr} {ifs:List Expr} {fi:FI} {fe:F1} {fc:FB} (vs' cs' gs':List Nat) (S:Cp X N gl vs cs ls lo gs) (i:Nat) (hi':Q (PI X (.Name x px) iter (tI X.K W fi))) (hc:wo X N gl vs' cs' [i] [] gs' fun Y=>Q (PF Y ifs (tT Y.K W0 fc))) (he:wo X N gl vs' cs' [i] [] gs' fun Y=>Q (PE Y elt (tE Y.K W0 fe))) (hx:N[i]?=some x:=by exact rfl) (h1:hX N i cs scope=true:=by kernel_rfl) (h2:jt N gl vs' cs' [i] [] gs' scope=true:=by kernel_rfl) (hs:∀x,foldedSetIterable iter X.env x=pure x:=by exact fun _=>rfl):Q (PE X (.ListComp elt [⟨.Name x px,iter,ifs,0⟩] scope pos) (tE X.K W (aB .leaf i fi fc fe))):=Ju S .leaf i hx h1 h2 hi' hc he hs
end
end TQ
namespace T
open PySem PySem.Spec L2
open PyProof.Rows hiding St
def wX (mg:Str->Option Value) (E:XK):XW:=fun c _ H'=>∀C,mg c=some (.ref C)->E (.ref C) none H'
def Hh (K:Fg) (mg:Str->Option Value) (n:Nat) (den:List MR->Res):Sp:=fun vs H Q E=>vs.length=n/\∃O ds,O.Nodup/\(∀a∈O,H a≠none)/\Reps K (bW H O) vs ds/\match den ds with
 | .ok p=>∀v H' G,RetOk K H O p v H' G->Q v H'
 | .er c=>∀C H',mg c=some (.ref C)->Same H H'->E (.ref C) none H'
 | .no=>False
section
variable {P:Program} {w:World} {K:Fg} {mg:Str->Option Value} {base:Heap}
theorem yi {x qual:Str} {st:Stmt} {f:Addr} {fd:FuncData} {N ps:List Str} {k:Nat} {g:FS} (F:Fun K x qual st f fd) (S:bL N ps (dR st))
  (hb:∀(cdv:Value) (A:Around) (outer:List Env) (s:Shared) (H:Hp) (E:XK),Room k (A.deeper (envOfC qual (dR st) s.heap.objs.size f cdv)) ->
   PSs (et (sf P w) P w K mg base N qual (dR st) f cdv A outer s H E) (jD st) (tS K (wX mg E) g)):dg P w K mg base (sf P w) (k+1) f fd ps (Hh K mg ps.length (aG N.length g)):=by
 have hpl:ps.length<=N.length:=by have:=congrArg List.length S.pre;rw [length_take] at this;omega
 obtain ⟨oc,od,kV,doc,pm,an,cdv,ct,osl,rfl,lk,hcd⟩:=F.ex;refine zH lk hcd S (fun vs H Q E h=>h.1) fun A outer s H vs Q E hr h=>⟨_,hb cdv A outer s H E hr,?_⟩
 obtain ⟨hl,O,ds,nd,inH,rs,w⟩:=h;refine ⟨H,O,List.replicate N.length [],aQ N.length ds,IU (by omega) nd inH rs,?_⟩
 unfold aG at w
 cases e:g (aQ N.length ds) with
 | nx Γ'=>
  rw [e] at w;exact fun σ' H' Fs' E'=>w .non H' [] ⟨E'.same,(fun _ z=>nomatch z),(fun _ z=>nomatch z),nodup_nil,.leaf .non,rfl⟩
 | rt p=>rw [e] at w;exact w
 | bk Γ'=>rw [e] at w;exact w.elim
 | ct Γ'=>rw [e] at w;exact w.elim
 | er c Γ'=>rw [e] at w;exact fun σ' H' Fs' E' C hC=>w C H' hC E'.same
 | no=>rw [e] at w;exact w.elim
end
def DefOkX (P:Program) (w:World) (K:Fg) (mg:Str->Option Value) (base:Heap) (j:Nat) (x:Str) (n:Nat) (den:List MR->Res):Prop:=
 ∃(f:Addr) (fd:FuncData) (ps:List Str),dg P w K mg base (sf P w) j f fd ps (Hh K mg n den)/\mg x=some (.ref f)/\PySem.W.keepIn K (.ref f)=true/\Binds K fd ps []
def yP (X:Cx) (x:Str) (n:Nat) (den:List MR->Res):Prop:=∃(k:Nat) (f:Addr) (fd:FuncData) (ps:List Str),dg X.prog X.w X.K X.mg X.base (sf X.prog X.w) k f fd ps (Hh X.K X.mg n den)/\Room k X.A/\X.mg x=some (.ref f)/\PySem.W.keepIn X.K (.ref f)=true/\Binds X.K fd ps []
theorem DefOkX.cal {X:Cx} {j k n:Nat} {x:Str} {den:List MR->Res} (h:DefOkX X.prog X.w X.K X.mg X.base j x n den) (hr:Room k X.A) (hj:decide (j<=k)=true):yP X x n den:=by
 obtain ⟨f,fd,ps,F,a,b,c⟩:=h;exact ⟨j,f,fd,ps,F,hr.mono (of_decide_eq_true hj),a,b,c⟩
def gy (n:Nat) (den:List MR->Res) (fl:FL):F1:=fun Γ=>(fl Γ).bind fun ps Γ'=>if ps.length=n then (match den (ps.map (·.d)) with
 | .ok p=>if ps.all (T.coer .leaf) then .ok p Γ' else if bo p.d then .ok ⟨.leaf,p.d⟩ Γ' else .ok ⟨.view,p.d⟩ Γ'
 | .er c=>.er c Γ'
 | .no=>.no) else .no
section
variable {K:Fg} {W:XW} {σ:St} {H:Hp} {Q:VK} {fl:FL}
theorem t6 {mg:Str->Option Value} {n:Nat} {den:List MR->Res} {EE:St->XK} (hW:∀c σ H' C,W c σ H'->mg c=some (.ref C)->EE σ (.ref C) none H') (h:tE K W (gy n den fl) σ H Q):tf (Hh K mg n den) EE (tA K W fl) σ H Q:=by
 obtain ⟨He,O,Fs,Γ,E0,h⟩:=h;refine ⟨He,O,Fs,Γ,E0,?_⟩
 unfold gy at h
 cases e:fl Γ with
 | er c Γ'=>rw [e] at h;exact h
 | no=>rw [e] at h;exact h
 | ok ps Γ1=>
  rw [e] at h;intro vs H1 Gs Fs1 A;have h:Wants K W He O Fs H σ Q (if ps.length=n then (match den (ps.map (·.d)) with | .ok p=>if ps.all (T.coer .leaf) then .ok p Γ1 else if bo p.d then .ok ⟨.leaf,p.d⟩ Γ1 else .ok ⟨.view,p.d⟩ Γ1 | .er c=>.er c Γ1 | .no=>.no) else .no):=h
  by_cases hn:ps.length=n
  case neg=>rw [if_neg hn] at h;exact h.elim
  rw [if_pos hn] at h;have hl:vs.length=n:=by rw [A.len1];exact hn
  cases ed:den (ps.map (·.d)) with
  | er c=>
   rw [ed] at h;have h:Wants K W He O Fs H σ Q (.er c Γ1):=h
   refine ⟨hl,[],ps.map (·.d),nodup_nil,(fun _ z=>nomatch z),by rw [DE];exact A.reps,?_⟩
   rw [ed];exact fun C H' hC sm=>hW c σ H' C (h H' Fs1 (A.same.trans sm) (A.env.dropL.grow sm)) hC
  | no=>rw [ed] at h;exact h.elim
  | ok p=>
   rw [ed] at h;have h:Wants K W He O Fs H σ Q (if ps.all (T.coer .leaf) then .ok p Γ1 else if bo p.d then .ok ⟨.leaf,p.d⟩ Γ1 else .ok ⟨.view,p.d⟩ Γ1):=h
   obtain ⟨n1,n2,n3⟩:=ML A.env.nd;obtain ⟨m1,m2,m3⟩:=ML n1;have newF:∀a∈Fs1.flatten,a∈Fs.flatten\/H a=none:=fun a ha=>A.new a (ME _ ha)
   cases hc:ps.all (T.coer .leaf) with
   | true=>
    rw [hc] at h;have h:Wants K W He O Fs H σ Q (.ok p Γ1):=h
    refine ⟨hl,O++Fs1.flatten,ps.map (·.d),A.env.dropL.nd,A.env.dropL.inH,?_,?_⟩
    ·refine ⟨A.reps.1,fun i v d h1 h2=>?_⟩
     rw [getElem?_map] at h2
     cases e2:ps[i]? with
     | none=>rw [e2] at h2;cases h2
     | some q=>
      rw [e2] at h2
      cases h2;have hi:=(MM e2).1
      have e3:Gs[i]?=some (Gs[i]'(by rw [A.len2];exact hi)):=MI _
      have o:=A.own i v q _ h1 e2 e3
      have o2:=o.coer (s:=.leaf) (O':=O++Fs1.flatten) (List.all_eq_true.mp hc q (mem_of_getElem? e2)) qa fun a ha z=>by
       exfalso
       have hG:=mB e3 ha
       rcases MG z with y | y
       ·exact m3 a hG a y rfl
       ·exact n3 a (MF _ hG) a y rfl
      cases o2 with
      | leaf r=>exact r
    ·rw [ed]
     intro v H2 G r;refine h v H2 G Fs1 ⟨A.same.trans r.same,A.env.dropL.hide r.same r.nd r.fresh r.inH,fun a ha=>?_,by rw [append_assoc];exact r.own⟩
     rcases MG ha with z | z
     ·exact .inr (A.same.free (r.fresh a z))
     ·exact newF a z
   | false=>
    rw [hc] at h;have h:Wants K W He O Fs H σ Q (if bo p.d then .ok ⟨.leaf,p.d⟩ Γ1 else .ok ⟨.view,p.d⟩ Γ1):=h
    refine ⟨hl,[],ps.map (·.d),nodup_nil,(fun _ z=>nomatch z),by rw [DE];exact A.reps,?_⟩
    rw [ed];intro v H2 G r
    cases hs:bo p.d with
    | true=>
     rw [hs] at h;exact Wants.scal h (r.own.rep.sc hs) (A.same.trans r.same) (A.env.dropL.grow r.same) (fun a ha=>ha) E0.ndO newF
    | false=>
     rw [hs] at h;have h:Wants K W He O Fs H σ Q (.ok ⟨.view,p.d⟩ Γ1):=h
     exact h v H2 [] Fs1 ⟨A.same.trans r.same,by simpa using A.env.dropL.grow r.same,by simpa using newF,.view r.own.rep⟩
end
def FW (X:Cx) (W:XW):Prop:=∃EE:St->XK,GH (sf X.prog X.w) X EE/\∀c σ H' C,W c σ H'->X.mg c=some (.ref C)->EE σ (.ref C) none H'
def HH (X:Cx) (W:XW):Prop:=∃E:XK,Makes X E/\∀c σ H' C,W c σ H'->X.mg c=some (.ref C)->E (.ref C) none H'
theorem JB {P:Program} {w:World} {K:Fg} {mg:Str->Option Value} {base:Heap} {N:List Str} {qual:Str} {sc:Scope} {f:Addr} {cd:Value} {A:Around} {outer:List Env} {s:Shared} {H:Hp} {E:XK} :
  FW (et (sf P w) P w K mg base N qual sc f cd A outer s H E) (wX mg E):=
 ⟨fun _=>E,fun pins σ H s e s' I h=>EB (fun _ _ _ z=>z) pins σ H s e s' I h,fun c σ H' C h hC=>h C hC⟩
theorem Ki {P:Program} {w:World} {K:Fg} {mg:Str->Option Value} {base:Heap} {N:List Str} {qual:Str} {sc:Scope} {f:Addr} {cd:Value} {A:Around} {outer:List Env} {s:Shared} {H:Hp} {E:XK} :
  HH (et (sf P w) P w K mg base N qual sc f cd A outer s H E) (wX mg E):=
 ⟨E,BQ fun _ _ _ z=>z,fun c σ H' C h hC=>h C hC⟩
section
variable {X:Cx} {N gl:List Str} {vs cs ls lo gs:List Nat} {W:XW} {a b c e:Expr} {es:List Expr} {pos p:Pos} {fa fb fc:F1} {fl:FL}
theorem KM {x:Str} {n:Nat} {den:List MR->Res} (S:Cp X N gl vs cs ls lo gs) (j:Nat) (hj:gl[j]?=some x) (hg:gs.contains j=true) (C:yP X x n den) (th:FW X W) (ha:PA X (e::es) (tA X.K W fl)) (he:starEach (e::es) X.env=(false,eval e X.env)::starEach es X.env) (hpl:(backTo pos (starEach es X.env)).any (·.1)=false) :
  PE X (.Call (.Name x p) (e::es) [] pos) (tE X.K W (gy n den fl)):=by
 obtain ⟨k,f,fd,ps,F,hr,hm,hk,hb⟩:=C;obtain ⟨EE,hx,hW⟩:=th;exact aP (uF F hr (S.g hj hg).1 hm hk hb hx ha (S.g hj hg).2.1 he hpl) fun _ _ _=>t6 hW
def rU (mg:Str->Option Value) (base:Heap) (x:Str):Prop:=∃C,OwnCls x C [.type "ValueError",.type "Exception",.type "BaseException",.type "object"] "ValueError.__new__" mg base
def yQ (c:Str):FS:=fun Γ=>.er c Γ
theorem vE {x m:Str} {np cpos mp:Pos} {mk:Nat} (S:Cp X N gl vs cs ls lo gs) (j:Nat) (hj:gl[j]?=some x) (hg:gs.contains j=true) (R:rU X.mg X.base x) (mk':HH X W) :
  PS X (.Raise (some (.Call (.Name x np) [.Constant (.str m) mk mp] [] cpos)) none pos) (tS X.K W (yQ x)):=by
 obtain ⟨C,O⟩:=R;obtain ⟨E,hM,hW⟩:=mk'
 have ha:PA X [.Constant (.str m) mk mp] (tA X.K W (ae (eK (.str m)) ag)):=da_cons de_str da_nil rfl
 refine cN (uo S.calm O F.excBase_ValueError (by decide) F.excBase_ValueError (S.g hj hg).1 hM ha rfl rfl (S.g hj hg).2.1) fun D σ H h=>?_
 obtain ⟨He,O',Fs,Γ,E0,h⟩:=h;refine ⟨He,O',Fs,Γ,E0,?_⟩
 show ∀vs H1 Gs Fs1,_->_
 intro vs H1 Gs Fs1 A;refine ⟨?_,hW x σ H1 C (h σ H1 Fs1 A.env.dropL) O.bound⟩
 rw [A.len1];exact (by decide:1<=sizeLine)
end
theorem Cp.fnX {P:Program} {w:World} {K:Fg} {mg:Str->Option Value} {base:Heap} {N gl:List Str} {vs cs ls lo gs:List Nat} {qual:Str} {sc:Scope} {f:Addr} {cd:Value} {A:Around} {outer:List Env} {s:Shared} {H:Hp} {E:XK}
  (h:jt N gl vs cs ls lo gs sc=true) (h':r6 N gl=true):Cp (et (sf P w) P w K mg base N qual sc f cd A outer s H E) N gl vs cs ls lo gs:=by
 obtain ⟨a,b,c⟩:=Gq h'
 have q:=Dw h
 exact ⟨rfl,a,b,c,q.vis,q.cel,fun i x e hi=>⟨q.loc i x e hi,.inl rfl⟩,q.loo,q.glb,rfl,q.kind⟩
section
variable {p:Fg->(Str->Option Value)->Prop} {X Y:Cx} {P:Program} {w:World} {K:Fg} {mg:Str->Option Value} {base:Heap} {j k n:Nat} {y:Str} {s:Stmt} {ps:List Str} {g:FS} {den:List MR->Res}
theorem In.x (I:In p X P w K mg base k) (h:DefOkX P w K mg base j y n den) (hj:decide (j<=k)=true:=by first | exact rfl | exact decide_eq_true (by omega)):yP X y n den:=by
 obtain ⟨rfl,rfl,rfl,rfl,rfl,r,_⟩:=I;exact h.cal r hj
theorem In.ra (I:In p X P w K mg base k) (h:rU mg base y):rU X.mg X.base y:=by rw [I.e4,I.e5];exact h
abbrev MC (p:Fg->(Str->Option Value)->Prop) (P:Program) (w:World) (K:Fg) (mg:Str->Option Value) (base:Heap) (k:Nat) (N gl:List Str) (vs cs gs:List Nat) (s:Stmt) (g:FS):Prop:=∀(X:Cx) (W:XW),Cp X N gl vs cs vs (nq vs cs) gs->In p X P w K mg base k->FW X W->HH X W->TQ.Q (PSs X (jD s) (tS X.K W g))
theorem uQ (F:Ft K mg y s) (e:p K mg) (ps:List Str) (b:sg y s ps) (rs gl:List Str) (vs cs gs:List Nat) (hb:MC p P w K mg base k (ps++rs) gl vs cs gs s g) (h:fB (ps++rs) gl ps vs cs gs s=true:=by kernel_rfl):DefOkX P w K mg base (k+1) y ps.length (aG (ps++rs).length g):=by
 obtain ⟨f,fd,hm,F⟩:=F;obtain ⟨h1,h2,h3⟩:=pE h;exact ⟨f,fd,ps,yi F h3 fun cdv A outer s H E hr=>(hb _ _ (Cp.fnX h1 h2) ⟨rfl,rfl,rfl,rfl,rfl,hr,e⟩ JB Ki).p,hm,F.kp,zP F b⟩
theorem xn {h:Heap} {C:Addr} (KX:K.In base) (G:base.Ns mainGlobals mg) (e:PySem.W.nsIn K mainGlobals y=some (some (.ref C))) (q:PySem.W.excIn K C [.type "ValueError",.type "Exception",.type "BaseException",.type "object"] "ValueError.__new__"=true):rU mg base y:=by
 refine ⟨C,PySem.W.mg_of KX G e,?_⟩
 unfold PySem.W.excIn at q;split at q
 ·rename_i dd cd sl ho
  split at q
  ·rename_i C' bm k0 k1 k2 k3 n k5 hm hs
   simp only [Bool.and_eq_true,beq_iff_eq,Bool.not_eq_true'] at q
   obtain ⟨⟨⟨⟨⟨rfl,rfl⟩,hdel⟩,ht⟩,hok⟩,hni⟩:=q;obtain ⟨nm,bs,mro,ns,qn,hd,sn,sub,ab,col,del⟩:=cd;dsimp only at hm hdel hok hni
   subst hm hdel;have hsl:sl=#[k0,k1,k2,k3,some (.builtin "ValueError.__new__"),k5]:=by
    obtain ⟨l⟩:=sl;simp only at hs
    rw [hs]
   subst hsl;exact ⟨bm,ns,nm,qn,bs,hd,sn,sub,ab,col,dd,k0,k1,k2,k3,k5,_,KX _ _ ho,.of_isNs (PySem.W.isNs_of_in KX hok),PySem.W.nsMap_none_of_in KX hok hni,PySem.W.tail_of_in KX ht⟩
  ·cases q
 ·cases q
end
end T
namespace TQ
open PySem PySem.Spec L2 T
open PyProof.Rows hiding St
section
variable {X:Cx} {N gl:List Str} {vs cs ls lo gs:List Nat} {W:XW} {a b c e:Expr} {es:List Expr} {pos p:Pos} {fl:FL} {g:FS}
theorem mF {x:Str} {n:Nat} {den:List MR->Res} (S:Cp X N gl vs cs ls lo gs) (th:FW X W) (j:Nat) (C:yP X x n den) (ha:Q (PA X (e::es) (tA X.K W fl))) (hj:gl[j]?=some x:=by exact rfl) (hg:gs.contains j=true:=by exact rfl) (he:vX e=false:=by exact rfl) (hpl:(backTo pos (starEach es X.env)).any (·.1)=false:=by exact rfl):Q (PE X (.Call (.Name x p) (e::es) [] pos) (tE X.K W (gy n den fl))):=⟨KM S j hj hg C th ha.p (dh he) hpl⟩
theorem Dk {x m:Str} {np cpos mp:Pos} {mk:Nat} (S:Cp X N gl vs cs ls lo gs) (mk':HH X W) (j:Nat) (R:rU X.mg X.base x) (hj:gl[j]?=some x:=by exact rfl) (hg:gs.contains j=true:=by exact rfl):Q (PS X (.Raise (some (.Call (.Name x np) [.Constant (.str m) mk mp] [] cpos)) none pos) (tS X.K W (yQ x))):=⟨vE S j hj hg R mk'⟩
end
end TQ
namespace T
open PySem PySem.Spec L2 PySem.W
open PyProof.Rows hiding St
structure e7 (K:Fg) (C:Addr):Prop where
 cl:(PySem.W.clsIn K C).isSome=true
 ga:PySem.W.findIn K (.ref C) "__getattribute__"=some (some (.builtin "BaseException.__getattribute__"))
 gn:PySem.W.findIn K (.ref C) "__getattr__"=some none
 gc:PySem.W.findIn K (.ref C) "__class__"=some (some (.builtin "object.__class__"))
 ob:PySem.W.mroIn K C (.type "object")=some true
 be:PySem.W.mroIn K C (.type "BaseException")=some true
def yk (K:Fg) (C:Addr):Bool:=(PySem.W.clsIn K C).isSome&&PySem.W.findIn K (.ref C) "__getattribute__"==some (some (.builtin "BaseException.__getattribute__"))&&PySem.W.findIn K (.ref C) "__getattr__"==some none &&
 PySem.W.findIn K (.ref C) "__class__"==some (some (.builtin "object.__class__"))&&PySem.W.mroIn K C (.type "object")==some true&&PySem.W.mroIn K C (.type "BaseException")==some true
theorem pF {K:Fg} {C:Addr} (h:yk K C=true):e7 K C:=by
 unfold yk at h;simp only [Bool.and_eq_true,beq_iff_eq] at h
 obtain ⟨⟨⟨⟨⟨a,b⟩,c⟩,d⟩,e⟩,f⟩:=h;exact ⟨a,b,c,d,e,f⟩
def vW (x C:Addr) (h:Heap):Prop:=∃oe vs,h.get? x=some oe/\oe.cls=.ref C/\oe.data=.fields vs
section
variable {prog:Program} {w:World} {A:Around} {E:Value->Shared->Prop} {h:Heap} {g:Array GenState} {d:Drawn} {t:Nat} {os:OsState} {K:Fg} {x C:Addr} {o:Obj}
theorem u0 {Q:Bool->Shared->Prop} (X:K.In h) (Z:e7 K C) (hx:h.get? x=some o) (hc:o.cls=.ref C) {T:Value} {b:Bool} (hm:PySem.W.mroIn K C T=some b) (hq:Q b ⟨h,g,d,t,os⟩):wpAny (model prog w) A (isInstance (.ref x) T) Q E ⟨h,g,d,t,os⟩:=by
 have LT:Looks (model prog w) h (typeOf (.ref x)) (.ref C):=hc▸(Looks.ld hx).andThen .now
 exact (show Looks (model prog w) h (isInstance (.ref x) T) b from LT.andThen (looks_mroIn X hm)).at hq
theorem nL {R:Result->Shared->Prop} (X:K.In h) (Z:e7 K C) (hx:h.get? x=some o) (hc:o.cls=.ref C) (hq:R (.ok (.ret (.ref C))) ⟨h,g,d,t,os⟩) :
  codeAny (model prog w) A (.call (.builtin "getset_descriptor.__get__") ⟨[.builtin "object.__class__",.ref x,.ref C],[]⟩) R ⟨h,g,d,t,os⟩:=by
 have hT5:(⟨h,g,d,t,os⟩:Shared).TypeIs (.builtin "object.__class__") "getset_descriptor":=F.typeOf_object_class
 have LS:Looks (model prog w) h (isSubtype (.ref C) (.type (".".intercalate ("object.__class__".cutAt '.').dropLast))) true:=by rw [F.owner_object_class];exact looks_mroIn X Z.ob
 refine codeAny_call_builtin F.slot_gs_get.plain F.entry_gs_get (F.slot_gs_get.check _ _ _ _ _ _ _ _ hT5 (F.args_gs_get _ _ _) ?_)
 repeat (any_goals (first | assumption | (with_reducible refine wpAny_loadPart_at hx ?_;rw [hc]) | with_reducible refine LS.at ?_ | wp_step))
 refine ⟨Code.quiet_builtin _ (by decide +kernel),codeAny_builtin F.entry_object_class ?_⟩
 repeat (any_goals (first | assumption | (with_reducible refine wpAny_loadPart_at hx ?_;rw [hc]) | wp_step))
theorem nM {tk:Tok} {Q:Fin->Shared->Prop} (X:K.In h) (Z:e7 K C) (hx:h.get? x=some o) (hc:o.cls=.ref C) (hq:Q (.done (.ret (.ref C))) ⟨h,g,d,t,os⟩) :
  wpAny (model prog w) A (Builtin.«object.__getattribute__» ⟨[.ref x,.str "__class__" tk],[]⟩) Q E ⟨h,g,d,t,os⟩:=by
 have hT5:(⟨h,g,d,t,os⟩:Shared).TypeIs (.builtin "object.__class__") "getset_descriptor":=F.typeOf_object_class
 have L4:Looks (model prog w) h (typeLookup (.ref C) "__class__") (some (.builtin "object.__class__")):=looks_findIn X Z.gc
 have f5:=F.typeOf_object_class
 have f6:=F.slot_gs_get.lookup
 have f7:=F.slot_gs_set.lookup
 repeat (any_goals (first | assumption | (with_reducible refine wpAny_loadPart_at hx ?_;rw [hc]) | with_reducible refine L4.at ?_ | wp_step))
 refine nL X Z hx hc ?_
 repeat (any_goals (first | assumption | wp_step))
theorem nN {nameV:Value} {Q:Unit->Shared->Prop} (X:K.In h) (Z:e7 K C) (hx:h.get? x=some o) (hc:o.cls=.ref C) (hq:Q () ⟨h,g,d,t,os⟩):wpAny (model prog w) A (checkBuiltinCall "BaseException.__getattribute__" ⟨[.ref x,nameV],[]⟩) Q E ⟨h,g,d,t,os⟩:=by
 have hk:builtinKind "BaseException.__getattribute__"=some .slot:=by decide +kernel
 have hsplit:splitId "BaseException.__getattribute__"=some ("BaseException", "__getattribute__"):=by decide +kernel
 have ha:=F.args_bexc_ga (.ref x) nameV
 simp only [checkBuiltinCall,hk,hsplit]
 refine MN (u0 X Z hx hc Z.be ?_)
 repeat (any_goals (first | assumption | wp_step))
theorem ma {tk:Tok} {R:Result->Shared->Prop} (X:K.In h) (Z:e7 K C) (hx:h.get? x=some o) (hc:o.cls=.ref C) (hq:R (.ok (.ret (.ref C))) ⟨h,g,d,t,os⟩) :
  codeAny (model prog w) A (.call (.builtin "BaseException.__getattribute__") ⟨[.ref x,.str "__class__" tk],[]⟩) R ⟨h,g,d,t,os⟩:=
 codeAny_call_builtin F.excAttr_ValueError.ga.plain F.entry_bexc_ga (nN X Z hx hc (nM X Z hx hc hq))
theorem rN {tk:Tok} {Q:Value->Shared->Prop} (X:K.In h) (Z:e7 K C) (hx:h.get? x=some o) (hc:o.cls=.ref C) (hq:Q (.ref C) ⟨h,g,d,t,os⟩):wpAny (model prog w) A (getAttrBy (.ref x) (.str "__class__" tk) false) Q E ⟨h,g,d,t,os⟩:=by
 have L2:Looks (model prog w) h (typeLookup (.ref C) "__getattribute__") (some (.builtin "BaseException.__getattribute__")):=looks_findIn X Z.ga
 have L3:Looks (model prog w) h (typeLookup (.ref C) "__getattr__") none:=looks_findIn X Z.gn
 have f3:=F.excAttr_ValueError.ga.bind (.ref x)
 have hx2:(Value.builtin "BaseException.__getattribute__"==Value.builtin "object.__getattribute__")=false:=by decide +kernel
 have hx1:(onTheHeap (Value.ref C)&&Value.builtin "BaseException.__getattribute__"==Value.builtin "object.__getattribute__")=false:=by rw [hx2];rfl
 repeat (any_goals (first | assumption | (with_reducible refine wpAny_loadPart_at hx ?_;rw [hc]) | with_reducible refine L2.at ?_ | with_reducible refine L3.at ?_ | wp_step))
 refine ma X Z hx hc ?_
 repeat (any_goals (first | assumption | wp_step))
theorem me {Q:Option Value->Shared->Prop} (X:K.In h) (Z:e7 K C) (hx:h.get? x=some o) (hc:o.cls=.ref C) (hq:Q (some (.ref C)) ⟨h,g,d,t+1,os⟩):wpAny (model prog w) A (getAttr? (.ref x) "__class__") Q E ⟨h,g,d,t,os⟩:=by
 unfold getAttr? getAttrBy?
 repeat (any_goals (first | assumption | with_reducible apply rN X Z hx hc | wp_step))
theorem uV (Z:e7 K C):KitX K (.ref x) (.ref C) (vW x C) where
 ty:=fun M h _ p=>by obtain ⟨o,_,hx,hc,_⟩:=p;exact hc▸(Looks.ld hx).andThen .now
 it:=fun _ _ X _=>by
  have z0:=Z.cl
  unfold clsIn at z0;split at z0
  ·rename_i c' d' cd' sl' ho
   intro A' Q' E' s' k q
   unfold isType loadHead;exact MN (wpAny_loadPart (k _ _ (X _ _ ho)) (MO q))
  ·cases z0
 ne:=fun h tp dd its n sl X htp=>by
  have z0:=Z.cl
  refine Bool.eq_false_iff.mpr fun q=>?_
  have e:C=tp:=Value.ref.inj (beq_iff_eq.mp q)
  subst e;unfold clsIn at z0;split at z0
  ·rename_i c' d' cd' sl' ho
   have z:=(X _ _ ho).symm.trans htp
   cases z
  ·cases z0
 ca:=fun {_ _ _ _ _ s} X p k=>by
  obtain ⟨h,g,d,t,os⟩:=s;obtain ⟨o,_,hx,hc,_⟩:=p;exact me X Z hx hc k
end
theorem rd {prog:Program} {w:World} {A:Around} {E:Value->Shared->Prop} {K:Fg} {x C D:Addr} {s:Shared} {o:Obj} {Q:Bool->Shared->Prop} {b:Bool} (X:K.In s.heap) (hx:s.heap.get? x=some o) (hc:o.cls=.ref C) (e1:PySem.W.typeIn K (.ref D)=some (.type "type")) (Z:e7 K D) (e3:PySem.W.subIn K (.ref C) (.ref D)=some b) (hq:Q b s) :
  wpAny (model prog w) A (excMatches (.ref x) (.ref D)) Q E s:=by
 obtain ⟨h,g,d,t,os⟩:=s;have LT:Looks (model prog w) h (typeOf (.ref x)) (.ref C):=hc▸(Looks.ld hx).andThen .now
 have LD:Looks (model prog w) h (typeOf (.ref D)) (.type "type"):=looks_typeIn X e1
 have LB:Looks (model prog w) h (isSubtype (.ref D) (.type "BaseException")) true:=looks_mroIn X Z.be
 have LS:Looks (model prog w) h (isSubtype (.ref C) (.ref D)) b:=looks_subIn X e3
 have LY:Looks (model prog w) h (isType (.ref D)) true:=by
  have z0:=Z.cl
  unfold clsIn at z0;split at z0
  ·rename_i c' d' cd' sl' ho
   intro A' Q' E' s' k q
   unfold isType loadHead;exact MN (wpAny_loadPart (k _ _ (X _ _ ho)) (MO q))
  ·cases z0
 have f:=tc_notTuple
 unfold excMatches;refine MN (MN (LD.at ?_))
 repeat (any_goals (first | with_reducible refine LY.at ?_ | with_reducible refine LB.at ?_ | with_reducible refine LT.at ?_ | with_reducible refine LS.at ?_ | wp_step))
 first
  | exact hq
  | (cases b<;>(wp_walk;exact hq))
end T
namespace T
open PySem PySem.Spec L2
open PyProof.Rows hiding St
section
variable {X:Cx} {pins:List (Addr×Obj)} {σ:St} {H H':Hp} {s s':Shared} {C a:Addr} {M:Model} {A:Around} {E:Value->Shared->Prop}
theorem yg {i:Nat} {x:Str} {pos:Pos} {Q:Unit->Shared->Prop} (I:Inv X pins σ H s) (hN:X.N.Nodup) (hi:X.N[i]?=some x) (hk:X.env.scope.names.lookup x=some .local)
  (h:∀s',Inv X pins (σ.set i none) H s'->Q () s'):wpAny M A (do bindName X.env x .none;unbindBehindTheSuite X.env x pos) Q E s:=by
 obtain ⟨m,hn,hl⟩:=id I.loc;have hcls:(X.env.scope.kind==.class||(X.env.scope.kind==.module&&X.env.locals != X.env.globals))=false:=by rw [I.ok.kind];rfl
 have hiσ:i<σ.length:=by rw [I.len];exact (MM hi).1
 have cne:=I.cne
 refine wpAny_nameGoes_keeps hk hn hcls fun h' v hn' hs=>?_
 obtain ⟨oL,_,_,hoL,_⟩:=id hn;refine h _ ⟨I.ok,I.os,I.bare,⟨fun b o e n hb hx=>?_,fun b o e n hb hx=>?_,I.base.free,fun b o e hx=>?_,I.base.tups,I.base.frzs,I.base.tbls⟩,⟨_,hn',fun j y v' e1 e2 e3=>?_⟩,fun y c e=>?_,I.free,I.freeC,fun p hp=>?_,fun b ob e=>?_,by simpa using I.len⟩
 ·exact (hs.2 b (Nat.ne_of_lt (Nat.lt_of_lt_of_le (Heap.lt_size e) I.ok.above))).trans (I.base.keep b o e n hb hx)
 ·obtain ⟨sl,e1⟩:=I.base.slot b o e n hb hx
  exact ⟨sl,(hs.2 b (Nat.ne_of_lt (Nat.lt_of_lt_of_le (Heap.lt_size e) I.ok.above))).trans e1⟩
 ·obtain ⟨o',e1⟩:=I.base.there b o e hx
  exact ⟨o',(hs.2 b (Nat.ne_of_lt (Nat.lt_of_lt_of_le (Heap.lt_size e) I.ok.above))).trans e1⟩
 ·by_cases hj:j=i
  ·subst hj
   rw [getElem?_set_self hiσ] at e2
   cases e2
  ·rw [getElem?_set_ne (Ne.symm hj)] at e2
   obtain ⟨u',r',q⟩:=hl j y v' e1 e2 e3
   refine ⟨u',r',?_⟩
   rcases q with ⟨k,e⟩ | ⟨k,c,e,z⟩
   ·refine .inl ⟨k,?_⟩
    have:y≠x:=fun e=>hj (IG hN e1 (e▸hi))
    simp [this,e]
   ·exact .inr ⟨k,c,e,z.sameBut hs (cne y c e)⟩
 ·obtain ⟨w',z⟩:=I.cell y c e
  exact ⟨w',z.sameBut hs (cne y c e)⟩
 ·obtain ⟨e,n,ne,nf,d⟩:=I.pin p hp
  exact ⟨(hs.2 p.1 ne).trans e,n,ne,nf,d⟩
 ·refine (I.hok b ob e).stay (fun c w' hc q=>(hs.2 c ?_).trans q) (fun _ q=>q) fun _ _ q=>q
  rintro rfl
  rcases hc with rfl | hc
  ·rw [I.free] at e;cases e
  ·rw [I.free] at hc;cases hc
theorem qZ {Q:Unit->Shared->Prop} (I:Inv X pins σ H s) (hst:X.stack=X.env::X.outer) (hf:X.env.frame=some X.env.locals) (hA:A.frames=some X.stack) (f:C1 X.prog X.w X.stack H s H' C a s')
  (hQ:∀h2 B a0,Heap.FlyingW B X.stack a (.ref C) a0 h2->H' a=none->a∉fI X.stack->(∀h3,Heap.FlyingW B X.stack a (.ref C) a0 h3->h2.UpToSlots h3->Inv X pins σ H' { s' with heap:=h3 })->Q () { s' with heap:=h2 }) :
  wpAny M A (noteFrame (.ref a) X.env) (fun _ s2=>wpAny M A (setFlight (.ref a) none) Q E s2) E s':=by
 have os:=f.os
 have bare:=f.bare
 obtain ⟨os',bare',un,hok,B,a0,fl,c1,c2⟩:=id f;have hn:∀b:Addr,b∉([]:List Addr):=fun b z=>nomatch z
 have keepB:∀h3,B.StaysIn h3->∀b o u,B.get? b=some u->s'.heap.get? b=some o->h3.get? b=some o:=fun h3 st b o u e1 e2=>by
  have e3:=fl.1 b u e1
  rw [e2] at e3
  cases e3;exact st b o e1
 have go:∀h3,B.StaysIn h3->h3.FunFrames B X.stack->s'.heap.UpToSlots h3->Un (fI X.stack) [] H H' s.heap h3/\HOk X.prog X.w H' h3:=fun h3 st ff up=>by
  refine ⟨⟨fun b o q n hb _=>?_,fun b o q n hb _=>?_,un.free,fun b o q _=>?_,un.tups,un.frzs,un.tbls⟩,fun b o e=>?_⟩
  ·obtain ⟨u,e⟩:=c2 b o q hb
   exact keepB h3 st b o u e (un.keep b o q n hb (hn b))
  ·obtain ⟨sl2,q2⟩:=un.slot b o q n hb (hn b)
   obtain ⟨_,o',e,d⟩:=fl.2.2.1.mem hb;rw [q2] at e
   cases e;obtain ⟨sl3,q3⟩:=up b _ q2 d;exact ⟨sl3,q3⟩
  ·by_cases hb:b∈fI X.stack
   ·obtain ⟨_,o',e,_⟩:=ff.mem hb
    exact ⟨o',e⟩
   ·obtain ⟨u,e⟩:=c2 b o q hb
    exact ⟨u,st b u e⟩
  ·refine (hok b o e).stay (fun c u hc q=>?_) (fun _ q=>q) fun _ _ q=>q
   have hc':∃o',H' c=some o':=by
    rcases hc with z | z
    ·exact ⟨o,by rw [z];exact e⟩
    ·exact ⟨_,z⟩
   obtain ⟨o',z⟩:=hc'
   obtain ⟨v,e1⟩:=c1 c o' z
   exact keepB h3 st c u v e1 q
 have hHa:H' a=none:=by
  cases e:H' a with
  | none=>rfl
  | some o=>
   obtain ⟨u,e1⟩:=c1 a o e;rw [fl.2.1] at e1
   cases e1
 have haf:a∉fI X.stack:=fun z=>by
  obtain ⟨_,o',e,d⟩:=fl.2.2.1.mem z;obtain ⟨oe,vs,_,_,_,he,_,hd,_⟩:=fl.2.2.2;rw [he] at e
  cases e;exact d vs hd
 refine wpAny_looks_onW (by rw [hA,hst]) hf (by rw [<-hst];exact fl) fun h1 hh1 up1=>?_
 refine wpAny_landsW hh1 fun h2 fl2 up2=>hQ h2 B a0 (by rw [hst];exact fl2) hHa haf fun h3 fl3 up3=>?_
 obtain ⟨un3,hok3⟩:=go h3 fl3.1 fl3.2.2.1 ((up1.trans up2).trans up3);exact I.call' (s':={ s' with heap:=h3 }) (ch:=[]) os un3 hok3 bare (fun b z=>absurd z (by simp))
end
def wq (X:Cx) (pins:List (Addr×Obj)) (a:Addr) (oe:Obj):Cx:={ X with A:=X.A.mark (some (.ref a)),calm:=false,pn:=(X.pn++pins)++[(a,oe)],xe:=fun _ _=>False }
section
variable {X:Cx} {pins:List (Addr×Obj)} {σ:St} {H:Hp} {s:Shared} {a:Addr} {oe:Obj}
theorem yb (I:Inv X pins σ H s) (hx:s.heap.get? a=some oe) (hH:H a=none) (hl:a≠X.env.locals) (hf:a∉X.fs) (hd:∀v,oe.data≠.cell v):Inv (wq X pins a oe) [] σ H s:=
 ⟨⟨I.ok.mod,I.ok.kind,I.ok.glob,I.ok.blt,I.ok.above,I.ok.inj,I.ok.has,I.ok.cab,fun z=>(nomatch z),I.ok.frames,I.ok.stk,I.ok.exf,I.ok.bs,I.ok.bsz,I.ok.noex,I.ok.exfs,I.ok.funs,I.ok.frf⟩,I.os,I.bare,I.base,I.loc,I.cell,I.free,I.freeC,fun p hp=>by
  have hp:p∈((X.pn++pins)++[(a,oe)])++[]:=hp
  rw [append_nil] at hp;rcases MG hp with z | z
  ·exact I.pin p z
  ·cases List.mem_singleton.mp z
   exact ⟨hx,hH,hl,hf,hd⟩,I.hok,I.len⟩
theorem yc (ok:X.Ok) (I:Inv (wq X pins a oe) [] σ H s):Inv X pins σ H s:=
 ⟨ok,I.os,I.bare,I.base,I.loc,I.cell,I.free,I.freeC,fun p hp=>I.pin p (MF _ (MF _ hp)),I.hok,I.len⟩
end
def zB:Option (Option PV)->Bool
 | some none=>true
 | _=>false
theorem u3 {Γ:Ev} {j:Nat} (h:zB Γ[j]?=true):∀p,Γ[j]?≠some (some p):=fun p z=>by rw [z] at h;cases h
def wL (cl:List Str) (ie:Nat) (k:Str->FS) (c:Str):FS:=fun Γ=>if cl.contains c&&zB Γ[ie]? then (match k c Γ with
 | .nx Γ'=>if zB Γ'[ie]? then .nx Γ' else .no
 | _=>.no) else .no
def kI (cl:List Str) (ie:Nat) (g:FS) (k:Str->FS):FS:=fun Γ=>match g Γ with
 | .er c Γ'=>wL cl ie k c Γ'
 | o=>o
def wT (mg:Str->Option Value) (W:Addr->St->Hp->Prop):XW:=fun c σ H'=>∀C,mg c=some (.ref C)->W C σ H'
def kf (i:Nat) (a:Addr) (σ:St):Prop:=σ[i]?=some (some (.ref a))
def JE (φ:St->Prop) (t:TS):TS:=fun D σ H=>φ σ/\t D σ H
def tG (φ:St->Prop) (t:TE):TE:=fun σ H Q=>φ σ/\t σ H Q
theorem JA {X:Cx} {pins:List (Addr×Obj)} {W:Addr->St->Hp->Prop}:FW (dY X pins W) (wT X.mg W):=
 ⟨fun σ=>fun u _ H'=>∃C,u=.ref C/\W C σ H',jW,fun c σ H' C h hC=>⟨C,rfl,h C hC⟩⟩
structure zN (K:Fg) (D:Addr):Prop where
 ty:PySem.W.typeIn K (.ref D)=some (.type "type")
 ex:e7 K D
theorem Bs {X:Cx} {N gl:List Str} {vs cs ls lo gs:List Nat} (S:Cp X N gl vs cs ls lo gs) {body:List Stmt} {g:FS} {k:Str->FS} {cl:List Str} {en hn:Str} {ie j:Nat} {np hpos pos:Pos} {suite:Stmt} {D:Addr}
  (hst:X.stack=X.env::X.outer) (hf:X.env.frame=some X.env.locals) (hie:N[ie]?=some en) (hel:lo.contains ie=true) (hj:gl[j]?=some hn) (hg:gs.contains j=true) (hD:X.mg hn=some (.ref D)) (hDc:zN X.K D)
  (hc:∀c∈cl,∀C,X.mg c=some (.ref C)->PySem.W.subIn X.K (.ref C) (.ref D)=some true)
  (hb:∀(pins:List (Addr×Obj)) (W:Addr->St->Hp->Prop),PSs (dY X pins W) body (tS X.K (wT X.mg W) g))
  (hh:∀(pins:List (Addr×Obj)) (a C:Addr) (oe:Obj) (c:Str),c∈cl->X.mg c=some (.ref C)->oe.cls=.ref C->(∃vs,oe.data=.fields vs)->PSs (wq X pins a oe) [suite] (JE (kf ie a) (tS X.K W0 (k c)))) :
  PS X (.Try body [.ExceptHandler (some (.Name hn np)) (some en) [suite] hpos] [] [] pos) (tS X.K W0 (kI cl ie g k)):=by
 intro pins s σ H D0 I h;obtain ⟨He,O,Fs,Γ,E,h⟩:=h;refine wpAny_Try_except ?_
 let W:Addr->St->Hp->Prop:=fun C σ' H'=>∃c Γ' Fs',X.mg c=some (.ref C)/\EnvOk X.K He O Fs' H' σ' Γ'/\mz X.K W0 He O D0 (wL cl ie k c Γ')
 have I':Inv X (pins++[]) σ H s:=by rw [append_nil];exact I
 have hw:mz X.K (wT X.mg W) He O D0 (g Γ):=by
  unfold kI at h
  cases e:g Γ with
  | nx Γ'=>rw [e] at h;exact h
  | bk Γ'=>rw [e] at h;exact h
  | ct Γ'=>rw [e] at h;exact h
  | rt p=>rw [e] at h;exact h
  | no=>rw [e] at h;exact h
  | er c Γ'=>rw [e] at h;exact fun σ' H' Fs' E' C hC=>⟨c,Γ',Fs',hC,E',h⟩
 refine wpAny_mono (hb pins W [] s σ H D0 (u9 I') ⟨He,O,Fs,Γ,E,hw⟩) (fun f s1 h1=>?_) fun e s1 h1=>?_
 ·have back:∀{σ' H'},Inv (dY X pins W) [] σ' H' s1->Inv X pins σ' H' s1:=fun {σ' H'} J=>by have:=lC J;rwa [append_nil] at this
  cases f with
  | next=>
   obtain ⟨σ',H',J,q⟩:=h1;exact bx (GA pins s1 σ' H' D0 (back J) q) fun _ _ z=>z
  | brk=>obtain ⟨σ',H',J,q⟩:=h1;exact ⟨σ',H',back J,q⟩
  | cont=>obtain ⟨σ',H',J,q⟩:=h1;exact ⟨σ',H',back J,q⟩
  | ret u=>obtain ⟨v,σ',H',J,r,q⟩:=h1;exact ⟨v,σ',H',back J,r,q⟩
 ·obtain ⟨ps,σ1,H1,H',s0,a,C,rfl,J,fl,c,Γ',Fs',hC,E',hW⟩:=h1
  refine qZ (T.Inv.less J) hst hf I.ok.frames fl fun h2 B a0 fl2 hHa haf go=>?_
  have I2:=go h2 fl2 (Heap.UpToSlots.refl h2)
  unfold wL at hW
  cases hcl:(cl.contains c&&zB Γ'[ie]?) with
  | false=>rw [hcl] at hW;exact hW.elim
  | true=>
   rw [hcl] at hW;simp only [Bool.and_eq_true] at hcl
   have hcm:c∈cl:=by simpa using hcl.1
   have hnm:=S.g hj hg
   obtain ⟨oe2,he2,hc2⟩:=fl2.there;refine wpAny_handleBy_cons (codeAny_handlers_test (Calls.Name_function_global I2.ok.kind hnm.1 (Calls.loadGlobal_global (by rw [I2.ok.glob];exact I2.mod.glob.keeps I2.bk) hD ?_) hnm.2.1)) (by intro q;cases q)
   refine rd I2.kIn he2 hc2 hDc.ty hDc.ex (hc c hcm C hC) ?_
   refine codeAny_handlers_suite_as ?_
   refine lands_againW fl2 fun h3 fl3 up3=>?_
   have I3:=go h3 fl3 up3
   obtain ⟨oe,vs,_,_,_,he,⟨hcls,_⟩,hd,_⟩:=fl3.2.2.2;have hal:a≠X.env.locals:=fun z=>haf (by rw [hst];exact List.mem_filterMap.mpr ⟨X.env,mem_cons_self,by rw [z];exact hf⟩)
   have hafs:a∉X.fs:=fun z=>haf (by rw [hst];obtain ⟨en,h1,h2⟩:=List.mem_filterMap.mp z;exact List.mem_filterMap.mpr ⟨en,MK _ h1,h2⟩)
   have I4:Inv (wq X pins a oe) [] σ1 H' { s1 with heap:=h3 }:=yb I3 he hHa hal hafs fun v z=>by rw [hd] at z;cases z
   have hlo:=S.loo ie en hie hel
   have hN:X.N.Nodup:=by rw [S.hN];exact S.nd
   have hiN:X.N[ie]?=some en:=by rw [S.hN];exact hie
   refine GU (X:=wq X pins a oe) (v:=.ref a) I4 hN hiN (.inl hlo) rfl (fun s5 I5=>?_) (.inr hlo)
   have hiσ:ie<σ1.length:=by rw [I3.len];exact (MM hiN).1
   refine wpAny_mono (hh pins a C oe c hcm hC hcls ⟨vs,hd⟩ [] s5 _ H' { nx:=fun σ' H'=>D0.nx (σ'.set ie none) H',rt:=fun _ _=>False } I5 ⟨by unfold kf;exact getElem?_set_self hiσ,He,O,Fs',Γ',E'.nm (u3 hcl.2),?_⟩) (fun f s6 h6=>?_) fun _ _ z=>z.elim
   ·cases ek:k c Γ' with
    | nx Γ2=>
     rw [ek] at hW;intro σ2 H2 Fs2 E2;have hW:mz X.K W0 He O D0 (if zB Γ2[ie]? then .nx Γ2 else .no):=hW
     cases hn2:zB Γ2[ie]? with
     | false=>rw [hn2] at hW;exact hW.elim
     | true=>rw [hn2] at hW;exact hW _ H2 Fs2 (E2.nm (u3 hn2))
    | bk Γ2=>rw [ek] at hW;exact hW.elim
    | ct Γ2=>rw [ek] at hW;exact hW.elim
    | rt p=>rw [ek] at hW;exact hW.elim
    | er c2 Γ2=>rw [ek] at hW;exact hW.elim
    | no=>rw [ek] at hW;exact hW.elim
   ·cases f with
    | next=>
     obtain ⟨σ2,H2,J2,q⟩:=h6;exact yg (yc I2.ok J2) hN hiN hlo fun s7 I7=>⟨_,H2,I7,q⟩
    | brk=>obtain ⟨_,_,_,q⟩:=h6;exact q.elim
    | cont=>obtain ⟨_,_,_,q⟩:=h6;exact q.elim
    | ret u=>obtain ⟨_,_,_,_,_,q⟩:=h6;exact q.elim
section
variable {K:Fg} {W:XW} {σ:St} {H:Hp} {fa fb:F1} {c:FB}
theorem ow {Q Q':Bool->Hp->Prop} (h:tT K W c σ H Q) (i:∀b H',Q b H'->Q' b H'):tT K W c σ H Q':=by
 obtain ⟨He,O,Fs,Γ,E,h⟩:=h;refine ⟨He,O,Fs,Γ,E,?_⟩
 cases e:c Γ with
 | ok p Γ'=>rw [e] at h;exact fun H' Fs' s E' n=>i _ _ (h H' Fs' s E' n)
 | er c Γ'=>rw [e] at h;exact h
 | no=>rw [e] at h;exact h
theorem sX {Q:VK} {v:V} {d:MR} (s:Sc v d) (h:tE K W (eK d) σ H Q):Q v H:=by
 obtain ⟨He,O,Fs,Γ,E,h⟩:=h;exact Wants.scal (W:=W) h s (Same.refl _) E (fun a ha=>ha) E.ndO fun a ha=>.inl ha
end
def ze (φ:St->Prop) (t:TA):TA:=fun σ H Q=>φ σ/\t σ H Q
def rZ (φ:St->Prop) (t:TT):TT:=fun σ H Q=>φ σ/\t σ H Q
def iU (X:Cx) (a C:Addr):Prop:=∀pins σ H s,Inv X pins σ H s->vW a C s.heap
def Kb (K:Fg) (a C:Addr) (cv:V) (cu:Value):List V->Hp->VK->Prop:=fun xs H Q=>∃b,xs=[.ref a,cv]/\PySem.W.kitOne K (.ref C) cu=some b/\Q (.bl b) H
section
variable {X:Cx} {N gl:List Str} {vs cs ls lo gs:List Nat} {W:XW} {φ:St->Prop} {a b c e:Expr} {es:List Expr} {pos p:Pos} {fa fb fc:F1} {fl:FL} {ga gb:FB} {g1 g2:FS}
theorem mh {x C:Addr} {cv:V} {cu:Value} (hx:iU X x C) (Z:e7 X.K C) (hr:∀u,RelV cv u->u=cu):CallR X (.builtin "isinstance") (Kb X.K x C cv cu):=by
 intro pins s σ H xs us Q I rv h;obtain ⟨b,rfl,hk,q⟩:=h;match us,rv with
 | [u,t],.cons r1 (.cons r2 .nil)=>
  cases (show u=Value.ref x from r1)
  cases hr t r2
  exact PySem.W.kia_one (uV Z) I.kIn (hx _ _ _ _ I) hk nofun fun tk=>⟨.bl b,H,I.tok tk,rfl,q⟩
theorem gu (h:PE X a (tE X.K W fa)):PE X a (tG φ (tE X.K W fa)):=aP h fun _ _ _ h=>h.2
theorem Fi {i:Nat} {x C D:Addr} {ex d:Str} {p1 p2:Pos} {bb:Bool} (S:Cp { X with calm:=true } N gl vs cs ls lo gs) (hx:iU X x C) (Z:e7 X.K C) (hk:PySem.W.kitOne X.K (.ref C) (.ref D)=some bb) (hD:X.mg d=some (.ref D)) (hmi:X.mg "isinstance"=none)
  (hN:N[i]?=some ex) (hv:vs.contains i=true) (j k:Nat) (hj:gl[j]?=some ("isinstance":Str)) (hg:gs.contains j=true) (hk2:gl[k]?=some d) (hg2:gs.contains k=true) :
  PE X (.Call (.Name "isinstance" p) [.Name ex p1,.Name d p2] [] pos) (tG (kf i x) (tE X.K W (eK (.bool bb)))):=by
 have m:=S.nm ex (mem_of_getElem? hN)
 have hvar:PE X (.Name ex p1) (bg i):=nY (by show X.N[i]?=_;rw [show X.N=N from S.hN];exact hN) (S.vis i ex hN hv) m.1 m.2
 refine aP (DL (mh (cv:=.ref D) (cu:=.ref D) hx Z fun u hu=>hu) (S.g hj hg).1 hmi fC (iY hvar (iY (o5 (v:=.ref D) (S.g hk2 hg2).1 hD rfl (S.g hk2 hg2).2.1) nX rfl) rfl) (S.g hj hg).2.2 (S.g hj hg).2.1 rfl rfl) fun σ H Q h=>?_
 exact ⟨.ref x,h.1,bb,rfl,hk,sX (.bl bb) h.2⟩
theorem Cn {i:Nat} {x C:Addr} {ex d:Str} {T:String} {p1 p2:Pos} {bb:Bool} (S:Cp { X with calm:=true } N gl vs cs ls lo gs) (hx:iU X x C) (Z:e7 X.K C) (hk:PySem.W.kitOne X.K (.ref C) (.type T)=some bb) (hD:X.mg d=none) (hb:bootBuiltins d=some (.type T)) (hmi:X.mg "isinstance"=none)
  (hN:N[i]?=some ex) (hv:vs.contains i=true) (j k:Nat) (hj:gl[j]?=some ("isinstance":Str)) (hg:gs.contains j=true) (hk2:gl[k]?=some d) (hg2:gs.contains k=true) :
  PE X (.Call (.Name "isinstance" p) [.Name ex p1,.Name d p2] [] pos) (tG (kf i x) (tE X.K W (eK (.bool bb)))):=by
 have m:=S.nm ex (mem_of_getElem? hN)
 have hvar:PE X (.Name ex p1) (bg i):=nY (by show X.N[i]?=_;rw [show X.N=N from S.hN];exact hN) (S.vis i ex hN hv) m.1 m.2
 refine aP (DL (mh (cv:=.ty T) (cu:=.type T) hx Z fun u hu=>hu) (S.g hj hg).1 hmi fC (iY hvar (iY (xG (v:=.ty T) (S.g hk2 hg2).1 hD hb rfl (S.g hk2 hg2).2.2 (S.g hk2 hg2).2.1) nX rfl) rfl) (S.g hj hg).2.2 (S.g hj hg).2.1 rfl rfl) fun σ H Q h=>?_
 exact ⟨.ref x,h.1,bb,rfl,hk,sX (.bl bb) h.2⟩
theorem Fh:PA X [] (ze φ (tA X.K W ag)):=pM da_nil fun _ _ _ h=>h.2
theorem Co (ha:PE X e (tG φ (tE X.K W fa))) (hr:PA X es (ze φ (tA X.K W fl))) (hs:starEach (e::es) X.env=(false,eval e X.env)::starEach es X.env:=by exact dh rfl):PA X (e::es) (ze φ (tA X.K W (ae fa fl))):=
 pM (iY ha hr hs) fun σ H Q h=>⟨h.1,DI (oN h.2) fun v H1 q=>⟨h.1,q⟩⟩
theorem Cm (s:Sh) (h:PA X es (ze φ (tA X.K W fl))):PE X (.List es pos) (tG φ (tE X.K W (av s fl))):=aP (HU h) fun σ H Q h=>⟨h.1,oM h.2⟩
theorem Fj (ha:PE X a (tG φ (tE X.K W fa))) (hb:PE X b (tG φ (tE X.K W fb))):PE X (.BinOp a .Add b pos) (tG φ (tE X.K W (bz fa fb))):=
 aP (fm o8 ha hb) fun σ H Q h=>⟨h.1,DI (t5 h.2) fun v H1 q=>⟨h.1,q⟩⟩
theorem Ff (S:Cp { X with calm:=true } N gl vs cs ls lo gs) (i:Nat) {x:Str} (hN:N[i]?=some x) (hv:vs.contains i=true):PE X (.Name x pos) (tE X.K W (af i)):=by
 have m:=S.nm x (mem_of_getElem? hN)
 exact vA (nY (by show X.N[i]?=_;rw [show X.N=N from S.hN];exact hN) (S.vis i x hN hv) m.1 m.2)
theorem B9 (ha:PE X a (tG φ (tE X.K W fa))) (he:∀whole,isTrue a X.env whole=(do let v <-whole;standAt a.pos;holding [v] (truthy v)):=by intro _;rfl):PT X a (rZ φ (tT X.K W (aO ba fa))):=jC (II ha he) fun σ H Q h=>⟨h.1,tP h.2⟩
theorem Cb (ha:PT X a (rZ φ (tT X.K W ga))):PT X (.UnaryOp .Not a pos) (rZ φ (tT X.K W (bU ga))):=jC (uj ha) fun σ H Q h=>⟨h.1,oO h.2⟩
theorem Ca (ha:PT X a (tT X.K W ga)) (hb:PT X b (rZ φ (tT X.K W gb))):PT X (.BoolOp .Or [a,b] pos) (rZ φ (tT X.K W (ke ga gb))):=
 PW.pt (vU (zt ha (uh hb)) fun σ H Q h=>ow (t8 h.2) fun c H1 q=>by
  cases c with
  | true=>exact q
  | false=>exact gk ⟨h.1,by simpa using q⟩)
def tZ (i:Nat) (x:Addr) (K:Fg) (W:XW) (g:FS):TS:=fun D σ H=>kf i x σ/\tN [i] K W g D σ H
theorem Dr {i:Nat} {x:Addr} {st:Stmt} {g:FS} (h:PS X st (tZ i x X.K W g)):PSs X [st] (tZ i x X.K W g):=v9 h
theorem Dt {i:Nat} {x:Addr}:PSs X [] (tZ i x X.K W aN):=Gg GA fun _ _ _ h=>tV h.2
theorem zO {i:Nat} {x:Addr} {st:Stmt} {rest:List Stmt} (h1:PS X st (tZ i x X.K W g1)) (h2:PSs X rest (tZ i x X.K W g2)):PSs X (st::rest) (tZ i x X.K W (ay g1 g2)):=
 Gg (og h1 h2) fun D σ H h=>by
  refine ⟨h.1,?_⟩
  have q:=xb h.2
  refine ox (D':=nD [i] { D with nx:=tZ i x X.K W g2 D } σ) q (fun σ1 H1 z a=>⟨?_,z a⟩) rfl rfl rfl
  unfold kf;rw [a i (List.mem_singleton.mpr rfl)];exact h.1
theorem Dp {i k:Nat} {x:Addr} {y:Str} {pos':Pos} (S:Cp { X with calm:=true } N gl vs cs ls lo gs) (hki:(k==i)=false) (hk:N[k]?=some y) (hl:ls.contains k=true) (ha:PE X a (tG (kf i x) (tE X.K W fa))) (hs:swapsWith a (some (.Name y pos')) pos.line X.env=pure false:=by rfl):PS X (.Assign [.Name y pos'] a pos) (tZ i x X.K W (az false k fa)):=
 cN (zT (by show X.N.Nodup;rw [show X.N=N from S.hN];exact S.nd) (by show X.N[k]?=_;rw [show X.N=N from S.hN];exact hk) (S.loc k y hk hl).1 ha hs (S.loc k y hk hl).2) fun D σ H h=>⟨h.1,w9 (by simpa using hki) h.2⟩
theorem HL {i:Nat} {x:Addr} {A B:List Stmt} (hc:PT X c (rZ (kf i x) (tT X.K W ga))) (ha:PSs X A (tZ i x X.K W g1)) (hb:PSs X B (tZ i x X.K W g2)):PS X (.If c A B pos) (tZ i x X.K W (b6 ga g1 g2)):=
 cN (uq hc ha hb) fun D σ H h=>⟨h.1,ow (A9 h.2) fun b H1 q=>by
  cases b with
  | true=>exact ⟨h.1,q⟩
  | false=>exact gk ⟨h.1,by simpa using q⟩⟩
theorem Dq {i:Nat} {x:Addr} (ha:PE X a (tG (kf i x) (tE X.K W fa))):PS X (.Return (some a) pos) (tZ i x X.K W (aU fa)):=cN (DB ha) fun D σ H h=>⟨h.1,tR (D:=nD [i] D σ) h.2⟩
end
theorem IA:∀{ns:List Bool} {us:List Value},Vals (ns.map V.bl) us->us=ns.map Value.bool
 | [],_,.nil=>rfl
 | n::ns,_,.cons r t=>by
  cases (show _=Value.bool n from r)
  rw [IA t];rfl
def u2:Value->Bool
 | .bool b=>b==true
 | _=>false
theorem jm (b:Bool):u2 (.bool b)=b:=by cases b<;>rfl
def Bp (K:Fg):V->List V->Hp->VK->Prop:=fun x xs H Q=>∃(l:Addr) (ns:List Bool),x=.ref l/\xs=[.bl true]/\SqL K H l (ns.map V.bl)/\Q (.int (ns.count true:Nat)) H
def Bl (K:Fg):V->List V->Hp->VK->Prop:=fun x xs H Q=>∃(l:Addr) (ns:List Bool) (j:Nat),x=.ref l/\xs=[.bl true]/\SqL K H l (ns.map V.bl)/\ns[j]?=some true/\(∀m,m<j->ns[m]?≠some true)/\Q (.int j) H
theorem qP {X:Cx}:Do X "list.count" (Bp X.K):=by
 intro pins s σ H x xs v us Q I rx rv h;obtain ⟨l,ns,rfl,rfl,hS,q⟩:=h
 cases rx;obtain ⟨u,rfl,ru⟩:=rv.one
 cases (show u=Value.bool true from ru)
 obtain ⟨its,r,pl,hz⟩:=I.list hS;have hI:=IA r
 subst hI;obtain ⟨o,n,ho,hc,hd,hdt⟩:=pl;obtain ⟨ocls,odict,odata,oslots⟩:=o;simp only at hc hd hdt
 subst hc hd hdt;refine call_meets F.slot_list_count ⟨_,ho,rfl⟩ F.entry_list_count (F.args_list_count_2 _ _) (SeqAt.list_countAt l (ns.map Value.bool).toArray n none oslots (.bool true) u2) ⟨ho,fun y hy=>?_,?_⟩
 ·obtain ⟨b,_,rfl⟩:=List.mem_map.mp (show y∈ns.map Value.bool by exact Array.mem_def.mp hy)
  exact SeqAt.EqAt.bool_bool b true
 ·have e:(ns.map Value.bool).toArray.toList.countP u2=ns.count true:=by
   show (ns.map Value.bool).countP u2=_
   rw [List.countP_map];unfold List.count;congr 1
  rw [e];exact ⟨.int (ns.count true:Nat),H,I.tok _,⟨_,rfl⟩,q⟩
theorem qO {X:Cx}:Do X "list.index" (Bl X.K):=by
 intro pins s σ H x xs v us Q I rx rv h;obtain ⟨l,ns,j,rfl,rfl,hS,hj,hno,q⟩:=h
 cases rx;obtain ⟨u,rfl,ru⟩:=rv.one
 cases (show u=Value.bool true from ru)
 obtain ⟨its,r,pl,hz⟩:=I.list hS;have hI:=IA r
 subst hI;have hjl:j<(ns.map Value.bool).toArray.size:=by rw [size_toArray,length_map];exact (MM hj).1
 obtain ⟨o,n,ho,hc,hd,hdt⟩:=pl;obtain ⟨ocls,odict,odata,oslots⟩:=o;simp only at hc hd hdt
 subst hc hd hdt;have hsm:(j:Int)<2 ^ 63-1:=by
  rw [length_map] at hz;have h1:sizeLine<2 ^ 62:=by decide
  have:=(MM hj).1
  omega
 refine call_meets F.slot_list_index ⟨_,ho,rfl⟩ F.entry_list_index (F.args_list_index_2 _ _) (SeqAt.list_indexAt l (ns.map Value.bool).toArray n none oslots (.bool true) u2 j hjl hsm ?_ fun m hm hmj=>?_) ⟨ho,fun y hy=>?_,⟨.int j,H,I.tok _,⟨_,rfl⟩,q⟩⟩
 ·rw [List.getElem_toArray,List.getElem_map,jm]
  obtain ⟨hl,e⟩:=MM hj
  exact e
 ·rw [List.getElem_toArray,List.getElem_map,jm]
  have hml:m<ns.length:=by rw [size_toArray,length_map] at hm;exact hm
  have:=hno m hmj
  rw [MI hml] at this
  cases e:ns[m] with
  | false=>rfl
  | true=>rw [e] at this;exact absurd rfl this
 ·obtain ⟨b,_,rfl⟩:=List.mem_map.mp (show y∈ns.map Value.bool by exact Array.mem_def.mp hy)
  exact SeqAt.EqAt.bool_bool b true
def Dm:List Bool->Option Nat
 | []=>none
 | n::r=>if n then some 0 else (Dm r).map (·+1)
theorem uY:∀{ns:List Bool} {j:Nat},Dm ns=some j->ns[j]?=some true/\∀m,m<j->ns[m]?≠some true
 | [],_,h=>by cases h
 | n::r,j,h=>by
  unfold Dm at h
  cases n with
  | true=>cases h;exact ⟨rfl,fun m hm=>by omega⟩
  | false=>
   cases hr:Dm r with
   | none=>rw [hr] at h;cases h
   | some j'=>
    rw [hr] at h
    cases h;obtain ⟨h1,h2⟩:=uY hr;refine ⟨by simpa using h1,fun m hm=>?_⟩
    cases m with
    | zero=>simp
    | succ m=>simpa using h2 m (by have:m+1<j'+1:=hm;omega)
def rj (i:Nat):F1:=fun Γ=>match Γ[i]? with
 | some (some ⟨.leaf,.list ds⟩)=>(match mG ds with
  | some ns=>.ok ⟨.leaf,.int (ns.count true:Nat)⟩ Γ
  | none=>.no)
 | _=>.no
def rh (i:Nat):F1:=fun Γ=>match Γ[i]? with
 | some (some ⟨.leaf,.list ds⟩)=>(match mG ds with
  | some ns=>(match Dm ns with
   | some j=>.ok ⟨.leaf,.int (j:Nat)⟩ Γ
   | none=>.no)
  | none=>.no)
 | _=>.no
section
variable {K:Fg} {W:XW} {σ:St} {H:Hp} {Q:VK}
theorem Bf {i:Nat} (h:tE K W (rj i) σ H Q):zg K "list" (Bp K) (bg i) (cH (tC (.bl true)) fD) σ H Q:=by
 obtain ⟨He,O,Fs,Γ,E,h⟩:=h;have h:Wants K W He O Fs H σ Q (rj i Γ):=h
 unfold rj at h;split at h
 ·rename_i ds e0
  obtain ⟨l,vs,h1,h2,h3⟩:=Gv E e0;refine ⟨.ref l,h1,.inl ⟨rfl,vs,h2⟩,?_⟩
  cases hi:mG ds with
  | none=>rw [hi] at h;exact h.elim
  | some ns=>
   rw [hi] at h;rw [GZ hi] at h3;have ev:=G4 h3
   subst ev;exact ⟨l,ns,rfl,rfl,h2,h _ _ _ _ (Gu E (Same.refl _) (fun a ha=>.inl ha) (.int _))⟩
 ·exact h.elim
theorem A8 {i:Nat} (h:tE K W (rh i) σ H Q):zg K "list" (Bl K) (bg i) (cH (tC (.bl true)) fD) σ H Q:=by
 obtain ⟨He,O,Fs,Γ,E,h⟩:=h;have h:Wants K W He O Fs H σ Q (rh i Γ):=h
 unfold rh at h;split at h
 ·rename_i ds e0
  obtain ⟨l,vs,h1,h2,h3⟩:=Gv E e0;refine ⟨.ref l,h1,.inl ⟨rfl,vs,h2⟩,?_⟩
  cases hi:mG ds with
  | none=>rw [hi] at h;exact h.elim
  | some ns=>
   rw [hi] at h;dsimp only at h
   cases hj:Dm ns with
   | none=>rw [hj] at h;exact h.elim
   | some j=>
    rw [hj] at h;rw [GZ hi] at h3;have ev:=G4 h3
    subst ev;obtain ⟨a1,a2⟩:=uY hj;exact ⟨l,ns,j,rfl,rfl,h2,a1,a2,h _ _ _ _ (Gu E (Same.refl _) (fun a ha=>.inl ha) (.int _))⟩
 ·exact h.elim
end
section
variable {X:Cx} {N gl:List Str} {vs cs ls lo gs:List Nat} {W:XW} {p:Pos}
theorem CO (S:Cp { X with calm:=true } N gl vs cs ls lo gs) (i:Nat) {x:Str} {kb:Nat} {apos cpos bp:Pos} (hi:N[i]?=some x) (hv:vs.contains i=true) (hbase:attributeBase (.Name x p) "count" X.env (eval (.Name x p) X.env)=eval (.Name x p) X.env:=by rfl) (hline:(apos.endLine==cpos.line)=true:=by rfl) :
  PE X (.Call (.Attribute (.Name x p) "count" apos) [.Constant (.bool true) kb bp] [] cpos) (tE X.K W (rj i)):=by
 have m:=S.nm x (mem_of_getElem? hi)
 exact aP (jd (T := "list") (r:=Bp X.K) F.plainAttrs_list F.slot_list_count F.type_list_count qP (nY (by show X.N[i]?=_;rw [show X.N=N from S.hN];exact hi) (S.vis i x hi hv) m.1 m.2) (iY kU nX rfl) hbase rfl hline rfl rfl) fun _ _ _=>Bf
theorem CM (S:Cp { X with calm:=true } N gl vs cs ls lo gs) (i:Nat) {x:Str} {kb:Nat} {apos cpos bp:Pos} (hi:N[i]?=some x) (hv:vs.contains i=true) (hbase:attributeBase (.Name x p) "index" X.env (eval (.Name x p) X.env)=eval (.Name x p) X.env:=by rfl) (hline:(apos.endLine==cpos.line)=true:=by rfl) :
  PE X (.Call (.Attribute (.Name x p) "index" apos) [.Constant (.bool true) kb bp] [] cpos) (tE X.K W (rh i)):=by
 have m:=S.nm x (mem_of_getElem? hi)
 exact aP (jd (T := "list") (r:=Bl X.K) F.plainAttrs_list F.slot_list_index F.type_list_index qO (nY (by show X.N[i]?=_;rw [show X.N=N from S.hN];exact hi) (S.vis i x hi hv) m.1 m.2) (iY kU nX rfl) hbase rfl hline rfl rfl) fun _ _ _=>A8
end
structure RoomH (k:Nat) (A:Around):Prop where
 dp:A.depth+3*k+5<recursionLimit
 un:A.units+16*k+200<cLine
 gd:A.guards=some []
theorem Room.mark {k:Nat} {A:Around} (r:Room k A) (v:Option Value):RoomH k (A.mark v):=⟨r.dp,r.un,r.gd⟩
theorem RoomH.mono {j k:Nat} {A:Around} (r:RoomH k A) (h:j<=k):RoomH j A:=⟨by have:=r.dp;omega,by have:=r.un;omega,r.gd⟩
theorem RoomH.deeper {k:Nat} {A:Around} (r:RoomH (k+1) A) (env:Env):RoomH k (A.deeper env):=
 ⟨by have:=r.dp;show A.depth+1+3*k+5<_;omega,by have:=r.un;show A.units+3+16*k+200<_;omega,r.gd⟩
def FD (P:Program) (w:World) (K:Fg) (mg:Str->Option Value) (base:Heap) (N:List Str) (qual:Str) (scope:Scope) (f:Addr) (cd:Value) (A:Around) (outer:List Env) (s:Shared) (H:Hp):Cx:=
 { et ic P w K mg base N qual scope f cd A outer s H E0 with calm:=false,xe:=fun _ _=>False }
theorem Cw {P:Program} {w:World} {K:Fg} {mg:Str->Option Value} {base:Heap} {k:Nat} {f:Addr} {name qual:Str} {params:Arguments} {body:List Stmt} {scope:Scope} {dV kV doc pm cdv ct oc:Value} {an od:Option Addr}
  {osl:Array (Option Value)} {N ps:List Str} (lk:K.lookup f=some ⟨oc,od,.func (PySem.W.fnOf name qual params body scope dV kV doc pm an cdv ct),osl⟩) (hcd:PySem.W.codeIn K cdv qual=true) (S:bL N ps scope)
  {A:Around} {outer:List Env} {s:Shared} {H:Hp} {args:Args} {us:List Value} {vs:List V} {Q:VK} {t:TS} (hr:RoomH (k+1) A) (e0:rV P w K mg base A outer s H) (hb:BindsTo s (PySem.W.fnOf name qual params body scope dV kV doc pm an cdv ct) args (ps.zip us)) (r:Vals vs us) (hl:vs.length=ps.length)
  (ht:PSs (FD P w K mg base N qual scope f cdv A outer s H) body t) (hq:t { nx:=fun _ H'=>Q .non H',rt:=Q } (start N vs) H):codeAny (model P w) A (.call (.ref f) args) (CR ic outer P w H s Q E0) s:=by
 have KX:K.In s.heap:=e0.mod.kin.keeps fun b o e=>(e0.bs b o e).1
 have lim:s.heap.NoLimit:=e0.mod.nolimit.keeps fun b o e=>(e0.bs b o e).1
 have hkind:∀y∈ps.zip us,scope.names.lookup y.1=some .local\/(scope.names.lookup y.1=some .cell/\((cellsFrom (s.heap.objs.size+1) scope.names []).lookup y.1).isSome=true):=fun ⟨n,v⟩ hy=>by
  rcases S.par n (of_mem_zip hy).1 with q | q
  ·exact .inl q
  ·exact .inr ⟨q,PySem.W.cellsFrom_some _ _ _ (.inl q)⟩
 refine codeAny_call_function (by have:=hr.dp;omega) (KX _ _ lk) rfl S.co S.gen rfl (PySem.W.codeRec_of KX hcd) (hb _ _ _ _ ?_)
 refine wpAny_newFunctionEnv_cells S.kind hkind fun env he s1 x=>?_
 subst he;refine ⟨lim.keeps x.toInCall.keep,codeAny_func ?_⟩
 have J:Inv (et ic P w K mg base N qual scope f cdv { A with handled:=none } outer s H E0) [] (start N vs) H s1:=jn S rfl ⟨e0.frames,e0.mod,e0.bs,e0.bsz,e0.funs,e0.frf,e0.hok,e0.bare⟩ hl r x
 have I:Inv (FD P w K mg base N qual scope f cdv A outer s H) [] (start N vs) H s1:=
  ⟨⟨J.ok.mod,J.ok.kind,J.ok.glob,J.ok.blt,J.ok.above,J.ok.inj,J.ok.has,J.ok.cab,fun z=>(nomatch z),Around.frames_deeper e0.frames,J.ok.stk,J.ok.exf,J.ok.bs,J.ok.bsz,J.ok.noex,J.ok.exfs,J.ok.funs,J.ok.frf⟩,J.os,J.bare,J.base,J.loc,J.cell,J.free,J.freeC,J.pin,J.hok,J.len⟩
 refine wpAny_mono (ht [] s1 (start N vs) H _ I hq) (fun fl s' hs=>?_) fun e s' hs=>hs.elim
 have fin:∀{σ':St} {H':Hp} {v:V} {u:Value},Inv (FD P w K mg base N qual scope f cdv A outer s H) [] σ' H' s'->RelV v u->Q v H'->CE outer P w H s Q u s':=
  fun {σ' H' v u} J rv q=>⟨v,H',J.os,J.bare,J.base,J.hok,rv,q⟩
 cases fl with
 | ret u=>
  obtain ⟨v,σ',H',J,rv,q⟩:=hs;exact fin J rv q
 | next=>
  obtain ⟨σ',H',J,q⟩:=hs;exact fin (v:=V.non) (u:=Value.none) J rfl q
 | brk=>
  obtain ⟨_,_,_,q⟩:=hs;exact False.elim q
 | cont=>
  obtain ⟨_,_,_,q⟩:=hs;exact False.elim q
def CI (n:Nat) (g:FS):Res:=match g (List.replicate n none) with
 | .nx _=>.ok ⟨.leaf,.none⟩
 | .rt p=>.ok p
 | _=>.no
def KP (P:Program) (w:World) (K:Fg) (mg:Str->Option Value) (base:Heap) (k:Nat) (f:Addr) (fd:FuncData) (q:Str) (cl:List Str) (m:Str->Res):Prop:=
 ∀(A:Around) (outer:List Env) (s:Shared) (H:Hp) (a C:Addr) (c:Str) (O:List Addr) (Q:VK) (args:Args),RoomH k A->rV P w K mg base A outer s H->vW a C s.heap->H a=none->a∉fI outer->c∈cl->mg c=some (.ref C)->O.Nodup->(∀b∈O,H b≠none) ->
  (match m c with | .ok p=>∀v H' G,RetOk K H O p v H' G->Q v H' | _=>False)->BindsTo s fd args ([q].zip [.ref a])->codeAny (model P w) A (.call (.ref f) args) (CR ic outer P w H s Q E0) s
def Du (P:Program) (w:World) (K:Fg) (mg:Str->Option Value) (base:Heap) (k:Nat) (x:Str) (cl:List Str) (m:Str->Res):Prop:=
 ∃(f:Addr) (fd:FuncData) (q:Str),mg x=some (.ref f)/\PySem.W.keepIn K (.ref f)=true/\Binds K fd [q] []/\KP P w K mg base k f fd q cl m
structure InH (p:Fg->(Str->Option Value)->Prop) (X:Cx) (P:Program) (w:World) (K:Fg) (mg:Str->Option Value) (base:Heap) (k:Nat):Prop where
 e1:X.prog=P
 e2:X.w=w
 e3:X.K=K
 e4:X.mg=mg
 e5:X.base=base
 rm:RoomH k X.A
 pp:p K mg
theorem InH.r {p:Fg->(Str->Option Value)->Prop} {X:Cx} {P:Program} {w:World} {K:Fg} {mg:Str->Option Value} {base:Heap} {k:Nat} (I:InH p X P w K mg base k):Rm X:=by
 have:=I.rm.un
 unfold Rm;omega
section
variable {p:Fg->(Str->Option Value)->Prop} {P:Program} {w:World} {K:Fg} {mg:Str->Option Value} {base:Heap} {k:Nat} {x q:Str} {st:Stmt} {cl:List Str} {d:Str->FS}
theorem Mf (F:Ft K mg x st) (e:p K mg) (q:Str) (b:sg x st [q]) (rs gl:List Str) (vs cs gs:List Nat)
  (hb:∀(X:Cx) (a C:Addr) (c:Str),c∈cl->mg c=some (.ref C)->Cp { X with calm:=true } ([q]++rs) gl vs cs vs (nq vs cs) gs->InH p X P w K mg base k->iU X a C->PSs X (jD st) (tZ 0 a X.K W0 (d c)))
  (h:fB ([q]++rs) gl [q] vs cs gs st=true:=by kernel_rfl):Du P w K mg base (k+1) x cl (fun c=>CI ([q]++rs).length (d c)):=by
 obtain ⟨f,fd,hm,F⟩:=F;obtain ⟨h1,h2,h3⟩:=pE h;refine ⟨f,fd,q,hm,F.kp,zP F b,fun A outer s H a C c O Q args hr e0 hx hH haf hc hC nd inH hw hbn=>?_⟩
 obtain ⟨oc,od,kV,doc,pm,an,cdv,ct,osl,rfl,lk,hcd⟩:=F.ex;have hex:iU (FD P w K mg base ([q]++rs) x (dR st) f cdv A outer s H) a C:=fun pins σ H' s' I=>by
  obtain ⟨oe,vs,g,hc1,hd⟩:=hx;exact ⟨oe,vs,I.base.keep a oe g hH haf nofun,hc1,hd⟩
 have S:Cp { FD P w K mg base ([q]++rs) x (dR st) f cdv A outer s H with calm:=true } ([q]++rs) gl vs cs vs (nq vs cs) gs:=by
  obtain ⟨a1,b1,c1⟩:=Gq h2;have q1:=Dw h1
  exact ⟨rfl,a1,b1,c1,q1.vis,q1.cel,fun i x e hi=>⟨q1.loc i x e hi,.inl rfl⟩,q1.loo,q1.glb,rfl,q1.kind⟩
 refine Cw (k:=k) lk hcd h3 (vs:=[.ref a]) hr e0 hbn (.cons rfl .nil) rfl (hb _ a C c hc hC S ⟨rfl,rfl,rfl,rfl,rfl,hr.deeper _,e⟩ hex) ?_
 refine ⟨rfl,H,O,List.replicate ([q]++rs).length [],List.replicate ([q]++rs).length none,?_,?_⟩
 ·have fl:(List.replicate ([q]++rs).length ([]:List Addr)).flatten=[]:=by simp
  refine ⟨by simp [L2.start],by simp,Same.refl _,by rw [fl];simpa using nd,by rw [fl];simpa using inH,fun a ha=>by rw [fl] at ha;simp at ha,fun i p hp=>?_⟩
  rw [getElem?_replicate] at hp;split at hp<;>cases hp
 ·unfold CI at hw
  dsimp only at hw
  cases e:d c (List.replicate ([q]++rs).length none) with
  | nx Γ'=>
   rw [e] at hw;exact fun σ' H' Fs' E' _=>hw .non H' [] ⟨E'.same,(fun _ z=>nomatch z),(fun _ z=>nomatch z),nodup_nil,.leaf .non,rfl⟩
  | rt p=>rw [e] at hw;exact hw
  | bk Γ'=>rw [e] at hw;exact hw.elim
  | ct Γ'=>rw [e] at hw;exact hw.elim
  | er c Γ'=>rw [e] at hw;exact hw.elim
  | no=>rw [e] at hw;exact hw.elim
end
def rf (r:Res):F1:=fun Γ=>match r with
 | .ok p=>.ok p Γ
 | _=>.no
theorem Cq {X:Cx} {pins:List (Addr×Obj)} {a C:Addr} {oe:Obj} {c:Str} {N gl:List Str} {vs cs ls lo gs:List Nat} {W:XW} {ie k kk:Nat} {x en:Str} {cl:List Str} {m:Str->Res} {pos p p1:Pos} (S:Cp X N gl vs cs ls lo gs) (hst:X.stack=X.env::X.outer) (hf:X.env.frame=some X.env.locals)
  (F:Du X.prog X.w X.K X.mg X.base k x cl m) (hr:Room kk X.A) (hk:decide (k<=kk)=true) (hc:c∈cl) (hC:X.mg c=some (.ref C)) (hcl:oe.cls=.ref C) (hd:∃vs,oe.data=.fields vs) (hN:N[ie]?=some en) (hv:vs.contains ie=true) (j:Nat) (hj:gl[j]?=some x) (hg:gs.contains j=true) :
  PE (wq X pins a oe) (.Call (.Name x p) [.Name en p1] [] pos) (tG (kf ie a) (tE X.K W (rf (m c)))):=by
 obtain ⟨f,fd,q,hm,hkp,hb,run⟩:=F;have mm:=S.nm en (mem_of_getElem? hN)
 have hvar:PE (wq X pins a oe) (.Name en p1) (bg ie):=nY (by show X.N[ie]?=_;rw [S.hN];exact hN) (S.vis ie en hN hv) mm.1 mm.2
 intro pins' s σ H Q I h
 obtain ⟨h1,He,O,Fs,Γ,E,h2⟩:=h;refine wpAny_Call_Name_kw (DF I (S.g hj hg).1 hm ?_ (S.g hj hg).2.1)
 refine PySem.W.callWith_K (h₀:=X.base) I.ok.mod.kin hkp (bx (iY hvar nX rfl pos pins' s σ H (fun vs H1=>vs=[.ref a]/\H1=H) I ⟨.ref a,h1,rfl,rfl⟩) fun us s1 ⟨vs,H1,I1,r,q1,q2⟩=>⟨I1.kIn,?_⟩) (dh rfl) rfl
 subst q1 q2;obtain ⟨u,rfl,ru⟩:=r.one
 cases (show u=Value.ref a from ru)
 obtain ⟨e,n,ne,nf,dd⟩:=I1.pin (a,oe) (MF _ (ME _ (List.mem_singleton.mpr rfl)))
 have haf:a∉fI X.stack:=fun z=>by
  rw [hst] at z;obtain ⟨en',m1,m2⟩:=List.mem_filterMap.mp z;rcases MH m1 with y | y
  ·rw [y,hf] at m2
   exact ne (Option.some.inj m2).symm
  ·exact nf (List.mem_filterMap.mpr ⟨en',y,m2⟩)
 have hb2:=hb s1 [.ref a] I1.kIn rfl
 rw [append_nil] at hb2;obtain ⟨vsd,hdd⟩:=hd;refine wpAny_call (codeAny_mono (run (X.A.mark (some (.ref a))) X.stack s1 _ a C c (O++Fs.flatten) Q ⟨[.ref a],[]⟩ ((Room.mark hr _).mono (of_decide_eq_true hk)) I1.env0 ⟨oe,vsd,e,hcl,hdd⟩ n haf hc hC E.nd E.inH ?_ hb2) fun r s' hq=>?_)
 ·cases em:m c with
  | er c'=>unfold rf at h2;rw [em] at h2;exact h2.elim
  | no=>unfold rf at h2;rw [em] at h2;exact h2.elim
  | ok p=>
   unfold rf at h2;rw [em] at h2;intro v H2 G r;refine h2 v H2 G Fs ⟨r.same,E.hide r.same r.nd r.fresh r.inH,fun b hb=>?_,by rw [append_assoc];exact r.own⟩
   rcases MG hb with z | z
   ·exact .inr (r.fresh b z)
   ·exact .inl z
 ·cases r with
  | error e=>exact hq.elim
  | ok fl=>
   cases fl with
   | ret u=>exact I1.after hq
   | next=>exact False.elim hq
   | brk=>exact False.elim hq
   | cont=>exact False.elim hq
theorem Cp.hand {X:Cx} {pins:List (Addr×Obj)} {a:Addr} {oe:Obj} {N gl:List Str} {vs cs ls lo gs:List Nat} (S:Cp X N gl vs cs ls lo gs):Cp { wq X pins a oe with calm:=true } N gl vs cs ls lo gs:=⟨S.hN,S.nd,S.nm,S.ng,S.vis,S.cel,S.loc,S.loo,S.glb,rfl,S.kind⟩
theorem Cp.try {X:Cx} {pins:List (Addr×Obj)} {W:Addr->St->Hp->Prop} {N gl:List Str} {vs cs ls lo gs:List Nat} (S:Cp X N gl vs cs ls lo gs):Cp (dY X pins W) N gl vs cs ls lo gs:=⟨S.hN,S.nd,S.nm,S.ng,S.vis,S.cel,S.loc,S.loo,S.glb,S.calm,S.kind⟩
theorem In.try {p:Fg->(Str->Option Value)->Prop} {X:Cx} {P:Program} {w:World} {K:Fg} {mg:Str->Option Value} {base:Heap} {k:Nat} {pins:List (Addr×Obj)} {W:Addr->St->Hp->Prop} (I:In p X P w K mg base k):In p (dY X pins W) P w K mg base k:=⟨I.e1,I.e2,I.e3,I.e4,I.e5,I.rm,I.pp⟩
theorem Cc {X:Cx} {N gl:List Str} {vs cs ls lo gs:List Nat} {W:XW} {a:Expr} {pos pos':Pos} {fa:F1} {k:Nat} {φ:St->Prop} {y:Str} (S:Cp { X with calm:=true } N gl vs cs ls lo gs) (hk:N[k]?=some y) (hl:ls.contains k=true) (ha:PE X a (tG φ (tE X.K W fa))) (hs:swapsWith a (some (.Name y pos')) pos.line X.env=pure false:=by rfl) :
  PSs X [.Assign [.Name y pos'] a pos] (JE φ (tS X.K W (az false k fa))):=
 v9 (cN (zT (by show X.N.Nodup;rw [show X.N=N from S.hN];exact S.nd) (by show X.N[k]?=_;rw [show X.N=N from S.hN];exact hk) (S.loc k y hk hl).1 ha hs (S.loc k y hk hl).2) fun D σ H h=>⟨h.1,Gd h.2⟩)
abbrev LM:List Value:=[.type "ValueError",.type "Exception",.type "BaseException",.type "object"]
def FG (K:Fg) (D C:Addr) (c:Str) (ds:List Str):Bool:=PySem.W.excIn K C LM "ValueError.__new__"&&yk K C&&PySem.W.subIn K (.ref C) (.ref D)==some true&&PySem.W.kitOne K (.ref C) (.type "ValueError")==some true&&ds.all fun d=>match PySem.W.nsIn K mainGlobals d with
 | some (some (.ref E))=>PySem.W.kitOne K (.ref C) (.ref E)==some (d==c)
 | _=>false
def Fl (K:Fg) (cl ds:List Str):Bool:=match PySem.W.nsIn K mainGlobals "HallError" with
 | some (some (.ref D))=>PySem.W.typeIn K (.ref D)==some (.type "type")&&yk K D&&cl.all fun c=>match PySem.W.nsIn K mainGlobals c with
  | some (some (.ref C))=>FG K D C c ds
  | _=>false
 | _=>false
structure Ga (K:Fg) (mg:Str->Option Value) (D C:Addr) (c:Str) (ds:List Str):Prop where
 ns:PySem.W.nsIn K mainGlobals c=some (some (.ref C))
 gm:mg c=some (.ref C)
 ei:PySem.W.excIn K C LM "ValueError.__new__"=true
 ex:e7 K C
 sub:PySem.W.subIn K (.ref C) (.ref D)=some true
 ve:PySem.W.kitOne K (.ref C) (.type "ValueError")=some true
 is:∀d,ds.contains d=true->∃E,mg d=some (.ref E)/\PySem.W.kitOne K (.ref C) (.ref E)=some (d==c)
structure ExT (K:Fg) (mg:Str->Option Value) (cl ds:List Str):Prop where
 h:∃D,mg "HallError"=some (.ref D)/\zN K D/\∀c∈cl,∃C,Ga K mg D C c ds
theorem gx {K:Fg} {h:Heap} {mg:Str->Option Value} {cl ds:List Str} (KX:K.In h) (G:h.Ns mainGlobals mg) (z:Fl K cl ds=true):ExT K mg cl ds:=by
 unfold Fl at z;split at z
 ·rename_i D e0
  simp only [Bool.and_eq_true,beq_iff_eq,all_eq_true] at z
  obtain ⟨⟨z1,z2⟩,z3⟩:=z;refine ⟨D,PySem.W.mg_of KX G e0,⟨z1,pF z2⟩,fun c hc=>?_⟩
  have z4:=z3 c hc
  split at z4
  ·rename_i C e1
   unfold FG at z4;simp only [Bool.and_eq_true,beq_iff_eq,all_eq_true] at z4
   obtain ⟨⟨⟨⟨y1,y2⟩,y3⟩,y4⟩,y5⟩:=z4;refine ⟨C,e1,PySem.W.mg_of KX G e1,y1,pF y2,y3,y4,fun d hd=>?_⟩
   have y6:=y5 d (by simpa using hd)
   split at y6
   ·rename_i E e2
    exact ⟨E,PySem.W.mg_of KX G e2,beq_iff_eq.mp y6⟩
   ·cases y6
  ·cases z4
 ·cases z
theorem ExT.cls {K:Fg} {mg:Str->Option Value} {cl ds:List Str} (E:ExT K mg cl ds) {c:Str} {C:Addr} (hc:c∈cl) (hC:mg c=some (.ref C)):∃D,Ga K mg D C c ds:=by
 obtain ⟨D,_,_,h⟩:=E.h;obtain ⟨C',k⟩:=h c hc;have:=k.gm
 rw [hC] at this
 cases this;exact ⟨D,k⟩
theorem ExT.rais {K:Fg} {mg:Str->Option Value} {base:Heap} {cl ds:List Str} (E:ExT K mg cl ds) (KX:K.In base) (G:base.Ns mainGlobals mg) {c:Str} (hc:cl.contains c=true:=by kernel_rfl):rU mg base c:=by
 obtain ⟨D,_,_,h⟩:=E.h;obtain ⟨C,k⟩:=h c (by simpa using hc)
 exact xn (h:=base) KX G k.ns k.ei
section
variable {X:Cx} {N gl:List Str} {vs cs ls lo gs:List Nat} {W:XW} {cl ds:List Str} {i:Nat} {x C:Addr} {c ex d:Str} {p p1 p2 pos:Pos}
theorem Fd (S:Cp { X with calm:=true } N gl vs cs ls lo gs) (E:ExT X.K X.mg cl ds) (hx:iU X x C) (hc:c∈cl) (hC:X.mg c=some (.ref C)) (hmi:X.mg "isinstance"=none) (j k:Nat) (hN:N[i]?=some ex:=by exact rfl) (hv:vs.contains i=true:=by exact rfl) (hj:gl[j]?=some ("isinstance":Str):=by exact rfl) (hg:gs.contains j=true:=by exact rfl) (hk2:gl[k]?=some d:=by exact rfl) (hg2:gs.contains k=true:=by exact rfl) (hd:ds.contains d=true:=by kernel_rfl) :
  PE X (.Call (.Name "isinstance" p) [.Name ex p1,.Name d p2] [] pos) (tG (kf i x) (tE X.K W (eK (.bool (d==c))))):=by
 obtain ⟨D,k'⟩:=E.cls hc hC;obtain ⟨E',h1,h2⟩:=k'.is d hd
 exact Fi S hx k'.ex h2 h1 hmi hN hv j k hj hg hk2 hg2
theorem j9:bootBuiltins "ValueError"=some (.type "ValueError"):=by decide +kernel
theorem Ks (S:Cp { X with calm:=true } N gl vs cs ls lo gs) (E:ExT X.K X.mg cl ds) (hx:iU X x C) (hc:c∈cl) (hC:X.mg c=some (.ref C)) (hmi:X.mg "isinstance"=none) (hve:X.mg "ValueError"=none) (j k:Nat) (hN:N[i]?=some ex:=by exact rfl) (hv:vs.contains i=true:=by exact rfl) (hj:gl[j]?=some ("isinstance":Str):=by exact rfl) (hg:gs.contains j=true:=by exact rfl) (hk2:gl[k]?=some ("ValueError":Str):=by exact rfl) (hg2:gs.contains k=true:=by exact rfl) :
  PE X (.Call (.Name "isinstance" p) [.Name ex p1,.Name "ValueError" p2] [] pos) (tG (kf i x) (tE X.K W (eK (.bool true)))):=by
 obtain ⟨D,k'⟩:=E.cls hc hC;exact Cn S hx k'.ex k'.ve hve j9 hmi hN hv j k hj hg hk2 hg2
end
abbrev K7:List Str:=["NoWorld", "NoPlayer", "NoMark", "NoSentence", "NoRoom", "NoWay", "NoPlan", "NoPaper", "TooGreat", "NoNote"]
abbrev LF:List Str:=["isinstance", "NoWorld", "NoPlayer", "NoMark", "NoSentence", "NoRoom", "NoWay", "NoPlan", "NoPaper", "TooGreat", "NoNote", "ValueError"]
abbrev bk (d c:Str):F1:=eK (.bool (d==c))
def FC (c:Str):FS:=ay (az false 1 (av .leaf (ae (bk "NoWorld" c) (ae (bk "NoPlayer" c) (ae (bk "NoMark" c) (ae (bk "NoSentence" c) ag))))))
 (ay (az false 1 (bz (af 1) (av .leaf (ae (bk "NoRoom" c) (ae (bk "NoWay" c) (ae (bk "NoPlan" c) (ae (bk "NoPaper" c) ag)))))))
 (ay (az false 1 (bz (af 1) (av .leaf (ae (bk "TooGreat" c) (ae (bk "NoNote" c) ag)))))
 (ay (b6 (ke (aO aA (aD jq (rj 1) (eK (.int 1)))) (bU (aO ba (eK (.bool true))))) (aU (eK (.str "other"))) aN)
 (aU (aj (av .leaf (ae (eK (.str "world")) (ae (eK (.str "player")) (ae (eK (.str "mark")) (ae (eK (.str "sentence")) (ae (eK (.str "room")) (ae (eK (.str "way")) (ae (eK (.str "plan")) (ae (eK (.str "paper")) (ae (eK (.str "great")) (ae (eK (.str "note")) ag))))))))))) (rh 1))))))
end T
namespace TQ
open PySem PySem.Spec L2 T
open PyProof.Rows hiding St
section
variable {X:Cx} {N gl:List Str} {vs cs ls lo gs:List Nat} {W:XW} {φ:St->Prop} {a b c e:Expr} {es:List Expr} {pos p p1 p2:Pos} {fa fb fc:F1} {fl:FL} {ga gb:FB} {g1 g2:FS} {i k:Nat} {x C:Addr} {cl ds:List Str} {ex d y cc:Str}
theorem ez (S:Cp { X with calm:=true } N gl vs cs ls lo gs) (E:ExT X.K X.mg cl ds) (hx:iU X x C) (hc:cc∈cl) (hC:X.mg cc=some (.ref C)) (hmi:X.mg "isinstance"=none) (j k:Nat) (hN:N[i]?=some ex:=by exact rfl) (hv:vs.contains i=true:=by exact rfl) (hj:gl[j]?=some ("isinstance":Str):=by exact rfl) (hg:gs.contains j=true:=by exact rfl) (hk2:gl[k]?=some d:=by exact rfl) (hg2:gs.contains k=true:=by exact rfl) (hd:ds.contains d=true:=by kernel_rfl) :
  Q (PE X (.Call (.Name "isinstance" p) [.Name ex p1,.Name d p2] [] pos) (tG (kf i x) (tE X.K W (eK (.bool (d==cc)))))):=⟨Fd S E hx hc hC hmi j k hN hv hj hg hk2 hg2 hd⟩
theorem Jr (S:Cp { X with calm:=true } N gl vs cs ls lo gs) (E:ExT X.K X.mg cl ds) (hx:iU X x C) (hc:cc∈cl) (hC:X.mg cc=some (.ref C)) (hmi:X.mg "isinstance"=none) (hve:X.mg "ValueError"=none) (j k:Nat) (hN:N[i]?=some ex:=by exact rfl) (hv:vs.contains i=true:=by exact rfl) (hj:gl[j]?=some ("isinstance":Str):=by exact rfl) (hg:gs.contains j=true:=by exact rfl) (hk2:gl[k]?=some ("ValueError":Str):=by exact rfl) (hg2:gs.contains k=true:=by exact rfl) :
  Q (PE X (.Call (.Name "isinstance" p) [.Name ex p1,.Name "ValueError" p2] [] pos) (tG (kf i x) (tE X.K W (eK (.bool true))))):=⟨Ks S E hx hc hC hmi hve j k hN hv hj hg hk2 hg2⟩
theorem G9 (h:Q (PE X a (tE X.K W fa))):Q (PE X a (tG φ (tE X.K W fa))):=⟨gu h.p⟩
theorem sy:Q (PA X [] (ze φ (tA X.K W ag))):=⟨Fh⟩
theorem wa (ha:Q (PE X e (tG φ (tE X.K W fa)))) (hr:Q (PA X es (ze φ (tA X.K W fl)))) (hs:vX e=false:=by exact rfl):Q (PA X (e::es) (ze φ (tA X.K W (ae fa fl)))):=⟨Co ha.p hr.p (dh hs)⟩
theorem Iz (s:Sh) (h:Q (PA X es (ze φ (tA X.K W fl)))):Q (PE X (.List es pos) (tG φ (tE X.K W (av s fl)))):=⟨Cm s h.p⟩
theorem y7 (ha:Q (PE X a (tG φ (tE X.K W fa)))) (hb:Q (PE X b (tG φ (tE X.K W fb)))):Q (PE X (.BinOp a .Add b pos) (tG φ (tE X.K W (bz fa fb)))):=⟨Fj ha.p hb.p⟩
theorem yY (S:Cp { X with calm:=true } N gl vs cs ls lo gs) (i:Nat) {x:Str} (hN:N[i]?=some x:=by exact rfl) (hv:vs.contains i=true:=by exact rfl):Q (PE X (.Name x pos) (tE X.K W (af i))):=⟨Ff S i hN hv⟩
theorem DV (ha:Q (PE X a (tG φ (tE X.K W fa)))) (he:∀whole,isTrue a X.env whole=(do let v <-whole;standAt a.pos;holding [v] (truthy v)):=by exact fun _=>rfl):Q (PT X a (rZ φ (tT X.K W (aO ba fa)))):=⟨B9 ha.p he⟩
theorem DX (ha:Q (PT X a (rZ φ (tT X.K W ga)))):Q (PT X (.UnaryOp .Not a pos) (rZ φ (tT X.K W (bU ga)))):=⟨Cb ha.p⟩
theorem DW (ha:Q (PT X a (tT X.K W ga))) (hb:Q (PT X b (rZ φ (tT X.K W gb)))):Q (PT X (.BoolOp .Or [a,b] pos) (rZ φ (tT X.K W (ke ga gb)))):=⟨Ca ha.p hb.p⟩
theorem y0 {st:Stmt} {g:FS} (h:Q (PS X st (tZ i x X.K W g))):Q (PSs X [st] (tZ i x X.K W g)):=⟨Dr h.p⟩
theorem Ac:Q (PSs X [] (tZ i x X.K W aN)):=⟨Dt⟩
theorem GL {st:Stmt} {rest:List Stmt} (h1:Q (PS X st (tZ i x X.K W g1))) (h2:Q (PSs X rest (tZ i x X.K W g2))):Q (PSs X (st::rest) (tZ i x X.K W (ay g1 g2))):=⟨zO h1.p h2.p⟩
theorem sx {pos':Pos} (S:Cp { X with calm:=true } N gl vs cs ls lo gs) (ha:Q (PE X a (tG (kf i x) (tE X.K W fa)))) (hki:(k==i)=false:=by exact rfl) (hk:N[k]?=some y:=by exact rfl) (hl:ls.contains k=true:=by exact rfl) (hs:swapsWith a (some (.Name y pos')) pos.line X.env=pure false:=by exact rfl):Q (PS X (.Assign [.Name y pos'] a pos) (tZ i x X.K W (az false k fa))):=⟨Dp S hki hk hl ha.p hs⟩
theorem Js {A B:List Stmt} (hc:Q (PT X c (rZ (kf i x) (tT X.K W ga)))) (ha:Q (PSs X A (tZ i x X.K W g1))) (hb:Q (PSs X B (tZ i x X.K W g2))):Q (PS X (.If c A B pos) (tZ i x X.K W (b6 ga g1 g2))):=⟨HL hc.p ha.p hb.p⟩
theorem yZ (ha:Q (PE X a (tG (kf i x) (tE X.K W fa)))):Q (PS X (.Return (some a) pos) (tZ i x X.K W (aU fa))):=⟨Dq ha.p⟩
theorem DZ (S:Cp { X with calm:=true } N gl vs cs ls lo gs) (i:Nat) {x:Str} {kb:Nat} {apos cpos bp:Pos} (hline:(apos.endLine==cpos.line)=true) (hi:N[i]?=some x:=by exact rfl) (hv:vs.contains i=true:=by exact rfl) (hbase:attributeBase (.Name x p) "count" X.env (eval (.Name x p) X.env)=eval (.Name x p) X.env:=by exact rfl) :
  Q (PE X (.Call (.Attribute (.Name x p) "count" apos) [.Constant (.bool true) kb bp] [] cpos) (tE X.K W (rj i))):=⟨CO S i hi hv hbase hline⟩
theorem DY (S:Cp { X with calm:=true } N gl vs cs ls lo gs) (i:Nat) {x:Str} {kb:Nat} {apos cpos bp:Pos} (hline:(apos.endLine==cpos.line)=true) (hi:N[i]?=some x:=by exact rfl) (hv:vs.contains i=true:=by exact rfl) (hbase:attributeBase (.Name x p) "index" X.env (eval (.Name x p) X.env)=eval (.Name x p) X.env:=by exact rfl) :
  Q (PE X (.Call (.Attribute (.Name x p) "index" apos) [.Constant (.bool true) kb bp] [] cpos) (tE X.K W (rh i))):=⟨CM S i hi hv hbase hline⟩
end
theorem wF {X:Cx} {cl:List Str} {a C:Addr} {c:Str} (S:Cp { X with calm:=true } ["e", "some"] LF [0,1] [] [0,1] [0,1] [0,1,2,3,4,5,6,7,8,9,10,11]) (R:Rm X) (E:ExT X.K X.mg cl K7) (hx:iU X a C) (hc:c∈cl) (hC:X.mg c=some (.ref C)) (hmi:X.mg "isinstance"=none) (hve:X.mg "ValueError"=none)
  {q1 q2 q3 q4 q5 q6 q7 q8 q9 q10 q11 q12 q13 q14 q15 q16 q17 q18 q19 q20 q21 q22 q23 q24 q25 q26 q27 q28 q29 q30 q31 q32 q33 q34 q35 q36 q37 q38 q39 q40 q41 q42 q43 q44 q45 q46 q47 q48 q49 q50 q51 q52 q53 q54 q55 q56 q57 q58 q59 q60 q61 q62 q63 q64 q65 q66 q67 q68 q69 q70 q71 q72 q73 q74 q75 q76 q77 q78 q79 q80 q81 q82 q83 q84 q85:Pos}
  {k1 k2 k3 k4 k5 k6 k7 k8 k9 k10 k11 k12 k13 k14:Nat} (h1:(q47.endLine==q50.line)=true:=by exact rfl) (h2:(q60.endLine==q63.line)=true:=by exact rfl) :
  Q (PSs X [.Assign [.Name "some" q1] (.List [.Call (.Name "isinstance" q2) [.Name "e" q3,.Name "NoWorld" q4] [] q5,.Call (.Name "isinstance" q6) [.Name "e" q7,.Name "NoPlayer" q8] [] q9,.Call (.Name "isinstance" q10) [.Name "e" q11,.Name "NoMark" q12] [] q13,.Call (.Name "isinstance" q14) [.Name "e" q15,.Name "NoSentence" q16] [] q17] q18) q19,
   .Assign [.Name "some" q20] (.BinOp (.Name "some" q21) .Add (.List [.Call (.Name "isinstance" q22) [.Name "e" q23,.Name "NoRoom" q24] [] q25,.Call (.Name "isinstance" q26) [.Name "e" q27,.Name "NoWay" q28] [] q29,.Call (.Name "isinstance" q30) [.Name "e" q31,.Name "NoPlan" q32] [] q33,.Call (.Name "isinstance" q34) [.Name "e" q35,.Name "NoPaper" q36] [] q37] q38) q39) q40,
   .Assign [.Name "some" q41] (.BinOp (.Name "some" q42) .Add (.List [.Call (.Name "isinstance" q43) [.Name "e" q44,.Name "TooGreat" q45] [] q46,.Call (.Name "isinstance" q64) [.Name "e" q65,.Name "NoNote" q66] [] q67] q68) q69) q70,
   .If (.BoolOp .Or [.Compare (.Call (.Attribute (.Name "some" q48) "count" q47) [.Constant (.bool true) k1 q49] [] q50) [.NotEq] [.Constant (.int 1) k2 q51] q52,.UnaryOp .Not (.Call (.Name "isinstance" q53) [.Name "e" q54,.Name "ValueError" q55] [] q56) q57] q58) [.Return (some (.Constant (.str "other") k3 q59)) q71] [] q72,
   .Return (some (.Subscript (.List [.Constant (.str "world") k4 q73,.Constant (.str "player") k5 q74,.Constant (.str "mark") k6 q75,.Constant (.str "sentence") k7 q76,.Constant (.str "room") k8 q77,.Constant (.str "way") k9 q78,.Constant (.str "plan") k10 q79,.Constant (.str "paper") k11 q80,.Constant (.str "great") k12 q81,.Constant (.str "note") k13 q82] q83) (.Call (.Attribute (.Name "some" q61) "index" q60) [.Constant (.bool true) k14 q62] [] q63) q84)) q85] (tZ 0 a X.K W0 (FC c))):=by
 refine GL (sx S (Iz .leaf (wa (ez S E hx hc hC hmi 0 1) (wa (ez S E hx hc hC hmi 0 2) (wa (ez S E hx hc hC hmi 0 3) (wa (ez S E hx hc hC hmi 0 4) sy)))))) ?_
 refine GL (sx S (y7 (G9 (yY S 1)) (Iz .leaf (wa (ez S E hx hc hC hmi 0 5) (wa (ez S E hx hc hC hmi 0 6) (wa (ez S E hx hc hC hmi 0 7) (wa (ez S E hx hc hC hmi 0 8) sy))))))) ?_
 refine GL (sx S (y7 (G9 (yY S 1)) (Iz .leaf (wa (ez S E hx hc hC hmi 0 9) (wa (ez S E hx hc hC hmi 0 10) sy))))) ?_
 refine GL (Js (DW (e9 (qt R) (DZ S 1 h1) w_de_int) (DX (DV (Jr S E hx hc hC hmi hve 0 11)))) (y0 (yZ (G9 dC))) Ac) ?_
 exact y0 (yZ (G9 (bC (bZ .leaf (aE dC (aE dC (aE dC (aE dC (aE dC (aE dC (aE dC (aE dC (aE dC (aI dC))))))))))) (DY S 1 h2))))
end TQ
namespace T
open PySem PySem.Spec L2
open PyProof.Rows hiding St
def LO (X:Cx):Prop:=X.stack=X.env::X.outer/\X.env.frame=some X.env.locals
section
variable {p:Fg->(Str->Option Value)->Prop} {X Y:Cx} {P:Program} {w:World} {K:Fg} {mg:Str->Option Value} {base:Heap} {j k n:Nat} {y:Str} {s:Stmt} {ps:List Str} {g:FS} {den:List MR->Res} {cl ds:List Str} {m:Str->Res}
abbrev K4 (p:Fg->(Str->Option Value)->Prop) (P:Program) (w:World) (K:Fg) (mg:Str->Option Value) (base:Heap) (k:Nat) (N gl:List Str) (vs cs gs:List Nat) (s:Stmt) (g:FS):Prop:=∀X:Cx,Cp X N gl vs cs vs (nq vs cs) gs->In p X P w K mg base k->LO X->PassesOwn (model X.prog X.w) X.A X.env X.xe->TQ.Q (PSs X (jD s) (tS X.K W0 g))
theorem ES {f:Addr} {fd:FuncData} (F:Fun K y y s f fd) (e:p K mg) (N gl:List Str) (vs cs gs:List Nat) (h:fB N gl ps vs cs gs s=true) (hb:K4 p P w K mg base k N gl vs cs gs s g):dg P w K mg base ic (k+1) f fd ps (qc K ps.length (aG N.length g)):=by
 obtain ⟨h1,h2,h3⟩:=pE h;exact vm F h3 fun cdv A outer s H E hr=>(hb _ (Cp.fn h1 h2) ⟨rfl,rfl,rfl,rfl,rfl,hr,e⟩ ⟨rfl,rfl⟩ PassesOwn.never).p
theorem Me (F:Ft K mg y s) (e:p K mg) (ps:List Str) (b:sg y s ps) (rs gl:List Str) (vs cs gs:List Nat) (hb:K4 p P w K mg base k (ps++rs) gl vs cs gs s g) (h:fB (ps++rs) gl ps vs cs gs s=true:=by kernel_rfl):DefOk P w K mg base (k+1) y ps.length (aG (ps++rs).length g):=by
 obtain ⟨f,fd,hm,F⟩:=F;exact ⟨f,fd,ps,ES F e _ gl vs cs gs h hb,hm,F.kp,zP F b⟩
theorem Kk {fa:Addr} (F:Ft K mg y s) (e:p K mg) (q:Str) (b:sg y s [q]) (hfa:mg y=some (.ref fa)) (rs gl:List Str) (vs cs gs:List Nat) (hb:∀base:Heap,(K.In base/\base.Ns mainGlobals mg)->K4 p P w K mg base k ([q]++rs) gl vs cs gs s g) (h:fB ([q]++rs) gl [q] vs cs gs s=true:=by kernel_rfl) :
  ∃fd:FuncData,(∀(s:Shared) (v:Value),BindsTo s fd ⟨[v],[]⟩ [(q,v)])/\∀base:Heap,K.In base->base.Ns mainGlobals mg->dg P w K mg base ic (k+1) fa fd [q] (qc K 1 (aG ([q]++rs).length g)):=by
 obtain ⟨f,fd,hm,F⟩:=F;have e':=hfa.symm.trans hm
 cases e'
 refine ⟨fd,fun s v=>?_,fun base kb nb=>ES F e _ gl vs cs gs h (hb base ⟨kb,nb⟩)⟩
 obtain ⟨oc,od,kV,doc,pm,an,cdv,ct,osl,rfl,lk,hcd⟩:=F.ex;exact .of_eq (b [v] rfl kV doc pm an cdv ct)
theorem In.eE (I:In p X P w K mg base k) (h:Du P w K mg base j y cl m):Du X.prog X.w X.K X.mg X.base j y cl m:=by
 obtain ⟨rfl,rfl,rfl,rfl,rfl,r,_⟩:=I;exact h
theorem In.xt (I:In p X P w K mg base k) (h:ExT K mg cl ds):ExT X.K X.mg cl ds:=by rw [I.e3,I.e4];exact h
theorem InH.xt (I:InH p X P w K mg base k) (h:ExT K mg cl ds):ExT X.K X.mg cl ds:=by rw [I.e3,I.e4];exact h
theorem InH.gm {o:Option Value} (I:InH p X P w K mg base k) (h:mg y=o):X.mg y=o:=by rw [I.e4];exact h
end
end T
namespace TQ
open PySem PySem.Spec L2 T
open PyProof.Rows hiding St
theorem D2 {X:Cx} {N gl:List Str} {vs cs ls lo gs:List Nat} (S:Cp X N gl vs cs ls lo gs) (st:LO X) {body:List Stmt} {g:FS} {k:Str->FS} {cl ds:List Str} {en:Str} (ie j:Nat) {np hpos pos:Pos} {suite:Stmt} (E:ExT X.K X.mg cl ds)
  (hb:∀(pins:List (Addr×Obj)) (W:Addr->L2.St->Hp->Prop),Q (PSs (dY X pins W) body (tS X.K (wT X.mg W) g)))
  (hh:∀(pins:List (Addr×Obj)) (a C:Addr) (oe:Obj) (c:Str),c∈cl->X.mg c=some (.ref C)->oe.cls=.ref C->(∃vs,oe.data=.fields vs)->PSs (wq X pins a oe) [suite] (JE (kf ie a) (tS X.K W0 (k c))))
  (hie:N[ie]?=some en:=by exact rfl) (hel:lo.contains ie=true:=by exact rfl) (hj:gl[j]?=some ("HallError":Str):=by exact rfl) (hg:gs.contains j=true:=by exact rfl) :
  Q (PS X (.Try body [.ExceptHandler (some (.Name "HallError" np)) (some en) [suite] hpos] [] [] pos) (tS X.K W0 (kI cl ie g k))):=by
 obtain ⟨D,h1,h2,h3⟩:=E.h;refine ⟨Bs S st.1 st.2 hie hel hj hg h1 h2 (fun c hc C hC=>?_) (fun pins W=>(hb pins W).p) hh⟩
 obtain ⟨C',k'⟩:=h3 c hc;have:=k'.gm
 rw [hC] at this
 cases this;exact k'.sub
end TQ
namespace KQ.M
open PySem PySem.Spec L2 T
open PyProof.Rows hiding St
open KC
noncomputable def bE:Str->Res:=fun c=>CI 2 (FC c)
section
open PySem.SeqAt
theorem wG:bE "NoRoom"=.ok ⟨.leaf,.str "room"⟩:=by with_unfolding_all rfl
theorem Ar:bE "NoWay"=.ok ⟨.leaf,.str "way"⟩:=by with_unfolding_all rfl
theorem sC:bE "NoWorld"=.ok ⟨.leaf,.str "world"⟩:=by with_unfolding_all rfl
theorem wH:bE "NoMark"=.ok ⟨.leaf,.str "mark"⟩:=by with_unfolding_all rfl
theorem Am {cl:List Str} {ie:Nat} {g:FS} {k:Str->FS} {Γ Γ':Ev} (h:g Γ=.nx Γ'):kI cl ie g k Γ=.nx Γ':=by unfold kI;rw [h]
theorem An {cl:List Str} {ie:Nat} {g:FS} {k:Str->FS} {Γ Γ1 Γ':Ev} {c:Str} (h:g Γ=.er c Γ1) (hc:cl.contains c=true) (h1:zB Γ1[ie]?=true) (hk:k c Γ1=.nx Γ') (h2:zB Γ'[ie]?=true):kI cl ie g k Γ=.nx Γ':=by
 unfold kI;rw [h];unfold wL;simp only [hc,h1,Bool.and_self,if_true,hk,h2]
theorem v_res {r:Res} {p:PV} {Γ:Ev} (h:r=.ok p):rf r Γ=.ok p Γ:=by rw [h];rfl
theorem mH {Γ Γ1:Ev} {fl:FL} {ps:List PV} {n:Nat} {p:PV} {den:List D->Res} (hl:fl Γ=.ok ps Γ1) (hd:den (ps.map (·.d))=.ok p) (hn:ps.length=n) (hc:ps.all (T.coer .leaf)=true):gy n den fl Γ=.ok p Γ1:=by
 unfold gy;rw [hl];simp only [Out.bind,hn,hd,hc,if_true]
theorem zY {Γ Γ1:Ev} {fl:FL} {ps:List PV} {n:Nat} {c:Str} {den:List D->Res} (hl:fl Γ=.ok ps Γ1) (hd:den (ps.map (·.d))=.er c) (hn:ps.length=n):gy n den fl Γ=.er c Γ1:=by
 unfold gy;rw [hl];simp only [Out.bind,hn,hd,if_true]
theorem zX {fa:F1} {Γ Γ':Ev} {c:Str} (h:fa Γ=.er c Γ'):bq fa Γ=.er c Γ':=by unfold bq fP;rw [h]
theorem DD {g1 g2:FS} {Γ Γ':Ev} {c:Str} (h:g1 Γ=.er c Γ'):ay g1 g2 Γ=.er c Γ':=by unfold ay;rw [h]
theorem dZ {n:Nat} {g:FS} {ds:List D} {c:Str} {Γ':Ev} (h:g (aQ n ds)=.er c Γ'):aG n g ds=.er c:=by unfold aG;rw [h]
end
open PySem.SeqAt
noncomputable abbrev mD (l:List Int):D:=.list (l.map .int)
noncomputable abbrev i4 (F R:List Int):D:=.tuple [mD F,mD R]
noncomputable def fu (n:Nat) (x:Int):Bool:=decide (0<=x)&&decide (x<(n:Int))
noncomputable def JF (w:Wd) (A:List Nat):Bool:=(List.range (A.length-1)).all fun k=>(w.stp (A.getD k 0)).contains (A.getD (k+1) 0)
noncomputable def mJ (w:Wd) (F R:List Int):Bool:=!R.isEmpty&&(F++R).all (fu w.n)&&JF w ((F++R++R.take 1).map Int.toNat)
theorem tu {l:List D} {k:Nat}:T.cutD l none (some (k:Int))=l.take k:=by
 unfold T.cutD;rw [HT.sIx_none,HT.sIx_nat,List.drop_zero,Nat.sub_zero];by_cases h:k<=l.length
 ·rw [Nat.min_eq_left h]
 ·rw [Nat.min_eq_right (by omega),take_of_length_le (MQ _),take_of_length_le (by omega)]
theorem tw {l:List D} {k:Nat}:T.cutD l (some (k:Int)) none=l.drop k:=by
 unfold T.cutD;rw [HT.sIx_none,HT.sIx_nat];by_cases h:k<=l.length
 ·rw [Nat.min_eq_left h,take_of_length_le (by simp)]
 ·rw [Nat.min_eq_right (by omega),List.drop_of_length_le (by simp),List.drop_of_length_le (by omega)]
  simp
theorem Gr {s:Sh} {l:List Int}:dA ⟨s,mD l⟩ (l.map .int)=true:=by
 unfold dA;simp [bo]
theorem Kh {n:Nat} {l:List Int} (h:l.all (fu n)=true):l.map PyData.int=(l.map Int.toNat).map rm/\∀x∈l.map Int.toNat,x<n:=by
 have h0:∀x∈l,0<=x/\x<(n:Int):=fun x hx=>by
  have:=List.all_eq_true.mp h x hx
  unfold fu at this;simpa using this
 refine ⟨?_,fun x hx=>?_⟩
 ·rw [map_map]
  refine List.map_congr_left fun x hx=>?_
  have:=h0 x hx
  show PyData.int x=.int ((x.toNat:Nat):Int)
  rw [Int.toNat_of_nonneg this.1]
 ·obtain ⟨y,hy,rfl⟩:=List.mem_map.mp hx
  have:=h0 y hy
  omega
theorem vP {n:Nat} {F R:List Int} (h:(F++R).all (fu n)=true):(F++R++R.take 1).all (fu n)=true:=by
 rw [List.all_append,h,Bool.true_and];refine List.all_eq_true.mpr fun x hx=>List.all_eq_true.mp h x (ME _ (List.mem_of_mem_take hx))
theorem FT {n:Nat} {F R:List Int}:(F++R++R.take 1).all (fu n)=(F++R).all (fu n):=by
 cases e:(F++R).all (fu n) with
 | true=>exact vP e
 | false=>rw [List.all_append,e,Bool.false_and]
theorem chain_ev {w:Wd} (ok:w.Ok) {Γ:Ev} {i:Nat} {x:Int} (h0:Γ[0]?=some (MS w.enc)) (hi:Γ[i]?=some (MS (.int x))):mE qX fU (eK (.int 0)) (af i) (bG br (ae (aj (af 0) (eK (.int 0))) ag)) Γ=.ok ⟨.leaf,.bool (fu w.n x)⟩ Γ:=
 GK (b:=decide ((0:Int)<=x)) (b':=decide (x<(w.n:Int))) (g:=qX) (g':=fU) (fa:=eK (.int 0)) (fb:=af i) aH (aw hi) rfl rfl (zV ok (i:=0) h0) rfl
theorem rB {w:Wd} (ok:w.Ok) {F R:List Int} (hF:F.length<=450) (hR:R.length<=450):bw [w.enc,i4 F R]=.ok ⟨.leaf,.bool (mJ w F R)⟩:=by
 have hT:(R.take 1).length<=1:=by rw [length_take];omega
 have c1:bz (bz (aj (af 1) (eK (.int 0))) (aj (af 1) (eK (.int 1)))) (bP (fun k=>(none,some k)) (aj (af 1) (eK (.int 1))) (eK (.int 1))) (aQ 5 [w.enc,i4 F R])=.ok ⟨.lst .leaf,mD (F++R++R.take 1)⟩ (aQ 5 [w.enc,i4 F R]):=by
  have i0:aj (af 1) (eK (.int 0)) (aQ 5 [w.enc,i4 F R])=.ok ⟨.leaf,mD F⟩ (aQ 5 [w.enc,i4 F R]):=ig (j:=0) (aw rfl) aH rfl rfl rfl
  have i1:aj (af 1) (eK (.int 1)) (aQ 5 [w.enc,i4 F R])=.ok ⟨.leaf,mD R⟩ (aQ 5 [w.enc,i4 F R]):=ig (j:=1) (aw rfl) aH rfl rfl rfl
  have s1:bP (fun k=>(none,some k)) (aj (af 1) (eK (.int 1))) (eK (.int 1)) (aQ 5 [w.enc,i4 F R])=.ok ⟨.lst .leaf,mD (R.take 1)⟩ (aQ 5 [w.enc,i4 F R]):=by
   rw [eC i1 aH Gr,show T.cutD (R.map PyData.int) none (some (1:Int))=(R.map PyData.int).take 1 from tu (k:=1),<-map_take]
  have:=cG (cG i0 i1 Gr Gr (by simp;omega)) s1 rfl rfl (by simp;omega)
  rw [this];simp
 have hne:(!R.isEmpty)=true->1<=(F++R++R.take 1).length-1:=fun z=>by
  cases R with
  | nil=>cases z
  | cons a r=>simp;omega
 generalize hA:F++R++R.take 1=A at c1 hne
 have lnA:A.length<=1801:=by rw [<-hA];simp;omega
 have t1:aO ba (aj (af 1) (eK (.int 1))) [MS w.enc,MS (i4 F R),MS (mD A),none,none]=.ok (!R.isEmpty) [MS w.enc,MS (i4 F R),MS (mD A),none,none]:=by
  have i1:aj (af 1) (eK (.int 1)) [MS w.enc,MS (i4 F R),MS (mD A),none,none]=.ok ⟨.leaf,mD R⟩ [MS w.enc,MS (i4 F R),MS (mD A),none,none]:=ig (j:=1) (aw rfl) aH rfl rfl rfl
  unfold aO;rw [i1]
  cases R<;>rfl
 have cm:=mC (Γ:=[MS w.enc,MS (i4 F R),MS (mD A),none,none]) (s:=.leaf) (i:=4) (fi:=aR (af 2)) (fe:=mE qX fU (eK (.int 0)) (af 4) (bG br (ae (aj (af 0) (eK (.int 0))) ag))) PyData.int A (fun x=>⟨.leaf,.bool (fu w.n x)⟩) (st:=true) (bQ (s:=.leaf) (aw rfl) Gr) (by simp) rfl (by omega) fun x hx=>⟨chain_ev ok rfl rfl,rfl⟩
 have t2:=mq (de t1) (de (cw (s:=.leaf) (bO (ax cm ah) (v7 (xs:=A) (f:=fu w.n)))))
 refine aW ?_
 refine ak (Γ1:=[MS w.enc,MS (i4 F R),MS (mD A),none,none]) (b7 c1 rfl (by simp [aQ])) ?_
 have eA:A.all (fu w.n)=(F++R).all (fu w.n):=by rw [<-hA];exact FT
 cases e1:(!R.isEmpty&&(F++R).all (fu w.n)) with
 | false=>
  have:mJ w F R=false:=by unfold mJ;rw [e1,Bool.false_and]
  rw [this];refine wu (aY t2 (fun _=>aX aH rfl) fun z=>?_)
  rw [eA,<-Bool.not_and,e1] at z
  cases z
 | true=>
  have ew:mJ w F R=JF w (A.map Int.toNat):=by unfold mJ;rw [e1,Bool.true_and,hA]
  have e1':=e1
  rw [Bool.and_eq_true] at e1';rw [eA,<-Bool.not_and,e1] at t2;refine ak (aY t2 nofun fun _=>rfl) ?_
  have hn:=Kh (by rw [eA];exact e1'.2:A.all (fu w.n)=true)
  have l1:=hne e1'.1
  rw [ew];have lN:(A.map Int.toNat).length=A.length:=length_map _
  rw [show mD A=aC (A.map Int.toNat) by show PyData.list _=_;rw [hn.1]]
  generalize A.map Int.toNat=N at hn lN
  refine aX (p:=⟨.leaf,.bool (JF w N)⟩) (bO (ps:=[⟨.lst .leaf,.list ((List.range (N.length-1)).map fun k=>.bool ((w.stp (N.getD k 0)).contains (N.getD (k+1) 0)))⟩]) (ax (mC (fun k:Nat=>PyData.int (1+(k:Int))) (List.range (N.length-1)) (fun k=>⟨.leaf,.bool ((w.stp (N.getD k 0)).contains (N.getD (k+1) 0))⟩) (st:=true) ?_ (by simp) rfl (by simp;omega) ?_) ah) ?_) rfl
  ·refine (As (k:=1) (m:=(N.length:Int)) (ax aH (ax (bO (ax (aw rfl) ah) ?_) ah)) rfl (by omega) (by omega) (by omega) (by omega)).trans ?_
   ·simp only [map_cons,map_nil,Gc,length_map]
   ·rw [show ((N.length:Int)-1).toNat=N.length-1 by omega,kK]
  ·intro k hk
   have hk:=List.mem_range.mp hk
   refine ⟨?_,rfl⟩
   have x1:=i7 (Γ:=[MS w.enc,MS (i4 F R),MS (aC N),MS (.int (1+(k:Int))),none]) (fa:=af 2) (fb:=af 3) (s:=.leaf) (l:=N) (k:=k+1) (aw rfl) (by rw [aw (d:=.int (1+(k:Int))) rfl,show (1+(k:Int))=((k+1:Nat):Int) by omega]) (by omega)
   have x2:=i7 (Γ:=[MS w.enc,MS (i4 F R),MS (aC N),MS (.int (1+(k:Int))),none]) (fa:=af 2) (fb:=aD gSub (af 3) (eK (.int 1))) (s:=.leaf) (l:=N) (k:=k) (aw rfl) (by rw [aF (aw rfl) aH sub_int',show (1+(k:Int)-1)=(k:Int) by omega]) (by omega)
   have hm:N.getD k 0<w.n:=hn.2 _ (by rw [MJ,MI (by omega:k<N.length)];exact getElem_mem _)
   exact aF x1 (GT ok rfl x2 hm) Dy
  ·exact v7 (xs:=List.range (N.length-1)) (f:=fun k=>(w.stp (N.getD k 0)).contains (N.getD (k+1) 0))
theorem wY {l:List Nat}:aC l=mD (l.map fun x:Nat=>(x:Int)):=by
 show PyData.list _=PyData.list _
 rw [map_map];rfl
noncomputable def g5:FS:=(b6 (bU (aO ba (ao 3 cE (ae (aj (af 0) (eK (.int 0))) (ae (aj (af 0) (eK (.int 1))) (ae (aj (af 0) (eK (.int 2))) ag)))))) (yQ "NoWorld") aN)
noncomputable def bD:List MR->Res:=aG 1 g5
noncomputable def gw:FS:=(ay (gJ [4,5,6] (af 0))
  (ay (az false 2 (aD cK (ao 3 ai (ae (af 1) (ae (eK (.int 1)) (ae (eK (.int 24)) ag)))) (bG br (ae (af 4) ag))))
  (ay (az false 3 (aD aJ (eK (.int 1)) (ao 3 ai (ae (af 1) (ae (eK (.int 2)) (ae (aD lE (eK (.int 10)) (eK (.int 9))) ag))))))
  (ay (b6 (aO aA (aD cP (ao 3 ai (ae (af 1) (ae (eK (.int 0)) (ae (eK (.int 6)) ag)))) (eK (.int 0)))) (aU (bT (ae (av .leaf ag) (ae (av .leaf ag) (ae (av .leaf ag) ag))))) aN)
  (ay (b6 (aO aA (aD cP (ao 3 ai (ae (af 1) (ae (eK (.int 0)) (ae (eK (.int 6)) ag)))) (eK (.int 1)))) (ay (az false 7 (bz (aj (af 6) (af 2)) (av .leaf (ae (aD aJ (aD gSub (bG br (ae (af 4) ag)) (eK (.int 1))) (af 3)) ag))))
  (aU (bT (ae (af 4) (ae (af 5) (ae (bz (bz (bP (fun k=>(none,some k)) (af 6) (af 2)) (av .leaf (ae (af 7) ag))) (bP (fun k=>(some k,none)) (af 6) (aD aJ (af 2) (eK (.int 1))))) ag)))))) aN)
  (ay (b6 (aO aA (aD cP (ao 3 ai (ae (af 1) (ae (eK (.int 0)) (ae (eK (.int 6)) ag)))) (eK (.int 2)))) (aU (bT (ae (af 4) (ae (af 5) (ae (bz (bz (bP (fun k=>(none,some k)) (af 6) (af 2)) (av .leaf (ae (av .leaf ag) ag))) (bP (fun k=>(some k,none)) (af 6) (aD aJ (af 2) (eK (.int 1))))) ag))))) aN)
  (ay (b6 (aO aA (aD cP (ao 3 ai (ae (af 1) (ae (eK (.int 0)) (ae (eK (.int 6)) ag)))) (eK (.int 3)))) (aU (bT (ae (bz (bz (bP (fun k=>(none,some k)) (af 4) (af 2)) (av .leaf (ae (aj (av .leaf (ae (eU bt (eK (.int 1))) (ae (eK (.int 2)) ag))) (aD cK (af 3) (eK (.int 2)))) ag))) (bP (fun k=>(some k,none)) (af 4) (aD aJ (af 2) (eK (.int 1))))) (ae (af 5) (ae (af 6) ag))))) aN)
  (ay (b6 (aO aA (aD cP (ao 3 ai (ae (af 1) (ae (eK (.int 0)) (ae (eK (.int 6)) ag)))) (eK (.int 4)))) (ay (az false 8 (aj (av .leaf (ae (av .leaf (ae (eK (.str "b")) (ae (eK (.str "a")) ag))) (ae (av .leaf (ae (eK (.str "a")) (ae (eK (.str "a")) ag))) (ae (av .leaf (ae (eK (.str "g")) ag)) (ae (av .leaf (ae (eK (.str "ab")) ag)) (ae (av .leaf (ae (eK (.str "")) ag)) ag)))))) (aD cK (af 3) (eK (.int 5)))))
  (aU (bT (ae (af 4) (ae (bz (bz (bP (fun k=>(none,some k)) (af 5) (af 2)) (av .leaf (ae (af 8) ag))) (bP (fun k=>(some k,none)) (af 5) (aD aJ (af 2) (eK (.int 1))))) (ae (af 6) ag)))))) aN)
  (aU (bT (ae (af 4) (ae (af 5) (ae (bz (av .leaf (ae (av .leaf (ae (eU bt (af 3)) ag)) ag)) (bP (fun k=>(some k,none)) (af 6) (eK (.int 1)))) ag)))))))))))))
noncomputable def bV:List MR->Res:=aG 9 gw
open PySem.SeqAt
theorem jr {c k b:Int} (hk:0<=k) (hk2:k<=1000) (hb:1<=b) (hb2:b<=1000000000):∃r,ai [.int c,.int k,.int b]=.ok ⟨.leaf,.int r⟩/\0<=r/\r<b:=by
 have t:aO aA (aD lG (af 0) (aD lE (eK (.int 10)) (eK (.int 18)))) [MS (.int c),MS (.int k),MS (.int b),none,none,none]=.ok (decide (10 ^ (18:Int).toNat<=c)) [MS (.int c),MS (.int k),MS (.int b),none,none,none]:=
  gz (aF (aw rfl) (aF aH aH (oV (by omega) (by omega))) pv)
 cases hge:decide (10 ^ (18:Int).toNat<=c) with
 | true=>
  rw [hge] at t;obtain ⟨Γ',e,l,x,hΓ⟩:=GJ (P:=fun _ Γ=>∃l x,Γ=[MS (.int c),MS (.int k),MS (.int b),none,MS (.int l),x]) (i:=5) (body:=az false 4 (aD qY (af 4) (af 2))) (bX 0 k.toNat) 0
   [MS (.int c),MS (.int k),MS (.int b),none,MS (.int c),none] ⟨c,none,rfl⟩ (fun m d Γ hd _ _ ⟨l,x,hΓ⟩=>by
    subst hΓ;refine ⟨by simp,_,b7 (aF (aw rfl) (aw rfl) (pH (by omega) (by omega))) rfl (by simp),_,_,rfl⟩)
  subst hΓ;exact ⟨_,aW (wu (aY t (fun _=>ak (b7 (aw rfl) rfl (by simp)) (ak (eB (sG (k:=k) (ax (aw rfl) ah) rfl (by omega) (by omega)) e) (aX (aF (aw rfl) (aw rfl) (cy (by omega))) rfl))) nofun)),Int.emod_nonneg _ (by omega),Int.emod_lt_of_pos _ (by omega)⟩
 | false=>
  rw [hge] at t;have m1:∀x:Int,0<=x % 2147483647/\x % 2147483647<2147483647:=fun x=>⟨Int.emod_nonneg _ (by omega),Int.emod_lt_of_pos _ (by omega)⟩
  refine ⟨_,aW (ak (aY t nofun (fun _=>rfl)) (ak (b7 (aF (aF (aF (aF (aF (aw rfl) aH (cy (by omega))) (aF aH (aw rfl) (jg (by omega) (by omega))) KC.add_int') aH KC.add_int') aH (pb (by omega) (by omega))) aH (cy (by omega))) rfl (by simp [aQ]))
   (ak (b7 (aF (aF (aF (aF (aw rfl) (aw rfl) (jg ?_ ?_)) (aF aH (aw rfl) (jg (by omega) (by omega))) KC.add_int') aH KC.add_int') aH (cy (by omega))) rfl (by simp [aQ]))
   (aX (aF (aF (aF (aF (aw rfl) aH (pb (by omega) (by omega))) aH (cy (by omega))) aH (pH (by omega) (by omega))) (aw rfl) (cy (by omega))) rfl)))),Int.emod_nonneg _ (by omega),Int.emod_lt_of_pos _ (by omega)⟩
  ·exact Int.lt_of_lt_of_le (by omega) (m1 _).1
  ·exact Int.lt_trans (m1 _).2 (by omega)
theorem vI {b:Nat} {os ms ss:List D} (h:Wk b os ms ss) (hb:b<=100):bU (aO ba (ao 3 cE (ae (aj (af 0) (eK (.int 0))) (ae (aj (af 0) (eK (.int 1))) (ae (aj (af 0) (eK (.int 2))) ag))))) (aQ 1 [cX os ms ss])=.ok (!(isW os ms ss)) (aQ 1 [cX os ms ss]):=
 de (cw (s:=.leaf) (cz (ax (ig (j:=0) (aw rfl) aH rfl rfl rfl) (ax (ig (j:=1) (aw rfl) aH rfl rfl rfl) (ax (ig (j:=2) (aw rfl) aH rfl rfl rfl) ah))) (fz h hb) rfl rfl))
theorem HN {w:Wd} (ok:w.Ok):bD [w.enc]=.ok ⟨.leaf,.none⟩:=by
 have t:=vI (ok.g.wk (b:=24) ok.h24) (by omega)
 rw [ok.g.isW ok.h1 ok.h24] at t;exact fo (Γ:=aQ 1 [w.enc]) (aY t nofun fun _=>rfl)
theorem ym {b:Nat} {os ms ss:List D} (h:Wk b os ms ss) (hb:b<=100) (hw:isW os ms ss=false):bD [cX os ms ss]=.er "NoWorld":=by
 have t:=vI h hb
 rw [hw] at t;exact dZ (Γ':=aQ 1 [cX os ms ss]) (aY t (fun _=>rfl) nofun)
theorem EZ {os ms ss:List D} {a:D} (h:a∈os) (ha:B8 a=false):isW os ms ss=false:=by
 have:os.all B8=false:=List.all_eq_false.mpr ⟨a,h,by rw [ha];simp⟩
 unfold isW;rw [this];simp
theorem E8 {os ms ss:List D} {a:D} (h:a∈ms) (ha:xT a=false):isW os ms ss=false:=by
 have:ms.all xT=false:=List.all_eq_false.mpr ⟨a,h,by rw [ha];simp⟩
 unfold isW;rw [this];simp
theorem u1 {os ms ss:List D} {a:D} (h:a∈ss) (ha:zj os.length a=false):isW os ms ss=false:=by
 have:ss.all (zj os.length)=false:=List.all_eq_false.mpr ⟨a,h,by rw [ha];simp⟩
 unfold isW;rw [this];simp
theorem oB {n:Int} {xs:List D} {i:Int} (h:PyData.int i∈xs) (hi:i<0\/n<=i):zj n (.list xs)=false:=by
 have:xs.all (inR n)=false:=List.all_eq_false.mpr ⟨_,h,by
  show ¬(decide (0<=i)&&decide (i<n))=true
  rcases hi with hi | hi
  ·rw [decide_eq_false (by omega:¬0<=i)];simp
  ·rw [decide_eq_false (by omega:¬i<n)];simp⟩
 unfold zj;simp only [this]
 simp
theorem Gx {α:Type} {l:List α} {a b:α} {k:Nat} (h:b∈l.take k++[a]++l.drop (k+1)):b∈l\/b=a:=by
 rcases MG h with h | h
 ·rcases MG h with h | h
  ·exact .inl (List.mem_of_mem_take h)
  ·exact .inr (by simpa using h)
 ·exact .inl (List.mem_of_mem_drop h)
theorem GC {α:Type} {l:List α} {a:α} {k:Nat}:a∈l.take k++[a]++l.drop (k+1):=by simp
theorem GB {α:Type} {l:List α} {a:α} {k:Nat} (h:k<l.length):(l.take k++[a]++l.drop (k+1)).length=l.length:=by simp;omega
noncomputable abbrev GN (os ms ss:List D) (c:Int) (x2 x3 x7 x8:Option PV):Ev:=[MS (cX os ms ss),MS (.int c),x2,x3,MS (.list os),MS (.list ms),MS (.list ss),x7,x8]
theorem oq {Γ:Ev} {i j:Nat} {fa:F1} {l:List D} {k:Nat} {s:Sh} {d:D} (hi:Γ[i]?=some (MS (.list l))) (hj:Γ[j]?=some (MS (.int (k:Int)))) (ha:av .leaf (ae fa ag) Γ=.ok ⟨.lst .leaf,.list [d]⟩ Γ) (hl:l.length<=1000) :
  bz (bz (bP (fun k=>(none,some k)) (af i) (af j)) (av .leaf (ae fa ag))) (bP (fun k=>(some k,none)) (af i) (aD aJ (af j) (eK (.int 1)))) Γ=.ok ⟨.lst .leaf,.list (l.take k++[d]++l.drop (k+1))⟩ Γ:=by
 have q1:=eC (g:=fun k=>(none,some k)) (Γ:=Γ) (fa:=af i) (fb:=af j) (k:=(k:Int)) (aw hi) (aw hj) rfl
 have q2:=eC (g:=fun k=>(some k,none)) (Γ:=Γ) (fa:=af i) (fb:=aD aJ (af j) (eK (.int 1))) (k:=((k+1:Nat):Int)) (aw hi) (aF (g:=aJ) (aw hj) (aH (d:=.int 1)) (d:=.int ((k+1:Nat):Int)) (by rw [KC.add_int'];rfl)) rfl
 simp only at q1 q2
 rw [tu] at q1;rw [tw] at q2;exact cG (cG q1 ha rfl rfl (by simp;omega)) q2 rfl rfl (by simp;omega)
theorem j3 {n:Nat} {os ms ss:List D} (g:Gw (n:Int) n os ms ss) (h1:1<=n) (h24:n<=24) {c:Int}:∃sh os' ms' ss',bV [cX os ms ss,.int c]=.ok ⟨sh,cX os' ms' ss'⟩/\coer .leaf ⟨sh,cX os' ms' ss'⟩=true/\Wk 24 os' ms' ss'/\isW os' ms' ss'=false:=by
 have K:=g.wk (b:=24) h24
 have d1:=wx (c:=c) (k:=1) (b:=24) (by omega) (by omega) (by omega) (by omega)
 have i1:=Dx (c:=c) (k:=1) (b:=24) (by omega) (by omega) (by omega) (by omega)
 obtain ⟨z,d2,z0,z1⟩:=jr (c:=c) (k:=2) (b:=1000000000) (by omega) (by omega) (by omega) (by omega)
 obtain ⟨j,hj,d0⟩:=vv (c:=c) (k:=0) (b:=6) (by omega) (by omega) (by omega) (by omega)
 have m1:cK (.int (cR c 1 24)) (.int ((os.length:Nat):Int))=some (.int (((cR c 1 24).toNat % n:Nat):Int)):=by
  rw [g.lo,cy (by omega),Int.natCast_emod,Int.toNat_of_nonneg i1.1]
 have ha:(cR c 1 24).toNat % n<n:=Nat.mod_lt _ (by omega)
 generalize (cR c 1 24).toNat % n=a at m1 ha
 have s2:az false 2 (aD cK (ao 3 ai (ae (af 1) (ae (eK (.int 1)) (ae (eK (.int 24)) ag)))) (bG br (ae (af 4) ag))) (GN os ms ss c none none none none)=.nx (GN os ms ss c (MS (.int (a:Int))) none none none):=
  b7 (aF (cz (ax (aw rfl) (ax aH (ax aH ah))) d1 rfl rfl) (bO (g:=br) (d:=.int ((os.length:Nat):Int)) (ax (aw rfl) ah) (by simp)) m1) rfl (by simp)
 have s3:az false 3 (aD aJ (eK (.int 1)) (ao 3 ai (ae (af 1) (ae (eK (.int 2)) (ae (aD lE (eK (.int 10)) (eK (.int 9))) ag))))) (GN os ms ss c (MS (.int (a:Int))) none none none)=.nx (GN os ms ss c (MS (.int (a:Int))) (MS (.int (1+z))) none none):=
  b7 (aF aH (cz (ax (aw rfl) (ax aH (ax (aF aH aH (oV (b:=9) (by omega) (by omega))) ah))) (by exact d2) rfl rfl) KC.add_int') rfl (by simp)
 have T:∀k:Int,aO aA (aD cP (ao 3 ai (ae (af 1) (ae (eK (.int 0)) (ae (eK (.int 6)) ag)))) (eK (.int k))) (GN os ms ss c (MS (.int (a:Int))) (MS (.int (1+z))) none none)=.ok ((j:Int)==k) (GN os ms ss c (MS (.int (a:Int))) (MS (.int (1+z))) none none):=fun k=>
  gz (s:=.leaf) (aF (cz (ax (aw rfl) (ax aH (ax aH ah))) d0 rfl rfl) aH KC.eq_int)
 have un:gJ [4,5,6] (af 0) (aQ 9 [cX os ms ss,.int c])=.nx (GN os ms ss c none none none none):=Ak (ps:=[⟨.leaf,.list os⟩,⟨.leaf,.list ms⟩,⟨.leaf,.list ss⟩]) (aw rfl) rfl rfl rfl
 have ho:=g.lo
 have hm:=g.lm
 have hs:=g.ls
 have F:∀{k:Int} {g1:FS},¬(j:Int)=k->b6 (aO aA (aD cP (ao 3 ai (ae (af 1) (ae (eK (.int 0)) (ae (eK (.int 6)) ag)))) (eK (.int k)))) g1 aN (GN os ms ss c (MS (.int (a:Int))) (MS (.int (1+z))) none none)=.nx (GN os ms ss c (MS (.int (a:Int))) (MS (.int (1+z))) none none):=fun {k} {g1} hk=>by
  have t:=T k
  rw [show ((j:Int)==k)=false by simpa using hk] at t
  exact aY t nofun fun _=>rfl
 have Y:∀{k:Int} {g1 g2:FS} {p:PV},(j:Int)=k->g1 (GN os ms ss c (MS (.int (a:Int))) (MS (.int (1+z))) none none)=.rt p->ay (b6 (aO aA (aD cP (ao 3 ai (ae (af 1) (ae (eK (.int 0)) (ae (eK (.int 6)) ag)))) (eK (.int k)))) g1 aN) g2 (GN os ms ss c (MS (.int (a:Int))) (MS (.int (1+z))) none none)=.rt p:=fun {k} {g1} {g2} {p} hk hg=>by
  have t:=T k
  rw [show ((j:Int)==k)=true by simpa using hk] at t
  exact wu (aY t (fun _=>hg) nofun)
 have js:j=0\/j=1\/j=2\/j=3\/j=4\/j=5:=by omega
 rcases js with e | e | e | e | e | e
 ·refine ⟨_,[],[],[],aW (ak un (ak s2 (ak s3 (Y (by omega) (aX (cT (ax (b9 (s:=.leaf) ah rfl rfl rfl) (ax (b9 (s:=.leaf) ah rfl rfl rfl) (ax (b9 (s:=.leaf) ah rfl rfl rfl) ah))) rfl rfl) rfl))))),rfl,⟨fun a h=>by simp at h,fun a h=>by simp at h,fun a h=>by simp at h,by simp,by simp,by simp⟩,by decide +kernel⟩
 ·obtain ⟨ts,er,t30,tn,tin,tpw⟩:=g.s ss[a] (getElem_mem (by omega))
  have tl:ts.length<=24:=by
   have:=HR (p:=ts.map Int.toNat) (n:=n) (by
    rw [List.Nodup,pairwise_map];exact tpw.imp_of_mem fun {x y} hx hy hxy=>by
     have:=tin x hx
     have:=tin y hy
     omega) (fun x hx=>by
    obtain ⟨y,hy,rfl⟩:=List.mem_map.mp hx;have:=tin y hy
    omega)
   rw [length_map] at this;omega
  have ga:ss[a]?=some (.list (ts.map .int)):=by rw [MI (by omega),er]
  have rw7:az false 7 (bz (aj (af 6) (af 2)) (av .leaf (ae (aD aJ (aD gSub (bG br (ae (af 4) ag)) (eK (.int 1))) (af 3)) ag))) (GN os ms ss c (MS (.int (a:Int))) (MS (.int (1+z))) none none)=.nx (GN os ms ss c (MS (.int (a:Int))) (MS (.int (1+z))) (MS (.list (ts.map .int++[.int ((os.length:Int)-1+(1+z))]))) none):=
   b7 (cG (dU (j:=a) (aw rfl) (aw rfl) (rX (by omega)) ga rfl) (b9 (s:=.leaf) (ax (aF (aF (bO (g:=br) (d:=.int ((os.length:Nat):Int)) (ax (aw rfl) ah) (by simp)) aH KC.sub_int') (aw rfl) KC.add_int') ah) rfl rfl rfl) rfl rfl (by simp;omega)) rfl (by simp)
  refine ⟨_,os,ms,ss.take a++[.list (ts.map .int++[.int ((os.length:Int)-1+(1+z))])]++ss.drop (a+1),aW (ak un (ak s2 (ak s3 (ak (F (by omega)) (Y (by omega) (ak rw7 (aX (cT (ax (aw rfl) (ax (aw rfl) (ax (oq (k:=a) (s:=.leaf) rfl rfl (b9 (s:=.leaf) (ax (aw rfl) ah) rfl rfl rfl) (by omega)) ah))) rfl rfl) rfl))))))),rfl,⟨K.o,K.m,fun r hr=>?_,by omega,by omega,by rw [GB (by omega)];omega⟩,u1 GC (oB (i:=(os.length:Int)-1+(1+z)) (by simp) (.inr (by omega)))⟩
  rcases Gx hr with h | h
  ·exact K.s r h
  ·exact ⟨_,h,rowI_map.snoc,by simp;omega⟩
 ·refine ⟨_,os,ms,ss.take a++[.list []]++ss.drop (a+1),aW (ak un (ak s2 (ak s3 (ak (F (by omega)) (ak (F (by omega)) (Y (by omega) (aX (cT (ax (aw rfl) (ax (aw rfl) (ax (oq (k:=a) (s:=.leaf) rfl rfl (b9 (s:=.leaf) (ax (b9 (s:=.leaf) ah rfl rfl rfl) ah) rfl rfl rfl) (by omega)) ah))) rfl rfl) rfl))))))),rfl,⟨K.o,K.m,fun r hr=>?_,by omega,by omega,by rw [GB (by omega)];omega⟩,u1 GC rfl⟩
  rcases Gx hr with h | h
  ·exact K.s r h
  ·exact ⟨_,h,fun a h=>by simp at h,by simp⟩
 ·have od:∃o:Int,(o=-1\/o=2)/\aj (av .leaf (ae (eU bt (eK (.int 1))) (ae (eK (.int 2)) ag))) (aD cK (af 3) (eK (.int 2))) (GN os ms ss c (MS (.int (a:Int))) (MS (.int (1+z))) none none)=.ok ⟨.leaf,.int o⟩ (GN os ms ss c (MS (.int (a:Int))) (MS (.int (1+z))) none none):=by
   have l:=b9 (s:=.leaf) (Γ:=GN os ms ss c (MS (.int (a:Int))) (MS (.int (1+z))) none none) (ax (sO (g:=bt) (aH (d:=.int 1)) (d:=.int (-1)) rfl) (ax (aH (d:=.int 2)) ah)) rfl rfl rfl
   have md:=aF (g:=cK) (Γ:=GN os ms ss c (MS (.int (a:Int))) (MS (.int (1+z))) none none) (aw (i:=3) rfl) (aH (d:=.int 2)) (cy (by omega))
   rcases (by omega:(1+z) % 2=0\/(1+z) % 2=1) with q | q
   ·rw [q] at md;exact ⟨-1,.inl rfl,dU (j:=0) l md rfl rfl rfl⟩
   ·rw [q] at md;exact ⟨2,.inr rfl,dU (j:=1) l md rfl rfl rfl⟩
  obtain ⟨o,oo,eo⟩:=od;refine ⟨_,os.take a++[.int o]++os.drop (a+1),ms,ss,aW (ak un (ak s2 (ak s3 (ak (F (by omega)) (ak (F (by omega)) (ak (F (by omega)) (Y (by omega) (aX (cT (ax (oq (k:=a) (s:=.leaf) rfl rfl (b9 (s:=.leaf) (ax eo ah) rfl rfl rfl) (by omega)) (ax (aw rfl) (ax (aw rfl) ah))) rfl rfl) rfl)))))))),rfl,⟨fun r hr=>?_,K.m,K.s,by rw [GB (by omega)];omega,by omega,by omega⟩,EZ GC (by rcases oo with rfl | rfl<;>decide +kernel)⟩
  rcases Gx hr with h | h
  ·exact K.o r h
  ·exact ⟨_,h⟩
 ·have od:∃o:List D,iS o/\o.length<=30/\xT (.list o)=false/\az false 8 (aj (av .leaf (ae (av .leaf (ae (eK (.str "b")) (ae (eK (.str "a")) ag))) (ae (av .leaf (ae (eK (.str "a")) (ae (eK (.str "a")) ag))) (ae (av .leaf (ae (eK (.str "g")) ag)) (ae (av .leaf (ae (eK (.str "ab")) ag)) (ae (av .leaf (ae (eK (.str "")) ag)) ag)))))) (aD cK (af 3) (eK (.int 5)))) (GN os ms ss c (MS (.int (a:Int))) (MS (.int (1+z))) none none)=.nx (GN os ms ss c (MS (.int (a:Int))) (MS (.int (1+z))) none (MS (.list o))):=by
   have l:=b9 (s:=.leaf) (Γ:=GN os ms ss c (MS (.int (a:Int))) (MS (.int (1+z))) none none) (ax (b9 (s:=.leaf) (ax (aH (d:=.str "b")) (ax (aH (d:=.str "a")) ah)) rfl rfl rfl) (ax (b9 (s:=.leaf) (ax (aH (d:=.str "a")) (ax (aH (d:=.str "a")) ah)) rfl rfl rfl) (ax (b9 (s:=.leaf) (ax (aH (d:=.str "g")) ah) rfl rfl rfl) (ax (b9 (s:=.leaf) (ax (aH (d:=.str "ab")) ah) rfl rfl rfl) (ax (b9 (s:=.leaf) (ax (aH (d:=.str "")) ah) rfl rfl rfl) ah))))) rfl rfl rfl
   have md:=aF (g:=cK) (Γ:=GN os ms ss c (MS (.int (a:Int))) (MS (.int (1+z))) none none) (aw (i:=3) rfl) (aH (d:=.int 5)) (cy (by omega))
   have so:∀{x:Str},PyData.strOk x=true->iS [.str x]:=fun {x} hx a h=>⟨x,by simpa using h,hx⟩
   have s2:∀{x y:Str},PyData.strOk x=true->PyData.strOk y=true->iS [.str x,.str y]:=fun {x y} hx hy a h=>by
    rcases MH h with h | h
    ·exact ⟨x,h,hx⟩
    ·exact ⟨y,by simpa using h,hy⟩
   rcases (by omega:(1+z) % 5=0\/(1+z) % 5=1\/(1+z) % 5=2\/(1+z) % 5=3\/(1+z) % 5=4) with q | q | q | q | q
   ·rw [q] at md;exact ⟨_,s2 (by decide +kernel) (by decide +kernel),by simp,by decide +kernel,b7 (dU (j:=0) l md rfl rfl rfl) rfl (by simp)⟩
   ·rw [q] at md;exact ⟨_,s2 (by decide +kernel) (by decide +kernel),by simp,by decide +kernel,b7 (dU (j:=1) l md rfl rfl rfl) rfl (by simp)⟩
   ·rw [q] at md;exact ⟨_,so (by decide +kernel),by simp,by decide +kernel,b7 (dU (j:=2) l md rfl rfl rfl) rfl (by simp)⟩
   ·rw [q] at md;exact ⟨_,so (by decide +kernel),by simp,by decide +kernel,b7 (dU (j:=3) l md rfl rfl rfl) rfl (by simp)⟩
   ·rw [q] at md;exact ⟨_,so (by decide +kernel),by simp,by decide +kernel,b7 (dU (j:=4) l md rfl rfl rfl) rfl (by simp)⟩
  obtain ⟨o,o1,o2,o3,eo⟩:=od;refine ⟨_,os,ms.take a++[.list o]++ms.drop (a+1),ss,aW (ak un (ak s2 (ak s3 (ak (F (by omega)) (ak (F (by omega)) (ak (F (by omega)) (ak (F (by omega)) (Y (by omega) (ak eo (aX (cT (ax (aw rfl) (ax (oq (k:=a) (s:=.leaf) rfl rfl (b9 (s:=.leaf) (ax (aw rfl) ah) rfl rfl rfl) (by omega)) (ax (aw rfl) ah))) rfl rfl) rfl)))))))))),rfl,⟨K.o,fun r hr=>?_,K.s,by omega,by rw [GB (by omega)];omega,by omega⟩,E8 GC o3⟩
  rcases Gx hr with h | h
  ·exact K.m r h
  ·exact ⟨_,h,o1,o2⟩
 ·have q2:=eC (g:=fun k=>(some k,none)) (Γ:=GN os ms ss c (MS (.int (a:Int))) (MS (.int (1+z))) none none) (fa:=af 6) (fb:=eK (.int 1)) (k:=((1:Nat):Int)) (aw rfl) aH rfl
  simp only at q2
  rw [tw] at q2;refine ⟨_,os,ms,[.list [.int (-(1+z))]]++ss.drop 1,aW (ak un (ak s2 (ak s3 (ak (F (by omega)) (ak (F (by omega)) (ak (F (by omega)) (ak (F (by omega)) (ak (F (by omega)) (aX (cT (ax (aw rfl) (ax (aw rfl) (ax (cG (b9 (s:=.leaf) (ax (b9 (s:=.leaf) (ax (sO (g:=bt) (aw rfl) (d:=.int (-(1+z))) rfl) ah) rfl rfl rfl) ah) rfl rfl rfl) q2 rfl rfl (by simp;omega)) ah))) rfl rfl) rfl))))))))),rfl,⟨K.o,K.m,fun r hr=>?_,by omega,by omega,by simp;omega⟩,u1 (a:=.list [.int (-(1+z))]) (by simp) (oB (i:=-(1+z)) (by simp) (.inl (by omega)))⟩
  rcases MG hr with h | h
  ·exact ⟨_,by simpa using h,fun a h=>⟨_,by simpa using h⟩,by simp⟩
  ·exact K.s r (List.mem_of_mem_drop h)
end KQ.M
namespace T
open PySem PySem.Spec L2
open PyProof.Rows hiding St
section
variable {X:Cx} {N gl:List Str} {vs cs ls lo gs:List Nat} {W:XW} {a:Expr} {pos:Pos} {fa:F1}
theorem cs_unpt (S:Cp X N gl vs cs ls lo gs) (i j k:Nat) {x y z:Str} {px py pz pt:Pos} {kt:Nat} (hi:N[i]?=some x) (hj:N[j]?=some y) (hk:N[k]?=some z) (li:ls.contains i=true) (lj:ls.contains j=true) (lk:ls.contains k=true) (ha:PE X a (tE X.K W fa))
  (hs:swapsWithSole [.Tuple [.Name x px,.Name y py,.Name z pz] kt pt] a pos.line X.env=pure false) (hw:swappedStores [.Tuple [.Name x px,.Name y py,.Name z pz] kt pt] a X.env=pure none) :
  PS X (.Assign [.Tuple [.Name x px,.Name y py,.Name z pz] kt pt] a pos) (tS X.K W (gJ [i,j,k] fa)):=by
 have hN:X.N.Nodup:=by rw [S.hN];exact S.nd
 exact cN (ur ha (ux S.calm (DM (rY hN (by rw [S.hN];exact hi) (S.loc i x hi li).1 (S.loc i x hi li).2) (DM (rY hN (by rw [S.hN];exact hj) (S.loc j y hj lj).1 (S.loc j y hj lj).2) (DM (rY hN (by rw [S.hN];exact hk) (S.loc k z hk lk).1 (S.loc k z hk lk).2) oY)))) hs hw) fun _ _ _=>w6 (is:=[i,j,k])
end
end T
namespace TQ
open PySem PySem.Spec L2 T
open PyProof.Rows hiding St
variable {X:Cx} {N gl:List Str} {vs cs ls lo gs:List Nat} {W:XW} {a:Expr} {pos:Pos} {fa:F1}
theorem pT (S:Cp X N gl vs cs ls lo gs) (i j k:Nat) {x y z:Str} {px py pz pt:Pos} {kt:Nat} (hi:N[i]?=some x) (hj:N[j]?=some y) (hk:N[k]?=some z) (li:ls.contains i=true) (lj:ls.contains j=true) (lk:ls.contains k=true) (ha:Q (PE X a (tE X.K W fa)))
  (hs:swapsWithSole [.Tuple [.Name x px,.Name y py,.Name z pz] kt pt] a pos.line X.env=pure false) (hw:swappedStores [.Tuple [.Name x px,.Name y py,.Name z pz] kt pt] a X.env=pure none) :
  Q (PS X (.Assign [.Tuple [.Name x px,.Name y py,.Name z pz] kt pt] a pos) (tS X.K W (gJ [i,j,k] fa))):=⟨T.cs_unpt S i j k hi hj hk li lj lk ha.p hs hw⟩
end TQ
namespace T
open PySem PySem.Spec L2
open PyProof.Rows hiding St
def Fm:F1:=fun _=>.no
end T
namespace TQ
open PySem PySem.Spec L2 T
open PyProof.Rows hiding St
theorem oj {X:Cx} {W:XW} {e:Expr}:Q (PE X e (tE X.K W Fm)):=⟨fun pins s σ H Q I h=>by
 obtain ⟨He,O,Fs,Γ,E,h⟩:=h;exact h.elim⟩
end TQ
namespace T
open PySem PySem.Spec L2
open PyProof.Rows hiding St
section
variable {K:Fg} {H:Hp} {O:List Addr} {σ:St} {Γ Γ1:Ev} {W:XW} {f:F1} {fb:FB} {Q:VK} {QB:Bool->Hp->Prop}
theorem ID:∀n:Nat,(List.replicate n ([]:List Addr)).flatten=[]
 | 0=>rfl
 | n+1=>by rw [replicate_succ,flatten_cons,ID n];rfl
theorem Kz (nd:O.Nodup) (inH:∀a∈O,H a≠none) (hl:σ.length=Γ.length) (hs:∀(i:Nat) p,Γ[i]?=some (some p)->p.s=.leaf/\∃v,σ[i]?=some (some v)/\Rep K (bW H O) v p.d):EnvOk K H O (List.replicate Γ.length []) H σ Γ:=by
 have e:=ID Γ.length
 refine ⟨hl,List.length_replicate,Same.refl H,by rw [e,append_nil];exact nd,by rw [e,append_nil];exact inH,by rw [e];exact fun _ z=>(nomatch z),fun i p h=>?_⟩
 obtain ⟨h1,v,h2,h3⟩:=hs i p h;have hi:i<Γ.length:=(MM h).1
 refine ⟨by rw [h1];rfl,v,[],h2,by rw [getElem?_replicate,if_pos hi],?_⟩
 rw [h1,e,append_nil];exact .leaf h3
theorem ku {K:Fg} {H:Hp} {vs:List V} {xs:List Int} (hl:vs.length=(xs.map PySem.PyData.int).length) (hr:∀(i:Nat) v d,vs[i]?=some v->(xs.map PySem.PyData.int)[i]?=some d->Rep K H v d):vs=xs.map V.int:=by
 rw [length_map] at hl;apply ext_getElem?
 intro i;by_cases hi:i<vs.length
 ·have hi2:i<xs.length:=by omega
  have q:=hr i vs[i] (.int xs[i]) (MI hi) (by rw [getElem?_map,MI hi2];rfl)
  rw [MI hi,getElem?_map,MI hi2];generalize vs[i]=u at q
  cases q;rfl
 ·rw [getElem?_eq_none (by omega),getElem?_eq_none (by rw [length_map];omega)]
theorem Mt {xs:List Int} (E:EnvOk K H O (List.replicate Γ.length []) H σ Γ) (hf:f Γ=.ok ⟨.leaf,.list (xs.map .int)⟩ Γ1) (q:∀p H',Same H H'->SqL K H' p (xs.map V.int)->Q (.ref p) H'):tE K W f σ H Q:=by
 refine ⟨_,_,_,_,E,?_⟩
 rw [hf];intro v H' G Fs' A
 cases A.own with
 | leaf r=>
  cases r with
  | @lst p vs _ hq hl hr=>
   rw [ku hl hr] at hq;exact q p H' A.same (hid_le.seq hq)
end
theorem ya {H:Hp} {O O':List Addr} (s:∀a∈O,a∈O'):Same (bW H O') (bW H O):=fun b o hb=>by
 unfold bW at hb ⊢
 split at hb
 ·cases hb
 ·rename_i nb
  rw [if_neg fun z=>nb (s b z)]
  exact hb
theorem o7 {K:Fg} {O O':List Addr} {H:Hp} {s:Sh} {F:List Addr} {v:V} {d:D} (o:Own K O' H s F v d):s.isView=false->(∀a∈F,a∉O)->(∀a∈O,a∈O')->Rep K (bW H O) v d:=by
 induction o with
 | view _=>intro h;cases h
 | leaf r=>intro _ _ h;exact r.mono (ya h)
 | @lst s p vs ds Fs hv hp hl _ _ hi ih=>
  intro _ hf hO;refine .lst (.inl (.inl (wz hp (hf p mem_cons_self)))) hl fun i v d h1 h2=>?_
  have hF:i<Fs.length:=by have:=(MM h2).1;omega
  exact ih i v d Fs[i] h1 h2 (MI hF) hv (fun a ha=>hf a (MK _ (List.mem_flatten.mpr ⟨_,getElem_mem hF,ha⟩))) hO
 | @tup ss p vs ds Fs hv hp np hl hl2 hl3 _ hi ih=>
  intro _ hf hO;refine .tup (.inl (.inl (wz hp fun z=>np (hO p z)))) hl fun i v d h1 h2=>?_
  have hd:=(MM h2).1
  have hF:i<Fs.length:=by omega
  have hS:i<ss.length:=by omega
  exact ih i v d Fs[i] ss[i] h1 h2 (MI hF) (MI hS) (hv _ (getElem_mem hS)) (fun a ha=>hf a (List.mem_flatten.mpr ⟨_,getElem_mem hF,ha⟩)) hO
theorem LH {K:Fg} {H:Hp} {O:List Addr} {σ:St} {Γ Γ1:Ev} {W:XW} {f:F1} {Q:VK} {p:PV} (inH:∀a∈O,H a≠none) (E:EnvOk K H O (List.replicate Γ.length []) H σ Γ) (hf:f Γ=.ok p Γ1) (hv:p.s.isView=false) (q:∀v H',Same H H'->Rep K (bW H' O) v p.d->Q v H'):tE K W f σ H Q:=by
 refine ⟨_,_,_,_,E,?_⟩
 rw [hf];intro v H' G Fs' A
 refine q v H' A.same (o7 A.own hv (fun a ha z=>?_) fun a ha=>MF _ (ME _ ha))
 rcases A.new a (MF _ ha) with y | y
 ·rw [ID] at y;cases y
 ·exact inH a z y
noncomputable abbrev fK:List Str:=["rooms", "places", "room"]
noncomputable abbrev my:List Str:=["sorted"]
noncomputable def qb (K:Fg):Sp:=fun vs H Q _=>∃(p d:Addr) (xs:List Int) (kvs:List (bJ×V)) (h:Int->Option Int),vs=[.ref p,.ref d]/\SqL K H p (xs.map V.int)/\H d=some (.dK kvs)/\(∀k:Int,di kvs (.inl k)=(h k).map V.int)/\xs.length<64 /\
 ∀l H',Same H H'->H l=none->H' l=some (.lst ((PySem.W.sortI (xs.filterMap h)).map V.int))->Q (.ref l) H'
noncomputable def JC (K:Fg):TS:=sU (AH (ub K) (cH (fO [2] (gY K (bg 0)) (gName 2) (tB (AG (bg 2) (bg 1))) (sZ (bg 1) (bg 2))) fD))
theorem yj {h:Int->Option Int} {xs:List Int} {i:Nat} (hi:i<xs.length):(xs.take (i+1)).filterMap h=(xs.take i).filterMap h++(h xs[i]).toList:=by
 rw [List.take_succ,MI hi,List.filterMap_append]
 cases e:h xs[i]<;>simp [e]
theorem El {K:Fg} {vs:List V} {H:Hp} {Q:VK} {E:XK} {Qn:St->Hp->Prop} (h:qb K vs H Q E):JC K { nx:=Qn,rt:=Q } (L2.start fK vs) H:=by
 obtain ⟨p,d,xs,kvs,f,rfl,hq,hd,hf,h64,q⟩:=h;refine ⟨.ref p,rfl,p,rfl,⟨_,hq⟩,fun L hL=>?_⟩
 have hbl:bA [2] (L2.start fK [V.ref p,.ref d])=[some (.ref p),some (.ref d),none]:=by
  show bA [2] [some (V.ref p),some (.ref d),none]=_
  simp [bA]
 refine ⟨fun i m ys H2=>m=xs.length-i/\i<=xs.length/\ys=((xs.take i).filterMap f).map V.int/\H2 L=some (.lst ys)/\Same H H2,⟨xs.length,by simp,Nat.zero_le _,by simp,dO,gB hL⟩,?_⟩
 rintro i m ys H2 ⟨rfl,hi,rfl,hLs,sH⟩
 refine ⟨hLs,?_⟩
 have hq2:SqL K H2 p (xs.map V.int):=sH.seq hq
 by_cases hlt:i<xs.length
 case neg=>
  left
  have hie:i=xs.length:=by omega
  subst hie;refine ⟨⟨_,hq2,by rw [length_map];exact MQ _⟩,?_⟩
  rw [take_of_length_le (MQ _)] at hLs;refine ⟨L,xs.filterMap f,rfl,.inl (.inl hLs),Nat.lt_of_le_of_lt (List.length_filterMap_le f xs) h64,fun l hl=>q l _ (sH.trans (gB hl)) (sH.free hl) dO⟩
 case pos=>
  right
  have e1:(xs.map V.int)[i]?=some (.int xs[i]):=by rw [getElem?_map,MI hlt];rfl
  have hb:(1000:Nat)<=sizeLine:=by decide
  refine ⟨⟨_,_,hq2,e1⟩,by rw [length_map];have:=List.length_filterMap_le f (xs.take i);rw [length_take] at this;omega,?_⟩
  rintro v H3 ⟨rfl,hv⟩
  have ev:v=.int xs[i]:=Option.some.inj ((hv _ hq2).symm.trans e1)
  subst ev;rw [hbl];show HI [some (.ref p),some (.ref d),none] [some (.ref p),some (.ref d),some (.int xs[i])]/\_
  refine ⟨⟨rfl,fun j u h=>?_⟩,?_⟩
  ·match j,h with
   | 0,h=>exact h
   | 1,h=>exact h
   | 2,h=>cases h
   | j+3,h=>cases h
  have g:=DGet.k (k:=Sum.inl xs[i]) (sH _ _ hd)
  rw [hf] at g;refine ⟨.int xs[i],rfl,.ref d,rfl,d,_,rfl,g,_,rfl,?_⟩
  have ft:=yj (h:=f) hlt
  cases e:f xs[i] with
  | none=>
   rw [e] at ft;refine gk ⟨xs.length-(i+1),by omega,rfl,hlt,by rw [ft];simp,hLs,sH⟩
  | some z=>
   rw [e] at ft g
   refine iK ⟨.ref d,rfl,.int xs[i],rfl,d,.int z,rfl,g,hLs,xs.length-(i+1),by omega,rfl,hlt,by rw [ft];simp,dO,fun c o hc=>?_⟩
   rw [cO (fun w=>by subst w;rw [hL] at hc;cases hc)]
   exact sH c o hc
end T
namespace KC
open PySem PySem.Spec L2 T PySem.SeqAt
open PyProof.Rows hiding St
noncomputable def kd (i:Nat):List Nat->List (bJ×V)
 | []=>[]
 | r::R=>(.inl (r:Int),.int (i:Int))::kd (i+1) R
noncomputable def B2 (R:List Nat) (x:Int):Option Int:=(R.findIdx? fun r:Nat=>decide ((r:Int)=x)).map fun k:Nat=>(k:Int)
theorem Ii {x:Int}:∀(R:List Nat) (i:Nat),di (kd i R) (.inl x)=(R.findIdx? fun r:Nat=>decide ((r:Int)=x)).map fun k=>V.int ((k+i:Nat):Int)
 | [],i=>rfl
 | r::R,i=>by
  rw [List.findIdx?_cons];by_cases e:(r:Int)=x
  ·rw [decide_eq_true e]
   unfold kd;rw [DO (by rw [e])]
   simp
  ·rw [decide_eq_false e]
   unfold kd;rw [DN (fun z=>e (Sum.inl.inj z)),Ii R (i+1)]
   simp only [Bool.false_eq_true,if_false,Option.map_map]
   congr 1
   funext k
   simp
   omega
theorem BU {R:List Nat} (x:Int):di (kd 0 R) (.inl x)=(B2 R x).map V.int:=by
 rw [Ii,B2,Option.map_map];rfl
theorem lr:∀(l:List Nat) (i a:Nat),kd i (l++[a])=kd i l++[(.inl (a:Int),.int ((i+l.length:Nat):Int))]
 | [],i,a=>rfl
 | b::l,i,a=>by
  show (Sum.inl (b:Int),V.int (i:Int))::kd (i+1) (l++[a])=_
  rw [lr l (i+1) a];show _=(Sum.inl (b:Int),V.int (i:Int))::(kd (i+1) l++_)
  rw [length_cons,show i+1+l.length=i+(l.length+1) by omega]
theorem pf:∀(l:List Nat) (i:Nat),(kd i l).length=l.length
 | [],_=>rfl
 | a::l,i=>by show (kd (i+1) l).length+1=_;rw [pf l (i+1)];rfl
noncomputable def uw (R ts:List Nat):List Nat:=(List.range R.length).filter fun k=>ts.contains (R.getD k 0)
noncomputable def eG (w:Wd) (R:List Nat):Wd:=⟨R.length,R.map fun r=>.int (zy w r),R.map w.mks,R.map fun r=>uw R (w.stp r)⟩
theorem GQ {R:List Nat} (nd:R.Nodup) {t:Nat} {k:Int}:B2 R (t:Int)=some k↔∃j:Nat,k=(j:Int)/\R[j]?=some t:=by
 unfold B2;constructor
 ·intro h
  obtain ⟨j,h1,rfl⟩:=Option.map_eq_some_iff.mp h;obtain ⟨hj,h2,_⟩:=List.findIdx?_eq_some_iff_getElem.mp h1
  refine ⟨j,rfl,?_⟩
  rw [MI hj];have:((R[j]:Nat):Int)=(t:Int):=by simpa using h2
  rw [Int.ofNat_inj.mp this]
 ·rintro ⟨j,rfl,h⟩
  obtain ⟨hj,e⟩:=MM h
  refine Option.map_eq_some_iff.mpr ⟨j,List.findIdx?_eq_some_iff_getElem.mpr ⟨hj,by rw [e];simp,fun i hi=>?_⟩,rfl⟩
  have:=(List.nodup_iff_pairwise_ne.mp nd)
  have hne:=List.pairwise_iff_getElem.mp this i j (by omega) hj hi
  rw [e] at hne;simp
  intro z;exact hne (Int.ofNat_inj.mp z)
theorem uv {R ts:List Nat} (nd:R.Nodup) (rs:ts.Nodup):PySem.W.sortI ((ts.map fun t:Nat=>(t:Int)).filterMap (B2 R))=(uw R ts).map fun k:Nat=>(k:Int):=by
 symm
 refine PySem.W.eq_sortI ?_ ?_
 ·have n1:((uw R ts).map fun k:Nat=>(k:Int)).Nodup:=by
   refine List.pairwise_map.mpr (List.Pairwise.imp (R:=fun a b:Nat=>a≠b) (fun h z=>h (Int.ofNat_inj.mp z)) ?_)
   exact (nodup_range).sublist filter_sublist
  have n2:((ts.map fun t:Nat=>(t:Int)).filterMap (B2 R)).Nodup:=by
   rw [List.filterMap_map];refine List.Pairwise.filterMap _ (fun a b hab x hx y hy=>?_) rs
   intro z;subst z;obtain ⟨j,e1,e2⟩:=(GQ nd).mp hx;obtain ⟨j',e3,e4⟩:=(GQ nd).mp hy;rw [e1] at e3;rw [<-Int.ofNat_inj.mp e3,e2] at e4;exact hab (Option.some.inj e4)
  refine (List.perm_ext_iff_of_nodup n1 n2).mpr fun x=>?_
  rw [List.filterMap_map,List.mem_filterMap,mem_map];constructor
  ·rintro ⟨k,hk,rfl⟩
   obtain ⟨h1,h2⟩:=List.mem_filter.mp hk;have h1:=List.mem_range.mp h1
   have e:R.getD k 0=R[k]:=by rw [MJ,MI h1];rfl
   rw [e] at h2;exact ⟨R[k],List.contains_iff_mem.mp h2,(GQ nd).mpr ⟨k,rfl,MI h1⟩⟩
  ·rintro ⟨t,ht,h⟩
   obtain ⟨j,rfl,h2⟩:=(GQ nd).mp h;obtain ⟨hj,e⟩:=MM h2
   refine ⟨j,List.mem_filter.mpr ⟨List.mem_range.mpr hj,List.contains_iff_mem.mpr ?_⟩,rfl⟩
   rw [MJ,h2];exact ht
 ·rw [pairwise_map]
  exact ((List.pairwise_lt_range).sublist filter_sublist).imp fun h=>by omega
theorem Kg:∀{l m:List Nat},l.Nodup->(∀x∈l,x∈m)->l.length<=m.length
 | [],_,_,_=>Nat.zero_le _
 | a::l,m,h,hm=>by
  have ha:=hm a mem_cons_self
  obtain ⟨h1,h2⟩:=List.nodup_cons.mp h;have:=Kg (m:=m.erase a) h2 fun x hx=>(List.mem_erase_of_ne (fun z:x=a=>h1 (z▸hx))).mpr (hm x (MK _ hx))
  rw [List.length_erase_of_mem ha] at this;have:=length_pos_of_mem ha
  rw [length_cons];omega
theorem Kf {l:List Nat} {n:Nat} (h:l.Nodup) (hx:∀x∈l,x<n):l.length<=n:=by
 have:=Kg (m:=List.range n) h fun x hx'=>List.mem_range.mpr (hx x hx')
 rwa [length_range] at this
noncomputable abbrev fL:List Str:=["world", "rooms", "places", "place", "room", "owners", "marks", "steps"]
noncomputable abbrev nV:List Str:=["enumerate", "list", "places_of"]
noncomputable abbrev zw:F1:=aB .leaf 4 (aR (af 1)) aT (aj (aj (af 0) (eK (.int 0))) (af 4))
noncomputable abbrev zx:F1:=aB .leaf 4 (aR (af 1)) aT (vZ (aj (aj (af 0) (eK (.int 1))) (af 4)))
noncomputable abbrev uH:F1:=aj (aj (af 0) (eK (.int 2))) (af 4)
noncomputable def JD (K:Fg):L2.TS:=
 d7 (fg sY (gName 2)) (d7 (wO (zE K (cH (bg 1) fD)) (Cr K 2 (pB (gName 3) (pB (gName 4) Cs))) (oC (bg 2) (bg 4) (bg 3)))
 (d7 (fg (tE K W0 zw) (gName 5)) (d7 (fg (tE K W0 zx) (gName 6))
 (d7 (fun D σ H=>fO [4] (gY K (bg 1)) (gName 4) ou (kz (qb K) [] L2.E0 (cH (tE K W0 uH) (cH (bg 2) fD))) σ H fun v H'=>D.nx (σ.set 7 (some v)) H')
 (sU (AC (cH (bg 5) (cH (bg 6) (cH (bg 7) fD)))))))))
structure ka (w:Wd) (R:List Nat):Prop where
 ok:w.Ok
 nd:R.Nodup
 lt:∀r∈R,r<w.n
 len:R.length<=60
 rs:∀r,r<w.n->(w.stp r).Nodup
noncomputable abbrev GP (w:Wd) (R:List Nat) (x4:Option PV):Ev:=[MS w.enc,MS (aC R),none,none,x4,none,none,none]
theorem Cz {w:Wd} {R:List Nat} (h:ka w R):zw (GP w R none)=.ok ⟨.lst .leaf,.list (R.map fun r=>.int (zy w r))⟩ (GP w R none):=
 mC rm R (fun r=>⟨.leaf,.int (zy w r)⟩) (st:=true) (bQ (s:=.leaf) (aw rfl) rfl) (by simp) rfl (by have:=h.len;omega) fun r hr=>⟨BA h.ok rfl (aw rfl) (h.lt r hr),rfl⟩
theorem CA {w:Wd} {R:List Nat} (h:ka w R):zx (GP w R none)=.ok ⟨.lst .leaf,.list ((R.map w.mks).map ot)⟩ (GP w R none):=by
 have e:=mC (Γ:=GP w R none) (s:=.leaf) (i:=4) (fi:=aR (af 1)) (fe:=vZ (aj (aj (af 0) (eK (.int 1))) (af 4))) rm R (fun r=>⟨.lst .leaf,ot (w.mks r)⟩) (st:=true) (bQ (s:=.leaf) (aw rfl) rfl) (by simp) rfl (by have:=h.len;omega) fun r hr=>⟨Jc (BP h.ok rfl (aw rfl) (h.lt r hr)) rfl,rfl⟩
 rw [map_map];exact e
theorem ql {K:Fg} {H:Hp} {O:List Addr} {vs:List V} {w:Wd} {R:List Nat} {Q:VK} {Qn:St->Hp->Prop} (h:ka w R) (nd:O.Nodup) (inH:∀a∈O,H a≠none) (rs:Reps K (bW H O) vs [w.enc,aC R])
  (q:∀v H' G,RetOk K H O ⟨.leaf,(eG w R).enc⟩ v H' G->Q v H'):JD K { nx:=Qn,rt:=Q } (L2.start fL vs) H:=by
 have hvl:vs.length=2:=rs.1
 match vs,hvl,rs with
 | [v0,v1],_,rs=>
 have r0:=rs.2 0 v0 _ rfl rfl
 have r1:=rs.2 1 v1 _ rfl rfl
 have inS:∀{H'},Same H H'->∀a∈O,H' a≠none:=fun {H'} s a ha=>by
  cases e:H a with
  | none=>exact absurd e (inH a ha)
  | some o=>rw [s a o e];exact Option.some_ne_none _
 have mono:∀{H'},Same H H'->Same (bW H O) (bW H' O):=fun s=>sq s fun a ha=>.inl ha
 have EE:∀(H':Hp) (σ:St),Same H H'->σ.length=8->σ[0]?=some (some v0)->σ[1]?=some (some v1)->∀x4:Option Nat,(∀r,x4=some r->σ[4]?=some (some (.int (r:Int))))->EnvOk K H' O (List.replicate (GP w R (x4.map fun r=>(⟨.leaf,rm r⟩:PV))).length []) H' σ (GP w R (x4.map fun r=>(⟨.leaf,rm r⟩:PV))):=fun H' σ s l s0 s1 x4 s4=>by
  refine Kz nd (inS s) l fun i x hx=>?_
  match i,hx with
  | 0,hx=>cases hx;exact ⟨rfl,_,s0,r0.mono (mono s)⟩
  | 1,hx=>cases hx;exact ⟨rfl,_,s1,r1.mono (mono s)⟩
  | 4,hx=>
   cases x4 with
   | none=>cases hx
   | some r=>cases hx;exact ⟨rfl,_,s4 r rfl,.int r⟩
  | 2,hx=>cases hx
  | 3,hx=>cases hx
  | 5,hx=>cases hx
  | 6,hx=>cases hx
  | 7,hx=>cases hx
  | i+8,hx=>cases hx
 cases r1 with
 | @lst pr ws _ hqr hl hr=>
 have ews:ws=R.map fun r:Nat=>V.int (r:Int):=by
  have:=ku (xs:=R.map fun r:Nat=>(r:Int)) (by rw [map_map];exact hl) (by rw [map_map];exact hr)
  rw [this,map_map];rfl
 subst ews;have sqR:∀{H'},Same H H'->SqL K H' pr (R.map fun r:Nat=>V.int (r:Int)):=fun s=>s.seq (hid_le.seq hqr)
 have hlen:=h.len
 have hbz:(1000:Nat)<=sizeLine:=by decide
 intro d hd;have sd:Same H (bF H d (.dK [])):=gB hd
 refine ⟨_,rfl,pr,rfl,⟨_,sqR sd⟩,fun k m σ' H'=>m=R.length-k/\k<=R.length/\(∃x3 x4,σ'=[some v0,some (.ref pr),some (.ref d),x3,x4,none,none,none])/\H' d=some (.dK (kd 0 (R.take k)))/\Same H H',⟨R.length,by simp,Nat.zero_le _,⟨none,none,rfl⟩,dO,sd⟩,?_⟩
 rintro k m σ' H' ⟨rfl,hk,⟨x3,x4,rfl⟩,hD,sH⟩
 by_cases hlt:k<R.length
 case pos=>
  right
  have e1:(R.map fun r:Nat=>V.int (r:Int))[k]?=some (.int (R[k]:Int)):=by rw [getElem?_map,MI hlt];rfl
  refine ⟨⟨_,_,sqR sH,e1⟩,fun σ2 H2=>(∃x3 x4,σ2=[some v0,some (.ref pr),some (.ref d),x3,x4,none,none,none])/\H2 d=some (.dK (kd 0 (R.take (k+1))))/\Same H H2,fun σ2 H2 q2=>⟨R.length-(k+1),by omega,rfl,hlt,q2⟩,?_⟩
  rintro x H2 ⟨T,v,rfl,hT,rfl,hv⟩
  have ev:v=.int (R[k]:Int):=Option.some.inj ((hv _ (sqR sH)).symm.trans e1)
  subst ev;have hdT:d≠T:=fun z=>by rw [<-z,hD] at hT;cases hT
  have sT:Same H (bF H' T (.tup [.int (k:Int),.int (R[k]:Int)])):=sH.trans (gB hT)
  refine ⟨T,_,rfl,.inl (.inl dO),rfl,_,_,rfl,_,_,rfl,rfl,?_⟩
  have hD2:bF H' T (.tup [.int (k:Int),.int (R[k]:Int)]) d=some (.dK (kd 0 (R.take k))):=by rw [cO hdT];exact hD
  have hnone:di (kd 0 (R.take k)) (.inl (R[k]:Int))=none:=by
   rw [Ii,Option.map_eq_none_iff,List.findIdx?_eq_none_iff];intro x hx;have hx':x≠R[k]:=fun z=>by
    obtain ⟨i,hi,e⟩:=getElem_of_mem hx;rw [length_take] at hi;rw [List.getElem_take] at e;have:=List.pairwise_iff_getElem.mp (List.nodup_iff_pairwise_ne.mp h.nd) i k (by omega) hlt (by omega)
    exact this (e.trans z)
   simp
   omega
  refine ⟨_,rfl,_,rfl,_,rfl,d,_,rfl,DPut.k (k:=Sum.inl (R[k]:Int)) hD2 (by rw [pf,length_take];omega),⟨_,_,rfl⟩,?_,fun c o hc=>?_⟩
  ·rw [dO,kS _ hnone,List.take_succ,MI hlt]
   show _=some (HO.dK (kd 0 (R.take k++[R[k]])))
   rw [lr,length_take,Nat.min_eq_left (by omega),Nat.zero_add]
  ·rw [cO (fun z=>by subst z;rw [hd] at hc;cases hc)]
   exact sT c o hc
 case neg=>
  left
  refine ⟨⟨_,sqR sH,by rw [length_map];omega⟩,?_⟩
  rw [take_of_length_le (by omega)] at hD
  clear hk hlt;refine LH (inS sH) (EE H' _ sH rfl rfl rfl none (fun _ z=>nomatch z)) (Cz h) rfl fun v5 H5 s5 p5=>?_
  refine LH (inS (sH.trans s5)) (EE H5 _ (sH.trans s5) rfl rfl rfl none (fun _ z=>nomatch z)) (CA h) rfl fun v6 H6 s6 p6=>?_
  have s06:Same H H6:=(sH.trans s5).trans s6
  have hD6:H6 d=some (.dK (kd 0 R)):=s6 _ _ (s5 _ _ hD)
  refine ⟨_,rfl,pr,rfl,⟨_,sqR s06⟩,fun L hL=>?_⟩
  have hbl:bA [4] [some v0,some (V.ref pr),some (.ref d),x3,x4,some v5,some v6,none]=[some v0,some (.ref pr),some (.ref d),x3,none,some v5,some v6,none]:=by simp [bA]
  refine ⟨fun i m ys H2=>m=R.length-i/\i<=R.length/\(∃ls:List Addr,ys=ls.map V.ref/\ls.length=i/\∀(j:Nat) l,ls[j]?=some l->l≠L/\H6 l=none/\H2 l=some (.lst ((uw R (w.stp (R.getD j 0))).map fun k:Nat=>V.int (k:Int))))/\H2 L=some (.lst ys)/\Same H6 H2,⟨R.length,by simp,Nat.zero_le _,⟨[],rfl,rfl,fun j l z=>by simp at z⟩,dO,gB hL⟩,?_⟩
  rintro i m ys H2 ⟨rfl,hi,⟨ls,rfl,hll,hls⟩,hLs,s2⟩
  refine ⟨hLs,?_⟩
  have s02:Same H H2:=s06.trans s2
  by_cases hlt2:i<R.length
  case pos=>
   right
   have e1:(R.map fun r:Nat=>V.int (r:Int))[i]?=some (.int (R[i]:Int)):=by rw [getElem?_map,MI hlt2];rfl
   refine ⟨⟨_,_,sqR s02,e1⟩,by rw [length_map];omega,?_⟩
   rintro v H3 ⟨rfl,hv⟩
   have ev:v=.int (R[i]:Int):=Option.some.inj ((hv _ (sqR s02)).symm.trans e1)
   subst ev;rw [show ([some v0,some (V.ref pr),some (V.ref d),x3,x4,none,none,none].set 5 (some v5)).set 6 (some v6)=[some v0,some (V.ref pr),some (.ref d),x3,x4,some v5,some v6,none] from rfl,hbl]
   show HI [some v0,some (.ref pr),some (.ref d),x3,none,some v5,some v6,none] [some v0,some (.ref pr),some (.ref d),x3,some (.int (R[i]:Int)),some v5,some v6,none]/\_
   refine ⟨⟨rfl,fun j u hu=>?_⟩,?_⟩
   ·match j,hu with
    | 0,hu=>exact hu
    | 1,hu=>exact hu
    | 2,hu=>exact hu
    | 3,hu=>exact hu
    | 4,hu=>cases hu
    | 5,hu=>exact hu
    | 6,hu=>exact hu
    | 7,hu=>exact hu
    | j+8,hu=>cases hu
   refine EY ?_
   have hRi:R[i]<w.n:=h.lt _ (getElem_mem hlt2)
   have est:uH (GP w R (MS (rm R[i])))=.ok ⟨.leaf,.list ((((w.stp R[i]).map fun t:Nat=>(t:Int))).map .int)⟩ (GP w R (MS (rm R[i]))):=by
    rw [map_map];exact oz h.ok rfl (aw rfl) hRi
   refine Mt (EE _ _ s02 rfl rfl rfl (some R[i]) (fun r hr=>by cases hr;rfl)) est fun p3 H3 s3 q3=>?_
   have lst:(w.stp R[i]).length<64:=by
    have:=h.rs _ hRi
    have l1:(w.stp R[i]).length<=w.n:=by
     exact Kf (h.rs _ hRi) fun x hx=>h.ok.stp_lt hx
    have:=h.ok.h24
    omega
   refine ⟨_,rfl,p3,d,(w.stp R[i]).map fun t:Nat=>(t:Int),kd 0 R,B2 R,rfl,q3,s3 _ _ (s2 _ _ hD6),BU,by rw [length_map];exact lst,fun l H4 s4 hl4 hl=>?_⟩
   rw [uv h.nd (h.rs _ hRi),map_map] at hl;have hL3:H3 L=some (.lst (ls.map V.ref)):=s3 _ _ hLs
   have hL4:H4 L=some (.lst (ls.map V.ref)):=s4 _ _ hL3
   have hlL:l≠L:=fun z=>by rw [z,hL3] at hl4;cases hl4
   have hl6:H6 l=none:=(s2.trans s3).free hl4
   refine ⟨hL4,R.length-(i+1),by omega,rfl,hlt2,⟨ls++[l],by simp,by rw [length_append,hll];rfl,fun j l' hj=>?_⟩,dO,fun c o hc=>?_⟩
   ·by_cases hj2:j<ls.length
    ·rw [getElem?_append_left hj2] at hj
     obtain ⟨a1,a2,a3⟩:=hls j l' hj
     refine ⟨a1,a2,?_⟩
     rw [cO a1];exact s4 _ _ (s3 _ _ a3)
    ·have hje:j=ls.length:=by
      have:=(MM hj).1
      rw [length_append,length_singleton] at this;omega
     subst hje;rw [getElem?_append_right (MQ _),Nat.sub_self] at hj
     cases hj;refine ⟨hlL,hl6,?_⟩
     rw [cO hlL,hll,MJ,MI hlt2];exact hl
   ·rw [cO (fun z=>by subst z;rw [hL] at hc;cases hc)]
    exact s4 _ _ (s3 _ _ (s2 _ _ hc))
  case neg=>
   left
   have hie:i=R.length:=by omega
   subst hie;refine ⟨⟨_,sqR s02,by rw [length_map];omega⟩,?_⟩
   refine ⟨_,rfl,_,rfl,_,rfl,by show 3<=sizeLine;decide,fun t ht=>?_⟩
   have sT:Same H2 (bF H2 t (.tup [v5,v6,.ref L])):=gB ht
   have nO:∀{a},H6 a=none->a∉O:=fun {a} ha z=>inS s06 a z ha
   have tO:t∉O:=fun z=>inS s02 t z ht
   refine q _ _ [] ⟨s02.trans sT,(fun _ z=>nomatch z),(fun _ z=>nomatch z),nodup_nil,.leaf (.tup (vs:=[v5,v6,.ref L]) (.inl (.inl (wz dO tO))) rfl fun j v dd e1 e2=>?_),rfl⟩
   have m5:Same (bW H5 O) (bW (bF H2 t (.tup [v5,v6,.ref L])) O):=sq ((s6.trans s2).trans sT) fun a ha=>.inl ha
   have m6:Same (bW H6 O) (bW (bF H2 t (.tup [v5,v6,.ref L])) O):=sq (s2.trans sT) fun a ha=>.inl ha
   match j,e1,e2 with
   | 0,e1,e2=>cases e1;cases e2;exact p5.mono m5
   | 1,e1,e2=>cases e1;cases e2;exact p6.mono m6
   | 2,e1,e2=>
    cases e1
    cases e2;refine .lst (.inl (.inl (wz (sT _ _ hLs) (nO hL)))) ?_ ?_
    ·simp [eG,hll]
    ·intro i' v' d' f1 f2
     have hi':i'<ls.length:=by
      have:=(MM f1).1
      rwa [length_map] at this
     rw [getElem?_map,MI hi'] at f1
     cases f1;obtain ⟨a1,a2,a3⟩:=hls i' _ (MI hi')
     have hR:i'<R.length:=by omega
     have ed:d'=aC (uw R (w.stp (R.getD i' 0))):=by
      simp only [eG,map_map] at f2
      rw [getElem?_map,MI hR] at f2
      cases f2;rw [MJ,MI hR];rfl
     rw [ed];refine .lst (.inl (.inl (wz (sT _ _ a3) (nO a2)))) (by simp) fun i3 v3 d3 g1 g2=>?_
     rw [getElem?_map] at g1 g2
     cases e:(uw R (w.stp (R.getD i' 0)))[i3]? with
     | none=>rw [e] at g1;cases g1
     | some z=>rw [e] at g1 g2;cases g1;cases g2;exact .int _
   | j+3,e1,e2=>cases e1
theorem oH {R S:List Nat} (h:aC R=aC S):R=S:=(map_inj_right (f:=rm) fun a b e=>Int.ofNat_inj.mp (PyData.int.inj e)).mp (PyData.list.inj h)
theorem wK {R S:List Str} (h:ot R=ot S):R=S:=(map_inj_right (f:=PyData.str) fun a b e=>PyData.str.inj e).mp (PyData.list.inj h)
theorem yl {w v:Wd} (ok:w.Ok) (ov:v.Ok) (h:w.enc=v.enc):w=v:=by
 have h:=PyData.tuple.inj h
 injection h with h1 h
 injection h with h2 h
 injection h with h3 _
 have h1:=PyData.list.inj h1
 have h2:=(map_inj_right (f:=ot) fun a b e=>wK e).mp (PyData.list.inj h2)
 have h3:=(map_inj_right (f:=aC) fun a b e=>oH e).mp (PyData.list.inj h3)
 have hn:w.n=v.n:=by rw [<-ok.ls,<-ov.ls,h3]
 cases w
 cases v
 cases hn
 cases h1
 cases h2
 cases h3;rfl
noncomputable def LR (ds:List MR):Prop:=∃x:Wd×List Nat,ds=[x.1.enc,aC x.2]/\ka x.1 x.2
open Classical in
noncomputable def cg (ds:List MR):Res:=if h:LR ds then .ok ⟨.leaf,(eG h.choose.1 h.choose.2).enc⟩ else .no
theorem nE {w:Wd} {R:List Nat} (h:ka w R):cg [w.enc,aC R]=.ok ⟨.leaf,(eG w R).enc⟩:=by
 have H:LR [w.enc,aC R]:=⟨(w,R),rfl,h⟩
 unfold cg;rw [dif_pos H];obtain ⟨e,o⟩:=H.choose_spec;injection e with e1 e
 injection e with e2 _
 rw [<-yl h.ok o.ok e1,<-oH e2]
theorem lq {ds:List MR} {p:PV} (h:cg ds=.ok p):∃w R,ds=[w.enc,aC R]/\ka w R/\p=⟨.leaf,(eG w R).enc⟩:=by
 unfold cg at h;split at h
 ·rename_i H
  cases h;obtain ⟨e,o⟩:=H.choose_spec;exact ⟨_,_,e,o,rfl⟩
 ·cases h
noncomputable def vT (P:Program) (w:World) (K:Fg) (mg:Str->Option Value) (base:Heap) (j:Nat):Prop:=
 ∃(f:Addr) (fd:FuncData) (ps:List Str),dg P w K mg base ic j f fd ps (qb K)/\mg "places_of"=some (.ref f)/\PySem.W.keepIn K (.ref f)=true/\Binds K fd ps []
theorem EI {P:Program} {w:World} {K:Fg} {mg:Str->Option Value} {base:Heap} {f:Addr} {fd:FuncData} {st:Stmt} {k:Nat} (F:Fun K "places_of" "places_of" st f fd) (hm:mg "places_of"=some (.ref f)) (b:Binds K fd ["rooms", "places"] [])
  (sc:bL fK ["rooms", "places"] (dR st)) {vs cs ls lo gs:List Nat} (cp:jt fK my vs cs ls lo gs (dR st)=true) (nm:r6 fK my=true) (n_sorted:mg "sorted"=none)
  (bd:∀X:Cx,Cp X fK my vs cs ls lo gs->Rm X->X.mg "sorted"=none->PSs X (jD st) (JC X.K)):vT P w K mg base (k+1):=by
 refine ⟨f,fd,["rooms", "places"],F.ok sc (fun vs H Q E h=>?_) (fun cdv A outer s H vs Q E hr h=>?_),hm,F.kp,b⟩
 ·obtain ⟨p,d,xs,kvs,g,rfl,_⟩:=h
  rfl
 ·exact ⟨_,bd _ (Cp.fn cp nm) hr.units n_sorted,El h⟩
theorem EJ {P:Program} {w:World} {K:Fg} {mg:Str->Option Value} {base:Heap} {f:Addr} {fd:FuncData} {st:Stmt} {j k:Nat} (F:Fun K "placed" "placed" st f fd) (hm:mg "placed"=some (.ref f)) (b:Binds K fd ["world", "rooms"] [])
  {vs cs ls lo gs:List Nat} (sc:bL fL ["world", "rooms"] (dR st)) (cp:jt fL nV vs cs ls lo gs (dR st)=true) (nm:r6 fL nV=true) (n_enum:mg "enumerate"=none) (n_list:mg "list"=none)
  (c:vT P w K mg base j) (hj:decide (j<=k)=true)
  (bd:∀X:Cx,Cp X fL nV vs cs ls lo gs->Rm X->PassesOwn (model X.prog X.w) X.A X.env X.xe->X.mg "enumerate"=none->X.mg "list"=none->(∃(k:Nat) (f:Addr) (fd:FuncData) (ps:List Str),dg X.prog X.w X.K X.mg X.base ic k f fd ps (qb X.K)/\Room k X.A/\X.mg "places_of"=some (.ref f)/\PySem.W.keepIn X.K (.ref f)=true/\Binds X.K fd ps [])->PSs X (jD st) (JD X.K)):DefOk P w K mg base (k+1) "placed" 2 cg:=by
 refine ⟨f,fd,["world", "rooms"],F.ok sc (fun vs H Q E h=>h.1) (fun cdv A outer s H vs Q E hr h=>?_),hm,F.kp,b⟩
 obtain ⟨hl,O,ds,nd,inH,rs,w'⟩:=h
 cases e:cg ds with
 | er c=>rw [e] at w';exact w'.elim
 | no=>rw [e] at w';exact w'.elim
 | ok p=>
  rw [e] at w';obtain ⟨wd,R,rfl,h1,rfl⟩:=lq e;obtain ⟨f',fd',ps',F',a',b',c'⟩:=c;exact ⟨_,bd _ (Cp.fn cp nm) hr.units PassesOwn.never n_enum n_list ⟨j,f',fd',ps',F',hr.mono (of_decide_eq_true hj),a',b',c'⟩,ql h1 nd inH rs w'⟩
end KC
namespace T
open PySem PySem.Spec L2
open PyProof.Rows hiding St
theorem fW {X:Cx} {N gl:List Str} {vs cs ls lo gs:List Nat} {W:XW} {pos:Pos} {scope:Scope} {x y:Str} {px pos' spos:Pos} {iter elt:Expr} {ifs:List Expr} {fi:FI} {fe:F1} {fc:FB} {vs' cs' lo' gs':List Nat} (S:Cp X N gl vs cs ls lo gs) (j:Nat) (s:Sh) (i:Nat) (hy:N[j]?=some y) (hyl:lo.contains j=true) (hx:N[i]?=some x)
  (hsl:(pos'.line==pos.line)=true) (hsn:(scope.names.any fun (n,k)=>n==y&&(k==NameKind.local||k==NameKind.cell))=false) (h1:hX N i cs scope=true) (h2:jt N gl vs' cs' [i] lo' gs' scope=true)
  (hi':PI X (.Name x px) iter (tI X.K W fi)) (hc:wo X N gl vs' cs' [i] lo' gs' fun Y=>PF Y ifs (tT Y.K W0 fc)) (he:wo X N gl vs' cs' [i] lo' gs' fun Y=>PE Y elt (tE Y.K W0 fe)) (hs:∀x,foldedSetIterable iter X.env x=pure x) :
  PS X (.Assign [.Name y pos'] (.ListComp elt [⟨.Name x px,iter,ifs,0⟩] scope pos) spos) (fg (tE X.K W (aB s i fi fc fe)) (gName j)):=by
 have B:=fun cells C s₀ H₀ ex=>S.blk h2 cells C s₀ H₀ ex
 have L:=fun cells C s₀ H₀ ex=>(B cells C s₀ H₀ ex).loc i x hx (by simp)
 have hN:X.N.Nodup:=by rw [S.hN];exact S.nd
 have hx':X.N[i]?=some x:=by rw [S.hN];exact hx
 exact cN (Ji hN (by rw [S.hN];exact hy) (S.loo j y hy hyl) (IC S h1) S.calm hi' (fun cells C s₀ H₀ ex=>rY (X:=blk X scope cells C s₀ H₀ ex) (i:=i) hN hx' (L cells C s₀ H₀ ex).1 (L cells C s₀ H₀ ex).2) (fun cells C s₀ H₀ ex=>hc _ (B cells C s₀ H₀ ex) ⟨rfl,rfl,rfl,rfl,rfl,rfl⟩) (fun cells C s₀ H₀ ex=>he _ (B cells C s₀ H₀ ex) ⟨rfl,rfl,rfl,rfl,rfl,rfl⟩)
  (Jj S.kind (S.loo j y hy hyl) hsl hsn) hs) fun D σ H h=>Io h
end T
namespace KC
open PySem PySem.Spec L2 T
open PyProof.Rows hiding St
noncomputable def cI:Stmt:=JG 28
noncomputable def dX:Stmt:=JG 29
theorem Ef:bL fK ["rooms", "places"] (dR cI):=⟨rfl,rfl,rfl,by decide +kernel,rfl,by decide +kernel,by decide +kernel⟩
theorem FE:jt fK my [0,1] [1] [0,1] [0] [0] (dR cI)=true:=by kernel_rfl
theorem EK:r6 fK my=true:=by kernel_rfl
theorem Eg:bL fL ["world", "rooms"] (dR dX):=⟨rfl,rfl,rfl,by decide +kernel,rfl,by decide +kernel,by decide +kernel⟩
theorem FF:jt fL nV [0,1,2,3,4,5,6,7] [0,2] [0,1,2,3,4,5,6,7] [1,3,4,5,6,7] [0] (dR dX)=true:=by kernel_rfl
theorem EL:r6 fL nV=true:=by kernel_rfl
theorem o9 {X:Cx} {N gl:List Str} {vs cs ls lo gs:List Nat} (S:Cp X N gl vs cs ls lo gs) (i:Nat) (x:Str) (pos:Pos) (e:N[i]?=some x) (hi:vs.contains i=true):PE X (.Name x pos) (bg i):=by
 have m:=S.nm x (mem_of_getElem? e)
 exact nY (by rw [S.hN];exact e) (S.vis i x e hi) m.1 m.2
theorem xx {X:Cx} {scope:Scope} {p1 p2 p3 p4 p5 p6 p7 p8 pos:Pos} (S:Cp X fK my [0,1] [1] [0,1] [0] [0]) (hu:X.A.units+1<cLine) (h1:Gk fK [2] [1] scope=true) (h2:jt fK my [1,2] [1] [2] [] [] scope=true) (hs:∀x,foldedSetIterable (.Name "rooms" p5) X.env x=pure x) :
  PE X (.ListComp (.Subscript (.Name "places" p1) (.Name "room" p2) p3) [⟨.Name "room" p4,.Name "rooms" p5,[.Compare (.Name "room" p6) [.In] [.Name "places" p7] p8],0⟩] scope pos) (fO [2] (gY X.K (bg 0)) (gName 2) (tB (AG (bg 2) (bg 1))) (sZ (bg 1) (bg 2))):=by
 have hN:X.N.Nodup:=by rw [S.hN];exact S.nd
 have B:=fun cells C s₀ H₀ ex=>S.blk h2 cells C s₀ H₀ ex
 exact o6 (jv S h1) S.calm (Gy (o9 S 0 _ _ rfl rfl))
  (fun cells C s₀ H₀ ex=>rY (X:=L2.blk X scope cells C s₀ H₀ ex) (i:=2) hN (by show X.N[2]?=_;rw [S.hN];rfl) ((B cells C s₀ H₀ ex).loc 2 _ rfl rfl).1 ((B cells C s₀ H₀ ex).loc 2 _ rfl rfl).2)
  (fun cells C s₀ H₀ ex=>uy (uk (Bz (X:=L2.blk X scope cells C s₀ H₀ ex) hu (o9 (B cells C s₀ H₀ ex) 2 _ _ rfl rfl) (o9 (B cells C s₀ H₀ ex) 1 _ _ rfl rfl)) (by with_unfolding_all rfl)))
  (fun cells C s₀ H₀ ex=>xE (X:=L2.blk X scope cells C s₀ H₀ ex) hu (o9 (B cells C s₀ H₀ ex) 1 _ _ rfl rfl) (o9 (B cells C s₀ H₀ ex) 2 _ _ rfl rfl) (fun _ _=>rfl)) hs
theorem FJ {X:Cx} (S:Cp X fK my [0,1] [1] [0,1] [0] [0]) (R:Rm X) (n_sorted:X.mg "sorted"=none):PSs X (jD cI) (JC X.K):=by
 have hu:X.A.units+1<cLine:=Nat.lt_of_le_of_lt (by omega) R
 exact v9 (DB (DL nQ (S.g (j:=0) rfl rfl).1 n_sorted ml (iY (xx S hu (by kernel_rfl) (by kernel_rfl) (fun _=>rfl)) nX (dh rfl)) (S.g (j:=0) rfl rfl).2.2 (S.g (j:=0) rfl rfl).2.1 (dh rfl) rfl))
theorem jQ {P:Program} {w:World} {K:Fg} {mg:Str->Option Value} {base:Heap} {f:Addr} {fd:FuncData} {k:Nat} (F:Fun K "places_of" "places_of" cI f fd) (hm:mg "places_of"=some (.ref f)) (b:Binds K fd ["rooms", "places"] []) (n_sorted:mg "sorted"=none):vT P w K mg base (k+1):=
 EI F hm b Ef FE EK n_sorted fun X S R n=>FJ S R n
noncomputable abbrev L1 (X:Cx):Prop:=Cp X fL nV [0,1,2,3,4,5,6,7] [0,2] [0,1,2,3,4,5,6,7] [1,3,4,5,6,7] [0]
noncomputable abbrev L6 (X:Cx):Prop:=∃(k:Nat) (f:Addr) (fd:FuncData) (ps:List Str),dg X.prog X.w X.K X.mg X.base ic k f fd ps (qb X.K)/\Room k X.A/\X.mg "places_of"=some (.ref f)/\PySem.W.keepIn X.K (.ref f)=true/\Binds X.K fd ps []
theorem xy {X:Cx} {scope:Scope} {p1 p2 p3 p4 p5 p6 p7 p8 p9 p10 pos' spos pos:Pos} (S:L1 X) (c:L6 X) (hsl:(pos'.line==pos.line)=true) (hsn:(scope.names.any fun (n,k)=>n==("steps":Str)&&(k==NameKind.local||k==NameKind.cell))=false)
  (h1:Gk fL [4] [0,2] scope=true) (h2:jt fL nV [0,2,4] [0,2] [4] [] [2] scope=true) (hs:∀x,foldedSetIterable (.Name "rooms" p9) X.env x=pure x) :
  PS X (.Assign [.Name "steps" pos'] (.ListComp (.Call (.Name "places_of" p1) [.Subscript (.Subscript (.Name "world" p2) (.Constant (.int 2) 0 p3) p4) (.Name "room" p5) p6,.Name "places" p7] [] p8) [⟨.Name "room" p10,.Name "rooms" p9,[],0⟩] scope pos) spos)
   (fun D σ H=>fO [4] (gY X.K (bg 1)) (gName 4) ou (kz (qb X.K) [] L2.E0 (cH (tE X.K W0 uH) (cH (bg 2) fD))) σ H fun v H'=>D.nx (σ.set 7 (some v)) H'):=by
 have hN:X.N.Nodup:=by rw [S.hN];exact S.nd
 have B:=fun cells C s₀ H₀ ex=>S.blk h2 cells C s₀ H₀ ex
 obtain ⟨k,f,fd,ps,F,hr,a1,a2,a3⟩:=c;exact Ji hN (by rw [S.hN];rfl) (S.loo 7 "steps" rfl rfl) (jv S h1) S.calm (Gy (o9 S 1 _ _ rfl rfl))
  (fun cells C s₀ H₀ ex=>rY (X:=L2.blk X scope cells C s₀ H₀ ex) (i:=4) hN (by show X.N[4]?=_;rw [S.hN];rfl) ((B cells C s₀ H₀ ex).loc 4 _ rfl rfl).1 ((B cells C s₀ H₀ ex).loc 4 _ rfl rfl).2)
  (fun cells C s₀ H₀ ex=>uz)
  (fun cells C s₀ H₀ ex=>Il (X:=L2.blk X scope cells C s₀ H₀ ex) F hr ((B cells C s₀ H₀ ex).g (j:=2) rfl rfl).1 a1 a2 a3 .nil uG (iY (TQ.Q.p (TQ.w_de_idx (TQ.w_de_idx (TQ.w_cv (B cells C s₀ H₀ ex) 0 rfl rfl) TQ.w_de_int (fun _ _=>rfl)) (TQ.w_cv (B cells C s₀ H₀ ex) 4 rfl rfl) (fun _ _=>rfl))) (iY (o9 (B cells C s₀ H₀ ex) 2 _ _ rfl rfl) nX (dh rfl)) (dh rfl)) (by decide) (dh rfl) rfl)
  (Jj S.kind (S.loo 7 "steps" rfl rfl) hsl hsn) hs
theorem FK {X:Cx} (S:L1 X) (R:Rm X) (hp:PassesOwn (model X.prog X.w) X.A X.env X.xe) (n_enum:X.mg "enumerate"=none) (n_list:X.mg "list"=none) (c:L6 X):PSs X (jD dX) (JD X.K):=by
 have hN:X.N.Nodup:=by rw [S.hN];exact S.nd
 have hu:X.A.units+1<cLine:=Nat.lt_of_le_of_lt (by omega) R
 have g:∀(i:Nat) (x:Str),fL[i]?=some x->X.N[i]?=some x:=fun i x e=>by rw [S.hN];exact e
 have lc:∀(i:Nat) (x:Str),fL[i]?=some x->[0,1,2,3,4,5,6,7].contains i=true->Loc X.env.scope x/\(X.fn x=true\/X.env.scope.names.lookup x=some .local):=fun i x e hi=>S.loc i x e hi
 refine og (zT hN (g 2 _ rfl) (lc 2 _ rfl rfl).1 uD rfl (lc 2 _ rfl rfl).2) ?_
 refine og (HW hp S.calm (xB (S.g (j:=0) rfl rfl).1 n_enum (iY (o9 S 1 _ _ rfl rfl) nX (e8 rfl)) (e8 rfl)) (ux S.calm (DM (rY hN (g 3 _ rfl) (lc 3 _ rfl rfl).1 (lc 3 _ rfl rfl).2) (DM (rY hN (g 4 _ rfl) (lc 4 _ rfl rfl).1 (lc 4 _ rfl rfl).2) oY))) (v9 (oU hu (o9 S 2 _ _ rfl rfl) (o9 S 4 _ _ rfl rfl) (o9 S 3 _ _ rfl rfl) rfl)) (fun _=>rfl)) ?_
 refine og (fW (vs':=[0,4]) (cs':=[0]) (lo':=[]) (gs':=[]) S 5 .leaf 4 rfl rfl rfl rfl rfl (by kernel_rfl) (by kernel_rfl) (TQ.Q.p (TQ.w_di_seq (TQ.w_cv S 1 rfl rfl))) (fun _ _ _=>TQ.Q.p TQ.w_df_nil) (fun Y S1 _=>TQ.Q.p (TQ.w_de_idx (TQ.w_de_idx (TQ.w_cv S1 0 rfl rfl) TQ.w_de_int (fun _ _=>rfl)) (TQ.w_cv S1 4 rfl rfl) (fun _ _=>rfl))) (fun _=>rfl)) ?_
 refine og (fW (vs':=[0,4]) (cs':=[0]) (lo':=[]) (gs':=[1]) S 6 .leaf 4 rfl rfl rfl rfl rfl (by kernel_rfl) (by kernel_rfl) (TQ.Q.p (TQ.w_di_seq (TQ.w_cv S 1 rfl rfl))) (fun _ _ _=>TQ.Q.p TQ.w_df_nil) (fun Y S1 F1=>TQ.Q.p (TQ.w_cb_list S1 1 rfl rfl (F1.n n_list) (TQ.w_de_idx (TQ.w_de_idx (TQ.w_cv S1 0 rfl rfl) TQ.w_de_int (fun _ _=>rfl)) (TQ.w_cv S1 4 rfl rfl) (fun _ _=>rfl)) (e8 rfl))) (fun _=>rfl)) ?_
 refine og (xy S c rfl rfl (by kernel_rfl) (by kernel_rfl) (fun _=>rfl)) ?_
 exact v9 (DB (uA (iY (o9 S 5 _ _ rfl rfl) (iY (o9 S 6 _ _ rfl rfl) (iY (o9 S 7 _ _ rfl rfl) nX (dh rfl)) (dh rfl)) (dh rfl))))
theorem qC {P:Program} {w:World} {K:Fg} {mg:Str->Option Value} {base:Heap} {f:Addr} {fd:FuncData} {j k:Nat} (F:Fun K "placed" "placed" dX f fd) (hm:mg "placed"=some (.ref f)) (b:Binds K fd ["world", "rooms"] []) (n_enum:mg "enumerate"=none) (n_list:mg "list"=none)
  (c:vT P w K mg base j) (hj:decide (j<=k)=true):DefOk P w K mg base (k+1) "placed" 2 cg:=
 EJ F hm b Eg FF EL n_enum n_list c hj fun X S R hp n1 n2 ca=>FK S R hp n1 n2 ca
open PySem.SeqAt
section
variable {w:Wd} {R:List Nat}
noncomputable abbrev nU (R:List Nat) (k:Nat):Nat:=R.getD k 0
theorem mem_plS {ts:List Nat} {k:Nat}:k∈uw R ts↔k<R.length/\nU R k∈ts:=by
 unfold uw;rw [List.mem_filter,mem_range,contains_iff_mem]
theorem oX {ts:List Nat}:(uw R ts).length<=R.length:=by
 have:=length_filter_le (fun k=>ts.contains (R.getD k 0)) (List.range R.length)
 rwa [length_range] at this
theorem rT {t:Nat} (h:t∈R):∃k,k<R.length/\nU R k=t:=by
 obtain ⟨k,hk,e⟩:=getElem_of_mem h;refine ⟨k,hk,?_⟩
 rw [nU,MJ,MI hk,e];rfl
theorem Bu (h:ka w R) (h1:1<=R.length) (h24:R.length<=24) (cl:∀r∈R,∃t∈w.stp r,t∈R):(eG w R).Ok:=by
 have ne:∀r∈R,uw R (w.stp r)≠[]:=fun r hr z=>by
  obtain ⟨t,ht,hR⟩:=cl r hr;obtain ⟨k,hk,rfl⟩:=rT hR;have:=mem_plS.mpr ⟨hk,ht⟩
  rw [z] at this
  cases this
 have row:∀r∈R,w.mks r∈w.m:=fun r hr=>xS h.ok (h.lt r hr)
 refine ⟨⟨by simp [eG],by simp [eG],by simp [eG],fun a ha=>?_,fun a ha=>?_,fun a ha=>?_⟩,h1,h24,by simp [eG],by simp [eG],fun a ha=>?_,fun a ha c hc=>?_⟩
 ·obtain ⟨x,_,rfl⟩:=List.mem_map.mp ha
  unfold zy;split
  ·exact .inl rfl
  ·exact .inr rfl
 ·obtain ⟨b,hb,rfl⟩:=List.mem_map.mp ha
  obtain ⟨x,hx,rfl⟩:=List.mem_map.mp hb;exact h.ok.g.m _ (List.mem_map.mpr ⟨_,row x hx,rfl⟩)
 ·obtain ⟨b,hb,rfl⟩:=List.mem_map.mp ha
  obtain ⟨x,hx,rfl⟩:=List.mem_map.mp hb;refine ⟨(uw R (w.stp x)).map fun t:Nat=>(t:Int),by rw [<-GF],by rw [length_map];exact Nat.le_trans oX (by omega),fun z=>ne x hx (List.map_eq_nil_iff.mp z),fun t ht=>?_,?_⟩
  ·obtain ⟨c,hc,rfl⟩:=List.mem_map.mp ht
   have:=(mem_plS.mp hc).1
   show 0<=(c:Int)/\(c:Int)<((R.length:Nat):Int)
   omega
  ·rw [pairwise_map]
   exact (List.pairwise_lt_range.filter _).imp fun h=>by omega
 ·obtain ⟨x,hx,rfl⟩:=List.mem_map.mp ha
  exact ⟨ne x hx,Nat.le_trans oX (by omega),fun t ht=>(mem_plS.mp ht).1⟩
 ·obtain ⟨x,hx,rfl⟩:=List.mem_map.mp ha
  exact h.ok.mc _ (row x hx) c hc
theorem tq (ok:w.Ok) {r:Nat} (hr:r<w.n):(w.stp r).Nodup:=by
 obtain ⟨ts,e,_,_,_,hp⟩:=ok.g.s (aC (w.stp r)) (List.mem_map.mpr ⟨w.stp r,by
  unfold Wd.stp;rw [MJ,MI (by rw [ok.ls];exact hr)]
  exact getElem_mem _,rfl⟩)
 have e:=PyData.list.inj e
 rw [GF] at e;have e:=(map_inj_right (f:=PyData.int) fun a b z=>PyData.int.inj z).mp e
 rw [<-e,pairwise_map] at hp;exact hp.imp fun h z=>by omega
end
theorem AN {R:List Nat}:shaped (aC R)=true:=DH (by
 intro a ha;obtain ⟨x,_,rfl⟩:=List.mem_map.mp ha;exact ⟨_,rfl⟩)
end KC
namespace T
open PySem PySem.Spec L2
open PyProof.Rows hiding St
noncomputable def ni (ks:List Nat):Option Nat:=(List.range ks.length).find? fun i=>ks.all fun b=>decide (ks.getD i 0<=b)
theorem xQ {ks:List Nat} {i:Nat} (hi:i<ks.length) (h:∀j,j<ks.length->ks.getD i 0<=ks.getD j 0/\(j<i->ks.getD i 0<ks.getD j 0)):ni ks=some i:=by
 unfold ni;rw [List.find?_range_eq_some];refine ⟨List.all_eq_true.mpr fun b hb=>?_,List.mem_range.mpr hi,fun j hj=>?_⟩
 ·obtain ⟨k,hk,e⟩:=getElem_of_mem hb
  have:=(h k hk).1
  rw [MJ (i:=k),MI hk,e] at this;exact decide_eq_true this
 ·have:=(h j (by omega)).2 hj
  cases e:(ks.all fun b=>decide (ks.getD j 0<=b)) with
  | false=>rfl
  | true=>
   have hm:ks[i]∈ks:=getElem_mem hi
   have z:=of_decide_eq_true (List.all_eq_true.mp e _ hm)
   rw [MJ (i:=i),MI hi] at this;exact absurd (Nat.lt_of_lt_of_le this z) (Nat.lt_irrefl _)
noncomputable def nt:MR->Nat
 | .list xs=>xs.length
 | _=>0
noncomputable def B3:MR->Bool
 | .list _=>true
 | _=>false
noncomputable def eL (f:F1):F1:=fun Γ=>match f Γ with
 | .ok ⟨s,.list ds⟩ Γ1=>if !s.isView&&ds.all B3 then (match ni (ds.map nt) with
  | some i=>.ok ⟨.leaf,ds.getD i .none⟩ Γ1
  | none=>.no) else .no
 | .er c Γ1=>.er c Γ1
 | _=>.no
section
variable {K:Fg} {W:XW} {σ:St} {H:Hp} {Q:VK} {f:F1}
theorem vq {Γ Γ2:Ev} {q:PV} (h:eL f Γ=.ok q Γ2):∃s ds i,f Γ=.ok ⟨s,.list ds⟩ Γ2/\s.isView=false/\ds.all B3=true/\ni (ds.map nt)=some i/\q=⟨.leaf,ds.getD i .none⟩:=by
 unfold eL at h;split at h
 ·rename_i s ds Γ1 e
  split at h
  ·rename_i hc
   rw [Bool.and_eq_true] at hc;split at h
   ·rename_i i ei
    cases h;exact ⟨s,ds,i,e,by simpa using hc.1,hc.2,ei,rfl⟩
   ·cases h
  ·cases h
 ·cases h
 ·cases h
theorem xf (h:tE K W (eL f) σ H Q):tE K W f σ H (fun x H1=>zr K [x] H1 Q):=by
 obtain ⟨He,O,Fs,Γ,E,h⟩:=h;refine ⟨He,O,Fs,Γ,E,?_⟩
 cases em:eL f Γ with
 | no=>rw [em] at h;exact h.elim
 | er c Γ'=>
  rw [em] at h;unfold eL at em;split at em
  ·split at em
   ·split at em<;>cases em
   ·cases em
  ·rename_i ef
   cases em;rw [ef];exact h
  ·cases em
 | ok q Γ2=>
  rw [em] at h;obtain ⟨s,ds,i,ef,hv,hall,hi,rfl⟩:=vq em;rw [ef];intro v H' G Fs' A
  have own:Own K (G++O++Fs'.flatten) H' s G v (.list ds):=A.own
  have rep:=o7 (O:=O++Fs'.flatten) own hv (fun a ha z=>A.disj a ha z) (fun a ha=>by
   rcases MG ha with z | z
   ·exact MF _ (ME _ z)
   ·exact ME _ z)
  cases rep with
  | @lst p vs _ hq hl hr=>
   have hil:i<ds.length:=by
    have:=List.mem_range.mp (List.mem_of_find?_eq_some hi)
    rwa [length_map] at this
   have ne:0<ds.length:=by omega
   refine ⟨p,vs,?_⟩
   have each:∀j:Nat,j<ds.length->∃(a:Addr) (l:List V),vs[j]?=some (.ref a)/\SqL K H' a l/\l.length=nt (ds.getD j .none):=fun j hj=>by
    have hjv:j<vs.length:=by omega
    have r:=hr j vs[j] ds[j] (MI hjv) (MI hj)
    have hd:=List.all_eq_true.mp hall _ (getElem_mem hj)
    rw [MJ,MI hj,MI hjv];show ∃(a:Addr) (l:List V),some vs[j]=some (.ref a)/\SqL K H' a l/\l.length=nt ds[j]
    generalize vs[j]=u at r
    generalize ds[j]=d at r hd
    cases r with
    | @lst a ws es hq2 hl2 hr2=>exact ⟨a,ws,rfl,hid_le.seq hq2,hl2⟩
    | _=>cases hd
   refine ⟨(List.range ds.length).map fun j=>if hj:j<ds.length then (each j hj).choose_spec.choose else [],rfl,hid_le.seq hq,by rw [hl,length_map,length_range],fun j w l h1 h2=>?_,by omega,fun j w l h1 h2 hmin=>?_⟩
   ·have hj:j<ds.length:=by have:=(MM h1).1;omega
    rw [getElem?_map,List.getElem?_range hj] at h2;have h2:some (if hj:j<ds.length then (each j hj).choose_spec.choose else [])=some l:=h2
    rw [dif_pos hj] at h2
    cases h2;obtain ⟨g1,g2,_⟩:=(each j hj).choose_spec.choose_spec;rw [g1] at h1
    cases h1;exact ⟨_,rfl,g2⟩
   ·have hj:j<ds.length:=by have:=(MM h1).1;omega
    have lenAt:∀k,k<ds.length->∃l',((List.range ds.length).map fun j=>if hj:j<ds.length then (each j hj).choose_spec.choose else [])[k]?=some l'/\l'.length=(ds.map nt).getD k 0:=fun k hk=>by
     refine ⟨(each k hk).choose_spec.choose,?_,?_⟩
     ·rw [getElem?_map,List.getElem?_range hk]
      show some (if hj:k<ds.length then (each k hj).choose_spec.choose else [])=_
      rw [dif_pos hk]
     ·have:=(each k hk).choose_spec.choose_spec.2.2
      rw [this,MJ,MJ,getElem?_map,MI hk];rfl
    have eij:i=j:=by
     have:ni (ds.map nt)=some j:=by
      refine xQ (by rw [length_map];exact hj) fun k hk=>?_
      rw [length_map] at hk;obtain ⟨l1,e1,f1⟩:=lenAt j hj;obtain ⟨l2,e2,f2⟩:=lenAt k hk;rw [h2] at e1
      cases e1;have:=hmin k l2 e2
      rw [<-f1,<-f2];exact this
     rw [hi] at this;exact Option.some.inj this
    subst eij;have r:=hr i w (ds.getD i .none) h1 (by rw [MJ,MI hj];rfl)
    exact h w H' [] Fs' ⟨A.same,by rw [nil_append];exact A.go,fun a ha=>A.newF a (by simpa using ha),by rw [nil_append];exact .leaf r⟩
end
section
variable {X:Cx} {N gl:List Str} {vs cs ls lo gs:List Nat} {W:XW} {e:Expr} {pos p p2 kpos:Pos} {f:F1}
theorem cb_minL (S:Cp X N gl vs cs ls lo gs) (j k:Nat) (hj:gl[j]?=some ("min":Str)) (hg:gs.contains j=true) (hm:X.mg "min"=none) (hk:gl[k]?=some ("len":Str)) (hg2:gs.contains k=true) (hm2:X.mg "len"=none) (ha:PE X e (tE X.K W f)) (hs:starEach [e] X.env=[(false,eval e X.env)]) :
  PE X (.Call (.Name "min" p) [e] [⟨some "key",.Name "len" p2,kpos⟩] pos) (tE X.K W (eL f)):=
 aP (xC S.calm (S.g hj hg).1 hm (S.g hk hg2).1 hm2 (iY ha nX hs) hs) fun _ _ _ h=>xf h
end
end T
namespace TQ
open PySem PySem.Spec L2 T
open PyProof.Rows hiding St
section
variable {X:Cx} {N gl:List Str} {vs cs ls lo gs:List Nat} {W:XW} {e:Expr} {pos p p2 kpos:Pos} {f:F1}
theorem pW (S:Cp X N gl vs cs ls lo gs) (j k:Nat) (hj:gl[j]?=some ("min":Str)) (hg:gs.contains j=true) (hm:X.mg "min"=none) (hk:gl[k]?=some ("len":Str)) (hg2:gs.contains k=true) (hm2:X.mg "len"=none) (ha:Q (PE X e (tE X.K W f))) (hs:starEach [e] X.env=[(false,eval e X.env)]) :
  Q (PE X (.Call (.Name "min" p) [e] [⟨some "key",.Name "len" p2,kpos⟩] pos) (tE X.K W (eL f))):=⟨T.cb_minL S j k hj hg hm hk hg2 hm2 ha.p hs⟩
end
end TQ
namespace KC
open PySem PySem.Spec L2 T PySem.SeqAt
open PyProof.Rows hiding St
noncomputable abbrev N_reached:List Str:=["world", "room", "found", "waiting", "here", "there"]
noncomputable abbrev cZ:List Str:=["check_world", "check_room", "sorted"]
noncomputable def fE (ss:List D) (h:Int):Option (List Int):=if 0<=h/\h<ss.length then (match ss[h.toNat]? with
 | some (.list xs)=>rW xs
 | _=>none) else none
noncomputable def stp (t:Int) (p:List Int×List Int):Option (List Int×List Int):=if p.1.contains t then some p else if p.1.length<1000/\p.2.length<1000 then some (p.1++[t],p.2++[t]) else none
noncomputable def eF:List Int->List Int×List Int->Option (List Int×List Int)
 | [],p=>some p
 | t::r,p=>(stp t p).bind (eF r)
noncomputable def wc (sc:Int->Option (List Int)):Nat->List Int->List Int->Option (List Int)
 | 0,_,_=>none
 | n+1,ks,ws=>match ws.getLast? with
  | none=>some ks
  | some h=>(match sc h with
   | some ts=>(match eF ts (ks,ws.dropLast) with
    | some p=>wc sc n p.1 p.2
    | none=>none)
   | none=>none)
noncomputable def BB (o:Option (List Int)):Res:=match o with
 | some ks=>if ks.length<64 then .ok ⟨.lst .leaf,.list ((PySem.W.sortI ks).map .int)⟩ else .no
 | none=>.no
noncomputable def aZ (ds:List MR):Res:=match ds with
 | [.tuple [.list os,.list ms,.list ss],.int r]=>(match aL [.tuple [.list os,.list ms,.list ss]] with
  | .ok _=>(match aV [.tuple [.list os,.list ms,.list ss],.int r] with
   | .ok _=>BB (wc (fE ss) 1000 [r] [r])
   | _=>.no)
  | _=>.no)
 | _=>.no
noncomputable def K8 (K:Fg):TT:=fun σ H Q=>bg 3 σ H fun x H'=>∃k,yM K x H' k/\Q k H'
noncomputable def K9 (K:Fg):L2.TS:=d7 (fg (Ea K "list" Et (bg 3)) (gName 4)) (wO (gY K (sV (Bm K) (sV (Bm K) (bg 0) (tC (.int 2))) (bg 4))) (gName 5) (sW (tB (Iv (bg 5) (bg 2))) (d7 (oC (bg 2) (bg 5) (tC (.bl true))) (ky (zg K "list" GE (bg 3) (cH (bg 5) fD)))) kx))
noncomputable def mP (K:Fg):L2.TS:=d7 (tS K W0 (bq (ao 1 aL (ae (af 0) ag)))) (d7 (tS K W0 (bq (ao 2 aV (ae (af 0) (ae (af 1) ag)))))
 (d7 (fg (zf [(bg 1,tC (.bl true))]) (gName 2)) (d7 (fg (AF (cH (bg 1) fD)) (gName 3)) (d7 (Ge (K8 K) (K9 K)) (sU (AH uc (cH (bg 2) fD)))))))
structure IR (He Hb:Hp) (wv:V) (r:Int) (f l:Addr) (σ:St) (H:Hp) (ks ws:List Int):Prop where
 st:∃x4 x5,σ=[some wv,some (.int r),some (.ref f),some (.ref l),x4,x5]
 hf:H f=some (.dK (cJ ks (.bl true)))
 hl:H l=some (.lst (ws.map V.int))
 ne:f≠l
 s1:Same He H
 s2:Same Hb H
theorem Je {v:V} {t:Int}:∀{ks:List Int},(di (cJ ks v) (Sum.inl t:bJ)).isSome=ks.contains t
 | []=>rfl
 | k::ks=>by
  by_cases h:k=t
  ·subst h
   have:di (cJ (k::ks) v) (Sum.inl k:bJ)=some v:=DO rfl
   rw [this];simp
  ·have e:di (cJ (k::ks) v) (Sum.inl t:bJ)=di (cJ ks v) (Sum.inl t:bJ):=DN fun z=>h (by injection z)
   rw [e,Je,List.contains_cons];have:(t==k)=false:=by simpa using fun z=>h z.symm
   rw [this,Bool.false_or]
section
variable {K:Fg} {He Hb:Hp} {wv:V} {r:Int} {f l:Addr}
theorem AV {H:Hp} {os ms ss:List D} {h:Int} {ts:List Int} (rw_:Rep K Hb wv (.tuple [.list os,.list ms,.list ss])) (s2:Same Hb H) (hs:fE ss h=some ts) {σ:St} (h4:σ[4]?=some (some (.int h))) {Q:VK} (q:∀a,SqL K H a (ts.map V.int)->(∀H',Same Hb H'->SqL K H' a (ts.map V.int))->Q (.ref a) H) :
  Bm K wv (.int 2) H fun x H1=>∃v,σ[4]?=some (some v)/\Bm K x v H1 Q:=by
 cases rw_ with
 | @tup p vs _ hq hl hr=>
  match vs,hl with
  | [v0,v1,v2],_=>
   have r2:=hr 2 v2 (.list ss) rfl rfl
   refine .inr (.inl ⟨p,_,2,v2,rfl,rfl,mr s2 hq,rfl,.int h,h4,?_⟩)
   cases r2 with
   | @lst p2 rows _ hq2 hl2 hr2=>
    unfold fE at hs;split at hs
    case isFalse=>cases hs
    rename_i hc;have hn:h.toNat<ss.length:=by omega
    rw [MI hn] at hs;have hn2:h.toNat<rows.length:=by omega
    have r3:=hr2 h.toNat (rows[h.toNat]'hn2) (ss[h.toNat]'hn) (MI _) (MI _)
    refine .inl ⟨p2,rows,h,rows[h.toNat]'hn2,rfl,rfl,s2.seq hq2,?_,?_⟩
    ·unfold d5 dQ
     rw [if_pos hc.1,if_pos (by omega)]
     exact MI _
    ·generalize rows[h.toNat]'hn2=rv at r3
     generalize ss[h.toNat]'hn=d at r3 hs
     cases r3 with
     | @lst a vals xs hq3 hl3 hr3=>
      have hs:rW xs=some ts:=hs
      have hx:=IY hs
      subst hx;have ev:vals=ts.map V.int:=by
       apply ext_getElem?
       intro i;by_cases hi:i<vals.length
       ·have hi2:i<ts.length:=by rw [length_map] at hl3;omega
        have q:=hr3 i (vals[i]'hi) (.int (ts[i]'hi2)) (MI _) (by rw [getElem?_map,MI hi2];rfl)
        rw [MI hi,getElem?_map,MI hi2];generalize vals[i]'hi=u at q
        cases q;rfl
       ·rw [getElem?_eq_none (by omega),getElem?_eq_none (by rw [length_map] at hl3 ⊢;omega)]
      rw [ev] at hq3;exact q a (s2.seq hq3) fun H' s=>s.seq hq3
     | _=>cases hs
theorem AZ {H:Hp} {σ:St} {ks ws:List Int} {ts:List Int} {a:Addr} {D:dz} {p:List Int×List Int} (hf1:He f=none) (hf2:Hb f=none) (hl1:He l=none) (hl2:Hb l=none) (I:IR He Hb wv r f l σ H ks ws) (hp:eF ts (ks,ws)=some p)
  (hS:∀H',Same Hb H'->SqL K H' a (ts.map V.int)) (hD:∀σ H,IR He Hb wv r f l σ H p.1 p.2->D.nx σ H) :
  ∃W:Nat->Nat->St->Hp->Prop,(∃m,W 0 m σ H)/\∀i m σ H,W i m σ H ->
   ((C0 K a).stop i H/\D.nx σ H)\/((C0 K a).go i H/\∃N:St->Hp->Prop,(∀σ' H',N σ' H'->∃m',m'<m/\W (i+1) m' σ' H')/\∀x H',(C0 K a).yld i H x H'->gName 5 x σ H' fun σ2 H2=>
    sW (tB (Iv (bg 5) (bg 2))) (d7 (oC (bg 2) (bg 5) (tC (.bl true))) (ky (zg K "list" GE (bg 3) (cH (bg 5) fD)))) kx { D with nx:=N,ct:=N,bk:=D.nx } σ2 H2):=by
 refine ⟨fun i m σ H=>m=ts.length-i/\i<=ts.length/\∃ks ws,IR He Hb wv r f l σ H ks ws/\eF (ts.drop i) (ks,ws)=some p,⟨ts.length,by simp,Nat.zero_le _,ks,ws,I,by simpa using hp⟩,?_⟩
 rintro i m σ H ⟨rfl,hi,ks,ws,I,hp⟩
 have hq:=hS H I.s2
 by_cases hlt:i<ts.length
 case neg=>
  left
  have:ts.drop i=[]:=List.drop_eq_nil_of_le (by omega)
  rw [this] at hp
  cases hp;exact ⟨⟨_,hq,by rw [length_map];omega⟩,hD σ H I⟩
 case pos=>
  right
  have hdr:ts.drop i=ts[i]::ts.drop (i+1):=drop_eq_getElem_cons hlt
  rw [hdr] at hp;have hget:(ts.map V.int)[i]?=some (.int ts[i]):=by rw [getElem?_map,MI hlt];rfl
  generalize ts[i]=t at hp hget
  refine ⟨⟨_,_,hq,hget⟩,fun σ' H'=>∃ks ws,IR He Hb wv r f l σ' H' ks ws/\eF (ts.drop (i+1)) (ks,ws)=some p,fun σ' H' q=>⟨ts.length-(i+1),by omega,rfl,hlt,q⟩,?_⟩
  rintro x H' ⟨rfl,hx⟩
  have ex:x=.int t:=Option.some.inj ((hx _ hq).symm.trans hget)
  subst ex;obtain ⟨⟨x4,x5,rfl⟩,if_,il,ine,is1,is2⟩:=I;refine ⟨.int t,rfl,.ref f,rfl,f,_,rfl,DGet.k (k:=(Sum.inl t:bJ)) if_,!(di (cJ ks (.bl true)) (Sum.inl t:bJ)).isSome,rfl,?_⟩
  rw [Je];simp only [eF] at hp
  cases hc:ks.contains t with
  | true=>
   have e:stp t (ks,ws)=some (ks,ws):=by unfold stp;rw [if_pos hc]
   rw [e] at hp;exact gk ⟨ks,ws,⟨⟨_,_,rfl⟩,if_,il,ine,is1,is2⟩,hp⟩
  | false=>
   by_cases hz:ks.length<1000/\ws.length<1000
   case neg=>
    have e:stp t (ks,ws)=none:=by unfold stp;rw [if_neg (by rw [hc];exact Bool.false_ne_true),if_neg hz]
    rw [e] at hp
    cases hp
   have e:stp t (ks,ws)=some (ks++[t],ws++[t]):=by unfold stp;rw [if_neg (by rw [hc];exact Bool.false_ne_true),if_pos hz]
   rw [e] at hp;have hb:(1000:Nat)<=sizeLine:=by decide
   have hkl:(cJ ks (.bl true)).length<sizeLine:=by unfold cJ;rw [length_map];omega
   have hnew:dP (cJ ks (.bl true)) (Sum.inl t:bJ) (.bl true)=cJ (ks++[t]) (.bl true):=by
    rw [kS _ (by
     cases ev:di (cJ ks (.bl true)) (Sum.inl t:bJ) with
     | none=>rfl
     | some z=>have:=Je (v:=.bl true) (t:=t) (ks:=ks);rw [ev,hc] at this;cases this)]
    unfold cJ;rw [map_append];rfl
   refine iK ⟨.ref f,rfl,.int t,rfl,f,bF H' f (.dK (cJ (ks++[t]) (.bl true))),rfl,?_,?_⟩
   ·have:=DPut.k (v:=.bl true) (k:=(Sum.inl t:bJ)) if_ hkl
    rw [hnew] at this;exact this
   ·have hlu:bF H' f (.dK (cJ (ks++[t]) (.bl true))) l=some (.lst (ws.map V.int)):=by rw [cO (Ne.symm ine)];exact il
    refine ⟨.ref l,rfl,.inl ⟨rfl,_,.of hlu⟩,.int t,rfl,l,ws.map V.int,.int t,rfl,rfl,hlu,by rw [length_map];omega,ks++[t],ws++[t],⟨⟨_,_,rfl⟩,?_,?_,ine,?_,?_⟩,hp⟩
    ·rw [cO ine,dO]
    ·rw [dO,map_append];rfl
    ·intro b o hb
     rw [cO (kc hb hl1),cO (kc hb hf1)];exact is1 b o hb
    ·intro b o hb
     rw [cO (kc hb hl2),cO (kc hb hf2)];exact is2 b o hb
theorem xg {H:Hp} {σ:St} {os ms ss:List D} {ks ws res:List Int} {n:Nat} {D:dz} (rw_:Rep K Hb wv (.tuple [.list os,.list ms,.list ss])) (hf1:He f=none) (hf2:Hb f=none) (hl1:He l=none) (hl2:Hb l=none) (I:IR He Hb wv r f l σ H ks ws) (hg:wc (fE ss) n ks ws=some res)
  (hD:∀σ H ws,IR He Hb wv r f l σ H res ws->D.nx σ H):Ge (K8 K) (K9 K) D σ H:=by
 refine ⟨fun m σ H=>∃ks ws,IR He Hb wv r f l σ H ks ws/\wc (fE ss) m ks ws=some res,⟨n,ks,ws,I,hg⟩,?_⟩
 rintro m σ H ⟨ks,ws,I,hg⟩
 cases m with
 | zero=>cases hg
 | succ m=>
  have I0:=I
  obtain ⟨⟨x4,x5,rfl⟩,if_,il,ine,is1,is2⟩:=I;refine ⟨.ref l,rfl,!(ws.map V.int).isEmpty,.inl ⟨_,.of il,rfl⟩,?_⟩
  rw [wc] at hg
  cases hw:ws.getLast? with
  | none=>
   rw [hw] at hg
   cases hg;have:ws=[]:=List.getLast?_eq_none_iff.mp hw
   subst this;exact gk (hD _ _ _ I0)
  | some h=>
   rw [hw] at hg;dsimp only at hg
   cases hs:fE ss h with
   | none=>rw [hs] at hg;cases hg
   | some ts=>
    rw [hs] at hg;dsimp only at hg
    cases hp:eF ts (ks,ws.dropLast) with
    | none=>rw [hp] at hg;cases hg
    | some p=>
     rw [hp] at hg;dsimp only at hg;have hne:ws≠[]:=fun z=>by rw [z] at hw;cases hw
     have he:(!(ws.map V.int).isEmpty)=true:=by cases ws with | nil=>exact absurd rfl hne | cons a r=>rfl
     rw [he];refine iK ⟨fun σ' H'=>∃ks ws,IR He Hb wv r f l σ' H' ks ws/\wc (fE ss) m ks ws=some res,fun σ' H' q=>⟨m,Nat.lt_succ_self _,q⟩,?_⟩
     have hlast:(ws.map V.int)[(ws.map V.int).length-1]?=some (.int h):=by
      rw [getElem?_map,length_map,<-List.getLast?_eq_getElem?,hw];rfl
     refine ⟨.ref l,rfl,.inl ⟨rfl,_,.of il⟩,l,_,.int h,rfl,rfl,il,hlast,?_⟩
     have I2:IR He Hb wv r f l [some wv,some (.int r),some (.ref f),some (.ref l),some (.int h),x5] (bF H l (.lst (ws.map V.int).dropLast)) ks ws.dropLast:=⟨⟨_,_,rfl⟩,by rw [cO ine];exact if_,by rw [dO,List.map_dropLast],ine,fun b o hb=>by rw [cO (kc hb hl1)];exact is1 b o hb,fun b o hb=>by rw [cO (kc hb hl2)];exact is2 b o hb⟩
     refine ⟨wv,rfl,AV rw_ I2.s2 hs rfl fun a h1 hS=>⟨a,rfl,⟨_,h1⟩,AZ hf1 hf2 hl1 hl2 I2 hp hS fun σ H I=>⟨_,_,I,hg⟩⟩⟩
end
theorem sA {Γ Γ1:Ev} {fa:F1} {p:PV} (h:fa Γ=.ok p Γ1):bq fa Γ=.nx Γ1:=by unfold bq fP;rw [h]
theorem tU {K:Fg} {H:Hp} {O:List Addr} {vs:List V} {os ms ss:List D} {r:Int} {ks:List Int} {p1 p2:PV} {Q:VK} {Qn:St->Hp->Prop} (nd:O.Nodup) (inH:∀a∈O,H a≠none) (rs:Reps K (bW H O) vs [.tuple [.list os,.list ms,.list ss],.int r])
  (h1:aL [.tuple [.list os,.list ms,.list ss]]=.ok p1) (h2:aV [.tuple [.list os,.list ms,.list ss],.int r]=.ok p2) (hg:wc (fE ss) 1000 [r] [r]=some ks) (h64:ks.length<64)
  (q:∀v H' G,RetOk K H O ⟨.lst .leaf,.list ((PySem.W.sortI ks).map .int)⟩ v H' G->Q v H'):mP K { nx:=Qn,rt:=Q } (L2.start N_reached vs) H:=by
 have hvl:vs.length=2:=rs.1
 have E0:=IU (K:=K) (N:=N_reached) (H:=H) (O:=O) (vs:=vs) (by rw [hvl];decide) nd inH rs
 have g1:bq (ao 1 aL (ae (af 0) ag)) (aQ N_reached.length [.tuple [.list os,.list ms,.list ss],.int r])=.nx (aQ N_reached.length [.tuple [.list os,.list ms,.list ss],.int r]):=sA (cz (ax (aw rfl) ah) h1 rfl rfl)
 have g2:bq (ao 2 aV (ae (af 0) (ae (af 1) ag))) (aQ N_reached.length [.tuple [.list os,.list ms,.list ss],.int r])=.nx (aQ N_reached.length [.tuple [.list os,.list ms,.list ss],.int r]):=sA (cz (ax (aw rfl) (ax (aw rfl) ah)) h2 rfl rfl)
 refine ⟨H,O,_,_,E0,?_⟩
 rw [g1];intro σ1 H1 Fs1 E1;refine ⟨H,O,_,_,E1,?_⟩
 rw [g2];intro σ2 H2 Fs2 E2;have hl6:σ2.length=6:=E2.len1
 obtain ⟨_,v0,F0,e0,_,o0⟩:=E2.slot 0 ⟨.leaf,.tuple [.list os,.list ms,.list ss]⟩ rfl
 obtain ⟨_,v1,F1',e1,_,o1⟩:=E2.slot 1 ⟨.leaf,.int r⟩ rfl
 cases o0 with
 | leaf r0=>
  cases o1 with
  | leaf r1=>
   cases r1;match σ2,hl6,e0,e1 with
   | [a0,a1,a2,a3,a4,a5],_,e0,e1=>
    have ea0:a0=some v0:=by simpa using e0
    have ea1:a1=some (.int r):=by simpa using e1
    subst ea0 ea1;intro f hf;refine ⟨.int r,rfl,dO,[((Sum.inl r:bJ),.bl true)],rfl,(by show 1<=15;decide),?_⟩
    refine ⟨.int r,rfl,(by show 1<=sizeLine;decide),fun l hl=>?_⟩
    have hfl:f≠l:=fun z=>by
     rw [<-z,dO] at hl
     cases hl
    have hl2:H2 l=none:=by rw [cO (Ne.symm hfl),cO (Ne.symm hfl)] at hl;exact hl
    have sH:Same H2 (bF (bF (bF H2 f (.dK [])) f (.dK (zR [] [((Sum.inl r:bJ),.bl true)]))) l (.lst [.int r])):=fun b o hb=>by
     rw [cO (kc hb hl2),cO (kc hb hf),cO (kc hb hf)];exact hb
    have hHf:H f=none:=E2.same.free hf
    have hHl:H l=none:=E2.same.free hl2
    have hbf:bW H2 (O++Fs2.flatten) f=none:=by unfold bW;split<;>first | rfl | exact hf
    have hbl:bW H2 (O++Fs2.flatten) l=none:=by unfold bW;split<;>first | rfl | exact hl2
    have I:IR H (bW H2 (O++Fs2.flatten)) v0 r f l [some v0,some (.int r),some (.ref f),some (.ref l),a4,a5] (bF (bF (bF H2 f (.dK [])) f (.dK (zR [] [((Sum.inl r:bJ),.bl true)]))) l (.lst [.int r])) [r] [r]:=
     ⟨⟨_,_,rfl⟩,by rw [cO hfl,dO];rfl,dO,hfl,E2.same.trans sH,hid_le.trans sH⟩
    refine xg (He:=H) (Hb:=bW H2 (O++Fs2.flatten)) r0 hHf hbf hHl hbl I hg fun σ3 H3 ws I3=>?_
    obtain ⟨⟨x4,x5,rfl⟩,if_,il,ine,is1,is2⟩:=I3;refine ⟨.ref f,rfl,f,ks,.bl true,rfl,if_,h64,fun p hp=>q _ _ [p] ⟨is1.trans (gB hp),fun a ha=>by rw [List.mem_singleton.mp ha];exact is1.free hp,fun a ha=>by rw [List.mem_singleton.mp ha,dO];exact Option.some_ne_none _,by simp,?_,rfl⟩⟩
    refine Own.mkLeaves dO (by simp) fun j u d h1 h2=>?_
    rw [getElem?_map] at h1 h2
    cases e3:(PySem.W.sortI ks)[j]? with
    | none=>rw [e3] at h1;cases h1
    | some z=>
     rw [e3] at h1 h2
     cases h1
     cases h2;exact .int z
theorem jT {ds:List D} {p:PV} (h:aZ ds=.ok p):∃os ms ss r ks p1 p2,ds=[.tuple [.list os,.list ms,.list ss],.int r]/\aL [.tuple [.list os,.list ms,.list ss]]=.ok p1/\aV [.tuple [.list os,.list ms,.list ss],.int r]=.ok p2/\wc (fE ss) 1000 [r] [r]=some ks/\ks.length<64/\p=⟨.lst .leaf,.list ((PySem.W.sortI ks).map .int)⟩:=by
 unfold aZ at h;split at h
 ·rename_i os ms ss r
  split at h
  ·rename_i p1 e1
   split at h
   ·rename_i p2 e2
    unfold BB at h;split at h
    ·rename_i ks e3
     split at h
     ·rename_i h64
      cases h;exact ⟨os,ms,ss,r,ks,p1,p2,rfl,e1,e2,e3,h64,rfl⟩
     ·cases h
    ·cases h
   ·cases h
  ·cases h
 ·cases h
theorem HV {α:Type} [DecidableEq α]:∀{ks L:List α},ks.Nodup->(∀x∈ks,x∈L)->ks.length<=L.length
 | [],_,_,_=>Nat.zero_le _
 | x::ks,L,nd,h=>by
  have hx:=h x mem_cons_self
  obtain ⟨n1,n2⟩:=List.nodup_cons.mp nd;have ih:=HV (ks:=ks) (L:=L.erase x) n2 fun y hy=>(List.mem_erase_of_ne (fun z:y=x=>n1 (by rw [<-z];exact hy))).mpr (h y (MK _ hy))
  have hl:=List.length_erase_of_mem hx
  have:0<L.length:=length_pos_of_mem hx
  rw [length_cons];omega
theorem Jb {n:Nat} {ks:List Int} (nd:ks.Nodup) (h:∀x∈ks,0<=x/\x<(n:Int)):ks.length<=n:=by
 have:=HV (L:=(List.range n).map fun i:Nat=>(i:Int)) nd fun x hx=>by
  obtain ⟨a,b⟩:=h x hx;exact List.mem_map.mpr ⟨x.toNat,List.mem_range.mpr (by omega),by omega⟩
 simpa using this
section
variable {n:Nat} {sc:Int->Option (List Int)}
inductive Rc (sc:Int->Option (List Int)) (r:Int):Int->Prop where
 | refl:Rc sc r r
 | step {x t:Int} {ts:List Int}:Rc sc r x->sc x=some ts->t∈ts->Rc sc r t
noncomputable def MB (sc:Int->Option (List Int)) (ks:List Int):Prop:=∀x∈ks,∀ts,sc x=some ts->∀t∈ts,t∈ks
theorem Iu:∀(ts ks ws:List Int),ks.Nodup->ks.length+ts.length<1000->ws.length+ts.length<1000->∃ks' ws',eF ts (ks,ws)=some (ks',ws')/\ks'.Nodup/\(∀x∈ks,x∈ks')/\(∀t∈ts,t∈ks')/\(∀x∈ks',x∈ks\/x∈ts)/\(∀x∈ks',x∈ks\/x∈ws')/\(∀x∈ws,x∈ws')/\(∀x∈ws',x∈ws\/x∈ks')/\ws'.length+ks.length=ws.length+ks'.length
 | [],ks,ws,nd,_,_=>⟨ks,ws,rfl,nd,fun _ h=>h,fun _ h=>(nomatch h),fun _ h=>.inl h,fun _ h=>.inl h,fun _ h=>h,fun _ h=>.inl h,rfl⟩
 | t::ts,ks,ws,nd,h1,h2=>by
  rw [length_cons] at h1 h2
  cases hc:ks.contains t with
  | true=>
   have e:stp t (ks,ws)=some (ks,ws):=by unfold stp;rw [if_pos hc]
   obtain ⟨ks',ws',a0,a1,a2,a3,a4,a5,a6,a7,a8⟩:=Iu ts ks ws nd (by omega) (by omega)
   refine ⟨ks',ws',by rw [eF,e];exact a0,a1,a2,fun x hx=>?_,fun x hx=>(a4 x hx).elim .inl fun z=>.inr (MK _ z),a5,a6,a7,a8⟩
   rcases MH hx with z | z
   ·rw [z];exact a2 t (by simpa using hc)
   ·exact a3 x z
  | false=>
   have hnt:t∉ks:=by simpa using hc
   have e:stp t (ks,ws)=some (ks++[t],ws++[t]):=by unfold stp;rw [if_neg (by rw [hc];exact Bool.false_ne_true),if_pos ⟨by show ks.length<1000;omega,by show ws.length<1000;omega⟩]
   have nd':(ks++[t]).Nodup:=List.nodup_append.mpr ⟨nd,by simp,fun a ha b hb z=>hnt (by rw [List.mem_singleton.mp hb] at z;rw [<-z];exact ha)⟩
   obtain ⟨ks',ws',a0,a1,a2,a3,a4,a5,a6,a7,a8⟩:=Iu ts (ks++[t]) (ws++[t]) nd' (by simp;omega) (by simp;omega)
   refine ⟨ks',ws',by rw [eF,e];exact a0,a1,fun x hx=>a2 x (MF _ hx),fun x hx=>?_,fun x hx=>?_,fun x hx=>?_,fun x hx=>a6 x (MF _ hx),fun x hx=>?_,by simp at a8;omega⟩
   ·rcases MH hx with z | z
    ·rw [z];exact a2 t (ME _ (List.mem_singleton.mpr rfl))
    ·exact a3 x z
   ·rcases a4 x hx with z | z
    ·rcases MG z with z | z
     ·exact .inl z
     ·exact .inr (by rw [List.mem_singleton.mp z];exact mem_cons_self)
    ·exact .inr (MK _ z)
   ·rcases a5 x hx with z | z
    ·rcases MG z with z | z
     ·exact .inl z
     ·exact .inr (a6 x (ME _ z))
    ·exact .inr z
   ·rcases a7 x hx with z | z
    ·rcases MG z with z | z
     ·exact .inl z
     ·exact .inr (a2 x (ME _ z))
    ·exact .inr z
theorem uf (hn:n<=100) (hsc:∀h:Int,0<=h->h<(n:Int)->∃ts,sc h=some ts/\ts.length<=100/\∀t∈ts,0<=t/\t<(n:Int)) {r:Int}:∀(m:Nat) (ks ws:List Int),ks.Nodup->(∀x∈ks,0<=x/\x<(n:Int))->(∀x∈ws,x∈ks)->ws.length<=ks.length ->
  (∀x∈ks,x∈ws\/∀ts,sc x=some ts->∀t∈ts,t∈ks)->(∀x∈ks,Rc sc r x)->ws.length+(n-ks.length)<m->∃res,wc sc m ks ws=some res/\res.Nodup/\(∀x∈res,0<=x/\x<(n:Int))/\(∀x∈ks,x∈res)/\MB sc res/\∀x∈res,Rc sc r x
 | 0,_,_,_,_,_,_,_,_,h=>by omega
 | m+1,ks,ws,nd,hr,hw,hl,hc,hR,h=>by
  rw [wc]
  cases hg:ws.getLast? with
  | none=>
   have:ws=[]:=List.getLast?_eq_none_iff.mp hg
   subst this;exact ⟨ks,rfl,nd,hr,fun _ h=>h,fun x hx ts e t ht=>(hc x hx).elim nofun fun z=>z ts e t ht,hR⟩
  | some a=>
   dsimp only;have ha:a∈ws:=mem_of_getLast? hg
   obtain ⟨ts,e,htl,ht⟩:=hsc a (hr a (hw a ha)).1 (hr a (hw a ha)).2;rw [e];dsimp only;have hkl:=Jb nd hr
   have hwne:ws≠[]:=fun z=>by rw [z] at ha;cases ha
   have hdl:ws.dropLast.length=ws.length-1:=length_dropLast
   have hwp:0<ws.length:=length_pos_of_mem ha
   obtain ⟨ks',ws',a0,a1,a2,a3,a4,a5,a6,a7,a8⟩:=Iu ts ks ws.dropLast nd (by omega) (by omega)
   rw [a0];dsimp only;have hr':∀x∈ks',0<=x/\x<(n:Int):=fun x hx=>(a4 x hx).elim (hr x) (ht x)
   have hkl':=Jb a1 hr'
   have hsub:ks.length<=ks'.length:=HV nd a2
   have key:∀x∈ks,x∈ws.dropLast\/x=a\/∀ts,sc x=some ts->∀t∈ts,t∈ks:=fun x hx=>by
    rcases hc x hx with z | z
    ·have:ws=ws.dropLast++[a]:=by
      obtain ⟨ys,e⟩:=List.getLast?_eq_some_iff.mp hg
      rw [e];simp
     rw [this] at z;rcases MG z with z | z
     ·exact .inl z
     ·exact .inr (.inl (List.mem_singleton.mp z))
    ·exact .inr (.inr z)
   have g1:∀x∈ks',x∈ws'\/∀ts,sc x=some ts->∀t∈ts,t∈ks':=fun x hx=>by
    rcases a5 x hx with z | z
    ·rcases key x z with y | y | y
     ·exact .inl (a6 x y)
     ·refine .inr fun ts' e' t ht'=>?_
      rw [y,e] at e'
      cases e'
      exact a3 t ht'
     ·exact .inr fun ts' e' t ht'=>a2 t (y ts' e' t ht')
    ·exact .inl z
   have g2:∀x∈ks',Rc sc r x:=fun x hx=>by
    rcases a4 x hx with z | z
    ·exact hR x z
    ·exact .step (hR a (hw a ha)) e z
   obtain ⟨res,b0,b1,b2,b3,b4,b5⟩:=uf hn hsc m ks' ws' a1 hr' (fun x hx=>(a7 x hx).elim (fun z=>a2 x (hw x (List.dropLast_subset _ z))) fun z=>z) (by omega) g1 g2 (by omega)
   exact ⟨res,b0,b1,b2,fun x hx=>b3 x (a2 x hx),b4,b5⟩
end
theorem uJ {P:Program} {w:World} {K:Fg} {mg:Str->Option Value} {base:Heap} {f:Addr} {fd:FuncData} {s_reached:Stmt} {j1 j2 k:Nat} (F:Fun K "reached" "reached" s_reached f fd) (hm:mg "reached"=some (.ref f)) (b:Binds K fd ["world", "room"] []) (n_sorted:mg "sorted"=none)
  (c1:DefOk P w K mg base j1 "check_world" 1 aL) (c2:DefOk P w K mg base j2 "check_room" 2 aV) (hj1:decide (j1<=k)=true) (hj2:decide (j2<=k)=true) {vs cs ls lo gs:List Nat} (sc:bL N_reached ["world", "room"] (dR s_reached)) (cp:jt N_reached cZ vs cs ls lo gs (dR s_reached)=true) (nm:r6 N_reached cZ=true)
  (bd:∀X:Cx,Cp X N_reached cZ vs cs ls lo gs->Rm X->PassesOwn (model X.prog X.w) X.A X.env X.xe->X.mg "sorted"=none->wm X "check_world" 1 aL->wm X "check_room" 2 aV->PSs X (jD s_reached) (mP X.K)):DefOk P w K mg base (k+1) "reached" 2 aZ:=by
 refine ⟨f,fd,["world", "room"],F.ok sc (fun vs H Q E h=>h.1) (fun cdv A outer s H vs Q E hr h=>⟨_,bd _ (Cp.fn cp nm) hr.units PassesOwn.never n_sorted (c1.cal hr hj1) (c2.cal hr hj2),?_⟩),hm,F.kp,b⟩
 obtain ⟨hl,O,ds,nd,inH,rs,w⟩:=h
 cases e:aZ ds with
 | er c=>rw [e] at w;exact w.elim
 | no=>rw [e] at w;exact w.elim
 | ok p=>
  rw [e] at w;obtain ⟨os,ms,ss,r,ks,p1,p2,rfl,e1,e2,e3,h64,rfl⟩:=jT e;exact tU nd inH rs e1 e2 e3 h64 w
inductive se (w:Wd) (r:Nat):Nat->Prop where
 | refl:se w r r
 | step {x t:Nat}:se w r x->t∈w.stp x->se w r t
theorem tF {w:Wd} (ok:w.Ok) {h:Int} (h0:0<=h) (h1:h<(w.n:Int)):fE (w.s.map aC) h=some ((w.stp h.toNat).map fun t:Nat=>(t:Int)):=by
 have hl:h.toNat<w.s.length:=by rw [ok.ls];omega
 unfold fE;rw [if_pos ⟨h0,by rw [length_map,ok.ls];exact h1⟩,getElem?_map,MI hl]
 show rW _=_
 unfold Wd.stp;rw [MJ,MI hl,GF,gW];rfl
theorem fV {w:Wd} (ok:w.Ok) {r:Nat} (hr:r<w.n):∃S,aZ [w.enc,rm r]=.ok ⟨.lst .leaf,aC S⟩/\Std w.n S/\r∈S/\(∀x∈S,∀t∈w.stp x,t∈S)/\∀x∈S,se w r x:=by
 have h24:=ok.h24
 obtain ⟨res,e,nd,rg,hin,cl,rc⟩:=uf (n:=w.n) (sc:=fE (w.s.map aC)) (by omega) (fun h h0 h1=>⟨_,tF ok h0 h1,by
  rw [length_map];have:=ok.z.len (r:=h.toNat)
  exact Nat.le_trans (Kf (tq ok (by omega)) fun x hx=>ok.stp_lt hx) (by omega),fun t ht=>by
  obtain ⟨z,hz,rfl⟩:=List.mem_map.mp ht;have:=ok.stp_lt hz
  omega⟩) (r:=(r:Int)) 1000 [(r:Int)] [(r:Int)] (by simp) (fun x hx=>by rw [List.mem_singleton.mp hx];omega) (fun x hx=>hx) (by simp) (fun x hx=>.inl hx) (fun x hx=>by rw [List.mem_singleton.mp hx];exact .refl) (by simp;omega)
 have hlen:=Jb nd rg
 have hS:PySem.W.sortI res=((List.range w.n).filter fun x:Nat=>res.contains (x:Int)).map fun t:Nat=>(t:Int):=by
  symm
  refine PySem.W.eq_sortI ?_ ?_
  ·refine (List.perm_ext_iff_of_nodup (List.pairwise_map.mpr (List.Pairwise.imp (R:=fun a b:Nat=>a≠b) (fun h z=>h (Int.ofNat_inj.mp z)) ((nodup_range).sublist filter_sublist))) nd).mpr fun x=>?_
   rw [mem_map];constructor
   ·rintro ⟨t,ht,rfl⟩
    exact List.contains_iff_mem.mp (List.mem_filter.mp ht).2
   ·intro hx
    obtain ⟨a,b⟩:=rg x hx;have ex:((x.toNat:Nat):Int)=x:=by omega
    exact ⟨x.toNat,List.mem_filter.mpr ⟨List.mem_range.mpr (by omega),List.contains_iff_mem.mpr (by rw [ex];exact hx)⟩,ex⟩
  ·rw [pairwise_map]
   exact (List.pairwise_lt_range.filter _).imp fun h=>by omega
 have mem:∀{x:Nat},x∈(List.range w.n).filter (fun x:Nat=>res.contains (x:Int))↔(x:Int)∈res:=fun {x}=>by
  rw [List.mem_filter,mem_range,contains_iff_mem];exact ⟨fun h=>h.2,fun h=>⟨by have:=rg _ h;omega,h⟩⟩
 refine ⟨(List.range w.n).filter fun x:Nat=>res.contains (x:Int),?_,Std.of _,mem.mpr (hin _ (by simp)),fun x hx t ht=>?_,fun x hx=>?_⟩
 ·have c1:aL [.tuple [.list w.os,.list (w.m.map ot),.list (w.s.map aC)]]=.ok ⟨.leaf,.none⟩:=ok.check
  have c2:aV [.tuple [.list w.os,.list (w.m.map ot),.list (w.s.map aC)],.int (r:Int)]=.ok ⟨.leaf,.none⟩:=g9 ok hr
  show aZ [.tuple [.list w.os,.list (w.m.map ot),.list (w.s.map aC)],.int (r:Int)]=_
  unfold aZ;simp only [c1,c2,e,BB]
  rw [if_pos (by omega),hS,map_map]
  rfl
 ·have hx:=mem.mp hx
  have:=rg _ hx
  refine mem.mpr (cl _ hx _ (tF ok this.1 this.2) _ ?_)
  rw [Int.toNat_natCast];exact List.mem_map.mpr ⟨t,ht,rfl⟩
 ·have go:∀y,Rc (fE (w.s.map aC)) (r:Int) y->0<=y/\y<(w.n:Int)/\se w r y.toNat:=fun y h=>by
   induction h with
   | refl=>exact ⟨by omega,by omega,by rw [Int.toNat_natCast];exact .refl⟩
   | step _ e ht ih=>
    rw [tF ok ih.1 ih.2.1] at e
    cases e;obtain ⟨z,hz,rfl⟩:=List.mem_map.mp ht;have:=ok.stp_lt hz
    exact ⟨by omega,by omega,by rw [Int.toNat_natCast];exact .step ih.2.2 hz⟩
  have:=(go _ (rc _ (mem.mp hx))).2.2
  rwa [Int.toNat_natCast] at this
end KC
namespace KC
open PySem PySem.Spec L2 T
open PyProof.Rows hiding St
noncomputable def s_reached:Stmt:=JG 25
theorem mQ:bL N_reached ["world", "room"] (dR s_reached):=⟨rfl,rfl,rfl,by decide +kernel,rfl,by decide +kernel,by decide +kernel⟩
theorem nK:jt N_reached cZ [0,1,2,3,4,5] [] [0,1,2,3,4,5] [0,1,2,3,4,5] [0,1,2] (dR s_reached)=true:=by kernel_rfl
theorem nh:r6 N_reached cZ=true:=by kernel_rfl
theorem nT {X:Cx} (S:Cp X N_reached cZ [0,1,2,3,4,5] [] [0,1,2,3,4,5] [0,1,2,3,4,5] [0,1,2]) (R:Rm X) (hp:PassesOwn (model X.prog X.w) X.A X.env X.xe) (n_sorted:X.mg "sorted"=none) (c1:wm X "check_world" 1 aL) (c2:wm X "check_room" 2 aV) :
  PSs X (jD s_reached) (mP X.K):=by
 have hN:X.N.Nodup:=by rw [S.hN];exact S.nd
 have v:∀(i:Nat) (x:Str) (pos:Pos),N_reached[i]?=some x->PE X (.Name x pos) (bg i):=fun i x pos e=>by
  have hi:[0,1,2,3,4,5].contains i=true:=by
   have:=(MM e).1
   have h6:i<6:=this
   match i,h6 with
   | 0,_=>rfl
   | 1,_=>rfl
   | 2,_=>rfl
   | 3,_=>rfl
   | 4,_=>rfl
   | 5,_=>rfl
  have m:=S.nm x (mem_of_getElem? e)
  exact nY (by rw [S.hN];exact e) (S.vis i x e hi) m.1 m.2
 have hu:X.A.units+1<cLine:=Nat.lt_of_le_of_lt (by omega) R
 have g:∀(i:Nat) (x:Str),N_reached[i]?=some x->X.N[i]?=some x:=fun i x e=>by rw [S.hN];exact e
 have lc:∀(i:Nat) (x:Str),N_reached[i]?=some x->[0,1,2,3,4,5].contains i=true->Loc X.env.scope x/\(X.fn x=true\/X.env.scope.names.lookup x=some .local):=fun i x e hi=>S.loc i x e hi
 refine og (ds_drop (cc S 0 rfl rfl c1 (da_cons (cv S 0 rfl rfl) da_nil (dh rfl)) (dh rfl) rfl) rfl) ?_
 refine og (ds_drop (cc S 1 rfl rfl c2 (da_cons (cv S 0 rfl rfl) (da_cons (cv S 1 rfl rfl) da_nil (dh rfl)) (dh rfl)) (dh rfl) rfl) rfl) ?_
 refine og (zT hN (g 2 _ rfl) (lc 2 _ rfl rfl).1 (xD (uu (v 1 _ _ rfl) kU xw) rfl rfl (by simp) (by decide)) rfl (lc 2 _ rfl rfl).2) ?_
 refine og (zT hN (g 3 _ rfl) (lc 3 _ rfl rfl).1 (HU (iY (v 1 _ _ rfl) nX (dh rfl))) rfl (lc 3 _ rfl rfl).2) ?_
 refine og (kT hp (II (v 3 _ _ rfl) (fun _=>rfl)) ?_) ?_
 ·refine og (zT hN (g 4 _ rfl) (lc 4 _ rfl rfl).1 (Bx PySem.F.plainAttrs_list PySem.F.slot_list_pop PySem.F.type_list_pop BO (v 3 _ _ rfl) rfl rfl) rfl (lc 4 _ rfl rfl).2) ?_
  refine v9 (HW hp S.calm (Gy (o4 Gp (o4 Gp (v 0 _ _ rfl) HS (fun _ _=>rfl)) (v 4 _ _ rfl) (fun _ _=>rfl))) (rY hN (g 5 _ rfl) (lc 5 _ rfl rfl).1 (lc 5 _ rfl rfl).2) ?_ (fun _=>rfl))
  refine v9 (uq (uk (qy hu (v 5 _ _ rfl) (v 2 _ _ rfl)) (by with_unfolding_all rfl)) ?_ GA)
  refine og (oU hu (v 2 _ _ rfl) (v 5 _ _ rfl) kU rfl) ?_
  exact v9 (Im (jd PySem.F.plainAttrs_list PySem.F.slot_list_append PySem.F.type_list_append IZ (v 3 _ _ rfl) (iY (v 5 _ _ rfl) nX (dh rfl)) rfl rfl rfl (dh rfl) rfl) rfl)
 ·exact v9 (DB (DL (nR S.calm) (S.g (j:=2) rfl rfl).1 n_sorted ml (iY (v 2 _ _ rfl) nX (dh rfl)) (S.g (j:=2) rfl rfl).2.2 (S.g (j:=2) rfl rfl).2.1 (dh rfl) rfl))
theorem mY {P:Program} {w:World} {K:Fg} {mg:Str->Option Value} {base:Heap} {f:Addr} {fd:FuncData} {j1 j2 k:Nat} (F:Fun K "reached" "reached" s_reached f fd) (hm:mg "reached"=some (.ref f)) (b:Binds K fd ["world", "room"] []) (n_sorted:mg "sorted"=none)
  (c1:DefOk P w K mg base j1 "check_world" 1 aL) (c2:DefOk P w K mg base j2 "check_room" 2 aV) (hj1:decide (j1<=k)=true) (hj2:decide (j2<=k)=true):DefOk P w K mg base (k+1) "reached" 2 aZ:=
 uJ F hm b n_sorted c1 c2 hj1 hj2 mQ nK nh fun X S R hp n c1 c2=>nT S R hp n c1 c2
noncomputable def CK:FS:=(ay (bq (ao 1 aL (ae (af 0) ag)))
  (ay (bq (ao 2 du (ae (af 0) (ae (af 1) ag))))
  (ay (az false 2 (ao 2 cg (ae (af 0) (ae (af 1) ag))))
  (ay (b6 (ke (bU (aO ba (af 1))) (aO aA (aD (cY false) (av .leaf ag) (aj (af 2) (eK (.int 2)))))) kJ aN)
  (aU (af 2))))))
noncomputable def nk:List MR->Res:=aG 3 CK
noncomputable def rF:FS:=(ay (az false 3 (ao 3 dD (ae (af 0) (ae (zI (ae (bG br (ae (aj (af 0) (eK (.int 0))) ag)) ag)) (ae (af 2) ag)))))
  (ay (az true 4 (av .leaf (ae (af 1) ag)))
  (ay (si 100 (aO aA (aD pA (aj (af 3) (cU 4 (eU bt (eK (.int 1))))) (eK (.int 0))))
  (eu 4 (aj (ao 3 bS (ae (af 0) (ae (af 3) (ae (cU 4 (eU bt (eK (.int 1)))) ag)))) (eK (.int 0)))))
  (aU (ck 4)))))
noncomputable def cD:List MR->Res:=aG 5 rF
noncomputable def hU:FS:=(aU (eL (aB .leaf 2 (aR (ao 2 aZ (ae (af 0) (ae (af 1) ag)))) aT (ao 2 aZ (ae (af 0) (ae (af 2) ag))))))
noncomputable def da:List MR->Res:=aG 3 hU
noncomputable def d_ring_by_marks:FS:=(ay (az true 3 (av .leaf (ae (af 2) ag)))
  (ay (dw 4 (aR (af 1))
  (JH 3 (bP (fun k=>(some k,none)) (ao 3 cD (ae (af 0) (ae (cU 3 (eU bt (eK (.int 1)))) (ae (ao 2 uR (ae (af 0) (ae (af 4) ag))) ag)))) (eK (.int 1)))))
  (aU (bz (af 3) (bP (fun k=>(none,some k)) (ao 3 cD (ae (af 0) (ae (aj (aj (aj (af 0) (eK (.int 2))) (cU 3 (eU bt (eK (.int 1))))) (eK (.int 0))) (ae (av .leaf (ae (af 2) ag)) ag)))) (eU bt (eK (.int 1))))))))
noncomputable def m_ring_by_marks:List MR->Res:=aG 5 d_ring_by_marks
open PySem.SeqAt
section
variable {w:Wd}
theorem vH {S:List Nat} (cl:∀x∈S,∀t∈w.stp x,t∈S):∀{q:List Nat} {z:Nat},z∈S->wj w (z::q)->∀x∈z::q,x∈S
 | [],z,hz,_,x,hx=>by rw [List.mem_singleton.mp hx];exact hz
 | y::q,z,hz,h,x,hx=>by
  rcases MH hx with rfl | hx
  ·exact hz
  ·exact vH cl (cl z hz y h.1) h.2 x hx
theorem ua {S:List Nat} (cl:∀x∈S,∀t∈w.stp x,t∈S) {r x:Nat} (h:se w r x) (hr:r∈S):x∈S:=by
 induction h with
 | refl=>exact hr
 | step _ ht ih=>exact cl _ ih _ ht
theorem t9 (ok:w.Ok) {G:List Nat} {rk:List (Option Nat)} (R:RightG w.n w.stp (fun _=>true) (List.range w.n) G rk) {r x:Nat} (hr:r<w.n) (h:se w r x):x<w.n/\(bB rk x≠none->bB rk r≠none):=by
 induction h with
 | refl=>exact ⟨hr,fun h=>h⟩
 | step _ ht ih=>exact ⟨ok.stp_lt ht,fun h=>ih.2 (R.step_ok ih.1 (List.mem_range.mpr ih.1) (led_t.mpr ⟨_,ht,h⟩))⟩
structure WgF (w:Wd) (r:Nat) (l:List Nat):Prop where
 hd:l.head?=some r
 lt:∀x∈l,x<w.n
 ch:wj w l
theorem WgF.snoc (ok:w.Ok) {r z t:Nat} {l:List Nat} (h:WgF w r l) (hz:l.getLast?=some z) (ht:t∈w.stp z):WgF w r (l++[t]):=by
 refine ⟨?_,fun x hx=>?_,IB ht h.ch hz⟩
 ·have:=h.hd
  cases l with
  | nil=>cases this
  | cons a s=>exact this
 ·rcases MG hx with q | q
  ·exact h.lt x q
  ·rw [List.mem_singleton.mp q]
   exact ok.stp_lt ht
theorem yo (ok:w.Ok) {G:List Nat} (hG:∀r∈G,r<w.n) (hgl:G.length<=1000):∃rk,dD [w.enc,aC (List.range w.n),aC G]=.ok ⟨.lst .leaf,iA rk⟩/\RightG w.n w.stp (fun _=>true) (List.range w.n) G rk:=by
 have lo:=ok.g.lo
 have h24:=ok.h24
 obtain ⟨rk,e,Rt,_⟩:=j0 ok.z (cl:=w.os.map fun _=>true) (thr:=List.range w.n) (goal:=G) (by rw [length_map];exact lo) (fun r hr=>ok.stp_ne (List.mem_range.mp hr)) (fun r hr=>List.mem_range.mp hr) (by rw [length_range];omega) hG hgl
 have Rt:=Rt.congr (ch':=fun _=>true) fun r hr=>by
  unfold gA;rw [MJ,getElem?_map,MI (by omega)]
  rfl
 refine ⟨rk,?_,Rt⟩
 have c1:aB .leaf 3 (aR (aj (af 0) (eK (.int 0)))) aT (eK (.bool true)) (aQ 4 [w.enc,aC (List.range w.n),aC G])=.ok ⟨.lst .leaf,nP (w.os.map fun _=>true)⟩ (aQ 4 [w.enc,aC (List.range w.n),aC G]):=by
  have:=mC (fun d:D=>d) w.os (fun d=>⟨.leaf,.bool true⟩) (s:=.leaf) (i:=3) (fi:=aR (aj (af 0) (eK (.int 0)))) (fe:=eK (.bool true)) (st:=true) (Γ:=aQ 4 [w.enc,aC (List.range w.n),aC G]) (by simp [aQ,Wd.enc,cX]) (by simp [aQ]) rfl (by omega) (fun d hd=>by simp)
  rw [this];simp
 exact aW (aX (cz (ax (aw rfl) (ax c1 (ax (aw rfl) (ax (aw rfl) ah)))) e rfl rfl) rfl)
noncomputable abbrev HK (w:Wd) (r:Nat) (G:List Nat) (rk:List (Option Nat)) (l:List Nat):Ev:=[MS w.enc,MS (rm r),MS (aC G),MS (iA rk),some ⟨.lst .leaf,aC l⟩]
noncomputable def BR (rk:List (Option Nat)) (l:List Nat):Nat:=((l.getLast?).bind (bB rk)).getD 0
structure KR (w:Wd) (r:Nat) (rk:List (Option Nat)) (l:List Nat):Prop where
 wg:WgF w r l
 z:∃z k,l.getLast?=some z/\bB rk z=some k
 pw:l.Pairwise fun a b=>∃i j,bB rk a=some i/\bB rk b=some j/\j<i
theorem uX {n:Nat} (h:1<=n):dQ n (-1)=some (n-1):=by
 unfold dQ;rw [if_neg (by omega)]
 split
 ·congr 1
  omega
 ·omega
theorem pe {l:List Nat} {z:Nat} (h:l.getLast?=some z):(l.map rm)[l.length-1]?=some (rm z):=by
 rw [getElem?_map,<-List.getLast?_eq_getElem?,h];rfl
theorem Ij {Γ:Ev} {i:Nat} {l:List Nat} {z:Nat} (h:Γ[i]?=some (some ⟨.lst .leaf,aC l⟩)) (hz:l.getLast?=some z):cU i (eU bt (eK (.int 1))) Γ=.ok ⟨.leaf,rm z⟩ Γ:=by
 have hp:1<=l.length:=by
  cases l with
  | nil=>cases hz
  | cons a r=>simp
 exact Ax (j:=l.length-1) (ds:=l.map rm) h (sO aH rfl) (by rw [length_map];exact uX hp) (pe hz)
theorem lQ (ok:w.Ok) {G:List Nat} (hG:∀r∈G,r<w.n) (hgl:G.length<=1000) {r:Nat} (hr:r<w.n) {y:Nat} (hy:se w r y) (hyG:y∈G):∃P z,cD [w.enc,rm r,aC G]=.ok ⟨.lst .leaf,aC P⟩/\WgF w r P/\P.getLast?=some z/\z∈G/\P.length<=w.n:=by
 have h24:=ok.h24
 obtain ⟨rk,e0,Rt⟩:=yo ok hG hgl;have rl:=Rt.len
 have hy2:=t9 ok Rt hr hy
 have hrk:bB rk r≠none:=hy2.2 (Rt.goal_ok hy2.1 hyG)
 have atk:∀{x},x<w.n->(rk.map oD)[x]?=some (oD (bB rk x)):=fun {x} hx=>by
  rw [getElem?_map,MI (by omega),bB,MJ,MI (by omega)]
  rfl
 have lenOk:∀l,KR w r rk l->l.length<=w.n:=fun l I=>Kf (I.pw.imp fun {a b} ⟨i,j,h1,h2,h3⟩ z=>by subst z;rw [h1] at h2;cases h2;omega) I.wg.lt
 obtain ⟨k0,hk0⟩:=Option.ne_none_iff_exists'.mp hrk
 have i0:KR w r rk [r]:=⟨⟨rfl,fun x hx=>by rw [List.mem_singleton.mp hx];exact hr,trivial⟩,⟨r,k0,rfl,hk0⟩,by simp⟩
 obtain ⟨P,ew,I,hf⟩:=GO (c:=aO aA (aD pA (aj (af 3) (cU 4 (eU bt (eK (.int 1))))) (eK (.int 0)))) (g:=eu 4 (aj (ao 3 bS (ae (af 0) (ae (af 3) (ae (cU 4 (eU bt (eK (.int 1)))) ag)))) (eK (.int 0)))) (G:=HK w r G rk) (test:=fun l=>decide ((0:Int)<(BR rk l:Int))) (Inv:=KR w r rk) (meas:=fun l=>w.n+1-l.length)
  (fun l I=>by
   obtain ⟨z,k,hz,hk⟩:=I.z;have hzn:=I.wg.lt z (mem_of_getLast? hz)
   have el:BR rk l=k:=by unfold BR;rw [hz];show (bB rk z).getD 0=k;rw [hk];rfl
   rw [el];have a:=atk hzn
   rw [hk] at a;exact gz (s:=.leaf) (aF (g:=pA) (dU (j:=z) (aw rfl) (Ij rfl hz) (rX (by rw [length_map];omega)) a rfl) aH rfl))
  (fun l I ht=>by
   obtain ⟨z,k,hz,hk⟩:=I.z;have hzn:=I.wg.lt z (mem_of_getLast? hz)
   have el:BR rk l=k:=by unfold BR;rw [hz];show (bB rk z).getD 0=k;rw [hk];rfl
   have hk1:0<k:=by
    have:=of_decide_eq_true ht
    rw [el] at this;omega
   have hzG:z∉G:=fun h=>by rw [Rt.g z hzn h] at hk;cases hk;omega
   obtain ⟨_,_,hl⟩:=Rt.p z k hzn hzG hk;obtain ⟨t,htz,j,hj,hjk⟩:=led_t.mp hl;have htl:t∈nr w rk z:=List.mem_filter.mpr ⟨htz,by rw [hj,hk];exact decide_eq_true hjk⟩
   obtain ⟨a,tl,ea⟩:∃a tl,nr w rk z=a::tl:=by
    cases h:nr w rk z with
    | nil=>rw [h] at htl;cases htl
    | cons a tl=>exact ⟨a,tl,rfl⟩
   have ha:a∈nr w rk z:=by rw [ea];exact mem_cons_self
   obtain ⟨ha1,ha2⟩:=List.mem_filter.mp ha;obtain ⟨j2,hj2,hjk2⟩:∃j2,bB rk a=some j2/\j2<k:=by
    rw [hk] at ha2
    cases h:bB rk a with
    | none=>rw [h] at ha2;cases ha2
    | some j2=>rw [h] at ha2;exact ⟨j2,rfl,of_decide_eq_true ha2⟩
   have hlen:=lenOk l I
   have dl:=gq ok rl hzn
   refine ⟨l++[a],?_,⟨I.wg.snoc ok hz ha1,⟨a,j2,by simp,hj2⟩,?_⟩,by rw [length_append,length_singleton];omega⟩
   ·have:=vN (i:=4) (ds:=l.map rm) (Γ:=HK w r G rk l) (p:=⟨.leaf,rm a⟩) (fa:=aj (ao 3 bS (ae (af 0) (ae (af 3) (ae (cU 4 (eU bt (eK (.int 1)))) ag)))) (eK (.int 0))) rfl (dU (j:=0) (ds:=(nr w rk z).map rm) (cz (ax (aw rfl) (ax (aw rfl) (ax (Ij rfl hz) ah))) dl rfl rfl) aH (rX (by rw [ea];simp)) (by rw [ea];rfl) rfl) rfl (by rw [length_map];omega)
    rw [this];simp [aC]
   ·rw [List.pairwise_append]
    refine ⟨I.pw,by simp,fun x hx b hb=>?_⟩
    rw [List.mem_singleton.mp hb];by_cases hxz:x=z
    ·exact ⟨k,j2,by rw [hxz];exact hk,hj2,hjk2⟩
    ·obtain ⟨init,rfl⟩:∃init,l=init++[z]:=List.getLast?_eq_some_iff.mp hz
     have hxi:x∈init:=by
      rcases MG hx with q | q
      ·exact q
      ·exact absurd (List.mem_singleton.mp q) hxz
     obtain ⟨i,j',e1,e2,e3⟩:=(List.pairwise_append.mp I.pw).2.2 x hxi z (by simp)
     rw [hk] at e2
     cases e2;exact ⟨i,j2,e1,hj2,by omega⟩) 100 [r] i0 (by show w.n+1-1<100;omega)
 obtain ⟨z,k,hz,hk⟩:=I.z;have hzn:=I.wg.lt z (mem_of_getLast? hz)
 have el:BR rk P=k:=by unfold BR;rw [hz];show (bB rk z).getD 0=k;rw [hk];rfl
 have hk0:k=0:=by
  have:=of_decide_eq_false hf
  rw [el] at this;omega
 have hzG:z∈G:=Classical.byContradiction fun h=>by
  have:=(Rt.p z k hzn h hk).1
  omega
 refine ⟨P,z,?_,I.wg,hz,hzG,lenOk P I⟩
 refine aW (ak (b7 (cz (ax (aw rfl) (ax (zM (n:=w.n) (s:=.leaf) (by omega) (ax (zV ok rfl) ah)) (ax (aw rfl) ah))) e0 rfl rfl) rfl (by simp [aQ])) (ak (Γ1:=HK w r G rk [r]) (zU (b9 (s:=.leaf) (ax (aw rfl) ah) rfl rfl rfl) rfl (by simp [aQ])) (ak (Γ1:=HK w r G rk P) ?_ (aX (DC (p:=⟨.lst .leaf,aC P⟩) rfl) rfl))))
 unfold si;exact ew
end
theorem xR {ks:List Nat} (h:0<ks.length):∃i,ni ks=some i/\i<ks.length/\∀b∈ks,ks.getD i 0<=b:=by
 cases e:ni ks with
 | some i=>
  have h1:=List.mem_range.mp (List.mem_of_find?_eq_some e)
  have h2:=List.find?_some e
  exact ⟨i,rfl,h1,fun b hb=>of_decide_eq_true (List.all_eq_true.mp h2 b hb)⟩
 | none=>
  exfalso
  have no:∀i,i<ks.length->∃b∈ks,b<ks.getD i 0:=fun i hi=>by
   have:=List.find?_eq_none.mp e i (List.mem_range.mpr hi)
   have:=mt List.all_eq_true.mpr this
   obtain ⟨b,hb⟩:=Classical.not_forall.mp this;obtain ⟨hb1,hb2⟩:=Classical.not_imp.mp hb;refine ⟨b,hb1,?_⟩
   have:¬ks.getD i 0<=b:=fun z=>hb2 (decide_eq_true z)
   omega
  have go:∀v i,i<ks.length->ks.getD i 0=v->False:=fun v=>by
   induction v using Nat.strongRecOn with
   | _ v ih=>
    intro i hi hv;obtain ⟨b,hb,hlt⟩:=no i hi;obtain ⟨j,hj,ej⟩:=getElem_of_mem hb;refine ih b (by omega) j hj ?_
    rw [MJ,MI hj,ej];rfl
  exact go _ 0 h rfl
section
variable {w:Wd}
structure L5 (w:Wd) (S:List Nat):Prop where
 std:Std w.n S
 ne:S≠[]
 cl:∀x∈S,∀t∈w.stp x,t∈S
 bk:∀x∈S,∀y∈S,se w x y
theorem AK {n:Nat} {S:List Nat} (h:Std n S):S.Nodup:=by
 obtain ⟨q,rfl⟩:=h;exact (nodup_range).sublist filter_sublist
theorem nF (ok:w.Ok) {s:Nat} (hs:s<w.n):∃S,da [w.enc,rm s]=.ok ⟨.leaf,aC S⟩/\L5 w S/\∃x∈S,se w s x:=by
 have h24:=ok.h24
 obtain ⟨S0,e0,s0,i0,c0,r0⟩:=fV ok hs;have ex:∀t,∃S,t<w.n->aZ [w.enc,rm t]=.ok ⟨.lst .leaf,aC S⟩/\Std w.n S/\t∈S/\(∀x∈S,∀u∈w.stp x,u∈S)/\∀x∈S,se w t x:=fun t=>by
  by_cases ht:t<w.n
  ·obtain ⟨S,h⟩:=fV ok ht
   exact ⟨S,fun _=>h⟩
  ·exact ⟨[],fun z=>absurd z ht⟩
 let rs:Nat->List Nat:=fun t=>(ex t).choose
 have hrs:∀t,t<w.n->aZ [w.enc,rm t]=.ok ⟨.lst .leaf,aC (rs t)⟩/\Std w.n (rs t)/\t∈rs t/\(∀x∈rs t,∀u∈w.stp x,u∈rs t)/\∀x∈rs t,se w t x:=fun t=>(ex t).choose_spec
 have lt0:∀x∈S0,x<w.n:=s0.lt
 have cm:aB .leaf 2 (aR (ao 2 aZ (ae (af 0) (ae (af 1) ag)))) aT (ao 2 aZ (ae (af 0) (ae (af 2) ag))) (aQ 3 [w.enc,rm s])=.ok ⟨.lst .leaf,.list (S0.map fun t=>aC (rs t))⟩ (aQ 3 [w.enc,rm s]):=
  mC rm S0 (fun t=>⟨.lst .leaf,aC (rs t)⟩) (st:=true) (bQ (s:=.lst .leaf) (cz (ax (aw rfl) (ax (aw rfl) ah)) e0 rfl rfl) rfl) (by simp [aQ]) rfl (by have:=s0.len;omega) fun t ht=>⟨cz (ax (aw rfl) (ax (aw rfl) ah)) (hrs t (lt0 t ht)).1 rfl rfl,rfl⟩
 have hp:0<S0.length:=length_pos_of_mem i0
 have em:(S0.map fun t=>aC (rs t)).map nt=S0.map fun t=>(rs t).length:=by
  rw [map_map];refine List.map_congr_left fun t _=>?_
  show (List.map rm (rs t)).length=_
  rw [length_map]
 obtain ⟨i,ei,hi,hmin⟩:=xR (ks:=S0.map fun t=>(rs t).length) (by rw [length_map];exact hp)
 rw [length_map] at hi;have hall:(S0.map fun t=>aC (rs t)).all B3=true:=List.all_eq_true.mpr fun d hd=>by
  obtain ⟨t,_,rfl⟩:=List.mem_map.mp hd;rfl
 have eM:eL (aB .leaf 2 (aR (ao 2 aZ (ae (af 0) (ae (af 1) ag)))) aT (ao 2 aZ (ae (af 0) (ae (af 2) ag)))) (aQ 3 [w.enc,rm s])=.ok ⟨.leaf,aC (rs S0[i])⟩ (aQ 3 [w.enc,rm s]):=by
  unfold eL;rw [cm];simp only [Sh.isView,Bool.not_false,Bool.true_and,hall,if_true,em,ei]
  rw [MJ,getElem?_map,MI hi];rfl
 have hm0:S0[i]∈S0:=getElem_mem hi
 obtain ⟨_,q1,q2,q3,q4⟩:=hrs S0[i] (lt0 _ hm0)
 refine ⟨rs S0[i],aW (aX eM rfl),⟨q1,(fun z=>by rw [z] at q2;cases q2),q3,fun x hx y hy=>?_⟩,S0[i],q2,r0 _ hm0⟩
 have hx0:x∈S0:=ua c0 (q4 x hx) hm0
 obtain ⟨_,p1,p2,p3,p4⟩:=hrs x (lt0 x hx0);refine p4 y (Classical.byContradiction fun hn=>?_)
 have l1:(y::rs x).length<=(rs S0[i]).length:=Kg (List.nodup_cons.mpr ⟨hn,AK p1⟩) fun u hu=>by
  rcases MH hu with rfl | hu
  ·exact hy
  ·exact ua q3 (p4 u hu) hx
 have l2:=hmin (rs x).length (List.mem_map.mpr ⟨x,hx0,rfl⟩)
 rw [MJ,getElem?_map,MI hi] at l2;have l2:(rs S0[i]).length<=(rs x).length:=l2
 rw [length_cons] at l1;omega
theorem xK {R:List Nat}:dA ⟨.view,.list (R.map rm)⟩ (R.map rm)=true:=by
 unfold dA;simp [Sh.isView,bo]
structure RgI (w:Wd) (S:List Nat) (p:Nat) (R:List Nat):Prop where
 wg:WgF w p R
 inS:∀x∈R,x∈S
theorem sD {z:Nat} {P:List Nat} (h:WgF w z P):∃q,P=z::q:=by
 have:=h.hd
 cases P with
 | nil=>cases this
 | cons a q=>cases this;exact ⟨q,rfl⟩
end
theorem rz {w:Wd} (ok:w.Ok) {S:List Nat} (sS:Std w.n S) (ne:S≠[]) (cl:∀x∈S,∃t∈w.stp x,t∈S):∃(h:ka w S),nk [w.enc,aC S]=.ok ⟨.leaf,(eG w S).enc⟩/\(eG w S).Ok:=by
 have h24:=ok.h24
 obtain ⟨q,hq⟩:=sS;have lt:∀r∈S,r<w.n:=fun r hr=>by rw [hq] at hr;exact List.mem_range.mp (List.mem_filter.mp hr).1
 have ln:S.length<=w.n:=by
  rw [hq];have:=length_filter_le q (List.range w.n)
  rwa [length_range] at this
 have nd:S.Nodup:=by rw [hq];exact (nodup_range).sublist filter_sublist
 have h:ka w S:=⟨ok,nd,lt,by omega,fun r hr=>tq ok hr⟩
 have hp:=List.length_pos_iff.mpr ne
 have okv:(eG w S).Ok:=Bu h hp (by omega) fun r hr=>by
  exact cl r hr
 refine ⟨h,?_,okv⟩
 have t1:bU (aO ba (af 1)) [MS w.enc,MS (aC S),MS ((eG w S).enc)]=.ok false [MS w.enc,MS (aC S),MS ((eG w S).enc)]:=by
  cases S with
  | nil=>exact absurd rfl ne
  | cons a l=>rfl
 have t2:cY false (.list []) (.list ((eG w S).s.map aC))=some (.bool false):=by
  have hk:=okv.g.wk (b:=24) okv.h24
  have sr:=yC fun r hr=>let ⟨xs,e,q,_⟩:=hk.s r hr;⟨xs,e,KH q⟩
  have sh:shaped (.list ((eG w S).s.map aC))=true:=by
   have:=sr.2
   have e1:PyData.canLay0 (.list ((eG w S).s.map aC))=true:=sr.1
   have e2:PyData.depth (.list ((eG w S).s.map aC))<=64:=by
    show PyData.depthAll ((eG w S).s.map aC)+1<=64
    omega
   unfold shaped;rw [e1,decide_eq_true e2];rfl
  have sn:shaped (.list [])=true:=rfl
  have an:(((eG w S).s.map aC).any fun y=>PyData.eqv y (.list []))=false:=by
   rw [List.any_eq_false];intro y hy;obtain ⟨x,hx,rfl⟩:=List.mem_map.mp hy;have:=(okv.st x hx).1
   cases x with
   | nil=>exact absurd rfl this
   | cons a l=>simp [PyData.eqv,PyData.eqvAll]
  show (if shaped (.list [])&&shaped (.list ((eG w S).s.map aC)) then some (PyData.bool (((eG w S).s.map aC).any fun y=>PyData.eqv y (.list []))) else none)=_
  rw [sn,sh,an];rfl
 exact aW (ak (kg (cz (ax (aw rfl) ah) ok.check rfl rfl)) (ak (kg (cz (ax (aw rfl) (ax (aw rfl) ah)) (gr ok ⟨q,hq⟩) rfl rfl)) (ak (Γ1:=[MS w.enc,MS (aC S),MS ((eG w S).enc)]) (b7 (cz (ax (aw rfl) (ax (aw rfl) ah)) (nE h) rfl rfl) rfl (by simp [aQ])) (ak (aY (t:=false) (mq (a:=false) (b:=false) t1 (gz (s:=.leaf) (aF (g:=cY false) (b9 (s:=.leaf) ah rfl rfl rfl) (ig (j:=2) (aw rfl) aH rfl rfl rfl) t2))) nofun fun _=>rfl) (aX (aw rfl) rfl)))))
theorem qV {p:List Nat}:rW (p.map rm)=some (p.map fun t:Nat=>(t:Int)):=by
 have:=gW (p.map fun t:Nat=>(t:Int))
 rw [map_map] at this;exact this
theorem lz {k:Int}:∀{ns:List Int},k∈ns->∃j,zA k ns=some j
 | n::r,h=>by
  unfold zA;by_cases e:n=k
  ·rw [if_pos e];exact ⟨0,rfl⟩
  ·rw [if_neg e]
   rcases MH h with z | z
   ·exact absurd z.symm e
   ·obtain ⟨j,hj⟩:=lz z
    exact ⟨j+1,by rw [hj];rfl⟩
theorem Aw {Γ:Ev} {i:Nat} {fb:F1} {s:Sh} {p:List Nat} {t:Nat} (h:Γ[i]?=some (MS (aC p))) (hb:fb Γ=.ok ⟨s,rm t⟩ Γ) (ht:t∈p):∃j:Nat,nB i fb Γ=.ok ⟨.leaf,rm j⟩ Γ/\j<p.length/\nU p j=t:=by
 obtain ⟨j,hj⟩:=lz (k:=(t:Int)) (ns:=p.map fun t:Nat=>(t:Int)) (List.mem_map.mpr ⟨t,ht,rfl⟩)
 have h1:=(HQ hj).1
 rw [getElem?_map] at h1;obtain ⟨u,hu,e⟩:=Option.map_eq_some_iff.mp h1;have hlt:=(MM hu).1
 refine ⟨j,?_,hlt,?_⟩
 ·unfold nB
  rw [h];simp only [lA,if_true]
  rw [hb];simp only [yV,xV,h]
  rw [qV];simp only
  rw [hj]
 ·rw [nU,MJ,hu]
  exact Int.ofNat_inj.mp e
end KC
namespace KQ.M.N
open PySem PySem.Spec L2 T
open PyProof.Rows hiding St
open KC
noncomputable abbrev xcl:List Str:=["NoWorld", "NoMark", "NoRoom", "NoWay"]
noncomputable def iN:FS:=(b6 (bU (aO aA (mE qX fU (eK (.int 0)) (af 1) (bG br (ae (aj (af 0) (eK (.int 0))) ag))))) (yQ "NoRoom") aN)
noncomputable def cV:List MR->Res:=aG 2 iN
noncomputable def g6:FS:=(b6 (bU (aO ba (ao 2 bH (ae (af 1) (ae (bG br (ae (aj (af 0) (eK (.int 0))) ag)) ag))))) (yQ "NoRoom") aN)
noncomputable def bu:List MR->Res:=aG 2 g6
noncomputable def jZ:FS:=(b6 (bU (aO ba (ao 2 bw (ae (af 0) (ae (af 1) ag))))) (yQ "NoWay") aN)
noncomputable def dj:List MR->Res:=aG 2 jZ
noncomputable def iO:FS:=(ay (bq (gy 1 bD (ae (af 0) ag)))
  (ay (b6 (bU (aO ba (ao 1 bf (ae (af 2) ag)))) (yQ "NoMark") aN)
  (bq (gy 2 bu (ae (af 0) (ae (af 1) ag))))))
noncomputable def bc:List MR->Res:=aG 3 iO
noncomputable def d_row_off:FS:=(ay (az false 3 (aB .leaf 7 (aR (af 1)) (bU (aO ba (bG (cQ true) (ae (aB .leaf 8 (aR (aj (aj (af 0) (eK (.int 2))) (af 7))) aT (aD (cY false) (af 8) (af 1))) ag)))) (af 7)))
  (ay (b6 (aO ba (af 3)) (aU (bT (ae (af 3) (ae (eK .none) ag)))) aN)
  (ay (dw 4 (aR (af 2))
  (ay kJ
  (ay kJ
  kJ)))
  (aU (eK .none)))))
noncomputable def m_row_off:List MR->Res:=aG 9 d_row_off
noncomputable def d_rows_and_kept:FS:=(ay (az true 3 (av .leaf ag))
  (ay (az false 4 (vZ (af 1)))
  (ay (az false 5 (ao 3 m_row_off (ae (af 0) (ae (af 4) (ae (af 2) ag)))))
  (ay (si 1000 (aO aA (aD (dI true) (af 5) (eK .none)))
  (ay kJ
  (ay kJ
  kJ)))
  (aU (bT (ae (ck 3) (ae (af 4) ag))))))))
noncomputable def m_rows_and_kept:List MR->Res:=aG 7 d_rows_and_kept
noncomputable def iL:FS:=(ay (bq (gy 3 bc (ae (af 0) (ae (af 1) (ae (af 2) ag)))))
  (aU (aj (ao 3 m_rows_and_kept (ae (af 0) (ae (af 1) (ae (af 2) ag)))) (eK (.int 1)))))
noncomputable def cb:List MR->Res:=aG 3 iL
noncomputable def d_ring_by_marks:FS:=(ay (az true 3 (av .leaf (ae (af 2) ag)))
  (ay (dw 4 (aR (af 1))
  kJ)
  (aU (bz (af 3) (bP (fun k=>(none,some k)) (ao 3 cD (ae (af 0) (ae (aj (aj (aj (af 0) (eK (.int 2))) (cU 3 (eU bt (eK (.int 1))))) (eK (.int 0))) (ae (av .leaf (ae (af 2) ag)) ag)))) (eU bt (eK (.int 1))))))))
noncomputable def m_ring_by_marks:List MR->Res:=aG 5 d_ring_by_marks
noncomputable def lJ:FS:=(ay (bq (gy 3 bc (ae (af 0) (ae (af 1) (ae (af 2) ag)))))
  (ay (bq (gy 2 cV (ae (af 0) (ae (af 3) ag))))
  (ay (az false 4 (aj (ao 3 m_rows_and_kept (ae (af 0) (ae (af 1) (ae (af 2) ag)))) (eK (.int 1))))
  (ay (b6 (aO aA (aD (cY true) (af 3) (af 4))) (yQ "NoWay") aN)
  (ay (az false 5 (ao 2 nk (ae (af 0) (ae (af 4) ag))))
  (ay (az false 6 (nB 4 (af 3)))
  (ay (az false 7 (ao 3 cD (ae (af 5) (ae (af 6) (ae (ao 2 da (ae (af 5) (ae (af 6) ag))) ag)))))
  (ay (az false 8 (ao 3 m_ring_by_marks (ae (af 5) (ae (af 2) (ae (aj (af 7) (eU bt (eK (.int 1)))) ag)))))
  (aU (bT (ae (aB .leaf 9 (aR (bP (fun k=>(none,some k)) (af 7) (eU bt (eK (.int 1))))) aT (aj (af 4) (af 9))) (ae (aB .leaf 9 (aR (af 8)) aT (aj (af 4) (af 9))) ag))))))))))))
noncomputable def cA:List MR->Res:=aG 10 lJ
noncomputable def iM:FS:=(ay (bq (gy 3 bc (ae (af 0) (ae (af 1) (ae (af 2) ag)))))
  (ay (az false 3 (ao 3 m_rows_and_kept (ae (af 0) (ae (af 1) (ae (af 2) ag)))))
  (aU (bT (ae (aj (af 3) (eK (.int 0))) (ae (aj (af 3) (eK (.int 1))) (ae (aB .leaf 4 (aR (af 2)) aT Fm) ag)))))))
noncomputable def cf:List MR->Res:=aG 5 iM
noncomputable def rG:FS:=(ay (az false 4 (vZ (af 1)))
  (ay (dw 5 (aR (af 3))
  (ay kJ
  kJ))
  (aU (af 4))))
noncomputable def fG:List MR->Res:=aG 7 rG
noncomputable def fJ:FS:=(ay (bq (gy 3 bc (ae (af 0) (ae (af 1) (ae (af 2) ag)))))
  (ay (az false 4 (ao 4 fG (ae (af 0) (ae (af 1) (ae (af 2) (ae (aj (af 3) (eK (.int 0))) ag))))))
  (ay (b6 (ke (aO aA (aD (dI false) (af 4) (eK .none))) (ke (aO aA (aD jq (aj (af 3) (eK (.int 1))) (af 4))) (aO aA (aD jq (bG br (ae (aj (af 3) (eK (.int 2))) ag)) (bG br (ae (af 2) ag)))))) (aU (eK (.bool false))) aN)
  (ay kJ
  kJ))))
noncomputable def bI:List MR->Res:=aG 8 fJ
noncomputable def g0:FS:=(ay (bq (gy 3 bc (ae (af 0) (ae (af 1) (ae (af 2) ag)))))
  (ay (bq (gy 2 dj (ae (af 0) (ae (af 3) ag))))
  (ay (b6 (bU (aO ba (bG (cQ false) (ae (aB .leaf 5 (aR (bz (aj (af 3) (eK (.int 0))) (aj (af 3) (eK (.int 1))))) aT (aD (cY false) (af 5) (af 1))) ag)))) (aU (eK (.bool false))) aN)
  (aU (bG (cQ false) (ae (aB .leaf 4 (aR (af 2)) aT Fm) ag))))))
noncomputable def bK:List MR->Res:=aG 6 g0
noncomputable def eN:FS:=(b6 (aO aA (aD cP (af 0) (eK (.int 0)))) (bq (gy 3 cb (ae (af 1) (ae (af 2) (ae (af 3) ag))))) (b6 (aO aA (aD cP (af 0) (eK (.int 1)))) (bq (gy 3 cf (ae (af 1) (ae (af 2) (ae (af 3) ag))))) (b6 (aO aA (aD cP (af 0) (eK (.int 2)))) (bq (gy 4 bI (ae (af 1) (ae (af 2) (ae (af 3) (ae (bT (ae (av .leaf ag) (ae (av .leaf ag) (ae (av .leaf ag) ag)))) ag)))))) (b6 (aO aA (aD cP (af 0) (eK (.int 3)))) (bq (gy 4 bK (ae (af 1) (ae (af 2) (ae (af 3) (ae (af 5) ag)))))) (bq (gy 4 cA (ae (af 1) (ae (af 2) (ae (af 3) (ae (af 4) ag))))))))))
noncomputable def cW:List MR->Res:=aG 6 eN
noncomputable def nJ:FS:=(ay (az false 6 (eK (.str "")))
  (ay (kI xcl 7 (bq (gy 6 cW (ae (af 0) (ae (af 1) (ae (af 2) (ae (af 3) (ae (af 4) (ae (af 5) ag)))))))) fun c=>az false 6 (rf (bE c)))
  (aU (af 6))))
noncomputable def dG:List MR->Res:=aG 8 nJ
noncomputable def FA:FS:=(ay (az false 1 (ao 3 m__law_world (ae (af 0) (ae (eK (.int 0)) (ae (eK (.int 6)) ag)))))
  (ay (az false 2 (bG br (ae (aj (af 1) (eK (.int 0))) ag)))
  (ay (az false 3 (ao 2 aM (ae (af 0) (ae (eK (.int 8)) ag))))
  (ay (az false 4 (aB .leaf 13 (fw (ae (eK (.int 5)) ag)) aT (aD cP (ao 3 ai (ae (af 3) (ae (af 13) (ae (eK (.int 3)) ag)))) (eK (.int 1)))))
  (ay (az false 5 (ao 3 ai (ae (af 3) (ae (eK (.int 5)) (ae (aD lE (eK (.int 10)) (eK (.int 9))) ag)))))
  (ay (az false 6 (zI (ae (af 2) ag)))
  (ay (az false 7 (av .leaf ag))
  (ay (az false 8 (eK (.int 0)))
  (ay (az false 9 (ao 4 dF (ae (af 1) (ae (ao 2 aM (ae (af 0) (ae (eK (.int 7)) ag))) (ae (eK (.int 0)) (ae (eK (.int 3)) ag))))))
  (ay (b6 (aO ba (aj (af 4) (eK (.int 1)))) (ay (az false 11 (av .leaf (ae (av .leaf (ae (eK (.str "b")) (ae (eK (.str "a")) ag))) (ae (av .leaf (ae (eK (.str "a")) (ae (eK (.str "a")) ag))) (ae (av .leaf (ae (eK (.str "g")) ag)) (ae (av .leaf (ae (eK (.str "ab")) ag)) (ae (av .leaf (ae (eK (.str "")) ag)) (ae (av .leaf (ae (eK (.str "a")) (ae (eK (.str "b")) (ae (eK (.str "c")) (ae (eK (.str "d")) (ae (eK (.str "e")) (ae (eK (.str "f")) (ae (eK (.str "f")) ag)))))))) ag))))))))
  (az false 7 (aj (af 11) (ao 3 ai (ae (af 3) (ae (eK (.int 6)) (ae (eK (.int 6)) ag))))))) aN)
  (ay (b6 (aO ba (aj (af 4) (eK (.int 2)))) (az false 6 (aj (av .leaf (ae (av .leaf (ae (aD aJ (af 2) (af 5)) ag)) (ae (av .leaf (ae (aD gSub (eU bt (eK (.int 1))) (af 5)) ag)) (ae (av .leaf (ae (eK (.int 0)) (ae (eK (.int 0)) ag))) (ae (bz (af 6) (av .leaf (ae (af 2) ag))) (ae (bz (av .leaf (ae (eU bt (eK (.int 1))) ag)) (af 6)) (ae (bz (av .leaf (ae (eK (.int 0)) ag)) (af 6)) ag))))))) (ao 3 ai (ae (af 3) (ae (eK (.int 7)) (ae (eK (.int 6)) ag)))))) aN)
  (ay (b6 (aO ba (aj (af 4) (eK (.int 3)))) (az false 8 (aj (av .leaf (ae (aD aJ (af 2) (af 5)) (ae (aD gSub (eU bt (eK (.int 1))) (af 5)) ag))) (ao 3 ai (ae (af 3) (ae (eK (.int 8)) (ae (eK (.int 2)) ag)))))) aN)
  (ay (b6 (aO ba (aj (af 4) (eK (.int 4)))) (az false 9 (aj (av .leaf (ae (bT (ae (av .leaf ag) (ae (av .leaf ag) ag))) (ae (bT (ae (av .leaf (ae (aD aJ (af 2) (af 5)) ag)) (ae (aj (af 9) (eK (.int 1))) ag))) (ae (bT (ae (bz (aj (af 9) (eK (.int 0))) (aj (af 9) (eK (.int 1)))) (ae (av .leaf ag) ag))) (ae (bT (ae (av .leaf ag) (ae (av .leaf (ae (aD gSub (eU bt (eK (.int 1))) (af 5)) ag)) ag))) ag))))) (ao 3 ai (ae (af 3) (ae (eK (.int 9)) (ae (eK (.int 4)) ag)))))) aN)
  (ay (b6 (aO ba (aj (af 4) (eK (.int 0)))) (az false 1 (ao 2 bV (ae (af 1) (ae (ao 2 aM (ae (af 0) (ae (eK (.int 9)) ag))) ag)))) aN)
  (ay (dw 10 (fw (ae (eK (.int 5)) ag))
  (ay (az false 12 (aB .leaf 13 (fw (ae (eK (.int 3)) ag)) (aO ba (aj (af 4) (af 13))) (aj (av .leaf (ae (eK (.str "world")) (ae (eK (.str "mark")) (ae (eK (.str "room")) ag)))) (af 13))))
  (ay (az false 12 (bz (bz (bz (af 12) (jY (av .leaf (ae (eK (.str "way")) ag)) (bG fH (ae (eh (aD cP (af 10) (eK (.int 3))) (aj (af 4) (eK (.int 4)))) ag)))) (jY (av .leaf (ae (eK (.str "room")) ag)) (bG fH (ae (eh (aD cP (af 10) (eK (.int 4))) (aj (af 4) (eK (.int 3)))) ag)))) (av .leaf (ae (eK (.str "")) ag))))
  (b6 (aO aA (aD jq (ao 6 dG (ae (af 10) (ae (af 1) (ae (af 6) (ae (af 7) (ae (af 8) (ae (af 9) ag))))))) (aj (af 12) (eK (.int 0))))) (aU (eK (.bool false))) aN))))
  (aU (eK (.bool true))))))))))))))))))
noncomputable def uS:List MR->Res:=aG 14 FA
open PySem.SeqAt
section
variable {w:Wd} {y:D} {b:Bool}
theorem sF (hg:bw [w.enc,y]=.ok ⟨.leaf,.bool b⟩):bU (aO ba (ao 2 bw (ae (af 0) (ae (af 1) ag)))) (aQ 2 [w.enc,y])=.ok (!b) (aQ 2 [w.enc,y]):=
 de (cw (s:=.leaf) (cz (ax (aw rfl) (ax (aw rfl) ah)) hg rfl rfl))
theorem yy (hg:bw [w.enc,y]=.ok ⟨.leaf,.bool true⟩):dj [w.enc,y]=.ok ⟨.leaf,.none⟩:=fo (Γ:=aQ 2 [w.enc,y]) (aY (sF hg) nofun fun _=>rfl)
theorem yz (hg:bw [w.enc,y]=.ok ⟨.leaf,.bool false⟩):dj [w.enc,y]=.er "NoWay":=dZ (Γ':=aQ 2 [w.enc,y]) (aY (sF hg) (fun _=>rfl) nofun)
theorem oE (ok:w.Ok) {r:Int}:bU (aO aA (mE qX fU (eK (.int 0)) (af 1) (bG br (ae (aj (af 0) (eK (.int 0))) ag)))) (aQ 2 [w.enc,.int r])=.ok (!(fu w.n r)) (aQ 2 [w.enc,.int r]):=
 de (gz (s:=.leaf) (chain_ev ok rfl rfl))
theorem vF (ok:w.Ok) {r:Nat} (hr:r<w.n):cV [w.enc,rm r]=.ok ⟨.leaf,.none⟩:=by
 have t:=oE ok (r:=(r:Int))
 rw [show fu w.n (r:Int)=true by unfold fu;simp;omega] at t
 exact fo (Γ:=aQ 2 [w.enc,rm r]) (aY t nofun fun _=>rfl)
theorem vG (ok:w.Ok) {r:Int} (hr:fu w.n r=false):cV [w.enc,.int r]=.er "NoRoom":=by
 have t:=oE ok (r:=r)
 rw [hr] at t;exact dZ (Γ':=aQ 2 [w.enc,.int r]) (aY t (fun _=>rfl) nofun)
theorem tK (ok:w.Ok) {rs:List D} (h:RowI rs) (hl:rs.length<=100):bU (aO ba (ao 2 bH (ae (af 1) (ae (bG br (ae (aj (af 0) (eK (.int 0))) ag)) ag)))) (aQ 2 [w.enc,.list rs])=.ok (!(rs.all (KC.inR w.n)&&dm rs)) (aQ 2 [w.enc,.list rs]):=
 de (cw (s:=.leaf) (cz (ax (aw rfl) (ax (zV ok rfl) ah)) (Jp h hl) rfl rfl))
theorem C8 (ok:w.Ok) {rs:List D} (h:RowI rs) (hl:rs.length<=100) (hb:(rs.all (KC.inR w.n)&&dm rs)=false):bu [w.enc,.list rs]=.er "NoRoom":=by
 have t:=tK ok h hl
 rw [hb] at t;exact dZ (Γ':=aQ 2 [w.enc,.list rs]) (aY t (fun _=>rfl) nofun)
theorem rL (ok:w.Ok):bu [w.enc,aC (List.range w.n)]=.ok ⟨.leaf,.none⟩:=by
 have h24:=ok.h24
 have e:=fy ok.h24 (Std.range (n:=w.n))
 have t:bU (aO ba (ao 2 bH (ae (af 1) (ae (bG br (ae (aj (af 0) (eK (.int 0))) ag)) ag)))) (aQ 2 [w.enc,aC (List.range w.n)])=.ok (!true) (aQ 2 [w.enc,aC (List.range w.n)]):=de (cw (s:=.leaf) (cz (ax (aw rfl) (ax (zV ok rfl) ah)) e rfl rfl))
 exact fo (Γ:=aQ 2 [w.enc,aC (List.range w.n)]) (aY t nofun fun _=>rfl)
theorem kM {r:List D}:dm (.int 0::.int 0::r)=false:=by
 unfold dm;refine List.all_eq_false.mpr ⟨.int 1,?_,?_⟩
 ·unfold bX
  exact List.mem_map.mpr ⟨0,List.mem_range.mpr (by simp),by simp⟩
 ·show ¬EV (.int 0) (.int 0)=true
  decide
theorem Gb {n:Int} {rs:List D} {i:Int} (h:PyData.int i∈rs) (hi:i<0\/n<=i):(rs.all (KC.inR n)&&dm rs)=false:=by
 have:rs.all (KC.inR n)=false:=List.all_eq_false.mpr ⟨_,h,by
  show ¬(decide (0<=i)&&decide (i<n))=true
  rcases hi with hi | hi
  ·rw [decide_eq_false (by omega:¬0<=i)];simp
  ·rw [decide_eq_false (by omega:¬i<n)];simp⟩
 rw [this];rfl
theorem vn:bf [.list []]=.ok ⟨.leaf,.bool true⟩:=by kernel_rfl
theorem uP {W rs:D} {M:D} {b:Bool} (h:bf [M]=.ok ⟨.leaf,.bool b⟩):bU (aO ba (ao 1 bf (ae (af 2) ag))) (aQ 3 [W,rs,M])=.ok (!b) (aQ 3 [W,rs,M]):=de (cw (s:=.leaf) (cz (ax (aw rfl) ah) h rfl rfl))
theorem KI {W rs M:D} (h:bD [W]=.er "NoWorld"):bc [W,rs,M]=.er "NoWorld":=dZ (DD (zX (zY (ax (aw rfl) ah) h rfl)))
theorem KL (ok:w.Ok) {rs M:D} (h:bf [M]=.ok ⟨.leaf,.bool false⟩):bc [w.enc,rs,M]=.er "NoMark":=dZ (ak (kg (mH (ax (aw rfl) ah) (HN ok) rfl rfl)) (DD (aY (uP h) (fun _=>rfl) nofun)))
theorem KJ (ok:w.Ok) {rs:D} (h:bu [w.enc,rs]=.er "NoRoom"):bc [w.enc,rs,.list []]=.er "NoRoom":=dZ (ak (kg (mH (ax (aw rfl) ah) (HN ok) rfl rfl)) (ak (aY (uP vn) nofun fun _=>rfl) (zX (zY (ax (aw rfl) (ax (aw rfl) ah)) h rfl))))
theorem h9 (ok:w.Ok):bc [w.enc,aC (List.range w.n),.list []]=.ok ⟨.leaf,.none⟩:=fo (Γ:=aQ 3 [w.enc,aC (List.range w.n),.list []]) (ak (kg (mH (ax (aw rfl) ah) (HN ok) rfl rfl)) (ak (aY (uP vn) nofun fun _=>rfl) (kg (mH (ax (aw rfl) (ax (aw rfl) ah)) (rL ok) rfl rfl))))
theorem JI (ok:w.Ok):m_row_off [w.enc,aC (List.range w.n),.list []]=.ok ⟨.leaf,.none⟩:=by
 have h24:=ok.h24
 have e1:aB .leaf 7 (aR (af 1)) (bU (aO ba (bG (cQ true) (ae (aB .leaf 8 (aR (aj (aj (af 0) (eK (.int 2))) (af 7))) aT (aD (cY false) (af 8) (af 1))) ag)))) (af 7) (aQ 9 [w.enc,aC (List.range w.n),.list []])=.ok ⟨.lst .leaf,.list (((List.range w.n).filter fun r=>!(w.stp r).any fun t=>(List.range w.n).contains t).map fun t=>rm t)⟩ (aQ 9 [w.enc,aC (List.range w.n),.list []]):=
  Da rm (List.range w.n) (fun r=>!(w.stp r).any fun t=>(List.range w.n).contains t) (fun t=>⟨.leaf,rm t⟩) (st:=true) (bQ (s:=.leaf) (aw rfl) rfl) (by simp [aQ]) rfl (by simp;omega) (fun r hr=>de (cw (s:=.leaf) (bO (ax (mC rm (w.stp r) (fun t=>⟨.leaf,.bool ((List.range w.n).contains t)⟩) (st:=true) (bQ (s:=.leaf) (GT ok rfl (aw rfl) (List.mem_range.mp hr)) rfl) (by simp [aQ]) rfl (by have:=ok.z.len (r:=r);omega) fun t ht=>⟨aF (aw rfl) (aw rfl) Dy,rfl⟩) ah) CT))) fun t ht _=>⟨aw rfl,rfl⟩
 have q:((List.range w.n).filter fun r=>!(w.stp r).any fun t=>(List.range w.n).contains t)=[]:=List.filter_eq_nil_iff.mpr fun r hr=>by
  have hr:=List.mem_range.mp hr
  cases e:w.stp r with
  | nil=>exact absurd e (ok.stp_ne hr)
  | cons t l=>
   have:=ok.stp_lt (r:=r) (t:=t) (by rw [e];simp)
   simp [this]
 rw [q] at e1;exact aW (ak (b7 e1 rfl (by simp [aQ])) (ak (aY (t:=false) rfl nofun fun _=>rfl) (ak (eB (ds:=[]) (bQ (s:=.leaf) (aw rfl) rfl) rfl) (aX aH rfl))))
theorem D1 {c:FB} {g:FS} {Γ:Ev} (h:c Γ=.ok false Γ):si 1000 c g Γ=.nx Γ:=by
 show nZ c g (999+1) Γ=_
 rw [nZ,h]
theorem tJ (ok:w.Ok):m_rows_and_kept [w.enc,aC (List.range w.n),.list []]=.ok ⟨.tup [.lst .leaf,.leaf],.tuple [.list [],aC (List.range w.n)]⟩:=
 aW (ak (zU (b9 (s:=.leaf) ah rfl rfl rfl) rfl (by simp [aQ])) (ak (b7 (Jc (ds:=(List.range w.n).map rm) (aw rfl) rfl) rfl (by simp [aQ])) (ak (b7 (cz (ax (aw rfl) (ax (aw rfl) (ax (aw rfl) ah))) (JI ok) rfl rfl) rfl (by simp [aQ])) (ak (D1 (gz (s:=.leaf) (aF (aw rfl) aH rfl))) (aX (cT (ax (DC (p:=⟨.lst .leaf,.list []⟩) rfl) (ax (aw rfl) ah)) rfl rfl) rfl)))))
theorem Ei (ok:w.Ok) {S:List Nat} (C:L5 w S) {p:Nat} (hp:p∈S):∃R,m_ring_by_marks [w.enc,.list [],rm p]=.ok ⟨.lst .leaf,aC R⟩/\(∀x∈R,x∈S)/\R.length<=300:=by
 have h24:=ok.h24
 have lt:∀x∈S,x<w.n:=C.std.lt
 have hxn:=lt p hp
 obtain ⟨y,ys,ey⟩:∃y ys,w.stp p=y::ys:=by
  cases h:w.stp p with
  | nil=>exact absurd h (ok.stp_ne hxn)
  | cons y ys=>exact ⟨y,ys,rfl⟩
 have hyx:y∈w.stp p:=by rw [ey];exact mem_cons_self
 have hyS:=C.cl p hp y hyx
 obtain ⟨P,u,ep,Wp,hu,hug,hPl⟩:=lQ ok (G:=[p]) (fun r hr=>by rw [List.mem_singleton.mp hr];exact lt p hp) (by simp) (lt y hyS) (C.bk y hyS p hp) mem_cons_self
 obtain ⟨init,hP⟩:=List.getLast?_eq_some_iff.mp hu
 obtain ⟨q,hPq⟩:=sD Wp;have hS:∀v∈P,v∈S:=by rw [hPq];rw [hPq] at Wp;exact vH C.cl hyS Wp.ch
 have dl:P.dropLast=init:=by rw [hP];simp
 have a1:aj (aj (aj (af 0) (eK (.int 2))) (cU 3 (eU bt (eK (.int 1))))) (eK (.int 0)) [MS w.enc,MS (.list []),MS (rm p),some ⟨.lst .leaf,aC [p]⟩,none]=.ok ⟨.leaf,rm y⟩ [MS w.enc,MS (.list []),MS (rm p),some ⟨.lst .leaf,aC [p]⟩,none]:=
  dU (j:=0) (ds:=(w.stp p).map rm) (oz ok rfl (Ij rfl rfl) hxn) aH (rX (by rw [ey];simp)) (by rw [ey];rfl) rfl
 have sl:bP (fun k=>(none,some k)) (ao 3 cD (ae (af 0) (ae (aj (aj (aj (af 0) (eK (.int 2))) (cU 3 (eU bt (eK (.int 1))))) (eK (.int 0))) (ae (av .leaf (ae (af 2) ag)) ag)))) (eU bt (eK (.int 1))) [MS w.enc,MS (.list []),MS (rm p),some ⟨.lst .leaf,aC [p]⟩,none]=.ok ⟨.lst .leaf,.list (init.map rm)⟩ [MS w.enc,MS (.list []),MS (rm p),some ⟨.lst .leaf,aC [p]⟩,none]:=by
  have:=eC (g:=fun k=>(none,some k)) (fb:=eU bt (eK (.int 1))) (xs:=P.map rm) (k:=-1) (cz (Γ:=[MS w.enc,MS (.list []),MS (rm p),some ⟨.lst .leaf,aC [p]⟩,none]) (n:=3) (ax (aw (i:=0) rfl) (ax a1 (ax (b9 (s:=.leaf) (ax (aw (i:=2) rfl) ah) rfl rfl rfl) ah))) ep rfl rfl) (sO aH rfl) rfl
  rw [this];exact congrArg (fun l=>Out.ok (⟨.lst .leaf,.list l⟩:PV) _) (by rw [<-dl];exact Iq)
 have il:init.length<=24:=by
  have:=congrArg List.length hP
  rw [length_append] at this;omega
 have vc:=cG (fa:=af 3) (s:=.view) (xs:=[p].map rm) (Γ:=[MS w.enc,MS (.list []),MS (rm p),some ⟨.lst .leaf,aC [p]⟩,none]) (eD rfl) sl xK rfl (by rw [length_map,length_map];simp;omega)
 rw [<-map_append] at vc;refine ⟨[p]++init,aW (ak (Γ1:=[MS w.enc,MS (.list []),MS (rm p),some ⟨.lst .leaf,aC [p]⟩,none]) (zU (b9 (s:=.leaf) (ax (aw rfl) ah) rfl rfl rfl) rfl (by simp [aQ])) (ak (eB (bQ (s:=.leaf) (ds:=[]) (aw rfl) rfl) rfl) (aX vc rfl))),fun v hv=>?_,by rw [length_append];simp;omega⟩
 rcases MG hv with h | h
 ·rw [List.mem_singleton.mp h];exact hp
 ·exact hS v (by rw [hP];exact MF _ h)
theorem Ag (ok:w.Ok):∃q,cA [w.enc,aC (List.range w.n),.list [],rm 0]=.ok q:=by
 have h24:=ok.h24
 have cx:=h9 ok
 have er:=tJ ok
 generalize hK:List.range w.n=K at cx er ⊢
 have sK:Std w.n K:=by rw [<-hK];exact Std.range
 have hrn:0<w.n:=ok.h1
 have hrK:0∈K:=by rw [<-hK];exact List.mem_range.mpr hrn
 obtain ⟨h,ep,okv⟩:=rz ok sK (fun z=>by rw [z] at hrK;cases hrK) fun x hx=>by
  have hx:=sK.lt x hx
  cases e:w.stp x with
  | nil=>exact absurd e (ok.stp_ne hx)
  | cons t l=>exact ⟨t,by simp,by rw [<-hK];exact List.mem_range.mpr (ok.stp_lt (r:=x) (by rw [e];simp))⟩
 have aK:∀k,k<K.length->(K.map rm)[k]?=some (rm (nU K k)):=fun k hk=>by
  rw [getElem?_map,nU,MJ,MI hk];rfl
 have kl:=h.len
 obtain ⟨s,es,hs,ats⟩:=Aw (Γ:=[MS w.enc,MS (aC K),MS (.list []),MS (rm 0),MS (aC K),MS ((eG w K).enc),none,none,none,none]) (i:=4) (fb:=af 3) (s:=.leaf) (p:=K) (t:=0) rfl (aw rfl) hrK
 obtain ⟨S,eS,C,y,hyS,hy⟩:=nF okv (s:=s) hs
 obtain ⟨P,u,eP,WP,hu,huS,hPl⟩:=lQ okv (G:=S) C.std.lt (by have:=C.std.len;have:=okv.h24;omega) hs hy hyS
 obtain ⟨Q,eQ,hQS,hQl⟩:=Ei okv C huS;obtain ⟨init,hP⟩:=List.getLast?_eq_some_iff.mp hu
 have dl:P.dropLast=init:=by rw [hP];simp
 have ltQ:∀x∈Q,x<K.length:=fun x hx=>C.std.lt x (hQS x hx)
 have ltI:∀x∈init,x<K.length:=fun x hx=>WP.lt x (by rw [hP];exact MF _ hx)
 have il:init.length<=24:=by
  have e:=congrArg List.length hP
  rw [length_append] at e;have:=okv.h24
  omega
 refine ⟨⟨.tup [.lst .leaf,.lst .leaf],wy (init.map (nU K)) (Q.map (nU K))⟩,?_⟩
 ·refine aW (ak (kg (mH (ax (aw rfl) (ax (aw rfl) (ax (aw rfl) ah))) cx rfl rfl)) (ak (kg (mH (ax (aw rfl) (ax (aw rfl) ah)) (vF ok hrn) rfl rfl)) ?_))
  refine ak (Γ1:=[MS w.enc,MS (aC K),MS (.list []),MS (rm 0),MS (aC K),none,none,none,none,none]) (b7 (ig (j:=1) (cz (ax (aw rfl) (ax (aw rfl) (ax (aw rfl) ah))) er rfl rfl) aH rfl rfl rfl) rfl (by simp [aQ])) ?_
  refine ak (aY (t:=false) (gz (s:=.leaf) (aF (g:=cY true) (aw rfl) (aw rfl) ?_)) nofun fun _=>rfl) ?_
  ·have e:=Dy (t:=0) (r:=K)
   have sh:(shaped (rm 0)&&shaped (aC K))=true:=by
    rw [AN];rfl
   have hc:((K.map rm).any fun y=>PyData.eqv y (rm 0))=true:=by
    have e2:(if shaped (rm 0)&&shaped (aC K) then some (PyData.bool ((K.map rm).any fun y=>PyData.eqv y (rm 0))) else none)=some (.bool (K.contains 0)):=e
    rw [sh,if_pos rfl] at e2;have e3:=PyData.bool.inj (Option.some.inj e2)
    rw [e3];exact List.contains_iff_mem.mpr hrK
   show (if shaped (rm 0)&&shaped (aC K) then some (PyData.bool (!(K.map rm).any fun y=>PyData.eqv y (rm 0))) else none)=_
   rw [sh,hc];rfl
  refine ak (Γ1:=[MS w.enc,MS (aC K),MS (.list []),MS (rm 0),MS (aC K),MS ((eG w K).enc),none,none,none,none]) (b7 (cz (ax (aw rfl) (ax (aw rfl) ah)) ep rfl rfl) rfl (by simp)) ?_
  refine ak (Γ1:=[MS w.enc,MS (aC K),MS (.list []),MS (rm 0),MS (aC K),MS ((eG w K).enc),MS (rm s),none,none,none]) (b7 es rfl (by simp)) ?_
  refine ak (Γ1:=[MS w.enc,MS (aC K),MS (.list []),MS (rm 0),MS (aC K),MS ((eG w K).enc),MS (rm s),MS (aC P),none,none]) (b7 (cz (ax (aw rfl) (ax (aw rfl) (ax (cz (ax (aw rfl) (ax (aw rfl) ah)) eS rfl rfl) ah))) eP rfl rfl) rfl (by simp)) ?_
  have lp:1<=P.length:=by
   rw [hP];simp
  refine ak (Γ1:=[MS w.enc,MS (aC K),MS (.list []),MS (rm 0),MS (aC K),MS ((eG w K).enc),MS (rm s),MS (aC P),MS (aC Q),none]) (b7 (cz (ax (aw rfl) (ax (aw rfl) (ax (dU (j:=P.length-1) (ds:=P.map rm) (aw (i:=7) rfl) (sO aH rfl) (by rw [length_map];exact uX lp) (pe hu) rfl) ah))) eQ rfl rfl) rfl (by simp)) ?_
  generalize hΓ:([MS w.enc,MS (aC K),MS (.list []),MS (rm 0),MS (aC K),MS ((eG w K).enc),MS (rm s),MS (aC P),MS (aC Q),none]:Ev)=Γ
  have g4:Γ[4]?=some (MS (aC K)):=by rw [<-hΓ];rfl
  have g7:Γ[7]?=some (MS (aC P)):=by rw [<-hΓ];rfl
  have g8:Γ[8]?=some (MS (aC Q)):=by rw [<-hΓ];rfl
  have gl:Γ.length=10:=by rw [<-hΓ];rfl
  have comp:∀(fi:F1) (L:List Nat),(∃sh:Sh,sh.isView=false/\fi Γ=.ok ⟨sh,aC L⟩ Γ)->L.length<=1000->(∀x∈L,x<K.length)->aB .leaf 9 (aR fi) aT (aj (af 4) (af 9)) Γ=.ok ⟨.lst .leaf,aC (L.map (nU K))⟩ Γ:=fun fi L ⟨sh,hv,hf⟩ hL hlt=>by
   have:=mC (s:=.leaf) (i:=9) (fi:=aR fi) (fe:=aj (af 4) (af 9)) rm L (fun k=>⟨.leaf,rm (nU K k)⟩) (st:=!sh.isView) (Γ:=Γ) (bQ (s:=sh) hf (by unfold dA;rw [hv];rfl)) (by omega) rfl (by omega) (fun k hk=>And.intro (dU (j:=k) (ds:=K.map rm) (aw (by rw [getElem?_set_ne (by decide)];exact g4)) (aw (getElem?_set_self (by omega))) (rX (by rw [length_map];exact hlt k hk)) (aK k (hlt k hk)) rfl) rfl)
   rw [this];have e:(L.map (nU K)).map rm=L.map fun k=>rm (nU K k):=by rw [map_map];rfl
   show Out.ok (⟨.lst .leaf,.list (L.map fun k=>rm (nU K k))⟩:PV) Γ=Out.ok (⟨.lst .leaf,.list ((L.map (nU K)).map rm)⟩:PV) Γ
   rw [e]
  have sl:=eC (g:=fun k=>(none,some k)) (fa:=af 7) (fb:=eU bt (eK (.int 1))) (xs:=P.map rm) (k:=-1) (Γ:=Γ) (aw g7) (sO aH rfl) rfl
  have sl2:bP (fun k=>(none,some k)) (af 7) (eU bt (eK (.int 1))) Γ=.ok ⟨.lst .leaf,aC init⟩ Γ:=by
   rw [sl];exact congrArg (fun l=>Out.ok (⟨.lst .leaf,.list l⟩:PV) Γ) (by rw [<-dl];exact Iq)
  exact aX (cT (ax (comp _ init ⟨.lst .leaf,rfl,sl2⟩ (by omega) ltI) (ax (comp _ Q ⟨.leaf,rfl,aw g8⟩ (by omega) ltQ) ah)) rfl rfl) rfl
theorem Ah (ok:w.Ok) {r:Int} (h:fu w.n r=false):cA [w.enc,aC (List.range w.n),.list [],.int r]=.er "NoRoom":=
 dZ (ak (kg (mH (ax (aw rfl) (ax (aw rfl) (ax (aw rfl) ah))) (h9 ok) rfl rfl)) (DD (zX (zY (ax (aw rfl) (ax (aw rfl) ah)) (vG ok h) rfl))))
theorem Ai (ok:w.Ok):∃p,cb [w.enc,aC (List.range w.n),.list []]=.ok p:=by
 have er:=tJ ok
 exact ⟨⟨.leaf,aC (List.range w.n)⟩,aW (ak (kg (mH (ax (aw rfl) (ax (aw rfl) (ax (aw rfl) ah))) (h9 ok) rfl rfl)) (aX (ig (j:=1) (cz (ax (aw rfl) (ax (aw rfl) (ax (aw rfl) ah))) er rfl rfl) aH rfl rfl rfl) rfl))⟩
theorem Aj (ok:w.Ok):∃p,cf [w.enc,aC (List.range w.n),.list []]=.ok p:=by
 have er:=tJ ok
 have cm:=mC (Γ:=[MS w.enc,MS (aC (List.range w.n)),MS (.list []),MS (.tuple [.list [],aC (List.range w.n)]),none]) (s:=.leaf) (i:=4) (fi:=aR (af 2)) (fe:=Fm) rm ([]:List Nat) (fun _=>⟨.leaf,.none⟩) (st:=true) (bQ (s:=.leaf) (aw rfl) rfl) (by simp) rfl (by simp) fun x hx=>by simp at hx
 exact ⟨_,aW (ak (kg (mH (ax (aw rfl) (ax (aw rfl) (ax (aw rfl) ah))) (h9 ok) rfl rfl)) (ak (b7 (cz (ax (aw rfl) (ax (aw rfl) (ax (aw rfl) ah))) er rfl rfl) rfl (by simp [aQ])) (aX (cT (ax (ig (j:=0) (aw rfl) aH rfl rfl rfl) (ax (ig (j:=1) (aw rfl) aH rfl rfl rfl) (ax cm ah))) rfl rfl) rfl)))⟩
noncomputable abbrev EN:D:=.tuple [.list [],.list [],.list []]
theorem EW {W:D} {R:List Nat}:fG [W,aC R,.list [],.list []]=.ok ⟨.leaf,aC R⟩:=
 aW (ak (b7 (Jc (ds:=R.map rm) (aw rfl) rfl) rfl (by simp [aQ])) (ak (eB (ds:=[]) (bQ (s:=.leaf) (aw rfl) rfl) rfl) (aX (aw rfl) rfl)))
theorem xO {a:D} {l:List D} (h:shaped (.list (a::l))=true):jq (.list []) (.list (a::l))=some (.bool true):=by
 have sn:shaped (.list [])=true:=by decide +kernel
 unfold jq;rw [h,sn];simp [PyData.eqv,PyData.eqvAll]
theorem Af (ok:w.Ok):∃p,bI [w.enc,aC (List.range w.n),.list [],EN]=.ok p:=by
 obtain ⟨m,hm⟩:∃m,w.n=m+1:=⟨w.n-1,by have:=ok.h1;omega⟩
 have ne:jq (.list []) (aC (List.range w.n))=some (.bool true):=by
  have sh:shaped (aC (List.range w.n))=true:=wR
  cases e:(List.range w.n).map rm with
  | nil=>simp [hm] at e
  | cons a l=>
   show jq (.list []) (.list ((List.range w.n).map rm))=_
   have sh:shaped (.list ((List.range w.n).map rm))=true:=sh
   rw [e] at sh ⊢;exact xO sh
 refine ⟨⟨.leaf,.bool false⟩,aW (ak (kg (mH (ax (aw rfl) (ax (aw rfl) (ax (aw rfl) ah))) (h9 ok) rfl rfl)) (ak (b7 (cz (ax (aw rfl) (ax (aw rfl) (ax (aw rfl) (ax (ig (j:=0) (aw rfl) aH rfl rfl rfl) ah)))) EW rfl rfl) rfl (by simp [aQ])) (wu (aY (t:=true) (mq (a:=false) (b:=true) (gz (s:=.leaf) (aF (aw rfl) aH rfl)) (mq (a:=true) (b:=false) (gz (s:=.leaf) (aF (ig (j:=1) (aw rfl) aH rfl rfl rfl) (aw rfl) ne)) (gz (s:=.leaf) (aF (bO (g:=br) (d:=.int 0) (ax (ig (j:=2) (aw rfl) aH rfl rfl rfl) ah) rfl) (bO (g:=br) (d:=.int 0) (ax (aw rfl) ah) rfl) (lb (yR 0)))))) (fun _=>aX aH rfl) nofun))))⟩
theorem Ae (ok:w.Ok) (hg:bw [w.enc,y]=.ok ⟨.leaf,.bool false⟩):bK [w.enc,aC (List.range w.n),.list [],y]=.er "NoWay":=
 dZ (ak (kg (mH (ax (aw rfl) (ax (aw rfl) (ax (aw rfl) ah))) (h9 ok) rfl rfl)) (DD (zX (zY (ax (aw rfl) (ax (aw rfl) ah)) (yz hg) rfl))))
theorem Ad (ok:w.Ok) {F R:List Nat} (h:mx w F R) (hl:F.length+R.length<=800):∃p,bK [w.enc,aC (List.range w.n),.list [],wy F R]=.ok p:=by
 have c1:bz (aj (af 3) (eK (.int 0))) (aj (af 3) (eK (.int 1))) (aQ 6 [w.enc,aC (List.range w.n),.list [],wy F R])=.ok ⟨.lst .leaf,aC (F++R)⟩ (aQ 6 [w.enc,aC (List.range w.n),.list [],wy F R]):=by
  have:=cG (Γ:=aQ 6 [w.enc,aC (List.range w.n),.list [],wy F R]) (ig (j:=0) (aw (i:=3) rfl) (aH (d:=.int 0)) rfl rfl rfl) (ig (j:=1) (aw (i:=3) rfl) (aH (d:=.int 1)) rfl rfl rfl) zS zS (by simp;omega)
  rw [this,<-map_append]
 have cm:=mC (Γ:=aQ 6 [w.enc,aC (List.range w.n),.list [],wy F R]) (s:=.leaf) (i:=5) (fi:=aR (bz (aj (af 3) (eK (.int 0))) (aj (af 3) (eK (.int 1))))) (fe:=aD (cY false) (af 5) (af 1)) rm (F++R) (fun x=>⟨.leaf,.bool ((List.range w.n).contains x)⟩) (st:=true) (bQ (s:=.lst .leaf) c1 rfl) (by simp [aQ]) rfl (by simp;omega) fun x hx=>⟨aF (aw rfl) (aw rfl) Dy,rfl⟩
 have t:=de (cw (s:=.leaf) (bO (ax cm ah) (v7 (xs:=F++R) (f:=fun x=>(List.range w.n).contains x))))
 have c0:=kg (mH (n:=3) (Γ:=aQ 6 [w.enc,aC (List.range w.n),.list [],wy F R]) (ax (aw (i:=0) rfl) (ax (aw (i:=1) rfl) (ax (aw (i:=2) rfl) ah))) (h9 ok) rfl rfl)
 have c2:=kg (mH (n:=2) (Γ:=aQ 6 [w.enc,aC (List.range w.n),.list [],wy F R]) (ax (aw (i:=0) rfl) (ax (aw (i:=3) rfl) ah)) (yy (lR ok h)) rfl rfl)
 have cn:=mC (Γ:=aQ 6 [w.enc,aC (List.range w.n),.list [],wy F R]) (s:=.leaf) (i:=4) (fi:=aR (af 2)) (fe:=Fm) rm ([]:List Nat) (fun _=>⟨.leaf,.bool true⟩) (st:=true) (bQ (s:=.leaf) (aw rfl) rfl) (by simp [aQ]) rfl (by simp) fun x hx=>by simp at hx
 cases ha:(F++R).all fun x=>(List.range w.n).contains x with
 | false=>
  rw [ha] at t;exact ⟨_,aW (ak c0 (ak c2 (wu (aY t (fun _=>aX aH rfl) nofun))))⟩
 | true=>
  rw [ha] at t;exact ⟨_,aW (ak c0 (ak c2 (ak (aY t nofun fun _=>rfl) (aX (bO (g:=cQ false) (d:=.bool true) (ax cn ah) rfl) rfl))))⟩
end
noncomputable def Tl (r:Res) (t:Str):Prop:=(t = ""/\∃p,r=.ok p)\/∃c,r=.er c/\xcl.contains c=true/\bE c=.ok ⟨.leaf,.str t⟩
theorem Tl.o {r:Res} (h:∃p,r=.ok p):Tl r "":=.inl ⟨rfl,h⟩
theorem Tl.w {r:Res} (h:r=.er "NoWorld"):Tl r "world":=.inr ⟨_,h,by decide +kernel,sC⟩
theorem Tl.m {r:Res} (h:r=.er "NoMark"):Tl r "mark":=.inr ⟨_,h,by decide +kernel,wH⟩
theorem Tl.r {r:Res} (h:r=.er "NoRoom"):Tl r "room":=.inr ⟨_,h,by decide +kernel,wG⟩
theorem Tl.y {r:Res} (h:r=.er "NoWay"):Tl r "way":=.inr ⟨_,h,by decide +kernel,Ar⟩
noncomputable def fk (W R M r y:D):Nat->Res
 | 0=>cb [W,R,M]
 | 1=>cf [W,R,M]
 | 2=>bI [W,R,M,EN]
 | 3=>bK [W,R,M,y]
 | _=>cA [W,R,M,r]
noncomputable def pG (m0 m1 m2 p q:Bool):Str:=if m0 then "world" else if m1 then "mark" else if m2 then "room" else if p then "way" else if q then "room" else ""
theorem AQ (m0 m1 m2 p q:Bool):shaped (.str (pG m0 m1 m2 p q))=true:=by cases m0<;>cases m1<;>cases m2<;>cases p<;>cases q<;>decide +kernel
section
variable {w:Wd} {W Rm M y:D} {r:Int} {m0 m1 m2 m3 m4:Bool} {F R:List Nat} {c:Str}
theorem CB (h:bc [W,Rm,M]=.er c) {k:Nat} (hk:k<5):fk W Rm M (.int r) y k=.er c:=by
 have ks:k=0\/k=1\/k=2\/k=3\/k=4:=by omega
 rcases ks with rfl | rfl | rfl | rfl | rfl<;>exact dZ (DD (zX (zY (ax (aw rfl) (ax (aw rfl) (ax (aw rfl) ah))) h rfl)))
theorem D6 (ok:w.Ok) (hW1:m0=true->bD [W]=.er "NoWorld") (hW0:m0=false->W=w.enc) (hM1:m1=true->bf [M]=.ok ⟨.leaf,.bool false⟩) (hM0:m1=false->M=.list []) (hR1:m2=true->bu [w.enc,Rm]=.er "NoRoom") (hR0:m2=false->Rm=aC (List.range w.n)) (hr1:m3=true->fu w.n r=false) (hr0:m3=false->r=0) (hY1:m4=true->bw [w.enc,y]=.ok ⟨.leaf,.bool false⟩) (hY0:m4=false->y=wy F R) (iw:mx w F R) (hl:F.length+R.length<=800) {k:Nat} (hk:k<5):Tl (fk W Rm M (.int r) y k) (pG m0 m1 m2 ((k:Int)==3&&m4) ((k:Int)==4&&m3)):=by
 cases m0 with
 | true=>exact Tl.w (CB (KI (hW1 rfl)) hk)
 | false=>
  have:=hW0 rfl
  subst this
  cases m1 with
  | true=>exact Tl.m (CB (KL ok (hM1 rfl)) hk)
  | false=>
   have:=hM0 rfl
   subst this
   cases m2 with
   | true=>exact Tl.r (CB (KJ ok (hR1 rfl)) hk)
   | false=>
    have:=hR0 rfl
    subst this;have ks:k=0\/k=1\/k=2\/k=3\/k=4:=by omega
    rcases ks with rfl | rfl | rfl | rfl | rfl
    ·exact Tl.o (Ai ok)
    ·exact Tl.o (Aj ok)
    ·exact Tl.o (Af ok)
    ·cases m4 with
     | true=>exact Tl.y (Ae ok (hY1 rfl))
     | false=>have:=hY0 rfl;subst this;exact Tl.o (Ad ok iw hl)
    ·cases m3 with
     | true=>exact Tl.r (Ah ok (hr1 rfl))
     | false=>have:=hr0 rfl;subst this;exact Tl.o (Ag ok)
end
section
variable {W S r p y:D} {t:Str}
theorem dt {k:Nat} {j:Int} {b:Bool} (hb:((k:Int)==j)=b):aO aA (aD cP (af 0) (eK (.int j))) (aQ 6 [.int (k:Int),W,S,r,p,y])=.ok b (aQ 6 [.int (k:Int),W,S,r,p,y]):=by
 rw [<-hb];exact gz (s:=.leaf) (aF (aw rfl) aH KC.eq_int)
theorem vM {k:Nat} (hk:k<5):∃(n:Nat) (ps:List PV) (fl:FL) (den:List D->Res),fl (aQ 6 [.int (k:Int),W,S,r,p,y])=.ok ps (aQ 6 [.int (k:Int),W,S,r,p,y])/\ps.length=n/\ps.all (coer .leaf)=true/\den (ps.map (·.d))=fk W S r p y k/\eN (aQ 6 [.int (k:Int),W,S,r,p,y])=bq (gy n den fl) (aQ 6 [.int (k:Int),W,S,r,p,y]):=by
 have ks:k=0\/k=1\/k=2\/k=3\/k=4:=by omega
 rcases ks with rfl | rfl | rfl | rfl | rfl
 ·exact ⟨3,_,ae (af 1) (ae (af 2) (ae (af 3) ag)),cb,ax (aw rfl) (ax (aw rfl) (ax (aw rfl) ah)),rfl,rfl,rfl,aY (t:=true) (dt (by decide)) (fun _=>rfl) nofun⟩
 ·exact ⟨3,_,ae (af 1) (ae (af 2) (ae (af 3) ag)),cf,ax (aw rfl) (ax (aw rfl) (ax (aw rfl) ah)),rfl,rfl,rfl,aY (t:=false) (dt (by decide)) nofun fun _=>aY (t:=true) (dt (by decide)) (fun _=>rfl) nofun⟩
 ·exact ⟨4,_,ae (af 1) (ae (af 2) (ae (af 3) (ae (bT (ae (av .leaf ag) (ae (av .leaf ag) (ae (av .leaf ag) ag)))) ag))),bI,ax (aw rfl) (ax (aw rfl) (ax (aw rfl) (ax (cT (ax (b9 (s:=.leaf) ah rfl rfl rfl) (ax (b9 (s:=.leaf) ah rfl rfl rfl) (ax (b9 (s:=.leaf) ah rfl rfl rfl) ah))) rfl rfl) ah))),rfl,rfl,rfl,aY (t:=false) (dt (by decide)) nofun fun _=>aY (t:=false) (dt (by decide)) nofun fun _=>aY (t:=true) (dt (by decide)) (fun _=>rfl) nofun⟩
 ·exact ⟨4,_,ae (af 1) (ae (af 2) (ae (af 3) (ae (af 5) ag))),bK,ax (aw rfl) (ax (aw rfl) (ax (aw rfl) (ax (aw rfl) ah))),rfl,rfl,rfl,aY (t:=false) (dt (by decide)) nofun fun _=>aY (t:=false) (dt (by decide)) nofun fun _=>aY (t:=false) (dt (by decide)) nofun fun _=>aY (t:=true) (dt (by decide)) (fun _=>rfl) nofun⟩
 ·exact ⟨4,_,ae (af 1) (ae (af 2) (ae (af 3) (ae (af 4) ag))),cA,ax (aw rfl) (ax (aw rfl) (ax (aw rfl) (ax (aw rfl) ah))),rfl,rfl,rfl,aY (t:=false) (dt (by decide)) nofun fun _=>aY (t:=false) (dt (by decide)) nofun fun _=>aY (t:=false) (dt (by decide)) nofun fun _=>aY (t:=false) (dt (by decide)) nofun fun _=>rfl⟩
theorem yp {k:Nat} (hk:k<5) (h:Tl (fk W S r p y k) t):dG [.int (k:Int),W,S,r,p,y]=.ok ⟨.leaf,.str t⟩:=by
 obtain ⟨n,ps,fl,den,e1,e2,e3,e4,e5⟩:=vM (W:=W) (S:=S) (r:=r) (p:=p) (y:=y) hk
 have al:∀{x6 x7},ae (af 0) (ae (af 1) (ae (af 2) (ae (af 3) (ae (af 4) (ae (af 5) ag))))) [MS (.int (k:Int)),MS W,MS S,MS r,MS p,MS y,x6,x7]=.ok [⟨.leaf,.int (k:Int)⟩,⟨.leaf,W⟩,⟨.leaf,S⟩,⟨.leaf,r⟩,⟨.leaf,p⟩,⟨.leaf,y⟩] [MS (.int (k:Int)),MS W,MS S,MS r,MS p,MS y,x6,x7]:=fun {x6 x7}=>ax (aw rfl) (ax (aw rfl) (ax (aw rfl) (ax (aw rfl) (ax (aw rfl) (ax (aw rfl) ah)))))
 rcases h with ⟨rfl,q,e⟩ | ⟨c,e,hc,hw⟩
 ·have a:cW [.int (k:Int),W,S,r,p,y]=.ok ⟨.leaf,.none⟩:=fo (Γ:=aQ 6 [.int (k:Int),W,S,r,p,y]) (e5.trans (kg (mH e1 (e4.trans e) e2 e3)))
  exact aW (ak (b7 aH rfl (by simp [aQ])) (ak (Am (kg (mH al a rfl rfl))) (aX (aw rfl) rfl)))
 ·have a:cW [.int (k:Int),W,S,r,p,y]=.er c:=dZ (e5.trans (zX (zY e1 (e4.trans e) e2)))
  exact aW (ak (b7 aH rfl (by simp [aQ])) (ak (An (zX (zY al a rfl)) hc rfl (b7 (v_res hw) rfl (by simp)) rfl) (aX (aw rfl) rfl)))
end
noncomputable abbrev Lz (m0 m1 m2 m3 m4:Bool):D:=.list [.bool m0,.bool m1,.bool m2,.bool m3,.bool m4]
noncomputable abbrev dB (xs:List D) (W:D) (n c:Int) (m0 m1 m2 m3 m4:Bool) (f:Int) (R M r y:D) (x10 x11 x12:Option PV):Ev:=[MS (.list xs),MS W,MS (.int n),MS (.int c),MS (Lz m0 m1 m2 m3 m4),MS (.int f),MS R,MS M,MS r,MS y,x10,x11,x12,none]
noncomputable def ET (m0 m1 m2:Bool):Nat->Bool
 | 0=>m0
 | 1=>m1
 | _=>m2
noncomputable def Hv:Nat->Str
 | 0 => "world"
 | 1 => "mark"
 | _ => "room"
section
variable {m0 m1 m2 m3 m4:Bool} {Γ:Ev} {i k:Nat}
theorem ER (h4:Γ[4]?=some (MS (Lz m0 m1 m2 m3 m4))) (h:Γ[13]?=some (MS (rm i))) (hi:i<3):aO ba (aj (af 4) (af 13)) Γ=.ok (ET m0 m1 m2 i) Γ:=
 match i,hi,h with
 | 0,_,h=>cw (dU (j:=0) (aw h4) (aw h) rfl rfl rfl)
 | 1,_,h=>cw (dU (j:=1) (aw h4) (aw h) rfl rfl rfl)
 | 2,_,h=>cw (dU (j:=2) (aw h4) (aw h) rfl rfl rfl)
noncomputable abbrev Hu:F1:=av .leaf (ae (eK (.str "world")) (ae (eK (.str "mark")) (ae (eK (.str "room")) ag)))
theorem EM (h:Γ[13]?=some (MS (rm i))) (hi:i<3):aj Hu (af 13) Γ=.ok ⟨.leaf,.str (Hv i)⟩ Γ:=by
 have l:=b9 (s:=.leaf) (Γ:=Γ) (ax (aH (d:=.str "world")) (ax (aH (d:=.str "mark")) (ax (aH (d:=.str "room")) ah))) rfl rfl rfl
 match i,hi,h with
 | 0,_,h=>exact dU (j:=0) l (aw h) rfl rfl rfl
 | 1,_,h=>exact dU (j:=1) l (aw h) rfl rfl rfl
 | 2,_,h=>exact dU (j:=2) l (aw h) rfl rfl rfl
theorem tL {b:Bool} {x:Str} {fb:F1} (h:fb Γ=.ok ⟨.leaf,.int (if b then 1 else 0)⟩ Γ):jY (av .leaf (ae (eK (.str x)) ag)) fb Γ=.ok ⟨.lst .leaf,.list (if b then [.str x] else [])⟩ Γ:=by
 cases b with
 | true=>exact zd (k:=1) (b9 (s:=.leaf) (ax aH ah) rfl rfl rfl) h (by omega) (by omega) (by simp)
 | false=>exact zd (k:=0) (b9 (s:=.leaf) (ax aH ah) rfl rfl rfl) h (by omega) (by omega) (by simp)
theorem u5 {a b:Bool} {fa fb:F1} (ha:fa Γ=.ok ⟨.leaf,.bool a⟩ Γ) (hb:fb Γ=.ok ⟨.leaf,.bool b⟩ Γ):bG fH (ae (eh fa fb) ag) Γ=.ok ⟨.leaf,.int (if (a&&b) then 1 else 0)⟩ Γ:=
 bO (g:=fH) (ax (v_and (s:=.leaf) ha hb) ah) (by cases (a&&b)<;>rfl)
end
theorem Kt (m0 m1 m2 p q:Bool):((((List.range 3).filter (ET m0 m1 m2)).map fun i=>PyData.str (Hv i))++(if p then [.str "way"] else [])++(if q then [.str "room"] else [])++[.str ""])[0]?=some (.str (pG m0 m1 m2 p q)):=by
 cases m0<;>cases m1<;>cases m2<;>cases p<;>cases q<;>rfl
noncomputable abbrev Eb:FS:=(ay (az false 12 (aB .leaf 13 (fw (ae (eK (.int 3)) ag)) (aO ba (aj (af 4) (af 13))) (aj Hu (af 13))))
  (ay (az false 12 (bz (bz (bz (af 12) (jY (av .leaf (ae (eK (.str "way")) ag)) (bG fH (ae (eh (aD cP (af 10) (eK (.int 3))) (aj (af 4) (eK (.int 4)))) ag)))) (jY (av .leaf (ae (eK (.str "room")) ag)) (bG fH (ae (eh (aD cP (af 10) (eK (.int 4))) (aj (af 4) (eK (.int 3)))) ag)))) (av .leaf (ae (eK (.str "")) ag))))
  (b6 (aO aA (aD jq (ao 6 dG (ae (af 10) (ae (af 1) (ae (af 6) (ae (af 7) (ae (af 8) (ae (af 9) ag))))))) (aj (af 12) (eK (.int 0))))) (aU (eK (.bool false))) aN)))
theorem Az {xs:List D} {W R M r y:D} {n c f:Int} {m0 m1 m2 m3 m4:Bool} {k:Nat} (hk:k<5) (h:Tl (fk W R M r y k) (pG m0 m1 m2 ((k:Int)==3&&m4) ((k:Int)==4&&m3))) {x11 x12:Option PV}:∃y12,Eb (dB xs W n c m0 m1 m2 m3 m4 f R M r y (MS (rm k)) x11 x12)=.nx (dB xs W n c m0 m1 m2 m3 m4 f R M r y (MS (rm k)) x11 y12):=by
 have cm:=Da rm (List.range 3) (ET m0 m1 m2) (fun i=>⟨.leaf,.str (Hv i)⟩) (s:=.leaf) (i:=13) (fi:=fw (ae (eK (.int 3)) ag)) (fc:=aO ba (aj (af 4) (af 13))) (fe:=aj Hu (af 13)) (st:=true) (Γ:=dB xs W n c m0 m1 m2 m3 m4 f R M r y (MS (rm k)) x11 x12) (mw (s:=.leaf) (n:=3) (by omega) (ax aH ah)) (by simp) rfl (by simp) (fun i hi=>ER rfl rfl (List.mem_range.mp hi)) fun i hi _=>⟨EM rfl (List.mem_range.mp hi),rfl⟩
 have ln:((List.range 3).filter (ET m0 m1 m2)).length<=3:=Nat.le_trans (length_filter_le _ _) (by simp)
 generalize hL:(((List.range 3).filter (ET m0 m1 m2)).map fun i=>PyData.str (Hv i))=L
 have lL:L.length<=3:=by rw [<-hL,length_map];exact ln
 have hh:=Kt m0 m1 m2 ((k:Int)==3&&m4) ((k:Int)==4&&m3)
 rw [hL] at hh;have q1:az false 12 (aB .leaf 13 (fw (ae (eK (.int 3)) ag)) (aO ba (aj (af 4) (af 13))) (aj Hu (af 13))) (dB xs W n c m0 m1 m2 m3 m4 f R M r y (MS (rm k)) x11 x12)=.nx (dB xs W n c m0 m1 m2 m3 m4 f R M r y (MS (rm k)) x11 (MS (.list L))):=by
  rw [<-hL];exact b7 cm rfl (by simp)
 generalize hp:((k:Int)==3&&m4)=p at h hh
 generalize hq:((k:Int)==4&&m3)=q at h hh
 have i1:=u5 (Γ:=dB xs W n c m0 m1 m2 m3 m4 f R M r y (MS (rm k)) x11 (MS (.list L))) (fa:=aD cP (af 10) (eK (.int 3))) (fb:=aj (af 4) (eK (.int 4))) (aF (aw (d:=rm k) rfl) aH KC.eq_int) (dU (j:=4) (aw rfl) aH rfl rfl rfl)
 have i2:=u5 (Γ:=dB xs W n c m0 m1 m2 m3 m4 f R M r y (MS (rm k)) x11 (MS (.list L))) (fa:=aD cP (af 10) (eK (.int 4))) (fb:=aj (af 4) (eK (.int 3))) (aF (aw (d:=rm k) rfl) aH KC.eq_int) (dU (j:=3) (aw rfl) aH rfl rfl rfl)
 rw [hp] at i1;rw [hq] at i2;have l1:(if p then [PyData.str "way"] else []).length<=1:=by cases p<;>simp
 have l2:(if q then [PyData.str "room"] else []).length<=1:=by cases q<;>simp
 have ct:=cG (cG (cG (fa:=af 12) (s:=.leaf) (xs:=L) (aw rfl) (tL (x := "way") i1) rfl rfl (by omega)) (tL (x := "room") i2) rfl rfl (by rw [length_append];omega)) (b9 (s:=.leaf) (ax (aH (d:=.str "")) ah) rfl rfl rfl) rfl rfl (by rw [length_append,length_append];simp;omega)
 generalize hZ:L++(if p then [PyData.str "way"] else [])++(if q then [PyData.str "room"] else [])++[PyData.str ""]=Z at hh
 have q2:=b7 (i:=12) ct rfl (by simp)
 have zl:0<Z.length:=by rw [<-hZ,length_append];exact Nat.lt_of_lt_of_le (by decide:0<1) (Nat.le_add_left 1 _)
 refine ⟨some ⟨.leaf,.list Z⟩,ak q1 (ak (Γ1:=dB xs W n c m0 m1 m2 m3 m4 f R M r y (MS (rm k)) x11 (MS (.list Z))) (by rw [<-hZ];exact q2) ?_)⟩
 exact aY (t:=false) (gz (s:=.leaf) (aF (cz (ax (aw rfl) (ax (aw rfl) (ax (aw rfl) (ax (aw rfl) (ax (aw rfl) (ax (aw rfl) ah)))))) (yp hk h) rfl rfl) (dU (j:=0) (aw rfl) aH (rX (k:=0) zl) hh rfl) (lb (AQ _ _ _ _ _)))) nofun fun _=>rfl
noncomputable abbrev bM:List D:=[.list [.str "b",.str "a"],.list [.str "a",.str "a"],.list [.str "g"],.list [.str "ab"],.list [.str ""],.list [.str "a",.str "b",.str "c",.str "d",.str "e",.str "f",.str "f"]]
theorem FQ {j:Nat} (hj:j<6):∃M,bM[j]?=some M/\bf [M]=.ok ⟨.leaf,.bool false⟩:=
 match j,hj with
 | 0,_=>⟨_,rfl,by kernel_rfl⟩
 | 1,_=>⟨_,rfl,by kernel_rfl⟩
 | 2,_=>⟨_,rfl,by kernel_rfl⟩
 | 3,_=>⟨_,rfl,by kernel_rfl⟩
 | 4,_=>⟨_,rfl,by kernel_rfl⟩
 | 5,_=>⟨_,rfl,by kernel_rfl⟩
section
variable {xs:List D} {W R M r y:D} {n c f:Int} {m0 m1 m2 m3 m4:Bool} {x11:Option PV}
noncomputable abbrev Mq:F1:=(av .leaf (ae (av .leaf (ae (eK (.str "b")) (ae (eK (.str "a")) ag))) (ae (av .leaf (ae (eK (.str "a")) (ae (eK (.str "a")) ag))) (ae (av .leaf (ae (eK (.str "g")) ag)) (ae (av .leaf (ae (eK (.str "ab")) ag)) (ae (av .leaf (ae (eK (.str "")) ag)) (ae (av .leaf (ae (eK (.str "a")) (ae (eK (.str "b")) (ae (eK (.str "c")) (ae (eK (.str "d")) (ae (eK (.str "e")) (ae (eK (.str "f")) (ae (eK (.str "f")) ag)))))))) ag)))))))
noncomputable abbrev Mo:FS:=b6 (aO ba (aj (af 4) (eK (.int 1)))) (ay (az false 11 Mq) (az false 7 (aj (af 11) (ao 3 ai (ae (af 3) (ae (eK (.int 6)) (ae (eK (.int 6)) ag))))))) aN
theorem st1:∃M' y11,Mo (dB xs W n c m0 m1 m2 m3 m4 f R (.list []) r y none none none)=.nx (dB xs W n c m0 m1 m2 m3 m4 f R M' r y none y11 none)/\(m1=true->bf [M']=.ok ⟨.leaf,.bool false⟩)/\(m1=false->M'=.list []):=by
 have t:aO ba (aj (af 4) (eK (.int 1))) (dB xs W n c m0 m1 m2 m3 m4 f R (.list []) r y none none none)=.ok m1 (dB xs W n c m0 m1 m2 m3 m4 f R (.list []) r y none none none):=cw (s:=.leaf) (dU (j:=1) (aw rfl) aH rfl rfl rfl)
 cases m1 with
 | false=>exact ⟨_,none,aY t nofun fun _=>rfl,nofun,fun _=>rfl⟩
 | true=>
  obtain ⟨j,hj,ej⟩:=vv (c:=c) (k:=6) (b:=6) (by omega) (by omega) (by omega) (by omega)
  obtain ⟨M',e1,e2⟩:=FQ hj;refine ⟨M',MS (.list bM),aY t (fun _=>?_) nofun,fun _=>e2,nofun⟩
  refine ak (Γ1:=dB xs W n c m0 true m2 m3 m4 f R (.list []) r y none (MS (.list bM)) none) (b7 (b9 (s:=.leaf) (ax (b9 (s:=.leaf) (ax aH (ax aH ah)) rfl rfl rfl) (ax (b9 (s:=.leaf) (ax aH (ax aH ah)) rfl rfl rfl) (ax (b9 (s:=.leaf) (ax aH ah) rfl rfl rfl) (ax (b9 (s:=.leaf) (ax aH ah) rfl rfl rfl) (ax (b9 (s:=.leaf) (ax aH ah) rfl rfl rfl) (ax (b9 (s:=.leaf) (ax aH (ax aH (ax aH (ax aH (ax aH (ax aH (ax aH ah))))))) rfl rfl rfl) ah)))))) rfl rfl rfl) rfl (by simp)) ?_
  exact b7 (dU (j:=j) (ds:=bM) (s:=.leaf) (s2:=.leaf) (aw rfl) (cz (ax (aw rfl) (ax aH (ax aH ah))) ej rfl rfl) (rX hj) e1 rfl) rfl (by simp)
noncomputable abbrev Mn:FS:=b6 (aO ba (aj (af 4) (eK (.int 2)))) (az false 6 (aj (av .leaf (ae (av .leaf (ae (aD aJ (af 2) (af 5)) ag)) (ae (av .leaf (ae (aD gSub (eU bt (eK (.int 1))) (af 5)) ag)) (ae (av .leaf (ae (eK (.int 0)) (ae (eK (.int 0)) ag))) (ae (bz (af 6) (av .leaf (ae (af 2) ag))) (ae (bz (av .leaf (ae (eU bt (eK (.int 1))) ag)) (af 6)) (ae (bz (av .leaf (ae (eK (.int 0)) ag)) (af 6)) ag))))))) (ao 3 ai (ae (af 3) (ae (eK (.int 7)) (ae (eK (.int 6)) ag)))))) aN
theorem IP {l:List Nat}:RowI (l.map rm):=fun a ha=>by
 obtain ⟨x,_,e⟩:=List.mem_map.mp ha;exact ⟨_,e.symm⟩
theorem IM {a b:List D} (ha:RowI a) (hb:RowI b):RowI (a++b):=fun x hx=>(MG hx).elim (ha x) (hb x)
theorem kX {i:Int}:RowI [.int i]:=fun a h=>⟨i,by simpa using h⟩
theorem D4 {i j:Int}:RowI [.int i,.int j]:=fun a h=>by
 rcases MH h with h | h
 ·exact ⟨i,h⟩
 ·exact ⟨j,by simpa using h⟩
theorem st2 {w:Wd} (ok:w.Ok) (hn:n=(w.n:Int)) (hf:0<=f):∃R',Mn (dB xs W n c m0 m1 m2 m3 m4 f (aC (List.range w.n)) M r y none x11 none)=.nx (dB xs W n c m0 m1 m2 m3 m4 f R' M r y none x11 none)/\(m2=true->bu [w.enc,R']=.er "NoRoom")/\(m2=false->R'=aC (List.range w.n)):=by
 have t:aO ba (aj (af 4) (eK (.int 2))) (dB xs W n c m0 m1 m2 m3 m4 f (aC (List.range w.n)) M r y none x11 none)=.ok m2 (dB xs W n c m0 m1 m2 m3 m4 f (aC (List.range w.n)) M r y none x11 none):=cw (s:=.leaf) (dU (j:=2) (aw rfl) aH rfl rfl rfl)
 have h24:=ok.h24
 have h1:=ok.h1
 cases m2 with
 | false=>exact ⟨_,aY t nofun fun _=>rfl,nofun,fun _=>rfl⟩
 | true=>
  obtain ⟨j,hj,ej⟩:=vv (c:=c) (k:=7) (b:=6) (by omega) (by omega) (by omega) (by omega)
  have sb:gSub (.int (-1)) (.int f)=some (.int (-1-f)):=KC.sub_int'
  let B:List D:=[.list [.int (n+f)],.list [.int (-1-f)],.list [.int 0,.int 0],.list ((List.range w.n).map rm++[.int n]),.list ([.int (-1)]++(List.range w.n).map rm),.list ([.int 0]++(List.range w.n).map rm)]
  have ln:((List.range w.n).map rm).length=w.n:=by simp
  have l:=b9 (s:=.leaf) (Γ:=dB xs W n c m0 m1 true m3 m4 f (aC (List.range w.n)) M r y none x11 none) (ax (b9 (s:=.leaf) (ax (aF (g:=aJ) (aw (i:=2) rfl) (aw (i:=5) rfl) KC.add_int') ah) rfl rfl rfl) (ax (b9 (s:=.leaf) (ax (aF (sO (g:=bt) (aH (d:=.int 1)) (d:=.int (-1)) rfl) (aw (i:=5) rfl) sb) ah) rfl rfl rfl) (ax (b9 (s:=.leaf) (ax (aH (d:=.int 0)) (ax (aH (d:=.int 0)) ah)) rfl rfl rfl) (ax (cG (fa:=af 6) (s:=.leaf) (xs:=(List.range w.n).map rm) (aw rfl) (b9 (s:=.leaf) (ax (aw (i:=2) rfl) ah) rfl rfl rfl) rfl rfl (by simp;omega)) (ax (cG (fb:=af 6) (s':=.leaf) (ys:=(List.range w.n).map rm) (b9 (s:=.leaf) (ax (sO (g:=bt) (aH (d:=.int 1)) (d:=.int (-1)) rfl) ah) rfl rfl rfl) (aw rfl) rfl rfl (by simp;omega)) (ax (cG (fb:=af 6) (s':=.leaf) (ys:=(List.range w.n).map rm) (b9 (s:=.leaf) (ax (aH (d:=.int 0)) ah) rfl rfl rfl) (aw rfl) rfl rfl (by simp;omega)) ah)))))) rfl rfl rfl
  have CS:∀j,j<6->∃R',B[j]?=some R'/\bu [w.enc,R']=.er "NoRoom":=fun j hj=>
   match j,hj with
   | 0,_=>⟨_,rfl,C8 ok kX (by simp) (Gb (i:=n+f) (by simp) (.inr (by omega)))⟩
   | 1,_=>⟨_,rfl,C8 ok kX (by simp) (Gb (i:=-1-f) (by simp) (.inl (by omega)))⟩
   | 2,_=>⟨_,rfl,C8 ok D4 (by simp) (by rw [kM,Bool.and_false])⟩
   | 3,_=>⟨_,rfl,C8 ok (IM IP kX) (by simp;omega) (Gb (i:=n) (by simp) (.inr (by omega)))⟩
   | 4,_=>⟨_,rfl,C8 ok (IM kX IP) (by simp;omega) (Gb (i:=-1) (by simp) (.inl (by omega)))⟩
   | 5,_=>⟨_,rfl,C8 ok (IM kX IP) (by simp;omega) (by
     obtain ⟨m,hm⟩:∃m,w.n=m+1:=⟨w.n-1,by omega⟩
     have e:[PyData.int 0]++(List.range w.n).map rm=.int 0::.int 0::(((List.range m).map Nat.succ).map rm):=by
      rw [hm,List.range_succ_eq_map];rfl
     rw [e,kM,Bool.and_false])⟩
  obtain ⟨R',e1,e2⟩:=CS j hj;refine ⟨R',aY t (fun _=>?_) nofun,fun _=>e2,nofun⟩
  exact b7 (dU (j:=j) (ds:=B) l (cz (ax (aw rfl) (ax aH (ax aH ah))) ej rfl rfl) (rX hj) e1 rfl) rfl (by simp)
noncomputable abbrev Mm:FS:=b6 (aO ba (aj (af 4) (eK (.int 3)))) (az false 8 (aj (av .leaf (ae (aD aJ (af 2) (af 5)) (ae (aD gSub (eU bt (eK (.int 1))) (af 5)) ag))) (ao 3 ai (ae (af 3) (ae (eK (.int 8)) (ae (eK (.int 2)) ag)))))) aN
theorem st3 {N:Nat} (hn:n=(N:Int)) (hf:0<=f):∃r':Int,Mm (dB xs W n c m0 m1 m2 m3 m4 f R M (.int 0) y none x11 none)=.nx (dB xs W n c m0 m1 m2 m3 m4 f R M (.int r') y none x11 none)/\(m3=true->fu N r'=false)/\(m3=false->r'=0):=by
 have t:aO ba (aj (af 4) (eK (.int 3))) (dB xs W n c m0 m1 m2 m3 m4 f R M (.int 0) y none x11 none)=.ok m3 (dB xs W n c m0 m1 m2 m3 m4 f R M (.int 0) y none x11 none):=cw (s:=.leaf) (dU (j:=3) (aw rfl) aH rfl rfl rfl)
 cases m3 with
 | false=>exact ⟨0,aY t nofun fun _=>rfl,nofun,fun _=>rfl⟩
 | true=>
  obtain ⟨j,hj,ej⟩:=vv (c:=c) (k:=8) (b:=2) (by omega) (by omega) (by omega) (by omega)
  have sb:gSub (.int (-1)) (.int f)=some (.int (-1-f)):=KC.sub_int'
  have l:=b9 (s:=.leaf) (Γ:=dB xs W n c m0 m1 m2 true m4 f R M (.int 0) y none x11 none) (ax (aF (g:=aJ) (aw (i:=2) rfl) (aw (i:=5) rfl) KC.add_int') (ax (aF (sO (g:=bt) (aH (d:=.int 1)) (d:=.int (-1)) rfl) (aw (i:=5) rfl) sb) ah)) rfl rfl rfl
  have dd:=cz (n:=3) (Γ:=dB xs W n c m0 m1 m2 true m4 f R M (.int 0) y none x11 none) (ax (aw (i:=3) rfl) (ax aH (ax aH ah))) ej rfl rfl
  match j,hj,dd with
  | 0,_,dd=>exact ⟨n+f,aY t (fun _=>b7 (dU (j:=0) l dd rfl rfl rfl) rfl (by simp)) nofun,(fun _=>by unfold fu;rw [decide_eq_false (by omega:¬n+f<(N:Int)),Bool.and_false]),nofun⟩
  | 1,_,dd=>exact ⟨-1-f,aY t (fun _=>b7 (dU (j:=1) l dd rfl rfl rfl) rfl (by simp)) nofun,(fun _=>by unfold fu;rw [decide_eq_false (by omega)];rfl),nofun⟩
noncomputable abbrev Ml:FS:=b6 (aO ba (aj (af 4) (eK (.int 4)))) (az false 9 (aj (av .leaf (ae (bT (ae (av .leaf ag) (ae (av .leaf ag) ag))) (ae (bT (ae (av .leaf (ae (aD aJ (af 2) (af 5)) ag)) (ae (aj (af 9) (eK (.int 1))) ag))) (ae (bT (ae (bz (aj (af 9) (eK (.int 0))) (aj (af 9) (eK (.int 1)))) (ae (av .leaf ag) ag))) (ae (bT (ae (av .leaf ag) (ae (av .leaf (ae (aD gSub (eU bt (eK (.int 1))) (af 5)) ag)) ag))) ag))))) (ao 3 ai (ae (af 3) (ae (eK (.int 9)) (ae (eK (.int 4)) ag)))))) aN
theorem pK {n:Nat} {l:List Int} {x:Int} (h:x∈l) (hx:fu n x=false):l.all (fu n)=false:=List.all_eq_false.mpr ⟨x,h,by rw [hx];simp⟩
theorem L9 {w:Wd} (ok:w.Ok) {F Q:List Nat} (hl:F.length+Q.length<=100) (hn:n=(w.n:Int)) (hf:0<=f):∃y',Ml (dB xs W n c m0 m1 m2 m3 m4 f R M r (wy F Q) none x11 none)=.nx (dB xs W n c m0 m1 m2 m3 m4 f R M r y' none x11 none)/\(m4=true->bw [w.enc,y']=.ok ⟨.leaf,.bool false⟩)/\(m4=false->y'=wy F Q):=by
 have t:aO ba (aj (af 4) (eK (.int 4))) (dB xs W n c m0 m1 m2 m3 m4 f R M r (wy F Q) none x11 none)=.ok m4 (dB xs W n c m0 m1 m2 m3 m4 f R M r (wy F Q) none x11 none):=cw (s:=.leaf) (dU (j:=4) (aw rfl) aH rfl rfl rfl)
 cases m4 with
 | false=>exact ⟨_,aY t nofun fun _=>rfl,nofun,fun _=>rfl⟩
 | true=>
  obtain ⟨j,hj,ej⟩:=vv (c:=c) (k:=9) (b:=4) (by omega) (by omega) (by omega) (by omega)
  have sb:gSub (.int (-1)) (.int f)=some (.int (-1-f)):=KC.sub_int'
  have i0:aj (af 9) (eK (.int 0)) (dB xs W n c m0 m1 m2 m3 true f R M r (wy F Q) none x11 none)=.ok ⟨.leaf,aC F⟩ (dB xs W n c m0 m1 m2 m3 true f R M r (wy F Q) none x11 none):=ig (j:=0) (aw rfl) aH rfl rfl rfl
  have i1:aj (af 9) (eK (.int 1)) (dB xs W n c m0 m1 m2 m3 true f R M r (wy F Q) none x11 none)=.ok ⟨.leaf,aC Q⟩ (dB xs W n c m0 m1 m2 m3 true f R M r (wy F Q) none x11 none):=ig (j:=1) (aw rfl) aH rfl rfl rfl
  let B:List D:=[.tuple [.list [],.list []],.tuple [.list [.int (n+f)],aC Q],.tuple [.list (F.map rm++Q.map rm),.list []],.tuple [.list [],.list [.int (-1-f)]]]
  have l:=b9 (s:=.leaf) (Γ:=dB xs W n c m0 m1 m2 m3 true f R M r (wy F Q) none x11 none) (ax (cT (ax (b9 (s:=.leaf) ah rfl rfl rfl) (ax (b9 (s:=.leaf) ah rfl rfl rfl) ah)) rfl rfl) (ax (cT (ax (b9 (s:=.leaf) (ax (aF (g:=aJ) (aw (i:=2) rfl) (aw (i:=5) rfl) KC.add_int') ah) rfl rfl rfl) (ax i1 ah)) rfl rfl) (ax (cT (ax (cG i0 i1 zS zS (by simp;omega)) (ax (b9 (s:=.leaf) ah rfl rfl rfl) ah)) rfl rfl) (ax (cT (ax (b9 (s:=.leaf) ah rfl rfl rfl) (ax (b9 (s:=.leaf) (ax (aF (sO (g:=bt) (aH (d:=.int 1)) (d:=.int (-1)) rfl) (aw (i:=5) rfl) sb) ah) rfl rfl rfl) ah)) rfl rfl) ah)))) rfl rfl rfl
  have go:∀{F' R':List Int},F'.length<=450->R'.length<=450->(R'=[]\/(F'++R').all (fu w.n)=false)->bw [w.enc,i4 F' R']=.ok ⟨.leaf,.bool false⟩:=fun {F' R'} h1 h2 h=>by
   have:=rB ok h1 h2
   rw [this];have:mJ w F' R'=false:=by
    unfold mJ;rcases h with rfl | h
    ·rfl
    ·rw [h];simp
   rw [this]
  have goB:∀j,j<4->∃Y,B[j]?=some Y/\bw [w.enc,Y]=.ok ⟨.leaf,.bool false⟩:=fun j hj=>
   match j,hj with
   | 0,_=>⟨_,rfl,go (F':=[]) (R':=[]) (by simp) (by simp) (.inl rfl)⟩
   | 1,_=>⟨_,rfl,by
     have:=go (F':=[n+f]) (R':=Q.map fun x:Nat=>(x:Int)) (by simp) (by simp;omega) (.inr (pK (x:=n+f) (by simp) (by unfold fu;rw [decide_eq_false (by omega:¬n+f<(w.n:Int)),Bool.and_false])))
     rw [show i4 [n+f] (Q.map fun x:Nat=>(x:Int))=.tuple [.list [.int (n+f)],aC Q] by rw [wY];rfl] at this
     exact this⟩
   | 2,_=>⟨_,rfl,by
     have:=go (F':=(F.map fun x:Nat=>(x:Int))++(Q.map fun x:Nat=>(x:Int))) (R':=[]) (by simp;omega) (by simp) (.inl rfl)
     rw [show i4 ((F.map fun x:Nat=>(x:Int))++(Q.map fun x:Nat=>(x:Int))) []=.tuple [.list (F.map rm++Q.map rm),.list []] by
      show PyData.tuple [.list _,.list _]=_
      rw [map_append,map_map,map_map];rfl] at this
     exact this⟩
   | 3,_=>⟨_,rfl,go (F':=[]) (R':=[-1-f]) (by simp) (by simp) (.inr (pK (x:=-1-f) (by simp) (by unfold fu;rw [decide_eq_false (by omega)];rfl)))⟩
  obtain ⟨Y,e1,e2⟩:=goB j hj;refine ⟨Y,aY t (fun _=>?_) nofun,fun _=>e2,nofun⟩
  obtain ⟨sj,hsj⟩:∃sj,kh (.lst .leaf) j Y=some sj:=⟨_,rfl⟩
  cases hsj;exact b7 (dU (j:=j) (ds:=B) l (cz (ax (aw rfl) (ax aH (ax aH ah))) ej rfl rfl) (rX hj) e1 rfl) rfl (by simp)
noncomputable abbrev Mp:FS:=b6 (aO ba (aj (af 4) (eK (.int 0)))) (az false 1 (ao 2 bV (ae (af 1) (ae (ao 2 aM (ae (af 0) (ae (eK (.int 9)) ag))) ag)))) aN
theorem Ma (hx:RowI xs) {w:Wd} (ok:w.Ok):∃W',Mp (dB xs w.enc n c m0 m1 m2 m3 m4 f R M r y none x11 none)=.nx (dB xs W' n c m0 m1 m2 m3 m4 f R M r y none x11 none)/\(m0=true->bD [W']=.er "NoWorld")/\(m0=false->W'=w.enc):=by
 have t:aO ba (aj (af 4) (eK (.int 0))) (dB xs w.enc n c m0 m1 m2 m3 m4 f R M r y none x11 none)=.ok m0 (dB xs w.enc n c m0 m1 m2 m3 m4 f R M r y none x11 none):=cw (s:=.leaf) (dU (j:=0) (aw rfl) aH rfl rfl rfl)
 cases m0 with
 | false=>exact ⟨_,aY t nofun fun _=>rfl,nofun,fun _=>rfl⟩
 | true=>
  obtain ⟨c9,hc9⟩:=DK hx (k:=9) (by omega)
  obtain ⟨sh,os',ms',ss',e1,e2,e3,e4⟩:=j3 ok.g ok.h1 ok.h24 (c:=c9)
  exact ⟨cX os' ms' ss',aY t (fun _=>b7 (cz (ax (aw rfl) (ax (cz (ax (aw rfl) (ax aH ah)) hc9 rfl rfl) ah)) e1 rfl rfl) e2 (by simp)) nofun,(fun _=>ym e3 (by omega) e4),nofun⟩
end
theorem yr {xs:List D} (hx:RowI xs):uS [.list xs]=.ok ⟨.leaf,.bool true⟩:=by
 obtain ⟨n,os,ms,ss,e0,g,h1,h6⟩:=rq hx (at':=0) (lim:=6) (by omega) (by omega) (by omega)
 obtain ⟨w,ok,ew,en⟩:=D5 g h1 (by omega)
 rw [<-ew] at e0;have hn:w.n<=6:=by omega
 have hn1:=ok.h1
 obtain ⟨c,hc⟩:=DK hx (k:=8) (by omega)
 obtain ⟨c7,hc7⟩:=DK hx (k:=7) (by omega)
 obtain ⟨f,df,hf0,hf1⟩:=jr (c:=c) (k:=5) (b:=1000000000) (by omega) (by omega) (by omega) (by omega)
 obtain ⟨F,Q,ey,iw,_,hly⟩:=yn ok (c:=c7) (r:=0) (sz:=3) (by omega) (by omega)
 have cm:∀Γ:Ev,Γ.length=14->Γ[3]?=some (MS (.int c))->aB .leaf 13 (fw (ae (eK (.int 5)) ag)) aT (aD cP (ao 3 ai (ae (af 3) (ae (af 13) (ae (eK (.int 3)) ag)))) (eK (.int 1))) Γ=.ok ⟨.lst .leaf,.list ((List.range 5).map fun k:Nat=>.bool (cR c (k:Int) 3==1))⟩ Γ:=fun Γ hl h3=>
  mC rm (List.range 5) (fun k=>⟨.leaf,.bool (cR c (k:Int) 3==1)⟩) (st:=true) (mw (s:=.leaf) (n:=5) (by omega) (ax aH ah)) (by omega) rfl (by simp) fun k hk=>by
   have hk:=List.mem_range.mp hk
   refine ⟨aF (cz (ax (aw (by rw [getElem?_set_ne (by omega)];exact h3)) (ax (aw (d:=rm k) (by rw [getElem?_set_self (by omega)])) (ax aH ah))) (wx (c:=c) (k:=(k:Int)) (b:=3) (by omega) (by omega) (by omega) (by omega)) rfl rfl) aH KC.eq_int,rfl⟩
 have e4:((List.range 5).map fun k:Nat=>PyData.bool (cR c (k:Int) 3==1))=[.bool (cR c ((0:Nat):Int) 3==1),.bool (cR c ((1:Nat):Int) 3==1),.bool (cR c ((2:Nat):Int) 3==1),.bool (cR c ((3:Nat):Int) 3==1),.bool (cR c ((4:Nat):Int) 3==1)]:=rfl
 rw [e4] at cm;generalize (cR c ((0:Nat):Int) 3==1)=m0 at cm
 generalize (cR c ((1:Nat):Int) 3==1)=m1 at cm
 generalize (cR c ((2:Nat):Int) 3==1)=m2 at cm
 generalize (cR c ((3:Nat):Int) 3==1)=m3 at cm
 generalize (cR c ((4:Nat):Int) 3==1)=m4 at cm
 obtain ⟨M,y11,q1,hM1,hM0⟩:=st1 (xs:=xs) (W:=w.enc) (n:=(w.n:Int)) (c:=c) (m0:=m0) (m1:=m1) (m2:=m2) (m3:=m3) (m4:=m4) (f:=f) (R:=aC (List.range w.n)) (r:=.int 0) (y:=wy F Q)
 obtain ⟨R',q2,hR1,hR0⟩:=st2 (xs:=xs) (W:=w.enc) (n:=(w.n:Int)) (c:=c) (m0:=m0) (m1:=m1) (m2:=m2) (m3:=m3) (m4:=m4) (f:=f) (M:=M) (r:=.int 0) (y:=wy F Q) (x11:=y11) ok rfl hf0
 obtain ⟨r',q3,hr1,hr0⟩:=st3 (xs:=xs) (W:=w.enc) (n:=(w.n:Int)) (N:=w.n) (c:=c) (m0:=m0) (m1:=m1) (m2:=m2) (m3:=m3) (m4:=m4) (f:=f) (R:=R') (M:=M) (y:=wy F Q) (x11:=y11) rfl hf0
 obtain ⟨y',q4,hY1,hY0⟩:=L9 (xs:=xs) (W:=w.enc) (n:=(w.n:Int)) (c:=c) (m0:=m0) (m1:=m1) (m2:=m2) (m3:=m3) (m4:=m4) (f:=f) (R:=R') (M:=M) (r:=.int r') (x11:=y11) ok (F:=F) (Q:=Q) (by omega) rfl hf0
 obtain ⟨W,q0,hW1,hW0⟩:=Ma (n:=(w.n:Int)) (c:=c) (m0:=m0) (m1:=m1) (m2:=m2) (m3:=m3) (m4:=m4) (f:=f) (R:=R') (M:=M) (r:=.int r') (y:=y') (x11:=y11) hx ok
 have tl:=fun (k:Nat) (hk:k<5)=>D6 ok hW1 hW0 hM1 hM0 hR1 hR0 hr1 hr0 hY1 hY0 iw (by omega) hk
 obtain ⟨Γ',ef,_,z10,z12,rfl⟩:=IW rm (i:=10) (body:=Eb) (Inv:=fun l' Γ=>(∀y∈l',y<5)/\∃x10 x12,Γ=dB xs W (w.n:Int) c m0 m1 m2 m3 m4 f R' M (.int r') y' x10 y11 x12) (fun y rest Γ ⟨hr,x10,x12,e⟩=>by
  subst e;obtain ⟨y12,e⟩:=Az (xs:=xs) (n:=(w.n:Int)) (c:=c) (f:=f) (hr y (by simp)) (tl y (hr y (by simp))) (x11:=y11) (x12:=x12)
  exact ⟨by simp,_,e,fun z hz=>hr z (by simp [hz]),_,_,rfl⟩) (List.range 5) (dB xs W (w.n:Int) c m0 m1 m2 m3 m4 f R' M (.int r') y' none y11 none) ⟨fun y hy=>List.mem_range.mp hy,_,_,rfl⟩
 refine aW ?_
 refine ak (b7 (cz (ax (aw rfl) (ax aH (ax aH ah))) e0 rfl rfl) rfl (by simp [aQ])) ?_
 refine ak (b7 (zV ok rfl) rfl (by simp [aQ])) ?_
 refine ak (b7 (cz (ax (aw rfl) (ax aH ah)) hc rfl rfl) rfl (by simp [aQ])) ?_
 refine ak (b7 (cm _ rfl rfl) rfl (by simp [aQ])) ?_
 refine ak (b7 (cz (ax (aw rfl) (ax aH (ax (aF aH aH (oV (b:=9) (by omega) (by omega))) ah))) (by exact df) rfl rfl) rfl (by simp [aQ])) ?_
 refine ak (b7 (zM (n:=w.n) (s:=.leaf) (by omega) (ax (aw rfl) ah)) rfl (by simp [aQ])) ?_
 refine ak (b7 (b9 (s:=.leaf) ah rfl rfl rfl) rfl (by simp [aQ])) ?_
 refine ak (b7 aH rfl (by simp [aQ])) ?_
 refine ak (Γ1:=dB xs w.enc (w.n:Int) c m0 m1 m2 m3 m4 f (aC (List.range w.n)) (.list []) (.int 0) (wy F Q) none none none) (b7 (cz (ax (aw rfl) (ax (cz (ax (aw rfl) (ax aH ah)) hc7 rfl rfl) (ax aH (ax aH ah)))) ey rfl rfl) rfl (by simp [aQ])) ?_
 refine ak q1 (ak q2 (ak q3 (ak q4 (ak q0 ?_))))
 refine ak (eB (mw (s:=.leaf) (n:=5) (by omega) (ax aH ah)) ef) ?_
 exact aX aH rfl
theorem law_true (ns:List Int) (hl:ns.length<=63):uS [.list (ns.map .int)]=.ok ⟨.leaf,.bool true⟩:=yr rowI_map
end KQ.M.N
namespace KQ.M.N
open PySem PySem.Spec L2 T TQ
open PyProof.Rows hiding St
open KC
noncomputable def dM (n:Nat):Stmt:=(PySem.Challenge.pw_foreseehall_k58_fair_calls_refused.main.body)[n]!
noncomputable def kC:Stmt:=dM 16
noncomputable def kG:Stmt:=dM 17
noncomputable def kF:Stmt:=dM 18
noncomputable def kE:Stmt:=dM 19
noncomputable def mT:Stmt:=dM 20
noncomputable def ix:Stmt:=dM 21
noncomputable def jI:Stmt:=dM 23
noncomputable def iy:Stmt:=dM 24
noncomputable def AS:Stmt:=dM 30
noncomputable def tH:Stmt:=dM 32
noncomputable def mU:Stmt:=dM 33
noncomputable def iu:Stmt:=dM 34
noncomputable def ir:Stmt:=dM 35
noncomputable def mS:Stmt:=dM 36
noncomputable def mR:Stmt:=dM 37
noncomputable def jJ:Stmt:=dM 39
noncomputable def qf:Stmt:=dM 41
noncomputable def fX:Stmt:=dM 42
noncomputable def jG:Stmt:=dM 43
noncomputable def qg:Stmt:=dM 44
noncomputable def gG:Stmt:=dM 45
noncomputable def fY:Stmt:=dM 46
noncomputable def mV:Stmt:=dM 47
noncomputable def qi:Stmt:=dM 49
noncomputable def kD:Stmt:=dM 50
noncomputable def jH:Stmt:=dM 52
noncomputable def qh:Stmt:=dM 55
noncomputable def fZ:Stmt:=dM 58
noncomputable def iq:Stmt:=dM 59
noncomputable def gH:Stmt:=dM 61
noncomputable def kH:Stmt:=dM 62
noncomputable def jK:Stmt:=dM 63
noncomputable def mW:Stmt:=dM 64
noncomputable def gf:Stmt:=dM 66
noncomputable def jM:Stmt:=dM 67
noncomputable def mX:Stmt:=dM 68
noncomputable def Eh:Stmt:=dM 69
noncomputable def jL:Stmt:=dM 65
structure Gl (K:Fg) (mg:Str->Option Value):Prop where
 n0:mg "len"=none
 n1:mg "range"=none
 n2:mg "all"=none
 n3:mg "sorted"=none
 n4:mg "enumerate"=none
 n5:mg "list"=none
 n6:mg "any"=none
 n7:mg "min"=none
 n8:mg "int"=none
 n9:mg "isinstance"=none
 n10:mg "ValueError"=none
 h0:nW K mg "LETTERS" bY
 h1:nW K mg "MOST_ROOMS" dH
 h2:nW K mg "PLAYERS" cF
 xt:ExT K mg xcl K7
structure Al (K:Fg) (mg:Str->Option Value):Prop where
 g:Gl K mg
 f0:Ft K mg "is_rising" kC
 f1:Ft K mg "are_marks" kG
 f2:Ft K mg "are_rooms" kF
 f3:Ft K mg "are_steps" kE
 f4:Ft K mg "is_world" mT
 f5:Ft K mg "check_world" ix
 f6:Ft K mg "check_room" jI
 f7:Ft K mg "check_rooms" iy
 f8:Ft K mg "reached" s_reached
 f9:Ft K mg "places_of" cI
 f10:Ft K mg "placed" dX
 f11:Ft K mg "part" AS
 f12:Ft K mg "is_led" tH
 f13:Ft K mg "is_lower" mU
 f14:Ft K mg "lower_steps" iu
 f15:Ft K mg "ranked_next" ir
 f16:Ft K mg "ranks_to" mS
 f17:Ft K mg "steps_to" mR
 f18:Ft K mg "check_fair" jJ
 f19:Ft K mg "row_off" qf
 f20:Ft K mg "rows_and_kept" fX
 f21:Ft K mg "fair_rooms" jG
 f22:Ft K mg "path_to" qg
 f23:Ft K mg "closed_rooms" gG
 f24:Ft K mg "ring_by_marks" fY
 f25:Ft K mg "fair_way" mV
 f26:Ft K mg "goes_on" qi
 f27:Ft K mg "check_way" kD
 f28:Ft K mg "fair_paper" jH
 f29:Ft K mg "left_by" qh
 f30:Ft K mg "is_fair_paper" fZ
 f31:Ft K mg "way_is_fair" iq
 f32:Ft K mg "_law_cell_at" gH
 f33:Ft K mg "_law_draw" kH
 f34:Ft K mg "_law_world" jK
 f35:Ft K mg "_law_way" mW
 f36:Ft K mg "_law_no_world" gf
 f37:Ft K mg "_law_asked" jM
 f38:Ft K mg "_law_met" mX
 f39:Ft K mg "law" Eh
 f40:Ft K mg "_law_which" jL
section
variable {P:Program} {w:World} {K:Fg} {mg:Str->Option Value} {base:Heap} (A:Al K mg) (B:K.In base/\base.Ns mainGlobals mg)
include A B
theorem iF:Du P w K mg base 1 "_law_which" xcl bE:=Mf (p:=Gl) A.f40 A.g "e" Dn ["some"] LF [0,1] [] [0,1,2,3,4,5,6,7,8,9,10,11] fun X a C c hc hC S I hx=>
 TQ.Q.p (wF S I.r (I.xt A.g.xt) hx hc (I.gm hC) (I.gm A.g.n9) (I.gm A.g.n10))
theorem fR:DefOk P w K mg base 2 "is_rising" 1 dq:=mk A.f0 A.g ["entries"] Dn ["k"] ["len", "range", "all"] [0] [0] [0,1,2] fun X S I hp=>
 (dk (sv S 2 rfl rfl I.e.n2 (aI (i8 [0,1] [0] [] S 1 (zb S 1 rfl rfl I.e.n1 (aE w_de_int (aI (gE S 0 I.e.n0 (aI (aq S 0))))) (kB rfl rfl) (e8 rfl)) (fun _ _ _=>w_df_nil) (fun Y1 S1 F1=>have I:=F1.i I;(mM (kR I.r) (bC (aq S1 0) (zZ (aq S1 1) w_de_int)) (bC (aq S1 0) (aq S1 1)))))) (dh rfl) rfl))
theorem fS:DefOk P w K mg base 3 "are_marks" 1 bf:=mk A.f1 A.g ["entries"] Dn ["entry"] ["LETTERS", "all", "is_rising"] [0] [] [1,2] fun X S I hp=>
 (dk (yW (sv S 1 rfl rfl I.e.n2 (aI (i8 [1] [] [0] S 1 (w_di_seq (aq S 0)) (fun _ _ _=>w_df_nil) (fun Y1 S1 F1=>have I:=F1.i I;(mM (qu I.r) (aq S1 1) (Au S1 0 rfl rfl I.e.h0))))) (dh rfl) rfl) (Aa (b8 S 2 (I.c (fR A B)) (aI (aq S 0))))))
theorem Jm:DefOk P w K mg base 3 "are_rooms" 2 bH:=mk A.f2 A.g ["entries", "size"] mi ["entry"] ["all", "is_rising"] [0,1] [1] [0,1] fun X S I hp=>
 (dk (yW (sv S 0 rfl rfl I.e.n2 (aI (i8 [1,2] [1] [] S 2 (w_di_seq (aq S 0)) (fun _ _ _=>w_df_nil) (fun Y1 S1 F1=>have I:=F1.i I;(zc (xp I.r) (kR I.r) w_de_int (aq S1 2) (aq S1 1) (by with_unfolding_all rfl))))) (dh rfl) rfl) (Aa (b8 S 1 (I.c (fR A B)) (aI (aq S 0))))))
theorem kZ:DefOk P w K mg base 4 "are_steps" 2 dr:=mk A.f3 A.g ["entries", "size"] mi [] ["len", "are_rooms"] [0,1] [] [0,1] fun X S I hp=>
 (dk (yW (mM (xq I.r) (gE S 0 I.e.n0 (aI (aq S 0))) w_de_int) (Aa (b8 S 1 (I.c (Jm A B)) (aE (aq S 0) (aI (aq S 1)))))))
theorem gN:DefOk P w K mg base 5 "is_world" 3 cE:=mk A.f4 A.g ["owners", "marks", "steps"] r9 ["size", "owner", "row"] ["len", "MOST_ROOMS", "PLAYERS", "all", "are_marks", "are_steps"] [0,1,2,3] [3] [0,1,3] fun X S I hp=>
 (bj (cB S false 3 (gE S 0 I.e.n0 (aI (aq S 0)))) (bj (dS (DJ (zW (e9 (kR I.r) (aq S 3) w_de_int) (zW (e9 (xq I.r) (aq S 3) (Au S 1 rfl rfl I.e.h1)) (zW (e9 (qt I.r) (gE S 0 I.e.n0 (aI (aq S 1))) (aq S 3)) (GV (e9 (qt I.r) (gE S 0 I.e.n0 (aI (aq S 2))) (aq S 3))))))) (dk yX) eX) (bj (dS (oh (gC (sv S 3 rfl rfl I.e.n2 (aI (i8 [4] [] [2] S 4 (w_di_seq (aq S 0)) (fun _ _ _=>w_df_nil) (fun Y1 S1 F1=>have I:=F1.i I;(mM (qu I.r) (aq S1 4) (Au S1 2 rfl rfl I.e.h2))))) (dh rfl) rfl) (fun _=>rfl))) (dk yX) eX) (dk (yW (sv S 3 rfl rfl I.e.n2 (aI (i8 [5] [] [4] S 5 (w_di_seq (aq S 1)) (fun _ _ _=>w_df_nil) (fun Y2 S2 F2=>have I:=F2.i I;(b8 S2 4 (I.c (fS A B)) (aI (aq S2 5)))))) (dh rfl) rfl) (Aa (sv S 3 rfl rfl I.e.n2 (aI (i8 [3,5] [3] [5] S 5 (w_di_seq (aq S 2)) (fun _ _ _=>w_df_nil) (fun Y3 S3 F3=>have I:=F3.i I;(b8 S3 5 (I.c (kZ A B)) (aE (aq S3 5) (aI (aq S3 3))))))) (dh rfl) rfl)))))))
theorem gL:DefOkX P w K mg base 6 "check_world" 1 bD:=uQ (p:=Gl) A.f5 A.g ["world"] Dn [] ["is_world", "NoWorld"] [0] [] [0,1] fun X W S I th mk=>
 (cS (dS (oh (gC (b8 S 0 (I.c (gN A B)) (aE (bC (aq S 0) w_de_int) (aE (bC (aq S 0) w_de_int) (aI (bC (aq S 0) w_de_int))))) (fun _=>rfl))) (cS (Dk S mk 1 (I.ra (A.g.xt.rais B.1 B.2)))) eX))
theorem eI:DefOk P w K mg base 6 "check_world" 1 aL:=mk A.f5 A.g ["world"] Dn [] ["is_world"] [0] [] [0] fun X S I hp=>
 (cS (dS (oh (gC (b8 S 0 (I.c (gN A B)) (aE (bC (aq S 0) w_de_int) (aE (bC (aq S 0) w_de_int) (aI (bC (aq S 0) w_de_int))))) (fun _=>rfl))) (cS mI) eX))
theorem iD:DefOkX P w K mg base 2 "check_room" 2 cV:=uQ (p:=Gl) A.f6 A.g ["world", "room"] mi [] ["len", "NoRoom"] [0,1] [] [0,1] fun X W S I th mk=>
 (cS (dS (oh (za (xp I.r) (kR I.r) w_de_int (aq S 1) (gE S 0 I.e.n0 (aI (bC (aq S 0) w_de_int))) (by with_unfolding_all rfl))) (cS (Dk S mk 1 (I.ra (A.g.xt.rais B.1 B.2)))) eX))
theorem jR:DefOk P w K mg base 2 "check_room" 2 aV:=mk A.f6 A.g ["world", "room"] mi [] ["len"] [0,1] [] [0] fun X S I hp=>
 (cS (dS (oh (za (xp I.r) (kR I.r) w_de_int (aq S 1) (gE S 0 I.e.n0 (aI (bC (aq S 0) w_de_int))) (by with_unfolding_all rfl))) (cS mI) eX))
theorem gM:DefOkX P w K mg base 4 "check_rooms" 2 bu:=uQ (p:=Gl) A.f7 A.g ["world", "rooms"] mi [] ["len", "are_rooms", "NoRoom"] [0,1] [] [0,1,2] fun X W S I th mk=>
 (cS (dS (oh (gC (b8 S 1 (I.c (Jm A B)) (aE (aq S 1) (aI (gE S 0 I.e.n0 (aI (bC (aq S 0) w_de_int)))))) (fun _=>rfl))) (cS (Dk S mk 2 (I.ra (A.g.xt.rais B.1 B.2)))) eX))
theorem iI:DefOk P w K mg base 4 "check_rooms" 2 du:=mk A.f7 A.g ["world", "rooms"] mi [] ["len", "are_rooms"] [0,1] [] [0,1] fun X S I hp=>
 (cS (dS (oh (gC (b8 S 1 (I.c (Jm A B)) (aE (aq S 1) (aI (gE S 0 I.e.n0 (aI (bC (aq S 0) w_de_int)))))) (fun _=>rfl))) (cS mI) eX))
theorem je:DefOk P w K mg base 7 "reached" 2 aZ:=match A.f8 with | ⟨_,_,hm,F⟩=>mY F hm (zP F mi) A.g.n3 (eI A B) (jR A B) rfl rfl
theorem kY:vT P w K mg base 2:=match A.f9 with | ⟨_,_,hm,F⟩=>jQ F hm (zP F mi) A.g.n3
theorem uK:DefOk P w K mg base 3 "placed" 2 cg:=match A.f10 with | ⟨_,_,hm,F⟩=>qC F hm (zP F mi) A.g.n4 A.g.n5 (kY A B) rfl
theorem BM:DefOk P w K mg base 7 "part" 2 nk:=mk A.f11 A.g ["world", "rooms"] mi ["told"] ["check_world", "check_rooms", "placed"] [0,1,2] [] [0,1,2] fun X S I hp=>
 (bj (ki (b8 S 0 (I.c (eI A B)) (aI (aq S 0))) rfl) (bj (ki (b8 S 1 (I.c (iI A B)) (aE (aq S 0) (aI (aq S 1)))) rfl) (bj (cB S false 2 (b8 S 2 (I.c (uK A B)) (aE (aq S 0) (aI (aq S 1))))) (bj (dS (DJ (zW (oh (gC (aq S 1) (fun _=>rfl))) (GV (e9 (qu I.r) (bZ .leaf iZ) (bC (aq S 2) w_de_int))))) (cS mI) eX) (dk (aq S 2))))))
theorem uL:DefOk P w K mg base 2 "is_led" 2 dy:=mk A.f12 A.g ["is_chosen", "by_steps"] mi [] ["any", "all"] [0,1] [] [0,1] fun X S I hp=>
 (dk (wJ (gC (aq S 0) (fun _=>rfl)) (kr S 0 rfl rfl I.e.n6 (aI (aq S 1)) (dh rfl) rfl) (sv S 1 rfl rfl I.e.n2 (aI (aq S 1)) (dh rfl) rfl)))
theorem m8:DefOk P w K mg base 2 "is_lower" 2 dE:=mk A.f13 A.g ["rank", "other"] mi [] [] [0,1] [] [] fun X S I hp=>
 (dk (yW (mM (GD I.r) (aq S 0) wC) (yW (mM (GD I.r) (aq S 1) wC) (Aa (mM (kR I.r) (aq S 0) (aq S 1))))))
theorem iH:DefOk P w K mg base 3 "lower_steps" 3 bS:=mk A.f14 A.g ["world", "ranks", "room"] r9 ["there"] ["is_lower"] [0,1,2] [1,2] [] fun X S I hp=>
 (dk (i8 [1,2,3] [1,2] [0] S 3 (w_di_seq (bC (bC (aq S 0) w_de_int) (aq S 2))) (fun Y1 S1 F1=>have I:=F1.i I;Df (gC (b8 S1 0 (I.c (m8 A B)) (aE (bC (aq S1 1) (aq S1 3)) (aI (bC (aq S1 1) (aq S1 2))))) (fun _=>rfl))) (fun Y1 S1 F1=>have I:=F1.i I;(aq S1 3))))
theorem iG:DefOk P w K mg base 3 "ranked_next" 4 bR:=mk A.f15 A.g ["world", "chosen", "through", "ranks"] CP ["found", "room", "there"] ["is_led"] [0,1,2,3,4,5] [3] [0] fun X S I hp=>
 (bj (cB S true 4 (bZ .leaf iZ)) (bj (wD S 5 rfl rfl hp (w_di_seq (aq S 2)) (cS (dS (DJ (sI (e9 (Ez I.r) (bC (aq S 3) (aq S 5)) wC) (pR (gC (b8 S 0 (I.c (uL A B)) (aE (bC (aq S 1) (aq S 5)) (aI (i8 [3,6] [3] [] S 6 (w_di_seq (bC (bC (aq S 0) w_de_int) (aq S 5))) (fun _ _ _=>w_df_nil) (fun Y1 S1 F1=>have I:=F1.i I;(mM (GD I.r) (bC (aq S1 3) (aq S1 6)) wC)))))) (fun _=>rfl))))) (cS (Ab S 4 rfl rfl (aq S 5) (e8 rfl) rfl rfl rfl rfl)) eX)) (fun _=>rfl)) (dk (mK S 4 rfl rfl))))
theorem m7:DefOk P w K mg base 4 "ranks_to" 4 eY:=mk A.f16 A.g ["world", "chosen", "through", "goal"] CP ["ranks", "rank", "fresh", "room", "owner"] ["ranked_next"] [0,1,2,3,4,5,6,7] [] [0] fun X S I hp=>
 (bj (DQ (vs':=[8]) (cs':=[]) (lo':=[]) (gs':=[]) S true 4 .leaf 8 rfl rfl rfl rfl (by kernel_rfl) (by kernel_rfl) (by kernel_rfl) (w_di_seq (bC (aq S 0) w_de_int)) (fun _ _ _=>w_df_nil) (fun Y1 S1 F1=>wC) (fun _=>rfl)) (bj (cB S false 5 w_de_int) (bj (cB S false 6 (aq S 3)) (bj (G5 1000 hp (gC (aq S 6) (fun _=>rfl)) (bj (wD S 7 rfl rfl hp (w_di_seq (aq S 6)) (cS (pU S 4 rfl rfl (aq S 5) (aq S 7) rfl rfl rfl (fun _=>rfl))) (fun _=>rfl)) (bj (sL S 5 rfl rfl w_de_int) (cS (cB S false 6 (Av S 0 rfl rfl (I.c (iG A B)) (aE (aq S 0) (aE (aq S 1) (aE (aq S 2) (aI (aq S 4))))) (dh rfl) rfl)))))) (dk (mK S 4 rfl rfl))))))
theorem mZ:DefOk P w K mg base 5 "steps_to" 3 dD:=mk A.f17 A.g ["world", "through", "goal"] r9 ["owner"] ["ranks_to"] [0,1,2] [] [0] fun X S I hp=>
 (dk (b8 S 0 (I.c (m7 A B)) (aE (aq S 0) (aE (i8 [3] [] [] S 3 (w_di_seq (bC (aq S 0) w_de_int)) (fun _ _ _=>w_df_nil) (fun Y1 S1 F1=>yX)) (aE (aq S 1) (aI (aq S 2)))))))
theorem DR:DefOkX P w K mg base 7 "check_fair" 3 bc:=uQ (p:=Gl) A.f18 A.g ["world", "rooms", "marks"] r9 [] ["check_world", "are_marks", "NoMark", "check_rooms"] [0,1,2] [] [0,1,2,3] fun X W S I th mk=>
 (bj (ki (mF S th 0 (I.x (gL A B)) (aI (aq S 0))) rfl) (bj (dS (oh (gC (b8 S 1 (I.c (fS A B)) (aI (aq S 2))) (fun _=>rfl))) (cS (Dk S mk 2 (I.ra (A.g.xt.rais B.1 B.2)))) eX) (cS (ki (mF S th 3 (I.x (gM A B)) (aE (aq S 0) (aI (aq S 1)))) rfl))))
theorem qF:DefOk P w K mg base 2 "row_off" 3 m_row_off:=mk A.f19 A.g ["world", "left", "marks"] r9 ["ended", "mark", "ranks", "lost", "room", "there"] ["any"] [0,1,2,3,4,5,6] [0,1,5] [] fun X S I hp=>
 (bj (DQ (vs':=[0,1,7]) (cs':=[0,1]) (lo':=[]) (gs':=[0]) S false 3 .leaf 7 rfl rfl rfl rfl (by kernel_rfl) (by kernel_rfl) (by kernel_rfl) (w_di_seq (aq S 1)) (fun Y1 S1 F1=>have I:=F1.i I;Df (oh (gC (kr S1 0 rfl rfl I.e.n6 (aI (i8 [1,8] [1] [] S1 8 (w_di_seq (bC (bC (aq S1 0) w_de_int) (aq S1 7))) (fun _ _ _=>w_df_nil) (fun Y2 S2 F2=>have I:=F2.i I;(mM (qu I.r) (aq S2 8) (aq S2 1))))) (dh rfl) rfl) (fun _=>rfl)))) (fun Y1 S1 F1=>have I:=F1.i I;(aq S1 7)) (fun _=>rfl)) (bj (dS (gC (aq S 3) (fun _=>rfl)) (dk (km (aE (aq S 3) (aI wC)))) eX) (bj (wD S 4 rfl rfl hp (w_di_seq (aq S 2)) (bj mI (bj mI (cS mI))) (fun _=>rfl)) (dk wC))))
theorem Jq:DefOk P w K mg base 3 "rows_and_kept" 3 m_rows_and_kept:=mk A.f20 A.g ["world", "rooms", "marks"] r9 ["rows", "left", "row", "room"] ["list", "row_off"] [0,1,2,3,4,5] [5] [0,1] fun X S I hp=>
 (bj (cB S true 3 (bZ .leaf iZ)) (bj (cB S false 4 (w_cb_list S 0 rfl rfl I.e.n5 (aq S 1) (e8 rfl))) (bj (cB S false 5 (b8 S 1 (I.c (qF A B)) (aE (aq S 0) (aE (aq S 4) (aI (aq S 2)))))) (bj (G5 1000 hp (e9 (GD I.r) (aq S 5) wC) (bj mI (bj mI (cS mI)))) (dk (km (aE (mK S 3 rfl rfl) (aI (aq S 4)))))))))
theorem iB:DefOkX P w K mg base 8 "fair_rooms" 3 cb:=uQ (p:=Gl) A.f21 A.g ["world", "rooms", "marks"] r9 [] ["check_fair", "rows_and_kept"] [0,1,2] [] [0,1] fun X W S I th mk=>
 (bj (ki (mF S th 0 (I.x (DR A B)) (aE (aq S 0) (aE (aq S 1) (aI (aq S 2))))) rfl) (dk (bC (b8 S 1 (I.c (Jq A B)) (aE (aq S 0) (aE (aq S 1) (aI (aq S 2))))) w_de_int)))
theorem jf:DefOk P w K mg base 6 "path_to" 3 cD:=mk A.f22 A.g ["world", "room", "goal"] r9 ["ranks", "path"] ["len", "list", "range", "steps_to", "lower_steps"] [0,1,2,3,4] [] [0,1,2,3,4] fun X S I hp=>
 (bj (cB S false 3 (b8 S 3 (I.c (mZ A B)) (aE (aq S 0) (aE (dW S 1 2 rfl rfl I.e.n5 rfl rfl I.e.n1 (aI (gE S 0 I.e.n0 (aI (bC (aq S 0) w_de_int)))) (e8 rfl) (e8 rfl)) (aI (aq S 2)))))) (bj (cB S true 4 (bZ .leaf (aI (aq S 1)))) (bj (G5 100 hp (e9 (xq I.r) (bC (aq S 3) (Ja S 4 rfl rfl (kj w_de_int) (fun _ _=>rfl))) w_de_int) (cS (Ab S 4 rfl rfl (bC (b8 S 4 (I.c (iH A B)) (aE (aq S 0) (aE (aq S 3) (aI (Ja S 4 rfl rfl (kj w_de_int) (fun _ _=>rfl)))))) w_de_int) (e8 rfl) rfl rfl rfl rfl))) (dk (mK S 4 rfl rfl)))))
theorem gO:DefOk P w K mg base 8 "closed_rooms" 2 da:=mk A.f23 A.g ["world", "room"] mi ["there"] ["reached", "min", "len"] [0,1] [0] [0,1,2] fun X S I hp=>
 (dk (pW S 1 2 rfl rfl I.e.n7 rfl rfl I.e.n0 (i8 [0,2] [0] [0] S 2 (w_di_seq (b8 S 0 (I.c (je A B)) (aE (aq S 0) (aI (aq S 1))))) (fun _ _ _=>w_df_nil) (fun Y1 S1 F1=>have I:=F1.i I;(b8 S1 0 (I.c (je A B)) (aE (aq S1 0) (aI (aq S1 2)))))) (e8 rfl)))
theorem gg:DefOk P w K mg base 7 "ring_by_marks" 3 m_ring_by_marks:=mk A.f24 A.g ["world", "marks", "room"] r9 ["ring", "mark"] ["path_to"] [0,1,2,3,4] [] [0] fun X S I hp=>
 (bj (cB S true 3 (bZ .leaf (aI (aq S 2)))) (bj (wD S 4 rfl rfl hp (w_di_seq (aq S 1)) (cS mI) (fun _=>rfl)) (dk (ik (aq S 3) (wB (b8 S 0 (I.c (jf A B)) (aE (aq S 0) (aE (bC (bC (bC (aq S 0) w_de_int) (Ja S 3 rfl rfl (kj w_de_int) (fun _ _=>rfl))) w_de_int) (aI (bZ .leaf (aI (aq S 2))))))) (kj w_de_int))))))
theorem kW:DefOkX P w K mg base 9 "fair_way" 4 cA:=uQ (p:=Gl) A.f25 A.g ["world", "rooms", "marks", "room"] CP ["kept", "inner", "start", "path", "ring", "number"] ["check_fair", "check_room", "rows_and_kept", "NoWay", "part", "closed_rooms", "path_to", "ring_by_marks"] [0,1,2,3,4,5,6,7,8] [4] [0,1,2,3,4,5,6,7] fun X W S I th mk=>
 (bj (ki (mF S th 0 (I.x (DR A B)) (aE (aq S 0) (aE (aq S 1) (aI (aq S 2))))) rfl) (bj (ki (mF S th 1 (I.x (iD A B)) (aE (aq S 0) (aI (aq S 3)))) rfl) (bj (cB S false 4 (bC (b8 S 2 (I.c (Jq A B)) (aE (aq S 0) (aE (aq S 1) (aI (aq S 2))))) w_de_int)) (bj (dS (e9 (oS I.r) (aq S 3) (aq S 4)) (cS (Dk S mk 3 (I.ra (A.g.xt.rais B.1 B.2)))) eX) (bj (cB S false 5 (b8 S 4 (I.c (BM A B)) (aE (aq S 0) (aI (aq S 4))))) (bj (cB S false 6 (sM S 4 rfl rfl (aq S 3) rfl (e8 rfl) rfl)) (bj (cB S false 7 (b8 S 6 (I.c (jf A B)) (aE (aq S 5) (aE (aq S 6) (aI (b8 S 5 (I.c (gO A B)) (aE (aq S 5) (aI (aq S 6))))))))) (bj (cB S false 8 (b8 S 7 (I.c (gg A B)) (aE (aq S 5) (aE (aq S 2) (aI (bC (aq S 7) (kj w_de_int))))))) (dk (km (aE (i8 [4,9] [4] [] S 9 (w_di_seq (wB (aq S 7) (kj w_de_int))) (fun _ _ _=>w_df_nil) (fun Y1 S1 F1=>(bC (aq S1 4) (aq S1 9)))) (aI (i8 [4,9] [4] [] S 9 (w_di_seq (aq S 8)) (fun _ _ _=>w_df_nil) (fun Y2 S2 F2=>(bC (aq S2 4) (aq S2 9))))))))))))))))
theorem qH:DefOk P w K mg base 2 "goes_on" 2 bw:=mk A.f26 A.g ["world", "way"] mi ["rooms", "k", "room"] ["len", "all", "range"] [0,1,2] [0,2] [0,1,2] fun X S I hp=>
 (bj (cB S false 2 (ik (ik (bC (aq S 1) w_de_int) (bC (aq S 1) w_de_int)) (wB (bC (aq S 1) w_de_int) w_de_int))) (bj (dS (DJ (zW (oh (gC (bC (aq S 1) w_de_int) (fun _=>rfl))) (GV (oh (gC (sv S 1 rfl rfl I.e.n2 (aI (i8 [0,4] [0] [0] S 4 (w_di_seq (aq S 2)) (fun _ _ _=>w_df_nil) (fun Y1 S1 F1=>have I:=F1.i I;(zc (xp I.r) (kR I.r) w_de_int (aq S1 4) (gE S1 0 I.e.n0 (aI (bC (aq S1 0) w_de_int))) (by with_unfolding_all rfl))))) (dh rfl) rfl) (fun _=>rfl)))))) (dk yX) eX) (dk (sv S 1 rfl rfl I.e.n2 (aI (i8 [0,2,3] [0,2] [] S 3 (zb S 2 rfl rfl I.e.n1 (aE w_de_int (aI (gE S 0 I.e.n0 (aI (aq S 2))))) (kB rfl rfl) (e8 rfl)) (fun _ _ _=>w_df_nil) (fun Y2 S2 F2=>have I:=F2.i I;(mM (qu I.r) (bC (aq S2 2) (aq S2 3)) (bC (bC (aq S2 0) w_de_int) (bC (aq S2 2) (zZ (aq S2 3) w_de_int))))))) (dh rfl) rfl))))
theorem jP:DefOkX P w K mg base 3 "check_way" 2 dj:=uQ (p:=Gl) A.f27 A.g ["world", "way"] mi [] ["goes_on", "NoWay"] [0,1] [] [0,1] fun X W S I th mk=>
 (cS (dS (oh (gC (b8 S 0 (I.c (qH A B)) (aE (aq S 0) (aI (aq S 1)))) (fun _=>rfl))) (cS (Dk S mk 1 (I.ra (A.g.xt.rais B.1 B.2)))) eX))
theorem iC:DefOkX P w K mg base 8 "fair_paper" 3 cf:=uQ (p:=Gl) A.f28 A.g ["world", "rooms", "marks"] r9 ["both", "mark"] ["check_fair", "rows_and_kept"] [0,1,2,3] [0,3] [0,1] fun X W S I th mk=>
 (bj (ki (mF S th 0 (I.x (DR A B)) (aE (aq S 0) (aE (aq S 1) (aI (aq S 2))))) rfl) (bj (cB S false 3 (b8 S 1 (I.c (Jq A B)) (aE (aq S 0) (aE (aq S 1) (aI (aq S 2)))))) (dk (km (aE (bC (aq S 3) w_de_int) (aE (bC (aq S 3) w_de_int) (aI (i8 [0,3,4] [0,3] [] S 4 (w_di_seq (aq S 2)) (fun _ _ _=>w_df_nil) (fun Y1 S1 F1=>oj)))))))))
theorem qG:DefOk P w K mg base 2 "left_by" 4 fG:=mk A.f29 A.g ["world", "rooms", "marks", "rows"] CP ["left", "row", "room"] ["list"] [0,1,2,3,4,5] [5] [0] fun X S I hp=>
 (bj (cB S false 4 (w_cb_list S 0 rfl rfl I.e.n5 (aq S 1) (e8 rfl))) (bj (wD S 5 rfl rfl hp (w_di_seq (aq S 3)) (bj mI (cS mI)) (fun _=>rfl)) (dk (aq S 4))))
theorem fF:DefOkX P w K mg base 8 "is_fair_paper" 4 bI:=uQ (p:=Gl) A.f30 A.g ["world", "rooms", "marks", "paper"] CP ["kept", "room", "mark", "ranks"] ["check_fair", "left_by", "len"] [0,1,2,3,4] [0,4] [0,1,2] fun X W S I th mk=>
 (bj (ki (mF S th 0 (I.x (DR A B)) (aE (aq S 0) (aE (aq S 1) (aI (aq S 2))))) rfl) (bj (cB S false 4 (b8 S 1 (I.c (qG A B)) (aE (aq S 0) (aE (aq S 1) (aE (aq S 2) (aI (bC (aq S 3) w_de_int))))))) (bj (dS (DJ (zW (e9 (Ez I.r) (aq S 4) wC) (zW (e9 (qt I.r) (bC (aq S 3) w_de_int) (aq S 4)) (GV (e9 (qt I.r) (gE S 2 I.e.n0 (aI (bC (aq S 3) w_de_int))) (gE S 2 I.e.n0 (aI (aq S 2)))))))) (dk yX) eX) (bj mI (cS mI)))))
theorem gK:DefOkX P w K mg base 8 "way_is_fair" 4 bK:=uQ (p:=Gl) A.f31 A.g ["world", "rooms", "marks", "way"] CP ["mark", "room"] ["check_fair", "check_way", "all"] [0,1,2,3] [0,1,3] [0,1,2] fun X W S I th mk=>
 (bj (ki (mF S th 0 (I.x (DR A B)) (aE (aq S 0) (aE (aq S 1) (aI (aq S 2))))) rfl) (bj (ki (mF S th 1 (I.x (jP A B)) (aE (aq S 0) (aI (aq S 3)))) rfl) (bj (dS (oh (gC (sv S 2 rfl rfl I.e.n2 (aI (i8 [1,5] [1] [] S 5 (w_di_seq (ik (bC (aq S 3) w_de_int) (bC (aq S 3) w_de_int))) (fun _ _ _=>w_df_nil) (fun Y1 S1 F1=>have I:=F1.i I;(mM (qu I.r) (aq S1 5) (aq S1 1))))) (dh rfl) rfl) (fun _=>rfl))) (dk yX) eX) (dk (sv S 2 rfl rfl I.e.n2 (aI (i8 [0,3,4] [0,3,4] [] S 4 (w_di_seq (aq S 2)) (fun _ _ _=>w_df_nil) (fun Y2 S2 F2=>oj))) (dh rfl) rfl)))))
theorem DT:DefOk P w K mg base 2 "_law_cell_at" 2 aM:=mk A.f32 A.g ["script", "k"] mi [] ["len"] [0,1] [] [0] fun X S I hp=>
 (bj (dS (e9 (kR I.r) (aq S 1) (gE S 0 I.e.n0 (aI (aq S 0)))) (dk (bC (aq S 0) (aq S 1))) eX) (dk w_de_int))
theorem iX:DefOk P w K mg base 2 "_law_draw" 3 ai:=mk A.f33 A.g ["cell", "k", "bound"] r9 ["stir", "left", "j"] ["range"] [0,1,2,3,4,5] [] [0] fun X S I hp=>
 (bj (dS (e9 (Kc I.r) (aq S 0) (Jg w_de_int w_de_int)) (bj (cB S false 4 (aq S 0)) (bj (wD S 5 rfl rfl hp (fM S 0 rfl rfl I.e.n1 (aI (aq S 1)) (e8 rfl)) (cS (cB S false 4 (kn (aq S 4) (aq S 2)))) (fun _=>rfl)) (dk (pP (aq S 4) (aq S 2))))) eX) (bj (cB S false 3 (pP (DP (iW (iW (pP (aq S 0) w_de_int) (DP w_de_int (aq S 1))) w_de_int) w_de_int) w_de_int)) (bj (cB S false 3 (pP (iW (iW (DP (aq S 3) (aq S 3)) (DP w_de_int (aq S 1))) w_de_int) w_de_int)) (dk (pP (kn (pP (DP (aq S 3) w_de_int) w_de_int) w_de_int) (aq S 2))))))
theorem jS:DefOk P w K mg base 3 "_law_world" 3 m__law_world:=mk A.f34 A.g ["script", "at", "most"] r9 ["many", "owners", "marks", "steps", "room", "cell", "row", "there", "mark"] ["_law_cell_at", "range", "_law_draw", "int"] [0,1,2,3,4,5,6,7,8,9] [3,8] [0,1,2] fun X S I hp=>
 (bj (cB S false 3 (iW w_de_int (pP (b8 S 0 (I.c (DT A B)) (aE (aq S 0) (aI (aq S 1)))) (aq S 2)))) (bj (cB S true 4 (bZ .leaf iZ)) (bj (cB S true 5 (bZ .leaf iZ)) (bj (cB S true 6 (bZ .leaf iZ)) (bj (wD S 7 rfl rfl hp (fM S 1 rfl rfl I.e.n1 (aI (aq S 3)) (e8 rfl)) (bj (cB S false 8 (b8 S 0 (I.c (DT A B)) (aE (aq S 0) (aI (iW (iW (aq S 1) w_de_int) (aq S 7)))))) (bj (Ab S 4 rfl rfl (b8 S 2 (I.c (iX A B)) (aE (aq S 8) (aE w_de_int (aI w_de_int)))) (e8 rfl) rfl rfl rfl rfl) (bj (Ab S 5 rfl rfl (i8 [8,11] [8] [2] S 11 (pS (by kernel_rfl)) (fun Y1 S1 F1=>have I:=F1.i I;Df (e9 (d9 I.r) (b8 S1 2 (I.c (iX A B)) (aE (aq S1 8) (aE (iW w_de_int (pV (aq S1 11) (e8 rfl) rfl)) (aI w_de_int)))) w_de_int)) (fun Y1 S1 F1=>have I:=F1.i I;(aq S1 11))) (e8 rfl) rfl rfl rfl rfl) (bj (DQ (vs':=[3,8,10]) (cs':=[3,8]) (lo':=[]) (gs':=[2,3]) S false 9 .leaf 10 rfl rfl rfl rfl (by kernel_rfl) (by kernel_rfl) (by kernel_rfl) (fM S 1 rfl rfl I.e.n1 (aI (aq S 3)) (e8 rfl)) (fun Y2 S2 F2=>have I:=F2.i I;Df (e9 (d9 I.r) (b8 S2 2 (I.c (iX A B)) (aE (aq S2 8) (aE (iW w_de_int (aq S2 10)) (aI (iW w_de_int (Jf S2 3 rfl rfl I.e.n8 (aI (mM (xq I.r) (aq S2 3) w_de_int)) (dh rfl) rfl)))))) w_de_int)) (fun Y2 S2 F2=>have I:=F2.i I;(aq S2 10)) (fun _=>rfl)) (bj (dS (e9 (d9 I.r) (aq S 9) (bZ .leaf iZ)) (cS (cB S false 9 (bZ .leaf (aI (b8 S 2 (I.c (iX A B)) (aE (aq S 8) (aE (iW w_de_int (aq S 3)) (aI (aq S 3))))))))) eX) (cS (Ab S 6 rfl rfl (aq S 9) (e8 rfl) rfl rfl rfl rfl))))))) (fun _=>rfl)) (dk (km (aE (mK S 4 rfl rfl) (aE (mK S 5 rfl rfl) (aI (mK S 6 rfl rfl)))))))))))
theorem m9:DefOk P w K mg base 3 "_law_way" 4 dF:=mk A.f35 A.g ["world", "cell", "room", "size"] CP ["rooms", "k", "places", "at", "steps"] ["range", "_law_draw", "len"] [0,1,2,3,4,5,6,7,8] [4] [0,1,2] fun X S I hp=>
 (bj (cB S true 4 (bZ .leaf (aI (aq S 2)))) (bj (wD S 5 rfl rfl hp (fM S 0 rfl rfl I.e.n1 (aI (aq S 3)) (e8 rfl)) (bj (cB S false 8 (bC (bC (aq S 0) w_de_int) (bC (aq S 4) (kj w_de_int)))) (cS (Ab S 4 rfl rfl (bC (aq S 8) (pP (b8 S 1 (I.c (iX A B)) (aE (aq S 1) (aE (aq S 5) (aI w_de_int)))) (gE S 2 I.e.n0 (aI (aq S 8))))) (e8 rfl) rfl rfl rfl rfl))) (fun _=>rfl)) (bj (G5 100 hp (e9 (oS I.r) (bC (aq S 4) (kj w_de_int)) (wB (aq S 4) (kj w_de_int))) (bj (cB S false 8 (bC (bC (aq S 0) w_de_int) (bC (aq S 4) (kj w_de_int)))) (cS (Ab S 4 rfl rfl (bC (aq S 8) (pP (b8 S 1 (I.c (iX A B)) (aE (aq S 1) (aE (gE S 2 I.e.n0 (aI (aq S 4))) (aI w_de_int)))) (gE S 2 I.e.n0 (aI (aq S 8))))) (e8 rfl) rfl rfl rfl rfl)))) (bj (DQ (vs':=[4,5]) (cs':=[4]) (lo':=[]) (gs':=[]) S false 6 .leaf 5 rfl rfl rfl rfl (by kernel_rfl) (by kernel_rfl) (by kernel_rfl) (fM S 0 rfl rfl I.e.n1 (aI (zZ (gE S 2 I.e.n0 (aI (aq S 4))) w_de_int)) (e8 rfl)) (fun Y1 S1 F1=>have I:=F1.i I;Df (e9 (d9 I.r) (bC (aq S1 4) (aq S1 5)) (bC (aq S1 4) (kj w_de_int)))) (fun Y1 S1 F1=>have I:=F1.i I;(aq S1 5)) (fun _=>rfl)) (bj (cB S false 7 (bC (aq S 6) (pP (b8 S 1 (I.c (iX A B)) (aE (aq S 1) (aE w_de_int (aI w_de_int)))) (gE S 2 I.e.n0 (aI (aq S 6)))))) (dk (km (aE (wB (aq S 4) (aq S 7)) (aI (mL (aq S 4) (aq S 7)))))))))))
theorem gh:DefOk P w K mg base 3 "_law_no_world" 2 bV:=mk A.f36 A.g ["world", "cell"] mi ["at", "far", "owners", "marks", "steps", "row", "odd"] ["_law_draw", "len"] [0,1,2,3,4,5,6,7,8] [] [0,1] fun X S I hp=>
 (bj (pT S 4 5 6 rfl rfl rfl rfl rfl rfl (aq S 0) rfl rfl) (bj (cB S false 2 (pP (b8 S 0 (I.c (iX A B)) (aE (aq S 1) (aE w_de_int (aI w_de_int)))) (gE S 1 I.e.n0 (aI (aq S 4))))) (bj (cB S false 3 (iW w_de_int (b8 S 0 (I.c (iX A B)) (aE (aq S 1) (aE w_de_int (aI (Jg w_de_int w_de_int))))))) (bj (dS (e9 (d9 I.r) (b8 S 0 (I.c (iX A B)) (aE (aq S 1) (aE w_de_int (aI w_de_int)))) w_de_int) (dk (km (aE (bZ .leaf iZ) (aE (bZ .leaf iZ) (aI (bZ .leaf iZ)))))) eX) (bj (dS (e9 (d9 I.r) (b8 S 0 (I.c (iX A B)) (aE (aq S 1) (aE w_de_int (aI w_de_int)))) w_de_int) (bj (cB S false 7 (ik (bC (aq S 6) (aq S 2)) (bZ .leaf (aI (iW (zZ (gE S 1 I.e.n0 (aI (aq S 4))) w_de_int) (aq S 3)))))) (dk (km (aE (aq S 4) (aE (aq S 5) (aI (ik (ik (wB (aq S 6) (aq S 2)) (bZ .leaf (aI (aq S 7)))) (DU (aq S 6) (iW (aq S 2) w_de_int))))))))) eX) (bj (dS (e9 (d9 I.r) (b8 S 0 (I.c (iX A B)) (aE (aq S 1) (aE w_de_int (aI w_de_int)))) w_de_int) (dk (km (aE (aq S 4) (aE (aq S 5) (aI (ik (ik (wB (aq S 6) (aq S 2)) (bZ .leaf (aI (bZ .leaf iZ)))) (DU (aq S 6) (iW (aq S 2) w_de_int)))))))) eX) (bj (dS (e9 (d9 I.r) (b8 S 0 (I.c (iX A B)) (aE (aq S 1) (aE w_de_int (aI w_de_int)))) w_de_int) (dk (km (aE (ik (ik (wB (aq S 4) (aq S 2)) (bZ .leaf (aI (bC (bZ .leaf (aE (kj w_de_int) (aI w_de_int))) (pP (aq S 3) w_de_int))))) (DU (aq S 4) (iW (aq S 2) w_de_int))) (aE (aq S 5) (aI (aq S 6)))))) eX) (bj (dS (e9 (d9 I.r) (b8 S 0 (I.c (iX A B)) (aE (aq S 1) (aE w_de_int (aI w_de_int)))) w_de_int) (bj (cB S false 8 (bC (bZ .leaf (aE (bZ .leaf (aE dC (aI dC))) (aE (bZ .leaf (aE dC (aI dC))) (aE (bZ .leaf (aI dC)) (aE (bZ .leaf (aI dC)) (aI (bZ .leaf (aI dC)))))))) (pP (aq S 3) w_de_int))) (dk (km (aE (aq S 4) (aE (ik (ik (wB (aq S 5) (aq S 2)) (bZ .leaf (aI (aq S 8)))) (DU (aq S 5) (iW (aq S 2) w_de_int))) (aI (aq S 6))))))) eX) (dk (km (aE (aq S 4) (aE (aq S 5) (aI (ik (bZ .leaf (aI (bZ .leaf (aI (kj (aq S 3)))))) (DU (aq S 6) w_de_int)))))))))))))))
theorem iE:DefOkX P w K mg base 10 "_law_asked" 6 cW:=uQ (p:=Gl) A.f37 A.g ["call", "world", "rooms", "marks", "room", "way"] LL [] ["fair_rooms", "fair_paper", "is_fair_paper", "way_is_fair", "fair_way"] [0,1,2,3,4,5] [] [0,1,2,3,4] fun X W S I th mk=>
 (cS (dS (e9 (d9 I.r) (aq S 0) w_de_int) (cS (ki (mF S th 0 (I.x (iB A B)) (aE (aq S 1) (aE (aq S 2) (aI (aq S 3))))) rfl)) (cS (dS (e9 (d9 I.r) (aq S 0) w_de_int) (cS (ki (mF S th 1 (I.x (iC A B)) (aE (aq S 1) (aE (aq S 2) (aI (aq S 3))))) rfl)) (cS (dS (e9 (d9 I.r) (aq S 0) w_de_int) (cS (ki (mF S th 2 (I.x (fF A B)) (aE (aq S 1) (aE (aq S 2) (aE (aq S 3) (aI (km (aE (bZ .leaf iZ) (aE (bZ .leaf iZ) (aI (bZ .leaf iZ)))))))))) rfl)) (cS (dS (e9 (d9 I.r) (aq S 0) w_de_int) (cS (ki (mF S th 3 (I.x (gK A B)) (aE (aq S 1) (aE (aq S 2) (aE (aq S 3) (aI (aq S 5)))))) rfl)) (cS (ki (mF S th 4 (I.x (kW A B)) (aE (aq S 1) (aE (aq S 2) (aE (aq S 3) (aI (aq S 4)))))) rfl))))))))))
theorem nc:DefOk P w K mg base 11 "_law_met" 6 dG:=Me (p:=Gl) A.f38 A.g ["call", "world", "rooms", "marks", "room", "way"] LL ["told", "e"] ["_law_asked", "HallError", "_law_which"] [0,1,2,3,4,5,6,7] [] [0,1,2] fun X S I st hp=>
 (bj (cB S false 6 dC) (bj (D2 S st 7 1 (I.xt A.g.xt) (fun pins W=>have th:=JA (X:=X) (pins:=pins) (W:=W) ;have S:=S.try;have I:=I.try;(cS (ki (mF S th 0 (I.x (iE A B)) (aE (aq S 0) (aE (aq S 1) (aE (aq S 2) (aE (aq S 3) (aE (aq S 4) (aI (aq S 5)))))))) rfl))) fun pins a C oe c hc hC hcl hd=>Cc S.hand rfl rfl (Cq S st.1 st.2 (I.eE (iF A B)) I.rm rfl hc hC hcl hd rfl rfl 2 rfl rfl)) (dk (aq S 6))))
end
section
variable {P:Program} {w:World} {K:Fg} {mg:Str->Option Value} (A:Al K mg)
include A
theorem o_law {fa:Addr} (hfa:mg "law"=some (.ref fa)):∃fd:FuncData,(∀(s:Shared) (v:Value),BindsTo s fd ⟨[v],[]⟩ [("script",v)])/\∀base:Heap,K.In base->base.Ns mainGlobals mg->dg P w K mg base ic 12 fa fd ["script"] (qc K 1 uS):=Kk (p:=Gl) A.f39 A.g "script" Dn hfa ["world", "many", "cell", "bad", "far", "rooms", "marks", "room", "way", "call", "some", "due", "k"] ["_law_world", "len", "_law_cell_at", "range", "_law_draw", "list", "_law_way", "_law_no_world", "int", "_law_met"] [0,1,2,3,4,5,6,7,8,9,10,11,12] [3,4] [0,1,2,3,4,5,6,7,8,9] fun base B X S I st hp=>
 (bj (cB S false 1 (b8 S 0 (I.c (jS A B)) (aE (aq S 0) (aE w_de_int (aI w_de_int))))) (bj (cB S false 2 (gE S 1 I.e.n0 (aI (bC (aq S 1) w_de_int)))) (bj (cB S false 3 (b8 S 2 (I.c (DT A B)) (aE (aq S 0) (aI w_de_int)))) (bj (ko S false 4 rfl rfl (kA (S.cel 4 _ rfl rfl)) (i8 [3,13] [3] [4] S 13 (fM S 3 rfl rfl I.e.n1 (aI w_de_int) (e8 rfl)) (fun _ _ _=>w_df_nil) (fun Y1 S1 F1=>have I:=F1.i I;(mM (d9 I.r) (b8 S1 4 (I.c (iX A B)) (aE (aq S1 3) (aE (aq S1 13) (aI w_de_int)))) w_de_int)))) (bj (cB S false 5 (b8 S 4 (I.c (iX A B)) (aE (aq S 3) (aE w_de_int (aI (Jg w_de_int w_de_int)))))) (bj (cB S false 6 (dW S 5 3 rfl rfl I.e.n5 rfl rfl I.e.n1 (aI (aq S 2)) (e8 rfl) (e8 rfl))) (bj (cB S false 7 (bZ .leaf iZ)) (bj (cB S false 8 w_de_int) (bj (cB S false 9 (b8 S 6 (I.c (m9 A B)) (aE (aq S 1) (aE (b8 S 2 (I.c (DT A B)) (aE (aq S 0) (aI w_de_int))) (aE w_de_int (aI w_de_int)))))) (bj (dS (gC (bC (aq S 4) w_de_int) (fun _=>rfl)) (bj (cB S false 11 (bZ .leaf (aE (bZ .leaf (aE dC (aI dC))) (aE (bZ .leaf (aE dC (aI dC))) (aE (bZ .leaf (aI dC)) (aE (bZ .leaf (aI dC)) (aE (bZ .leaf (aI dC)) (aI (bZ .leaf (aE dC (aE dC (aE dC (aE dC (aE dC (aE dC (aI dC)))))))))))))))) (cS (cB S false 7 (bC (aq S 11) (b8 S 4 (I.c (iX A B)) (aE (aq S 3) (aE w_de_int (aI w_de_int)))))))) eX) (bj (dS (gC (bC (aq S 4) w_de_int) (fun _=>rfl)) (cS (cB S false 6 (bC (bZ .leaf (aE (bZ .leaf (aI (iW (aq S 2) (aq S 5)))) (aE (bZ .leaf (aI (zZ (kj w_de_int) (aq S 5)))) (aE (bZ .leaf (aE w_de_int (aI w_de_int))) (aE (ik (aq S 6) (bZ .leaf (aI (aq S 2)))) (aE (ik (bZ .leaf (aI (kj w_de_int))) (aq S 6)) (aI (ik (bZ .leaf (aI w_de_int)) (aq S 6))))))))) (b8 S 4 (I.c (iX A B)) (aE (aq S 3) (aE w_de_int (aI w_de_int))))))) eX) (bj (dS (gC (bC (aq S 4) w_de_int) (fun _=>rfl)) (cS (cB S false 8 (bC (bZ .leaf (aE (iW (aq S 2) (aq S 5)) (aI (zZ (kj w_de_int) (aq S 5))))) (b8 S 4 (I.c (iX A B)) (aE (aq S 3) (aE w_de_int (aI w_de_int))))))) eX) (bj (dS (gC (bC (aq S 4) w_de_int) (fun _=>rfl)) (cS (cB S false 9 (bC (bZ .leaf (aE (km (aE (bZ .leaf iZ) (aI (bZ .leaf iZ)))) (aE (km (aE (bZ .leaf (aI (iW (aq S 2) (aq S 5)))) (aI (bC (aq S 9) w_de_int)))) (aE (km (aE (ik (bC (aq S 9) w_de_int) (bC (aq S 9) w_de_int)) (aI (bZ .leaf iZ)))) (aI (km (aE (bZ .leaf iZ) (aI (bZ .leaf (aI (zZ (kj w_de_int) (aq S 5)))))))))))) (b8 S 4 (I.c (iX A B)) (aE (aq S 3) (aE w_de_int (aI w_de_int))))))) eX) (bj (dS (gC (bC (aq S 4) w_de_int) (fun _=>rfl)) (cS (cB S false 1 (b8 S 7 (I.c (gh A B)) (aE (aq S 1) (aI (b8 S 2 (I.c (DT A B)) (aE (aq S 0) (aI w_de_int)))))))) eX) (bj (wD S 10 rfl rfl hp (fM S 3 rfl rfl I.e.n1 (aI w_de_int) (e8 rfl)) (bj (DQ (vs':=[4,13]) (cs':=[4]) (lo':=[]) (gs':=[]) S false 12 .leaf 13 rfl rfl rfl rfl (by kernel_rfl) (by kernel_rfl) (by kernel_rfl) (fM S 3 rfl rfl I.e.n1 (aI w_de_int) (e8 rfl)) (fun Y2 S2 F2=>Df (gC (bC (aq S2 4) (aq S2 13)) (fun _=>rfl))) (fun Y2 S2 F2=>(bC (bZ .leaf (aE dC (aE dC (aI dC)))) (aq S2 13))) (fun _=>rfl)) (bj (cB S false 12 (ik (ik (ik (aq S 12) (kq (bZ .leaf (aI dC)) (Jf S 8 rfl rfl I.e.n8 (aI (yW (mM (d9 I.r) (aq S 10) w_de_int) (Aa (bC (aq S 4) w_de_int)))) (dh rfl) rfl))) (kq (bZ .leaf (aI dC)) (Jf S 8 rfl rfl I.e.n8 (aI (yW (mM (d9 I.r) (aq S 10) w_de_int) (Aa (bC (aq S 4) w_de_int)))) (dh rfl) rfl))) (bZ .leaf (aI dC)))) (cS (dS (e9 (qt I.r) (b8 S 9 (I.c (nc A B)) (aE (aq S 10) (aE (aq S 1) (aE (aq S 6) (aE (aq S 7) (aE (aq S 8) (aI (aq S 9)))))))) (bC (aq S 12) w_de_int)) (dk yX) eX)))) (fun _=>rfl)) (dk yX))))))))))))))))
end
end KQ.M.N
open PySem PySem.W PyProof.Rows
def PySem.W.Fast.tw17140469936676530913:=0
def PySem.W.Fast.tw10161831867335964162:=0
def PySem.W.Fast.tw18262215092400721187:=0
def PySem.W.Fast.tw3022233568302872131:=0
def PySem.W.Fast.tw10597698779621608742:=0
def PySem.W.Fast.tw11578289560153083146:=0
def PySem.W.Fast.tw14372625518981505389:=0
def PySem.W.Fast.tw1205822253198415341:=0
def PySem.W.Fast.tw2566483251368749613:=0
def PySem.W.Fast.tw16262134992992796878:=0
def PySem.W.Fast.tw16392707802105771055:=0
def PySem.W.Fast.tw14385552615157359824:=0
def PySem.W.Fast.tw10318005977536761713:=0
def PySem.W.Fast.tw386864825257023187:=0
def PySem.W.Fast.tw6091990686675475636:=0
def PySem.W.Fast.tw5287680808638963765:=0
def PySem.W.Fast.tw14631287052973246645:=0
def PySem.W.Fast.tw5114217379061553786:=0
def PySem.W.Fast.tw7961654563862234207:=0
def PySem.W.Fast.tw16363198665005803519:=0
set_option maxRecDepth 100000 in
set_option maxHeartbeats 0 in
theorem PySem.Challenge.cw_foreseehall_k58_fair_calls_refused_holds : PySem.Challenge.rw_foreseehall_k58_fair_calls_refused.Holds := by
 w_on;o_law;k_head;(case hw=>w_witness2)
 k_fill
 refine T.walkG (j:=12) (l:=PySem.Challenge.rw_foreseehall_k58_fair_calls_refused) KQ.M.N.law_true ⟨rfl,by decide,by decide,rfl⟩ rfl rfl (fun w h Y=>PySem.W.kIn_of Y) ?F
 case F=>
  intro w mg fa h KX G hmg;refine' KQ.M.N.o_law (.mk (.mk (T.gn KX G ?z0) (T.gn KX G ?z1) (T.gn KX G ?z2) (T.gn KX G ?z3) (T.gn KX G ?z4) (T.gn KX G ?z5) (T.gn KX G ?z6) (T.gn KX G ?z7) (T.gn KX G ?z8) (T.gn KX G ?z9) (T.gn KX G ?z10) (T.gt KX G ?e0 ?q0 ?v0) (T.gi KX G ?e1) (T.gt KX G ?e2 ?q2 ?v2) (T.gx KX G ?xt)) (T.ft KX G ?a0 ?l0 ?c0 ?k0) (T.ft KX G ?a1 ?l1 ?c1 ?k1) (T.ft KX G ?a2 ?l2 ?c2 ?k2) (T.ft KX G ?a3 ?l3 ?c3 ?k3) (T.ft KX G ?a4 ?l4 ?c4 ?k4) (T.ft KX G ?a5 ?l5 ?c5 ?k5) (T.ft KX G ?a6 ?l6 ?c6 ?k6) (T.ft KX G ?a7 ?l7 ?c7 ?k7) (T.ft KX G ?a8 ?l8 ?c8 ?k8) (T.ft KX G ?a9 ?l9 ?c9 ?k9) (T.ft KX G ?a10 ?l10 ?c10 ?k10) (T.ft KX G ?a11 ?l11 ?c11 ?k11) (T.ft KX G ?a12 ?l12 ?c12 ?k12) (T.ft KX G ?a13 ?l13 ?c13 ?k13) (T.ft KX G ?a14 ?l14 ?c14 ?k14) (T.ft KX G ?a15 ?l15 ?c15 ?k15) (T.ft KX G ?a16 ?l16 ?c16 ?k16) (T.ft KX G ?a17 ?l17 ?c17 ?k17) (T.ft KX G ?a18 ?l18 ?c18 ?k18) (T.ft KX G ?a19 ?l19 ?c19 ?k19) (T.ft KX G ?a20 ?l20 ?c20 ?k20) (T.ft KX G ?a21 ?l21 ?c21 ?k21) (T.ft KX G ?a22 ?l22 ?c22 ?k22) (T.ft KX G ?a23 ?l23 ?c23 ?k23) (T.ft KX G ?a24 ?l24 ?c24 ?k24) (T.ft KX G ?a25 ?l25 ?c25 ?k25) (T.ft KX G ?a26 ?l26 ?c26 ?k26) (T.ft KX G ?a27 ?l27 ?c27 ?k27) (T.ft KX G ?a28 ?l28 ?c28 ?k28) (T.ft KX G ?a29 ?l29 ?c29 ?k29) (T.ft KX G ?a30 ?l30 ?c30 ?k30) (T.ft KX G ?a31 ?l31 ?c31 ?k31) (T.ft KX G ?a32 ?l32 ?c32 ?k32) (T.ft KX G ?a33 ?l33 ?c33 ?k33) (T.ft KX G ?a34 ?l34 ?c34 ?k34) (T.ft KX G ?a35 ?l35 ?c35 ?k35) (T.ft KX G ?a36 ?l36 ?c36 ?k36) (T.ft KX G ?a37 ?l37 ?c37 ?k37) (T.ft KX G ?a38 ?l38 ?c38 ?k38) (T.ft KX G ?a39 ?l39 ?c39 ?k39) (T.ft KX G ?a40 ?l40 ?c40 ?k40)) hmg
  case a0|l0|c0|k0|a1|l1|c1|k1|a2|l2|c2|k2|a3|l3|c3|k3|a4|l4|c4|k4|a5|l5|c5|k5|a6|l6|c6|k6|a7|l7|c7|k7|a8|l8|c8|k8|a9|l9|c9|k9|a10|l10|c10|k10|a11|l11|c11|k11|a12|l12|c12|k12|a13|l13|c13|k13|a14|l14|c14|k14|a15|l15|c15|k15|a16|l16|c16|k16|a17|l17|c17|k17|a18|l18|c18|k18|a19|l19|c19|k19|a20|l20|c20|k20|a21|l21|c21|k21|a22|l22|c22|k22|a23|l23|c23|k23|a24|l24|c24|k24|a25|l25|c25|k25|a26|l26|c26|k26|a27|l27|c27|k27|a28|l28|c28|k28|a29|l29|c29|k29|a30|l30|c30|k30|a31|l31|c31|k31|a32|l32|c32|k32|a33|l33|c33|k33|a34|l34|c34|k34|a35|l35|c35|k35|a36|l36|c36|k36|a37|l37|c37|k37|a38|l38|c38|k38|a39|l39|c39|k39|a40|l40|c40|k40|z0|z1|z2|z3|z4|z5|z6|z7|z8|z9|z10|e0|q0=>k_is
  case v0=>kernel_rfl
  case e1|e2|q2=>k_is
  case v2|xt=>kernel_rfl
