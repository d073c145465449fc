import PyProof.Rows.All
import Wide.All
import OpenK.AllK
import Wide.FinOn
import PyProof.EqAt
import PyProof.EqKinds
import PyProof.TupleCall
import PyProof.StrBlockH
import PyProof.StrWalks
import PyProof.StrCalls
import PyProof.SetRoads
import PyProof.DictRoadsH
import Lean
import PySem.Challenge.RW_foreseehall_k52_whole_fair_ways
open List (mem_append_right mem_append_left getElem?_eq_getElem length_map getD_eq_getElem?_getD mem_cons_of_mem getElem?_map mem_cons_self append_assoc length_set mem_of_getElem? length_append getElem?_set_ne size_toArray map_cons getElem?_set_self map_map getElem?_append_left length_cons nodup_nil getElem?_append_right set_set append_nil getElem_mem length_filter_le lookup_cons contains_iff_mem all_eq_true mem_cons not_mem_nil length_take length_singleton flatten_cons nil_append any_eq_true length_range getElem?_eq_none length_pos_of_mem getElem?_replicate perm_append_comm mem_range find?_cons length_nil mem_map pairwise_map filter_cons mem_of_getLast? ext_getElem? getElem_of_mem filter_sublist map_inj_right mem_filter map_append filterMap_cons of_mem_zip map_nil drop_eq_nil_of_le drop_eq_getElem_cons getElem?_cons_succ exists_mem_of_ne_nil getElem?_cons_zero nodup_range)
set_option Elab.async false
set_option linter.all false
set_option maxRecDepth 100000
set_option maxHeartbeats 4000000
set_option maxRecDepth 10000
abbrev Fg:=PySem.W.Frag
abbrev JS (i:Nat):PySem.Stmt:=(PySem.Challenge.pw_foreseehall_k52_whole_fair_ways.main.body)[i]!
theorem LR {α:Type _} {a:α} (s:List α) {t:List α} (h:a∈t):a∈s++t:=List.mem_append_right s h
theorem LU {α:Type _} {a:α} {s:List α} (t:List α) (h:a∈s):a∈s++t:=List.mem_append_left t h
theorem LX {α:Type _} {a:α} {s t:List α} (h:a∈s++t):a∈s\/a∈t:=List.mem_append.mp h
theorem LZ {α:Type _} {a b:α} {t:List α} (h:a∈b::t):a=b\/a∈t:=List.mem_cons.mp h
theorem L0 {α:Type _} {l:List α} {i:Nat} (h:i<l.length):l[i]?=some l[i]:=List.getElem?_eq_getElem h
theorem L1 {α:Type _} {l:List α} {i:Nat} {a:α}:l.getD i a=l[i]?.getD a:=List.getD_eq_getElem?_getD
theorem L5 {α:Type _} (y:α) {a:α} {l:List α} (h:a∈l):a∈y::l:=List.mem_cons_of_mem y h
abbrev L6 {α:Type _} {a b:List α}:=(List.nodup_append (l₁:=a) (l₂:=b)).mp
abbrev L7 {α:Type _} {a:α} {l:List α} {i:Nat}:=(List.getElem?_eq_some_iff (l:=l) (i:=i) (a:=a)).mp
abbrev L8:=@PySem.wpAny_bind
abbrev L9:=@PySem.wpAny_pure
abbrev Ma:=@PySem.Heap.get?_push_of_some
abbrev Mb:=@Nat.le_refl
abbrev Mc:=PySem.PyData
namespace L2
open PySem PySem.Spec PyProof.Rows
variable {us:List Value} {x qual:Str} {u:Value} {a b it dx:Addr} {o:Obj} {α:Type} {h base:Heap} {g':Array GenState} {t' n:Nat} {d':Drawn} {e c tg:Expr} {N ps:List Str} {M:Model} {A:Around} {s':Shared} {X:Cx} {pos pos':Pos} {pins:List (Addr×Obj)} {U:St} {K:Fg} {tc:TT} {es:List Expr} {te:TE} {g:Int->Int->Int} {tb:TS} {vs:List V} {ta:TA} {fp:List Addr} {r':R2} {op':CmpOp} {mA mg:Str->Option Value} {scope:Scope}
abbrev bE:=Sum Int Str
def gX:bE->Value->Bool
 | .inl k,v=>Value.isInt k v
 | .inr x,v=>Value.isStrOf x v
def Ks (w:World):bE->Int
 | .inl k=>hashInt k
 | .inr x=>hashStr w x
theorem wO:∀{k:bE} {v:Value},gX k v=true->(∃i t,k=Sum.inl i/\v=Value.int i t)\/(∃x t,k=Sum.inr x/\v=Value.str x t)
 | .inl i,v,h=>by
  obtain ⟨t,e⟩:=Value.isInt_shape (k:=i) (v:=v) h
  exact .inl ⟨i,t,rfl,e⟩
 | .inr x,v,h=>by
  obtain ⟨t,e⟩:=Value.isStrOf_shape (x:=x) (v:=v) h
  exact .inr ⟨x,t,rfl,e⟩
theorem qQ (i:Int) (t:Tok):gX (.inl i) (.int i t)=true:=by simp [gX,Value.isInt]
theorem qP (x:Str) (t:Tok):gX (.inr x) (.str x t)=true:=by simp [gX,Value.isStrOf]
theorem CA (a b:Int):decide ((Sum.inl a:bE)=Sum.inl b)=(a==b):=by
 by_cases e:a=b
 ·subst e;simp
 ·have h:¬(Sum.inl a:bE)=Sum.inl b:=fun q=>e (Sum.inl.inj q)
  rw [decide_eq_false h];exact (beq_eq_false_iff_ne.mpr e).symm
theorem Cw (a b:Str):decide ((Sum.inr a:bE)=Sum.inr b)=decide (a=b):=by
 by_cases e:a=b
 ·subst e;simp
 ·have h:¬(Sum.inr a:bE)=Sum.inr b:=fun q=>e (Sum.inr.inj q)
  rw [decide_eq_false h,decide_eq_false e]
theorem Cz (a:Int) (b:Str):decide ((Sum.inl a:bE)=Sum.inr b)=false:=decide_eq_false (fun q=>nomatch q)
theorem Cy (a:Str) (b:Int):decide ((Sum.inr a:bE)=Sum.inl b)=false:=decide_eq_false (fun q=>nomatch q)
def kg (prog:Program) (w:World):PySem.KeyKind prog w bE where
 is:=gX
 hash:=Ks w
 inj:=fun v a b ha hb=>by
  rcases wO ha with ⟨i,t,rfl,rfl⟩ | ⟨x,t,rfl,rfl⟩
  ·rcases wO hb with ⟨j,u,rfl,e⟩ | ⟨y,u,rfl,e⟩
   ·injection e with e1 _;rw [e1]
   ·exact nomatch e
  ·rcases wO hb with ⟨j,u,rfl,e⟩ | ⟨y,u,rfl,e⟩
   ·exact nomatch e
   ·injection e with e1 _;rw [e1]
 byValue:=fun k v h=>by
  rcases wO h with ⟨i,t,rfl,rfl⟩ | ⟨x,t,rfl,rfl⟩<;>rfl
 pyHash:=fun hv h=>by
  rcases wO hv with ⟨i,t,rfl,rfl⟩ | ⟨x,t,rfl,rfl⟩
  ·exact wpAny_pyHash_int h
  ·exact wpAny_pyHash_str h
 eqBool:=fun hu hv h=>by
  rcases wO hu with ⟨i,t,rfl,rfl⟩ | ⟨x,t,rfl,rfl⟩
  ·rcases wO hv with ⟨j,u,rfl,rfl⟩ | ⟨y,u,rfl,rfl⟩
   ·rw [CA] at h;exact wpAny_eqBool_int h
   ·rw [Cz] at h;exact SeqAt.EqAt.int_str i t y u _ _ _ _ h
  ·rcases wO hv with ⟨j,u,rfl,rfl⟩ | ⟨y,u,rfl,rfl⟩
   ·rw [Cy] at h;exact SeqAt.EqAt.str_int x t j u _ _ _ _ h
   ·rw [Cw] at h;exact wpAny_eqBool_str h
 «strs»:=fun k x t v h=>by
  rcases wO h with ⟨i,u,rfl,e⟩ | ⟨y,u,rfl,e⟩
  ·exact nomatch e
  ·injection e with e1 _
   subst e1
   cases v<;>rfl
theorem lG (prog:Program) (w:World) (i:Int) (t:Tok):(kg prog w).is (.inl i) (.int i t)=true:=qQ i t
theorem lE (prog:Program) (w:World) (x:Str) (t:Tok):(kg prog w).is (.inr x) (.str x t)=true:=qP x t
inductive V where
 | non | bl (b:Bool) | int (i:Int) | str (x:Str) | byt (b:Array UInt8) | flt (b:UInt64) | ref (a:Addr) | ty (n:String)
 deriving DecidableEq
def RelV:V->Value->Prop
 | .non,u=>u=Value.none
 | .bl b,u=>u=Value.bool b
 | .int i,u=>∃t,u=Value.int i t
 | .str x,u=>∃t,u=Value.str x t
 | .byt b,u=>∃t,u=Value.bytes b t
 | .flt b,u=>∃t,u=Value.float b t
 | .ref a,u=>u=Value.ref a
 | .ty n,u=>u=Value.type n
abbrev Vals:List V->List Value->Prop:=Paired RelV
theorem Vals.length {xs:List V} (r:Vals xs us):xs.length=us.length:=Paired.length r
theorem Vals.get:∀{xs:List V} {us:List Value} {i:Nat} {x:V},Vals xs us->xs[i]?=some x->∃u,us[i]?=some u/\RelV x u
 | _,_,_,_,.nil,e=>by simp at e
 | _,_,0,_,.cons r _,e=>by simp at e;subst e;exact ⟨_,rfl,r⟩
 | _,_,i+1,x,.cons _ t,e=>by
  obtain ⟨u,h1,h2⟩:=Vals.get (i:=i) (x:=x) t (by simpa using e)
  exact ⟨u,by simpa using h1,h2⟩
theorem Vals.set {x:V} (r:RelV x u):∀{xs:List V} {us:List Value} (i:Nat),Vals xs us->Vals (xs.set i x) (us.set i u)
 | _,_,_,.nil=>.nil
 | _,_,0,.cons _ t=>.cons r t
 | _,_,i+1,.cons q t=>.cons q (Vals.set r i t)
theorem Vals.append:∀{xs ys:List V} {us ws:List Value},Vals xs us->Vals ys ws->Vals (xs++ys) (us++ws)
 | _,_,_,_,.nil,s=>s
 | _,_,_,_,.cons r t,s=>.cons r (Vals.append t s)
theorem Vals.take:∀{xs:List V} {us:List Value} (n:Nat),Vals xs us->Vals (xs.take n) (us.take n)
 | _,_,0,_=>.nil
 | _,_,_+1,.nil=>.nil
 | _,_,n+1,.cons r t=>.cons r (Vals.take n t)
theorem Vals.drop:∀{xs:List V} {us:List Value} (n:Nat),Vals xs us->Vals (xs.drop n) (us.drop n)
 | _,_,0,r=>r
 | _,_,_+1,.nil=>.nil
 | _,_,n+1,.cons _ t=>Vals.drop n t
def RelO:Option V->Option Value->Prop
 | some v,some u=>RelV v u
 | none,none=>True
 | _,_=>False
def KV {κ:Type}:List (κ×V)->List (κ×Value)->Prop:=Paired fun (p:κ×V) (q:κ×Value)=>p.1=q.1/\RelV p.2 q.2
def kV:bE->V
 | .inl i=>.int i
 | .inr x=>.str x
inductive HO where
 | lst (xs:List V)
 | tup (xs:List V)
 | dK (kvs:List (bE×V)) | dT (kvs:List (List bE×V))
 | set (S:Int->Bool) (n:Nat)
 | ins (C dx:Addr) (fs:List (Str×V))
 | own (x:Addr)
 | xd (fs:List (Str×V))
 | met (f x:Addr)
 | rng (lo hi:Int)
 | frz (o:Obj) (u:HO)
 | tbl (ps:Array Value)
 | ext (φ:Heap->Prop)
abbrev Hp:=Addr->Option HO
def bo (H:Hp) (a:Addr) (o:HO):Hp:=fun b=>if b=a then some o else H b
theorem da {H:Hp} {o:HO}:bo H a o a=some o:=by unfold bo;rw [if_pos rfl]
theorem b9 {H:Hp} {o:HO} (h:b≠a):bo H a o b=H b:=by unfold bo;rw [if_neg h]
theorem FE {H:Hp} {o u:HO} (h:H a=some o) (h':H b=some u) (d:o≠u):a≠b:=by
 intro e;subst e;rw [h] at h';exact d (Option.some.inj h')
theorem iT {H:Hp} {o:HO} (h:H a=some o) (h':H b=none):a≠b:=by
 intro e;subst e;rw [h] at h';cases h'
section
variable (P:Program) (w:World)
def ObjOk (H:Hp) (h:Heap) (a:Addr):HO->Prop
 | .lst xs=>xs.length<=sizeLine/\∃(its:List Value) (n:Nat),Vals xs its/\h.get? a=some { cls:=.type "list",data:=.seq its.toArray n }
 | .tup xs=>xs.length<=sizeLine/\∃its:List Value,Vals xs its/\IsTup h a its.toArray
 | .dK kvs=>kvs.length<=sizeLine/\(a==sysModules)=false/\∃vs,KV kvs vs/\h.DictOf (kg P w) a vs
 | .dT kvs=>kvs.length<=sizeLine/\(a==sysModules)=false/\∃xs:List (List bE×Addr×Value),
   Paired (fun (p:List bE×V) (q:List bE×Addr×Value)=>p.1=q.1/\H q.2.1=some (.tup (p.1.map kV))/\RelV p.2 q.2.2) kvs xs /\
   ∃o es ep,h.get? a=some o/\o.ExactDict/\o.data=.dict es ep/\es.toList=xs.map (entryOfKey (tupleKind (kg P w)))/\(xs.map (·.1)).Nodup
 | .set S n=>h.SetOf (intKind P w) a S n
 | .ins C dx fs=>H dx=some (.own a)/\fs.length<=1000/\dx≠a/\h.get? a=some (PySem.W.instObj C dx) /\
   ∃mA,h.Ns1 dx mA/\(∀f,RelO (fs.lookup f) (mA f))/\PySem.Within mA (fs.map (·.1))
 | .own _=>∃o,h.get? a=some o
 | .xd fs=>∃mA,h.Ns1 a mA/\∀f,RelO (fs.lookup f) (mA f)
 | .rng lo hi=>∃t u v,h.get? a=some { cls:=.type "range",data:=.fields #[.int lo t,.int hi u,.int 1 v] }
 | .frz o u=>h.get? a=some o/\ObjOk H h a u
 | .tbl ps=>h.get? a=some { cls:=.none,data:=.fields ps }
 | .met f x=>h.get? a=some (PySem.W.methodObj (.ref f) (.ref x))
 | .ext φ=>φ h/\(∃o,h.get? a=some o)/\∀h1 h2:Heap,φ h1->(∀o,h1.get? a=some o->h2.get? a=some o)->φ h2
def HOk (H:Hp) (h:Heap):Prop:=∀a o,H a=some o->ObjOk P w H h a o
end
section
variable {P:Program} {w:World} {H H':Hp} {h h':Heap} {a:Addr} {o:HO}
theorem ObjOk.lt (x:ObjOk P w H h a o):a<h.objs.size:=by
 cases o with
 | lst xs=>obtain ⟨_,_,_,_,e⟩:=x;exact Heap.lt_size e
 | tup xs=>obtain ⟨_,_,_,p⟩:=x;exact p.lt
 | dK kvs=>obtain ⟨_,_,_,_,o,_,_,e,_⟩:=x;exact Heap.lt_size e
 | dT kvs=>obtain ⟨_,_,_,_,o,_,_,e,_⟩:=x;exact Heap.lt_size e
 | set S n=>obtain ⟨o,_,_,_,e,_⟩:=x;exact Heap.lt_size e
 | ins C dx fs=>obtain ⟨_,_,_,e,_⟩:=x;exact Heap.lt_size e
 | own y=>obtain ⟨_,e⟩:=x;exact Heap.lt_size e
 | xd fs=>obtain ⟨_,⟨_,_,_,e,_⟩,_⟩:=x;exact Heap.lt_size e
 | rng lo hi=>obtain ⟨_,_,_,e⟩:=x;exact Heap.lt_size e
 | frz ob u=>obtain ⟨e,_⟩:=x;exact Heap.lt_size e
 | tbl ps=>exact Heap.lt_size (show h.get? a=some _ from x)
 | met f y=>exact Heap.lt_size (show h.get? a=some _ from x)
 | ext φ=>obtain ⟨_,⟨_,e⟩,_⟩:=x;exact Heap.lt_size e
theorem Paired.mapP {β:Type} {F G:α->β->Prop}:∀{l₁:List α} {l₂:List β},Paired F l₁ l₂->(∀a b,F a b->G a b)->Paired G l₁ l₂
 | _,_,.nil,_=>.nil
 | _,_,.cons r t,f=>.cons (f _ _ r) (Paired.mapP t f)
theorem ObjOk.stay (x:ObjOk P w H h a o) (k:∀b u,(b=a\/H b=some (.own a))->h.get? b=some u->h'.get? b=some u)
  (ho:∀b,H b=some (.own a)->H' b=some (.own a)) (ht:∀b xs,H b=some (.tup xs)->H' b=some (.tup xs)):ObjOk P w H' h' a o:=by
 induction o with
 | lst xs=>obtain ⟨z,its,n,r,e⟩:=x;exact ⟨z,its,n,r,k _ _ (.inl rfl) e⟩
 | tup xs=>obtain ⟨z,its,r,ob,e,c⟩:=x;exact ⟨z,its,r,ob,k _ _ (.inl rfl) e,c⟩
 | dK kvs=>obtain ⟨z,y,vs,r,ob,es,ep,e,c⟩:=x;exact ⟨z,y,vs,r,ob,es,ep,k _ _ (.inl rfl) e,c⟩
 | dT kvs=>
  obtain ⟨z,y,xs,r,ob,es,ep,e,c⟩:=x;exact ⟨z,y,xs,Paired.mapP r fun p q z=>⟨z.1,ht _ _ z.2.1,z.2.2⟩,ob,es,ep,k _ _ (.inl rfl) e,c⟩
 | set S n=>obtain ⟨ob,es,ep,t,e,c⟩:=x;exact ⟨ob,es,ep,t,k _ _ (.inl rfl) e,c⟩
 | ins C dx fs=>
  obtain ⟨d,z,ne,e,mA,⟨od,es,ep,e2,c⟩,r⟩:=x;exact ⟨ho _ d,z,ne,k _ _ (.inl rfl) e,mA,⟨od,es,ep,k _ _ (.inr d) e2,c⟩,r⟩
 | own y=>obtain ⟨ob,e⟩:=x;exact ⟨ob,k _ _ (.inl rfl) e⟩
 | xd fs=>obtain ⟨mA,⟨od,es,ep,e,c⟩,r⟩:=x;exact ⟨mA,⟨od,es,ep,k _ _ (.inl rfl) e,c⟩,r⟩
 | rng lo hi=>obtain ⟨t,u,v,e⟩:=x;exact ⟨t,u,v,k _ _ (.inl rfl) e⟩
 | frz ob u ih=>obtain ⟨e,q⟩:=x;exact ⟨k _ _ (.inl rfl) e,ih q⟩
 | tbl ps=>
  have e:h.get? a=some { cls:=.none,data:=.fields ps }:=x
  show h'.get? a=some { cls:=.none,data:=.fields ps }
  exact k a _ (.inl rfl) e
 | met f y=>
  have e:h.get? a=some (PySem.W.methodObj (.ref f) (.ref y)):=x
  show h'.get? a=some (PySem.W.methodObj (.ref f) (.ref y))
  exact k a _ (.inl rfl) e
 | ext φ=>obtain ⟨p,⟨o,e⟩,st⟩:=x;exact ⟨st _ _ p fun o q=>k _ _ (.inl rfl) q,⟨o,k _ _ (.inl rfl) e⟩,st⟩
theorem HOk.lt (x:HOk P w H h) (e:H a=some o):a<h.objs.size:=(x a o e).lt
theorem HOk.fresh (x:HOk P w H h) (e:h.objs.size<=a):H a=none:=by
 cases q:H a with
 | none=>rfl
 | some u=>exact absurd (Nat.lt_of_lt_of_le (x.lt q) e) (Nat.lt_irrefl _)
theorem HOk.kept (x:HOk P w H h) (k:∀b u,h.get? b=some u->h'.get? b=some u):HOk P w H h':=fun a o e=>
 (x a o e).stay (fun b u _ q=>k b u q) (fun _ q=>q) fun _ _ q=>q
theorem HOk.laid (x:HOk P w H h) (k:∀b u,h.get? b=some u->h'.get? b=some u) (hp:h.objs.size<=a) (new:ObjOk P w (bo H a o) h' a o):HOk P w (bo H a o) h':=fun b u e=>by
 have hn:=x.fresh hp
 by_cases hb:b=a
 ·subst hb;rw [da] at e;cases e;exact new
 ·rw [b9 hb] at e
  exact (x b u e).stay (fun c v _ q=>k c v q) (fun c q=>by rw [b9 (iT q hn)];exact q) fun c xs q=>by rw [b9 (iT q hn)];exact q
end
def Rd (H:Hp) (a:Addr) (u:HO):Prop:=H a=some u\/∃o,H a=some (.frz o u)
theorem Rd.of {H:Hp} {u:HO} (h:H a=some u):Rd H a u:=.inl h
theorem Rd.ok {P:Program} {w:World} {H:Hp} {u:HO} (r:Rd H a u) (x:HOk P w H h):ObjOk P w H h a u:=by
 rcases r with r | ⟨o,r⟩
 ·exact x a u r
 ·obtain ⟨_,q⟩:=x a _ r
  exact q
def GB:Option HO->Prop
 | some (.lst _)=>True
 | some (.dK _)=>True
 | some (.dT _)=>True
 | some (.set _ _)=>True
 | some (.ins _ _ _)=>True
 | some (.ext _)=>True
 | _=>False
section
variable {P:Program} {w:World} {H:Hp} {h h':Heap} {x e:Addr} {o':HO}
theorem HOk.write (ok:HOk P w H h) (mu:GB (H x)) (he:e=x\/H e=some (.own x)) (k:∀b u,b≠e->h.get? b=some u->h'.get? b=some u) (heo:∃u,h'.get? e=some u)
  (new:ObjOk P w (bo H x o') h' x o'):HOk P w (bo H x o') h':=fun b u q=>by
 have nown:∀c y,H c=some (.own y)->c≠x:=fun c y r z=>by subst z;rw [r] at mu;exact mu
 have ntup:∀c xs,H c=some (.tup xs)->c≠x:=fun c xs r z=>by subst z;rw [r] at mu;exact mu
 by_cases hb:b=x
 ·subst hb;rw [da] at q;cases q;exact new
 ·rw [b9 hb] at q
  by_cases hbe:b=e
  ·have q':H b=some (.own x):=by
    rcases he with z | z
    ·exact absurd (hbe.trans z) hb
    ·rw [hbe];exact z
   rw [q] at q';cases q'
   obtain ⟨v,hv⟩:=heo;exact ⟨v,by rw [hbe];exact hv⟩
  ·refine (ok b u q).stay (fun c v hc r=>k c v ?_ r) (fun c r=>by rw [b9 (nown c b r)];exact r) fun c xs r=>by rw [b9 (ntup c xs r)];exact r
   rcases hc with rfl | hc
   ·exact hbe
   ·rintro rfl
    rcases he with z | z
    ·exact nown c b hc z
    ·rw [hc] at z;cases z;exact hb rfl
end
structure Un (fs ex:List Addr) (H H':Hp) (h h':Heap):Prop where
 keep:∀b o,h.get? b=some o->H b=none->b∉fs->b∉ex->h'.get? b=some o
 slot:∀b o,h.get? b=some o->H b=none->b∈fs->b∉ex->∃sl,h'.get? b=some { o with slots:=sl }
 free:∀b o,h.get? b=some o->H b=none->b∉ex->H' b=none
 there:∀b o,h.get? b=some o->b∉ex->∃o',h'.get? b=some o'
 tups:∀b xs,H b=some (.tup xs)->H' b=some (.tup xs)
 frzs:∀b o u,H b=some (.frz o u)->H' b=some (.frz o u)
 tbls:∀b ps,H b=some (.tbl ps)->∃more,H' b=some (.tbl (ps++more))
section
variable {fs fs' ex ex':List Addr} {H H1 H2:Hp} {h h1 h2 h':Heap} {a x e:Addr} {o:HO}
theorem Un.any (u:Un fs ex H H1 h h1) {ob:Obj} (q:h.get? b=some ob) (n:H b=none) (hx:b∉ex):∃sl,h1.get? b=some { ob with slots:=sl }:=by
 by_cases hb:b∈fs
 ·exact u.slot b ob q n hb hx
 ·exact ⟨ob.slots,u.keep b ob q n hb hx⟩
theorem Un.kept (k:∀b u,h.get? b=some u->h'.get? b=some u):Un fs ex H H h h':=
 ⟨fun b ob q _ _ _=>k b ob q,fun b ob q _ _ _=>⟨ob.slots,k b ob q⟩,fun _ _ _ n _=>n,fun b ob q _=>⟨ob,k b ob q⟩,fun _ _ q=>q,fun _ _ _ q=>q,fun _ ps q=>⟨#[],by rw [q];simp⟩⟩
theorem Un.refl:Un fs ex H H h h:=Un.kept fun _ _ q=>q
theorem Un.laid (k:∀b u,h.get? b=some u->h'.get? b=some u) (hp:h.objs.size<=a) (hn:H a=none):Un fs ex H (bo H a o) h h' where
 keep:=fun b u q _ _ _=>k b u q
 slot:=fun b u q _ _ _=>⟨u.slots,k b u q⟩
 free:=fun b u q n _=>by rw [b9 (Nat.ne_of_lt (Nat.lt_of_lt_of_le (Heap.lt_size q) hp))];exact n
 there:=fun b u q _=>⟨u,k b u q⟩
 tups:=fun b xs q=>by rw [b9 (iT q hn)];exact q
 frzs:=fun b u xs q=>by rw [b9 (iT q hn)];exact q
 tbls:=fun b ps q=>⟨#[],by rw [b9 (iT q hn),q];simp⟩
theorem Un.write (mu:GB (H x)) (he:e=x\/H e=some (.own x)) (k:∀b u,b≠e->h.get? b=some u->h'.get? b=some u) (heo:∃u,h'.get? e=some u):Un fs ex H (bo H x o) h h':=by
 have hx:∀b,H b=none->b≠x:=fun b n z=>by subst z;rw [n] at mu;exact mu
 have hb:∀b,H b=none->b≠e:=fun b n z=>by
  subst z;rcases he with r | r
  ·exact hx b n r
  ·rw [n] at r;cases r
 have hm:∀b u,H b=some u->¬GB (some u)->b≠x:=fun b u q nm z=>by subst z;rw [q] at mu;exact nm mu
 refine ⟨fun b u q n _ _=>k b u (hb b n) q,fun b u q n _ _=>⟨u.slots,k b u (hb b n) q⟩,fun b u q n _=>by rw [b9 (hx b n)];exact n,fun b u q _=>?_,
  fun b xs q=>by rw [b9 (hm b _ q fun z=>z)];exact q,fun b u xs q=>by rw [b9 (hm b _ q fun z=>z)];exact q,fun b ps q=>⟨#[],by rw [b9 (hm b _ q fun z=>z),q];simp⟩⟩
 by_cases hbe:b=e
 ·subst hbe;exact heo
 ·exact ⟨u,k b u hbe q⟩
end
def HG (h:Heap) (H:Hp):List Addr:=(List.range h.objs.size).filter fun a=>(H a).isSome
def jX (h:Heap) (H:Hp):Heap:=PySem.W.hideAll h (HG h H)
theorem qU (h:Heap) (H:Hp):(jX h H).objs.size=h.objs.size:=PySem.W.hideAll_size _ _
theorem vy {H:Hp} (e:h.get? b=some o) (n:H b=none):(jX h H).get? b=some o:=
 PySem.W.hideAll_get _ e fun hm=>by
  have q:(H b).isSome=true:=(List.mem_filter.mp hm).2
  rw [n] at q;simp at q
theorem yf {H:Hp} (e:(jX h H).get? b=some o):h.get? b=some o/\H b=none:=by
 have e':h.get? b=some o:=PySem.W.of_hideAll (HG h H) e
 refine ⟨e',?_⟩
 cases q:H b with
 | none=>rfl
 | some x=>
  have hm:b∈HG h H:=List.mem_filter.mpr ⟨List.mem_range.mpr (Heap.lt_size e'),by simp [q]⟩
  have z:(jX h H).get? b=none:=PySem.W.hideAll_none (HG h H) hm
  rw [z] at e;cases e
structure Mod (K:Fg) (mg:Str->Option Value) (base:Heap):Prop where
 kin:K.In base
 glob:base.Ns mainGlobals mg
 blt:∃mb,base.Ns builtinsNs mb/\∀x:Str,x ≠ "__name__"->mb x=bootBuiltins x
 nolimit:base.NoLimit
structure Cx where
 prog:Program
 w:World
 K:Fg
 mg:Str->Option Value
 base:Heap
 A:Around
 N:List Str
 s₀:Shared
 H₀:Hp
 env:Env
 outer:List Env
 stack:List Env
 ex:List Addr
 fn:Str->Bool
 calm:Bool
 pn:List (Addr×Obj)
 xe:Value->Shared->Prop
def fJ (l:List Env):List Addr:=l.filterMap (·.frame)
abbrev Cx.fs (X:Cx):List Addr:=fJ X.outer
def Dv (sc:Scope) (x:Str):Prop:=sc.names.lookup x=some .local\/sc.names.lookup x=some .cell\/sc.names.lookup x=some .free
def Loc (sc:Scope) (x:Str):Prop:=sc.names.lookup x=some .local\/sc.names.lookup x=some .cell
def Look (env:Env) (h:Heap) (m:Str->Option Value) (x:Str) (u:Value):Prop:=
 (env.kindOf x=some .local/\m x=some u)\/((env.kindOf x=some .cell\/env.kindOf x=some .free)/\∃c,env.cells.lookup x=some c/\h.IsCell c (some u))
structure Cx.Ok (X:Cx):Prop where
 mod:Mod X.K X.mg X.base
 kind:X.env.scope.kind=.function
 glob:X.env.globals=mainGlobals
 blt:X.env.builtins=builtinsNs
 above:X.s₀.heap.objs.size<=X.env.locals
 inj:∀x y c,X.env.cells.lookup x=some c->X.env.cells.lookup y=some c->x=y
 has:∀x,(X.env.kindOf x=some .cell\/X.env.kindOf x=some .free)->∃c,X.env.cells.lookup x=some c
 cab:∀x c,X.fn x=true->X.env.cells.lookup x=some c->X.s₀.heap.objs.size<=c
 hd:X.calm=true->X.A.handled=none
 frames:X.A.frames=some X.stack
 stk:X.stack=X.outer\/(X.stack=X.env::X.outer/\X.env.frame=some X.env.locals)
 exf:∀b∈X.ex,b≠X.env.locals/\∀x c,X.env.cells.lookup x=some c->c≠b
 bs:∀b o,X.base.get? b=some o->X.s₀.heap.get? b=some o/\X.H₀ b=none
 bsz:X.base.objs.size<=X.s₀.heap.objs.size
 noex:∀b o,X.base.get? b=some o->b∉X.ex
 exfs:∀b∈X.ex,b∉X.fs
 funs:X.s₀.heap.FunFrames X.base X.outer
 frf:∀b∈X.fs,X.H₀ b=none
structure Inv (X:Cx) (pins:List (Addr×Obj)) (U:List (Option V)) (H:Hp) (s:Shared):Prop where
 ok:X.Ok
 os:s.os=X.s₀.os
 bare:AllBare s.gens
 base:Un X.fs X.ex X.H₀ H X.s₀.heap s.heap
 loc:∃m,s.heap.Ns X.env.locals m/\∀(i:Nat) (x:Str) (v:V),X.N[i]?=some x->U[i]?=some (some v)->Dv X.env.scope x->∃u,RelV v u/\Look X.env s.heap m x u
 cell:∀x c,X.env.cells.lookup x=some c->∃v,s.heap.IsCell c v
 free:H X.env.locals=none
 freeC:∀x c,X.env.cells.lookup x=some c->H c=none
 pin:∀p∈X.pn++pins,s.heap.get? p.1=some p.2/\H p.1=none/\p.1≠X.env.locals/\p.1∉X.fs/\∀v,p.2.data≠.cell v
 hok:HOk X.prog X.w H s.heap
 len:U.length=X.N.length
section
variable {X:Cx} {pins:List (Addr×Obj)} {U:List (Option V)} {H H':Hp} {s:Shared} {h':Heap}
theorem Cx.Ok.nofr (ok:X.Ok) (e:X.base.get? b=some o):b∉X.fs:=fun hb=>by
 have:=(ok.funs.mem hb).1
 rw [e] at this;cases this
theorem Inv.bs (I:Inv X pins U H s):∀b o,X.base.get? b=some o->s.heap.get? b=some o/\H b=none:=fun b o e=>
 ⟨I.base.keep b o (I.ok.bs b o e).1 (I.ok.bs b o e).2 (I.ok.nofr e) (I.ok.noex b o e),I.base.free b o (I.ok.bs b o e).1 (I.ok.bs b o e).2 (I.ok.noex b o e)⟩
theorem Inv.bk (I:Inv X pins U H s):∀b o,X.base.get? b=some o->s.heap.get? b=some o:=fun b o e=>(I.bs b o e).1
theorem Inv.mod (I:Inv X pins U H s):Mod X.K X.mg X.base:=I.ok.mod
theorem Inv.kIn (I:Inv X pins U H s):X.K.In s.heap:=I.ok.mod.kin.keeps I.bk
theorem Inv.lt (I:Inv X pins U H s):X.env.locals<s.heap.objs.size:=let ⟨_,hn,_⟩:=I.loc;hn.lt
theorem Inv.sz (I:Inv X pins U H s):X.s₀.heap.objs.size<=s.heap.objs.size:=Nat.le_trans I.ok.above (Nat.le_of_lt I.lt)
theorem Inv.nofs (I:Inv X pins U H s) (h:s.heap.objs.size<=a):a∉X.fs:=fun hb=>by
 obtain ⟨_,o,ho,_⟩:=I.ok.funs.mem hb;exact absurd (Nat.lt_of_lt_of_le (Heap.lt_size ho) (Nat.le_trans I.sz h)) (Nat.lt_irrefl _)
theorem Inv.cne (I:Inv X pins U H s):∀x c,X.env.cells.lookup x=some c->c≠X.env.locals:=fun x c e z=>by
 obtain ⟨v,o,ho,hd⟩:=I.cell x c e;obtain ⟨m,⟨o',es,ep,ho',hd',_⟩,_⟩:=I.loc;rw [z,ho'] at ho;cases ho;rw [hd'] at hd;cases hd
theorem Inv.funs (I:Inv X pins U H s):s.heap.FunFrames X.base X.outer:=by
 have all:∀(l:List Env),(∀b∈fJ l,b∈X.fs)->X.s₀.heap.FunFrames X.base l->s.heap.FunFrames X.base l:=by
  intro l;induction l with
  | nil=>intro _ _;trivial
  | cons env r ih=>
   intro hs hl;obtain ⟨hk,⟨L,o,hf,hn,ho,hd⟩,hr⟩:=hl;have hL:L∈X.fs:=hs L (by unfold fJ;rw [filterMap_cons,hf];exact mem_cons_self)
   obtain ⟨sl,e⟩:=I.base.slot L o ho (I.ok.frf L hL) hL fun z=>I.ok.exfs L z hL
   exact ⟨hk,⟨L,_,hf,hn,e,hd⟩,ih (fun b hb=>hs b (by unfold fJ;rw [filterMap_cons,hf];exact L5 _ hb)) hr⟩
 exact all X.outer (fun _ hb=>hb) I.ok.funs
theorem Inv.stack (I:Inv X pins U H s):s.heap.FunFrames X.base X.stack:=by
 rcases I.ok.stk with e | ⟨e,hf⟩
 ·rw [e];exact I.funs
 ·rw [e]
  obtain ⟨m,hn,_⟩:=I.loc;refine .cons (by rw [I.ok.kind];decide) hf hn ?_ I.funs
  exact Heap.get?_none_of_le (Nat.le_trans I.ok.bsz I.ok.above)
theorem Inv.stkSub (I:Inv X pins U H s):∀b∈fJ X.stack,b∈X.env.locals::X.fs:=fun b hb=>by
 rcases I.ok.stk with e | ⟨e,hf⟩
 ·rw [e] at hb;exact L5 _ hb
 ·rw [e] at hb
  unfold fJ at hb;rw [filterMap_cons,hf] at hb;exact hb
theorem Inv.stkFree (I:Inv X pins U H s):∀b∈fJ X.stack,H b=none:=fun b hb=>by
 rcases LZ (I.stkSub b hb) with e | hb
 ·rw [e];exact I.free
 ·obtain ⟨_,o,ho,_⟩:=I.ok.funs.mem hb
  exact I.base.free b o ho (I.ok.frf b hb) fun z=>I.ok.exfs b z hb
theorem Inv.step {ch:List Addr} (I:Inv X pins U H s)
  (hch:∀b∈ch,(b∈X.ex\/X.s₀.heap.objs.size<=b)/\b≠X.env.locals/\(∀x c,X.env.cells.lookup x=some c->c≠b)/\∀p∈X.pn++pins,p.1≠b)
  (keep:∀b o,b≠X.env.locals->b∉X.fs->b∉ch->s.heap.get? b=some o->H b=none->h'.get? b=some o)
  (slot:∀b o,b≠X.env.locals->b∈X.fs->b∉ch->s.heap.get? b=some o->H b=none->∃sl,h'.get? b=some { o with slots:=sl }) (free:∀b o,b∉ch->s.heap.get? b=some o->H b=none->H' b=none)
  (there:∀b o,b∉ch->s.heap.get? b=some o->∃o',h'.get? b=some o')
  (tups:∀b xs,H b=some (.tup xs)->H' b=some (.tup xs)) (frzs:∀b o u,H b=some (.frz o u)->H' b=some (.frz o u)) (tbls:∀b ps,H b=some (.tbl ps)->∃more,H' b=some (.tbl (ps++more)))
  (ns:∀m,s.heap.Ns X.env.locals m->h'.Ns X.env.locals m) (hok:HOk X.prog X.w H' h') (hg:AllBare g') :
  Inv X pins U H' { s with heap:=h',gens:=g',drawn:=d',toks:=t' }:=by
 have neL:∀b o,X.s₀.heap.get? b=some o->b≠X.env.locals:=fun b o e=>Nat.ne_of_lt (Nat.lt_of_lt_of_le (Heap.lt_size e) I.ok.above)
 have neC:∀b o,X.s₀.heap.get? b=some o->b∉X.ex->b∉ch:=fun b o e hx hb=>by
  rcases (hch b hb).1 with z | z
  ·exact hx z
  ·exact absurd (Nat.lt_of_lt_of_le (Heap.lt_size e) z) (Nat.lt_irrefl _)
 have cellK:∀x c,X.env.cells.lookup x=some c->∀v,s.heap.IsCell c v->h'.IsCell c v:=fun x c e v ⟨o,ho,hd⟩=>by
  have nch:c∉ch:=fun z=>(hch c z).2.2.1 x c e rfl
  by_cases hc:c∈X.fs
  ·obtain ⟨sl,q⟩:=slot c o (I.cne x c e) hc nch ho (I.freeC x c e)
   exact ⟨_,q,hd⟩
  ·exact ⟨o,keep c o (I.cne x c e) hc nch ho (I.freeC x c e),hd⟩
 refine ⟨I.ok,I.os,hg,⟨fun b o e n hb hx=>?_,fun b o e n hb hx=>?_,fun b o e n hx=>?_,fun b o e hx=>?_,fun b xs e=>tups b xs (I.base.tups b xs e),fun b o xs e=>frzs b o xs (I.base.frzs b o xs e),fun b ps e=>?_⟩,?_,fun x c e=>?_,?_,fun x c e=>?_,fun p hp=>?_,hok,I.len⟩
 ·exact keep b o (neL b o e) hb (neC b o e hx) (I.base.keep b o e n hb hx) (I.base.free b o e n hx)
 ·obtain ⟨sl,e1⟩:=I.base.slot b o e n hb hx
  obtain ⟨sl',e2⟩:=slot b _ (neL b o e) hb (neC b o e hx) e1 (I.base.free b o e n hx);exact ⟨sl',e2⟩
 ·obtain ⟨o',e1⟩:=I.base.there b o e hx
  exact free b o' (neC b o e hx) e1 (I.base.free b o e n hx)
 ·obtain ⟨o',e1⟩:=I.base.there b o e hx
  exact there b o' (neC b o e hx) e1
 ·obtain ⟨m1,e1⟩:=I.base.tbls b ps e
  obtain ⟨m2,e2⟩:=tbls b _ e1;exact ⟨m1++m2,by rw [e2,Array.append_assoc]⟩
 ·obtain ⟨m,hn,hl⟩:=I.loc
  refine ⟨m,ns m hn,fun i x v e1 e2 e3=>?_⟩
  obtain ⟨u,r,l⟩:=hl i x v e1 e2 e3;refine ⟨u,r,?_⟩
  rcases l with l | ⟨k,c,e,z⟩
  ·exact .inl l
  ·exact .inr ⟨k,c,e,cellK x c e _ z⟩
 ·obtain ⟨v,z⟩:=I.cell x c e
  exact ⟨v,cellK x c e v z⟩
 ·obtain ⟨m,⟨o,_,_,ho,_⟩,_⟩:=I.loc
  exact free _ o (fun z=>(hch _ z).2.1 rfl) ho I.free
 ·obtain ⟨v,o,ho,hd⟩:=I.cell x c e
  exact free c o (fun z=>(hch c z).2.2.1 x c e rfl) ho (I.freeC x c e)
 ·obtain ⟨e,n,ne,nf,d⟩:=I.pin p hp
  have nch:p.1∉ch:=fun z=>(hch p.1 z).2.2.2 p hp rfl
  exact ⟨keep p.1 p.2 ne nf nch e n,free p.1 p.2 nch e n,ne,nf,d⟩
theorem Inv.un (I:Inv X pins U H s) (u:Un X.fs [] H H' s.heap h') (hok:HOk X.prog X.w H' h'):Inv X pins U H' { s with heap:=h',toks:=t' }:=by
 obtain ⟨m,⟨o,es,ep,ho,r⟩,_⟩:=id I.loc;obtain ⟨sl,hL⟩:=u.any ho I.free (by simp)
 exact I.step (g':=s.gens) (d':=s.drawn) (ch:=[]) (fun _ z=>nomatch z) (fun b o _ hb _ e n=>u.keep b o e n hb (by simp)) (fun b o _ hb _ e n=>u.slot b o e n hb (by simp)) (fun b o _ e n=>u.free b o e n (by simp)) (fun b o _ e=>u.there b o e (by simp)) u.tups u.frzs u.tbls (fun m' hm=>by
  obtain ⟨o',es',ep',ho',r'⟩:=hm;rw [ho] at ho';cases ho'
  exact ⟨_,es',ep',hL,r'⟩) hok I.bare
theorem Inv.call {ch:List Addr} (I:Inv X pins U H s) (u:Un (fJ X.stack) ch H H' s.heap h') (hok:HOk X.prog X.w H' h') (hg:AllBare g')
  (hch:∀b∈ch,(b∈X.ex\/X.s₀.heap.objs.size<=b)/\b≠X.env.locals/\(∀x c,X.env.cells.lookup x=some c->c≠b)/\∀p∈X.pn++pins,p.1≠b) :
  Inv X pins U H' { s with heap:=h',gens:=g',drawn:=d',toks:=t' }:=by
 obtain ⟨m,⟨o,es,ep,ho,r⟩,_⟩:=id I.loc;obtain ⟨sl,hL⟩:=u.any ho I.free fun z=>(hch _ z).2.1 rfl
 exact I.step (ch:=ch) hch (fun b o hL hb hc e n=>u.keep b o e n (fun z=>(LZ (I.stkSub b z)).elim hL hb) hc) (fun b o _ _ hc e n=>u.any e n hc) (fun b o hc e n=>u.free b o e n hc) (fun b o hc e=>u.there b o e hc) u.tups u.frzs u.tbls (fun m' hm=>by
  obtain ⟨o',es',ep',ho',r'⟩:=hm;rw [ho] at ho';cases ho'
  exact ⟨_,es',ep',hL,r'⟩) hok hg
theorem Inv.turned (I:Inv X pins U H s) (k:∀b o,b≠it->s.heap.get? b=some o->h'.get? b=some o) (hn:H it=none) (hL:it≠X.env.locals)
  (h1:it∈X.ex\/X.s₀.heap.objs.size<=it) (h2:∀x c,X.env.cells.lookup x=some c->c≠it) (h3:∀p∈X.pn++pins,p.1≠it):Inv X pins U H { s with heap:=h',toks:=t' }:=by
 have nit:∀b u,H b=some u->b≠it:=fun b u e z=>by rw [z,hn] at e;cases e
 refine I.step (g':=s.gens) (d':=s.drawn) (ch:=[it]) (fun b hb=>?_) (fun b o _ _ hc e _=>k b o (fun z=>hc (by simp [z])) e) (fun b o _ _ hc e _=>⟨o.slots,k b o (fun z=>hc (by simp [z])) e⟩) (fun _ _ _ _ n=>n)
  (fun b o hc e=>⟨o,k b o (fun z=>hc (by simp [z])) e⟩) (fun _ _ e=>e) (fun _ _ _ e=>e) (fun b ps e=>⟨#[],by rw [e];simp⟩) (fun m hm=>?_) (fun b u e=>?_) I.bare
 ·have e:b=it:=by simpa using hb
  subst e;exact ⟨h1,hL,h2,h3⟩
 ·obtain ⟨o,es,ep,ho,r⟩:=hm
  exact ⟨o,es,ep,k _ o (Ne.symm hL) ho,r⟩
 ·refine (I.hok b u e).stay (fun c v hc q=>k c v ?_ q) (fun _ q=>q) fun _ _ q=>q
  rcases hc with z | z
  ·rw [z];exact nit b u e
  ·exact nit c _ z
theorem Inv.tok (I:Inv X pins U H s) (t:Nat):Inv X pins U H { s with toks:=t }:=I.un (h':=s.heap) (t':=t) Un.refl I.hok
theorem Inv.kept (I:Inv X pins U H s) (k:∀b u,s.heap.get? b=some u->h'.get? b=some u):Inv X pins U H { s with heap:=h',toks:=t' }:=I.un (Un.kept k) (I.hok.kept k)
theorem Inv.laid {o:HO} (I:Inv X pins U H s) (k:∀b u,s.heap.get? b=some u->h'.get? b=some u) (hp:s.heap.objs.size<=a) (new:ObjOk X.prog X.w (bo H a o) h' a o) :
  Inv X pins U (bo H a o) { s with heap:=h',toks:=t' }:=I.un (Un.laid k hp (I.hok.fresh hp)) (I.hok.laid k hp new)
theorem Inv.write {x e:Addr} {o:HO} (I:Inv X pins U H s) (mu:GB (H x)) (he:e=x\/H e=some (.own x)) (k:∀b u,b≠e->s.heap.get? b=some u->h'.get? b=some u) (heo:∃u,h'.get? e=some u)
  (new:ObjOk X.prog X.w (bo H x o) h' x o):Inv X pins U (bo H x o) { s with heap:=h',toks:=t' }:=I.un (Un.write mu he k heo) (I.hok.write mu he k heo new)
theorem Inv.weak {U':List (Option V)} (I:Inv X pins U H s) (hl:U'.length=U.length) (w:∀(i:Nat) v,U'[i]?=some (some v)->U[i]?=some (some v)):Inv X pins U' H s:=
 ⟨I.ok,I.os,I.bare,I.base,let ⟨m,hn,hl'⟩:=I.loc;⟨m,hn,fun i x v e1 e2 e3=>hl' i x v e1 (w i v e2) e3⟩,I.cell,I.free,I.freeC,I.pin,I.hok,hl.trans I.len⟩
theorem Inv.pins_of {pins':List (Addr×Obj)} (I:Inv X pins U H s) (h:∀p∈pins',s.heap.get? p.1=some p.2/\H p.1=none/\p.1≠X.env.locals/\p.1∉X.fs/\∀v,p.2.data≠.cell v):Inv X pins' U H s:=
 ⟨I.ok,I.os,I.bare,I.base,I.loc,I.cell,I.free,I.freeC,fun p hp=>(LX hp).elim (fun z=>I.pin p (LU _ z)) (h p),I.hok,I.len⟩
theorem IW (hN:N.Nodup) {i j:Nat} (a:N[i]?=some x) (b:N[j]?=some x):i=j:=by
 obtain ⟨h1,e1⟩:=L7 a
 obtain ⟨h2,e2⟩:=L7 b
 exact (List.getElem_inj hN).mp (e1.trans e2.symm)
theorem i6 {E:Value->Shared->Prop} {i:Nat} {v:V} {Q:Unit->Shared->Prop} (I:Inv X pins U H s) (hN:X.N.Nodup) (hi:X.N[i]?=some x) (hx:Loc X.env.scope x) (r:RelV v u)
  (h:∀s',Inv X pins (U.set i (some v)) H s'->(∃a,Heap.SameBut a s.heap s'.heap/\(a=X.env.locals\/X.env.cells.lookup x=some a))->Q () s') (hf:X.fn x=true\/X.env.scope.names.lookup x=some .local:=by first | exact .inl rfl | exact .inr rfl | assumption):wpAny M A (storeName X.env x u) Q E s:=by
 obtain ⟨m,hn,hl⟩:=id I.loc;have hcls:(X.env.scope.kind==.class||(X.env.scope.kind==.module&&X.env.locals != X.env.globals))=false:=by rw [I.ok.kind];rfl
 have hiU:i<U.length:=by rw [I.len];exact (L7 hi).1
 have cne:=I.cne
 have tracked:∀{a:Addr} {h':Heap},(∃o,s.heap.get? a=some o/\H a=none)->Heap.SameBut a s.heap h'->HOk X.prog X.w H h':=fun {a h'} ha hs b ob e=>by
  obtain ⟨_,_,hfree⟩:=ha;refine (I.hok b ob e).stay (fun c w' hc q=>(hs.2 c ?_).trans q) (fun _ q=>q) fun _ _ q=>q
  rintro rfl
  rcases hc with rfl | hc
  ·rw [hfree] at e;cases e
  ·rw [hfree] at hc;cases hc
 rcases hx with hk | hk
 ·refine wpAny_storeName_local hk hn (fun h' hn' hs=>?_) hcls
  obtain ⟨oL,_,_,hoL,_⟩:=id hn;refine h _ ⟨I.ok,I.os,I.bare,⟨fun b o e n hb hx=>?_,fun b o e n hb hx=>?_,I.base.free,fun b o e hx=>?_,I.base.tups,I.base.frzs,I.base.tbls⟩,⟨_,hn',fun j y v' e1 e2 e3=>?_⟩,fun y c e=>?_,I.free,I.freeC,fun p hp=>?_,tracked ⟨oL,hoL,I.free⟩ hs,by simpa using I.len⟩ ⟨_,hs,.inl rfl⟩
  ·exact (hs.2 b (Nat.ne_of_lt (Nat.lt_of_lt_of_le (Heap.lt_size e) I.ok.above))).trans (I.base.keep b o e n hb hx)
  ·obtain ⟨sl,e1⟩:=I.base.slot b o e n hb hx
   exact ⟨sl,(hs.2 b (Nat.ne_of_lt (Nat.lt_of_lt_of_le (Heap.lt_size e) I.ok.above))).trans e1⟩
  ·obtain ⟨o',e1⟩:=I.base.there b o e hx
   exact ⟨o',(hs.2 b (Nat.ne_of_lt (Nat.lt_of_lt_of_le (Heap.lt_size e) I.ok.above))).trans e1⟩
  ·by_cases hj:j=i
   ·subst hj
    rw [hi] at e1;cases e1;rw [getElem?_set_self hiU] at e2
    cases e2;exact ⟨u,r,.inl ⟨hk,by simp⟩⟩
   ·rw [getElem?_set_ne (Ne.symm hj)] at e2
    obtain ⟨u',r',q⟩:=hl j y v' e1 e2 e3
    refine ⟨u',r',?_⟩
    rcases q with ⟨k,e⟩ | ⟨k,c,e,z⟩
    ·refine .inl ⟨k,?_⟩
     have:y≠x:=fun e=>hj (IW hN e1 (e▸hi))
     simp [this,e]
    ·exact .inr ⟨k,c,e,z.sameBut hs (cne y c e)⟩
  ·obtain ⟨w',z⟩:=I.cell y c e
   exact ⟨w',z.sameBut hs (cne y c e)⟩
  ·obtain ⟨e,n,ne,nf,d⟩:=I.pin p hp
   exact ⟨(hs.2 p.1 ne).trans e,n,ne,nf,d⟩
 ·have hfn:X.fn x=true:=by
   rcases hf with z | z
   ·exact z
   ·rw [z] at hk;cases hk
  obtain ⟨c,hc⟩:=I.ok.has x (.inl hk);obtain ⟨w',z⟩:=I.cell x c hc;refine wpAny_storeName_cell I.ok.kind hk hc z (fun h' hc' hs=>?_)
  obtain ⟨oc,hoc,hocd⟩:=id z;refine h { s with heap:=h' } ⟨I.ok,I.os,I.bare,⟨fun b o e n hb hx=>?_,fun b o e n hb hx=>?_,I.base.free,fun b o e hx=>?_,I.base.tups,I.base.frzs,I.base.tbls⟩,⟨m,hn.sameBut hs (Ne.symm (cne x c hc)),fun j y v' e1 e2 e3=>?_⟩,fun y c' e=>?_,I.free,I.freeC,fun p hp=>?_,tracked ⟨oc,hoc,I.freeC x c hc⟩ hs,by simpa using I.len⟩ ⟨c,hs,.inr hc⟩
  ·exact (hs.2 b (Nat.ne_of_lt (Nat.lt_of_lt_of_le (Heap.lt_size e) (I.ok.cab x c hfn hc)))).trans (I.base.keep b o e n hb hx)
  ·obtain ⟨sl,e1⟩:=I.base.slot b o e n hb hx
   exact ⟨sl,(hs.2 b (Nat.ne_of_lt (Nat.lt_of_lt_of_le (Heap.lt_size e) (I.ok.cab x c hfn hc)))).trans e1⟩
  ·obtain ⟨o',e1⟩:=I.base.there b o e hx
   exact ⟨o',(hs.2 b (Nat.ne_of_lt (Nat.lt_of_lt_of_le (Heap.lt_size e) (I.ok.cab x c hfn hc)))).trans e1⟩
  ·by_cases hj:j=i
   ·subst hj
    rw [hi] at e1;cases e1;rw [getElem?_set_self hiU] at e2
    cases e2;exact ⟨u,r,.inr ⟨.inl hk,c,hc,hc'⟩⟩
   ·rw [getElem?_set_ne (Ne.symm hj)] at e2
    obtain ⟨u',r',q⟩:=hl j y v' e1 e2 e3
    refine ⟨u',r',?_⟩
    rcases q with q | ⟨k,c',e,z'⟩
    ·exact .inl q
    ·refine .inr ⟨k,c',e,z'.sameBut hs ?_⟩
     rintro rfl
     exact hj (IW hN e1 (I.ok.inj _ _ _ e hc▸hi))
  ·by_cases hcc:c'=c
   ·subst hcc;exact ⟨_,hc'⟩
   ·obtain ⟨w2,z2⟩:=I.cell y c' e
    exact ⟨w2,z2.sameBut hs hcc⟩
  ·obtain ⟨e,n,ne,nf,d⟩:=I.pin p hp
   refine ⟨(hs.2 p.1 ?_).trans e,n,ne,nf,d⟩
   intro q;rw [q,hoc] at e;have q':oc=p.2:=Option.some.inj e
   exact d w' (by rw [<-q'];exact hocd)
theorem Hj {E:Value->Shared->Prop} {i:Nat} {v:V} {Q:Unit->Shared->Prop} (I:Inv X pins U H s) (hN:X.N.Nodup) (hi:X.N[i]?=some x) (hx:Loc X.env.scope x) (r:RelV v u)
  (h:∀s',Inv X pins (U.set i (some v)) H s'->Q () s') (hf:X.fn x=true\/X.env.scope.names.lookup x=some .local:=by first | exact .inl rfl | exact .inr rfl | assumption):wpAny M A (storeName X.env x u) Q E s:=
 i6 I hN hi hx r (fun s' I' _=>h s' I') hf
theorem Inv.call' {ch:List Addr} (I:Inv X pins U H s) (ho:s'.os=s.os) (u:Un (fJ X.stack) ch H H' s.heap s'.heap) (hok:HOk X.prog X.w H' s'.heap) (hg:AllBare s'.gens)
  (hch:∀b∈ch,(b∈X.ex\/X.s₀.heap.objs.size<=b)/\b≠X.env.locals/\(∀x c,X.env.cells.lookup x=some c->c≠b)/\∀p∈X.pn++pins,p.1≠b):Inv X pins U H' s':=by
 obtain ⟨h',g',d',t',o'⟩:=s'
 have e:o'=s.os:=ho
 subst e;exact I.call (g':=g') (t':=t') (d':=d') u hok hg hch
end
abbrev XK:=Value->Option Addr->Hp->Prop
abbrev St:=List (Option V)
abbrev VK:=V->Hp->Prop
abbrev TE:=St->Hp->VK->Prop
abbrev TT:=St->Hp->(Bool->Hp->Prop)->Prop
abbrev TA:=St->Hp->(List V->Hp->Prop)->Prop
structure cW where
 nx:St->Hp->Prop
 rt:VK
 bk:St->Hp->Prop:=fun _ _=>False
 ct:St->Hp->Prop:=fun _ _=>False
abbrev TS:=cW->St->Hp->Prop
def EP (X:Cx) (pins:List (Addr×Obj)) (U:St) (Q:VK) (u:Value) (s':Shared):Prop:=∃v H',Inv X pins U H' s'/\RelV v u/\Q v H'
def TP (X:Cx) (pins:List (Addr×Obj)) (U:St) (Q:Bool->Hp->Prop) (b:Bool) (s':Shared):Prop:=∃H',Inv X pins U H' s'/\Q b H'
def AP (X:Cx) (pins:List (Addr×Obj)) (U:St) (Q:List V->Hp->Prop) (us:List Value) (s':Shared):Prop:=∃vs H',Inv X pins U H' s'/\Vals vs us/\Q vs H'
def SP (X:Cx) (pins:List (Addr×Obj)) (D:cW) (f:Flow) (s':Shared):Prop:=
 match f with
 | .next=>∃U' H',Inv X pins U' H' s'/\D.nx U' H'
 | .brk=>∃U' H',Inv X pins U' H' s'/\D.bk U' H'
 | .cont=>∃U' H',Inv X pins U' H' s'/\D.ct U' H'
 | .ret u=>∃v U' H',Inv X pins U' H' s'/\RelV v u/\D.rt v H'
def PE (X:Cx) (e:Expr) (t:TE):Prop:=
 ∀(pins:List (Addr×Obj)) (s:Shared) (U:St) (H:Hp) (Q:VK),Inv X pins U H s->t U H Q->wpAny (model X.prog X.w) X.A (eval e X.env) (EP X pins U Q) X.xe s
def PT (X:Cx) (e:Expr) (t:TT):Prop:=
 ∀(pins:List (Addr×Obj)) (s:Shared) (U:St) (H:Hp) (Q:Bool->Hp->Prop),Inv X pins U H s->t U H Q->wpAny (model X.prog X.w) X.A (isTrue e X.env (eval e X.env)) (TP X pins U Q) X.xe s
def PW (X:Cx) (e:Expr) (t:TT):Prop:=
 ∀(whole:Sem Value) (pins:List (Addr×Obj)) (s:Shared) (U:St) (H:Hp) (Q:Bool->Hp->Prop),Inv X pins U H s->t U H Q->wpAny (model X.prog X.w) X.A (isTrue e X.env whole) (TP X pins U Q) X.xe s
theorem PW.pt {t:TT} (h:PW X e t):PT X e t:=h _
def PA (X:Cx) (es:List Expr) (t:TA):Prop:=
 ∀(pos:Pos) (pins:List (Addr×Obj)) (s:Shared) (U:St) (H:Hp) (Q:List V->Hp->Prop),Inv X pins U H s->t U H Q->wpAny (model X.prog X.w) X.A (spliced (backTo pos (starEach es X.env))) (AP X pins U Q) X.xe s
def PS (X:Cx) (st:Stmt) (t:TS):Prop:=
 ∀(pins:List (Addr×Obj)) (s:Shared) (U:St) (H:Hp) (D:cW),Inv X pins U H s->t D U H->wpAny (model X.prog X.w) X.A (exec st X.env) (SP X pins D) X.xe s
def PSs (X:Cx) (st:List Stmt) (t:TS):Prop:=
 ∀(pins:List (Addr×Obj)) (s:Shared) (U:St) (H:Hp) (D:cW),Inv X pins U H s->t D U H->wpAny (model X.prog X.w) X.A (execs st X.env) (SP X pins D) X.xe s
theorem bj {t:Sem α} {Q Q':α->Shared->Prop} {E:Value->Shared->Prop} {s:Shared} (h:wpAny M A t Q E s) (hQ:∀a s,Q a s->Q' a s):wpAny M A t Q' E s:=wpAny_mono h hQ fun _ _ x=>x
section
variable {X:Cx}
def aS (i:Nat):TE:=fun U H Q=>∃v,U[i]?=some (some v)/\Q v H
def tC (v:V):TE:=fun _ H Q=>Q v H
theorem km {i:Nat} (hN:X.N[i]?=some x) (hv:Dv X.env.scope x) (hd:(x==("__debug__":Str))=false:=by decide) (hcd:(x==("__classdict__":Str))=false:=by decide):PE X (.Name x pos) (aS i):=by
 intro pins s U H Q I h;obtain ⟨v,e,h⟩:=h;obtain ⟨m,hn,hl⟩:=I.loc;obtain ⟨u,r,l⟩:=hl i x v hN e hv;have fin:EP X pins U Q u s:=⟨v,H,I,r,h⟩
 rcases l with ⟨hk,hm⟩ | ⟨hk,c,hc,hcell⟩
 ·exact wpAny_Name (wpAny_loadName_local I.ok.kind hk hn hm fin) hd
 ·rcases hk with hk | hk
  ·exact wpAny_Name (wpAny_loadName_cell I.ok.kind hk hc hcell fin) hd
  ·exact wpAny_Name (wpAny_loadName_free I.ok.kind hk hc hcell fin hcd) hd
theorem uQ {i j pos}:PE X (.Constant (.int i) j pos) (tC (.int i)):=fun _ _ _ H _ I h=>wpAny_Constant_int ⟨.int i,H,I.tok _,⟨_,rfl⟩,h⟩
theorem lh {b j pos}:PE X (.Constant (.bool b) j pos) (tC (.bl b)):=fun _ _ _ H _ I h=>Constant_bool ⟨.bl b,H,I,rfl,h⟩
theorem BY {j pos}:PE X (.Constant .none j pos) (tC .non):=fun _ _ _ H _ I h=>Constant_none ⟨.non,H,I,rfl,h⟩
theorem uP {x j pos}:PE X (.Constant (.str x) j pos) (tC (.str x)):=fun _ _ _ H _ I h=>Calls.Constant_str ⟨.str x,H,I.tok _,⟨_,rfl⟩,h⟩
def Gl (X:Cx) (x:Str):Prop:=X.env.kindOf x=some .globalImplicit
theorem Ei {E:Value->Shared->Prop} {s:Shared} {H:Hp} {Q:Value->Shared->Prop} (I:Inv X pins U H s) (hg:Gl X x) (hm:X.mg x=some u) (h:Q u s)
  (hd:(x==("__debug__":Str))=false:=by decide):wpAny (model X.prog X.w) X.A (eval (.Name x pos) X.env) Q E s:=
 Calls.Name_function_global I.ok.kind hg (Calls.loadGlobal_global (by rw [I.ok.glob];exact I.mod.glob.keeps I.bk) hm h) hd
theorem wH {E:Value->Shared->Prop} {s:Shared} {H:Hp} {Q:Value->Shared->Prop} (I:Inv X pins U H s) (hg:Gl X x) (hm:X.mg x=none) (hv:bootBuiltins x=some u) (h:Q u s)
  (hn:x ≠ "__name__":=by decide) (hd:(x==("__debug__":Str))=false:=by decide):wpAny (model X.prog X.w) X.A (eval (.Name x pos) X.env) Q E s:=by
 obtain ⟨mb,h1,h2⟩:=I.mod.blt;exact Calls.Name_function_global I.ok.kind hg (Calls.loadGlobal_builtin (by rw [I.ok.glob];exact I.mod.glob.keeps I.bk) hm (by rw [I.ok.blt];exact h1.keeps I.bk) ((h2 x hn).trans hv) h) hd
theorem pv {v:V} (hg:Gl X x) (hm:X.mg x=some u) (r:RelV v u) (hd:(x==("__debug__":Str))=false:=by decide):PE X (.Name x pos) (tC v):=
 fun _ _ _ H _ I h=>Ei I hg hm ⟨v,H,I,r,h⟩ hd
theorem pz {v:V} (hg:Gl X x) (hm:X.mg x=none) (hv:bootBuiltins x=some u) (r:RelV v u) (hn:x ≠ "__name__":=by decide) (hd:(x==("__debug__":Str))=false:=by decide):PE X (.Name x pos) (tC v):=
 fun _ _ _ H _ I h=>wH I hg hm hv ⟨v,H,I,r,h⟩ hn hd
variable {a b:Expr} {ta tb:TE} {pos:Pos}
def PC (X:Cx) (op:CmpOp) (a b:Expr) (t:TE):Prop:=
 ∀(pins:List (Addr×Obj)) (s:Shared) (U:St) (H:Hp) (Q:VK),Inv X pins U H s->t U H Q ->
  wpAny (model X.prog X.w) X.A (eval a X.env) (fun v s₁=>wpAny (model X.prog X.w) X.A (eval b X.env) (fun u s₂=>wpAny (model X.prog X.w) X.A (compareOp op v u) (EP X pins U Q) X.xe s₂) X.xe s₁) X.xe s
def tB (t:TE):TT:=fun U H Q=>t U H fun x H1=>∃c,x=.bl c/\Q c H1
theorem uD {op:CmpOp} {t:TE} (h:PC X op a b t) (h1:behindInMarks op b=false:=by first | exact nobehind _ (by decide) (by decide) | rfl):PT X (.Compare a [op] [b] pos) (tB t):=by
 intro pins s U H Q I hw;refine wpAny_isTrue_Compare1 (bj (h pins s U H _ I hw) fun v s1 h1=>bj h1 fun u s2 h2=>bj h2 fun c s3 ⟨x,H1,I1,r1,q1⟩=>?_) h1
 obtain ⟨d,rfl,q⟩:=q1
 cases r1;exact wpAny_truthy_bool ⟨H1,I1,q⟩
variable {tA tB':TT} {rest:List Expr}
def ER (t u:TT):TT:=fun U H Q=>t U H fun c H1=>if c=true then u U H1 Q else Q false H1
def KU (t u:TT):TT:=fun U H Q=>t U H fun c H1=>if c=true then Q true H1 else u U H1 Q
def EL (t:TT):TT:=fun U H Q=>t U H fun c H1=>Q (!c) H1
theorem xR (ha:PT X a tA):PW X (.BoolOp .And [a] pos) tA:=by
 intro wh pins s U H Q I h;refine isTrue_and (bj (ha pins s U H Q I h) fun c s1 e=>?_)
 cases c with
 | true=>exact isTrue_and_nil e
 | false=>exact e
theorem uB (ha:PT X a tA):PW X (.BoolOp .Or [a] pos) tA:=by
 intro wh pins s U H Q I h;refine isTrue_or (bj (ha pins s U H Q I h) fun c s1 e=>?_)
 cases c with
 | false=>exact isTrue_or_nil e
 | true=>exact e
theorem BQ (ha:PT X a tA) (hb:PW X (.BoolOp .And (b::rest) pos) tB'):PW X (.BoolOp .And (a::b::rest) pos) (ER tA tB'):=by
 intro wh pins s U H Q I h;refine isTrue_and (bj (ha pins s U H _ I h) fun c s1 ⟨H1,I1,q1⟩=>?_)
 cases c with
 | true=>exact hb wh pins s1 U H1 Q I1 q1
 | false=>exact ⟨H1,I1,q1⟩
theorem zX (ha:PT X a tA) (hb:PW X (.BoolOp .Or (b::rest) pos) tB'):PW X (.BoolOp .Or (a::b::rest) pos) (KU tA tB'):=by
 intro wh pins s U H Q I h;refine isTrue_or (bj (ha pins s U H _ I h) fun c s1 ⟨H1,I1,q1⟩=>?_)
 cases c with
 | true=>exact ⟨H1,I1,q1⟩
 | false=>exact hb wh pins s1 U H1 Q I1 q1
theorem uC (ha:PT X a tA):PT X (.UnaryOp .Not a pos) (EL tA):=by
 intro pins s U H Q I h;exact isTrue_not (ha pins s U H (fun c H1=>Q (!c) H1) I h)
def zN (ta tb:TE):TE:=fun U H Q=>ta U H fun x H1=>∃c,x=.bl c/\if c=true then tb U H1 Q else Q (.bl false) H1
def zK (ta:TE):TE:=fun U H Q=>ta U H fun x H1=>∃c,x=.bl c/\Q (.bl (!c)) H1
theorem pe_one {op} {t:TE} (h:PE X a t):PE X (.BoolOp op [a] pos) t:=fun pins s U H Q I hw=>BoolOp_one (h pins s U H Q I hw)
theorem B0 (ha:PE X a ta) (hb:PE X (.BoolOp .And (b::rest) pos) tb):PE X (.BoolOp .And (a::b::rest) pos) (zN ta tb):=by
 intro pins s U H Q I h;refine BoolOp_and (bj (ha pins s U H _ I h) fun v s1 ⟨x,H1,I1,r1,q1⟩=>?_)
 obtain ⟨c,rfl,q1⟩:=q1
 cases r1;refine wpAny_truthy_bool ?_
 cases c with
 | true=>exact hb pins s1 U H1 Q I1 q1
 | false=>exact ⟨.bl false,H1,I1,rfl,q1⟩
theorem BX (ha:PE X a ta):PE X (.UnaryOp .Not a pos) (zK ta):=by
 intro pins s U H Q I h;refine UnaryOp_ (bj (ha pins s U H _ I h) fun v s1 ⟨x,H1,I1,r1,q1⟩=>?_)
 obtain ⟨c,rfl,q1⟩:=q1
 cases r1;exact not_of (wpAny_truthy_bool ⟨.bl (!c),H1,I1,rfl,q1⟩)
def KY (t:TT) (ta tb:TE):TE:=fun U H Q=>t U H fun c H1=>if c=true then ta U H1 Q else tb U H1 Q
theorem uR (hc:PT X c tA) (ha:PE X a ta) (hb:PE X b tb):PE X (.IfExp c a b pos) (KY tA ta tb):=by
 intro pins s U H Q I h;refine wpAny_IfExp (bj (hc pins s U H _ I h) fun d s1 ⟨H1,I1,q1⟩=>?_)
 cases d with
 | true=>exact ha pins s1 U H1 Q I1 q1
 | false=>exact hb pins s1 U H1 Q I1 q1
end
def SqL (K:Fg) (H:Hp) (a:Addr) (xs:List V):Prop:=
 Rd H a (.lst xs) \/
  ∃(o:Obj) (its:Array Value) (n:Nat),K.lookup a=some o/\o.cls=.type "list"/\o.dict=none/\o.data=.seq its n/\its.size<=sizeLine/\Vals xs its.toList
def SqT (K:Fg) (H:Hp) (a:Addr) (xs:List V):Prop:=
 Rd H a (.tup xs) \/
  ∃(o:Obj) (its:Array Value) (n:Nat),K.lookup a=some o/\o.cls=.type "tuple"/\o.data=.seq its n/\its.size<=sizeLine/\Vals xs its.toList
def KA:Value->Option V
 | .none=>some .non
 | .bool b=>some (.bl b)
 | .int i _=>some (.int i)
 | .str x _=>some (.str x)
 | .bytes b _=>some (.byt b)
 | .float b _=>some (.flt b)
 | .ref a=>some (.ref a)
 | .type n=>some (.ty n)
 | _=>none
theorem RelV.abs {x:V} (r:RelV x u):KA u=some x:=by
 cases x with
 | non=>cases r;rfl
 | bl _=>cases r;rfl
 | int _=>obtain ⟨t,rfl⟩:=r;rfl
 | str _=>obtain ⟨t,rfl⟩:=r;rfl
 | byt _=>obtain ⟨t,rfl⟩:=r;rfl
 | flt _=>obtain ⟨t,rfl⟩:=r;rfl
 | ref _=>cases r;rfl
 | ty _=>cases r;rfl
theorem RelV.inj {x y:V} (r:RelV x u) (q:RelV y u):x=y:=Option.some.inj (r.abs.symm.trans q.abs)
theorem Vals.inj:∀{xs ys:List V} {us:List Value},Vals xs us->Vals ys us->xs=ys
 | _,_,_,.nil,.nil=>rfl
 | _,_,_,.cons r t,.cons r' t'=>by rw [r.inj r',Vals.inj t t']
section
variable {X:Cx} {pins:List (Addr×Obj)} {U:St} {H:Hp} {s:Shared} {a:Addr} {xs ys:List V}
theorem SqL.of (h:H a=some (.lst xs)):SqL K H a xs:=.inl (.inl h)
theorem SqT.of (h:H a=some (.tup xs)):SqT K H a xs:=.inl (.inl h)
theorem Inv.list (I:Inv X pins U H s) (h:SqL X.K H a xs):∃its:List Value,Vals xs its/\PlainL s.heap a its.toArray/\xs.length<=sizeLine:=by
 rcases h with h | ⟨o,its,n,hk,hc,hd,hs,hz,r⟩
 ·obtain ⟨z,its,n,r,e⟩:=h.ok I.hok
  exact ⟨its,r,⟨_,n,e,rfl,rfl,rfl⟩,z⟩
 ·refine ⟨its.toList,r,⟨o,n,I.kIn a o hk,hc,hd,by simpa using hs⟩,?_⟩
  have e:=r.length
  simp only [Array.length_toList] at e
  omega
theorem Inv.tuple (I:Inv X pins U H s) (h:SqT X.K H a xs):∃its:List Value,Vals xs its/\IsTup s.heap a its.toArray/\xs.length<=sizeLine:=by
 rcases h with h | ⟨o,its,n,hk,hc,hs,hz,r⟩
 ·obtain ⟨z,its,r,p⟩:=h.ok I.hok
  exact ⟨its,r,p,z⟩
 ·refine ⟨its.toList,r,⟨o,I.kIn a o hk,hc,n,by simpa using hs⟩,?_⟩
  have e:=r.length
  simp only [Array.length_toList] at e
  omega
theorem Inv.list_inj (I:Inv X pins U H s) (h:SqL X.K H a xs) (h':SqL X.K H a ys):xs=ys:=by
 obtain ⟨its,r,⟨o,n,e,_,_,d⟩,_⟩:=I.list h;obtain ⟨its',r',⟨o',n',e',_,_,d'⟩,_⟩:=I.list h'
 rw [e] at e';cases e'
 rw [d] at d';injection d' with d1 _
 have:its=its':=by simpa using congrArg Array.toList d1
 subst this;exact r.inj r'
end
abbrev Cx.wish (X:Cx) (E:Value->Shared->Prop):Cx:={ X with xe:=E }
abbrev Cx.nox (X:Cx):Cx:=X.wish fun _ _=>False
theorem Cx.Ok.wish (ok:X.Ok) (E:Value->Shared->Prop):(X.wish E).Ok:=
 ⟨ok.mod,ok.kind,ok.glob,ok.blt,ok.above,ok.inj,ok.has,ok.cab,ok.hd,ok.frames,ok.stk,ok.exf,ok.bs,ok.bsz,ok.noex,ok.exfs,ok.funs,ok.frf⟩
theorem Cx.Ok.unwish {E:Value->Shared->Prop} (ok:(X.wish E).Ok):X.Ok:=
 ⟨ok.mod,ok.kind,ok.glob,ok.blt,ok.above,ok.inj,ok.has,ok.cab,ok.hd,ok.frames,ok.stk,ok.exf,ok.bs,ok.bsz,ok.noex,ok.exfs,ok.funs,ok.frf⟩
section
variable {X:Cx} {pins:List (Addr×Obj)} {U:St} {H:Hp} {s:Shared} {E:Value->Shared->Prop}
theorem Inv.wish (I:Inv X pins U H s) (E:Value->Shared->Prop):Inv (X.wish E) pins U H s:=⟨I.ok.wish E,I.os,I.bare,I.base,I.loc,I.cell,I.free,I.freeC,I.pin,I.hok,I.len⟩
theorem Inv.unwish (I:Inv (X.wish E) pins U H s):Inv X pins U H s:=⟨I.ok.unwish,I.os,I.bare,I.base,I.loc,I.cell,I.free,I.freeC,I.pin,I.hok,I.len⟩
theorem SP.unwish {D:cW} {f:Flow} (h:SP (X.wish E) pins D f s'):SP X pins D f s':=by
 cases f with
 | next=>obtain ⟨U',H',I,q⟩:=h;exact ⟨U',H',I.unwish,q⟩
 | brk=>obtain ⟨U',H',I,q⟩:=h;exact ⟨U',H',I.unwish,q⟩
 | cont=>obtain ⟨U',H',I,q⟩:=h;exact ⟨U',H',I.unwish,q⟩
 | ret u=>obtain ⟨v,U',H',I,r,q⟩:=h;exact ⟨v,U',H',I.unwish,r,q⟩
theorem PSs.nox {st:List Stmt} {t:TS} (h:PSs X.nox st t):PSs X st t:=fun pins s U H D I hw=>
 wpAny_mono (h pins s U H D (I.wish _) hw) (fun _ _ q=>q.unwish) fun _ _ z=>False.elim z
end
section
variable {X:Cx} {st:Stmt} {rest:List Stmt} {t u:TS} {e:Expr} {te:TE} {pos:Pos}
def kE:TS:=fun D U H=>D.nx U H
def d7 (t u:TS):TS:=fun D U H=>t { D with nx:=u D } U H
theorem GY:PSs X [] kE:=fun _ _ U H _ I h=>wpAny_execs_nil ⟨U,H,I,h⟩
theorem ox (h1:PS X st t) (h2:PSs X rest u):PSs X (st::rest) (d7 t u):=by
 intro pins s U H D I h;refine wpAny_execs_cons (bj (h1 pins s U H { D with nx:=u D } I h) fun f s1 q=>?_)
 cases f with
 | next=>
  obtain ⟨U',H',I',q⟩:=q;exact h2 pins s1 U' H' D I' q
 | ret v=>exact q
 | brk=>exact q
 | cont=>exact q
theorem wK (h1:PS X st t):PSs X [st] t:=by
 intro pins s U H D I h;refine wpAny_execs_cons (bj (h1 pins s U H D I h) fun f s1 q=>?_)
 cases f with
 | next=>exact wpAny_execs_nil q
 | ret v=>exact q
 | brk=>exact q
 | cont=>exact q
theorem Inv.quiet {H:Hp} {s:Shared} (I:Inv X pins U H s):interactive X.env=false:=by simp [interactive,I.ok.kind]
def gP (te:TE):TS:=fun D U H=>te U H fun _ H1=>D.nx U H1
theorem El (he:PE X e te) (hs:swapsWith e none pos.line X.env=pure false:=by rfl):PS X (.Expr e pos) (gP te):=by
 intro pins s U H D I h;exact wpAny_Expr_any (bj (he pins s U H _ I h) fun v s1 ⟨x,H1,I1,r1,q1⟩=>⟨U,H1,I1,q1⟩) I.quiet hs
def tJ (te:TE):TS:=fun D U H=>te U H D.rt
theorem Ec (he:PE X e te):PS X (.Return (some e) pos) (tJ te):=by
 intro pins s U H D I h;exact wpAny_Return_some (bj (he pins s U H _ I h) fun v s1 ⟨x,H1,I1,r1,q1⟩=>⟨x,U,H1,I1,r1,q1⟩)
def tL (c:TT) (t u:TS):TS:=fun D U H=>c U H fun b H1=>if b=true then t D U H1 else u D U H1
theorem uG {a b:List Stmt} (hc:PT X c tc) (ha:PSs X a t) (hb:PSs X b u):PS X (.If c a b pos) (tL tc t u):=by
 intro pins s U H D I h;refine wpAny_If (bj (hc pins s U H _ I h) fun d s1 ⟨H1,I1,q1⟩=>?_)
 cases d with
 | true=>exact ha pins s1 U H1 D I1 q1
 | false=>exact hb pins s1 U H1 D I1 q1
end
abbrev TG:=V->St->Hp->(St->Hp->Prop)->Prop
abbrev Dx:=List V->St->Hp->(St->Hp->Prop)->Prop
def PG (X:Cx) (target:Expr) (t:TG):Prop:=
 ∀(pins:List (Addr×Obj)) (s:Shared) (U:St) (H:Hp) (v:V) (u:Value) (Q:St->Hp->Prop),Inv X pins U H s->RelV v u->t v U H Q ->
  wpAny (model X.prog X.w) X.A (assign target X.env u) (fun _ s'=>∃U' H',Inv X pins U' H' s'/\Q U' H') X.xe s
def H0 (X:Cx) (ts:List Expr) (t:Dx):Prop:=
 ∀(pins:List (Addr×Obj)) (s:Shared) (U:St) (H:Hp) (vs:List V) (us:List Value) (Q:St->Hp->Prop),Inv X pins U H s->Vals vs us->t vs U H Q ->
  wpAny (model X.prog X.w) X.A (assignInOrder ((assignEach ts X.env).map (·.2)) us) (fun _ s'=>∃U' H',Inv X pins U' H' s'/\Q U' H') X.xe s
abbrev Dw:=V->V->V->Hp->(Hp->Prop)->Prop
def Gy (X:Cx) (t:Dw):Prop:=
 ∀(pins:List (Addr×Obj)) (s:Shared) (U:St) (H:Hp) (o i v:V) (ov iv u:Value) (Q:Hp->Prop),Inv X pins U H s->RelV o ov->RelV i iv->RelV v u->t o i v H Q ->
  wpAny (model X.prog X.w) X.A (setItem ov iv u) (fun _ s'=>∃H',Inv X pins U H' s'/\Q H') X.xe s
abbrev HY:=V->V->Hp->VK->Prop
def Lp (X:Cx) (op:Operator) (t:HY):Prop:=
 ∀(pins:List (Addr×Obj)) (s:Shared) (U:St) (H:Hp) (x y:V) (v u:Value) (Q:VK),Inv X pins U H s->RelV x v->RelV y u->t x y H Q ->
  wpAny (model X.prog X.w) X.A (inplaceOp op v u) (EP X pins U Q) X.xe s
section
variable {X:Cx} {pos:Pos}
def gName (i:Nat):TG:=fun v U H Q=>Q (U.set i (some v)) H
theorem sN {i:Nat} (hN:X.N.Nodup) (hi:X.N[i]?=some x) (hx:Loc X.env.scope x) (hf:X.fn x=true\/X.env.scope.names.lookup x=some .local:=by first | exact .inl rfl | exact .inr rfl | assumption):PG X (.Name x pos) (gName i):=by
 intro pins s U H v u Q I r h;exact wpAny_assign_Name (Hj I hN hi hx r (fun s' I'=>⟨_,H,I',h⟩) hf)
def C3:Dx:=fun vs U H Q=>vs=[]/\Q U H
def lS (t:TG) (u:Dx):Dx:=fun vs U H Q=>∃v r,vs=v::r/\t v U H fun U' H'=>u r U' H' Q
theorem pq:H0 X [] C3:=by
 intro pins s U H vs us Q I r h;obtain ⟨e,h⟩:=h;subst e
 cases r;exact assignInOrder_nil ⟨U,H,I,h⟩
theorem Hi {t:TG} {u:Dx} (h1:PG X e t) (h2:H0 X es u)
  (hs:(assignEach (e::es) X.env).map (·.2)=assign e X.env::(assignEach es X.env).map (·.2):=by rfl):H0 X (e::es) (lS t u):=by
 intro pins s U H vs us Q I r h;obtain ⟨v,vr,e1,h⟩:=h;subst e1
 cases r with
 | cons r rr=>
  rw [hs];refine assignInOrder_cons (bj (h1 pins s U H _ _ _ I r h) fun _ s1 ⟨U1,H1,I1,q1⟩=>?_)
  exact h2 pins s1 U1 H1 _ _ Q I1 rr q1
def C2 (K:Fg) (n:Nat) (t:Dx):TG:=fun v U H Q=>∃a xs,v=.ref a/\SqT K H a xs/\xs.length=n/\t xs U H Q
theorem uL {k:Nat} {t:Dx} (hc:X.calm=true) (h:H0 X es t)
  (hn:(assignEach es X.env).length=n:=by rfl) (hst:(assignEach es X.env).findIdx? (·.1)=none:=by rfl):PG X (.Tuple es k pos) (C2 X.K n t):=by
 intro pins s U H v u Q I r hw;obtain ⟨a,xs,e1,hq,hl,hw⟩:=hw;subst e1
 cases r;obtain ⟨its,rv,ht,hz⟩:=I.tuple hq;refine assign_Tuple_tuple (I.ok.hd hc) ht (by simp [hn,<-hl,rv.length]) hst fun h' hx=>?_
 have I1:Inv X pins U H { s with heap:=h' }:=I.kept (t':=s.toks) fun b o e=>hx b o (Nat.ne_of_lt (Heap.lt_size e)) e
 exact h pins _ U H xs _ Q I1 (by simpa using rv) hw
def gSub (to ti:TE) (t:Dw):TG:=fun v U H Q=>to U H fun o H1=>ti U H1 fun i H2=>t o i v H2 fun H3=>Q U H3
theorem BW {o i:Expr} {to ti:TE} {t:Dw} (ho:PE X o to) (hi:PE X i ti) (hs:Gy X t)
  (ha:∀v,assign (.Subscript o i pos) X.env v=(do
   let ov <-holding [v] (eval o X.env)
   let iv <-holding [v,ov] (eval i X.env)
   standAt pos
   holding [v,ov,iv] (setItem ov iv v)
   release [v,ov,iv] []):=by intro _;rfl):PG X (.Subscript o i pos) (gSub to ti t):=by
 intro pins s U H v u Q I r h;rw [ha];refine L8 (wpAny_holding (bj (ho pins s U H _ I h) fun ov s1 ⟨x,H1,I1,r1,q1⟩=>?_))
 refine L8 (wpAny_holding (bj (hi pins s1 U H1 _ I1 q1) fun iv s2 ⟨y,H2,I2,r2,q2⟩=>?_))
 refine L8 (wpAny_standAt (L8 (wpAny_holding (bj (hs pins s2 U H2 x y v ov iv u _ I2 r1 r2 r q2) fun _ s3 ⟨H3,I3,q3⟩=>?_))))
 exact wpAny_release ⟨U,H3,I3,q3⟩
def fG (te:TE) (g:TG):TS:=fun D U H=>te U H fun x H1=>g x U H1 D.nx
theorem BU {g:TG} (he:PE X e te) (hg:PG X tg g) (hs:swapsWithSole [tg] e pos.line X.env=pure false:=by rfl) (hw:swappedStores [tg] e X.env=pure none:=by rfl)
  (h1:(assignEach [tg] X.env).map (·.2)=[assign tg X.env]:=by rfl):PS X (.Assign [tg] e pos) (fG te g):=by
 intro pins s U H D I h;refine wpAny_Assign_stores (bj (he pins s U H _ I h) fun v s1 ⟨x,H1,I1,r1,q1⟩=>?_) hs hw
 rw [h1];exact bj (hg pins s1 U H1 x v _ I1 r1 q1) fun _ s2 q=>q
theorem Aw {i:Nat} (hN:X.N.Nodup) (hi:X.N[i]?=some x) (hx:Loc X.env.scope x) (he:PE X e te) (hs:swapsWith e (some (.Name x pos')) pos.line X.env=pure false:=by rfl) (hf:X.fn x=true\/X.env.scope.names.lookup x=some .local:=by first | exact .inl rfl | exact .inr rfl | assumption) :
  PS X (.Assign [.Name x pos'] e pos) (fG te (gName i)):=by
 intro pins s U H D I h;refine wpAny_Assign_Name (bj (he pins s U H _ I h) fun v s1 ⟨y,H1,I1,r1,q1⟩=>?_) hs
 exact Hj I1 hN hi hx r1 (fun s2 I2=>⟨_,H1,I2,q1⟩) hf
def EO (i:Nat) (te:TE) (ti:HY):TS:=fun D U H=>∃x,U[i]?=some (some x)/\te U H fun y H1=>ti x y H1 fun z H2=>D.nx (U.set i (some z)) H2
theorem BS {i:Nat} {op:Operator} {ti:HY} (hN:X.N.Nodup) (hi:X.N[i]?=some x) (hx:Loc X.env.scope x) (he:PE X e te) (ho:Lp X op ti) (hf:X.fn x=true\/X.env.scope.names.lookup x=some .local:=by first | exact .inl rfl | exact .inr rfl | assumption) :
  PS X (.AugAssign (.Name x pos') op e pos) (EO i te ti):=by
 intro pins s U H D I h;obtain ⟨v,e1,h⟩:=h;obtain ⟨m,hn,hl⟩:=I.loc;have vis:Dv X.env.scope x:=by rcases hx with k | k;exact .inl k;exact .inr (.inl k)
 obtain ⟨u,r,l⟩:=hl i x v hi e1 vis;refine wpAny_AugAssign_Name ?_
 have go:wpAny (model X.prog X.w) X.A (eval e X.env) (fun w s₂=>wpAny (model X.prog X.w) X.A (inplaceOp op u w) (fun r s₃=>wpAny (model X.prog X.w) X.A (storeName X.env x r) (fun _=>SP X pins D .next) X.xe s₃) X.xe s₂) X.xe s:=by
  refine bj (he pins s U H _ I h) fun w s1 ⟨y,H1,I1,r1,q1⟩=>?_
  refine bj (ho pins s1 U H1 v y u w _ I1 r r1 q1) fun z s2 ⟨zv,H2,I2,r2,q2⟩=>?_
  exact Hj I2 hN hi hx r2 (fun s3 I3=>⟨_,H2,I3,q2⟩) hf
 rcases l with ⟨hk,hm⟩ | ⟨hk,c,hc,hcell⟩
 ·exact wpAny_loadName_local I.ok.kind hk hn hm go
 ·rcases hk with hk | hk
  ·exact wpAny_loadName_cell I.ok.kind hk hc hcell go
  ·rcases hx with k | k
   ·have:X.env.scope.names.lookup x=some .free:=hk
    rw [k] at this;cases this
   ·have:X.env.scope.names.lookup x=some .free:=hk
    rw [k] at this;cases this
def Lh (f:Int->Int->Int):HY:=fun x y H Q=>∃i j,x=.int i/\y=.int j/\Q (.int (f i j)) H
theorem CG:Lp X .Add (Lh fun i j=>i+j):=by
 intro pins s U H x y v u Q I r1 r2 h;obtain ⟨i,j,e1,e2,q⟩:=h;subst e1;subst e2;obtain ⟨t,rfl⟩:=r1;obtain ⟨t',rfl⟩:=r2;exact iadd_int ⟨.int _,H,I.tok _,⟨_,rfl⟩,q⟩
end
section
variable {X:Cx} {pos:Pos}
def GF (c:TT) (tb:TS):TS:=fun D U H=>∃W:Nat->St->Hp->Prop,(∃m,W m U H)/\∀m U H,W m U H ->
 c U H fun b H1=>if b=true then ∃N:St->Hp->Prop,(∀U' H',N U' H'->∃m',m'<m/\W m' U' H')/\tb { D with nx:=N,ct:=N,bk:=D.nx } U H1 else D.nx U H1
theorem kZ {body:List Stmt} (hp:PassesOwn (model X.prog X.w) X.A X.env X.xe) (hc:PT X c tc) (hb:PSs X body tb):PS X (.While c body [] pos) (GF tc tb):=by
 intro pins s U H D I h;obtain ⟨W,⟨m0,w0⟩,turn⟩:=h;refine wpAny_While (codeAny_whileLoop (fun n s'=>∃U' H',Inv X pins U' H' s'/\W n U' H') ?_ m0 ⟨U,H,I,w0⟩)
 rintro n s1 ⟨U1,H1,I1,w1⟩
 refine wpAny_passesOwn hp (bj (hc pins s1 U1 H1 _ I1 (turn n U1 H1 w1)) fun b s2 ⟨H2,I2,q2⟩=>?_)
 cases b with
 | true=>
  obtain ⟨N,hN,q2⟩:=q2;rw [if_pos rfl];refine wpAny_passesOwn hp (bj (hb pins s2 U1 H2 _ I2 q2) fun f s3 q3=>?_)
  cases f with
  | next=>
   obtain ⟨U3,H3,I3,n3⟩:=q3;obtain ⟨m',hm,w3⟩:=hN U3 H3 n3;exact ⟨m',hm,U3,H3,I3,w3⟩
  | cont=>
   obtain ⟨U3,H3,I3,n3⟩:=q3;obtain ⟨m',hm,w3⟩:=hN U3 H3 n3;exact ⟨m',hm,U3,H3,I3,w3⟩
  | brk=>exact q3
  | ret v=>exact q3
 | false=>
  rw [if_neg Bool.false_ne_true];exact wpAny_execs_nil ⟨U1,H2,I2,q2⟩
end
structure It where
 go:Nat->Hp->Prop
 yld:Nat->Hp->V->Hp->Prop
 stop:Nat->Hp->Prop
def iP (X:Cx) (pins:List (Addr×Obj)) (H:Hp) (b:Addr):Prop:=
 H b=none/\b≠X.env.locals/\b∉X.fs/\(b∈X.ex\/X.s₀.heap.objs.size<=b)/\(∀x c,X.env.cells.lookup x=some c->c≠b)/\∀p∈X.pn++pins,p.1≠b
theorem Inv.fpOk {H H':Hp} {s:Shared} (I:Inv X pins U H s) (hb:s.heap.objs.size<=b) (hn:H' b=none):iP X pins H' b:=by
 refine ⟨hn,Nat.ne_of_gt (Nat.lt_of_lt_of_le I.lt hb),I.nofs hb,.inr (Nat.le_trans I.sz hb),fun x c e z=>?_,fun p hp z=>?_⟩
 ·obtain ⟨v,q⟩:=I.cell x c e
  exact absurd (Nat.lt_of_lt_of_le q.lt (by rw [z];exact hb)) (Nat.lt_irrefl _)
 ·exact absurd (Nat.lt_of_lt_of_le (Heap.lt_size (I.pin p hp).1) (by rw [z];exact hb)) (Nat.lt_irrefl _)
structure wu (P:Program) (w:World) (K:Fg) (tg:Expr) (J:It) (fp:List Addr) (it:Addr) (tn:Nat->Heap->Prop):Prop where
 mem:it∈fp
 obj:∀i h,tn i h->∀b∈fp,∃o,h.get? b=some o/\∀v,o.data≠.cell v
 keep:∀i h h',tn i h->(∀b∈fp,∀o,h.get? b=some o->h'.get? b=some o)->tn i h'
 item:∀(X:Cx),X.prog=P->X.w=w->X.K=K->X.calm=true->∀(i:Nat) (pins:List (Addr×Obj)) (s:Shared) (U:St) (H:Hp) (E:Value->Shared->Prop),Inv X pins U H s->(∀b∈fp,iP X pins H b)->tn i s.heap->J.go i H ->
  wpAny (model P w) X.A (pyNext (.ref it)) (fun r s1=>∃u,r=some u /\
   wpAny (model P w) X.A (letOwnedTupleGo tg (.ref it) u) (fun _ s2=>∃x H',Inv X pins U H' s2/\RelV x u/\J.yld i H x H'/\tn (i+1) s2.heap/\∀b∈fp,H' b=none) E s1) E s
 done:∀(X:Cx),X.prog=P->X.w=w->X.K=K->X.calm=true->∀(i:Nat) (pins:List (Addr×Obj)) (s:Shared) (U:St) (H:Hp) (E:Value->Shared->Prop),Inv X pins U H s->(∀b∈fp,iP X pins H b)->tn i s.heap->J.stop i H ->
  wpAny (model P w) X.A (pyNext (.ref it)) (fun r s1=>r=none/\Inv X pins U H s1) E s
 self:∀(A:Around) (i:Nat) (s:Shared) (Q:Value->Shared->Prop) (E:Value->Shared->Prop),tn i s.heap->Q (.ref it) s->wpAny (model P w) A (pyIter (.ref it)) Q E s
abbrev TI:=St->Hp->(It->Hp->Prop)->Prop
def Lq (X:Cx) (pins:List (Addr×Obj)) (U:St) (tg:Expr) (R:It->Hp->Prop) (itv:Value) (s2:Shared):Prop:=
 ∃(it:Addr) (fp:List Addr) (tn:Nat->Heap->Prop) (J:It) (H':Hp),itv=.ref it/\Inv X pins U H' s2/\wu X.prog X.w X.K tg J fp it tn/\tn 0 s2.heap/\(∀b∈fp,iP X pins H' b)/\R J H'
def PI (X:Cx) (tg iter:Expr) (wi:TI):Prop:=
 ∀(pins:List (Addr×Obj)) (s:Shared) (U:St) (H:Hp) (R:It->Hp->Prop),Inv X pins U H s->wi U H R ->
  wpAny (model X.prog X.w) X.A (eval iter X.env) (fun v s1=>wpAny (model X.prog X.w) X.A (pyIter v) (Lq X pins U tg R) X.xe s1) X.xe s
theorem vB {E:Value->Shared->Prop} {s:Shared} {n:String} {vs:Array Value} {Q:Unit->Shared->Prop} (ho:s.heap.get? it=some o) (hc:o.cls=.type n) (hd:o.data=.fields vs)
  (hn:["enumerate", "zip", "dict_itemiterator", "dict_reverseitemiterator", "odict_iterator", "itertools.zip_longest", "itertools.pairwise"].contains n=false) (hQ:Q () s):wpAny M A (letOwnedTupleGo tg (.ref it) u) Q E s:=by
 unfold letOwnedTupleGo
 cases tg<;>first
  | exact L9 hQ
  | (cases u<;>first
      | exact L9 hQ
      | (refine L8 (wpAny_load ho ?_)
         rw [hc,hd];show wpAny M A (if (["enumerate", "zip", "dict_itemiterator", "dict_reverseitemiterator", "odict_iterator", "itertools.zip_longest", "itertools.pairwise"].contains n&&vs[0]?==some (rawInt _))=true then _ else _) Q E s
         rw [if_neg (by intro h;rw [hn,Bool.false_and] at h;cases h)]
         exact L9 hQ))
def DA (K:Fg) (a:Addr):It:=
 ⟨fun i H=>∃xs x,SqL K H a xs/\xs[i]?=some x,fun i H x H'=>H'=H/\∀xs,SqL K H a xs->xs[i]?=some x,fun i H=>∃xs,SqL K H a xs/\xs.length<=i⟩
def Dz (lo:Int) (n:Nat):It:=⟨fun i _=>i<n,fun i H x H'=>H'=H/\x=.int (lo+i),fun i _=>n<=i⟩
theorem qb {P:Program} {w:World} (a it:Addr):wu P w K tg (DA K a) [it] it (fun i h=>h.IsListIter it a i) where
 mem:=by simp
 obj:=fun i h st b hb=>by
  have e:b=it:=by simpa using hb
  subst e;obtain ⟨o,e,c,d⟩:=st;exact ⟨o,e,fun v z=>by rw [d] at z;cases z⟩
 keep:=fun i h h' st k=>st.at fun o e=>k it (by simp) o e
 item:=by
  intro X hP hw hK hc i pins s U H E I hf st hg;subst hP hw hK;obtain ⟨xs,x,hq,hx⟩:=hg;obtain ⟨its,rv,p,hz⟩:=I.list hq;obtain ⟨u,hu,ru⟩:=rv.get hx;obtain ⟨f0,f1,f2,f3,f4,f5⟩:=hf it (by simp)
  refine wpAny_pyNext_list_item st p.isList (x:=u) (by simpa using hu) fun h' st' sb=>?_
  have I1:Inv X pins U H { s with heap:=h' }:=I.turned (t':=s.toks) (fun b o hb e=>(sb.2 b hb).trans e) f0 f1 f3 f4 f5
  obtain ⟨o,e,c,d⟩:=id st'
  exact ⟨u,rfl,vB (s:={ s with heap:=h' }) e c d (by decide) ⟨x,H,I1,ru,⟨rfl,fun ys hy=>by rw [I.list_inj hy hq];exact hx⟩,st',fun b hb=>(hf b hb).1⟩⟩
 done:=by
  intro X hP hw hK hc i pins s U H E I hf st hg;subst hP hw hK;obtain ⟨xs,hq,hx⟩:=hg;obtain ⟨its,rv,p,hz⟩:=I.list hq;obtain ⟨f0,f1,f2,f3,f4,f5⟩:=hf it (by simp)
  have hl:=rv.length
  exact wpAny_pyNext_list_end (I.ok.hd hc) st p.isList (by simp;omega) fun h' eb=>⟨rfl,I.turned (t':=s.toks) (fun b o hb e=>eb b o hb e) f0 f1 f3 f4 f5⟩
 self:=fun _ _ _ _ _ st h=>wpAny_pyIter_listiter st h
theorem mY {P:Program} {w:World} (it:Addr) (lo:Int) (n:Nat):wu P w K tg (Dz lo n) [it] it (fun i h=>IsRangeIter h it (lo+(i:Nat)*1) ((n:Int)-(i:Nat)) 1) where
 mem:=by simp
 obj:=fun i h st b hb=>by
  have e:b=it:=by simpa using hb
  subst e;exact ⟨_,st,fun v z=>by
   have z':Data.fields _=Data.cell v:=z
   cases z'⟩
 keep:=fun i h h' st k=>k it (by simp) _ st
 item:=by
  intro X hP hw hK hc i pins s U H E I hf st hg;subst hP hw hK;obtain ⟨f0,f1,f2,f3,f4,f5⟩:=hf it (by simp)
  have W:=Walks.range (prog:=X.prog) (w:=X.w) (I.ok.hd hc) it lo 1 n
  refine W.item i s _ _ hg st fun v h' tk hv st' kk=>?_
  obtain ⟨t,rfl⟩:=hv;have I1:Inv X pins U H { s with heap:=h',toks:=tk }:=I.turned (fun b o hb e=>kk b o (by simpa using hb) e) f0 f1 f3 f4 f5
  refine ⟨_,rfl,vB (s:={ s with heap:=h',toks:=tk }) (n := "range_iterator") st' rfl rfl (by decide) ⟨.int (lo+i),H,I1,⟨t,?_⟩,⟨rfl,rfl⟩,st',fun b hb=>(hf b hb).1⟩⟩
  rw [Int.mul_one]
 done:=by
  intro X hP hw hK hc i pins s U H E I hf st hg;subst hP hw hK;obtain ⟨f0,f1,f2,f3,f4,f5⟩:=hf it (by simp)
  exact wpAny_pyNext_range_end (I.ok.hd hc) st (by have:n<=i:=hg;omega) fun h' eb=>⟨rfl,I.turned (t':=s.toks) (fun b o hb e=>eb b o hb e) f0 f1 f3 f4 f5⟩
 self:=fun _ _ _ _ _ st h=>wpAny_pyIter_rangeiter st h
section
variable {X:Cx} {tg:Expr}
def g6 (K:Fg) (tl:TE):TI:=fun U H R=>tl U H fun x H1=>∃a,x=.ref a/\(∃xs,SqL K H1 a xs)/\R (DA K a) H1
theorem GX {l:Expr} {tl:TE} (hl:PE X l tl):PI X tg l (g6 X.K tl):=by
 intro pins s U H R I h;refine bj (hl pins s U H _ I h) fun v s1 ⟨x,H1,I1,r1,q1⟩=>?_
 obtain ⟨a,e,⟨xs,hq⟩,q⟩:=q1;subst e
 cases r1;obtain ⟨its,rv,p,hz⟩:=I1.list hq;refine wpAny_pyIter_list p.isList ?_
 refine ⟨s1.heap.objs.size,[s1.heap.objs.size],_,_,H1,rfl,I1.kept (t':=s1.toks) fun b o e=>Ma _ e,qb a _,⟨_,Heap.get?_push_size _ rfl,rfl,rfl⟩,fun b hb=>?_,q⟩
 have e:b=s1.heap.objs.size:=by simpa using hb
 subst e;exact I1.fpOk (Mb _) (I1.hok.fresh (Mb _))
theorem kU {H:Hp} {s:Shared} {R:It->Hp->Prop} {E:Value->Shared->Prop} {lo hi:Int} {t u v:Tok} {tk:Nat} (I:Inv X pins U H s) (h1:-(2 ^ 62)<=lo) (h2:lo<2 ^ 62) (h3:-(2 ^ 62)<=hi) (h4:hi<2 ^ 62)
  (q:R (Dz lo (hi-lo).toNat) H):wpAny (model X.prog X.w) X.A (pyIter (.ref s.heap.objs.size)) (Lq X pins U tg R) E { s with heap:=s.heap.push { cls:=.type "range",data:=.fields #[.int lo t,.int hi u,.int 1 v] },toks:=tk }:=by
 refine wpAny_pyIter_range (IsRange.new ..) (small_one h1 h2 h3 h4) ?_
 have I1:Inv X pins U H { s with heap:=s.heap.push { cls:=.type "range",data:=.fields #[.int lo t,.int hi u,.int 1 v] },toks:=tk }:=I.kept fun b o e=>Ma _ e
 refine ⟨(s.heap.push { cls:=.type "range",data:=.fields #[.int lo t,.int hi u,.int 1 v] }).objs.size,[(s.heap.push { cls:=.type "range",data:=.fields #[.int lo t,.int hi u,.int 1 v] }).objs.size],_,_,H,rfl,
  I1.kept (t':=tk) fun b o e=>Ma _ e,mY _ lo (hi-lo).toNat,?_,fun b hb=>?_,q⟩
 ·have e1:lo+((0:Nat):Int)*1=lo:=by simp
  have e2:(((hi-lo).toNat:Nat):Int)-((0:Nat):Int)=Builtin.Range.rangeSize lo hi 1:=by rw [rangeSize_one];split<;>omega
  show IsRangeIter _ _ (lo+((0:Nat):Int)*1) ((((hi-lo).toNat:Nat):Int)-((0:Nat):Int)) 1
  rw [e1,e2];exact Heap.get?_push_size _ rfl
 ·have e:b=(s.heap.push { cls:=.type "range",data:=.fields #[.int lo t,.int hi u,.int 1 v] }).objs.size:=by simpa using hb
  subst e;exact I1.fpOk (Mb _) (I1.hok.fresh (Mb _))
def Af (ta:TA):TI:=fun U H R=>ta U H fun vs H1=>∃j:Int,vs=[.int j]/\-(2 ^ 62)<=j/\j<2 ^ 62/\R (Dz 0 j.toNat) H1
def Ae (ta:TA):TI:=fun U H R=>ta U H fun vs H1=>∃i j:Int,vs=[.int i,.int j]/\(-(2 ^ 62)<=i/\i<2 ^ 62/\-(2 ^ 62)<=j/\j<2 ^ 62)/\R (Dz i (j-i).toNat) H1
theorem qx {a:Expr} {p:Pos} (hg:Gl X "range") (hm:X.mg "range"=none) (ha:PA X [a] ta) (hs:starEach [a] X.env=[(false,eval a X.env)]:=by rfl):PI X tg (.Call (.Name "range" p) [a] [] pos) (Af ta):=by
 intro pins s U H R I h;refine Call_ (wH I hg hm boot_range (PyProof.Rows.callWith_type1 (bj (ha pos pins s U H _ I h) fun us s1 ⟨vs,H1,I1,r1,q1⟩=>?_) hs rfl))
 obtain ⟨j,e,q1,q2,q⟩:=q1;subst e
 cases r1 with
 | cons r rr=>
  cases rr;obtain ⟨t,rfl⟩:=r;exact call_range_1 (kU I1 (by omega) (by omega) q1 q2 (by simpa using q))
theorem qw {a b:Expr} {p:Pos} (hg:Gl X "range") (hm:X.mg "range"=none) (ha:PA X [a,b] ta) (hs:starEach [a,b] X.env=[(false,eval a X.env),(false,eval b X.env)]:=by rfl) (hs2:starEach [b] X.env=[(false,eval b X.env)]:=by rfl) :
  PI X tg (.Call (.Name "range" p) [a,b] [] pos) (Ae ta):=by
 intro pins s U H R I h;refine Call_ (wH I hg hm boot_range (PyProof.Rows.callWith_type1 (bj (ha pos pins s U H _ I h) fun us s1 ⟨vs,H1,I1,r1,q1⟩=>?_) (by rw [hs,hs2]) (by rw [hs2];rfl)))
 obtain ⟨i,j,e,⟨q1,q2,q3,q4⟩,q⟩:=q1;subst e
 cases r1 with
 | cons r rr=>
  cases rr with
  | cons r' rr=>
   cases rr;obtain ⟨t,rfl⟩:=r;obtain ⟨t',rfl⟩:=r'
   exact call_range_2 (kU I1 q1 q2 q3 q4 q)
def xn (wi:TI) (g:TG) (tb:TS):TS:=fun D U H=>wi U H fun J H1=>∃W:Nat->Nat->St->Hp->Prop,(∃m,W 0 m U H1)/\∀i m U H,W i m U H ->
 (J.stop i H/\D.nx U H)\/(J.go i H/\∃N:St->Hp->Prop,(∀U' H',N U' H'->∃m',m'<m/\W (i+1) m' U' H')/\∀x H',J.yld i H x H'->g x U H' fun U2 H2=>tb { D with nx:=N,ct:=N,bk:=D.nx } U2 H2)
def Eb (fp:List Addr) (h:Heap):List (Addr×Obj):=fp.filterMap fun b=>(h.get? b).map fun o=>(b,o)
theorem Hv (hb:b∈fp) (e:h.get? b=some o):(b,o)∈Eb fp h:=List.mem_filterMap.mpr ⟨b,hb,by rw [e];rfl⟩
theorem qD {p:Addr×Obj} (hp:p∈Eb fp h):p.1∈fp/\h.get? p.1=some p.2:=by
 obtain ⟨b,hb,e⟩:=List.mem_filterMap.mp hp
 cases q:h.get? b with
 | none=>rw [q] at e;cases e
 | some o=>
  rw [q] at e;have e':(b,o)=p:=Option.some.inj e
  subst e'
  exact ⟨hb,q⟩
theorem Inv.pinned {H:Hp} {s:Shared} (I:Inv X pins U H s) (hf:∀b∈fp,iP X pins H b) (ho:∀b∈fp,∃o,s.heap.get? b=some o/\∀v,o.data≠.cell v):Inv X (pins++Eb fp s.heap) U H s:=
 I.pins_of fun p hp=>(LX hp).elim (fun z=>I.pin p (LR _ z)) fun z=>by
  obtain ⟨hb,e⟩:=qD z;obtain ⟨f0,f1,f2,_⟩:=hf p.1 hb;obtain ⟨o,e',d⟩:=ho p.1 hb;rw [e] at e';cases e'
  exact ⟨e,f0,f1,f2,d⟩
theorem Inv.unpinned {pl:List (Addr×Obj)} {H:Hp} {s:Shared} (I:Inv X (pins++pl) U H s):Inv X pins U H s:=I.pins_of fun p hp=>I.pin p (LR _ (LU _ hp))
theorem Io {iter:Expr} {body:List Stmt} {wi:TI} {g:TG} (hp:PassesOwn (model X.prog X.w) X.A X.env X.xe) (hc:X.calm=true) (hi:PI X tg iter wi) (hg:PG X tg g) (hb:PSs X body tb)
  (hs:∀x,foldedSetIterable iter X.env x=pure x:=by intro _;rfl):PS X (.For tg iter body [] pos) (xn wi g tb):=by
 intro pins s U H D I h;refine wpAny_For (bj (hi pins s U H _ I h) fun v s1 h1=>bj h1 fun itv s2 h2=>?_) hs
 obtain ⟨it,fp,tn,J,H2,e,I2,T,st2,f2,W,⟨m0,w0⟩,turn⟩:=h2;subst e;have stat:∀{H':Hp},(∀b∈fp,H' b=none)->∀b∈fp,iP X pins H' b:=fun hn b hb=>⟨hn b hb,(f2 b hb).2⟩
 refine codeAny_forLoop_any (fun n s'=>∃i U' H',Inv X pins U' H' s'/\tn i s'.heap/\(∀b∈fp,H' b=none)/\W i n U' H') ?_ m0 ⟨0,U,H2,I2,st2,fun b hb=>(f2 b hb).1,w0⟩
 rintro n s3 ⟨i,U3,H3,I3,st3,fr3,w3⟩
 rcases turn i n U3 H3 w3 with ⟨stop,qn⟩ | ⟨go,N,hN,step⟩
 ·refine wpAny_passesOwn hp (bj (T.done X rfl rfl rfl hc i pins s3 U3 H3 X.xe I3 (stat fr3) st3 stop) fun r s4 ⟨hr,I4⟩=>?_)
  subst hr;exact wpAny_execs_nil ⟨U3,H3,I4,qn⟩
 ·refine wpAny_passesOwn hp (bj (T.item X rfl rfl rfl hc i pins s3 U3 H3 X.xe I3 (stat fr3) st3 go) fun r s4 ⟨u,hr,h4⟩=>?_)
  subst hr;refine wpAny_passesOwn hp (bj h4 fun _ s5 ⟨x,H5,I5,r5,y5,st5,fr5⟩=>?_)
  have I5':=I5.pinned (stat fr5) (T.obj _ _ st5)
  refine wpAny_passesOwn hp (bj (hg _ s5 U3 H5 x u _ I5' r5 (step x H5 y5)) fun _ s6 ⟨U6,H6,I6,q6⟩=>?_)
  refine wpAny_passesOwn hp (bj (hb _ s6 U6 H6 _ I6 q6) fun f s7 q7=>?_)
  have again:∀{U7:St} {H7:Hp},Inv X (pins++Eb fp s5.heap) U7 H7 s7->N U7 H7->∃m,m<n/\∃i U' H',Inv X pins U' H' s7/\tn i s7.heap/\(∀b∈fp,H' b=none)/\W i m U' H':=fun {U7 H7} I7 n7=>by
   obtain ⟨m',hm,w7⟩:=hN U7 H7 n7;refine ⟨m',hm,i+1,U7,H7,I7.unpinned,T.keep _ _ _ st5 fun b hb o e=>(I7.pin (b,o) (LR _ (LR _ (Hv hb e)))).1,fun b hb=>?_,w7⟩
   obtain ⟨o,e,d⟩:=T.obj _ _ st5 b hb;exact (I7.pin (b,o) (LR _ (LR _ (Hv hb e)))).2.1
  cases f with
  | next=>obtain ⟨U7,H7,I7,n7⟩:=q7;exact again I7 n7
  | cont=>obtain ⟨U7,H7,I7,n7⟩:=q7;exact again I7 n7
  | brk=>obtain ⟨U7,H7,I7,q7⟩:=q7;exact ⟨U7,H7,I7.unpinned,q7⟩
  | ret v=>obtain ⟨x7,U7,H7,I7,r7,q7⟩:=q7;exact ⟨x7,U7,H7,I7.unpinned,r7,q7⟩
end
abbrev R2:=V->V->Hp->VK->Prop
def OpR (X:Cx) (f:Value->Value->Sem Value) (r:R2):Prop:=
 ∀(pins:List (Addr×Obj)) (s:Shared) (U:St) (H:Hp) (x y:V) (v u:Value) (Q:VK),Inv X pins U H s->RelV x v->RelV y u->r x y H Q ->
  wpAny (model X.prog X.w) X.A (f v u) (EP X pins U Q) X.xe s
def Ll (X:Cx) (f:Value->Sem Value) (r:V->Hp->VK->Prop):Prop:=
 ∀(pins:List (Addr×Obj)) (s:Shared) (U:St) (H:Hp) (x:V) (v:Value) (Q:VK),Inv X pins U H s->RelV x v->r x H Q ->
  wpAny (model X.prog X.w) X.A (f v) (EP X pins U Q) X.xe s
def CallR (X:Cx) (f:Value) (r:List V->Hp->VK->Prop):Prop:=
 ∀(pins:List (Addr×Obj)) (s:Shared) (U:St) (H:Hp) (xs:List V) (us:List Value) (Q:VK),Inv X pins U H s->Vals xs us->r xs H Q ->
  wpAny (model X.prog X.w) X.A (call f us) (EP X pins U Q) X.xe s
def KB (X:Cx) (r:V->Hp->(Bool->Hp->Prop)->Prop):Prop:=
 ∀(pins:List (Addr×Obj)) (s:Shared) (U:St) (H:Hp) (x:V) (v:Value) (Q:Bool->Hp->Prop),Inv X pins U H s->RelV x v->r x H Q ->
  wpAny (model X.prog X.w) X.A (truthy v) (TP X pins U Q) X.xe s
def tK (r:R2) (ta tb:TE):TE:=fun U H Q=>ta U H fun x H1=>tb U H1 fun y H2=>r x y H2 Q
def KS (r:V->Hp->VK->Prop) (ta:TE):TE:=fun U H Q=>ta U H fun x H1=>r x H1 Q
def rI (C:Int->Int->Prop) (g:Int->Int->V):R2:=fun x y H Q=>∃i j,x=.int i/\y=.int j/\C i j/\Q (g i j) H
def o8 (g:Int->Int->V):R2:=fun x y H Q=>∃i j,x=.int i/\y=.int j/\Q (g i j) H
section
variable {X:Cx} {a b c:Expr} {ta tb tc:TE} {pos:Pos}
theorem Dr (ha:PE X a ta) (hb:PE X b tb) {s:Shared} {H:Hp} {R:V->V->Hp->Prop} (I:Inv X pins U H s)
  (h:ta U H fun x H1=>tb U H1 fun y H2=>R x y H2) {Q:Value->Shared->Prop} {f:Value->Value->Sem Value}
  (hf:∀v u s2 x y H2,Inv X pins U H2 s2->RelV x v->RelV y u->R x y H2->wpAny (model X.prog X.w) X.A (f v u) Q X.xe s2) :
  wpAny (model X.prog X.w) X.A (eval a X.env) (fun v s₁=>wpAny (model X.prog X.w) X.A (eval b X.env) (fun u s₂=>wpAny (model X.prog X.w) X.A (f v u) Q X.xe s₂) X.xe s₁) X.xe s:=by
 refine bj (ha pins s U H _ I h) fun v s1 ⟨x,H1,I1,r1,q1⟩=>?_
 refine bj (hb pins s1 U H1 _ I1 q1) fun u s2 ⟨y,H2,I2,r2,q2⟩=>?_
 exact hf v u s2 x y H2 I2 r1 r2 q2
theorem fS {op:Operator} {r:R2} (ho:OpR X (binaryOp op) r) (ha:PE X a ta) (hb:PE X b tb):PE X (.BinOp a op b pos) (tK r ta tb):=by
 intro pins s U H Q I h;exact wpAny_BinOp (Dr ha hb I h fun v u s2 x y H2 I2 rx ry q=>ho pins s2 U H2 x y v u Q I2 rx ry q)
theorem Fo {op:UnaryOp} {r:V->Hp->VK->Prop} (ho:Ll X (unaryOp op) r) (ha:PE X a ta):PE X (.UnaryOp op a pos) (KS r ta):=by
 intro pins s U H Q I h;exact UnaryOp_ (bj (ha pins s U H _ I h) fun v s1 ⟨x,H1,I1,r1,q1⟩=>ho pins s1 U H1 x v Q I1 r1 q1)
theorem HS {f:Value->Value->Sem Value} {C:Int->Int->Prop}
  (rule:∀(i j:Int) (t u:Tok) (s:Shared) (Q:Value->Shared->Prop) (E:Value->Shared->Prop),C i j->Q (.int (g i j) s.toks) { s with toks:=s.toks+1 }->wpAny (model X.prog X.w) X.A (f (.int i t) (.int j u)) Q E s) :
  OpR X f (rI C fun i j=>.int (g i j)):=by
 intro pins s U H x y v u Q I rx ry h;obtain ⟨i,j,rfl,rfl,hc,q⟩:=h;obtain ⟨t,rfl⟩:=rx;obtain ⟨t',rfl⟩:=ry;exact rule i j t t' s _ _ hc ⟨.int (g i j),H,I.tok _,⟨_,rfl⟩,q⟩
theorem Fv {f:Value->Value->Sem Value}
  (rule:∀(i j:Int) (t u:Tok) (s:Shared) (Q:Value->Shared->Prop) (E:Value->Shared->Prop),Q (.int (g i j) s.toks) { s with toks:=s.toks+1 }->wpAny (model X.prog X.w) X.A (f (.int i t) (.int j u)) Q E s) :
  OpR X f (o8 fun i j=>.int (g i j)):=by
 intro pins s U H x y v u Q I rx ry h;obtain ⟨i,j,rfl,rfl,q⟩:=h;obtain ⟨t,rfl⟩:=rx;obtain ⟨t',rfl⟩:=ry;exact rule i j t t' s _ _ ⟨.int (g i j),H,I.tok _,⟨_,rfl⟩,q⟩
theorem yd {f:Value->Value->Sem Value} {g:Int->Int->Bool}
  (rule:∀(i j:Int) (t u:Tok) (s:Shared) (Q:Value->Shared->Prop) (E:Value->Shared->Prop),Q (.bool (g i j)) s->wpAny (model X.prog X.w) X.A (f (.int i t) (.int j u)) Q E s) :
  OpR X f (o8 fun i j=>.bl (g i j)):=by
 intro pins s U H x y v u Q I rx ry h;obtain ⟨i,j,rfl,rfl,q⟩:=h;obtain ⟨t,rfl⟩:=rx;obtain ⟨t',rfl⟩:=ry;exact rule i j t t' s _ _ ⟨.bl (g i j),H,I,rfl,q⟩
def KM (i j:Int):Prop:=0<j/\j<1073741824
def KL (i j:Int):Prop:=0<=j/\j<=1000000/\i.natAbs<2 ^ 64
def CMul (i j:Int):Prop:=(-(2 ^ 64)<i/\i<2 ^ 64)\/(-(2 ^ 64)<j/\j<2 ^ 64)
theorem CMul.ok {i j:Int} (h:CMul i j):IntMulOk i j:=by
 rcases h with ⟨h1,h2⟩ | ⟨h1,h2⟩
 ·exact .of_left (intBits_le_64 h1 h2)
 ·exact .of_right (intBits_le_64 h1 h2)
theorem Cd:OpR X (binaryOp .Add) (o8 fun i j=>.int (i+j)):=Fv fun _ _ _ _ _ _ _ q=>add_int q
theorem B5:OpR X (binaryOp .Sub) (o8 fun i j=>.int (i-j)):=Fv fun _ _ _ _ _ _ _ q=>sub_int q
theorem B8:OpR X (binaryOp .Mult) (rI CMul fun i j=>.int (i*j)):=HS fun _ _ _ _ _ _ _ hc q=>mul_int q hc.ok
theorem yc:OpR X (binaryOp .FloorDiv) (rI KM fun i j=>.int (i / j)):=HS fun i j _ _ _ _ _ hc q=>by
 have h1:(0:Int)<j:=hc.1
 have h2:j<1073741824:=hc.2
 exact floordiv_int (by omega) (by rw [Int.fdiv_eq_ediv_of_nonneg i (by omega)];exact q) (.inl (PyProof.noPylong_small (by omega)))
theorem B9:OpR X (binaryOp .Mod) (rI (fun _ j=>0<j) fun i j=>.int (i % j)):=HS fun i j _ _ _ _ _ hc q=>by
 have h1:(0:Int)<j:=hc
 exact mod_int' (by omega) (by rw [Int.fmod_eq_emod_of_nonneg i (by omega)];exact q)
theorem B6:OpR X (binaryOp .Pow) (rI KL fun i j=>.int (i ^ j.toNat)):=HS fun _ _ _ _ _ _ _ hc q=>pow_int_small hc.1 hc.2.1 hc.2.2 q
end
section
variable {X:Cx} {a b c:Expr} {ta tb tc:TE} {pos:Pos}
theorem GJ {H:Hp} {s:Shared} {Q:VK} {k k':Bool} (I:Inv X pins U H s) (q:Q (.bl k) H) (e:k=k'):EP X pins U Q (.bool k') s:=by
 subst e;exact ⟨.bl k,H,I,rfl,q⟩
theorem op_lt:OpR X (compareOp .Lt) (o8 fun i j=>.bl (decide (i<j))):=yd fun _ _ _ _ _ _ _ q=>lt_int q
theorem Fq:OpR X (compareOp .LtE) (o8 fun i j=>.bl (decide (i<=j))):=yd fun _ _ _ _ _ _ _ q=>le_int q
theorem Fu:OpR X (compareOp .Gt) (o8 fun i j=>.bl (decide (j<i))):=yd fun _ _ _ _ _ _ _ q=>gt_int q
theorem op_ge:OpR X (compareOp .GtE) (o8 fun i j=>.bl (decide (j<=i))):=yd fun _ _ _ _ _ _ _ q=>ge_int q
theorem qA:OpR X (compareOp .Lt) (fun x y H Q=>∃i j,x=.str i/\y=.str j/\Q (.bl (decide (i.cps.toList<j.cps.toList))) H):=by
 intro pins s U H x y v u Q I rx ry h;obtain ⟨i,j,rfl,rfl,q⟩:=h;obtain ⟨t,rfl⟩:=rx;obtain ⟨t',rfl⟩:=ry;exact lt_str (GJ I q rfl)
theorem Ca:OpR X (compareOp .Is) (fun x y H Q=>y=.non/\Q (.bl (decide (x=.non))) H):=by
 intro pins s U H x y v u Q I rx ry h;obtain ⟨rfl,q⟩:=h
 cases ry;refine is_none_gen (GJ I q ?_)
 cases x<;>first
  | (cases rx;rfl)
  | (obtain ⟨t,rfl⟩:=rx;rfl)
theorem yb:OpR X (compareOp .IsNot) (fun x y H Q=>y=.non/\Q (.bl (!decide (x=.non))) H):=by
 intro pins s U H x y v u Q I rx ry h;obtain ⟨rfl,q⟩:=h
 cases ry;refine isnot_none_gen (GJ I q ?_)
 cases x<;>first
  | (cases rx;rfl)
  | (obtain ⟨t,rfl⟩:=rx;rfl)
theorem OpR.or {f:Value->Value->Sem Value} {r:R2} (h:OpR X f r) (h':OpR X f r'):OpR X f (fun x y H Q=>r x y H Q\/r' x y H Q):=by
 intro pins s U H x y v u Q I rx ry q;rcases q with q | q
 ·exact h pins s U H x y v u Q I rx ry q
 ·exact h' pins s U H x y v u Q I rx ry q
theorem ya {op:CmpOp} {r:R2} (ho:OpR X (compareOp op) r) (ha:PE X a ta) (hb:PE X b tb) (hm:behindInMarks op b=false):PE X (.Compare a [op] [b] pos) (tK r ta tb):=by
 intro pins s U H Q I h;exact wpAny_Compare1 (Dr ha hb I h fun v u s2 x y H2 I2 rx ry q=>ho pins s2 U H2 x y v u Q I2 rx ry q) hm
def tF (t:TE):TT:=fun U H Q=>t U H fun x H'=>∃k,x=.bl k/\Q k H'
theorem xS {op:CmpOp} {r:R2} (ho:OpR X (compareOp op) r) (ha:PE X a ta) (hb:PE X b tb) (hm:behindInMarks op b=false):PT X (.Compare a [op] [b] pos) (tF (tK r ta tb)):=by
 intro pins s U H Q I h;refine wpAny_isTrue_Compare1 (bj (ha pins s U H _ I h) fun v s1 ⟨x,H1,I1,r1,q1⟩=>bj (hb pins s1 U H1 _ I1 q1) fun u s2 ⟨y,H2,I2,r2,q2⟩=>
  bj (ho pins s2 U H2 x y v u _ I2 r1 r2 q2) fun c s3 ⟨z,H3,I3,r3,k,e,q3⟩=>?_) hm
 subst e
 cases r3;exact wpAny_truthy_bool ⟨H3,I3,q3⟩
def Ir (r r':R2) (ta tb tc:TE):TE:=fun U H Q=>ta U H fun x H1=>tb U H1 fun y H2=>r x y H2 fun z H3=>∃k,z=.bl k /\
 (if k=true then tc U H3 fun w' H4=>r' y w' H4 Q else Q (.bl false) H3)
theorem uT {op:CmpOp} {r:R2} (ho:OpR X (compareOp op) r) (ho':OpR X (compareOp op') r') (ha:PE X a ta) (hb:PE X b tb) (hc:PE X c tc)
  (hm:lastMarks [op,op'] [b,c]=false:=by with_unfolding_all rfl):PE X (.Compare a [op,op'] [b,c] pos) (Ir r r' ta tb tc):=by
 intro pins s U H Q I h;refine Compare_chain (bj (ha pins s U H _ I h) fun v s1 ⟨x,H1,I1,r1,q1⟩=>chain_link (bj (hb pins s1 U H1 _ I1 q1) fun u s2 ⟨y,H2,I2,r2,q2⟩=>
  bj (ho pins s2 U H2 x y v u _ I2 r1 r2 q2) fun d s3 ⟨z,H3,I3,r3,k,e,q3⟩=>?_)) hm
 subst e
 cases r3;refine wpAny_truthy_bool ?_
 cases k with
 | false=>exact ite_ff ⟨.bl false,H3,I3,rfl,q3⟩
 | true=>exact ite_tt (chain_last (bj (hc pins s3 U H3 _ I3 q3) fun w' s4 ⟨z',H4,I4,r4,q4⟩=>ho' pins s4 U H4 y z' u w' Q I4 r2 r4 q4))
theorem uE {op:CmpOp} {r:R2} (ho:OpR X (compareOp op) r) (ho':OpR X (compareOp op') r') (ha:PE X a ta) (hb:PE X b tb) (hc:PE X c tc)
  (hm:lastMarks [op,op'] [b,c]=false:=by with_unfolding_all rfl):PT X (.Compare a [op,op'] [b,c] pos) (tF (Ir r r' ta tb tc)):=by
 intro pins s U H Q I h;refine isTrue_chain (bj (ha pins s U H _ I h) fun v s1 ⟨x,H1,I1,r1,q1⟩=>test_link (bj (hb pins s1 U H1 _ I1 q1) fun u s2 ⟨y,H2,I2,r2,q2⟩=>
  bj (ho pins s2 U H2 x y v u _ I2 r1 r2 q2) fun d s3 ⟨z,H3,I3,r3,k,e,q3⟩=>?_)) hm
 subst e
 cases r3;refine wpAny_truthy_bool ?_
 cases k with
 | false=>
  obtain ⟨k',e',q'⟩:=q3
  cases e'
  exact ite_ff ⟨H3,I3,q'⟩
 | true=>
  refine ite_tt (test_last (bj (hc pins s3 U H3 _ I3 q3) fun w' s4 ⟨z',H4,I4,r4,q4⟩=>bj (ho' pins s4 U H4 y z' u w' _ I4 r2 r4 q4) fun d' s5 ⟨z2,H5,I5,r5,k2,e2,q5⟩=>?_))
  subst e2
  cases r5;exact wpAny_truthy_bool ⟨H5,I5,q5⟩
def zj (K:Fg) (x:V) (H:Hp) (k:Bool):Prop:=
 match x with
 | .non=>k=false
 | .bl b=>k=b
 | .int i=>k=(i != 0)
 | .str y=>y.length<=sizeLine/\k=((y.length:Int) != 0)
 | .byt y=>y.size<=sizeLine/\k=((y.size:Int) != 0)
 | .ref p=>(∃xs,SqL K H p xs/\k=!xs.isEmpty)\/(∃xs,SqT K H p xs/\k=!xs.isEmpty)\/∃kvs,H p=some (.dK kvs)/\k=!kvs.isEmpty
 | _=>False
theorem nH {κ:Type} {kvs:List (κ×V)} {vs:List (κ×Value)} (r:KV kvs vs):(!vs.isEmpty)=!kvs.isEmpty:=by
 cases r<;>rfl
theorem g0 {xs:List V} {its:List Value} (r:Vals xs its):(!its.toArray.isEmpty)=!xs.isEmpty:=by
 cases r<;>simp
theorem zp:(sizeLine:Nat)<2 ^ 63:=by rw [sizeLine_eq];decide
theorem A8:KB X (fun x H Q=>∃k,zj X.K x H k/\Q k H):=by
 intro pins s U H x v Q I rx h;obtain ⟨k,e,q⟩:=h;have hl:=zp
 have hs:sizeLine=16777216:=sizeLine_eq
 cases x with
 | non=>
  cases rx;have e':k=false:=e
  subst e'
  exact truthy_none ⟨H,I,q⟩
 | bl b=>
  cases rx;have e':k=b:=e
  subst e'
  exact wpAny_truthy_bool ⟨H,I,q⟩
 | int i=>
  obtain ⟨t,rfl⟩:=rx;have e':k=(i != 0):=e
  subst e'
  exact PySem.P.truthy_int ⟨H,I,q⟩
 | str y=>
  obtain ⟨t,rfl⟩:=rx;obtain ⟨hy,e'⟩:y.length<=sizeLine/\k=((y.length:Int) != 0):=e
  subst e'
  exact PySem.P.truthy_str (by omega) ⟨H,I.tok _,q⟩
 | byt y=>
  obtain ⟨t,rfl⟩:=rx;obtain ⟨hy,e'⟩:y.size<=sizeLine/\k=((y.size:Int) != 0):=e
  subst e'
  exact PySem.W.truthy_bytes (by omega) ⟨H,I.tok _,q⟩
 | ref p=>
  cases rx;have e':(∃xs,SqL X.K H p xs/\k=!xs.isEmpty)\/(∃xs,SqT X.K H p xs/\k=!xs.isEmpty)\/∃kvs,H p=some (.dK kvs)/\k=!kvs.isEmpty:=e
  rcases e' with ⟨xs,hx,e'⟩ | ⟨xs,hx,e'⟩ | ⟨kvs,hx,e'⟩
  ·subst e'
   obtain ⟨its,r,pl,hz⟩:=I.list hx;have hlen:=r.length
   exact wpAny_truthy_list pl.isList (by simp only [size_toArray];omega) ⟨H,I.tok _,by rw [g0 r];exact q⟩
  ·subst e'
   obtain ⟨its,r,pl,hz⟩:=I.tuple hx;have hlen:=r.length
   exact truthy_tuple pl (by simp only [size_toArray];omega) ⟨H,I.tok _,by rw [g0 r];exact q⟩
  ·subst e'
   obtain ⟨hz,hS,vs,r,m⟩:kvs.length<=sizeLine/\(p==sysModules)=false/\∃vs,KV kvs vs/\s.heap.DictOf (kg X.prog X.w) p vs:=I.hok p _ hx
   have hlen:kvs.length=vs.length:=Paired.length r
   exact wpAny_truthy_dict hS m (by omega) ⟨H,I.tok _,by rw [nH r];exact q⟩
 | _=>exact (show False from e).elim
theorem IX (ha:PE X a ta) (he:∀whole,isTrue a X.env whole=(do let v <-whole;standAt a.pos;holding [v] (truthy v))) :
  PT X a (fun U H Q=>ta U H fun x H'=>∃k,zj X.K x H' k/\Q k H'):=by
 intro pins s U H Q I h;exact isTrue_plain (bj (ha pins s U H _ I h) fun v s1 ⟨x,H1,I1,r1,q1⟩=>A8 pins s1 U H1 x v Q I1 r1 q1) (he _)
theorem vals1 {x:V} (r:Vals [x] us):∃u,us=[u]/\RelV x u:=by
 cases r with
 | cons r1 r2=>cases r2;exact ⟨_,rfl,r1⟩
theorem rU:CallR X (.type "int") (fun xs H Q=>(∃i,xs=[.int i]/\Q (.int i) H)\/∃k,xs=[.bl k]/\Q (.int (if k then 1 else 0)) H):=by
 intro pins s U H xs us Q I r h;rcases h with ⟨i,rfl,q⟩ | ⟨k,rfl,q⟩
 ·obtain ⟨u,rfl,t,rfl⟩:=vals1 r
  exact call_int_int ⟨.int i,H,I,⟨_,rfl⟩,q⟩
 ·obtain ⟨u,rfl,r1⟩:=vals1 r
  cases r1;exact call_int_bool ⟨.int (if k then 1 else 0),H,I.tok _,⟨_,rfl⟩,q⟩
end
structure ObjM (h:Heap) (x dx C:Addr) (mA:Str->Option Value):Prop where
 obj:h.get? x=some (PySem.W.instObj C dx)
 ns:h.Ns1 dx mA
 ne:dx≠x
theorem qO (n:h.Ns1 dx mA):∃od,h.get? dx=some od/\∀name,PySem.W.lookIn name od=some (mA name):=by
 obtain ⟨o,es,ep,ho,hd,hk,_,hm⟩:=n;refine ⟨o,ho,fun name=>?_⟩
 have e:=hm name
 unfold nsFind findBy at e;rw [<-Array.find?_toList] at e;unfold PySem.W.lookIn;rw [hd];dsimp only;split
 ·rename_i y q
  rw [q] at e;exact congrArg some e
 ·rename_i q
  rw [q] at e;have a:es.toList.any (·.refKey)=false:=by
   rw [List.any_eq_false];intro y hy;obtain ⟨z,t,hkey⟩:=hk y (Array.mem_toList_iff.mp hy);simp [DictEntry.refKey,hkey]
  have a':¬es.toList.any (·.refKey)=true:=by rw [a];exact Bool.false_ne_true
  rw [if_neg a'];exact congrArg some e
theorem ObjM.look {x C:Addr} (I:ObjM h x dx C mA):∃od,PySem.W.InstAt h x (PySem.W.instObj C dx) C (some od)/\∀name,PySem.W.lookIn name od=some (mA name):=
 let ⟨od,ho,hl⟩:=qO I.ns
 ⟨od,⟨I.obj,rfl,rfl,ho⟩,hl⟩
theorem RelO.some_of {v:V} {o:Option Value} (r:RelO (some v) o):∃u,o=some u/\RelV v u:=by
 cases o with
 | none=>exact (show False from r).elim
 | some u=>exact ⟨u,rfl,r⟩
section
variable {P:Program} {w:World} {H H':Hp} {h h':Heap} {a C dx:Addr} {fs fs':List (Str×V)}
theorem yp (hok:HOk P w H h) (e:H a=some (.ins C dx fs)):∃mA,ObjM h a dx C mA/\(∀f,RelO (fs.lookup f) (mA f))/\PySem.Within mA (fs.map (·.1))/\fs.length<=1000/\H dx=some (.own a):=by
 obtain ⟨d,z,ne,ob,mA,n,r,q⟩:=(show ObjOk P w H h a (.ins C dx fs) from hok a _ e);exact ⟨mA,⟨ob,n,ne⟩,r,q,z,d⟩
end
structure Cls (K:Fg) (C:Addr):Prop where
 pg:PySem.W.plainGet K C Str.empty=true
 hd:PySem.W.hasDictIn K C=true
 po:PySem.W.plainOver K C=true
 sa:PySem.W.findIn K (.ref C) "__setattr__"=some (some (.builtin "object.__setattr__"))
theorem Cls.get {K:Fg} {C:Addr} (c:Cls K C) (f:Str):PySem.W.plainGet K C f=true:=c.pg
section
variable {X:Cx} {pins:List (Addr×Obj)} {U:St} {H:Hp} {s:Shared} {A:Around} {E:Value->Shared->Prop} {Q:Value->Shared->Prop} {c:Value} {b:Bool}
inductive gH (K:Fg) (H:Hp):V->Value->Prop where
 | non:gH K H .non (.type "NoneType")
 | bl (x:Bool):gH K H (.bl x) (.type "bool")
 | int (i:Int):gH K H (.int i) (.type "int")
 | str (x:Str):gH K H (.str x) (.type "str")
 | flt (x:UInt64):gH K H (.flt x) (.type "float")
 | lst {a:Addr} {xs:List V} (e:H a=some (.lst xs)):gH K H (.ref a) (.type "list")
 | frz {a:Addr} {o:Obj} {xs:List V} (e:H a=some (.frz o (.lst xs))):gH K H (.ref a) (.type "list")
 | tup {a:Addr} {xs:List V} (e:H a=some (.tup xs)):gH K H (.ref a) (.type "tuple")
 | dK {a:Addr} {kvs:List (bE×V)} (e:H a=some (.dK kvs)):gH K H (.ref a) (.type "dict")
 | dT {a:Addr} {kvs:List (List bE×V)} (e:H a=some (.dT kvs)):gH K H (.ref a) (.type "dict")
 | ins {a C dx:Addr} {fs:List (Str×V)} (e:H a=some (.ins C dx fs)) (cl:Cls K C) (ha:PySem.W.findIn K (.ref C) "__class__"=some (some (.builtin "object.__class__")))
   (hn:PySem.W.specialIn K (.builtin "object.__class__") "__get__"=some (some (.builtin "getset_descriptor.__get__"))) (htk:PySem.W.takesIn K (.builtin "object.__class__")=some true)
   (hm:PySem.W.mroIn K C (.type "object")=some true):gH K H (.ref a) (.ref C)
theorem AM {x:V} {t:Value} (I:Inv X pins U H s) (rx:RelV x u) (ty:gH X.K H x t) (e:PySem.W.kitOne X.K t c=some b) (h:∀tk,Q (.bool b) { s with toks:=tk }) :
  wpAny (model X.prog X.w) A (call (.builtin "isinstance") [u,c]) Q E s:=by
 cases ty with
 | non=>cases (show u=Value.none from rx);exact PySem.W.kia_one PySem.W.kitx_none I.kIn True.intro e nofun h
 | bl y=>cases (show u=Value.bool y from rx);exact PySem.W.kia_one PySem.W.kitx_bool I.kIn True.intro e nofun h
 | int i=>obtain ⟨t,q⟩:=(show ∃t,u=Value.int i t from rx);cases q;exact PySem.W.kia_one PySem.W.kitx_int I.kIn True.intro e nofun h
 | str y=>obtain ⟨t,q⟩:=(show ∃t,u=Value.str y t from rx);cases q;exact PySem.W.kia_one PySem.W.kitx_str I.kIn True.intro e nofun h
 | flt y=>obtain ⟨t,q⟩:=(show ∃t,u=Value.float y t from rx);cases q;exact PySem.W.kia_one PySem.W.kitx_float I.kIn True.intro e nofun h
 | @lst a xs ea=>
  cases (show u=Value.ref a from rx)
  obtain ⟨_,_,n,_,h1⟩:=(show ObjOk X.prog X.w H s.heap a (.lst xs) from I.hok a _ ea);exact PySem.W.kia_one PySem.W.kitx_list I.kIn ⟨_,h1,rfl⟩ e nofun h
 | @frz a ob xs ea=>
  cases (show u=Value.ref a from rx)
  obtain ⟨_,_,_,n,_,h1⟩:=(show ObjOk X.prog X.w H s.heap a (.frz ob (.lst xs)) from I.hok a _ ea);exact PySem.W.kia_one PySem.W.kitx_list I.kIn ⟨_,h1,rfl⟩ e nofun h
 | @tup a xs ea=>
  cases (show u=Value.ref a from rx)
  obtain ⟨_,_,_,p⟩:=(show ObjOk X.prog X.w H s.heap a (.tup xs) from I.hok a _ ea);obtain ⟨o,h1,h2,_⟩:=p;exact PySem.W.kia_one PySem.W.kitx_tuple I.kIn ⟨o,h1,h2⟩ e nofun h
 | @dK a kvs ea=>
  cases (show u=Value.ref a from rx)
  obtain ⟨_,_,vs,_,p⟩:=(show ObjOk X.prog X.w H s.heap a (.dK kvs) from I.hok a _ ea);obtain ⟨o,es,ep,h1,h2,_⟩:=p;exact PySem.W.kia_one PySem.W.kitx_dict I.kIn ⟨o,h1,h2.1⟩ e nofun h
 | @dT a kvs ea=>
  cases (show u=Value.ref a from rx)
  obtain ⟨_,_,xs,_,o,es,ep,h1,h2,_⟩:=(show ObjOk X.prog X.w H s.heap a (.dT kvs) from I.hok a _ ea);exact PySem.W.kia_one PySem.W.kitx_dict I.kIn ⟨o,h1,h2.1⟩ e nofun h
 | @ins a C dx fs ea cl ha hn htk hm=>
  cases (show u=Value.ref a from rx)
  obtain ⟨mA,O,_⟩:=yp I.hok ea;obtain ⟨od,J,_⟩:=O.look;exact PySem.W.kia_one (PySem.W.kitx_own (cl.get _) cl.hd ha hn htk hm) I.kIn J e nofun h
end
structure Room (k:Nat) (A:Around):Prop where
 hd:A.handled=none
 dp:A.depth+3*k+5<recursionLimit
 un:A.units+16*k+200<cLine
 gd:A.guards=some []
theorem Room.mono {j k:Nat} (r:Room k A) (h:j<=k):Room j A:=⟨r.hd,by have:=r.dp;omega,by have:=r.un;omega,r.gd⟩
theorem Room.deeper {k:Nat} (r:Room (k+1) A) (env:Env):Room k (A.deeper env):=
 ⟨r.hd,by have:=r.dp;show A.depth+1+3*k+5<_;omega,by have:=r.un;show A.units+3+16*k+200<_;omega,r.gd⟩
theorem Room.depth {k:Nat} (r:Room k A):A.depth<recursionLimit:=by have:=r.dp;omega
theorem Room.units {k:Nat} (r:Room k A):A.units+64<cLine:=by have:=r.un;omega
def eL:TA:=fun _ H Q=>Q [] H
def bS (ta:TE) (tr:TA):TA:=fun U H Q=>ta U H fun x H1=>tr U H1 fun xs H2=>Q (x::xs) H2
section
variable {X:Cx} {e:Expr} {es:List Expr} {te:TE} {t:TA} {pos:Pos}
theorem mP:PA X [] eL:=fun _ _ _ _ H Q I h=>Calls.spliced_nil ⟨[],H,I,.nil,h⟩
theorem gM (ha:PE X e te) (hr:PA X es t) (hs:starEach (e::es) X.env=(false,eval e X.env)::starEach es X.env:=by rfl):PA X (e::es) (bS te t):=by
 intro pos pins s U H Q I h;rw [hs];show wpAny _ _ (spliced ((false,eval e X.env)::backTo pos (starEach es X.env))) _ _ s
 refine Calls.spliced_cons (bj (ha pins s U H _ I h) fun u s1 ⟨x,H1,I1,r1,q1⟩=>?_)
 exact bj (hr pos pins s1 U H1 _ I1 q1) fun us s2 ⟨xs,H2,I2,r2,q2⟩=>⟨x::xs,H2,I2,.cons r1 r2,q2⟩
def A9 (t:TA):TE:=fun U H Q=>t U H fun xs H1=>xs.length<=sizeLine/\∀p,H1 p=none->Q (.ref p) (bo H1 p (.tup xs))
def Bc (t:TA):TE:=fun U H Q=>t U H fun xs H1=>xs.length<=sizeLine/\∀p,H1 p=none->Q (.ref p) (bo H1 p (.lst xs))
theorem uO {x1} (h:PA X es t):PE X (.Tuple es x1 pos) (A9 t):=by
 intro pins s U H Q I hq;refine wpAny_Tuple_spliced (bj (h pos pins s U H _ I hq) fun us s1 ⟨xs,H1,I1,r,z,q⟩=>⟨by rw [<-r.length];exact z,?_⟩)
 have hf:H1 s1.heap.objs.size=none:=I1.hok.fresh (Mb _)
 refine ⟨.ref s1.heap.objs.size,bo H1 s1.heap.objs.size (.tup xs),I1.laid (t':=s1.toks) (fun b u e=>Ma _ e) (Mb _) ?_,rfl,q _ hf⟩
 exact ⟨z,us,r,⟨_,Heap.get?_push_size _ rfl,rfl,_,rfl⟩⟩
theorem Il (h:PA X es t):PE X (.List es pos) (Bc t):=by
 intro pins s U H Q I hq;refine wpAny_List_spliced (bj (h pos pins s U H _ I hq) fun us s1 ⟨xs,H1,I1,r,z,q⟩=>⟨by rw [<-r.length];exact z,?_⟩)
 have hf:H1 s1.heap.objs.size=none:=I1.hok.fresh (Mb _)
 refine ⟨.ref s1.heap.objs.size,bo H1 s1.heap.objs.size (.lst xs),I1.laid (t':=s1.toks) (fun b u e=>Ma _ e) (Mb _) ?_,rfl,q _ hf⟩
 exact ⟨z,us,0,r,Heap.get?_push_size _ rfl⟩
end
abbrev Sp:=List V->Hp->VK->XK->Prop
abbrev r9:=List Env->Hp->Shared->XK->Value->Shared->Prop
structure rZ (P:Program) (w:World) (K:Fg) (mg:Str->Option Value) (base:Heap) (A:Around) (outer:List Env) (s:Shared) (H:Hp):Prop where
 frames:A.frames=some outer
 mod:Mod K mg base
 bs:∀b o,base.get? b=some o->s.heap.get? b=some o/\H b=none
 bsz:base.objs.size<=s.heap.objs.size
 funs:s.heap.FunFrames base outer
 frf:∀b∈fJ outer,H b=none
 hok:HOk P w H s.heap
 bare:AllBare s.gens
def CE (outer:List Env) (P:Program) (w:World) (H:Hp) (s:Shared) (Q:VK) (u:Value) (s':Shared):Prop:=
 ∃v H',s'.os=s.os/\AllBare s'.gens/\Un (fJ outer) [] H H' s.heap s'.heap/\HOk P w H' s'.heap/\RelV v u/\Q v H'
def CR (CX:r9) (outer:List Env) (P:Program) (w:World) (H:Hp) (s:Shared) (Q:VK) (E:XK) (r:Result) (s':Shared):Prop:=
 match r with
 | .ok (.ret u)=>CE outer P w H s Q u s'
 | .ok _=>False
 | .error e=>CX outer H s E e s'
structure cO (P:Program) (w:World) (K:Fg) (mg:Str->Option Value) (base:Heap) (CX:r9) (k:Nat) (f:Addr) (fd:FuncData) (ps:List Str) (sp:Sp):Prop where
 len:∀vs H Q E,sp vs H Q E->vs.length=ps.length
 run:∀(A:Around) (outer:List Env) (s:Shared) (H:Hp) (args:Args) (us:List Value) (vs:List V) (Q:VK) (E:XK),Room k A->rZ P w K mg base A outer s H->BindsTo s fd args (ps.zip us)->Vals vs us->sp vs H Q E ->
  codeAny (model P w) A (.call (.ref f) args) (CR CX outer P w H s Q E) s
section
variable {X:Cx} {pins:List (Addr×Obj)} {U:St} {H:Hp} {s s':Shared}
theorem Inv.env0 (I:Inv X pins U H s):rZ X.prog X.w X.K X.mg X.base X.A X.stack s H:=
 ⟨I.ok.frames,I.ok.mod,I.bs,Nat.le_trans I.ok.bsz I.sz,I.stack,I.stkFree,I.hok,I.bare⟩
theorem Inv.after {Q:VK} (I:Inv X pins U H s) (h:CE X.stack X.prog X.w H s Q u s'):EP X pins U Q u s':=by
 obtain ⟨v,H',os,bare,un,hok,r,q⟩:=h;obtain ⟨hh,g,d,t,os'⟩:=s'
 obtain rfl:os'=s.os:=os
 exact ⟨v,H',I.call (h':=hh) (g':=g) (d':=d) (t':=t) (ch:=[]) un hok bare (fun b z=>absurd z (by simp)),r,q⟩
end
def kF (sp:Sp) (dvs:List V) (E:XK) (t:TA):TE:=fun U H Q=>t U H fun vs H1=>sp (vs++dvs) H1 Q E
def Binds (K:Fg) (fd:FuncData) (ps:List Str) (ds:List Value):Prop:=
 ∀(s:Shared) (us:List Value),K.In s.heap->(us++ds).length=ps.length->BindsTo s fd ⟨us,[]⟩ (ps.zip (us++ds))
theorem Binds.all {fd:FuncData} (h:∀us:List Value,us.length=ps.length->bindArgs fd ⟨us,[]⟩=pure (ps.zip us)):Binds K fd ps []:=fun s us _ hl=>by
 rw [append_nil] at hl ⊢;exact .of_eq (h us hl)
def GH (CX:r9) (X:Cx) (E:XK):Prop:=∀(pins:List (Addr×Obj)) (U:St) (H:Hp) (s:Shared) (e:Value) (s':Shared),Inv X pins U H s->CX X.stack H s E e s'->X.xe e s'
section
variable {X:Cx} {CX:r9} {k:Nat} {f C:Addr} {fd:FuncData} {ps:List Str} {sp:Sp} {dvs:List V} {ds:List Value} {E:XK} {x m:Str} {p pos apos:Pos} {e o:Expr} {es:List Expr} {ta:TE} {t:TA}
theorem Bl {H:Hp} {s:Shared} {Q:VK} (F:cO X.prog X.w X.K X.mg X.base CX k f fd ps sp) (hr:Room k X.A) (hb:Binds X.K fd ps ds) (hd:Vals dvs ds) (hx:GH CX X E)
  (I:Inv X pins U H s) (r:Vals vs us) (h:sp (vs++dvs) H Q E):wpAny (model X.prog X.w) X.A (call (.ref f) us) (EP X pins U Q) X.xe s:=by
 have r2:Vals (vs++dvs) (us++ds):=r.append hd
 have hl:(us++ds).length=ps.length:=by rw [<-r2.length];exact F.len _ _ _ _ h
 refine wpAny_call (codeAny_mono (F.run X.A X.stack s H ⟨us,[]⟩ (us++ds) (vs++dvs) Q E hr I.env0 (hb s us I.kIn hl) r2 h) fun r s' hq=>?_)
 cases r with
 | error e=>exact hx pins U H s e s' I hq
 | ok fl=>
  cases fl with
  | ret u=>exact I.after hq
  | next=>exact False.elim hq
  | brk=>exact False.elim hq
  | cont=>exact False.elim hq
theorem IG (F:cO X.prog X.w X.K X.mg X.base CX k f fd ps sp) (hr:Room k X.A) (hg:Gl X x) (hm:X.mg x=some (.ref f)) (hk:PySem.W.keepIn X.K (.ref f)=true) (hb:Binds X.K fd ps ds) (hd:Vals dvs ds) (hx:GH CX X E)
  (ha:PA X (e::es) t) (hdb:(x==("__debug__":Str))=false:=by decide) (he:starEach (e::es) X.env=(false,eval e X.env)::starEach es X.env:=by rfl) (hpl:(backTo pos (starEach es X.env)).any (·.1)=false:=by rfl) :
  PE X (.Call (.Name x p) (e::es) [] pos) (kF sp dvs E t):=by
 intro pins s U H Q I h;refine wpAny_Call_Name_kw (Ei I hg hm ?_ hdb)
 refine PySem.W.callWith_K (h₀:=X.base) I.ok.mod.kin hk (bj (ha pos pins s U H _ I h) fun us s1 ⟨vs,H1,I1,r,q⟩=>⟨I1.kIn,?_⟩) he hpl
 exact Bl F hr hb hd hx I1 r q
end
structure bK (N P:List Str) (sc:Scope):Prop where
 kind:sc.kind=.function
 co:sc.isCoroutine=false
 gen:sc.isGenerator=false
 nd:N.Nodup
 pre:N.take P.length=P
 par:∀x∈P,sc.names.lookup x=some .local\/sc.names.lookup x=some .cell
 nofree:∀y∈sc.names,y.2≠.free
theorem jn {kindOf:Str->Option NameKind} {x:Str}:∀{binds:List (Str×Value)} {m:Str->Option Value},(∀v,(x,v)∉binds)->bindL kindOf binds m x=m x
 | [],_,_=>rfl
 | (n,v)::r,m,h=>by
  unfold bindL;rw [jn fun w hw=>h w (L5 _ hw)]
  split
  ·have:x≠n:=by rintro rfl;exact h v mem_cons_self
   simp [this]
  ·rfl
theorem jq {kindOf:Str->Option NameKind} {x:Str}:∀{binds:List (Str×Value)} {m:Str->Option Value},(∀v,(x,v)∉binds)->bindC kindOf binds m x=m x
 | [],_,_=>rfl
 | (n,v)::r,m,h=>by
  unfold bindC;rw [jq fun w hw=>h w (L5 _ hw)]
  split
  ·rfl
  ·have:x≠n:=by rintro rfl;exact h v mem_cons_self
   simp [this]
theorem jo {kindOf:Str->Option NameKind} {x:Str} {v:Value}:∀{P:List Str} {vs:List Value} {i:Nat} {m:Str->Option Value},P.Nodup->P[i]?=some x->vs[i]?=some v->kindOf x=some .local ->
  bindL kindOf (P.zip vs) m x=some v
 | [],_,_,_,_,h,_,_=>by simp at h
 | _::_,[],_,_,_,_,h,_=>by simp at h
 | p::P,w::vs,0,m,nd,h1,h2,hk=>by
  simp at h1 h2;subst h1;subst h2;show bindL kindOf ((p,w)::P.zip vs) m p=_
  unfold bindL;rw [jn fun v hv=>(List.nodup_cons.mp nd).1 (of_mem_zip hv).1,if_pos hk]
  simp
 | p::P,w::vs,i+1,m,nd,h1,h2,hk=>by
  show bindL kindOf ((p,w)::P.zip vs) m x=_
  unfold bindL;exact jo (i:=i) (List.nodup_cons.mp nd).2 (by simpa using h1) (by simpa using h2) hk
theorem jr {kindOf:Str->Option NameKind} {x:Str} {v:Value}:∀{P:List Str} {vs:List Value} {i:Nat} {m:Str->Option Value},P.Nodup->P[i]?=some x->vs[i]?=some v->kindOf x≠some .local ->
  bindC kindOf (P.zip vs) m x=some v
 | [],_,_,_,_,h,_,_=>by simp at h
 | _::_,[],_,_,_,_,h,_=>by simp at h
 | p::P,w::vs,0,m,nd,h1,h2,hk=>by
  simp at h1 h2;subst h1;subst h2;show bindC kindOf ((p,w)::P.zip vs) m p=_
  unfold bindC;rw [jq fun v hv=>(List.nodup_cons.mp nd).1 (of_mem_zip hv).1,if_neg hk]
  simp
 | p::P,w::vs,i+1,m,nd,h1,h2,hk=>by
  show bindC kindOf ((p,w)::P.zip vs) m x=_
  unfold bindC;exact jr (i:=i) (List.nodup_cons.mp nd).2 (by simpa using h1) (by simpa using h2) hk
def start (N:List Str) (vs:List V):St:=vs.map some++List.replicate (N.length-vs.length) none
def eh (CX:r9) (P:Program) (w:World) (K:Fg) (mg:Str->Option Value) (base:Heap) (N:List Str) (qual:Str) (scope:Scope) (f:Addr) (cd:Value) (A:Around) (outer:List Env) (s:Shared) (H:Hp) (E:XK):Cx where
 prog:=P
 w:=w
 K:=K
 mg:=mg
 base:=base
 A:=A.deeper (envOfC qual scope s.heap.objs.size f cd)
 N:=N
 s₀:=s
 H₀:=H
 env:=envOfC qual scope s.heap.objs.size f cd
 outer:=outer
 stack:=envOfC qual scope s.heap.objs.size f cd::outer
 ex:=[]
 calm:=true
 fn:=fun _=>true
 pn:=[]
 xe:=fun e s'=>wpAny (model P w) (A.deeper (envOfC qual scope s.heap.objs.size f cd)) (leaving (envOfC qual scope s.heap.objs.size f cd) e) (fun _ s''=>CX outer H s E e s'') (fun e' s''=>CX outer H s E e' s'') s'
theorem mC {sc:Scope} (h:sc.names.lookup x=some .cell):∃c,(cellsFrom n sc.names []).lookup x=some c:=by
 have q:=PySem.W.cellsFrom_some sc.names n [] (.inl h)
 exact Option.isSome_iff_exists.mp q
theorem ji {CX:r9} {P:Program} {w:World} {f:Addr} {cd:Value} {outer:List Env} {s s1:Shared} {H:Hp} {E:XK}
  (S:bK N ps scope) (hd:A.handled=none) (e0:rZ P w K mg base A outer s H) (hl:vs.length=ps.length) (r:Vals vs us)
  (x:InCallC s s.heap.objs.size (bindL (envOfC qual scope s.heap.objs.size f cd).kindOf (ps.zip us) fun _=>none) (cellsFrom (s.heap.objs.size+1) scope.names []) (bindC (envOfC qual scope s.heap.objs.size f cd).kindOf (ps.zip us) fun _=>none) s1) :
  Inv (eh CX P w K mg base N qual scope f cd A outer s H E) [] (start N vs) H s1:=by
 have hpl:ps.length<=N.length:=by have:=congrArg List.length S.pre;rw [length_take] at this;omega
 obtain ⟨h1,tk,rfl,hk⟩:=x.done;have noA:∀b:Addr,b∉(eh CX P w K mg base N qual scope f cd A outer s H E).ex:=fun b z=>absurd (show b∈([]:List Addr) from z) (by simp)
 refine ⟨⟨e0.mod,S.kind,rfl,rfl,Mb _,fun y z c h1 h2=>?_,fun y hy=>?_,fun y c _ h=>?_,fun _=>hd,Around.frames_deeper e0.frames,.inr ⟨rfl,rfl⟩,fun b z=>absurd z (noA b),e0.bs,e0.bsz,fun b _ _=>noA b,fun b z=>absurd z (noA b),e0.funs,e0.frf⟩,
  rfl,e0.bare,Un.kept hk,⟨_,x.toInCall.ns,fun i y v h1 h2 h3=>?_⟩,fun y c h=>⟨_,x.cell y c h⟩,e0.hok.fresh (Mb _),fun y c h=>?_,fun p hp=>absurd (show p∈([]:List (Addr×Obj)) from hp) (by simp),e0.hok.kept hk,?_⟩
 ·exact name_of_addr x.apart (PySem.mem_of_lookup h1) (PySem.mem_of_lookup h2)
 ·have hy:scope.names.lookup y=some .cell\/scope.names.lookup y=some .free:=hy
  rcases hy with hy | hy
  ·exact mC hy
  ·exact absurd rfl (S.nofree _ (PySem.mem_of_lookup hy))
 ·exact Nat.le_of_lt (x.above y c (PySem.mem_of_lookup h))
 ·have hi:i<vs.length:=by
   unfold start at h2;by_cases hi:i<vs.length
   ·exact hi
   ·rw [getElem?_append_right (by simpa using hi)] at h2
    rw [getElem?_replicate] at h2;split at h2<;>cases h2
  have ha:vs[i]?=some v:=by
   unfold start at h2;rw [getElem?_append_left (by simpa using hi),getElem?_map] at h2
   cases e:vs[i]? with
   | none=>rw [e] at h2;cases h2
   | some a=>rw [e] at h2;cases h2;rfl
  obtain ⟨u,hu,rv⟩:=r.get ha;have hp:ps[i]?=some y:=by
   rw [<-S.pre,List.getElem?_take_of_lt (by omega)];exact h1
  have ndP:ps.Nodup:=by rw [<-S.pre];exact S.nd.sublist (List.take_sublist _ _)
  refine ⟨u,rv,?_⟩
  rcases S.par y (mem_of_getElem? hp) with k | k
  ·exact .inl ⟨k,jo ndP hp hu k⟩
  ·obtain ⟨c,e⟩:=mC (n:=s.heap.objs.size+1) k
   refine .inr ⟨.inl k,c,e,?_⟩
   have q:=x.cell y c e
   rw [jr ndP hp hu (by show scope.names.lookup y≠_;rw [k];decide)] at q
   exact q
 ·exact e0.hok.fresh (Nat.le_of_lt (x.above y c (PySem.mem_of_lookup h)))
 ·unfold start
  show _=N.length
  rw [length_append,length_map,List.length_replicate];omega
theorem Aj {CX:r9} {P:Program} {w:World} {k:Nat} {f:Addr} {name:Str} {params:Arguments} {body:List Stmt} {dV kV doc pm cdv ct oc:Value} {an od:Option Addr}
  {osl:Array (Option Value)} {sp:Sp} (lk:K.lookup f=some ⟨oc,od,.func (PySem.W.fnOf name qual params body scope dV kV doc pm an cdv ct),osl⟩) (hcd:PySem.W.codeIn K cdv qual=true) (S:bK N ps scope)
  (len:∀vs H Q E,sp vs H Q E->vs.length=ps.length)
  (hbody:∀(A:Around) (outer:List Env) (s:Shared) (H:Hp) (vs:List V) (Q:VK) (E:XK),Room k (A.deeper (envOfC qual scope s.heap.objs.size f cdv))->sp vs H Q E ->
   ∃t,PSs (eh CX P w K mg base N qual scope f cdv A outer s H E) body t/\t { nx:=fun _ H'=>Q .non H',rt:=Q } (start N vs) H) :
  cO P w K mg base CX (k+1) f (PySem.W.fnOf name qual params body scope dV kV doc pm an cdv ct) ps sp:=by
 refine ⟨len,fun A outer s H args us vs Q E hr e0 hb r hsp=>?_⟩
 have hl:=len _ _ _ _ hsp
 have KX:K.In s.heap:=e0.mod.kin.keeps fun b o e=>(e0.bs b o e).1
 have lim:s.heap.NoLimit:=e0.mod.nolimit.keeps fun b o e=>(e0.bs b o e).1
 have hkind:∀y∈ps.zip us,scope.names.lookup y.1=some .local\/(scope.names.lookup y.1=some .cell/\((cellsFrom (s.heap.objs.size+1) scope.names []).lookup y.1).isSome=true):=fun ⟨n,v⟩ hy=>by
  rcases S.par n (of_mem_zip hy).1 with q | q
  ·exact .inl q
  ·exact .inr ⟨q,PySem.W.cellsFrom_some _ _ _ (.inl q)⟩
 refine codeAny_call_function hr.depth (KX _ _ lk) rfl S.co S.gen rfl (PySem.W.codeRec_of KX hcd) (hb _ _ _ _ ?_)
 refine wpAny_newFunctionEnv_cells S.kind hkind fun env he s1 x=>?_
 subst he;refine ⟨lim.keeps x.toInCall.keep,codeAny_func ?_⟩
 obtain ⟨t,ht,hq⟩:=hbody A outer s H vs Q E (hr.deeper _) hsp;have I:Inv (eh CX P w K mg base N qual scope f cdv A outer s H E) [] (start N vs) H s1:=ji S hr.hd e0 hl r x
 refine wpAny_mono (ht [] s1 (start N vs) H _ I hq) (fun fl s' hs=>?_) fun e s' hs=>hs
 have fin:∀{U':St} {H':Hp} {v:V} {u:Value},Inv (eh CX P w K mg base N qual scope f cdv A outer s H E) [] U' H' s'->RelV v u->Q v H'->CE outer P w H s Q u s':=
  fun {U' H' v u} J rv q=>⟨v,H',J.os,J.bare,J.base,J.hok,rv,q⟩
 cases fl with
 | ret u=>
  obtain ⟨v,U',H',J,rv,q⟩:=hs;exact fin J rv q
 | next=>
  obtain ⟨U',H',J,q⟩:=hs;exact fin (v:=V.non) (u:=Value.none) J rfl q
 | brk=>
  obtain ⟨_,_,_,q⟩:=hs;exact False.elim q
 | cont=>
  obtain ⟨_,_,_,q⟩:=hs;exact False.elim q
section
variable {X:Cx} {x:Str} {p pos:Pos} {e:Expr} {es:List Expr} {t:TA} {id T:String} {r:List V->Hp->VK->Prop}
def xo (r:List V->Hp->VK->Prop) (t:TA):TE:=fun U H Q=>t U H fun vs H1=>r vs H1 Q
theorem AG (hc:CallR X (.builtin id) r) (hg:Gl X x) (hm:X.mg x=none) (hv:bootBuiltins x=some (.builtin id)) (ha:PA X (e::es) t) (hn:x ≠ "__name__":=by decide) (hdb:(x==("__debug__":Str))=false:=by decide)
  (he:starEach (e::es) X.env=(false,eval e X.env)::starEach es X.env:=by rfl) (hpl:(backTo pos (starEach es X.env)).any (·.1)=false:=by rfl):PE X (.Call (.Name x p) (e::es) [] pos) (xo r t):=by
 intro pins s U H Q I h;refine wpAny_Call_Name_kw (wH I hg hm hv ?_ hn hdb)
 exact PyProof.Rows.callWith_builtin1 (bj (ha pos pins s U H _ I h) fun us s1 ⟨vs,H1,I1,r1,q1⟩=>hc pins s1 U H1 vs us Q I1 r1 q1) he hpl
theorem Jo (hc:CallR X (.type T) r) (hg:Gl X x) (hm:X.mg x=none) (hv:bootBuiltins x=some (.type T)) (ha:PA X (e::es) t) (hn:x ≠ "__name__":=by decide) (hdb:(x==("__debug__":Str))=false:=by decide)
  (he:starEach (e::es) X.env=(false,eval e X.env)::starEach es X.env:=by rfl) (hpl:(backTo pos (starEach es X.env)).any (·.1)=false:=by rfl):PE X (.Call (.Name x p) (e::es) [] pos) (xo r t):=by
 intro pins s U H Q I h;refine wpAny_Call_Name_kw (wH I hg hm hv ?_ hn hdb)
 exact PyProof.Rows.callWith_type1 (bj (ha pos pins s U H _ I h) fun us s1 ⟨vs,H1,I1,r1,q1⟩=>hc pins s1 U H1 vs us Q I1 r1 q1) he hpl
end
end L2
namespace HT
open PySem PyProof.Rows
section
variable {prog:Program} {w:World} {A:Around} {E:Value->Shared->Prop} {s:Shared}
def sIx (n d:Nat):Option Int->Nat
 | none=>d
 | some v=>if v<0 then (v+(n:Int)).toNat else min v.toNat n
theorem sIx_none (n d:Nat):sIx n d none=d:=rfl
theorem sIx_nat (n d k:Nat):sIx n d (some (k:Int))=min k n:=by
 show (if (k:Int)<0 then ((k:Int)+(n:Int)).toNat else min (k:Int).toNat n)=min k n
 rw [if_neg (by omega),Int.toNat_natCast]
end
end HT
namespace L2
open PySem PySem.Spec PyProof.Rows
variable {n t':Nat} {α:Type} {pins:List (Addr×Obj)} {U:St} {its its':List Value}
abbrev TO:=St->Hp->(Option Int->Hp->Prop)->Prop
def PO (X:Cx) (e:Option Expr) (t:TO):Prop:=
 ∀(pins:List (Addr×Obj)) (s:Shared) (U:St) (H:Hp) (Q:Option Int->Hp->Prop),Inv X pins U H s->t U H Q ->
  wpAny (model X.prog X.w) X.A (evalPart e X.env) (fun u s'=>∃o H',Inv X pins U H' s'/\IsPart u o/\Q o H') X.xe s
def xm:TO:=fun _ H Q=>Q none H
def EK (t:TE):TO:=fun U H Q=>t U H fun x H1=>∃i,x=.int i/\Q (some i) H1
section
variable {X:Cx} {e:Expr} {te:TE} {lo hi:Option Expr} {tl th:TO} {pos p2:Pos}
theorem pe:PO X none xm:=by
 intro pins s U H Q I h;rw [evalPart_none];exact L9 ⟨none,H,I,.none,h⟩
theorem pb (h:PE X e te):PO X (some e) (EK te):=by
 intro pins s U H Q I hw;rw [evalPart_some];refine bj (h pins s U H _ I hw) fun u s1 ⟨x,H1,I1,r1,q1⟩=>?_
 obtain ⟨i,rfl,q⟩:=q1;obtain ⟨t,rfl⟩:=r1;exact ⟨some i,H1,I1,.int i t,q⟩
def Ln (X:Cx) (r:V->Option Int->Option Int->Hp->VK->Prop):Prop:=
 ∀(pins:List (Addr×Obj)) (s:Shared) (U:St) (H:Hp) (x:V) (v vl vu:Value) (lo hi:Option Int) (sl:Addr) (Q:VK),Inv X pins U H s->RelV x v->s.heap.IsSliceOf sl vl vu .none->IsPart vl lo->IsPart vu hi->r x lo hi H Q ->
  ∃T id,typeLookup (.type T) "__getitem__"=pure (some (.builtin id))/\s.TypeIs v T/\wpAny (model X.prog X.w) X.A (getItem v (.ref sl)) (EP X pins U Q) X.xe s
def Lv (r:V->Option Int->Option Int->Hp->VK->Prop) (te:TE) (tl th:TO):TE:=fun U H Q=>te U H fun x H1=>tl U H1 fun l H2=>th U H2 fun u H3=>r x l u H3 Q
theorem lb {r:V->Option Int->Option Int->Hp->VK->Prop} (hr:Ln X r) (he:PE X e te) (hl:PO X lo tl) (hu:PO X hi th):PE X (.Subscript e (.Slice lo hi none p2) pos) (Lv r te tl th):=by
 intro pins s U H Q I h;refine Subscript_ (bj (he pins s U H _ I h) fun v s1 ⟨x,H1,I1,r1,q1⟩=>?_)
 refine wpAny_Slice (bj (hl pins s1 U H1 _ I1 q1) fun vl s2 ⟨l,H2,I2,pl,q2⟩=>bj (hu pins s2 U H2 _ I2 q2) fun vu s3 ⟨u,H3,I3,pu,q3⟩=>?_)
 rw [evalPart_none];refine L9 ?_
 have I4:Inv X pins U H3 { s3 with heap:=s3.heap.push { cls:=.type "slice",data:=.fields #[vl,vu,.none] } }:=I3.kept (t':=s3.toks) fun b ob q=>Ma _ q
 obtain ⟨T,id,hT,ht,hg⟩:=hr pins { s3 with heap:=s3.heap.push { cls:=.type "slice",data:=.fields #[vl,vu,.none] } } U H3 x v vl vu l u s3.heap.objs.size Q I4 r1 (Heap.IsSliceOf.new ..) pl pu q3
 show wpAny (model X.prog X.w) X.A (subscriptTail e (.Slice lo hi none p2) v (.ref s3.heap.objs.size)) (EP X pins U Q) X.xe { s3 with heap:=s3.heap.push { cls:=.type "slice",data:=.fields #[vl,vu,.none] } }
 exact tail_any (ops:=[.ref s3.heap.objs.size,v]) ht hT hg (by with_unfolding_all rfl)
def rP (xs:List V) (lo hi:Option Int):List V:=(xs.drop (HT.sIx xs.length 0 lo)).take (HT.sIx xs.length xs.length hi-HT.sIx xs.length 0 lo)
theorem mx (xs:List V) (lo hi:Option Int):(rP xs lo hi).length<=xs.length:=by
 unfold rP;rw [length_take,List.length_drop];omega
end
def dI (n:Nat) (i:Int):Option Nat:=if 0<=i then (if i<n then some i.toNat else none) else if -(n:Int)<=i then some (i+n).toNat else none
def d6 {α:Type} (xs:List α) (i:Int):Option α:=(dI xs.length i).bind fun j=>xs[j]?
theorem pH {i:Int} {j:Nat} (h:dI n i=some j):seqIndex? i n=some j/\j<n/\-(n:Int)<=i/\i<n:=by
 unfold dI at h;by_cases h0:0<=i
 ·rw [if_pos h0] at h
  by_cases h1:i<n
  ·rw [if_pos h1] at h
   have e:i.toNat=j:=Option.some.inj h
   exact ⟨by rw [seqIndex_of h0 h1,e],by omega,by omega,h1⟩
  ·rw [if_neg h1] at h;cases h
 ·rw [if_neg h0] at h
  by_cases h1:-(n:Int)<=i
  ·rw [if_pos h1] at h
   have e:(i+n).toNat=j:=Option.some.inj h
   exact ⟨by rw [seqIndex_neg (by omega) h1,e],by omega,h1,by omega⟩
  ·rw [if_neg h1] at h;cases h
theorem Iy {xs:List α} {i:Int} {v:α} (h:d6 xs i=some v):∃j,seqIndex? i xs.length=some j/\xs[j]?=some v/\j<xs.length/\-(xs.length:Int)<=i/\i<xs.length:=by
 unfold d6 at h
 cases e:dI xs.length i with
 | none=>rw [e] at h;cases h
 | some j=>
  rw [e] at h;obtain ⟨h1,h2,h3,h4⟩:=pH e;exact ⟨j,h1,h,h2,h3,h4⟩
def DI (b:Expr):Prop:=∀o i,subscripted b false o i=operate [o,i] (getItem o i)
def IxR (X:Cx) (r:R2):Prop:=
 ∀(value slice:Expr) (pins:List (Addr×Obj)) (s:Shared) (U:St) (H:Hp) (x y:V) (v u:Value) (Q:VK),Inv X pins U H s->RelV x v->RelV y u->r x y H Q ->
  subscripted slice false v u=operate [v,u] (getItem v u)->wpAny (model X.prog X.w) X.A (subscriptTail value slice v u) (EP X pins U Q) X.xe s
def DX (X:Cx) (id:String) (r:V->List V->Hp->VK->Prop):Prop:=
 ∀(pins:List (Addr×Obj)) (s:Shared) (U:St) (H:Hp) (x:V) (xs:List V) (v:Value) (us:List Value) (Q:VK),Inv X pins U H s->RelV x v->Vals xs us->r x xs H Q ->
  wpAny (model X.prog X.w) X.A (call (.builtin id) (v::us)) (EP X pins U Q) X.xe s
section
variable {X:Cx} {a b:Expr} {ta tb:TE} {pos:Pos}
theorem IxR.or {r r':R2} (h:IxR X r) (h':IxR X r'):IxR X (fun x y H Q=>r x y H Q\/r' x y H Q):=by
 intro value slice pins s U H x y v u Q I rx ry q hs;rcases q with q | q
 ·exact h value slice pins s U H x y v u Q I rx ry q hs
 ·exact h' value slice pins s U H x y v u Q I rx ry q hs
theorem lg {r:R2} (hr:IxR X r) (ha:PE X a ta) (hb:PE X b tb) (hs:DI b):PE X (.Subscript a b pos) (tK r ta tb):=by
 intro pins s U H Q I h;exact Subscript_ (Dr ha hb I h fun v u s2 x y H2 I2 rx ry q=>hr a b pins s2 U H2 x y v u Q I2 rx ry q (hs _ _))
def Fi (K:Fg):R2:=fun x y H Q=>∃p xs i v,x=.ref p/\y=.int i/\SqL K H p xs/\d6 xs i=some v/\Q v H
def Ff (K:Fg):R2:=fun x y H Q=>∃p xs i v,x=.ref p/\y=.int i/\SqT K H p xs/\d6 xs i=some v/\Q v H
def Fh:R2:=fun x y H Q=>∃z i c,x=.str z/\y=.int i/\z.length<=sizeLine/\d6 z.cps.toList i=some c/\Q (.str ⟨#[c]⟩) H
theorem ix_list:IxR X (Fi X.K):=by
 intro value slice pins s U H x y v u Q I rx ry h hs;obtain ⟨p,xs,i,z,rfl,rfl,hq,he,q⟩:=h
 cases rx;obtain ⟨t,rfl⟩:=ry;obtain ⟨its,r,pl,hz⟩:=I.list hq;obtain ⟨j,h1,h2,h3,h4,h5⟩:=Iy he;obtain ⟨w,ew,rw'⟩:=r.get h2;have hl:=r.length
 have hn:=zp
 have fin:EP X pins U Q w s:=⟨z,H,I,rw',q⟩
 by_cases h0:0<=i
 ·have hj:i.toNat=j:=by
   rw [seqIndex_of h0 h5] at h1;exact Option.some.inj h1
  exact item_listR pl.isList h0 (by omega) (by rw [hj];simpa using ew) fin hs
 ·have hj:(i+(its.toArray.size:Int)).toNat=j:=by
   rw [seqIndex_neg (by omega) h4] at h1
   rw [size_toArray,<-hl];exact Option.some.inj h1
  exact subscriptTail_builtinR (x:=w) pl.isList.typeIs slot_list_getitem.lookup
   (wpAny_getItem_list_neg (Q:=fun r s'=>r=w/\EP X pins U Q r s') pl.isList (by omega) (by rw [size_toArray]<;>omega) (by omega) (by rw [hj];simpa using ew) ⟨rfl,fin⟩) hs
theorem ix_tup:IxR X (Ff X.K):=by
 intro value slice pins s U H x y v u Q I rx ry h hs;obtain ⟨p,xs,i,z,rfl,rfl,hq,he,q⟩:=h
 cases rx;obtain ⟨t,rfl⟩:=ry;obtain ⟨its,r,pl,hz⟩:=I.tuple hq;obtain ⟨j,h1,h2,h3,h4,h5⟩:=Iy he;obtain ⟨w,ew,rw'⟩:=r.get h2;have hl:=r.length
 have hn:=zp
 have fin:EP X pins U Q w s:=⟨z,H,I,rw',q⟩
 exact subscriptTail_builtinR (x:=w) pl.typeIs slot_tuple_getitem.lookup
  (getItem_tuple (j:=j) (Q:=fun r s'=>r=w/\EP X pins U Q r s') pl (by omega) (by omega) (by rw [size_toArray,<-hl];exact h1) (by simpa using ew) ⟨rfl,fin⟩) hs
theorem CB:IxR X Fh:=by
 intro value slice pins s U H x y v u Q I rx ry h hs;obtain ⟨z,i,c,rfl,rfl,hz,he,q⟩:=h;obtain ⟨t,rfl⟩:=rx;obtain ⟨t',rfl⟩:=ry;obtain ⟨j,h1,h2,h3,h4,h5⟩:=Iy he;have hl:z.cps.toList.length=z.length:=by simp [Str.length]
 rw [hl] at h1 h4 h5
 have hn:=zp
 exact tail_any (typeIs_str s z t) slot_str_getitem.lookup (getItem_str (c:=c) (by
  have e1:decide (i < -(2 ^ 63:Int))=false:=decide_eq_false (by omega)
  have e2:decide (i≥2 ^ 63)=false:=decide_eq_false (by omega)
  rw [e1,e2,Bool.or_false]) (by rw [h1];simpa using h2) ⟨.str ⟨#[c]⟩,H,I.tok _,⟨_,rfl⟩,q⟩) hs
def zW (K:Fg):R2:=fun x y H Q=>Fi K x y H Q\/Ff K x y H Q\/Fh x y H Q
theorem D9:IxR X (zW X.K):=ix_list.or (ix_tup.or CB)
theorem nA (its:List Value) (n j:Nat) (u:Value):Obj.mapSeq (·.setIfInBounds j u) { cls:=.type "list",data:=.seq its.toArray n }={ cls:=.type "list",data:=.seq (its.set j u).toArray n }:=by
 simp [Obj.mapSeq]
theorem Inv.lst {pins:List (Addr×Obj)} {U:St} {H:Hp} {s:Shared} {p:Addr} {xs:List V} (I:Inv X pins U H s) (h:H p=some (.lst xs)) :
  ∃(its:List Value) (n:Nat),Vals xs its/\s.heap.get? p=some { cls:=.type "list",data:=.seq its.toArray n }/\xs.length<=sizeLine:=by
 obtain ⟨z,its,n,r,e⟩:=I.hok p _ h;exact ⟨its,n,r,e,z⟩
theorem Inv.lstUpd {H:Hp} {s:Shared} {p:Addr} {xs ys:List V} {n':Nat} {f:Obj->Obj} (I:Inv X pins U H s) (h:H p=some (.lst xs))
  (ho:s.heap.get? p=some { cls:=.type "list",data:=.seq its.toArray n }) (hf:f { cls:=.type "list",data:=.seq its.toArray n }={ cls:=.type "list",data:=.seq its'.toArray n' }) (r:Vals ys its') (hz:ys.length<=sizeLine) (t:Nat) :
  Inv X pins U (bo H p (.lst ys)) { s with heap:=s.heap.update p f,toks:=t }:=by
 have e:(s.heap.update p f).get? p=some { cls:=.type "list",data:=.seq its'.toArray n' }:=by
  rw [Heap.get?_update_self f ho (by rw [hf]<;>rfl),hf]
 refine I.write (x:=p) (e:=p) (by rw [h];trivial) (.inl rfl) (fun b u hb q=>(Heap.get?_update_other _ _ (Ne.symm hb)).trans q) ⟨_,e⟩ ?_
 exact ⟨hz,its',n',r,e⟩
def ux:V->V->V->Hp->(Hp->Prop)->Prop:=fun o i v H Q=>∃p xs k j,o=.ref p/\i=.int k/\H p=some (.lst xs)/\dI xs.length k=some j/\Q (bo H p (.lst (xs.set j v)))
theorem tX:Gy X ux:=by
 intro pins s U H o i v ov iv u Q I ro ri rv h;obtain ⟨p,xs,k,j,rfl,rfl,hp,hj,q⟩:=h
 cases ro;obtain ⟨t,rfl⟩:=ri;obtain ⟨its,n,r,ho,hz⟩:=I.lst hp;obtain ⟨h1,h2,h3,h4⟩:=pH hj;have hl:=r.length
 have hn:=zp
 have I':Inv X pins U (bo H p (.lst (xs.set j v))) { s with heap:=s.heap.update p (Obj.mapSeq (·.setIfInBounds j u)) }:=
  I.lstUpd hp ho (nA its n j u) (r.set rv j) (by rw [length_set];exact hz) s.toks
 by_cases h0:0<=k
 ·have hk:k.toNat=j:=by
   rw [seqIndex_of h0 h4] at h1;exact Option.some.inj h1
  exact PySem.W.ki_setAt ho h0 (by omega) (by rw [size_toArray,<-hl];exact h4) (by rw [hk];exact ⟨_,I',q⟩)
 ·have hk:(k+(its.toArray.size:Int)).toNat=j:=by
   rw [seqIndex_neg (by omega) h3] at h1
   rw [size_toArray,<-hl];exact Option.some.inj h1
  exact PySem.W.ki_setBack ho (by omega) (by rw [size_toArray,<-hl];exact h3) (by omega) (by rw [hk];exact ⟨_,I',q⟩)
theorem jx (lo hi:Option Int) (n:Nat):(sliceBounds lo hi none n).1=((HT.sIx n 0 lo:Nat):Int)/\(sliceBounds lo hi none n).2.1=((HT.sIx n n hi:Nat):Int)/\(sliceBounds lo hi none n).2.2=1:=by
 refine ⟨?_,?_,rfl⟩
 ·cases lo with
  | none=>simp [sliceBounds,HT.sIx]
  | some i=>
   simp only [sliceBounds,HT.sIx,Option.getD_none,show (1:Int)>0 by decide,if_true]
   by_cases h:i<0
   ·simp only [h,if_true]<;>omega
   ·simp only [h,if_false]<;>omega
 ·cases hi with
  | none=>simp [sliceBounds,HT.sIx]
  | some i=>
   simp only [sliceBounds,HT.sIx,Option.getD_none,show (1:Int)>0 by decide,if_true]
   by_cases h:i<0
   ·simp only [h,if_true]<;>omega
   ·simp only [h,if_false]<;>omega
theorem ir (its:List Value) (lo hi:Option Int):slicePick its.toArray lo hi none=((its.drop (HT.sIx its.length 0 lo)).take (HT.sIx its.length its.length hi-HT.sIx its.length 0 lo)).toArray:=by
 obtain ⟨h1,h2,h3⟩:=jx lo hi its.toArray.size;unfold slicePick;rw [h1,h2,h3];simp only [sliceRange_one,pick_run,size_toArray]<;>rfl
def BH (K:Fg):V->Option Int->Option Int->Hp->VK->Prop:=fun x lo hi H Q=>∃a xs,x=.ref a/\SqL K H a xs/\∀p,H p=none->Q (.ref p) (bo H p (.lst (rP xs lo hi)))
theorem oN:Ln X (BH X.K):=by
 intro pins s U H x v vl vu lo hi sl Q I rx hs pl pu h;obtain ⟨a,xs,rfl,hx,q⟩:=h
 cases rx;obtain ⟨its,r,ht,hz⟩:=I.list hx;have hlen:=r.length
 refine ⟨"list",_,slot_list_getitem.lookup,ht.isList.typeIs,?_⟩
 refine wpAny_getItem_list_slice ht.isList hs pl pu .none (by simp) ?_ (by rw [size_toArray]<;>omega)
 rw [ir,<-hlen];refine ⟨.ref s.heap.objs.size,_,I.laid (t':=s.toks) (o:=.lst (rP xs lo hi)) (fun b ob q=>Ma _ q) (Mb _) ?_,rfl,q _ (I.hok.fresh (Mb _))⟩
 exact ⟨Nat.le_trans (mx xs lo hi) hz,_,0,(r.drop (HT.sIx xs.length 0 lo)).take (HT.sIx xs.length xs.length hi-HT.sIx xs.length 0 lo),Heap.get?_push_size _ rfl⟩
theorem call_len_seq:CallR X (.builtin "len") (fun xs H Q=>∃p ys,xs=[.ref p]/\(SqL X.K H p ys\/SqT X.K H p ys)/\Q (.int ys.length) H):=by
 intro pins s U H xs us Q I r h;obtain ⟨p,ys,rfl,hq,q⟩:=h;obtain ⟨u,rfl,rx⟩:=vals1 r
 cases rx;have hn:=zp
 rcases hq with hq | hq
 ·obtain ⟨its,r',pl,hz⟩:=I.list hq
  have hlen:=r'.length
  exact Calls.call_len_list pl.isList (by simp only [size_toArray]<;>omega) ⟨.int ys.length,H,I.tok _,⟨s.toks+1,by rw [size_toArray,hlen]⟩,q⟩
 ·obtain ⟨its,r',pl,hz⟩:=I.tuple hq
  have hlen:=r'.length
  exact len_tuple pl (by simp only [size_toArray]<;>omega) ⟨.int ys.length,H,I.tok _,⟨s.toks+1,by rw [size_toArray,hlen]⟩,q⟩
theorem ka:CallR X (.builtin "len") (fun xs H Q=>∃z,xs=[.str z]/\z.length<=sizeLine/\Q (.int z.length) H):=by
 intro pins s U H xs us Q I r h;obtain ⟨z,rfl,hz,q⟩:=h;obtain ⟨u,rfl,t,rfl⟩:=vals1 r;have hn:=zp
 exact len_str (by omega) ⟨.int z.length,H,I.tok _,⟨_,rfl⟩,q⟩
theorem CallR.or {f:Value} {r r':List V->Hp->VK->Prop} (h:CallR X f r) (h':CallR X f r'):CallR X f (fun xs H Q=>r xs H Q\/r' xs H Q):=by
 intro pins s U H xs us Q I rs q;rcases q with q | q
 ·exact h pins s U H xs us Q I rs q
 ·exact h' pins s U H xs us Q I rs q
theorem fx:CallR X (.type "list") (fun xs H Q=>∃p ys,xs=[.ref p]/\(SqL X.K H p ys\/SqT X.K H p ys)/\∀l,H l=none->Q (.ref l) (bo H l (.lst ys))):=by
 intro pins s U H xs us Q I r h;obtain ⟨p,ys,rfl,hq,q⟩:=h;obtain ⟨u,rfl,rx⟩:=vals1 r
 cases rx;have fin:∀(its:List Value),Vals ys its->ys.length<=sizeLine->∀(h':Heap) (c':Nat),(∀b o',s.heap.get? b=some o'->h'.get? b=some o') ->
   h'.get? s.heap.objs.size=some { cls:=.type "list",dict:=none,data:=.seq its.toArray c',slots:=#[] }->EP X pins U Q (.ref s.heap.objs.size) { s with heap:=h' }:=fun its r' hz h' c' kp e=>
  ⟨.ref s.heap.objs.size,_,I.laid (t':=s.toks) kp (Mb _) (show ObjOk X.prog X.w _ h' _ (.lst ys) from ⟨hz,its,c',r',e⟩),rfl,q _ (I.hok.fresh (Mb _))⟩
 rcases hq with hq | hq
 ·obtain ⟨its,r',pl,hz⟩:=I.list hq
  have hlen:=r'.length
  obtain ⟨o,ho,hc,n,hd⟩:=pl.isList;exact call_list_seq p (.inl rfl) ho hc hd (fun h' c' kp e=>fin its r' hz h' c' kp e) (by simp only [size_toArray]<;>omega)
 ·obtain ⟨its,r',pl,hz⟩:=I.tuple hq
  have hlen:=r'.length
  obtain ⟨o,ho,hc,n,hd⟩:=pl;exact call_list_seq p (.inr rfl) ho hc hd (fun h' c' kp e=>fin its r' hz h' c' kp e) (by simp only [size_toArray]<;>omega)
def JL (K:Fg) (T:String) (x:V) (H:Hp):Prop:=match x with
 | .str _=>T = "str"
 | .int _=>T = "int"
 | .ref p=>(T = "list"/\∃xs,SqL K H p xs)\/(T = "tuple"/\∃o,K.lookup p=some o/\o.cls=.type "tuple"/\o.dict=none) \/
   (T = "dict"/\((∃kvs,H p=some (.dK kvs))\/∃kvs,H p=some (.dT kvs)))\/(T = "set"/\∃S n,H p=some (.set S n))
 | _=>False
theorem tD {H:Hp} {s:Shared} {T:String} {x:V} {v:Value} (I:Inv X pins U H s) (r:RelV x v) (ty:JL X.K T x H) :
  s.TypeIs v T/\∀a,v=.ref a->∃ob,s.heap.get? a=some ob/\ob.dict=none:=by
 cases x with
 | str z=>
  obtain ⟨t,rfl⟩:=r
  cases (show T = "str" from ty)
  exact ⟨typeIs_str s z t,fun _ e=>nomatch e⟩
 | int i=>
  obtain ⟨t,rfl⟩:=r
  cases (show T = "int" from ty)
  exact ⟨typeIs_int s i t,fun _ e=>nomatch e⟩
 | ref p=>
  cases r;rcases ty with ⟨rfl,xs,hq⟩ | ⟨rfl,o,hk,hc,hd⟩ | ⟨rfl,hk⟩ | ⟨rfl,S,n,hk⟩
  ·obtain ⟨its,_,pl,_⟩:=I.list hq
   refine ⟨pl.isList.typeIs,fun a e=>?_⟩
   cases e;obtain ⟨o,n,e,c,hd,_⟩:=pl;exact ⟨o,e,hd⟩
  ·refine ⟨⟨o,I.kIn p o hk,hc⟩,fun a e=>?_⟩
   cases e;exact ⟨o,I.kIn _ o hk,hd⟩
  ·have z:∃o,s.heap.get? p=some o/\o.ExactDict:=by
    rcases hk with ⟨kvs,hk⟩ | ⟨kvs,hk⟩
    ·obtain ⟨_,_,_,_,o,_,_,e,ex,_⟩:=I.hok p _ hk
     exact ⟨o,e,ex⟩
    ·obtain ⟨_,_,_,_,o,_,_,e,ex,_⟩:=I.hok p _ hk
     exact ⟨o,e,ex⟩
   obtain ⟨o,e,ex⟩:=z;refine ⟨⟨o,e,ex.1⟩,fun a e2=>?_⟩
   cases e2;exact ⟨o,e,ex.2.1⟩
  ·obtain ⟨o,_,_,_,e,ex,_⟩:=I.hok p _ hk
   refine ⟨⟨o,e,ex.1⟩,fun a e2=>?_⟩
   cases e2;exact ⟨o,e,ex.2.1⟩
 | _=>exact False.elim ty
def EM (K:Fg) (T:String) (r:V->List V->Hp->VK->Prop) (to:TE):TE:=fun U H Q=>to U H fun x H1=>JL K T x H1/\r x [] H1 Q
def wQ (K:Fg) (T:String) (r:V->List V->Hp->VK->Prop) (to:TE) (t:TA):TE:=fun U H Q=>to U H fun x H1=>JL K T x H1/\t U H1 fun xs H2=>r x xs H2 Q
variable {o e:Expr} {es:List Expr} {to:TE} {t:TA} {name:Str} {apos cpos:Pos} {T id:String} {r:V->List V->Hp->VK->Prop}
theorem BZ (pa:PlainAttrs T) (slot:Slot T name id) (hty:typeOf (.builtin id)=pure (.type "method_descriptor")) (hm:DX X id r) (ho:PE X o to)
  (hbase:attributeBase o name X.env (eval o X.env)=eval o X.env:=by rfl) (hline:(apos.endLine==cpos.line)=true:=by rfl):PE X (.Call (.Attribute o name apos) [] [] cpos) (EM X.K T r to):=by
 intro pins s U H Q I h;refine wpAny_Call_method0_late hbase hline (bj (ho pins s U H _ I h) fun v s1 ⟨x,H1,I1,r1,ty,q1⟩=>?_)
 obtain ⟨h1,h2⟩:=tD I1 r1 ty;exact ⟨T,id,pa,slot,hty,h1,h2,Calls.callWith_builtin rfl (PySem.evalArgs_none (hm pins s1 U H1 x [] v [] Q I1 r1 .nil q1))⟩
theorem fT (pa:PlainAttrs T) (slot:Slot T name id) (hty:typeOf (.builtin id)=pure (.type "method_descriptor")) (hm:DX X id r) (ho:PE X o to) (ha:PA X (e::es) t)
  (hbase:attributeBase o name X.env (eval o X.env)=eval o X.env:=by rfl)
  (hfew:((backTo cpos (starEach (e::es) X.env)).all (fun x=>!x.1)&&(backToKw cpos (keywordEach [] X.env)).all (fun x=>x.1.isSome)
   && decide ((e::es).length+([]:List Keyword).length+(if ([]:List Keyword).isEmpty then 0 else 1)<30))=true:=by rfl)
  (hline:(apos.endLine==cpos.line)=true:=by rfl) (hs:starEach (e::es) X.env=(false,eval e X.env)::starEach es X.env:=by rfl) (hplain:(backTo cpos (starEach es X.env)).any (·.1)=false:=by rfl) :
  PE X (.Call (.Attribute o name apos) (e::es) [] cpos) (wQ X.K T r to t):=by
 intro pins s U H Q I h;refine wpAny_Call_method_late hbase hfew hline rfl (bj (ho pins s U H _ I h) fun v s1 ⟨x,H1,I1,r1,ty,q1⟩=>?_)
 obtain ⟨h1,h2⟩:=tD I1 r1 ty;refine ⟨T,id,pa,slot,hty,h1,h2,?_⟩
 have hA:=ha cpos pins s1 U H1 _ I1 q1
 rw [hs] at hA ⊢;refine Calls.callWith_builtin (by show (false||(backTo cpos (starEach es X.env)).any (·.1))=false;rw [hplain]<;>rfl) (Calls.evalArgs_plain ?_)
 exact bj hA fun us s2 ⟨vs,H2,I2,r2,q2⟩=>hm pins s2 U H2 x vs v us Q I2 r1 r2 q2
end
def KF (X:Cx) (id:String) (r:V->List V->Hp->VK->Prop):Prop:=
 ∀(pins:List (Addr×Obj)) (s:Shared) (U:St) (H:Hp) (x:V) (xs:List V) (v:Value) (us:List Value) (Q:VK),Inv X pins U H s->RelV x v->Vals xs us->r x xs H Q ->
  wpAny (model X.prog X.w) X.A (call (.builtin id) (v::us)) (EP X pins U Q) X.xe s
theorem Vals.one:∀{x:V} {us:List Value},Vals [x] us->∃u,us=[u]/\RelV x u
 | _,_,.cons r .nil=>⟨_,rfl,r⟩
theorem Vals.zero:∀{us:List Value},Vals [] us->us=[]
 | _,.nil=>rfl
theorem Vals.dropLast {xs:List V} {us:List Value} (h:Vals xs us):Vals xs.dropLast us.dropLast:=by
 induction h with
 | nil=>exact .nil
 | cons r t ih=>
  cases t with
  | nil=>exact .nil
  | cons q t'=>exact .cons r ih
theorem nL (l:List α):l.eraseIdx (l.length-1)=l.dropLast:=by
 induction l with
 | nil=>rfl
 | cons a r ih=>
  cases r with
  | nil=>rfl
  | cons b r=>
   have e:(a::b::r).length-1=((b::r).length-1)+1:=by
    have h1:(a::b::r).length=r.length+2:=rfl
    have h2:(b::r).length=r.length+1:=rfl
    omega
   rw [e,List.eraseIdx_cons_succ,ih];all_goals rfl
section
variable {X:Cx} {pins:List (Addr×Obj)} {U:St} {H:Hp} {s:Shared} {l b:Addr} {xs ys zs:List V}
theorem Inv.lset {f:Array Value->Array Value} (I:Inv X pins U H s) (hH:H l=some (.lst xs))
  (e:s.heap.get? l=some { cls:=.type "list",data:=.seq its.toArray n }) (hf:f its.toArray=its'.toArray) (hv:Vals ys its') (hz:ys.length<=sizeLine) :
  Inv X pins U (bo H l (.lst ys)) { s with heap:=s.heap.update l (Obj.mapSeq f),toks:=t' }:=by
 have q:=PySem.IsL.update e f
 rw [hf] at q;refine I.write (x:=l) (e:=l) (by rw [hH];exact trivial) (.inl rfl) (fun b' u hb hu=>(Heap.get?_update_other s.heap (Obj.mapSeq f) (Ne.symm hb)).trans hu) ⟨_,q⟩ ?_
 exact ⟨hz,its',_,hv,q⟩
theorem Inv.lnew (I:Inv X pins U H s) (hv:Vals ys its) (hz:ys.length<=sizeLine) :
  Inv X pins U (bo H s.heap.objs.size (.lst ys)) { s with heap:=s.heap.push { cls:=.type "list",data:=.seq its.toArray },toks:=t' }:=
 I.laid (fun _ _ q=>Ma _ q) (Mb _) ⟨hz,its,0,hv,Heap.get?_push_size _ rfl⟩
theorem Inv.fresh (I:Inv X pins U H s):H s.heap.objs.size=none:=I.hok.fresh (Mb _)
theorem Inv.lstM (I:Inv X pins U H s) (hH:H l=some (.lst xs)):xs.length<=sizeLine/\∃(its:List Value) (n:Nat),Vals xs its/\xs.length=its.length/\s.heap.get? l=some { cls:=.type "list",data:=.seq its.toArray n }:=by
 obtain ⟨z,its,n,r,e⟩:=I.hok l _ hH;exact ⟨z,its,n,r,r.length,e⟩
theorem u4 (h:n<=sizeLine):Builtin.List.listTooLong n=false:=by
 unfold Builtin.List.listTooLong;exact decide_eq_false (by omega)
end
section
variable {X:Cx}
def En:V->List V->Hp->VK->Prop:=fun x vs H Q=>∃l xs y,x=.ref l/\vs=[y]/\H l=some (.lst xs)/\xs.length<sizeLine/\Q .non (bo H l (.lst (xs++[y])))
theorem Hm:KF X "list.append" En:=by
 intro pins s U H x vs v us Q I rx rv h;obtain ⟨l,xs,y,rfl,rfl,hH,hz,q⟩:=h
 cases rx;obtain ⟨u,rfl,ru⟩:=rv.one;obtain ⟨z,its,n,r,hl,e⟩:=I.lstM hH;refine call_meets F.slot_list_append ⟨_,e,rfl⟩ F.entry_list_append (F.args_list_append_2 _ _) (PySem.list_append l its.toArray n u (by rw [size_toArray];omega)) ⟨e,?_⟩
 refine ⟨.non,_,I.lset (its':=its++[u]) hH e (by simp) (r.append (.cons ru .nil)) ?_,rfl,q⟩
 rw [length_append,length_singleton];omega
def Fd:V->List V->Hp->VK->Prop:=fun x vs H Q=>∃l xs y,x=.ref l/\vs=[]/\H l=some (.lst xs)/\xs[xs.length-1]?=some y/\Q y (bo H l (.lst xs.dropLast))
theorem Ci:KF X "list.pop" Fd:=by
 intro pins s U H x vs v us Q I rx rv h;obtain ⟨l,xs,y,rfl,rfl,hH,hy,q⟩:=h
 cases rx;have hus:=rv.zero
 subst hus;obtain ⟨z,its,n,r,hl,e⟩:=I.lstM hH;obtain ⟨u,hu,ru⟩:=r.get hy;have hy':its.toArray[its.toArray.size-1]?=some u:=by
  show its.toArray[its.length-1]?=some u
  rw [<-Array.getElem?_toList,<-hl];exact hu
 refine call_meets F.slot_list_pop ⟨_,e,rfl⟩ F.entry_list_pop (F.args_list_pop_1 _) (MeetsSeq.list_pop_last l its.toArray n u hy' (by rw [size_toArray];omega)) ⟨e,?_⟩
 refine ⟨y,_,I.lset (its':=its.dropLast) hH e ?_ r.dropLast ?_,ru,q⟩
 ·show its.toArray.eraseIdxIfInBounds (its.toArray.size-1)=its.dropLast.toArray
  rw [size_toArray,List.eraseIdxIfInBounds_toArray,nL]
 ·rw [List.length_dropLast]
  omega
end
section
variable {prog:Program} {w:World} {A:Around} {E:Value->Shared->Prop} {s:Shared}
set_option maxRecDepth 100000 in
end
end L2
namespace Att
open PySem PySem.W PySem.Calls PyProof.Rows
variable {h:Heap} {l:OpenLaw} {n:Nat}
theorem gr {P:Params}:∀(ns:List Int) (vs:List Value),WellAll P h vs (ns.map WData.int)->IntsAre vs ns:=by
 intro ns;induction ns with
 | nil=>
  intro vs w;rw [map_nil] at w
  cases w;exact .nil
 | cons n ns ih=>
  intro vs w;rw [map_cons] at w
  cases w with
  | cons a b=>
   cases a;exact .cons _ _ (ih _ b)
theorem qh (hn:l.most=some n) {P:Params} {args:List WData} {vals:List Value}
  (hpre:l.row.toRowW.claim.pre args=true) (hwl:WellAll P h vals args) :
  ∃a vs ns,vals=[Value.ref a]/\args=[WData.list (ns.map WData.int)]/\h.get? a=some { cls:=.type "list",data:=.seq vs.toArray }/\IntsAre vs ns/\ns.length<=n:=by
 have hsh:WShape.hasAll [] args [.list .int]=true:=(pre_splitW hpre).1
 have hc:l.pre.holds [] { args:=args }=true:=(pre_splitW hpre).2
 obtain ⟨d,r,rfl,h1,h2⟩:=hasAllW_cons hsh;obtain rfl:=hasAllW_nil h2
 obtain ⟨xs,rfl,h3⟩:=hasW_list h1;obtain ⟨ns,rfl⟩:=items_int h3;have hlen:ns.length<=n:=by
  unfold OpenLaw.pre at hc;have h4:(WTm.not (.lt (.lit (.int (n:Int))) (.len (.arg 0)))).holds [] { args:=[.list (ns.map .int)] }=true:=by
   have h4:=(holds_andW hc).1
   rw [hn] at h4;exact h4
  have h5:=condW_of h4 (w_not (w_lt w_lit (w_len_list (w_arg rfl))))
  rw [length_map] at h5;refine Nat.le_of_not_lt fun q=>?_
  have q':(n:Int)<((ns.length:Nat):Int):=by omega
  first
   | (rw [decide_eq_true q'] at h5;exact absurd h5 (by decide))
   | (simp at h5;omega)
 cases hwl with
 | cons w1 w2=>
  cases w2
  cases w1 with
  | list ho hall=>exact ⟨_,_,ns,rfl,rfl,ho,gr ns _ hall,hlen⟩
theorem qu (l:OpenLaw) (args:List WData):l.row.toRowW.claim.post args (.bool true) args=true:=
 postW_of (r:=l.row.toRowW) (X:=(true==true))
  (show WShape.has [] (.bool true) .bool=true by first | rfl | decide | simp [WShape.has,WShape.arms,WShape.armsAll])
  (show (WTm.eq .res (.lit (.bool true))).value [] { args:=args,res:=some (.bool true),after:=args }=some (.bool (true==true)) from w_eq_bool (w_res rfl) w_lit) rfl
theorem attach_call {q:Program} {loose:List Str} {XP:(Str->Option Value)->Heap->Prop} {YP:World->Heap->Prop} {d:DefRec}
  (hn:l.most=some n) (hdf:d.params.defaults=[])
  (call:∀(w:World) (s₀ s₁:Shared) (mg mb:Str->Option Value) (fa:Addr) (o:Obj) (pm cd doc:Value) (a:Addr) (vs:List Value) (ns:List Int),
   Ground q loose [] XP w s₀ mg mb s₁.heap->YP w s₁.heap ->
   s₁.heap.get? fa=some o->o.data=.func (docDef d.name d.params d.body d.scope pm cd doc)->s₁.heap.CodeRec cd d.name->mg d.name=some (.ref fa) ->
   s₁.heap.get? a=some { cls:=.type "list",data:=.seq vs.toArray }->IntsAre vs ns->ns.length<=n->s₁.gens=#[] ->
   codeAny (model l.prog w) callerA (.call (.ref fa) ⟨[.ref a],[]⟩) (fun r s'=>r=.ok (.ret (.bool true))/\OldK s₁.heap s'.heap/\s'.os=s₁.os/\AllBare s'.gens) s₁) :
  WalkO q loose XP YP l.row.toRowW d [] (fun f vs=>PySem.call f vs):=by
 intro w s₀ s₁ mg mb G Y fa o pm cd doc dV kV ho hd hcd hD hmg hg args vals as hpre hlay hrd hwl hlo;obtain rfl:dV=.none:=Dflts.none hD hdf
 obtain rfl:kV=.none:=Dflts.noKw hD
 obtain ⟨a,vs,ns,rfl,rfl,hobj,hints,hlen⟩:=qh hn hpre hwl;refine enter_call (codeAny_mono (call w s₀ s₁ mg mb fa o pm cd doc a vs ns G Y ho (fd_plain hd) hcd hmg hobj hints hlen hg) fun r s' hq=>?_)
 obtain ⟨rfl,h2,h3,h4⟩:=hq;exact ⟨.inl ⟨.bool true,.bool true,[],rfl,fun _=>rfl,.bool true,qu l _,fun _=>⟨List.Pairwise.nil,fun _ hm=>(nomatch hm)⟩⟩,h2,h3,h4⟩
end Att
namespace L2
open PySem PySem.Spec PyProof.Rows
variable {a:Addr} {fd:FuncData} {x qual:Str} {n:Nat} {X:Cx} {ps:List Str} {A B:Prop} {H':Hp} {scope:Scope} {env:Env} {U:St}
theorem i5:∀{vs:List Value} {ns:List Int},IntsAre vs ns->Vals (ns.map V.int) vs
 | _,_,.nil=>.nil
 | _,_,.cons n t h=>.cons ⟨t,rfl⟩ (i5 h)
def Dy (H:Hp):Prop:=∀b,H b=none\/∃o xs,H b=some (.frz o (.lst xs))
theorem u7 {P:Program} {w:World} {K:Fg} {mg mb:Str->Option Value} {CX:r9} {k:Nat} {fa:Addr} {sp:Sp} {s₁:Shared} {vs:List Value} {ns:List Int}
  (KX:K.In s₁.heap) (hns:s₁.heap.Ns mainGlobals mg) (hb:s₁.heap.Ns builtinsNs mb) (hbb:∀x:Str,x ≠ "__name__"->mb x=bootBuiltins x) (hlim:s₁.heap.NoLimit) (hg:s₁.gens=#[])
  (ha:s₁.heap.get? a=some { cls:=.type "list",data:=.seq vs.toArray }) (hi:IntsAre vs ns) (hl:ns.length<=sizeLine) (hr:Room k callerA)
  (F:∀base:Heap,K.In base->base.Ns mainGlobals mg->cO P w K mg base CX k fa fd [x] sp) (hbind:∀(s:Shared) (u:Value),BindsTo s fd ⟨[u],[]⟩ [(x,u)])
  (hsp:∀H:Hp,Dy H->SqL K H a (ns.map V.int)->sp [.ref a] H (fun v _=>v=.bl true) fun _ _ _=>False)
  (hCX:∀H e s',CX [] H s₁ (fun _ _ _=>False) e s'->False) :
  codeAny (model P w) callerA (.call (.ref fa) ⟨[.ref a],[]⟩) (fun r s'=>r=.ok (.ret (.bool true))/\OldK s₁.heap s'.heap/\s'.os=s₁.os/\AllBare s'.gens) s₁:=by
 have rv:=i5 hi
 have lenV:=hi.length
 have core:∀H:Hp,Dy H->SqL K H a (ns.map V.int)->HOk P w H s₁.heap->(∀b,H b≠none->b=a)->(H a≠none->K.lookup a=none) ->
   codeAny (model P w) callerA (.call (.ref fa) ⟨[.ref a],[]⟩) (fun r s'=>r=.ok (.ret (.bool true))/\OldK s₁.heap s'.heap/\s'.os=s₁.os/\AllBare s'.gens) s₁:=by
  intro H hO hS hok hA hK;have base_of:∀{b:Addr} {o:Obj},s₁.heap.get? b=some o->H b=none->(jX s₁.heap H).get? b=some o:=fun e n=>vy e n
  have noA:∀{b:Addr} {o:Obj} {es:Array DictEntry} {ep:Nat},s₁.heap.get? b=some o->o.data=.dict es ep->H b=none:=fun {b o es ep} e d=>by
   cases q:H b with
   | none=>rfl
   | some u=>
    have e':b=a:=hA b (by rw [q];simp)
    subst e'
    rw [ha] at e;cases e;have d':Data.seq vs.toArray _=Data.dict es ep:=d
    cases d'
  have nsK:∀{b:Addr} {m:Str->Option Value},s₁.heap.Ns b m->(jX s₁.heap H).Ns b m:=fun {b m} ⟨o,es,ep,e,d,r⟩=>⟨o,es,ep,base_of e (noA e d),d,r⟩
  have hKb:K.In (jX s₁.heap H):=fun b o e=>base_of (KX b o e) (by
   cases q:H b with
   | none=>rfl
   | some u=>
    have e':b=a:=hA b (by rw [q];simp)
    subst e'
    rw [hK (by rw [q];simp)] at e;cases e)
  have hM:Mod K mg (jX s₁.heap H):=⟨hKb,nsK hns,⟨mb,nsK hb,hbb⟩,let ⟨mc,h1,h2⟩:=hlim;⟨mc,nsK h1,h2⟩⟩
  have e0:rZ P w K mg (jX s₁.heap H) callerA [] s₁ H:=⟨rfl,hM,fun b o e=>yf e,Nat.le_of_eq (qU _ _),trivial,fun b hb=>absurd (show b∈([]:List Addr) from hb) (by simp),hok,.of_eq hg⟩
  refine codeAny_mono ((F _ hKb (nsK hns)).run callerA [] s₁ H ⟨[.ref a],[]⟩ [.ref a] [.ref a] _ _ hr e0 (hbind s₁ (.ref a)) (.cons rfl .nil) (hsp H hO hS)) fun r s' h=>?_
  cases r with
  | error e=>exact (hCX H e s' h).elim
  | ok fl=>
   cases fl with
   | next=>exact False.elim h
   | brk=>exact False.elim h
   | cont=>exact False.elim h
   | ret u=>
    obtain ⟨v,H',os,bare,un,hok',r',q⟩:=h;have q':v=.bl true:=q
    subst q'
    obtain rfl:u=Value.bool true:=r'
    refine ⟨rfl,OldK.of_keep fun b o e=>?_,os,bare⟩
    cases q:H b with
    | none=>exact un.keep b o e q (by intro z;exact absurd (show b∈([]:List Addr) from z) (by simp)) (by simp)
    | some u=>
     rcases hO b with z | ⟨ob,xs,z⟩
     ·rw [q] at z;cases z
     ·have z2:=un.frzs b ob _ z
      obtain ⟨e1,_⟩:=hok b _ z;obtain ⟨e2,_⟩:=hok' b _ z2
      rw [e] at e1;cases e1;exact e2
 cases hk:K.lookup a with
 | some o=>
  have e:=KX a o hk
  rw [ha] at e
  cases e;refine core (fun _=>none) (fun _=>.inl rfl) (.inr ⟨_,vs.toArray,_,hk,rfl,rfl,rfl,by rw [size_toArray,lenV];exact hl,by simpa using rv⟩) (fun b u z=>by have z':(none:Option HO)=some u:=z;cases z') (fun b z=>absurd rfl z) fun z=>absurd rfl z
 | none=>
  refine core (fun b=>if b=a then some (.frz { cls:=.type "list",data:=.seq vs.toArray } (.lst (ns.map V.int))) else none) (fun b=>?_) (.inl (.inr ⟨{ cls:=.type "list",data:=.seq vs.toArray },if_pos rfl⟩)) (fun b u z=>?_) (fun b z=>?_) fun _=>hk
  ·by_cases hb:b=a
   ·exact .inr ⟨_,_,if_pos hb⟩
   ·exact .inl (if_neg hb)
  ·by_cases hb:b=a
   ·have z':=(if_pos hb).symm.trans z
    cases z'
    subst hb;exact ⟨ha,by rw [length_map];exact hl,vs,_,rv,ha⟩
   ·have z':=(if_neg hb).symm.trans z
    cases z'
  ·by_cases hb:b=a
   ·exact hb
   ·exact absurd (if_neg hb) z
theorem walk_of {l:PySem.W.OpenLaw} {k:Nat} {q:Program} {loose:List Str} {XP:(Str->Option Value)->Heap->Prop} {YP:World->Heap->Prop} {d:DefRec} {K:Params->Fg} {CX:World->r9} {sp:World->Sp}
  (hn:l.most=some n) (hn2:n<=sizeLine) (hdf:d.params.defaults=[]) (hr:Room k callerA)
  (hY:∀(w:World) (h:Heap),YP w h->(K w.params).In h)
  (F:∀(w:World) (mg:Str->Option Value) (fa:Addr) (h:Heap),(K w.params).In h->h.Ns mainGlobals mg->mg d.name=some (.ref fa) ->
   ∃fd:FuncData,(∀(s:Shared) (u:Value),BindsTo s fd ⟨[u],[]⟩ [(x,u)]) /\
    ∀base:Heap,(K w.params).In base->base.Ns mainGlobals mg->cO l.prog w (K w.params) mg base (CX w) k fa fd [x] (sp w))
  (hsp:∀(w:World) (H:Hp) (a:Addr) (ns:List Int),ns.length<=n->Dy H->SqL (K w.params) H a (ns.map V.int)->sp w [.ref a] H (fun v _=>v=.bl true) fun _ _ _=>False)
  (hCX:∀(w:World) (H:Hp) (s:Shared) (e:Value) (s':Shared),CX w [] H s (fun _ _ _=>False) e s'->False) :
  PySem.W.WalkO q loose XP YP l.row.toRowW d [] (fun f vs=>PySem.call f vs):=by
 refine Att.attach_call hn hdf fun w s₀ s₁ mg mb fa o pm cd doc a vs ns G Y ho hd hcd hmg hobj hints hlen hg=>?_
 have KX:=hY w _ Y
 obtain ⟨fd,hb,hF⟩:=F w mg fa _ KX G.T.g hmg;exact u7 KX G.T.g G.T.b G.T.builtins G.T.nolimit hg hobj hints (Nat.le_trans hlen hn2) hr hF hb (fun H hO hS=>hsp w H a ns hlen hO hS) fun H e s'=>hCX w H s₁ e s'
def DJ (s:Stmt):Arguments:=match s with
 | .FunctionDef _ a _ _ _ _ _ _ _ _=>a
 | _=>{ posonlyargs:=[],args:=[],vararg:=none,kwonlyargs:=[],kw_defaults:=[],kwarg:=none,defaults:=[] }
def jv (s:Stmt):List Stmt:=match s with
 | .FunctionDef _ _ b _ _ _ _ _ _ _=>b
 | _=>[]
def dM (s:Stmt):Scope:=match s with
 | .FunctionDef _ _ _ _ _ _ sc _ _ _=>sc
 | _=>{ kind:=.function,names:=[],isGenerator:=false,isCoroutine:=false }
abbrev ip:r9:=fun _ _ _ _ _ _=>False
abbrev E0:XK:=fun _ _ _=>False
theorem uW:GH ip X E0:=fun _ _ _ _ _ _ _ h=>h.elim
structure Fun (K:Fg) (x qual:Str) (st:Stmt) (f:Addr) (fd:FuncData):Prop where
 ex:∃(oc:Value) (od:Option Addr) (kV doc pm:Value) (an:Option Addr) (cdv ct:Value) (osl:Array (Option Value)),
  fd=PySem.W.fnOf x qual (DJ st) (jv st) (dM st) .none kV doc pm an cdv ct/\K.lookup f=some ⟨oc,od,.func fd,osl⟩/\PySem.W.codeIn K cdv qual=true
 kp:PySem.W.keepIn K (.ref f)=true
section
variable {P:Program} {w:World} {K:Fg} {mg:Str->Option Value} {base:Heap}
theorem Fun.ok {st:Stmt} {f:Addr} {N:List Str} {k:Nat} {sp:Sp} (F:Fun K x qual st f fd) (S:bK N ps (dM st)) (len:∀vs H Q E,sp vs H Q E->vs.length=ps.length)
  (hbody:∀(cdv:Value) (A:Around) (outer:List Env) (s:Shared) (H:Hp) (vs:List V) (Q:VK) (E:XK),Room k (A.deeper (envOfC qual (dM st) s.heap.objs.size f cdv))->sp vs H Q E ->
   ∃t,PSs (eh ip P w K mg base N qual (dM st) f cdv A outer s H E).nox (jv st) t/\t { nx:=fun _ H'=>Q .non H',rt:=Q } (start N vs) H):cO P w K mg base ip (k+1) f fd ps sp:=by
 obtain ⟨oc,od,kV,doc,pm,an,cdv,ct,osl,rfl,lk,hcd⟩:=F.ex;refine Aj lk hcd S len fun A outer s H vs Q E hr hsp=>?_
 obtain ⟨t,h,q⟩:=hbody cdv A outer s H vs Q E hr hsp;exact ⟨t,h.nox,q⟩
theorem Fun.binds {st:Stmt} {f:Addr} (F:Fun K x qual st f fd)
  (h:∀(kV doc pm:Value) (an:Option Addr) (cdv ct:Value) (us:List Value),us.length=ps.length->bindArgs (PySem.W.fnOf x qual (DJ st) (jv st) (dM st) .none kV doc pm an cdv ct) ⟨us,[]⟩=pure (ps.zip us)):Binds K fd ps []:=by
 obtain ⟨oc,od,kV,doc,pm,an,cdv,ct,osl,rfl,lk,hcd⟩:=F.ex;exact .all (h kV doc pm an cdv ct)
theorem C6 {st:Stmt} {f:Addr} {oc:Value} {od an:Option Addr} {osl:Array (Option Value)} {kV doc pm cdv ct:Value} (l:K.lookup f=some ⟨oc,od,.func (PySem.W.fnOf x qual (DJ st) (jv st) (dM st) .none kV doc pm an cdv ct),osl⟩)
  (c:PySem.W.codeIn K cdv qual=true) (k:PySem.W.keepIn K (.ref f)=true):Fun K x qual st f (PySem.W.fnOf x qual (DJ st) (jv st) (dM st) .none kV doc pm an cdv ct):=⟨⟨oc,od,kV,doc,pm,an,cdv,ct,osl,rfl,l,c⟩,k⟩
end
theorem i7 (h:n<=1000):n<sizeLine:=Nat.lt_of_le_of_lt h (by decide)
theorem fI (h:B):if false=true then A else B:=by
 rw [if_neg Bool.false_ne_true];exact h
theorem gY (h:A):if true=true then A else B:=by
 rw [if_pos rfl];exact h
def Same (H H':Hp):Prop:=∀b o,H b=some o->H' b=some o
theorem Same.refl (H:Hp):Same H H:=fun _ _ h=>h
theorem Same.trans {H H1 H2:Hp} (a:Same H H1) (b:Same H1 H2):Same H H2:=fun c o h=>b c o (a c o h)
theorem Same.free {H:Hp} (e:Same H H') {l:Addr} (h:H' l=Option.none):H l=Option.none:=by
 cases q:H l with
 | none=>rfl
 | some o=>
  rw [e l o q] at h
  cases h
theorem Same.seq {K:Fg} {H:Hp} {xs:List V} (e:Same H H') (h:SqL K H a xs):SqL K H' a xs:=by
 rcases h with (h | ⟨o,h⟩) | h
 ·exact .inl (.inl (e _ _ h))
 ·exact .inl (.inr ⟨o,e _ _ h⟩)
 ·exact .inr h
section
variable {prog:Program} {w:World} {A:Around} {R:Result->Shared->Prop} {s:Shared}
abbrev zk:Value->Shared->Prop:=fun _ _=>False
theorem j9 {elt target iter:Expr} {ifs:List Expr} {pos:Pos} {it acc:Value} (I:Nat->Shared->Prop)
  (turn:∀n s,I n s->wpAny (model prog w) A (pyNext it) (fun r s₁=>match r with
   | none=>R (.ok .next) s₁
   | some v=>wpAny (model prog w) A (letOwnedTupleGo target it v) (fun _ s₁'=>wpAny (model prog w) A (assign target env v) (fun _ s₂=>
     wpAny (model prog w) A (forIn ifs true fun c r=>if r=true then do let ok <-isTrue c env (eval c env);pure (ForInStep.yield ok) else pure (ForInStep.yield r)) (fun ok s₃=>
      if ok=true then wpAny (model prog w) A (eval elt env) (fun x s₄=>
       wpAny (model prog w) A (call (.builtin "list.append") [acc,x]) (fun _ s₅=>∃m,m<n/\I m s₅) zk s₄) zk s₃
      else ∃m,m<n/\I m s₃) zk s₂) zk s₁') zk s₁) zk s)
  (n:Nat) (h:I n s) :
  codeAny (model prog w) A (.compLoop (.ListComp elt [⟨target,iter,ifs,0⟩] scope pos) 0 it acc env) R s:=by
 refine codeAny_loop rfl I (fun n s hI=>?_) n h
 show wpAny _ A ((compTurn (.ListComp elt [⟨target,iter,ifs,0⟩] scope pos) 0 it acc env).onRaise (fun x=>do noteFrame x env;theTreesLotGoes x)) _ _ s
 refine wpAny_noted ?_
 rw [compTurn_list];have F:∀{Z:Value->Shared->Prop},∀(e:Value) (s:Shared),zk e s->Z e s:=fun _ _ x=>x.elim
 refine L8 (wpAny_standAt (L8 (wpAny_mono (turn n s hI) (fun r s₁ h₁=>?_) F)))
 cases r with
 | none=>exact L9 h₁
 | some v=>
  refine L8 (wpAny_mono h₁ (fun _ s₁' h₁'=>?_) F)
  refine L8 (wpAny_mono h₁' (fun _ s₂ h₂=>L8 (wpAny_mono h₂ (fun ok s₃ h₃=>?_) F)) F)
  cases ok with
  | false=>exact L9 ⟨rfl,h₃⟩
  | true=>
   exact L8 (L8 (wpAny_mono h₃ (fun x s₄ h₄=>L8 (wpAny_mono h₄ (fun _ s₅ h₅=>L9 (L9 ⟨rfl,h₅⟩)) F)) F))
end
def cE (env:Env):List (Str×NameKind)->List (Str×Addr)->List (Str×Addr)
 | [],acc=>acc
 | (n,k)::r,acc=>if k==.free then cE env r ((n,(env.cells.lookup n).getD 0)::acc) else cE env r acc
theorem Jp {env:Env}:∀(names:List (Str×NameKind)) (acc:List (Str×Addr)),(∀n,(n,NameKind.free)∈names->∃c,env.cells.lookup n=some c) ->
  (forIn names acc fun (x:Str×NameKind) (cs:List (Str×Addr))=>(match x with | (name,kind)=>if kind==.free then (do let a <-cellOf env name;pure (ForInStep.yield ((name,a)::cs))) else pure (ForInStep.yield cs):Sem (ForInStep (List (Str×Addr)))))=(pure (cE env names acc):Sem (List (Str×Addr)))
 | [],acc,_=>by rw [List.forIn_nil];rfl
 | (n,k)::r,acc,h=>by
  rw [List.forIn_cons];unfold cE;by_cases hk:(k==.free)=true
  ·simp only [hk,if_true]
   have hk':k=.free:=by simpa using hk
   obtain ⟨c,hc⟩:=h n (by rw [hk'];exact mem_cons_self)
   have e:cellOf env n=pure c:=by unfold cellOf;rw [hc]
   rw [e,hc];exact Jp r ((n,c)::acc) fun n' hn=>h n' (L5 _ hn)
  ·rw [if_neg hk]
   simp only [hk]
   exact Jp r acc fun n' hn=>h n' (L5 _ hn)
theorem fw (h:∀n,(n,NameKind.free)∈scope.names->∃c,env.cells.lookup n=some c):closureFor scope env=pure (cE env scope.names []):=by
 have:=Jp (env:=env) scope.names [] h
 unfold closureFor;rw [show (pure (cE env scope.names []):Sem (List (Str×Addr)))=(pure (cE env scope.names []) >>= fun x=>pure x) from rfl,<-this]
theorem Jy {env:Env} {x:Str} {c:Addr}:∀{names:List (Str×NameKind)} {acc:List (Str×Addr)},(∀n,(n,NameKind.free)∈names->∃c,env.cells.lookup n=some c)->(cE env names acc).lookup x=some c->env.cells.lookup x=some c\/acc.lookup x=some c
 | [],_,_,e=>.inr e
 | (n,k)::r,acc,h,e=>by
  unfold cE at e;have h':∀n',(n',NameKind.free)∈r->∃c,env.cells.lookup n'=some c:=fun n' hn=>h n' (L5 _ hn)
  by_cases hk:(k==.free)=true
  ·rw [if_pos hk] at e
   rcases Jy h' e with q | q
   ·exact .inl q
   ·rw [lookup_cons] at q
    have hk':k=.free:=by simpa using hk
    obtain ⟨c',hc⟩:=h n (by rw [hk'];exact mem_cons_self)
    cases hx:x==n with
    | true=>
     rw [hx,hc] at q
     cases q;rw [eq_of_beq hx];exact .inl hc
    | false=>
     rw [hx] at q;exact .inr q
  ·rw [if_neg hk] at e
   exact Jy h' e
theorem DQ {env:Env} {x:Str}:∀{names:List (Str×NameKind)} {acc:List (Str×Addr)},(x,NameKind.free)∈names\/(acc.lookup x).isSome=true->((cE env names acc).lookup x).isSome=true
 | [],_,h=>h.elim nofun id
 | (n,k)::r,acc,h=>by
  unfold cE;by_cases hk:(k==.free)=true
  ·rw [if_pos hk]
   refine DQ (names:=r) ?_
   rcases h with h | h
   ·rcases LZ h with e | h
    ·cases e
     exact .inr (by rw [lookup_cons];simp)
    ·exact .inl h
   ·right
    rw [lookup_cons]
    cases hx:x==n with
    | true=>rfl
    | false=>exact h
  ·rw [if_neg hk]
   refine DQ (names:=r) ?_
   rcases h with h | h
   ·rcases LZ h with e | h
    ·cases e
     exact absurd rfl hk
    ·exact .inl h
   ·exact .inr h
theorem Ey {x:Str} {c:Addr}:∀{names:List (Str×NameKind)} {n:Nat} {acc:List (Str×Addr)},(cellsFrom n names acc).lookup x=some c->((x,NameKind.cell)∈names/\n<=c)\/acc.lookup x=some c
 | [],_,_,e=>.inr e
 | (y,k)::r,n,acc,e=>by
  unfold cellsFrom at e;by_cases hk:(k==.cell)=true
  ·rw [if_pos hk] at e
   have hk':k=.cell:=by simpa using hk
   rcases Ey e with ⟨q,l⟩ | q
   ·exact .inl ⟨L5 _ q,by omega⟩
   ·rw [lookup_cons] at q
    cases hx:x==y with
    | true=>
     rw [hx] at q
     cases q;exact .inl ⟨by rw [eq_of_beq hx,hk'];exact mem_cons_self,Mb _⟩
    | false=>
     rw [hx] at q;exact .inr q
  ·rw [if_neg hk] at e
   rcases Ey e with ⟨q,l⟩ | q
   ·exact .inl ⟨L5 _ q,l⟩
   ·exact .inr q
theorem JA {x y:Str} {c:Addr}:∀{names:List (Str×NameKind)} {n:Nat} {acc:List (Str×Addr)},(∀z d,acc.lookup z=some d->d<n)->(∀x y d,acc.lookup x=some d->acc.lookup y=some d->x=y) ->
  (cellsFrom n names acc).lookup x=some c->(cellsFrom n names acc).lookup y=some c->x=y
 | [],_,_,_,hi,e,e'=>hi _ _ _ e e'
 | (z,k)::r,n,acc,hl,hi,e,e'=>by
  unfold cellsFrom at e e'
  by_cases hk:(k==.cell)=true
  ·rw [if_pos hk] at e e'
   refine JA (names:=r) (n:=n+1) (acc:=(z,n)::acc) (fun a d q=>?_) (fun a b d q q'=>?_) e e'
   ·rw [lookup_cons] at q
    cases hx:a==z with
    | true=>rw [hx] at q;cases q;exact Nat.lt_succ_self _
    | false=>rw [hx] at q;exact Nat.lt_succ_of_lt (hl a d q)
   ·rw [lookup_cons] at q q'
    cases hx:a==z with
    | true=>
     rw [hx] at q
     cases q
     cases hy:b==z with
     | true=>rw [eq_of_beq hx,eq_of_beq hy]
     | false=>rw [hy] at q';exact absurd (hl b n q') (Nat.lt_irrefl _)
    | false=>
     rw [hx] at q
     cases hy:b==z with
     | true=>rw [hy] at q';cases q';exact absurd (hl a n q) (Nat.lt_irrefl _)
     | false=>rw [hy] at q';exact hi a b d q q'
  ·rw [if_neg hk] at e e'
   exact JA hl hi e e'
theorem Jq {env:Env} {x:Str} {c:Addr}:∀{names:List (Str×NameKind)} {acc:List (Str×Addr)},(cE env names acc).lookup x=some c->(x,NameKind.free)∈names\/acc.lookup x=some c
 | [],_,e=>.inr e
 | (n,k)::r,acc,e=>by
  unfold cE at e;by_cases hk:(k==.free)=true
  ·rw [if_pos hk] at e
   have hk':k=.free:=by simpa using hk
   rcases Jq e with q | q
   ·exact .inl (L5 _ q)
   ·rw [lookup_cons] at q
    cases hx:x==n with
    | true=>rw [eq_of_beq hx,hk'];exact .inl mem_cons_self
    | false=>rw [hx] at q;exact .inr q
  ·rw [if_neg hk] at e
   rcases Jq e with q | q
   ·exact .inl (L5 _ q)
   ·exact .inr q
theorem HB {x:Str}:∀{names:List (Str×NameKind)} {n:Nat} {acc:List (Str×Addr)},(x,NameKind.cell)∈names\/(acc.lookup x).isSome=true->((cellsFrom n names acc).lookup x).isSome=true
 | [],_,_,h=>h.elim nofun id
 | (y,k)::r,n,acc,h=>by
  unfold cellsFrom;by_cases hk:(k==.cell)=true
  ·rw [if_pos hk]
   refine HB (names:=r) ?_
   rcases h with h | h
   ·rcases LZ h with e | h
    ·cases e
     exact .inr (by rw [lookup_cons];simp)
    ·exact .inl h
   ·right
    rw [lookup_cons]
    cases hx:x==y with
    | true=>rfl
    | false=>exact h
  ·rw [if_neg hk]
   refine HB (names:=r) ?_
   rcases h with h | h
   ·rcases LZ h with e | h
    ·cases e
     exact absurd rfl hk
    ·exact .inl h
   ·exact .inr h
theorem HA {x:Str}:∀{names:List (Str×NameKind)} {n:Nat} {acc:List (Str×Addr)},(x,NameKind.cell)∉names->(cellsFrom n names acc).lookup x=acc.lookup x
 | [],_,_,_=>rfl
 | (y,k)::r,n,acc,h=>by
  unfold cellsFrom;have hr:(x,NameKind.cell)∉r:=fun z=>h (L5 _ z)
  by_cases hk:(k==.cell)=true
  ·rw [if_pos hk,HA hr,lookup_cons]
   have hk':k=.cell:=by simpa using hk
   cases hx:x==y with
   | true=>exact absurd (by rw [eq_of_beq hx,hk'];exact mem_cons_self) h
   | false=>rfl
  ·rw [if_neg hk]
   exact HA hr
theorem HC {x:Str} {c:Addr}:∀{names:List (Str×NameKind)} {n:Nat} {acc:List (Str×Addr)},(x,NameKind.cell)∈names->(cellsFrom n names acc).lookup x=some c->(cellsFrom n names []).lookup x=some c
 | [],_,_,h,_=>nomatch h
 | (y,k)::r,n,acc,h,e=>by
  unfold cellsFrom at e ⊢
  by_cases hk:(k==.cell)=true
  ·rw [if_pos hk] at e ⊢
   by_cases hr:(x,NameKind.cell)∈r
   ·have:∀{acc acc':List (Str×Addr)},(cellsFrom (n+1) r acc).lookup x=some c->(cellsFrom (n+1) r acc').lookup x=some c:=fun {a a'} q=>by
     have q0:=HC hr q
     have hs:=HB (n:=n+1) (acc:=a') (.inl hr)
     obtain ⟨c',hc'⟩:=Option.isSome_iff_exists.mp hs;have q1:=HC hr hc'
     rw [q0] at q1
     cases q1;exact hc'
    exact this e
   ·rw [HA hr] at e ⊢
    rw [lookup_cons] at e ⊢
    cases hx:x==y with
    | true=>rw [hx] at e;exact e
    | false=>
     rcases LZ h with z | z
     ·cases z
      simp at hx
     ·exact absurd z hr
  ·rw [if_neg hk] at e ⊢
   rcases LZ h with z | z
   ·cases z
    exact absurd rfl hk
   ·exact HC z e
def blk (X:Cx) (scope:Scope) (cells:List (Str×Addr)) (C:Addr) (s₀:Shared) (H₀:Hp) (ex:List Addr):Cx where
 prog:=X.prog
 w:=X.w
 K:=X.K
 mg:=X.mg
 base:=X.base
 A:=X.A
 N:=X.N
 s₀:=s₀
 H₀:=H₀
 env:={ scope:=relabel scope X.env,locals:=C,globals:=X.env.globals,cells:=cells,qual:=X.env.qual,func:=none,code:=X.env.code,frame:=X.env.frame,builtins:=X.env.builtins }
 outer:=X.stack
 stack:=X.stack
 ex:=ex
 fn:=fun x=>scope.names.any fun y=>y.1==x&&y.2==.cell
 calm:=X.calm
 pn:=[]
 xe:=fun _ _=>False
structure cX (N:List Str) (is:List Nat) (osc scope:Scope):Prop where
 kind:scope.kind=.function
 free:∀n,(n,NameKind.free)∈scope.names->osc.names.lookup n=some .cell\/osc.names.lookup n=some .free
 own:∀(i:Nat) (x:Str),N[i]?=some x->(x,NameKind.local)∈scope.names\/(x,NameKind.cell)∈scope.names->i∈is
 loc:∀x∈scope.names,x.2=.local->scope.names.lookup x.1=some .local
 one:∀n,(n,NameKind.free)∈scope.names->(n,NameKind.cell)∉scope.names
def aX (is:List Nat) (U:St):St:=U.mapIdx fun i v=>if i∈is then none else v
theorem zC (is:List Nat) (U:St):(aX is U).length=U.length:=by unfold aX;simp
theorem Hl {is:List Nat} {i:Nat} {v:V} (h:(aX is U)[i]?=some (some v)):i∉is/\U[i]?=some (some v):=by
 unfold aX at h;rw [List.getElem?_mapIdx] at h
 cases e:U[i]? with
 | none=>rw [e] at h;cases h
 | some o=>
  rw [e] at h;simp only [Option.map_some,Option.some.injEq] at h
  by_cases hi:i∈is
  ·rw [if_pos hi] at h;cases h
  ·rw [if_neg hi] at h;exact ⟨hi,by rw [h]⟩
def Ib (U0 U2:St):Prop:=U2.length=U0.length/\∀(i:Nat) v,U0[i]?=some (some v)->U2[i]?=some (some v)
theorem gW {k:NameKind} {l:List (Str×NameKind)} (h:l.lookup x=some k):(x,k)∈l:=PySem.mem_of_lookup h
theorem DP {k:NameKind} (h:(relabel scope env).names.lookup x=some k) :
  (x,k)∈scope.names\/((x,NameKind.free)∈scope.names/\k=.cell):=by
 have h:=gW h
 unfold relabel at h;obtain ⟨⟨n,k'⟩,hm,e⟩:=List.mem_map.mp h;dsimp only at e;by_cases hc:(k'==NameKind.free&&env.scope.kind==.function&&env.kindOf n==some .cell)=true
 ·rw [if_pos hc] at e
  cases e;have:k'=.free:=by
   simp only [Bool.and_eq_true,beq_iff_eq] at hc
   exact hc.1.1
  exact .inr ⟨this▸hm,rfl⟩
 ·rw [if_neg hc] at e
  cases e;exact .inl hm
def ju (X:Cx) (scope:Scope) (C:Addr):List (Str×Addr):=cellsFrom (C+1) scope.names (cE X.env scope.names [])
section
variable {X:Cx} {pins:List (Addr×Obj)} {U:St} {H:Hp} {s:Shared} {scope:Scope} {is:List Nat}
theorem Inv.freeCells (I:Inv X pins U H s) (S:cX X.N is X.env.scope scope):∀n,(n,NameKind.free)∈scope.names->∃c,X.env.cells.lookup n=some c:=fun n hn=>
 I.ok.has n (S.free n hn)
theorem Inv.blkOld (I:Inv X pins U H s) (S:cX X.N is X.env.scope scope) {c:Addr} (h:(cE X.env scope.names []).lookup x=some c):X.env.cells.lookup x=some c:=by
 rcases Jy (I.freeCells S) h with q | q
 ·exact q
 ·cases q
theorem Inv.block {fp:List Addr} {t':Nat} (I:Inv X pins U H s) (S:cX X.N is X.env.scope scope) (hf:∀b∈fp,iP X pins H b) (hfs:∀b∈fp,b<s.heap.objs.size) :
  Inv (blk X scope (ju X scope (s.heap.objs.size+1)) (s.heap.objs.size+1) s H fp) [] (aX is U) (bo H s.heap.objs.size (.lst []))
   { s with heap:=pushCells ((s.heap.push { cls:=.type "list",data:=.seq ([]:List Value).toArray }).push { cls:=.type "dict",data:=.dict #[] }) scope.names,toks:=t' }:=by
 generalize hC:s.heap.objs.size+1=C
 have hDn:H s.heap.objs.size=none:=I.hok.fresh (Mb _)
 have s1:(s.heap.push { cls:=.type "list",data:=.seq ([]:List Value).toArray }).objs.size=C:=by rw [Heap.size_push,hC]
 have kept:∀b o,s.heap.get? b=some o->(pushCells ((s.heap.push { cls:=.type "list",data:=.seq ([]:List Value).toArray }).push { cls:=.type "dict",data:=.dict #[] }) scope.names).get? b=some o:=
  fun b o e=>pushCells_keeps _ _ b o (Ma _ (Ma _ e))
 have cellsL:∀x c,(ju X scope C).lookup x=some c->((x,NameKind.cell)∈scope.names/\C+1<=c)\/X.env.cells.lookup x=some c:=fun x c e=>by
  rcases Ey e with q | q
  ·exact .inl q
  ·exact .inr (I.blkOld S q)
 have oldLt:∀x c,X.env.cells.lookup x=some c->c<s.heap.objs.size:=fun x c e=>by
  obtain ⟨v,q⟩:=I.cell x c e;exact q.lt
 have cok:CellsOk (pushCells ((s.heap.push { cls:=.type "list",data:=.seq ([]:List Value).toArray }).push { cls:=.type "dict",data:=.dict #[] }) scope.names) (C+1)
   (cellsFrom (C+1) scope.names []):=by
  have:=cellsFrom_ok scope.names ((s.heap.push { cls:=.type "list",data:=.seq ([]:List Value).toArray }).push { cls:=.type "dict",data:=.dict #[] }) (C+1) [] ⟨fun _ _ hm=>(nomatch hm),List.Pairwise.nil⟩ (by rw [Heap.size_push,s1];exact Mb _)
  rw [Heap.size_push,s1] at this;exact this
 have lt1:∀{b:Nat},b<s.heap.objs.size->b≠C:=fun {b} h e=>by subst e;rw [<-hC] at h;exact absurd (Nat.lt_of_succ_lt h) (Nat.lt_irrefl _)
 have hDle:s.heap.objs.size<=C:=by rw [<-hC];exact Nat.le_succ _
 have cellAt:∀x c,(ju X scope C).lookup x=some c->(C<c/\(pushCells ((s.heap.push { cls:=.type "list",data:=.seq ([]:List Value).toArray }).push { cls:=.type "dict",data:=.dict #[] }) scope.names).IsCell c none)\/X.env.cells.lookup x=some c:=fun x c e=>by
  rcases cellsL x c e with ⟨q1,q2⟩ | q
  ·exact .inl ⟨q2,(cok.empty x c (PySem.mem_of_lookup (HC q1 e))).1⟩
  ·exact .inr q
 refine ⟨⟨I.ok.mod,S.kind,I.ok.glob,I.ok.blt,hDle,?_,?_,?_,I.ok.hd,I.ok.frames,.inl rfl,?_,I.bs,Nat.le_trans I.ok.bsz I.sz,?_,?_,I.stack,I.stkFree⟩,rfl,I.bare,?_,?_,?_,?_,?_,fun p hp=>absurd (show p∈([]:List (Addr×Obj)) from hp) (by simp),?_,(zC _ _).trans I.len⟩
 ·-- inj
  intro x y c hx hy;refine JA (fun z d q=>?_) (fun a b d q q'=>I.ok.inj a b d (I.blkOld S q) (I.blkOld S q')) hx hy
  exact Nat.lt_succ_of_lt (Nat.lt_of_lt_of_le (oldLt z d (I.blkOld S q)) hDle)
 ·-- has
  intro x hx;have q:((ju X scope C).lookup x).isSome=true:=by
   refine HB ?_
   have hx:(relabel scope X.env).names.lookup x=some .cell\/(relabel scope X.env).names.lookup x=some .free:=hx
   rcases hx with hx | hx
   ·rcases DP hx with z | ⟨z,_⟩
    ·exact .inl z
    ·exact .inr (DQ (.inl z))
   ·rcases DP hx with z | ⟨z,_⟩
    ·exact .inr (DQ (.inl z))
    ·exact .inr (DQ (.inl z))
  exact Option.isSome_iff_exists.mp q
 ·-- cab
  intro x c hx e;have hx:(scope.names.any fun y=>y.1==x&&y.2==NameKind.cell)=true:=hx
  obtain ⟨y,hy,hz⟩:=List.any_eq_true.mp hx;simp only [Bool.and_eq_true,beq_iff_eq] at hz
  have hm:(x,NameKind.cell)∈scope.names:=by rw [<-hz.1,<-hz.2];exact hy
  rcases Ey e with ⟨_,q⟩ | q
  ·exact Nat.le_trans hDle (Nat.le_of_succ_le q)
  ·rcases Jq q with z | z
   ·exact absurd hm (S.one x z)
   ·cases z
 ·-- exf
  intro b hb;obtain ⟨f0,f1,f2,f3,f4,f5⟩:=hf b hb;refine ⟨lt1 (hfs b hb),fun x c e z=>?_⟩
  rcases cellsL x c e with ⟨_,q⟩ | q
  ·subst z
   exact absurd (Nat.lt_of_lt_of_le (hfs _ hb) hDle) (Nat.not_lt.mpr (Nat.le_of_succ_le q))
  ·exact f4 x c q z
 ·-- noex
  intro b o e hb;obtain ⟨f0,f1,f2,f3,f4,f5⟩:=hf b hb;rcases f3 with z | z
  ·exact I.ok.noex b o e z
  ·exact absurd (Nat.lt_of_lt_of_le (Heap.lt_size e) (Nat.le_trans I.ok.bsz z)) (Nat.lt_irrefl _)
 ·-- exfs
  intro b hb z;obtain ⟨f0,f1,f2,f3,f4,f5⟩:=hf b hb;rcases LZ (I.stkSub b z) with e | e
  ·exact f1 e
  ·exact f2 e
 ·-- base
  exact Un.laid kept (Mb _) hDn
 ·-- loc
  refine ⟨fun _=>none,?_,fun i x v e1 e2 e3=>?_⟩
  ·have:=(Heap.Ns.new (s.heap.push { cls:=.type "list",data:=.seq ([]:List Value).toArray }) (.type "dict")).keeps (pushCells_keeps scope.names _)
   rw [s1] at this;exact this
  ·obtain ⟨hni,e2'⟩:=Hl e2
   obtain ⟨m,hn,hl⟩:=id I.loc;have hfree:(x,NameKind.free)∈scope.names:=by
    have e3:(relabel scope X.env).names.lookup x=some .local\/(relabel scope X.env).names.lookup x=some .cell\/(relabel scope X.env).names.lookup x=some .free:=e3
    rcases e3 with z | z | z
    ·rcases DP z with y | ⟨y,_⟩
     ·exact absurd (S.own i x e1 (.inl y)) hni
     ·exact y
    ·rcases DP z with y | ⟨y,_⟩
     ·exact absurd (S.own i x e1 (.inr y)) hni
     ·exact y
    ·rcases DP z with y | ⟨y,_⟩
     ·exact y
     ·exact y
   have hk:=S.free x hfree
   obtain ⟨u,r,l⟩:=hl i x v e1 e2' (.inr hk)
   refine ⟨u,r,?_⟩
   rcases l with ⟨k,_⟩ | ⟨k,c,e,z⟩
   ·have k:X.env.scope.names.lookup x=some .local:=k
    rcases hk with q | q<;>(rw [q] at k;cases k)
   ·refine .inr ⟨?_,c,?_,z.keeps kept⟩
    ·have e3:(relabel scope X.env).names.lookup x=some .local\/(relabel scope X.env).names.lookup x=some .cell\/(relabel scope X.env).names.lookup x=some .free:=e3
     rcases e3 with y | y | y
     ·rcases DP y with y' | ⟨_,y'⟩
      ·exact absurd (S.own i x e1 (.inl y')) hni
      ·cases y'
     ·exact .inl y
     ·exact .inr y
    ·have q:=DQ (env:=X.env) (acc:=[]) (.inl hfree)
     obtain ⟨c',hc'⟩:=Option.isSome_iff_exists.mp q;have:=I.blkOld S hc'
     rw [e] at this
     cases this;show (ju X scope C).lookup x=some c
     unfold ju;rw [HA (S.one x hfree)];exact hc'
 ·-- cell
  intro x c e;rcases cellAt x c e with ⟨_,q⟩ | q
  ·exact ⟨_,q⟩
  ·obtain ⟨v,z⟩:=I.cell x c q
   exact ⟨v,z.keeps kept⟩
 ·-- free
  show bo H s.heap.objs.size (.lst []) C=none
  rw [b9 (by rw [<-hC];exact Nat.ne_of_gt (Nat.lt_succ_self _))]
  exact I.hok.fresh hDle
 ·-- freeC
  intro x c e;show bo H s.heap.objs.size (.lst []) c=none
  rcases cellAt x c e with ⟨q,_⟩ | q
  ·have hc:s.heap.objs.size<c:=Nat.lt_of_le_of_lt hDle q
   rw [b9 (Nat.ne_of_gt hc)];exact I.hok.fresh (Nat.le_of_lt hc)
  ·rw [b9 (Nat.ne_of_lt (oldLt x c q))]
   exact I.freeC x c q
 ·-- hok
  exact I.hok.laid kept (Mb _) ⟨Nat.zero_le _,[],0,.nil,pushCells_keeps _ _ _ _ (Ma _ (Heap.get?_push_size _ rfl))⟩
end
section
variable {M:Model} {A:Around} {E:Value->Shared->Prop} {s:Shared}
theorem iI {globals:Addr} {cl:List (Str×Addr)} {Q:Env->Shared->Prop}
  (hQ:Q (newEnv scope s.heap.objs.size globals (cellsFrom (s.heap.objs.size+1) scope.names cl) qual none .none (some env) builtinsNs) { s with heap:=pushCells (s.heap.push { cls:=.type "dict",data:=.dict #[] }) scope.names }) :
  wpAny M A (newFunctionEnv scope globals cl [] qual none .none (some env)) Q E s:=by
 simp only [newFunctionEnv,Option.isSome_some,if_true]
 refine L8 (wpAny_alloc ?_)
 refine L8 (wpAny_layCells _ (fun name kind cells=>by cases hkc:kind==NameKind.cell<;>simp [hkc]) _ _ _ _ ?_)
 rw [show ({ s with heap:=s.heap.push { cls:=.type "dict",data:=.dict #[] } }:Shared).heap.objs.size=s.heap.objs.size+1 from Heap.size_push ..]
 rw [List.forIn_nil];exact L8 (L9 (L9 hQ))
end
def PF (X:Cx) (ifs:List Expr) (t:TT):Prop:=
 ∀(pins:List (Addr×Obj)) (s:Shared) (U:St) (H:Hp) (Q:Bool->Hp->Prop),Inv X pins U H s->t U H Q ->
  wpAny (model X.prog X.w) X.A (forIn ifs true fun c r=>if r=true then do let ok <-isTrue c X.env (eval c X.env);pure (ForInStep.yield ok) else pure (ForInStep.yield r)) (TP X pins U Q) X.xe s
def oG:TT:=fun _ H Q=>Q true H
theorem uN:PF X [] oG:=fun pins s U H Q I h=>wpAny_tests_nil ⟨H,I,h⟩
theorem uM {c:Expr} {t:TT} (h:PT X c t):PF X [c] t:=fun pins s U H Q I q=>wpAny_tests_one (h pins s U H Q I q)
def eV (is:List Nat) (wi:TI) (g:TG) (tc:TT) (te:TE):TE:=fun U H Q=>wi U H fun J H1=>∀D,H1 D=none->∃W:Nat->Nat->List V->Hp->Prop,(∃m,W 0 m [] (bo H1 D (.lst [])))/\∀k m ys H,W k m ys H ->
 H D=some (.lst ys)/\((J.stop k H/\Q (.ref D) H)\/(J.go k H/\ys.length<sizeLine/\∀x H',J.yld k H x H'->g x (aX is U) H' fun U2 H2=>Ib (aX is U) U2/\tc U2 H2 fun b H3=>
  if b=true then te U2 H3 fun v H4=>H4 D=some (.lst ys)/\∃m',m'<m/\W (k+1) m' (ys++[v]) (bo H4 D (.lst (ys++[v]))) else ∃m',m'<m/\W (k+1) m' ys H3))
section
variable {X:Cx} {scope:Scope} {is:List Nat} {tg iter elt:Expr} {ifs:List Expr} {wi:TI} {g:TG} {tc:TT} {te:TE} {pos:Pos}
theorem jl {pins:List (Addr×Obj)} {s:Shared} {H:Hp} {Q:VK} {RR:Value->Addr->Result->Shared->Prop} (S:cX X.N is X.env.scope scope) (hcalm:X.calm=true) (hi:PI X tg iter wi)
  (hg:∀cells C s₀ H₀ ex,PG (blk X scope cells C s₀ H₀ ex) tg g) (hc:∀cells C s₀ H₀ ex,PF (blk X scope cells C s₀ H₀ ex) ifs tc) (he:∀cells C s₀ H₀ ex,PE (blk X scope cells C s₀ H₀ ex) elt te)
  (I:Inv X pins U H s) (h:eV is wi g tc te U H Q)
  (hRR:∀D C s' H' m,Inv X pins U H' s'->s'.heap.Ns C m->Q (.ref D) H'->H' C=none->C≠X.env.locals->X.s₀.heap.objs.size<=C->(∀x c,X.env.cells.lookup x=some c->c≠C)->(∀p∈X.pn++pins,p.1≠C)->RR (.ref D) C (.ok .next) s') :
  wpAny (model X.prog X.w) X.A (eval iter X.env) (fun x s₁=>wpAny (model X.prog X.w) X.A (pyIter x) (fun it s₂=>wpAny (model X.prog X.w) X.A (newList []) (fun acc s₃=>
   wpAny (model X.prog X.w) X.A (newFunctionEnv scope X.env.globals (cE X.env scope.names []) [] X.env.qual none .none (some X.env)) (fun cenv s₄=>
    codeAny (model X.prog X.w) X.A (.compStart (.ListComp elt [⟨tg,iter,ifs,0⟩] scope pos) 0 it acc { cenv with scope:=relabel scope X.env }) (RR acc cenv.locals) s₄) X.xe s₃) X.xe s₂) X.xe s₁) X.xe s:=by
 refine bj (hi pins s U H _ I h) fun v s1 h1=>bj h1 fun itv s2 h2=>?_
 obtain ⟨it,fp,tn,J,H2,e,I2,T,st2,f2,hW⟩:=h2;subst e;obtain ⟨W,⟨m0,w0⟩,turn⟩:=hW s2.heap.objs.size (I2.hok.fresh (Mb _));refine wpAny_newObj_type (iI ?_)
 have s1:(s2.heap.push { cls:=.type "list",dict:=none,data:=.seq ([]:List Value).toArray }).objs.size=s2.heap.objs.size+1:=by rw [Heap.size_push]
 dsimp only;rw [s1];have hfs:∀b∈fp,b<s2.heap.objs.size:=fun b hb=>by
  obtain ⟨o,e,_⟩:=T.obj 0 _ st2 b hb;exact Heap.lt_size e
 have I4:=I2.block (t':=s2.toks) S f2 hfs
 generalize hCC:s2.heap.objs.size+1=C at I4 ⊢
 have hDC:s2.heap.objs.size<C:=by rw [<-hCC];exact Nat.lt_succ_self _
 have Hg:=hg (ju X scope C) C s2 H2 fp
 have Hc:=hc (ju X scope C) C s2 H2 fp
 have He:=he (ju X scope C) C s2 H2 fp
 have Ha:=Hm (X:=blk X scope (ju X scope C) C s2 H2 fp)
 have hYcell:∀x c,(blk X scope (ju X scope C) C s2 H2 fp).env.cells.lookup x=some c->s2.heap.objs.size<=c\/X.env.cells.lookup x=some c:=fun x c e=>by
  have e:(cellsFrom (C+1) scope.names (cE X.env scope.names [])).lookup x=some c:=e
  rcases Ey e with ⟨_,q⟩ | q
  ·exact .inl (Nat.le_trans (Nat.le_of_lt hDC) (Nat.le_of_succ_le q))
  ·exact .inr (I2.blkOld S q)
 have FY:∀{H':Hp},(∀b∈fp,H' b=none)->∀b∈fp,iP (blk X scope (ju X scope C) C s2 H2 fp) [] H' b:=fun {H'} hn b hb=>by
  obtain ⟨f0,f1,f3,f4,f5,f6⟩:=f2 b hb;refine ⟨hn b hb,Nat.ne_of_lt (Nat.lt_trans (hfs b hb) hDC),fun z=>?_,.inl hb,fun x c e z=>?_,fun p hp=>absurd (show p∈([]:List (Addr×Obj)) from hp) (by simp)⟩
  ·rcases LZ (I2.stkSub b z) with e | e
   ·exact f1 e
   ·exact f3 e
  ·rcases hYcell x c e with q | q
   ·rw [z] at q
    exact absurd (Nat.lt_of_lt_of_le (hfs b hb) q) (Nat.lt_irrefl _)
   ·exact f5 x c q z
 have hCx:∀x c,X.env.cells.lookup x=some c->c≠C:=fun x c e z=>by
  obtain ⟨v,q⟩:=I2.cell x c e;have:=q.lt
  rw [z] at this;exact absurd (Nat.lt_trans this hDC) (Nat.lt_irrefl _)
 have hCp:∀p∈X.pn++pins,p.1≠C:=fun p hp z=>by
  have:=Heap.lt_size (I2.pin p hp).1
  rw [z] at this;exact absurd (Nat.lt_trans this hDC) (Nat.lt_irrefl _)
 have out:∀{U':St} {H':Hp} {s':Shared},Inv (blk X scope (ju X scope C) C s2 H2 fp) [] U' H' s'->Inv X pins U H' s':=fun {U' H' s'} J=>
  I2.call' (ch:=fp) J.os J.base J.hok J.bare fun b hb=>by
   obtain ⟨f0,f1,f3,f4,f5,f6⟩:=f2 b hb;exact ⟨f4,f1,f5,f6⟩
 have loop:∀s₃:Shared,s₃={ s2 with heap:=pushCells ((s2.heap.push { cls:=.type "list",data:=.seq ([]:List Value).toArray }).push { cls:=.type "dict",data:=.dict #[] }) scope.names } ->
   codeAny (model X.prog X.w) X.A (.compLoop (.ListComp elt [⟨tg,iter,ifs,0⟩] scope pos) 0 (.ref it) (.ref s2.heap.objs.size) (blk X scope (ju X scope C) C s2 H2 fp).env) (RR (.ref s2.heap.objs.size) C) s₃:=by
  rintro s₃ rfl
  refine j9 (fun n s'=>∃k ys H',Inv (blk X scope (ju X scope C) C s2 H2 fp) [] (aX is U) H' s'/\tn k s'.heap/\(∀b∈fp,H' b=none)/\W k n ys H') ?_ m0
   ⟨0,[],_,I4,T.keep 0 _ _ st2 fun b _ o e=>pushCells_keeps _ _ b o (Ma _ (Ma _ e)),fun b hb=>by rw [b9 (Nat.ne_of_lt (hfs b hb))];exact (f2 b hb).1,w0⟩
  rintro n s3 ⟨k,ys,H3,I3,st3,fr3,w3⟩
  obtain ⟨hD3,hcase⟩:=turn k n ys H3 w3;rcases hcase with ⟨stop,qn⟩ | ⟨go,hlen,step⟩
  ·refine bj (T.done (blk X scope (ju X scope C) C s2 H2 fp) rfl rfl rfl hcalm k [] s3 (aX is U) H3 zk I3 (FY fr3) st3 stop) fun r s4 ⟨hr,I4⟩=>?_
   subst hr;obtain ⟨m,hn,_⟩:=id I4.loc;exact hRR _ C s4 H3 m (out I4) hn qn I4.free (fun z=>Nat.lt_irrefl _ (Nat.lt_trans (Nat.lt_of_lt_of_eq hDC z) I2.lt)) (Nat.le_trans I2.sz (Nat.le_of_lt hDC)) hCx hCp
  ·refine bj (T.item (blk X scope (ju X scope C) C s2 H2 fp) rfl rfl rfl hcalm k [] s3 (aX is U) H3 zk I3 (FY fr3) st3 go) fun r s4 ⟨u,hr,h4⟩=>?_
   subst hr;refine bj h4 fun _ s5 ⟨x,H5,I5,r5,y5,st5,fr5⟩=>?_
   have I5':=I5.pinned (FY fr5) (T.obj _ _ st5)
   refine bj (Hg _ s5 (aX is U) H5 x u _ I5' r5 (step x H5 y5)) fun _ s6 ⟨U6,H6,I6,le6,q6⟩=>?_
   refine bj (Hc _ s6 U6 H6 _ I6 q6) fun ok s7 ⟨H7,I7,q7⟩=>?_
   have again:∀{H8:Hp} {s8:Shared} {ys':List V},Inv (blk X scope (ju X scope C) C s2 H2 fp) ([]++Eb fp s5.heap) U6 H8 s8->(∃m',m'<n/\W (k+1) m' ys' H8) ->
     ∃m,m<n/\∃k ys H',Inv (blk X scope (ju X scope C) C s2 H2 fp) [] (aX is U) H' s8/\tn k s8.heap/\(∀b∈fp,H' b=none)/\W k m ys H':=fun {H8 s8 ys'} I8 ⟨m',hm,w8⟩=>by
    refine ⟨m',hm,k+1,ys',H8,(I8.weak le6.1.symm le6.2).unpinned,T.keep _ _ _ st5 fun b hb o e=>(I8.pin (b,o) (LR _ (LR _ (Hv hb e)))).1,fun b hb=>?_,w8⟩
    obtain ⟨o,e,d⟩:=T.obj _ _ st5 b hb;exact (I8.pin (b,o) (LR _ (LR _ (Hv hb e)))).2.1
   cases ok with
   | false=>
    rw [if_neg Bool.false_ne_true] at q7;exact again I7 q7
   | true=>
    rw [if_pos rfl] at q7;refine bj (He _ s7 U6 H7 _ I7 q7) fun y s8 ⟨v8,H8,I8,r8,q8⟩=>?_
    obtain ⟨hD8,q8⟩:=q8;refine bj (Ha _ s8 U6 H8 (.ref s2.heap.objs.size) [v8] (.ref s2.heap.objs.size) [y] (fun _ H9=>∃m',m'<n/\W (k+1) m' (ys++[v8]) H9) I8 rfl (.cons r8 .nil) ⟨_,ys,v8,rfl,rfl,hD8,hlen,q8⟩) fun _ s9 ⟨_,H9,I9,_,q9⟩=>?_
    exact again I9 q9
 exact codeAny_compStart_list (loop _ rfl) (T.self X.A 0 _ _ _ (T.keep 0 _ _ st2 fun b _ o e=>pushCells_keeps _ _ b o (Ma _ (Ma _ e))) (loop _ rfl))
theorem IH (S:cX X.N is X.env.scope scope) (hcalm:X.calm=true) (hi:PI X tg iter wi)
  (hg:∀cells C s₀ H₀ ex,PG (blk X scope cells C s₀ H₀ ex) tg g) (hc:∀cells C s₀ H₀ ex,PF (blk X scope cells C s₀ H₀ ex) ifs tc) (he:∀cells C s₀ H₀ ex,PE (blk X scope cells C s₀ H₀ ex) elt te)
  (hs:∀x,foldedSetIterable iter X.env x=pure x:=by intro _;rfl):PE X (.ListComp elt [⟨tg,iter,ifs,0⟩] scope pos) (eV is wi g tc te):=by
 intro pins s U H Q I h;rw [eval_ListComp];refine wpAny_comprehension_free (use:=none) rfl hs (fw (I.freeCells S)) S.kind S.loc (jl (RR:=fun acc C=>compPost (model X.prog X.w) X.A X.xe none (EP X pins U Q) acc C) S hcalm hi hg hc he I h ?_)
 intro D C s' H' m I' hn q n1 n2 n3 n4 n5
 refine ⟨m,hn,fun h' hs'=>?_⟩
 exact ⟨.ref D,H',I'.turned (t':=s'.toks) (fun b o hb e=>(hs'.2 b hb).trans e) n1 n2 (.inr n3) n4 n5,rfl,q⟩
theorem Jt {i:Nat} {y:Str} {pos' spos:Pos} (hN:X.N.Nodup) (hy:X.N[i]?=some y) (hl:X.env.scope.names.lookup y=some .local) (S:cX X.N is X.env.scope scope) (hcalm:X.calm=true) (hi:PI X tg iter wi)
  (hg:∀cells C s₀ H₀ ex,PG (blk X scope cells C s₀ H₀ ex) tg g) (hc:∀cells C s₀ H₀ ex,PF (blk X scope cells C s₀ H₀ ex) ifs tc) (he:∀cells C s₀ H₀ ex,PE (blk X scope cells C s₀ H₀ ex) elt te)
  (hsw:swapsWith (.ListComp elt [⟨tg,iter,ifs,0⟩] scope pos) (some (.Name y pos')) spos.line X.env=pure true)
  (hs:∀x,foldedSetIterable iter X.env x=pure x:=by intro _;rfl):PS X (.Assign [.Name y pos'] (.ListComp elt [⟨tg,iter,ifs,0⟩] scope pos) spos) (fun D U H=>eV is wi g tc te U H fun v H'=>D.nx (U.set i (some v)) H'):=by
 intro pins s U H Ds I h;rw [exec_Assign_Name_used _ _ _ _ hsw];refine L8 (wpAny_standAt (L8 ?_))
 show wpAny _ X.A (do let _ <-comprehension (.ListComp elt [⟨tg,iter,ifs,0⟩] scope pos) scope X.env _ (newList []) false (eval iter X.env) (some (assign (.Name y pos') X.env))) _ _ s
 refine L8 (wpAny_mono (wpAny_comprehension_free (use:=some (assign (.Name y pos') X.env)) (Q:=fun _ s'=>SP X pins Ds .next s') rfl hs (fw (I.freeCells S)) S.kind S.loc
  (jl (RR:=fun acc C=>compPost (model X.prog X.w) X.A X.xe (some (assign (.Name y pos') X.env)) (fun _ s'=>SP X pins Ds .next s') acc C) S hcalm hi hg hc he I h ?_)) (fun _ s' hq=>L9 (L9 hq)) fun _ _ e=>e)
 intro D C s' H' m I' hn q n1 n2 n3 n4 n5
 show wpAny _ X.A (assign (.Name y pos') X.env (.ref D)) _ _ _
 refine wpAny_assign_Name (i6 (v:=.ref D) I' hN hy (.inl hl) rfl (fun s'' I'' hch=>?_) (.inr hl))
 obtain ⟨a,hsb,ha⟩:=hch;have hCa:C≠a:=by
  rcases ha with e | e
  ·rw [e];exact n2
  ·exact (n4 y a e).symm
 refine ⟨m,hn.sameBut hsb hCa,fun h' hs'=>?_⟩
 exact ⟨_,H',I''.turned (t':=s''.toks) (fun b o hb e=>(hs'.2 b hb).trans e) n1 n2 (.inr n3) n4 n5,q⟩
end
end L2
namespace T
open PySem PySem.Spec L2
open PyProof.Rows hiding St
variable {K:Fg} {H' H2 He H1 He':Hp} {a:Addr} {o:Option (Option PV)} {O' G F:List Addr} {Fs Fs2 Fs' Fs1:List (List Addr)} {t':TT} {es ifs:List Expr} {X:Cx} {U:St} {x qual y:Str} {Γ' Γ Γ1:Ev} {g':Mc->Mc->Option Mc} {α:Type} {ps N gl:List Str} {vs:List V} {bs:List Bool} {A:Around} {s':Sh} {ds:List Mc} {fl:FL} {lo cs ls gs:List Nat} {tg iter elt:Expr} {fi:FI} {fd:FuncData} {den:List Mc->bz} {op':CmpOp} {scope:Scope} {px pos' apos cpos:Pos} {fe:F1} {mg:Str->Option Value} {env:Env} {gens:List Comprehension} {line:Nat}
abbrev D:=PyData
inductive Rep (K:Fg) (H:Hp):V->D->Prop where
 | non:Rep K H .non .none
 | bl (b:Bool):Rep K H (.bl b) (.bool b)
 | int (i:Int):Rep K H (.int i) (.int i)
 | str (x:Str):Rep K H (.str x) (.str x)
 | lst {p:Addr} {vs:List V} {ds:List D}:SqL K H p vs->vs.length=ds.length->(∀(i:Nat) v d,vs[i]?=some v->ds[i]?=some d->Rep K H v d)->Rep K H (.ref p) (.list ds)
 | tup {p:Addr} {vs:List V} {ds:List D}:SqT K H p vs->vs.length=ds.length->(∀(i:Nat) v d,vs[i]?=some v->ds[i]?=some d->Rep K H v d)->Rep K H (.ref p) (.tuple ds)
theorem pQ {H:Hp} {xs:List V} (e:Same H H') (h:SqT K H a xs):SqT K H' a xs:=by
 rcases h with (h | ⟨o,h⟩) | h
 ·exact .inl (.inl (e _ _ h))
 ·exact .inl (.inr ⟨o,e _ _ h⟩)
 ·exact .inr h
theorem Rep.mono {H:Hp} {v:V} {d:D} (e:Same H H') (h:Rep K H v d):Rep K H' v d:=by
 induction h with
 | non=>exact .non
 | bl b=>exact .bl b
 | int i=>exact .int i
 | str x=>exact .str x
 | lst hs hl _ ih=>exact .lst (e.seq hs) hl ih
 | tup hs hl _ ih=>exact .tup (pQ e hs) hl ih
def Reps (K:Fg) (H:Hp) (vs:List V) (ds:List D):Prop:=vs.length=ds.length/\∀(i:Nat) v d,vs[i]?=some v->ds[i]?=some d->Rep K H v d
def bM (H:Hp) (O:List Addr):Hp:=fun a=>if a∈O then none else H a
theorem hid_le {H:Hp} {O:List Addr}:Same (bM H O) H:=fun b o h=>by
 unfold bM at h;split at h
 ·cases h
 ·exact h
theorem w6 {H:Hp} {O:List Addr} {o:HO} (h:H a=some o) (n:a∉O):bM H O a=some o:=by
 unfold bM;rw [if_neg n];exact h
theorem sk {H:Hp} {O:List Addr} (e:Same H H') (h:∀a∈O',a∈O\/H a=none):Same (bM H O) (bM H' O'):=fun b o q=>by
 unfold bM at q ⊢
 split at q
 ·cases q
 ·rename_i hn
  have hb:b∉O':=fun z=>(h b z).elim hn fun z=>by rw [z] at q;cases q
  rw [if_neg hb];exact e b o q
theorem GT {H:Hp} {O:List Addr} {p:Addr} {o:HO} (h:p∈O):bM (bo H p o) O=bM H O:=by
 funext b
 unfold bM;split
 ·rfl
 ·rename_i hb
  exact b9 fun e=>hb (e▸h)
theorem Eh {H:Hp}:bM H []=H:=by
 funext b;unfold bM;simp
theorem gN {H:Hp} {p:Addr} {o:HO} (h:H p=none):Same H (bo H p o):=fun b u e=>by
 rw [b9 (iT e h)];exact e
inductive Sh where
 | view | leaf | lst (s:Sh) | tup (ss:List Sh)
def Sh.isView:Sh->Bool
 | .view=>true
 | _=>false
inductive Own (K:Fg) (O:List Addr) (H:Hp):Sh->List Addr->V->D->Prop where
 | view {v d}:Rep K H v d->Own K O H .view [] v d
 | leaf {v d}:Rep K (bM H O) v d->Own K O H .leaf [] v d
 | lst {s:Sh} {p:Addr} {vs:List V} {ds:List D} {Fs:List (List Addr)}:s.isView=false->H p=some (.lst vs)->vs.length=ds.length->Fs.length=ds.length->(p::Fs.flatten).Nodup ->
   (∀(i:Nat) v d F,vs[i]?=some v->ds[i]?=some d->Fs[i]?=some F->Own K O H s F v d)->Own K O H (.lst s) (p::Fs.flatten) (.ref p) (.list ds)
 | tup {ss:List Sh} {p:Addr} {vs:List V} {ds:List D} {Fs:List (List Addr)}:(∀s∈ss,s.isView=false)->H p=some (.tup vs)->p∉O->vs.length=ds.length->Fs.length=ds.length->ss.length=ds.length->Fs.flatten.Nodup ->
   (∀(i:Nat) v d F s,vs[i]?=some v->ds[i]?=some d->Fs[i]?=some F->ss[i]?=some s->Own K O H s F v d)->Own K O H (.tup ss) Fs.flatten (.ref p) (.tuple ds)
theorem Own.mono {O:List Addr} {H:Hp} {s:Sh} {v:V} {d:D} (h:Own K O H s G v d) (e:Same H H') (hO:∀a∈O',a∈O\/H a=none):Own K O' H' s G v d:=by
 induction h with
 | view r=>exact .view (r.mono e)
 | leaf r=>exact .leaf (r.mono (sk e hO))
 | lst hv hp hl hf nd _ ih=>exact .lst hv (e _ _ hp) hl hf nd fun i v d F h1 h2 h3=>ih i v d F h1 h2 h3
 | tup hv hp hn hl hf hs nd _ ih=>exact .tup hv (e _ _ hp) (fun z=>(hO _ z).elim hn fun z=>by rw [z] at hp;cases hp) hl hf hs nd fun i v d F s h1 h2 h3 h4=>ih i v d F s h1 h2 h3 h4
theorem Own.rep {O:List Addr} {H:Hp} {s:Sh} {v:V} {d:D} (h:Own K O H s G v d):Rep K H v d:=by
 induction h with
 | view r=>exact r
 | leaf r=>exact r.mono hid_le
 | lst hv hp hl hf _ q ih=>
  refine .lst (.of hp) hl fun i v d h1 h2=>?_
  rename_i Fs _;obtain ⟨F,hF⟩:∃F,Fs[i]?=some F:=by
   have:=(L7 h2).1
   exact ⟨Fs[i]'(by omega),L0 _⟩
  exact ih i v d F h1 h2 hF
 | tup hv hp hn hl hf hs _ q ih=>
  refine .tup (.of hp) hl fun i v d h1 h2=>?_
  rename_i ss _ _ _ Fs _;have hi:=(L7 h2).1
  exact ih i v d (Fs[i]'(by omega)) (ss[i]'(by omega)) h1 h2 (L0 _) (L0 _)
theorem ik {i:Nat} (h:Fs[i]?=some F) (ha:a∈F):a∈Fs.flatten:=List.mem_flatten.mpr ⟨F,mem_of_getElem? h,ha⟩
theorem Own.freeze {O:List Addr} {H:Hp} {s:Sh} {v:V} {d:D} (h:Own K O H s G v d) (hs:s.isView=false) (h1:∀a∈O',a∈O) (h2:∀a∈G,a∉O'):Rep K (bM H O') v d:=by
 induction h with
 | view r=>cases hs
 | leaf r=>exact r.mono (sk (Same.refl _) fun a z=>.inl (h1 a z))
 | lst hv hp hl hf _ q ih=>
  refine .lst (.of (w6 hp (h2 _ mem_cons_self))) hl fun i v d e1 e2=>?_
  rename_i Fs _;obtain ⟨F,hF⟩:∃F,Fs[i]?=some F:=by
   have:=(L7 e2).1
   exact ⟨Fs[i]'(by omega),L0 _⟩
  exact ih i v d F e1 e2 hF hv fun a ha=>h2 a (L5 _ (ik hF ha))
 | tup hv hp hn hl hf hs' _ q ih=>
  refine .tup (.of (w6 hp fun z=>hn (h1 _ z))) hl fun i v d e1 e2=>?_
  rename_i ss _ _ _ Fs _;have hi:=(L7 e2).1
  have e3:Fs[i]?=some (Fs[i]'(by omega)):=L0 _
  exact ih i v d _ (ss[i]'(by omega)) e1 e2 e3 (L0 _) (hv _ (getElem_mem _)) fun a ha=>h2 a (ik e3 ha)
theorem Own.mut {O:List Addr} {H:Hp} {s:Sh} {v:V} {d:D} {p:Addr} {o:HO} {xs:List V} (h:Own K O H s G v d) (hs:s.isView=false) (hp:p∈O) (hg:p∉G) (hl:H p=some (.lst xs)):Own K O (bo H p o) s G v d:=by
 induction h with
 | view r=>cases hs
 | leaf r=>refine .leaf ?_;rw [GT hp];exact r
 | lst hv hq hl' hf nd q ih=>
  refine .lst hv ?_ hl' hf nd fun i v d F e1 e2 e3=>ih i v d F e1 e2 e3 hv fun z=>hg (L5 _ (ik e3 z))
  rw [b9 (fun z=>hg (by rw [<-z];exact mem_cons_self))]
  exact hq
 | tup hv hq hn hl' hf hs' nd q ih=>
  refine .tup hv ?_ hn hl' hf hs' nd fun i v d F s e1 e2 e3 e4=>ih i v d F s e1 e2 e3 e4 (hv _ (mem_of_getElem? e4)) fun z=>hg (ik e3 z)
  rw [b9 (fun z=>by rw [z,hl] at hq;cases hq)]
  exact hq
inductive Sc:V->D->Prop where
 | non:Sc .non .none
 | bl (b:Bool):Sc (.bl b) (.bool b)
 | int (i:Int):Sc (.int i) (.int i)
 | str (x:Str):Sc (.str x) (.str x)
theorem Sc.rep {H:Hp} {v:V} {d:D} (h:Sc v d):Rep K H v d:=by cases h<;>constructor
def ba:D->Bool
 | .list _=>false
 | .tuple _=>false
 | .dict _=>false
 | _=>true
theorem Rep.sc {H:Hp} {v:V} {d:D} (h:Rep K H v d) (s:ba d=true):Sc v d:=by
 cases h with
 | non=>exact .non
 | bl b=>exact .bl b
 | int i=>exact .int i
 | str x=>exact .str x
 | lst _ _ _=>cases s
 | tup _ _ _=>cases s
structure PV where
 s:Sh
 d:D
abbrev Ev:=List (Option PV)
@[simp] abbrev Md (d:PySem.PyData):Option PV:=some ⟨.leaf,d⟩
inductive Out (α:Type) where
 | ok (a:α) (e:Ev)
 | er (c:Str) (e:Ev)
 | no
def Out.bind {α β:Type} (x:Out α) (k:α->Ev->Out β):Out β:=match x with
 | .ok a e=>k a e
 | .er c e=>.er c e
 | .no=>.no
structure EnvOk (K:Fg) (He:Hp) (O:List Addr) (Fs:List (List Addr)) (H:Hp) (U:St) (Γ:Ev):Prop where
 len1:U.length=Γ.length
 len2:Fs.length=Γ.length
 same:Same He H
 nd:(O++Fs.flatten).Nodup
 inH:∀a∈O++Fs.flatten,H a≠none
 fresh:∀a∈Fs.flatten,He a=none
 slot:∀(i:Nat) (p:PV),Γ[i]?=some (some p)->p.s.isView=false/\∃v F,U[i]?=some (some v)/\Fs[i]?=some F/\Own K (O++Fs.flatten) H p.s F v p.d
section
variable {K:Fg} {He H H':Hp} {O O' G:List Addr} {Fs:List (List Addr)} {U:St} {Γ:Ev}
theorem EnvOk.grow (h:EnvOk K He O Fs H U Γ) (e:Same H H'):EnvOk K He O Fs H' U Γ:=
 ⟨h.len1,h.len2,h.same.trans e,h.nd,fun a ha z=>h.inH a ha (e.free z),h.fresh,fun i p q=>let ⟨a,v,F,b,c,d⟩:=h.slot i p q;⟨a,v,F,b,c,d.mono e fun _ z=>.inl z⟩⟩
theorem EnvOk.drop (h:EnvOk K He O Fs H U Γ) (hs:∀a∈O',a∈O) (nd:O'.Nodup):EnvOk K He O' Fs H U Γ:=by
 obtain ⟨n1,n2,n3⟩:=L6 h.nd;refine ⟨h.len1,h.len2,h.same,List.nodup_append.mpr ⟨nd,n2,fun a ha b hb=>n3 a (hs a ha) b hb⟩,fun a ha=>h.inH a ?_,h.fresh,fun i p q=>let ⟨a,v,F,b,c,d⟩:=h.slot i p q;⟨a,v,F,b,c,d.mono (Same.refl _) fun a z=>.inl ?_⟩⟩
 ·rcases LX ha with z | z
  ·exact LU _ (hs a z)
  ·exact LR _ z
 ·rcases LX z with z | z
  ·exact LU _ (hs a z)
  ·exact LR _ z
theorem EnvOk.dropL (h:EnvOk K He (G++O) Fs H U Γ):EnvOk K He O Fs H U Γ:=h.drop (fun a z=>LR _ z) (L6 (L6 h.nd).1).2.1
theorem EnvOk.hide (h:EnvOk K He O Fs H U Γ) (e:Same H H') (nd:G.Nodup) (hn:∀a∈G,H a=none) (hi:∀a∈G,H' a≠none):EnvOk K He (G++O) Fs H' U Γ:=by
 refine ⟨h.len1,h.len2,h.same.trans e,?_,fun a ha=>?_,h.fresh,fun i p q=>let ⟨a,v,F,b,c,d⟩:=h.slot i p q;⟨a,v,F,b,c,d.mono e fun a z=>?_⟩⟩
 ·rw [append_assoc]
  exact List.nodup_append.mpr ⟨nd,h.nd,fun a ha b hb z=>h.inH b hb (by rw [<-z];exact hn a ha)⟩
 ·rw [append_assoc] at ha
  rcases LX ha with z | z
  ·exact hi a z
  ·exact fun q=>h.inH a z (e.free q)
 ·rw [append_assoc] at z
  rcases LX z with z | z
  ·exact .inr (hn a z)
  ·exact .inl z
end
structure Aft (K:Fg) (He:Hp) (O:List Addr) (Fs:List (List Addr)) (H:Hp) (U:St) (Γ':Ev) (p:PV) (v:V) (H':Hp) (G:List Addr) (Fs':List (List Addr)):Prop where
 same:Same H H'
 env:EnvOk K He (G++O) Fs' H' U Γ'
 new:∀a∈G++Fs'.flatten,a∈Fs.flatten\/H a=none
 own:Own K (G++O++Fs'.flatten) H' p.s G v p.d
abbrev XW:=Str->St->Hp->Prop
abbrev F1:=Ev->Out PV
def tE (K:Fg) (W:XW) (f:F1):TE:=fun U H Q=>∃He O Fs Γ,EnvOk K He O Fs H U Γ/\match f Γ with
 | .ok p Γ'=>∀v H' G Fs',Aft K He O Fs H U Γ' p v H' G Fs'->Q v H'
 | .er c Γ'=>∀H' Fs',Same H H'->EnvOk K He O Fs' H' U Γ'->W c U H'
 | .no=>False
def Wants (K:Fg) (W:XW) (He:Hp) (O:List Addr) (Fs:List (List Addr)) (H:Hp) (U:St) (Q:VK) (o:Out PV):Prop:=match o with
 | .ok p Γ'=>∀v H' G Fs',Aft K He O Fs H U Γ' p v H' G Fs'->Q v H'
 | .er c Γ'=>∀H' Fs',Same H H'->EnvOk K He O Fs' H' U Γ'->W c U H'
 | .no=>False
section
variable {K:Fg} {W:XW} {He H:Hp} {O:List Addr} {Fs:List (List Addr)} {U:St} {Γ Γ':Ev} {Q:VK}
theorem Wants.scal {O2:List Addr} {v:V} {d:D} (h:Wants K W He O Fs H U Q (.ok ⟨.leaf,d⟩ Γ')) (s:Sc v d) (e:Same H H2) (E:EnvOk K He O2 Fs2 H2 U Γ')
  (hO:∀a∈O,a∈O2) (nd:O.Nodup) (new:∀a∈Fs2.flatten,a∈Fs.flatten\/H a=none):Q v H2:=
 h v H2 [] Fs2 ⟨e,by rw [nil_append];exact E.drop hO nd,by rw [nil_append];exact new,.leaf s.rep⟩
theorem EnvOk.ndO (E:EnvOk K He O Fs H U Γ):O.Nodup:=(L6 E.nd).1
end
def aU {β:Type} (f:F1) (k:PV->Ev->Out β):Ev->Out β:=fun Γ=>(f Γ).bind k
section
variable {K:Fg} {W:XW} {U:St} {H:Hp} {Q:VK} {fa fb:F1}
theorem zr {k:PV->F1} {R:VK} (h:tE K W (aU fa k) U H Q)
  (hk:∀He O Fs Γ1 p v H1 G Fs1,O.Nodup->Aft K He O Fs H U Γ1 p v H1 G Fs1->Wants K W He O Fs H U Q (k p Γ1)->R v H1):tE K W fa U H R:=by
 obtain ⟨He,O,Fs,Γ,E,h⟩:=h;refine ⟨He,O,Fs,Γ,E,?_⟩
 unfold aU at h
 cases e:fa Γ with
 | ok p Γ1=>
  rw [e] at h;exact fun v H' G Fs' A=>hk He O Fs Γ1 p v H' G Fs' E.ndO A h
 | er c Γ1=>
  rw [e] at h;exact h
 | no=>
  rw [e] at h;exact h
theorem Ee {k:PV->PV->F1} {R:V->V->Hp->Prop} (h:tE K W (aU fa fun p=>aU fb fun q=>k p q) U H Q)
  (hk:∀He O Fs Γ2 p q v u H1 H2 G1 G2 Fs2,O.Nodup->Same H H1->Same H1 H2->EnvOk K He (G2++(G1++O)) Fs2 H2 U Γ2->(∀a∈G2++(G1++Fs2.flatten),a∈Fs.flatten\/H a=none) ->
   Own K (G2++(G1++O)++Fs2.flatten) H2 p.s G1 v p.d->Own K (G2++(G1++O)++Fs2.flatten) H2 q.s G2 u q.d->Wants K W He O Fs H U Q (k p q Γ2)->R v u H2) :
  tE K W fa U H fun v H1=>tE K W fb U H1 fun u H2=>R v u H2:=by
 refine zr (k:=fun p=>aU fb fun q=>k p q) h fun He O Fs Γ1 p v H1 G1 Fs1 nd A1 h1=>?_
 refine ⟨He,G1++O,Fs1,Γ1,A1.env,?_⟩
 unfold aU at h1
 cases e:fb Γ1 with
 | ok q Γ2=>
  rw [e] at h1;intro u H2 G2 Fs2 A2;have new:∀a∈G2++(G1++Fs2.flatten),a∈Fs.flatten\/H a=none:=fun a ha=>by
   have up:a∈G1++Fs1.flatten->a∈Fs.flatten\/H a=none:=A1.new a
   rcases LX ha with z | z
   ·rcases A2.new a (LU _ z) with y | y
    ·exact up (LR _ y)
    ·exact .inr (A1.same.free y)
   ·rcases LX z with z | z
    ·exact up (LU _ z)
    ·rcases A2.new a (LR _ z) with y | y
     ·exact up (LR _ y)
     ·exact .inr (A1.same.free y)
  refine hk He O Fs Γ2 p q v u H1 H2 G1 G2 Fs2 nd A1.same A2.same A2.env new (A1.own.mono A2.same fun a ha=>?_) A2.own h1
  rcases LX ha with z | z
  ·rcases LX z with z | z
   ·rcases A2.new a (LU _ z) with y | y
    ·exact .inl (LR _ y)
    ·exact .inr y
   ·exact .inl (LU _ z)
  ·rcases A2.new a (LR _ z) with y | y
   ·exact .inl (LR _ y)
   ·exact .inr y
 | er c Γ2=>
  rw [e] at h1;intro H2 Fs2 hs E2;exact h1 H2 Fs2 (A1.same.trans hs) E2.dropL
 | no=>
  rw [e] at h1;exact h1
end
section
variable {X:Cx} {e:Expr}
theorem aJ {t t':TE} (h:PE X e t) (i:∀U H Q,t' U H Q->t U H Q):PE X e t':=fun pins s U H Q I q=>h pins s U H Q I (i U H Q q)
theorem jt {t:TT} (h:PT X e t) (i:∀U H Q,t' U H Q->t U H Q):PT X e t':=fun pins s U H Q I q=>h pins s U H Q I (i U H Q q)
theorem wA {t:TT} (h:PW X e t) (i:∀U H Q,t' U H Q->t U H Q):PW X e t':=fun whole pins s U H Q I q=>h whole pins s U H Q I (i U H Q q)
theorem pS {t t':TA} (h:PA X es t) (i:∀U H Q,t' U H Q->t U H Q):PA X es t':=fun pos pins s U H Q I q=>h pos pins s U H Q I (i U H Q q)
theorem b8 {st:Stmt} {t t':TS} (h:PS X st t) (i:∀D U H,t' D U H->t D U H):PS X st t':=fun pins s U H D I q=>h pins s U H D I (i D U H q)
theorem GG {st:List Stmt} {t t':TS} (h:PSs X st t) (i:∀D U H,t' D U H->t D U H):PSs X st t':=fun pins s U H D I q=>h pins s U H D I (i D U H q)
theorem Gz {t:TT} (h:PF X es t) (i:∀U H Q,t' U H Q->t U H Q):PF X es t':=fun pins s U H Q I q=>h pins s U H Q I (i U H Q q)
end
theorem Jx {h:Heap}:∀{vs:List V} {its:List Value} {ds:List D},Vals vs its->vs.length=ds.length->(∀(i:Nat) v d,vs[i]?=some v->ds[i]?=some d->∀u,RelV v u->∃as,Reads h u d as)->∃as,ReadsAll h its ds as
 | _,_,[],.nil,_,_=>⟨_,.nil⟩
 | _,_,d::ds,.cons (a:=v) (b:=u) r t,hl,h=>by
  obtain ⟨as,ra⟩:=h 0 v d rfl rfl u r;obtain ⟨bs,rb⟩:=Jx t (by simpa using hl) fun i v d h1 h2=>h (i+1) v d (by simpa using h1) (by simpa using h2)
  exact ⟨_,.cons ra rb⟩
 | _,_,[],.cons _ _,hl,_=>by simp at hl
 | _,_,_::_,.nil,hl,_=>by simp at hl
theorem Rep.reads {pins:List (Addr×Obj)} {H:Hp} {s:Shared} {x:V} {d:D} (I:Inv X pins U H s) (r:Rep X.K H x d):∀u,RelV x u->∃as,Reads s.heap u d as:=by
 induction r with
 | non=>rintro u rfl;exact ⟨_,.none⟩
 | bl b=>rintro u rfl;exact ⟨_,.bool b⟩
 | int i=>rintro u ⟨t,rfl⟩;exact ⟨_,.int i t⟩
 | str x=>rintro u ⟨t,rfl⟩;exact ⟨_,.str x t⟩
 | lst hq hl _ ih=>
  rintro u rfl
  obtain ⟨its,rv,⟨o,n,e1,e2,e3,e4⟩,_⟩:=I.list hq;obtain ⟨as,ra⟩:=Jx rv hl ih;exact ⟨_,.list e1 e2 e4 (by simpa using ra)⟩
 | tup hq hl _ ih=>
  rintro u rfl
  obtain ⟨its,rv,⟨o,e1,e2,n,e4⟩,_⟩:=I.tuple hq;obtain ⟨as,ra⟩:=Jx rv hl ih;exact ⟨_,.tuple e1 e2 e4 (by simpa using ra)⟩
theorem ow {α:Type} {F G:List α}:∀{Fs:List (List α)} {i:Nat},Fs[i]?=some F->(F++(Fs.set i G).flatten).Perm (G++Fs.flatten)
 | [],_,h=>by simp at h
 | A::r,0,h=>by
  simp at h
  subst h;simp only [List.set_cons_zero,flatten_cons]
  rw [<-append_assoc,<-append_assoc];exact List.Perm.append_right _ perm_append_comm
 | A::r,i+1,h=>by
  have ih:=ow (G:=G) (Fs:=r) (i:=i) (by simpa using h)
  simp only [List.set_cons_succ,flatten_cons]
  calc (F++(A++(r.set i G).flatten)).Perm (A++(F++(r.set i G).flatten)):=by
        rw [<-append_assoc,<-append_assoc];exact List.Perm.append_right _ perm_append_comm
    _ |>.Perm (A++(G++r.flatten)):=List.Perm.append_left _ ih
    _ |>.Perm (G++(A++r.flatten)):=by
        rw [<-append_assoc,<-append_assoc];exact List.Perm.append_right _ perm_append_comm
section
variable {K:Fg} {He H:Hp} {O G:List Addr} {Fs:List (List Addr)} {U:St} {Γ:Ev}
theorem EnvOk.lt (E:EnvOk K He O Fs H U Γ) {i:Nat} (h:i<Γ.length):∃F,Fs[i]?=some F:=⟨Fs[i]'(by rw [E.len2];exact h),L0 _⟩
theorem EnvOk.move {i:Nat} {p:PV} (E:EnvOk K He O Fs H U Γ) (h:Γ[i]?=some (some p)) :
  p.s.isView=false/\∃v F,U[i]?=some (some v)/\EnvOk K He (F++O) (Fs.set i []) H U (Γ.set i none)/\Own K (F++O++(Fs.set i []).flatten) H p.s F v p.d/\(∀a∈F++(Fs.set i []).flatten,a∈Fs.flatten):=by
 obtain ⟨hv,v,F,h1,h2,h3⟩:=E.slot i p h;have pm:(F++(Fs.set i []).flatten).Perm Fs.flatten:=by simpa using ow (G:=[]) h2
 have pm2:(F++O++(Fs.set i []).flatten).Perm (O++Fs.flatten):=by
  rw [append_assoc]
  calc (F++(O++(Fs.set i []).flatten)).Perm (O++(F++(Fs.set i []).flatten)):=by
        rw [<-append_assoc,<-append_assoc];exact List.Perm.append_right _ perm_append_comm
    _ |>.Perm (O++Fs.flatten):=List.Perm.append_left _ pm
 refine ⟨hv,v,F,h1,⟨by rw [length_set];exact E.len1,by rw [length_set,length_set];exact E.len2,E.same,pm2.nodup_iff.mpr E.nd,fun a ha=>E.inH a (pm2.mem_iff.mp ha),fun a ha=>E.fresh a (pm.mem_iff.mp (LR _ ha)),fun j q hq=>?_⟩,h3.mono (Same.refl _) fun a ha=>.inl (pm2.mem_iff.mp ha),fun a ha=>pm.mem_iff.mp ha⟩
 by_cases hj:j=i
 ·subst hj
  rw [List.getElem?_set] at hq;split at hq
  ·split at hq<;>cases hq
  ·rename_i z
   exact absurd rfl z
 ·rw [getElem?_set_ne (Ne.symm hj)] at hq
  obtain ⟨w1,v',F',e1,e2,e3⟩:=E.slot j q hq;exact ⟨w1,v',F',e1,by rw [getElem?_set_ne (Ne.symm hj)];exact e2,e3.mono (Same.refl _) fun a ha=>.inl (pm2.mem_iff.mp ha)⟩
theorem EnvOk.put {i:Nat} {p:PV} {v:V} (E:EnvOk K He (G++O) Fs H U Γ) (ho:Own K (G++O++Fs.flatten) H p.s G v p.d) (hv:p.s.isView=false) (hn:∀a∈G,He a=none) (hi:i<Γ.length) :
  EnvOk K He O (Fs.set i G) H (U.set i (some v)) (Γ.set i (some p)):=by
 obtain ⟨F,hF⟩:=E.lt hi;have pm:=ow (G:=G) hF
 have nd:=E.nd
 rw [append_assoc] at nd;have sub:∀a∈O++(Fs.set i G).flatten,a∈G++O++Fs.flatten:=fun a ha=>by
  rw [append_assoc];rcases LX ha with z | z
  ·exact LR _ (LU _ z)
  ·rcases LX (pm.mem_iff.mp (LR _ z)) with y | y
   ·exact LU _ y
   ·exact LR _ (LR _ y)
 refine ⟨by rw [length_set,length_set];exact E.len1,by rw [length_set,length_set];exact E.len2,E.same,?_,fun a ha=>E.inH a (sub a ha),fun a ha=>?_,fun j q hq=>?_⟩
 ·have p1:(O++(F++(Fs.set i G).flatten)).Perm (G++(O++Fs.flatten)):=by
   calc (O++(F++(Fs.set i G).flatten)).Perm (O++(G++Fs.flatten)):=List.Perm.append_left _ pm
     _ |>.Perm (G++(O++Fs.flatten)):=by
       rw [<-append_assoc,<-append_assoc];exact List.Perm.append_right _ perm_append_comm
  have p2:=p1.nodup_iff.mpr nd
  refine p2.sublist ?_
  exact List.Sublist.append_left (List.sublist_append_right _ _) _
 ·rcases LX (pm.mem_iff.mp (LR _ ha)) with y | y
  ·exact hn a y
  ·exact E.fresh a y
 ·by_cases hj:j=i
  ·subst hj
   rw [getElem?_set_self hi] at hq
   cases hq;refine ⟨hv,v,G,?_,?_,ho.mono (Same.refl _) fun a ha=>.inl (sub a ha)⟩
   ·rw [getElem?_set_self (by rw [E.len1];exact hi)]
   ·rw [getElem?_set_self (by rw [E.len2];exact hi)]
  ·rw [getElem?_set_ne (Ne.symm hj)] at hq
   obtain ⟨w1,v',F',e1,e2,e3⟩:=E.slot j q hq;exact ⟨w1,v',F',by rw [getElem?_set_ne (Ne.symm hj)];exact e1,by rw [getElem?_set_ne (Ne.symm hj)];exact e2,e3.mono (Same.refl _) fun a ha=>.inl (sub a ha)⟩
theorem Aft.freshG {p:PV} {v:V} (E:EnvOk K He O Fs H U Γ) (A:Aft K He O Fs H U Γ' p v H' G Fs'):∀a∈G,He a=none:=fun a ha=>by
 rcases A.new a (LU _ ha) with z | z
 ·exact E.fresh a z
 ·exact E.same.free z
end
def aa (i:Nat):F1:=fun Γ=>match Γ[i]? with
 | some (some p)=>(match p.s with
  | .leaf=>.ok ⟨.leaf,p.d⟩ Γ
  | _=>.ok ⟨.view,p.d⟩ Γ)
 | _=>.no
def cD (i:Nat):F1:=fun Γ=>match Γ[i]? with
 | some (some p)=>.ok p (Γ.set i none)
 | _=>.no
def eK (d:D):F1:=fun Γ=>.ok ⟨.leaf,d⟩ Γ
section
variable {X:Cx} {W:XW} {i:Nat} {e:Expr} {pos:Pos}
theorem Bq {H:Hp} {Q:VK} (h:tE K W (aa i) U H Q):aS i U H Q:=by
 obtain ⟨He,O,Fs,Γ,E,h⟩:=h;unfold aa at h
 cases e:Γ[i]? with
 | none=>rw [e] at h;exact h.elim
 | some o=>
  rw [e] at h
  cases o with
  | none=>exact h.elim
  | some p=>
   obtain ⟨hv,v,F,h1,h2,h3⟩:=E.slot i p e;obtain ⟨s,d⟩:=p;have new:∀a∈[]++Fs.flatten,a∈Fs.flatten\/H a=none:=fun a ha=>.inl (by simpa using ha)
   cases s with
   | leaf=>
    cases h3 with
    | leaf r=>exact ⟨v,h1,h v H [] Fs ⟨Same.refl _,by simpa using E,new,.leaf r⟩⟩
   | view=>cases hv
   | lst s=>exact ⟨v,h1,h v H [] Fs ⟨Same.refl _,by simpa using E,new,.view h3.rep⟩⟩
   | tup ss=>exact ⟨v,h1,h v H [] Fs ⟨Same.refl _,by simpa using E,new,.view h3.rep⟩⟩
theorem xF {H:Hp} {Q:VK} (h:tE K W (cD i) U H Q):aS i U H Q:=by
 obtain ⟨He,O,Fs,Γ,E,h⟩:=h;unfold cD at h
 cases e:Γ[i]? with
 | none=>rw [e] at h;exact h.elim
 | some o=>
  rw [e] at h
  cases o with
  | none=>exact h.elim
  | some p=>
   obtain ⟨hv,v,F,h1,E',o',sub⟩:=E.move e;exact ⟨v,h1,h v H F (Fs.set i []) ⟨Same.refl _,E',fun a ha=>.inl (sub a ha),o'⟩⟩
theorem vY (h:PE X e (aS i)):PE X e (tE X.K W (aa i)):=aJ h fun _ _ _=>Bq
theorem yS (h:PE X e (aS i)):PE X e (tE X.K W (cD i)):=aJ h fun _ _ _=>xF
theorem ug {H:Hp} {Q:VK} {v:V} {d:D} (hs:∀H,Rep K H v d) (h:tE K W (eK d) U H Q):Q v H:=by
 obtain ⟨He,O,Fs,Γ,E,h⟩:=h;exact h v H [] Fs ⟨Same.refl _,by simpa using E,fun a ha=>.inl (by simpa using ha),.leaf (hs _)⟩
theorem de_int {j:Int} {k pos}:PE X (.Constant (.int j) k pos) (tE X.K W (eK (.int j))):=aJ uQ fun _ _ _=>ug fun _=>.int j
theorem de_str {j:Str} {k pos}:PE X (.Constant (.str j) k pos) (tE X.K W (eK (.str j))):=aJ uP fun _ _ _=>ug fun _=>.str j
theorem yT {v:V} {u:Value} {d:D} (hg:Gl X x) (hm:X.mg x=some u) (r:RelV v u) (hr:∀H,Rep X.K H v d) (hd:(x==("__debug__":Str))=false:=by decide):PE X (.Name x pos) (tE X.K W (eK d)):=
 aJ (pv hg hm r hd) fun _ _ _=>ug hr
end
def aA (g:D->D->Option D) (fa fb:F1):F1:=aU fa fun p=>aU fb fun q=>fun Γ=>match g p.d q.d with
 | some d=>.ok ⟨.leaf,d⟩ Γ
 | none=>.no
def GOp (K:Fg) (r:R2) (g:D->D->Option D):Prop:=∀x y H Q a b d,Rep K H x a->Rep K H y b->g a b=some d->(∀v,Sc v d->Q v H)->r x y H Q
section
variable {K:Fg} {W:XW} {U:St} {H:Hp} {Q:VK} {fa fb:F1} {r:R2} {g:D->D->Option D}
theorem fR (hg:GOp K r g) (h:tE K W (aA g fa fb) U H Q):tK r (tE K W fa) (tE K W fb) U H Q:=by
 refine Ee h ?_
 intro He O Fs Γ2 p q v u H1 H2 G1 G2 Fs2 nd s1 s2 E new o1 o2 w
 cases e:g p.d q.d with
 | none=>rw [e] at w;exact w.elim
 | some d=>
  rw [e] at w;exact hg v u H2 Q p.d q.d d o1.rep o2.rep e fun z s=>w.scal s (s1.trans s2) E (fun a ha=>LR _ (LR _ ha)) nd fun a ha=>new a (LR _ (LR _ ha))
end
theorem GOp.or {r r':R2} {g g':D->D->Option D} (h:GOp K r g) (h':GOp K r' g'):GOp K (fun x y H Q=>r x y H Q\/r' x y H Q) (fun a b=>(g a b).or (g' a b)):=by
 intro x y H Q a b d ra rb e k;have e:(g a b).or (g' a b)=some d:=e
 cases e1:g a b with
 | some z=>rw [e1] at e;cases e;exact .inl (h x y H Q a b _ ra rb e1 k)
 | none=>rw [e1] at e;exact .inr (h' x y H Q a b d ra rb (by simpa using e) k)
def gI (C:Int->Int->Bool) (f:Int->Int->D):D->D->Option D
 | .int i,.int j=>if C i j then some (f i j) else none
 | _,_=>none
theorem pJ {C:Int->Int->Prop} {C':Int->Int->Bool} {g:Int->Int->V} {f:Int->Int->D} (hC:∀i j,C' i j=true->C i j) (hs:∀i j,Sc (g i j) (f i j)):GOp K (rI C g) (gI C' f):=by
 intro x y H Q a b d ra rb e k
 cases ra<;>cases rb<;>simp only [gI] at e<;>try cases e
 rename_i i j;split at e
 ·rename_i c
  cases e;exact ⟨i,j,rfl,rfl,hC i j c,k _ (hs i j)⟩
 ·cases e
def Ai (f:Int->Int->D):D->D->Option D
 | .int i,.int j=>some (f i j)
 | _,_=>none
theorem DD {g:Int->Int->V} {f:Int->Int->D} (hs:∀i j,Sc (g i j) (f i j)):GOp K (o8 g) (Ai f):=by
 intro x y H Q a b d ra rb e k
 cases ra<;>cases rb<;>simp only [Ai] at e<;>try cases e
 rename_i i j;exact ⟨i,j,rfl,rfl,k _ (hs i j)⟩
abbrev gSub:=Ai fun i j=>.int (i-j)
abbrev bu:=Ai fun i j=>.int (i+j)
def rX (i j:Int):Bool:=(decide (-(2 ^ 64)<i)&&decide (i<2 ^ 64))||(decide (-(2 ^ 64)<j)&&decide (j<2 ^ 64))
abbrev gv:=gI rX fun i j=>.int (i*j)
def zc (_ j:Int):Bool:=decide (0<j)&&decide (j<1073741824)
abbrev vF:=gI zc fun i j=>.int (i / j)
def zb (_ j:Int):Bool:=decide (0<j)
abbrev gw:=gI zb fun i j=>.int (i % j)
def za (i j:Int):Bool:=decide (0<=j)&&decide (j<=1000000)&&decide (i.natAbs<2 ^ 64)
abbrev yE:=gI za fun i j=>.int (i ^ j.toNat)
mutual
def Sh.same:Sh->Sh->Bool
 | .view,.view=>true
 | .leaf,.leaf=>true
 | .lst a,.lst b=>Sh.same a b
 | .tup as,.tup bs=>Sh.sameL as bs
 | _,_=>false
def Sh.sameL:List Sh->List Sh->Bool
 | [],[]=>true
 | a::as,b::bs=>Sh.same a b&&Sh.sameL as bs
 | _,_=>false
end
mutual
theorem Sh.same_eq:∀{a b:Sh},Sh.same a b=true->a=b
 | .view,.view,_=>rfl
 | .leaf,.leaf,_=>rfl
 | .lst a,.lst b,h=>by rw [Sh.same_eq (a:=a) (b:=b) (by simpa [Sh.same] using h)]
 | .tup as,.tup bs,h=>by rw [Sh.sameL_eq (as:=as) (bs:=bs) (by simpa [Sh.same] using h)]
 | .view,.leaf,h=>by simp [Sh.same] at h
 | .view,.lst _,h=>by simp [Sh.same] at h
 | .view,.tup _,h=>by simp [Sh.same] at h
 | .leaf,.view,h=>by simp [Sh.same] at h
 | .leaf,.lst _,h=>by simp [Sh.same] at h
 | .leaf,.tup _,h=>by simp [Sh.same] at h
 | .lst _,.view,h=>by simp [Sh.same] at h
 | .lst _,.leaf,h=>by simp [Sh.same] at h
 | .lst _,.tup _,h=>by simp [Sh.same] at h
 | .tup _,.view,h=>by simp [Sh.same] at h
 | .tup _,.leaf,h=>by simp [Sh.same] at h
 | .tup _,.lst _,h=>by simp [Sh.same] at h
theorem Sh.sameL_eq:∀{as bs:List Sh},Sh.sameL as bs=true->as=bs
 | [],[],_=>rfl
 | a::as,b::bs,h=>by
  have h:Sh.same a b=true/\Sh.sameL as bs=true:=by simpa [Sh.sameL] using h
  rw [Sh.same_eq h.1,Sh.sameL_eq h.2]
 | [],_::_,h=>by simp [Sh.sameL] at h
 | _::_,[],h=>by simp [Sh.sameL] at h
end
def coer (s:Sh) (p:PV):Bool:=match s with
 | .leaf=>!p.s.isView||ba p.d
 | .view=>false
 | s=>Sh.same s p.s
def aI (s:Sh) (G:List Addr):List Addr:=match s with
 | .leaf=>[]
 | _=>G
theorem Jl {s:Sh} (h:a∈aI s G):a∈G:=by
 unfold aI at h;split at h
 ·simp at h
 ·exact h
theorem Own.coer {K:Fg} {O O':List Addr} {H:Hp} {s:Sh} {p:PV} {G:List Addr} {v:V} (h:Own K O H p.s G v p.d) (c:coer s p=true) (h1:∀a∈O',a∈O) (h2:∀a∈G,a∈O'->a∈aI s G):Own K O' H s (aI s G) v p.d:=by
 cases s with
 | view=>simp [T.coer] at c
 | leaf=>
  show Own K O' H .leaf [] v p.d
  have c:(!p.s.isView||ba p.d)=true:=c
  cases hv:p.s.isView with
  | false=>exact .leaf (h.freeze hv h1 fun a ha z=>by simpa [aI] using h2 a ha z)
  | true=>
   rw [hv] at c;exact .leaf (h.rep.sc (by simpa using c)).rep
 | lst s=>
  have e:Sh.lst s=p.s:=Sh.same_eq c
  show Own K O' H (.lst s) G v p.d
  rw [e];exact h.mono (Same.refl _) fun a ha=>.inl (h1 a ha)
 | tup ss=>
  have e:Sh.tup ss=p.s:=Sh.same_eq c
  show Own K O' H (.tup ss) G v p.d
  rw [e];exact h.mono (Same.refl _) fun a ha=>.inl (h1 a ha)
open PySem.SeqAt in
def gz:D->D->Option D:=fun a b=>if shaped a&&shaped b then some (.bool (PyData.eqv a b)) else none
open PySem.SeqAt in
def gL:D->D->Option D:=fun a b=>if shaped a&&shaped b then some (.bool (!PyData.eqv a b)) else none
open PySem.SeqAt in
def qt (K:Fg) (neg:Bool):R2:=fun x y H Q=>∃a b,Rep K H x a/\Rep K H y b/\shaped a=true/\shaped b=true/\Q (.bl (if neg then !PyData.eqv a b else PyData.eqv a b)) H
section
variable {X:Cx}
theorem Cc (hu:X.A.units+64<cLine):OpR X (compareOp .Eq) (qt X.K false):=by
 intro pins s U H x y v u Q I rx ry h;obtain ⟨a,b,ra,rb,sa,sb,q⟩:=h;obtain ⟨as,r1⟩:=ra.reads I v rx;obtain ⟨bs,r2⟩:=rb.reads I u ry;exact SeqAt.compareEq_shaped r1 r2 sa sb hu ⟨.bl _,H,I,rfl,q⟩
theorem B7 (hu:X.A.units+64<cLine):OpR X (compareOp .NotEq) (qt X.K true):=by
 intro pins s U H x y v u Q I rx ry h;obtain ⟨a,b,ra,rb,sa,sb,q⟩:=h;obtain ⟨as,r1⟩:=ra.reads I v rx;obtain ⟨bs,r2⟩:=rb.reads I u ry;exact SeqAt.compareNe_shaped r1 r2 sa sb hu ⟨.bl _,H,I,rfl,q⟩
end
theorem CU:GOp K (qt K false) gz:=by
 intro x y H Q a b d ra rb e k;unfold gz at e;split at e
 ·rename_i c
  cases e;simp only [Bool.and_eq_true] at c
  exact ⟨a,b,ra,rb,c.1,c.2,k _ (.bl _)⟩
 ·cases e
theorem CQ:GOp K (qt K true) gL:=by
 intro x y H Q a b d ra rb e k;unfold gL at e;split at e
 ·rename_i c
  cases e;simp only [Bool.and_eq_true] at c
  exact ⟨a,b,ra,rb,c.1,c.2,k _ (.bl _)⟩
 ·cases e
def C4:D->D->Option D
 | .str i,.str j=>some (.bool (decide (i.cps.toList<j.cps.toList)))
 | _,_=>none
abbrev Ku:=Ai fun i j=>.bool (decide (i<j))
abbrev gy:D->D->Option D:=fun a b=>(Ku a b).or (C4 a b)
abbrev yF:=Ai fun i j=>.bool (decide (i<=j))
abbrev eO:=Ai fun i j=>.bool (decide (j<i))
abbrev LJ:=Ai fun i j=>.bool (decide (j<=i))
theorem yx:GOp K (fun x y H Q=>∃i j,x=.str i/\y=.str j/\Q (.bl (decide (i.cps.toList<j.cps.toList))) H) C4:=by
 intro x y H Q a b d ra rb e k
 cases ra<;>cases rb<;>simp only [C4] at e<;>try cases e
 rename_i i j;exact ⟨i,j,rfl,rfl,k _ (.bl _)⟩
theorem CS:GOp K (fun x y H Q=>o8 (fun i j=>.bl (decide (i<j))) x y H Q\/∃i j,x=.str i/\y=.str j/\Q (.bl (decide (i.cps.toList<j.cps.toList))) H) gy:=
 (DD fun _ _=>.bl _).or yx
open PySem.SeqAt in
def bB (neg:Bool):D->D->Option D
 | a,.list xs=>if shaped a&&shaped (.list xs) then some (.bool (if neg then !xs.any fun y=>PyData.eqv y a else xs.any fun y=>PyData.eqv y a)) else none
 | a,.tuple xs=>if shaped a&&shaped (.tuple xs) then some (.bool (if neg then !xs.any fun y=>PyData.eqv y a else xs.any fun y=>PyData.eqv y a)) else none
 | _,_=>none
def uy (K:Fg) (neg:Bool):R2:=fun x y H Q=>∃a b d,Rep K H x a/\Rep K H y b/\bB neg a b=some (.bool d)/\Q (.bl d) H
theorem vA {neg:Bool}:GOp K (uy K neg) (bB neg):=by
 intro x y H Q a b d ra rb e k;have:∃c,d=.bool c:=by
  cases b<;>simp only [bB] at e<;>(try cases e)<;>(split at e<;>cases e<;>exact ⟨_,rfl⟩)
 obtain ⟨c,rfl⟩:=this;exact ⟨a,b,c,ra,rb,e,k _ (.bl c)⟩
theorem Hs {d:D} {xs:List D} (h:SeqAt.shaped d=true) (e:d=.list xs\/d=.tuple xs):PyData.canLayAll0 xs=true/\PyData.depthAll xs+1<=64:=by
 have h1:=SeqAt.canLay_of_shaped h
 have h2:=SeqAt.depth_of_shaped h
 rcases e with e | e<;>subst e<;>exact ⟨by simpa [PyData.canLay0] using h1,by simpa [PyData.depth] using h2⟩
section
variable {X:Cx}
theorem Cb (hu:X.A.units+64<cLine):OpR X (compareOp .In) (uy X.K false):=by
 intro pins s U H x y v u Q I rx ry h;obtain ⟨a,b,d,ra,rb,e,q⟩:=h;obtain ⟨as,r1⟩:=ra.reads I v rx;obtain ⟨bs,r2⟩:=rb.reads I u ry
 cases b<;>simp only [bB] at e<;>try cases e
 all_goals
  split at e
  ·rename_i c
   simp only [Bool.and_eq_true] at c
   simp only [Option.some.injEq,PyData.bool.injEq] at e
   subst e;first
    | (obtain ⟨p1,p2⟩:=Hs c.2 (.inl rfl)
       exact SeqAt.in_list_reads r2 r1 p1 (SeqAt.canLay_of_shaped c.1) (Nat.lt_of_le_of_lt (by have:=Nat.min_le_left (PyData.depthAll ‹_›) a.depth;omega) hu) ⟨.bl _,H,I,rfl,q⟩)
    | (obtain ⟨p1,p2⟩:=Hs c.2 (.inr rfl)
       exact SeqAt.in_tuple_reads r2 r1 p1 (SeqAt.canLay_of_shaped c.1) (Nat.lt_of_le_of_lt (by have:=Nat.min_le_left (PyData.depthAll ‹_›) a.depth;omega) hu) ⟨.bl _,H,I,rfl,q⟩)
  ·cases e
theorem qz (hu:X.A.units+64<cLine):OpR X (compareOp .NotIn) (uy X.K true):=by
 intro pins s U H x y v u Q I rx ry h;obtain ⟨a,b,d,ra,rb,e,q⟩:=h;obtain ⟨as,r1⟩:=ra.reads I v rx;obtain ⟨bs,r2⟩:=rb.reads I u ry
 cases b<;>simp only [bB] at e<;>try cases e
 all_goals
  split at e
  ·rename_i c
   simp only [Bool.and_eq_true] at c
   simp only [Option.some.injEq,PyData.bool.injEq] at e
   subst e;first
    | (obtain ⟨p1,p2⟩:=Hs c.2 (.inl rfl)
       exact SeqAt.notIn_list_reads r2 r1 p1 (SeqAt.canLay_of_shaped c.1) (Nat.lt_of_le_of_lt (by have:=Nat.min_le_left (PyData.depthAll ‹_›) a.depth;omega) hu) ⟨.bl _,H,I,rfl,q⟩)
    | (obtain ⟨p1,p2⟩:=Hs c.2 (.inr rfl)
       exact SeqAt.notIn_tuple_reads r2 r1 p1 (SeqAt.canLay_of_shaped c.1) (Nat.lt_of_le_of_lt (by have:=Nat.min_le_left (PyData.depthAll ‹_›) a.depth;omega) hu) ⟨.bl _,H,I,rfl,q⟩)
  ·cases e
end
def WantsB (K:Fg) (W:XW) (He:Hp) (O:List Addr) (Fs:List (List Addr)) (H:Hp) (U:St) (Q:Bool->Hp->Prop) (o:Out Bool):Prop:=match o with
 | .ok b Γ'=>∀H' Fs',Same H H'->EnvOk K He O Fs' H' U Γ'->(∀a∈Fs'.flatten,a∈Fs.flatten\/H a=none)->Q b H'
 | .er c Γ'=>∀H' Fs',Same H H'->EnvOk K He O Fs' H' U Γ'->W c U H'
 | .no=>False
abbrev FB:=Ev->Out Bool
def tT (K:Fg) (W:XW) (f:FB):TT:=fun U H Q=>∃He O Fs Γ,EnvOk K He O Fs H U Γ/\WantsB K W He O Fs H U Q (f Γ)
section
variable {K:Fg} {W:XW} {He H H1:Hp} {O:List Addr} {Fs Fs1:List (List Addr)} {U:St} {Γ Γ':Ev} {Q:VK} {QB:Bool->Hp->Prop}
theorem Wants.after {o:Out PV} (h:Wants K W He O Fs H U Q o) (s:Same H H1) (n:∀a∈Fs1.flatten,a∈Fs.flatten\/H a=none):Wants K W He O Fs1 H1 U Q o:=by
 cases o with
 | ok p Γ'=>exact fun v H' G Fs' A=>h v H' G Fs' ⟨s.trans A.same,A.env,fun a ha=>(A.new a ha).elim (n a) fun z=>.inr (s.free z),A.own⟩
 | er c Γ'=>exact fun H' Fs' e E=>h H' Fs' (s.trans e) E
 | no=>exact h
theorem WantsB.after {o:Out Bool} (h:WantsB K W He O Fs H U QB o) (s:Same H H1) (n:∀a∈Fs1.flatten,a∈Fs.flatten\/H a=none):WantsB K W He O Fs1 H1 U QB o:=by
 cases o with
 | ok p Γ'=>exact fun H' Fs' e E n'=>h H' Fs' (s.trans e) E fun a ha=>(n' a ha).elim (n a) fun z=>.inr (s.free z)
 | er c Γ'=>exact fun H' Fs' e E=>h H' Fs' (s.trans e) E
 | no=>exact h
theorem Aft.go {p:PV} {v:V} (A:Aft K He O Fs H U Γ' p v H1 G Fs1):EnvOk K He O Fs1 H1 U Γ':=A.env.dropL
theorem Aft.newF {p:PV} {v:V} (A:Aft K He O Fs H U Γ' p v H1 G Fs1):∀a∈Fs1.flatten,a∈Fs.flatten\/H a=none:=fun a ha=>A.new a (LR _ ha)
end
section
variable {K:Fg} {W:XW} {U:St} {H:Hp} {Q:VK} {QB:Bool->Hp->Prop} {fa fb fc:F1} {ga gb:FB}
def aF (g:D->Option Bool) (f:F1):FB:=fun Γ=>(f Γ).bind fun p Γ'=>match g p.d with
 | some b=>.ok b Γ'
 | none=>.no
theorem oJ {g:D->Option Bool} {R:VK} (h:tT K W (aF g fa) U H QB) (hR:∀v d b H1,Rep K H1 v d->g d=some b->QB b H1->R v H1):tE K W fa U H R:=by
 obtain ⟨He,O,Fs,Γ,E,h⟩:=h;refine ⟨He,O,Fs,Γ,E,?_⟩
 unfold aF at h
 cases e:fa Γ with
 | ok p Γ'=>
  rw [e] at h;intro v H' G Fs' A
  have h:WantsB K W He O Fs H U QB (match g p.d with | some b=>.ok b Γ' | none=>.no):=h
  cases e2:g p.d with
  | some b=>
   rw [e2] at h;exact hR v p.d b H' A.own.rep e2 (h H' Fs' A.same A.go A.newF)
  | none=>rw [e2] at h;exact h.elim
 | er c Γ'=>rw [e] at h;exact h
 | no=>rw [e] at h;exact h
def ao:D->Option Bool
 | .bool b=>some b
 | _=>none
theorem oW {t:TE} (hi:∀Q,tE K W fa U H Q->t U H Q) (h:tT K W (aF ao fa) U H QB):tF t U H QB:=by
 refine hi _ (oJ h fun v d b H1 r e q=>?_)
 cases r<;>simp only [ao] at e<;>try cases e
 exact ⟨_,rfl,q⟩
def bt:D->Option Bool
 | .none=>some false
 | .bool b=>some b
 | .int i=>some (i != 0)
 | .str x=>if x.length<=sizeLine then some ((x.length:Int) != 0) else none
 | .list xs=>some (!xs.isEmpty)
 | .tuple xs=>some (!xs.isEmpty)
 | .dict _=>none
theorem t9 (h:tT K W (aF bt fa) U H QB):tE K W fa U H fun x H'=>∃k,zj K x H' k/\QB k H':=by
 refine oJ h fun v d b H1 r e q=>?_
 cases r with
 | non=>cases e;exact ⟨_,rfl,q⟩
 | bl c=>cases e;exact ⟨_,rfl,q⟩
 | int i=>cases e;exact ⟨_,rfl,q⟩
 | str x=>
  simp only [bt] at e
  split at e
  ·rename_i z;cases e;exact ⟨_,⟨z,rfl⟩,q⟩
  ·cases e
 | @lst p vs ds hq hl _=>
  cases e;exact ⟨_,.inl ⟨vs,hq,by cases vs<;>cases ds<;>simp_all⟩,q⟩
 | @tup p vs ds hq hl _=>
  cases e;exact ⟨_,.inr (.inl ⟨vs,hq,by cases vs<;>cases ds<;>simp_all⟩),q⟩
def fy (a b:FB):FB:=fun Γ=>(a Γ).bind fun c Γ'=>if c then b Γ' else .ok false Γ'
def fF (a b:FB):FB:=fun Γ=>(a Γ).bind fun c Γ'=>if c then .ok true Γ' else b Γ'
def bT (a:FB):FB:=fun Γ=>(a Γ).bind fun c Γ'=>.ok (!c) Γ'
theorem Iv {k:Bool->Ev->Out Bool} {R:Bool->Hp->Prop} (h:tT K W (fun Γ=>(ga Γ).bind k) U H QB)
  (hk:∀(He:Hp) (O:List Addr) Γ1 b H1 Fs1,Same H H1->EnvOk K He O Fs1 H1 U Γ1->WantsB K W He O Fs1 H1 U QB (k b Γ1)->R b H1):tT K W ga U H R:=by
 obtain ⟨He,O,Fs,Γ,E,h⟩:=h;have h:WantsB K W He O Fs H U QB ((ga Γ).bind k):=h
 refine ⟨He,O,Fs,Γ,E,?_⟩
 cases e:ga Γ with
 | ok b Γ1=>rw [e] at h;exact fun H' Fs' s E' n=>hk He O Γ1 b H' Fs' s E' (WantsB.after (o:=k b Γ1) h s n)
 | er c Γ1=>rw [e] at h;exact h
 | no=>rw [e] at h;exact h
theorem WantsB.now {O:List Addr} {b:Bool} (h:WantsB K W He O Fs H U QB (.ok b Γ)) (E:EnvOk K He O Fs H U Γ):QB b H:=h H Fs (Same.refl _) E fun _ z=>.inl z
theorem xO (h:tT K W (fy ga gb) U H QB):ER (tT K W ga) (tT K W gb) U H QB:=by
 refine Iv h fun He O Γ1 b H1 Fs1 s E w=>?_
 cases b with
 | true=>exact gY ⟨He,O,Fs1,Γ1,E,w⟩
 | false=>exact fI (WantsB.now w E)
theorem uq (h:tT K W (fF ga gb) U H QB):KU (tT K W ga) (tT K W gb) U H QB:=by
 refine Iv h fun He O Γ1 b H1 Fs1 s E w=>?_
 cases b with
 | false=>exact fI ⟨He,O,Fs1,Γ1,E,w⟩
 | true=>exact gY (WantsB.now w E)
theorem o5 (h:tT K W (bT ga) U H QB):EL (tT K W ga) U H QB:=Iv h fun He O Γ1 b H1 Fs1 s E w=>WantsB.now w E
def fm (fa fb:F1):F1:=aU fa fun p Γ=>match p.d with
 | .bool true=>fb Γ
 | .bool false=>.ok ⟨.leaf,.bool false⟩ Γ
 | _=>.no
def vO (fa:F1):F1:=aU fa fun p Γ=>match p.d with
 | .bool b=>.ok ⟨.leaf,.bool (!b)⟩ Γ
 | _=>.no
theorem BG (h:tE K W (fm fa fb) U H Q):zN (tE K W fa) (tE K W fb) U H Q:=by
 refine zr h fun He O Fs Γ1 p v H1 G Fs1 nd A w=>?_
 have r:=A.own.rep
 obtain ⟨s,d⟩:=p
 cases r with
 | bl b=>
  cases b with
  | true=>exact ⟨true,rfl,gY ⟨He,O,Fs1,Γ1,A.go,Wants.after w A.same A.newF⟩⟩
  | false=>exact ⟨false,rfl,fI (Wants.scal w (.bl false) A.same A.env (fun a ha=>LR _ ha) nd A.newF)⟩
 | _=>exact w.elim
theorem Bt (h:tE K W (vO fa) U H Q):zK (tE K W fa) U H Q:=by
 refine zr h fun He O Fs Γ1 p v H1 G Fs1 nd A w=>?_
 have r:=A.own.rep
 obtain ⟨s,d⟩:=p
 cases r with
 | bl b=>exact ⟨b,rfl,Wants.scal w (.bl _) A.same A.env (fun a ha=>LR _ ha) nd A.newF⟩
 | _=>exact w.elim
def FX (c:FB) (fa fb:F1):F1:=fun Γ=>(c Γ).bind fun b Γ'=>if b then fa Γ' else fb Γ'
theorem EZ (h:tE K W (FX ga fa fb) U H Q):KY (tT K W ga) (tE K W fa) (tE K W fb) U H Q:=by
 obtain ⟨He,O,Fs,Γ,E,h⟩:=h;refine ⟨He,O,Fs,Γ,E,?_⟩
 unfold FX at h
 cases e:ga Γ with
 | ok b Γ1=>
  rw [e] at h;intro H' Fs' s E' n
  have h':=Wants.after (o:=if b then fa Γ1 else fb Γ1) h s n
  cases b with
  | true=>exact gY ⟨He,O,Fs',Γ1,E',h'⟩
  | false=>exact fI ⟨He,O,Fs',Γ1,E',h'⟩
 | er c Γ1=>rw [e] at h;exact h
 | no=>rw [e] at h;exact h
def se (g g':D->D->Option D) (fa fb fc:F1):F1:=aU fa fun p=>aU fb fun q=>fun Γ=>match g p.d q.d with
 | some (.bool true)=>if ba q.d then (fc Γ).bind fun z Γ'=>(match g' q.d z.d with | some d=>.ok ⟨.leaf,d⟩ Γ' | none=>.no) else .no
 | some (.bool false)=>.ok ⟨.leaf,.bool false⟩ Γ
 | _=>.no
theorem kT {r r':R2} {g g':D->D->Option D} (hg:GOp K r g) (hg':GOp K r' g') (h:tE K W (se g g' fa fb fc) U H Q):Ir r r' (tE K W fa) (tE K W fb) (tE K W fc) U H Q:=by
 refine Ee h ?_
 intro He O Fs Γ2 p q v u H1 H2 G1 G2 Fs2 nd s1 s2 E new o1 o2 w;have sub:∀a∈O,a∈G2++(G1++O):=fun a ha=>LR _ (LR _ ha)
 have newF:∀a∈Fs2.flatten,a∈Fs.flatten\/H a=none:=fun a ha=>new a (LR _ (LR _ ha))
 cases e:g p.d q.d with
 | none=>rw [e] at w;exact w.elim
 | some d=>
  rw [e] at w;refine hg v u H2 _ p.d q.d d o1.rep o2.rep e fun z s=>?_
  cases s with
  | bl b=>
   cases b with
   | false=>exact ⟨false,rfl,fI (Wants.scal w (.bl false) (s1.trans s2) E sub nd newF)⟩
   | true=>
    refine ⟨true,rfl,gY ?_⟩
    have w:Wants K W He O Fs H U Q (if ba q.d then (fc Γ2).bind fun z Γ'=>(match g' q.d z.d with | some d=>.ok ⟨.leaf,d⟩ Γ' | none=>.no) else .no):=w
    cases hs:ba q.d with
    | false=>rw [hs] at w;exact w.elim
    | true=>
     rw [hs] at w;have w:Wants K W He O Fs H U Q ((fc Γ2).bind fun z Γ'=>(match g' q.d z.d with | some d=>.ok ⟨.leaf,d⟩ Γ' | none=>.no)):=w
     have su:=o2.rep.sc hs
     refine ⟨He,O,Fs2,Γ2,E.drop sub nd,?_⟩
     cases e3:fc Γ2 with
     | ok p3 Γ3=>
      rw [e3] at w;intro v3 H3 G3 Fs3 A3;have w:Wants K W He O Fs H U Q (match g' q.d p3.d with | some d=>.ok ⟨.leaf,d⟩ Γ3 | none=>.no):=w
      cases e4:g' q.d p3.d with
      | none=>rw [e4] at w;exact w.elim
      | some d4=>
       rw [e4] at w;exact hg' u v3 H3 Q q.d p3.d d4 su.rep A3.own.rep e4 fun z s=>Wants.scal w s ((s1.trans s2).trans A3.same) A3.env (fun a ha=>LR _ ha) nd fun a ha=>(A3.new a (LR _ ha)).elim (newF a) fun z=>.inr ((s1.trans s2).free z)
     | er c Γ3=>
      rw [e3] at w;exact fun H' Fs' s E'=>w H' Fs' ((s1.trans s2).trans s) E'
     | no=>rw [e3] at w;exact w
  | non=>exact w.elim
  | int i=>exact w.elim
  | str x=>exact w.elim
end
structure AftL (K:Fg) (He:Hp) (O:List Addr) (Fs:List (List Addr)) (H:Hp) (U:St) (Γ':Ev) (ps:List PV) (vs:List V) (H':Hp) (Gs Fs':List (List Addr)):Prop where
 same:Same H H'
 len1:vs.length=ps.length
 len2:Gs.length=ps.length
 env:EnvOk K He (Gs.flatten++O) Fs' H' U Γ'
 new:∀a∈Gs.flatten++Fs'.flatten,a∈Fs.flatten\/H a=none
 own:∀(i:Nat) v p G,vs[i]?=some v->ps[i]?=some p->Gs[i]?=some G->Own K (Gs.flatten++O++Fs'.flatten) H' p.s G v p.d
abbrev FL:=Ev->Out (List PV)
def wt (K:Fg) (W:XW) (He:Hp) (O:List Addr) (Fs:List (List Addr)) (H:Hp) (U:St) (Q:List V->Hp->Prop) (o:Out (List PV)):Prop:=match o with
 | .ok ps Γ'=>∀vs H' Gs Fs',AftL K He O Fs H U Γ' ps vs H' Gs Fs'->Q vs H'
 | .er c Γ'=>∀H' Fs',Same H H'->EnvOk K He O Fs' H' U Γ'->W c U H'
 | .no=>False
def tA (K:Fg) (W:XW) (f:FL):TA:=fun U H Q=>∃He O Fs Γ,EnvOk K He O Fs H U Γ/\wt K W He O Fs H U Q (f Γ)
def af:FL:=fun Γ=>.ok [] Γ
def ae (fa:F1) (fl:FL):FL:=fun Γ=>(fa Γ).bind fun p Γ1=>(fl Γ1).bind fun ps Γ2=>.ok (p::ps) Γ2
section
variable {K:Fg} {W:XW} {U:St} {H:Hp} {Q:VK} {QL:List V->Hp->Prop} {fa fb:F1} {fl:FL}
theorem Bu (h:tA K W af U H QL):eL U H QL:=by
 obtain ⟨He,O,Fs,Γ,E,h⟩:=h;exact h [] H [] Fs ⟨Same.refl _,rfl,rfl,by simpa using E,fun a ha=>.inl (by simpa using ha),fun i v p G e=>by simp at e⟩
theorem la (A B C:List α):(A++(B++C)).Perm (B++(A++C)):=by
 rw [<-append_assoc,<-append_assoc];exact List.Perm.append_right _ perm_append_comm
theorem EnvOk.perm {H:Hp} {O:List Addr} (E:EnvOk K He O Fs H U Γ) (p:O'.Perm O):EnvOk K He O' Fs H U Γ:=E.drop (fun a ha=>p.mem_iff.mp ha) (p.nodup_iff.mpr E.ndO)
theorem Own.perm {H:Hp} {O:List Addr} {s:Sh} {v:V} {d:D} (h:Own K O H s G v d) (p:∀a∈O',a∈O):Own K O' H s G v d:=h.mono (Same.refl _) fun a ha=>.inl (p a ha)
theorem oZ (h:tA K W (ae fa fl) U H QL):bS (tE K W fa) (tA K W fl) U H QL:=by
 obtain ⟨He,O,Fs,Γ,E,h⟩:=h;refine ⟨He,O,Fs,Γ,E,?_⟩
 unfold ae at h
 cases e:fa Γ with
 | ok p Γ1=>
  rw [e] at h;intro v H1 G1 Fs1 A1;refine ⟨He,G1++O,Fs1,Γ1,A1.env,?_⟩
  have h:wt K W He O Fs H U QL ((fl Γ1).bind fun ps Γ2=>.ok (p::ps) Γ2):=h
  cases e2:fl Γ1 with
  | ok ps Γ2=>
   rw [e2] at h;intro vs H2 Gs Fs2 A2;have pm:((G1::Gs).flatten++O).Perm (Gs.flatten++(G1++O)):=by
    rw [flatten_cons,append_assoc];exact la _ _ _
   refine h (v::vs) H2 (G1::Gs) Fs2 ⟨A1.same.trans A2.same,by simp [A2.len1],by simp [A2.len2],A2.env.perm pm,fun a ha=>?_,fun i u q G h1 h2 h3=>?_⟩
   ·rcases LX ha with z | z
    ·rw [flatten_cons] at z
     rcases LX z with z | z
     ·exact A1.new a (LU _ z)
     ·exact (A2.new a (LU _ z)).elim (fun y=>A1.new a (LR _ y)) fun y=>.inr (A1.same.free y)
    ·exact (A2.new a (LR _ z)).elim (fun y=>A1.new a (LR _ y)) fun y=>.inr (A1.same.free y)
   ·have sub:∀a∈(G1::Gs).flatten++O++Fs2.flatten,a∈Gs.flatten++(G1++O)++Fs2.flatten:=fun a ha=>by
     rcases LX ha with z | z
     ·exact LU _ (pm.mem_iff.mp z)
     ·exact LR _ z
    cases i with
    | zero=>
     simp at h1 h2 h3
     subst h1 h2 h3;refine (A1.own.mono A2.same fun a ha=>?_).perm sub
     rcases LX ha with z | z
     ·rcases LX z with z | z
      ·exact (A2.new a (LU _ z)).elim (fun y=>.inl (LR _ y)) .inr
      ·exact .inl (LU _ z)
     ·exact (A2.new a (LR _ z)).elim (fun y=>.inl (LR _ y)) .inr
    | succ i=>
     simp at h1 h2 h3
     exact (A2.own i u q G h1 h2 h3).perm sub
  | er c Γ2=>
   rw [e2] at h;exact fun H2 Fs2 s E2=>h H2 Fs2 (A1.same.trans s) E2.dropL
  | no=>rw [e2] at h;exact h
 | er c Γ1=>rw [e] at h;exact h
 | no=>rw [e] at h;exact h
theorem AftL.reps {O:List Addr} {Gs:List (List Addr)} {ps:List PV} (A:AftL K He O Fs H U Γ' ps vs H' Gs Fs'):Reps K H' vs (ps.map (·.d)):=by
 refine ⟨by rw [length_map];exact A.len1,fun i v d h1 h2=>?_⟩
 rw [getElem?_map] at h2
 cases e:ps[i]? with
 | none=>rw [e] at h2;cases h2
 | some p=>
  rw [e] at h2
  cases h2;have hi:=(L7 e).1
  exact (A.own i v p (Gs[i]'(by rw [A.len2];exact hi)) h1 e (L0 _)).rep
def bh (g:List D->Option D) (fl:FL):F1:=fun Γ=>(fl Γ).bind fun ps Γ'=>match g (ps.map (·.d)) with
 | some d=>.ok ⟨.leaf,d⟩ Γ'
 | none=>.no
def GCall (K:Fg) (r:List V->Hp->VK->Prop) (g:List D->Option D):Prop:=∀vs H Q ds d,Reps K H vs ds->g ds=some d->(∀v,Sc v d->Q v H)->r vs H Q
theorem o4 {r:List V->Hp->VK->Prop} {g:List D->Option D} (hg:GCall K r g) (h:tE K W (bh g fl) U H Q):xo r (tA K W fl) U H Q:=by
 obtain ⟨He,O,Fs,Γ,E,h⟩:=h;refine ⟨He,O,Fs,Γ,E,?_⟩
 unfold bh at h
 cases e:fl Γ with
 | ok ps Γ'=>
  rw [e] at h;intro vs H' Gs Fs' A
  have h:Wants K W He O Fs H U Q (match g (ps.map (·.d)) with | some d=>.ok ⟨.leaf,d⟩ Γ' | none=>.no):=h
  cases e2:g (ps.map (·.d)) with
  | none=>rw [e2] at h;exact h.elim
  | some d=>
   rw [e2] at h;exact hg vs H' Q _ d A.reps e2 fun v s=>Wants.scal h s A.same A.env (fun a ha=>LR _ ha) E.ndO fun a ha=>A.new a (LR _ ha)
 | er c Γ'=>rw [e] at h;exact h
 | no=>rw [e] at h;exact h
theorem GCall.or {r r':List V->Hp->VK->Prop} {g g':List D->Option D} (h:GCall K r g) (h':GCall K r' g'):GCall K (fun xs H Q=>r xs H Q\/r' xs H Q) (fun ds=>(g ds).or (g' ds)):=by
 intro vs H Q ds d rs e k;have e:(g ds).or (g' ds)=some d:=e
 cases e1:g ds with
 | some z=>rw [e1] at e;cases e;exact .inl (h vs H Q ds _ rs e1 k)
 | none=>rw [e1] at e;exact .inr (h' vs H Q ds d rs (by simpa using e) k)
theorem Reps.one {d:D} (h:Reps K H vs [d]):∃v,vs=[v]/\Rep K H v d:=by
 obtain ⟨hl,h⟩:=h;match vs,hl with
 | [v],_=>exact ⟨v,rfl,h 0 v d rfl rfl⟩
theorem Reps.two {d e:D} (h:Reps K H vs [d,e]):∃v u,vs=[v,u]/\Rep K H v d/\Rep K H u e:=by
 obtain ⟨hl,h⟩:=h;match vs,hl with
 | [v,u],_=>exact ⟨v,u,rfl,h 0 v d rfl rfl,h 1 u e rfl rfl⟩
end
def Ah:List D->Option D
 | [.list xs]=>some (.int xs.length)
 | [.tuple xs]=>some (.int xs.length)
 | _=>none
def vD:List D->Option D
 | [.str x]=>if x.length<=sizeLine then some (.int x.length) else none
 | _=>none
abbrev aM:List D->Option D:=fun ds=>(Ah ds).or (vD ds)
theorem CV:GCall K (fun xs H Q=>(∃p ys,xs=[.ref p]/\(SqL K H p ys\/SqT K H p ys)/\Q (.int ys.length) H)\/∃z,xs=[.str z]/\z.length<=sizeLine/\Q (.int z.length) H) aM:=by
 refine GCall.or (g:=Ah) (g':=vD) (r:=fun xs H Q=>∃p ys,xs=[.ref p]/\(SqL K H p ys\/SqT K H p ys)/\Q (.int ys.length) H) (r':=fun xs H Q=>∃z,xs=[.str z]/\z.length<=sizeLine/\Q (.int z.length) H) ?_ ?_
 ·intro vs H Q ds d rs e k
  match ds,e with
  | [.list xs],e=>
   obtain ⟨v,rfl,r⟩:=rs.one
   cases e
   cases r with
   | @lst p us _ hq hl _=>exact ⟨p,us,rfl,.inl hq,by rw [hl];exact k _ (.int _)⟩
  | [.tuple xs],e=>
   obtain ⟨v,rfl,r⟩:=rs.one
   cases e
   cases r with
   | @tup p us _ hq hl _=>exact ⟨p,us,rfl,.inr hq,by rw [hl];exact k _ (.int _)⟩
 ·intro vs H Q ds d rs e k
  match ds,e with
  | [.str x],e=>
   obtain ⟨v,rfl,r⟩:=rs.one;simp only [vD] at e
   split at e
   ·rename_i z
    cases e
    cases r;exact ⟨x,rfl,z,k _ (.int _)⟩
   ·cases e
def vE:List D->Option D
 | [.int i]=>some (.int i)
 | [.bool b]=>some (.int (if b then 1 else 0))
 | _=>none
theorem CW:GCall K (fun xs H Q=>(∃i,xs=[.int i]/\Q (.int i) H)\/∃k,xs=[.bl k]/\Q (.int (if k then 1 else 0)) H) vE:=by
 intro vs H Q ds d rs e k;match ds,e with
 | [.int i],e=>
  obtain ⟨v,rfl,r⟩:=rs.one
  cases e;cases r;exact .inl ⟨i,rfl,k _ (.int _)⟩
 | [.bool b],e=>
  obtain ⟨v,rfl,r⟩:=rs.one
  cases e;cases r;exact .inr ⟨b,rfl,k _ (.int _)⟩
def LI:List D->Option D
 | [.int i,.int j]=>some (.int (if j>i then j else i))
 | _=>none
def mS:List D->Option (List Bool)
 | []=>some []
 | .bool b::r=>(mS r).map (b :: ·)
 | _=>none
theorem Ht:∀{ds:List D} {bs:List Bool},mS ds=some bs->ds=bs.map PyData.bool
 | [],bs,h=>by cases h;rfl
 | .bool b::r,bs,h=>by
  simp only [mS] at h
  cases e:mS r with
  | none=>rw [e] at h;cases h
  | some cs=>rw [e] at h;cases h;rw [Ht e];rfl
 | .none::_,_,h=>by cases h
 | .int _::_,_,h=>by cases h
 | .str _::_,_,h=>by cases h
 | .list _::_,_,h=>by cases h
 | .tuple _::_,_,h=>by cases h
 | .dict _::_,_,h=>by cases h
def cC (any:Bool):List D->Option D
 | [.list xs]=>(mS xs).map fun bs=>.bool (if any then bs.any id else bs.all id)
 | _=>none
theorem Hw {K:Fg} {H:Hp}:∀{vs:List V} {bs:List Bool},Reps K H vs (bs.map PyData.bool)->vs=bs.map V.bl
 | [],[],_=>rfl
 | v::vs,b::bs,⟨hl,h⟩=>by
  have r:=h 0 v (.bool b) rfl rfl
  cases r;rw [Hw (bs:=bs) (vs:=vs) ⟨by simpa using hl,fun i v d h1 h2=>h (i+1) v d (by simpa using h1) (by simpa using h2)⟩]
  rfl
 | [],_::_,⟨hl,_⟩=>by simp at hl
 | _::_,[],⟨hl,_⟩=>by simp at hl
def BO (K:Fg) (any:Bool):List V->Hp->VK->Prop:=fun xs H Q=>∃(p:Addr) (bs:List Bool),xs=[.ref p]/\SqL K H p (bs.map V.bl)/\Q (.bl (if any then bs.any id else bs.all id)) H
theorem vC {any:Bool}:GCall K (BO K any) (cC any):=by
 intro vs H Q ds d rs e k;match ds,e with
 | [.list xs],e=>
  obtain ⟨v,rfl,r⟩:=rs.one;simp only [cC] at e
  cases eb:mS xs with
  | none=>rw [eb] at e;cases e
  | some bs=>
   rw [eb] at e
   cases e;have:=Ht eb
   subst this
   cases r with
   | @lst p us _ hq hl hr=>
    have:=Hw ⟨hl,hr⟩
    subst this;exact ⟨p,bs,rfl,hq,k _ (.bl _)⟩
section
variable {X:Cx}
theorem jm:∀{its:List Value},Vals (bs.map V.bl) its->its=bs.map Value.bool:=by
 induction bs with
 | nil=>intro its h;cases h;rfl
 | cons b bs ih=>
  intro its h
  cases h with
  | cons r t=>
   cases (show _=Value.bool b from r)
   rw [ih t];rfl
theorem qr (bs:List Bool):(List.range bs.length).all (fun i=>bs.getD i false)=bs.all id:=by
 rw [Bool.eq_iff_iff,all_eq_true,all_eq_true];constructor
 ·intro h b hb
  obtain ⟨i,hi,e⟩:=List.mem_iff_getElem.mp hb;have:=h i (List.mem_range.mpr hi)
  rw [L1,L0 hi] at this;rw [<-e];simpa using this
 ·intro h i hi
  have hi:=List.mem_range.mp hi
  rw [L1,L0 hi];exact h _ (getElem_mem hi)
theorem qq (bs:List Bool):(List.range bs.length).any (fun i=>bs.getD i false)=bs.any id:=by
 rw [Bool.eq_iff_iff,any_eq_true,any_eq_true];constructor
 ·rintro ⟨i,hi,h⟩
  have hi:=List.mem_range.mp hi
  rw [L1,L0 hi] at h;exact ⟨_,getElem_mem hi,h⟩
 ·rintro ⟨b,hb,h⟩
  obtain ⟨i,hi,e⟩:=List.mem_iff_getElem.mp hb;refine ⟨i,List.mem_range.mpr hi,?_⟩
  rw [L1,L0 hi,e];exact h
theorem fP {prog:Program} {w:World}:TruthOf prog w A (fun i v=>(bs.map Value.bool).toArray[i]?=some v) (fun i=>bs.getD i false):=by
 intro i v s Q E hP hQ;simp only [List.getElem?_toArray,getElem?_map] at hP
 cases e:bs[i]? with
 | none=>rw [e] at hP;cases hP
 | some b=>
  rw [e] at hP
  cases hP;have hQ:Q (bs.getD i false) s:=hQ
  rw [L1,e] at hQ;exact wpAny_truthy_bool hQ
theorem rW (hc:X.calm=true):CallR X (.builtin "all") (BO X.K false):=by
 intro pins s U H vs us Q I rv h;obtain ⟨p,bs,rfl,hq,q⟩:=h;obtain ⟨u,rfl,ru⟩:=vals1 rv
 cases ru;obtain ⟨its,rv,pl,hz⟩:=I.list hq;have:=jm rv
 subst this;have hd:=I.ok.hd hc
 refine call_all_walk (wpAny_pyIter_list pl.isList ?_)
 have ne:p≠s.heap.objs.size:=by
  obtain ⟨o,n,e,_⟩:=pl;exact Nat.ne_of_lt (Heap.lt_size e)
 refine ⟨s.heap.objs.size,_,_,_,_,_,fun i=>bs.getD i false,rfl,Walks.list (prog:=X.prog) (w:=X.w) (A:=X.A.in1) hd s.heap.objs.size p ne (bs.map Value.bool).toArray,⟨⟨_,Heap.get?_push_size _ rfl,rfl,rfl⟩,pl.isList.at fun o e=>Ma _ e⟩,fP,fun h' tk hk=>?_⟩
 refine ⟨.bl _,H,I.kept (h':=h') (t':=tk) fun b o e=>hk b o (fun z=>?_) (Ma _ e),rfl,?_⟩
 ·have z:b=s.heap.objs.size:=by simpa using z
  exact absurd (Heap.lt_size e) (by rw [z];exact Nat.lt_irrefl _)
 ·rw [size_toArray,length_map,qr]
  exact q
theorem rV (hc:X.calm=true):CallR X (.builtin "any") (BO X.K true):=by
 intro pins s U H vs us Q I rv h;obtain ⟨p,bs,rfl,hq,q⟩:=h;obtain ⟨u,rfl,ru⟩:=vals1 rv
 cases ru;obtain ⟨its,rv,pl,hz⟩:=I.list hq;have:=jm rv
 subst this;have hd:=I.ok.hd hc
 refine call_any_walk (wpAny_pyIter_list pl.isList ?_)
 have ne:p≠s.heap.objs.size:=by
  obtain ⟨o,n,e,_⟩:=pl;exact Nat.ne_of_lt (Heap.lt_size e)
 refine ⟨s.heap.objs.size,_,_,_,_,_,fun i=>bs.getD i false,rfl,Walks.list (prog:=X.prog) (w:=X.w) (A:=X.A.in1) hd s.heap.objs.size p ne (bs.map Value.bool).toArray,⟨⟨_,Heap.get?_push_size _ rfl,rfl,rfl⟩,pl.isList.at fun o e=>Ma _ e⟩,fP,fun h' tk hk=>?_⟩
 refine ⟨.bl _,H,I.kept (h':=h') (t':=tk) fun b o e=>hk b o (fun z=>?_) (Ma _ e),rfl,?_⟩
 ·have z:b=s.heap.objs.size:=by simpa using z
  exact absurd (Heap.lt_size e) (by rw [z];exact Nat.lt_irrefl _)
 ·rw [size_toArray,length_map,qq]
  exact q
end
def mO (s:Sh) (j:Nat) (d:D):Option Sh:=match s with
 | .leaf=>some .leaf
 | .view=>some (if ba d then .leaf else .view)
 | .lst s=>some s
 | .tup ss=>ss[j]?
def ag (fa fb:F1):F1:=aU fa fun p=>aU fb fun q=>fun Γ=>match q.d with
 | .int i=>(match p.d with
  | .list ds=>(match dI ds.length i with
   | some j=>(match ds[j]? with
    | some d=>(match mO p.s j d with
     | some s=>.ok ⟨s,d⟩ Γ
     | none=>.no)
    | none=>.no)
   | none=>.no)
  | .tuple ds=>(match dI ds.length i with
   | some j=>(match ds[j]? with
    | some d=>(match mO p.s j d with
     | some s=>.ok ⟨s,d⟩ Γ
     | none=>.no)
    | none=>.no)
   | none=>.no)
  | .str z=>if z.length<=sizeLine then (match d6 z.cps.toList i with
   | some c=>.ok ⟨.leaf,.str ⟨#[c]⟩⟩ Γ
   | none=>.no) else .no
  | _=>.no)
 | _=>.no
theorem Own.item {O:List Addr} {H:Hp} {s:Sh} {p:Addr} {ds:List D} {j:Nat} {d:D} (h:Own K O H s G (.ref p) (.list ds)) (hd:ds[j]?=some d) (hs:mO s j d=some s') :
  ∃vs v G',SqL K H p vs/\vs.length=ds.length/\vs[j]?=some v/\(∀a∈G',a∈G)/\G'.Nodup/\Own K O H s' G' v d:=by
 have hi:=(L7 hd).1
 cases h with
 | view r=>
  cases r with
  | @lst _ vs _ hq hl hr=>
   have hv:vs[j]?=some (vs[j]'(by omega)):=L0 _
   have r':=hr j _ d hv hd
   simp only [mO,Option.some.injEq] at hs
   cases e:ba d with
   | true=>
    rw [e] at hs
    cases hs;exact ⟨vs,_,[],hq,hl,hv,(fun _ z=>nomatch z),nodup_nil,.leaf (r'.sc e).rep⟩
   | false=>
    rw [e] at hs
    cases hs;exact ⟨vs,_,[],hq,hl,hv,(fun _ z=>nomatch z),nodup_nil,.view r'⟩
 | leaf r=>
  cases r with
  | @lst _ vs _ hq hl hr=>
   have hv:vs[j]?=some (vs[j]'(by omega)):=L0 _
   cases hs;exact ⟨vs,_,[],hid_le.seq hq,hl,hv,(fun _ z=>nomatch z),nodup_nil,.leaf (hr j _ d hv hd)⟩
 | @lst s₀ _ vs _ Fs hv hp hl hf nd hr=>
  have hv':vs[j]?=some (vs[j]'(by omega)):=L0 _
  have hF:Fs[j]?=some (Fs[j]'(by omega)):=L0 _
  cases hs;refine ⟨vs,_,_,.of hp,hl,hv',fun a ha=>L5 _ (ik hF ha),?_,hr j _ d _ hv' hd hF⟩
  exact ((List.nodup_cons.mp nd).2).sublist (List.sublist_flatten_of_mem (mem_of_getElem? hF))
theorem Own.itemT {O:List Addr} {H:Hp} {s:Sh} {p:Addr} {ds:List D} {j:Nat} {d:D} (h:Own K O H s G (.ref p) (.tuple ds)) (hd:ds[j]?=some d) (hs:mO s j d=some s') :
  ∃vs v G',SqT K H p vs/\vs.length=ds.length/\vs[j]?=some v/\(∀a∈G',a∈G)/\G'.Nodup/\Own K O H s' G' v d:=by
 have hi:=(L7 hd).1
 cases h with
 | view r=>
  cases r with
  | @tup _ vs _ hq hl hr=>
   have hv:vs[j]?=some (vs[j]'(by omega)):=L0 _
   have r':=hr j _ d hv hd
   simp only [mO,Option.some.injEq] at hs
   cases e:ba d with
   | true=>
    rw [e] at hs
    cases hs;exact ⟨vs,_,[],hq,hl,hv,(fun _ z=>nomatch z),nodup_nil,.leaf (r'.sc e).rep⟩
   | false=>
    rw [e] at hs
    cases hs;exact ⟨vs,_,[],hq,hl,hv,(fun _ z=>nomatch z),nodup_nil,.view r'⟩
 | leaf r=>
  cases r with
  | @tup _ vs _ hq hl hr=>
   have hv:vs[j]?=some (vs[j]'(by omega)):=L0 _
   cases hs;exact ⟨vs,_,[],pQ hid_le hq,hl,hv,(fun _ z=>nomatch z),nodup_nil,.leaf (hr j _ d hv hd)⟩
 | @tup ss _ vs _ Fs hv hp hn hl hf hl2 nd hr=>
  have hv':vs[j]?=some (vs[j]'(by omega)):=L0 _
  have hF:Fs[j]?=some (Fs[j]'(by omega)):=L0 _
  have hs:ss[j]?=some s':=hs
  refine ⟨vs,_,_,.of hp,hl,hv',fun a ha=>ik hF ha,?_,hr j _ d _ _ hv' hd hF hs⟩
  exact nd.sublist (List.sublist_flatten_of_mem (mem_of_getElem? hF))
theorem Wants.part {W:XW} {H:Hp} {O G':List Addr} {Q:VK} {s:Sh} {v:V} {d:D} (h:Wants K W He O Fs H U Q (.ok ⟨s,d⟩ Γ')) (e:Same H H2)
  (E:EnvOk K He (G++O) Fs2 H2 U Γ') (sub:∀a∈G',a∈G) (nd:G'.Nodup) (new:∀a∈G++Fs2.flatten,a∈Fs.flatten\/H a=none) (o:Own K (G++O++Fs2.flatten) H2 s G' v d):Q v H2:=by
 have sub2:∀a∈G'++O,a∈G++O:=fun a ha=>by
  rcases LX ha with z | z
  ·exact LU _ (sub a z)
  ·exact LR _ z
 obtain ⟨n1,n2,n3⟩:=L6 E.ndO;refine h v H2 G' Fs2 ⟨e,E.drop sub2 (List.nodup_append.mpr ⟨nd,n2,fun a ha b hb=>n3 a (sub a ha) b hb⟩),fun a ha=>new a ?_,o.perm fun a ha=>?_⟩
 ·rcases LX ha with z | z
  ·exact LU _ (sub a z)
  ·exact LR _ z
 ·rcases LX ha with z | z
  ·exact LU _ (sub2 a z)
  ·exact LR _ z
theorem Ih {β:Type} {xs:List α} {ys:List β} {i:Int} {j:Nat} {v:α} (hl:xs.length=ys.length) (h:dI ys.length i=some j) (hv:xs[j]?=some v):d6 xs i=some v:=by
 unfold d6;rw [hl,h];exact hv
section
variable {K:Fg} {W:XW} {U:St} {H:Hp} {Q:VK} {fa fb:F1}
theorem Bz (h:tE K W (ag fa fb) U H Q):tK (zW K) (tE K W fa) (tE K W fb) U H Q:=by
 refine Ee h ?_
 intro He O Fs Γ2 p q v u H1 H2 G1 G2 Fs2 nd s1 s2 E new o1 o2 w;obtain ⟨ps,pd⟩:=p;obtain ⟨qs,qd⟩:=q;have ri:=o2.rep
 cases qd<;>try exact w.elim
 rename_i i
 cases ri;have E':EnvOk K He ((G2++G1)++O) Fs2 H2 U Γ2:=by rw [append_assoc];exact E
 have new':∀a∈(G2++G1)++Fs2.flatten,a∈Fs.flatten\/H a=none:=fun a ha=>new a (by rw [<-append_assoc];exact ha)
 have o1':Own K ((G2++G1)++O++Fs2.flatten) H2 ps G1 v pd:=o1.perm fun a ha=>by rw [append_assoc G2] at ha;exact ha
 have rp:=o1.rep
 cases pd with
 | list ds=>
  obtain ⟨p0,rfl⟩:∃p0,v=.ref p0:=by cases rp;exact ⟨_,rfl⟩
  have w:Wants K W He O Fs H U Q (match dI ds.length i with | some j=>(match ds[j]? with | some d=>(match mO ps j d with | some s=>.ok ⟨s,d⟩ Γ2 | none=>.no) | none=>.no) | none=>.no):=w
  cases e1:dI ds.length i with
  | none=>rw [e1] at w;exact w.elim
  | some j=>
   rw [e1] at w;have w:Wants K W He O Fs H U Q (match ds[j]? with | some d=>(match mO ps j d with | some s=>.ok ⟨s,d⟩ Γ2 | none=>.no) | none=>.no):=w
   cases e2:ds[j]? with
   | none=>rw [e2] at w;exact w.elim
   | some d=>
    rw [e2] at w;have w:Wants K W He O Fs H U Q (match mO ps j d with | some s=>.ok ⟨s,d⟩ Γ2 | none=>.no):=w
    cases e3:mO ps j d with
    | none=>rw [e3] at w;exact w.elim
    | some s=>
     rw [e3] at w;obtain ⟨vs,v',G',h1,h2,h3,h4,h5,h6⟩:=o1'.item e2 e3
     exact .inl ⟨p0,vs,i,v',rfl,rfl,h1,Ih h2 e1 h3,Wants.part w (s1.trans s2) E' (fun a ha=>LR _ (h4 a ha)) h5 new' h6⟩
 | tuple ds=>
  obtain ⟨p0,rfl⟩:∃p0,v=.ref p0:=by cases rp;exact ⟨_,rfl⟩
  have w:Wants K W He O Fs H U Q (match dI ds.length i with | some j=>(match ds[j]? with | some d=>(match mO ps j d with | some s=>.ok ⟨s,d⟩ Γ2 | none=>.no) | none=>.no) | none=>.no):=w
  cases e1:dI ds.length i with
  | none=>rw [e1] at w;exact w.elim
  | some j=>
   rw [e1] at w;have w:Wants K W He O Fs H U Q (match ds[j]? with | some d=>(match mO ps j d with | some s=>.ok ⟨s,d⟩ Γ2 | none=>.no) | none=>.no):=w
   cases e2:ds[j]? with
   | none=>rw [e2] at w;exact w.elim
   | some d=>
    rw [e2] at w;have w:Wants K W He O Fs H U Q (match mO ps j d with | some s=>.ok ⟨s,d⟩ Γ2 | none=>.no):=w
    cases e3:mO ps j d with
    | none=>rw [e3] at w;exact w.elim
    | some s=>
     rw [e3] at w;obtain ⟨vs,v',G',h1,h2,h3,h4,h5,h6⟩:=o1'.itemT e2 e3
     exact .inr (.inl ⟨p0,vs,i,v',rfl,rfl,h1,Ih h2 e1 h3,Wants.part w (s1.trans s2) E' (fun a ha=>LR _ (h4 a ha)) h5 new' h6⟩)
 | str z=>
  cases rp;have w:Wants K W He O Fs H U Q (if z.length<=sizeLine then (match d6 z.cps.toList i with | some c=>.ok ⟨.leaf,.str ⟨#[c]⟩⟩ Γ2 | none=>.no) else .no):=w
  by_cases hz:z.length<=sizeLine
  ·rw [if_pos hz] at w
   cases e1:d6 z.cps.toList i with
   | none=>rw [e1] at w;exact w.elim
   | some c=>
    rw [e1] at w;exact .inr (.inr ⟨z,i,c,rfl,rfl,hz,e1,Wants.scal w (.str _) (s1.trans s2) E (fun a ha=>LR _ (LR _ ha)) nd fun a ha=>new a (LR _ (LR _ ha))⟩)
  ·rw [if_neg hz] at w
   exact w.elim
 | none=>exact w.elim
 | bool b=>exact w.elim
 | int k=>exact w.elim
 | dict k=>exact w.elim
end
theorem lL (s:Sh):∀Gs:List (List Addr),((Gs.map (aI s)).flatten).Sublist Gs.flatten
 | []=>List.Sublist.refl _
 | G::Gs=>by
  simp only [map_cons,flatten_cons]
  refine List.Sublist.append ?_ (lL s Gs)
  unfold aI;split
  ·exact List.nil_sublist _
  ·exact List.Sublist.refl _
theorem je:∀Gs:List (List Addr),(Gs.map (aI .leaf)).flatten=[]
 | []=>rfl
 | _::Gs=>by simp only [map_cons,flatten_cons,je Gs];rfl
section
variable {K:Fg} {W:XW} {U:St} {He H H':Hp} {O:List Addr} {Fs Fs' Gs:List (List Addr)} {Γ':Ev} {ps:List PV} {vs:List V} {Q:VK}
theorem AftL.newList {s:Sh} {p:Addr} (A:AftL K He O Fs H U Γ' ps vs H' Gs Fs') (hs:s.isView=false) (hc:ps.all (T.coer s)=true) (hp:H' p=none) :
  Aft K He O Fs H U Γ' ⟨.lst s,.list (ps.map (·.d))⟩ (.ref p) (bo H' p (.lst vs)) (p::(Gs.map (aI s)).flatten) Fs':=by
 obtain ⟨n1,n2,n3⟩:=L6 A.env.ndO;obtain ⟨m1,m2,m3⟩:=L6 A.env.nd;have hsub:=lL s Gs
 have E1:EnvOk K He ((Gs.map (aI s)).flatten++O) Fs' H' U Γ':=A.env.drop (fun a ha=>by
   rcases LX ha with z | z
   ·exact LU _ (hsub.subset z)
   ·exact LR _ z) (List.nodup_append.mpr ⟨n1.sublist hsub,n2,fun a ha b hb=>n3 a (hsub.subset ha) b hb⟩)
 have E2:=E1.hide (G:=[p]) (gN (o:=.lst vs) hp) (by simp) (fun a ha=>by simp at ha;rw [ha];exact hp) (fun a ha=>by simp at ha;rw [ha,da];exact Option.some_ne_none _)
 have pn:∀{a},a∈Gs.flatten++O++Fs'.flatten->a≠p:=fun {a} ha z=>A.env.inH a ha (by rw [z];exact hp)
 refine ⟨A.same.trans (gN hp),E2,fun a ha=>?_,?_⟩
 ·rcases LX ha with z | z
  ·rcases LZ z with z | z
   ·rw [z];exact .inr (A.same.free hp)
   ·exact A.new a (LU _ (hsub.subset z))
  ·exact A.new a (LR _ z)
 ·refine .lst hs da (by rw [length_map];exact A.len1) (by rw [length_map,length_map];exact A.len2) ?_ fun i v d F h1 h2 h3=>?_
  ·refine List.nodup_cons.mpr ⟨fun z=>pn (LU _ (LU _ (hsub.subset z))) rfl,n1.sublist hsub⟩
  ·rw [getElem?_map] at h2 h3
   cases e2:ps[i]? with
   | none=>rw [e2] at h2;cases h2
   | some q=>
    cases e3:Gs[i]? with
    | none=>rw [e3] at h3;cases h3
    | some G=>
     rw [e2] at h2;rw [e3] at h3
     cases h2
     cases h3;have cq:T.coer s q=true:=List.all_eq_true.mp hc q (mem_of_getElem? e2)
     have o1:=(A.own i v q G h1 e2 e3).mono (O':=p::(Gs.flatten++O++Fs'.flatten)) (gN (o:=.lst vs) hp) fun a ha=>by
      rcases LZ ha with z | z
      ·rw [z];exact .inr hp
      ·exact .inl z
     refine o1.coer cq (fun a ha=>?_) fun a ha hO=>?_
     ·rw [append_assoc] at ha
      rcases LX ha with z | z
      ·rcases LZ z with z | z
       ·rw [z];exact mem_cons_self
       ·exact L5 _ (LU _ (LU _ (hsub.subset z)))
      ·rcases LX z with z | z
       ·exact L5 _ (LU _ (LR _ z))
       ·exact L5 _ (LR _ z)
     ·have hG:a∈Gs.flatten:=ik e3 ha
      cases s with
      | leaf=>
       rw [je] at hO;exfalso
       rw [append_assoc] at hO;rcases LX hO with z | z
       ·have z:a=p:=by simpa using z
        exact pn (LU _ (LU _ hG)) z
       ·rcases LX z with z | z
        ·exact n3 a hG a z rfl
        ·exact m3 a (LU _ hG) a z rfl
      | view=>cases hs
      | lst s=>exact ha
      | tup ss=>exact ha
def aV (s:Sh) (fl:FL):F1:=fun Γ=>(fl Γ).bind fun ps Γ'=>if !s.isView&&ps.all (T.coer s)&&decide (ps.length<=sizeLine) then .ok ⟨.lst s,.list (ps.map (·.d))⟩ Γ' else .no
theorem oY {s:Sh} (h:tE K W (aV s fl) U H Q):Bc (tA K W fl) U H Q:=by
 obtain ⟨He,O,Fs,Γ,E,h⟩:=h;refine ⟨He,O,Fs,Γ,E,?_⟩
 unfold aV at h
 cases e:fl Γ with
 | ok ps Γ'=>
  rw [e] at h;intro vs H' Gs Fs' A
  have h:Wants K W He O Fs H U Q (if (!s.isView&&ps.all (T.coer s)&&decide (ps.length<=sizeLine))=true then .ok ⟨.lst s,.list (ps.map (·.d))⟩ Γ' else .no):=h
  by_cases hc:(!s.isView&&ps.all (T.coer s)&&decide (ps.length<=sizeLine))=true
  ·rw [if_pos hc] at h
   simp only [Bool.and_eq_true,decide_eq_true_eq,Bool.not_eq_true'] at hc
   exact ⟨by rw [A.len1];exact hc.2,fun p hp=>h _ _ _ _ (A.newList hc.1.1 hc.1.2 hp)⟩
  ·rw [if_neg hc] at h
   exact h.elim
 | er c Γ'=>rw [e] at h;exact h
 | no=>rw [e] at h;exact h
def xk (p:PV):Sh:=if p.s.isView then .leaf else p.s
def tok (p:PV):Bool:=!p.s.isView||ba p.d
theorem AftL.newTup {p:Addr} (A:AftL K He O Fs H U Γ' ps vs H' Gs Fs') (hc:ps.all tok=true) (hp:H' p=none) :
  Aft K He O Fs H U Γ' ⟨.tup (ps.map xk),.tuple (ps.map (·.d))⟩ (.ref p) (bo H' p (.tup vs)) Gs.flatten Fs':=by
 obtain ⟨n1,n2,n3⟩:=L6 A.env.ndO;have pn:p∉Gs.flatten++O++Fs'.flatten:=fun ha=>A.env.inH p ha hp
 refine ⟨A.same.trans (gN hp),A.env.grow (gN hp),A.new,?_⟩
 refine .tup (fun s hs=>?_) da pn (by rw [length_map];exact A.len1) (by rw [length_map];exact A.len2) (by rw [length_map,length_map]) n1 fun i v d F s h1 h2 h3 h4=>?_
 ·obtain ⟨q,_,rfl⟩:=List.mem_map.mp hs
  unfold xk;split
  ·rfl
  ·rename_i z;simpa using z
 ·rw [getElem?_map] at h2 h4
  cases e2:ps[i]? with
  | none=>rw [e2] at h2;cases h2
  | some q=>
   rw [e2] at h2 h4
   cases h2
   cases h4;have cq:tok q=true:=List.all_eq_true.mp hc q (mem_of_getElem? e2)
   have o1:=(A.own i v q F h1 e2 h3).mono (O':=Gs.flatten++O++Fs'.flatten) (gN (o:=.tup vs) hp) fun a ha=>.inl ha
   unfold xk
   cases hv:q.s.isView with
   | false=>exact o1
   | true=>
    unfold tok at cq;rw [hv] at cq;obtain ⟨s,d⟩:=q
    cases s with
    | view=>
     cases o1 with
     | view r=>exact .leaf (r.sc (by simpa using cq)).rep
    | _=>cases hv
def bI (fl:FL):F1:=fun Γ=>(fl Γ).bind fun ps Γ'=>if ps.all tok&&decide (ps.length<=sizeLine) then .ok ⟨.tup (ps.map xk),.tuple (ps.map (·.d))⟩ Γ' else .no
theorem Br (h:tE K W (bI fl) U H Q):A9 (tA K W fl) U H Q:=by
 obtain ⟨He,O,Fs,Γ,E,h⟩:=h;refine ⟨He,O,Fs,Γ,E,?_⟩
 unfold bI at h
 cases e:fl Γ with
 | ok ps Γ'=>
  rw [e] at h;intro vs H' Gs Fs' A
  have h:Wants K W He O Fs H U Q (if (ps.all tok&&decide (ps.length<=sizeLine))=true then .ok ⟨.tup (ps.map xk),.tuple (ps.map (·.d))⟩ Γ' else .no):=h
  by_cases hc:(ps.all tok&&decide (ps.length<=sizeLine))=true
  ·rw [if_pos hc] at h
   simp only [Bool.and_eq_true,decide_eq_true_eq] at hc
   exact ⟨by rw [A.len1];exact hc.2,fun p hp=>h _ _ _ _ (A.newTup hc.1 hp)⟩
  ·rw [if_neg hc] at h
   exact h.elim
 | er c Γ'=>rw [e] at h;exact h
 | no=>rw [e] at h;exact h
end
def dj (p:PV) (ds:List D):Bool:=!p.s.isView||ds.all ba
theorem Own.items {O:List Addr} {H:Hp} {s:Sh} {v:V} {ds:List D} (h:Own K O H s G v (.list ds)) (hc:dj ⟨s,.list ds⟩ ds=true) (h1:∀a∈O',a∈O) (h2:∀a∈G,a∉O') :
  ∃p vs,v=.ref p/\SqL K H p vs/\(s.isView=false->SqL K (bM H O') p vs)/\Reps K (bM H O') vs ds:=by
 have hr:=h.rep
 cases hv:s.isView with
 | false=>
  have r:=h.freeze hv h1 h2
  cases r with
  | @lst p vs _ hq hl hr=>exact ⟨p,vs,rfl,hid_le.seq hq,fun _=>hq,hl,hr⟩
 | true=>
  unfold dj at hc;have hc:ds.all ba=true:=by simpa [hv] using hc
  cases hr with
  | @lst p vs _ hq hl hr=>exact ⟨p,vs,rfl,hq,nofun,hl,fun i v d e1 e2=>((hr i v d e1 e2).sc (List.all_eq_true.mp hc d (mem_of_getElem? e2))).rep⟩
theorem Own.itemsT {O:List Addr} {H:Hp} {s:Sh} {v:V} {ds:List D} (h:Own K O H s G v (.tuple ds)) (hc:dj ⟨s,.tuple ds⟩ ds=true) (h1:∀a∈O',a∈O) (h2:∀a∈G,a∉O') :
  ∃p vs,v=.ref p/\SqT K H p vs/\(s.isView=false->SqT K (bM H O') p vs)/\Reps K (bM H O') vs ds:=by
 have hr:=h.rep
 cases hv:s.isView with
 | false=>
  have r:=h.freeze hv h1 h2
  cases r with
  | @tup p vs _ hq hl hr=>exact ⟨p,vs,rfl,pQ hid_le hq,fun _=>hq,hl,hr⟩
 | true=>
  unfold dj at hc;have hc:ds.all ba=true:=by simpa [hv] using hc
  cases hr with
  | @tup p vs _ hq hl hr=>exact ⟨p,vs,rfl,hq,nofun,hl,fun i v d e1 e2=>((hr i v d e1 e2).sc (List.all_eq_true.mp hc d (mem_of_getElem? e2))).rep⟩
theorem Er {H:Hp} {O:List Addr} {ds:List D} {p:Addr} (E:EnvOk K He O Fs1 H1 U Γ1) (s:Same H H1) (n:∀a∈Fs1.flatten,a∈Fs.flatten\/H a=none)
  (hr:Reps K (bM H1 (O++Fs1.flatten)) vs ds) (hp:H1 p=none):Aft K He O Fs H U Γ1 ⟨.lst .leaf,.list ds⟩ (.ref p) (bo H1 p (.lst vs)) [p] Fs1:=by
 have E2:=E.hide (G:=[p]) (gN (o:=.lst vs) hp) (by simp) (fun a ha=>by simp at ha;rw [ha];exact hp) (fun a ha=>by simp at ha;rw [ha,da];exact Option.some_ne_none _)
 refine ⟨s.trans (gN hp),E2,fun a ha=>?_,?_⟩
 ·rcases LX ha with z | z
  ·have z:a=p:=by simpa using z
   rw [z];exact .inr (s.free hp)
  ·exact n a z
 ·have fl:(List.replicate ds.length ([]:List Addr)).flatten=[]:=by simp
  have:[p]=p::(List.replicate ds.length ([]:List Addr)).flatten:=by rw [fl]
  rw [this];refine .lst rfl da hr.1 (by simp) (by rw [fl];simp) fun i v d F h1 h2 h3=>?_
  rw [getElem?_replicate] at h3;split at h3
  ·cases h3
   refine .leaf ((hr.2 i v d h1 h2).mono (sk (gN hp) fun a ha=>?_))
   rw [fl] at ha;rcases LX ha with z | z
   ·rcases LX z with z | z
    ·have z:a=p:=by simpa using z
     rw [z];exact .inr hp
    ·exact .inl (LU _ z)
   ·exact .inl (LR _ z)
  ·cases h3
def mT (fa:F1):F1:=aU fa fun p Γ=>match p.d with
 | .list ds=>if dj p ds then .ok ⟨.lst .leaf,.list ds⟩ Γ else .no
 | .tuple ds=>if dj p ds then .ok ⟨.lst .leaf,.list ds⟩ Γ else .no
 | _=>.no
section
variable {K:Fg} {W:XW} {U:St} {H:Hp} {Q:VK} {fa fb:F1}
theorem Aft.disj {O:List Addr} {p:PV} {v:V} (A:Aft K He O Fs H U Γ1 p v H1 G Fs1):∀a∈G,a∉O++Fs1.flatten:=fun a ha z=>by
 have nd:=A.env.nd
 rw [append_assoc] at nd;exact (L6 nd).2.2 a ha a z rfl
theorem iq {O:List Addr}:∀a∈O++F,a∈G++O++F:=fun a ha=>by
 rw [append_assoc];exact LR _ ha
theorem qo (h:tE K W (mT fa) U H Q):xo (fun xs H Q=>∃p ys,xs=[.ref p]/\(SqL K H p ys\/SqT K H p ys)/\∀l,H l=none->Q (.ref l) (bo H l (.lst ys))) (tA K W (ae fa af)) U H Q:=by
 have h1:tE K W fa U H fun x H1=>∃p ys,x=.ref p/\(SqL K H1 p ys\/SqT K H1 p ys)/\∀l,H1 l=none->Q (.ref l) (bo H1 l (.lst ys)):=by
  refine zr h fun He O Fs Γ1 p v H1 G Fs1 nd A w=>?_
  obtain ⟨s,d⟩:=p
  cases d with
  | list ds=>
   have w:Wants K W He O Fs H U Q (if dj ⟨s,.list ds⟩ ds then .ok ⟨.lst .leaf,.list ds⟩ Γ1 else .no):=w
   cases hc:dj ⟨s,.list ds⟩ ds with
   | false=>rw [hc] at w;exact w.elim
   | true=>
    rw [hc] at w;obtain ⟨p,vs,rfl,hq,_,hr⟩:=A.own.items (O':=O++Fs1.flatten) hc iq A.disj
    exact ⟨p,vs,rfl,.inl hq,fun l hl=>w _ _ _ _ (Er A.go A.same A.newF hr hl)⟩
  | tuple ds=>
   have w:Wants K W He O Fs H U Q (if dj ⟨s,.tuple ds⟩ ds then .ok ⟨.lst .leaf,.list ds⟩ Γ1 else .no):=w
   cases hc:dj ⟨s,.tuple ds⟩ ds with
   | false=>rw [hc] at w;exact w.elim
   | true=>
    rw [hc] at w;obtain ⟨p,vs,rfl,hq,_,hr⟩:=A.own.itemsT (O':=O++Fs1.flatten) hc iq A.disj
    exact ⟨p,vs,rfl,.inr hq,fun l hl=>w _ _ _ _ (Er A.go A.same A.newF hr hl)⟩
  | _=>exact w.elim
 obtain ⟨He,O,Fs,Γ,E,h1⟩:=h1;refine ⟨He,O,Fs,Γ,E,?_⟩
 unfold ae af
 cases e:fa Γ with
 | ok p Γ'=>
  rw [e] at h1;intro vs H' Gs Fs' A
  match vs,Gs,A.len1,A.len2 with
  | [v],[G],_,_=>
   have A':Aft K He O Fs H U Γ' p v H' G Fs':=⟨A.same,by simpa using A.env,by simpa using A.new,by simpa using A.own 0 v p G rfl rfl rfl⟩
   obtain ⟨q,ys,rfl,h2,h3⟩:=h1 v H' G Fs' A'
   exact ⟨q,ys,rfl,h2,h3⟩
 | er c Γ'=>rw [e] at h1;exact h1
 | no=>rw [e] at h1;exact h1
end
structure zl (J:It) (P:Hp->Prop) (vs:List V):Prop where
 go:∀(i:Nat) H v,P H->vs[i]?=some v->J.go i H/\∀x H',J.yld i H x H'->H'=H/\x=v
 stop:∀H,P H->J.stop vs.length H
theorem yo:zl (DA K a) (fun H=>SqL K H a vs) vs:=
 ⟨fun i H v hp hv=>⟨⟨vs,v,hp,hv⟩,fun x H' ⟨e,q⟩=>⟨e,Option.some.inj ((q vs hp).symm.trans hv)⟩⟩,fun H hp=>⟨vs,hp,Mb _⟩⟩
def d8 (lo:Int) (n:Nat):List V:=(List.range n).map fun i=>.int (lo+(i:Nat))
def b6 (lo:Int) (n:Nat):List D:=(List.range n).map fun i=>.int (lo+(i:Nat))
theorem vf {lo:Int} {n:Nat}:zl (Dz lo n) (fun _=>True) (d8 lo n):=by
 refine ⟨fun i H v _ hv=>?_,fun H _=>?_⟩
 ·unfold d8 at hv
  rw [getElem?_map] at hv
  cases e:(List.range n)[i]? with
  | none=>rw [e] at hv;cases hv
  | some k=>
   rw [e] at hv;obtain ⟨h1,h2⟩:=L7 e
   simp at h1 h2
   subst h2
   cases hv;exact ⟨h1,fun x H' ⟨q1,q2⟩=>⟨q1,q2⟩⟩
 ·show n<=(d8 lo n).length
  simp [d8]
theorem IZ {H:Hp} {lo:Int} {n:Nat}:Reps K H (d8 lo n) (b6 lo n):=by
 refine ⟨by simp [d8,b6],fun i v d h1 h2=>?_⟩
 unfold d8 at h1;unfold b6 at h2;rw [getElem?_map] at h1 h2
 cases e:(List.range n)[i]? with
 | none=>rw [e] at h1;cases h1
 | some k=>
  rw [e] at h1 h2
  cases h1
  cases h2;exact .int _
structure KG where
 ds:List D
 st:Bool
abbrev FI:=Ev->Out KG
def GI (K:Fg) (W:XW) (He:Hp) (O:List Addr) (Fs:List (List Addr)) (H:Hp) (U:St) (R:It->Hp->Prop) (o:Out KG):Prop:=match o with
 | .ok t Γ'=>∀J H' Fs' vs P,Same H H'->EnvOk K He O Fs' H' U Γ'->(∀a∈Fs'.flatten,a∈Fs.flatten\/H a=none)->zl J P vs->P H'->(∀H2,Same H' H2->P H2)->(t.st=true->∀H2,Same (bM H' Fs'.flatten) H2->P H2) ->
   Reps K (bM H' (O++Fs'.flatten)) vs t.ds->R J H'
 | .er c Γ'=>∀H' Fs',Same H H'->EnvOk K He O Fs' H' U Γ'->W c U H'
 | .no=>False
def tI (K:Fg) (W:XW) (f:FI):TI:=fun U H R=>∃He O Fs Γ,EnvOk K He O Fs H U Γ/\GI K W He O Fs H U R (f Γ)
theorem pR {t t':TI} (h:PI X tg iter t) (i:∀U H R,t' U H R->t U H R):PI X tg iter t':=fun pins s U H R I q=>h pins s U H R I (i U H R q)
def ax (fa:F1):FI:=fun Γ=>(fa Γ).bind fun p Γ'=>match p.d with
 | .list ds=>if dj p ds then .ok ⟨ds,!p.s.isView⟩ Γ' else .no
 | _=>.no
section
variable {K:Fg} {W:XW} {U:St} {H:Hp} {R:It->Hp->Prop} {fa fb:F1}
theorem sub_hid {H:Hp} {O:List Addr}:Same (bM H (O++F)) (bM H F):=sk (Same.refl _) fun a ha=>.inl (LR _ ha)
theorem xK (h:tI K W (ax fa) U H R):g6 K (tE K W fa) U H R:=by
 obtain ⟨He,O,Fs,Γ,E,h⟩:=h;refine ⟨He,O,Fs,Γ,E,?_⟩
 unfold ax at h
 cases e:fa Γ with
 | ok p Γ1=>
  rw [e] at h;intro v H1 G Fs1 A;obtain ⟨s,d⟩:=p
  cases d with
  | list ds=>
   have h:GI K W He O Fs H U R (if dj ⟨s,.list ds⟩ ds then .ok ⟨ds,!s.isView⟩ Γ1 else .no):=h
   cases hc:dj ⟨s,.list ds⟩ ds with
   | false=>rw [hc] at h;exact h.elim
   | true=>
    rw [hc] at h;obtain ⟨p,vs,rfl,hq,hst,hr⟩:=A.own.items (O':=O++Fs1.flatten) hc iq A.disj
    exact ⟨p,rfl,⟨vs,hq⟩,h (DA K p) H1 Fs1 vs (fun H=>SqL K H p vs) A.same A.go A.newF yo hq (fun H2 s2=>s2.seq hq) (fun ht H2 s2=>s2.seq (sub_hid.seq (hst (by simpa using ht)))) hr⟩
  | _=>exact h.elim
 | er c Γ'=>rw [e] at h;exact h
 | no=>rw [e] at h;exact h
def cN (j:Int):Bool:=decide (-(2 ^ 62)<=j)&&decide (j<2 ^ 62)
def iC:List D->Option Int
 | [.int j]=>if cN j then some j else none
 | _=>none
def qk:List D->Option (Int×Int)
 | [.int i,.int j]=>if cN i&&cN j then some (i,j) else none
 | _=>none
theorem oT {ds:List D} {j:Int} (h:iC ds=some j):ds=[.int j]/\-(2 ^ 62)<=j/\j<2 ^ 62:=by
 unfold iC at h;split at h
 ·split at h
  ·rename_i hc
   cases h;simp only [cN,Bool.and_eq_true,decide_eq_true_eq] at hc
   exact ⟨rfl,hc.1,hc.2⟩
  ·cases h
 ·cases h
theorem xw {ds:List D} {i j:Int} (h:qk ds=some (i,j)):ds=[.int i,.int j]/\(-(2 ^ 62)<=i/\i<2 ^ 62/\-(2 ^ 62)<=j/\j<2 ^ 62):=by
 unfold qk at h;split at h
 ·split at h
  ·rename_i hc
   cases h;simp only [cN,Bool.and_eq_true,decide_eq_true_eq] at hc
   exact ⟨rfl,hc.1.1,hc.1.2,hc.2.1,hc.2.2⟩
  ·cases h
 ·cases h
def lR (fl:FL):FI:=fun Γ=>(fl Γ).bind fun ps Γ'=>match iC (ps.map (·.d)) with
 | some j=>.ok ⟨b6 0 j.toNat,true⟩ Γ'
 | none=>.no
def Ag (fl:FL):FI:=fun Γ=>(fl Γ).bind fun ps Γ'=>match qk (ps.map (·.d)) with
 | some (i,j)=>.ok ⟨b6 i (j-i).toNat,true⟩ Γ'
 | none=>.no
theorem BB (h:tI K W (lR fl) U H R):Af (tA K W fl) U H R:=by
 obtain ⟨He,O,Fs,Γ,E,h⟩:=h;refine ⟨He,O,Fs,Γ,E,?_⟩
 unfold lR at h
 cases e:fl Γ with
 | ok ps Γ1=>
  rw [e] at h;intro vs H1 Gs Fs1 A;have h:GI K W He O Fs H U R (match iC (ps.map (·.d)) with | some j=>.ok ⟨b6 0 j.toNat,true⟩ Γ1 | none=>.no):=h
  have rs:=A.reps
  cases e1:iC (ps.map (·.d)) with
  | none=>rw [e1] at h;exact h.elim
  | some j=>
   rw [e1] at h;obtain ⟨e2,h1,h2⟩:=oT e1;rw [e2] at rs;obtain ⟨v,rfl,r⟩:=rs.one
   cases r;exact ⟨j,rfl,h1,h2,h (Dz 0 j.toNat) H1 Fs1 (d8 0 j.toNat) (fun _=>True) A.same A.env.dropL (fun a ha=>A.new a (LR _ ha)) vf trivial (fun _ _=>trivial) (fun _ _ _=>trivial) IZ⟩
 | er c Γ'=>rw [e] at h;exact h
 | no=>rw [e] at h;exact h
theorem BA (h:tI K W (Ag fl) U H R):Ae (tA K W fl) U H R:=by
 obtain ⟨He,O,Fs,Γ,E,h⟩:=h;refine ⟨He,O,Fs,Γ,E,?_⟩
 unfold Ag at h
 cases e:fl Γ with
 | ok ps Γ1=>
  rw [e] at h;intro vs H1 Gs Fs1 A;have h:GI K W He O Fs H U R (match qk (ps.map (·.d)) with | some (i,j)=>.ok ⟨b6 i (j-i).toNat,true⟩ Γ1 | none=>.no):=h
  have rs:=A.reps
  cases e1:qk (ps.map (·.d)) with
  | none=>rw [e1] at h;exact h.elim
  | some ij=>
   obtain ⟨i,j⟩:=ij;rw [e1] at h;obtain ⟨e2,hb⟩:=xw e1;rw [e2] at rs;obtain ⟨v,u,rfl,r,r'⟩:=rs.two
   cases r
   cases r'
   exact ⟨i,j,rfl,hb,h (Dz i (j-i).toNat) H1 Fs1 (d8 i (j-i).toNat) (fun _=>True) A.same A.env.dropL (fun a ha=>A.new a (LR _ ha)) vf trivial (fun _ _=>trivial) (fun _ _ _=>trivial) IZ⟩
 | er c Γ'=>rw [e] at h;exact h
 | no=>rw [e] at h;exact h
end
def pU (i:Nat) (fc:FB) (fe:F1) (s:Sh):List D->Ev->List D->Out (List D)
 | [],Γ,acc=>.ok acc Γ
 | d::r,Γ,acc=>match fc (Γ.set i (Md d)) with
  | .ok true Γ1=>(match fe Γ1 with
   | .ok p Γ2=>if T.coer s p&&decide (acc.length<sizeLine) then pU i fc fe s r (Γ2.set i none) (acc++[p.d]) else .no
   | _=>.no)
  | .ok false Γ1=>if acc.length<sizeLine then pU i fc fe s r (Γ1.set i none) acc else .no
  | _=>.no
def aq (s:Sh) (i:Nat) (fi:FI) (fc:FB) (fe:F1):F1:=fun Γ=>(fi Γ).bind fun t Γ1=>match pU i fc fe s t.ds (Γ1.set i none) [] with
 | .ok ds Γ2=>if !s.isView&&decide (i<Γ1.length) then .ok ⟨.lst s,.list ds⟩ (Γ2.set i (Γ1.getD i none)) else .no
 | _=>.no
abbrev W0:XW:=fun _ _ _=>False
section
variable {K:Fg} {He H H1 H2:Hp} {O G:List Addr} {Fs Fs1 Fs2:List (List Addr)} {U:St} {Γ Γ1 Γ2:Ev}
theorem Jd {is:List Nat} {j:Nat} (h:j∉is):(aX is U)[j]?=U[j]?:=by
 unfold aX;rw [List.getElem?_mapIdx]
 cases U[j]? with
 | none=>rfl
 | some o=>simp [h]
theorem Hr {i j:Nat} {p:PV} (h:(Γ.set i none)[j]?=some (some p)):j≠i/\Γ[j]?=some (some p):=by
 by_cases hj:j=i
 ·subst hj
  rw [List.getElem?_set] at h;split at h
  ·split at h<;>cases h
  ·rename_i z;exact absurd rfl z
 ·rw [getElem?_set_ne (Ne.symm hj)] at h
  exact ⟨hj,h⟩
theorem EnvOk.shut {i:Nat} (E:EnvOk K He O Fs H U Γ) (hi:i<Γ.length) :
  ∃F,Fs[i]?=some F/\EnvOk K He (F++O) (Fs.set i []) H (aX [i] U) (Γ.set i none)/\∀a,a∈F++(Fs.set i []).flatten↔a∈Fs.flatten:=by
 obtain ⟨F,hF⟩:=E.lt hi;have pm:(F++(Fs.set i []).flatten).Perm Fs.flatten:=by simpa using ow (G:=[]) hF
 have pm2:(F++O++(Fs.set i []).flatten).Perm (O++Fs.flatten):=by
  rw [append_assoc];exact (la _ _ _).trans (List.Perm.append_left _ pm)
 refine ⟨F,hF,⟨by rw [zC,length_set];exact E.len1,by rw [length_set,length_set];exact E.len2,E.same,pm2.nodup_iff.mpr E.nd,fun a ha=>E.inH a (pm2.mem_iff.mp ha),fun a ha=>E.fresh a (pm.mem_iff.mp (LR _ ha)),fun j q hq=>?_⟩,fun a=>pm.mem_iff⟩
 obtain ⟨hj,hq⟩:=Hr hq;obtain ⟨w1,v',F',e1,e2,e3⟩:=E.slot j q hq;exact ⟨w1,v',F',by rw [Jd (by simpa using hj)];exact e1,by rw [getElem?_set_ne (Ne.symm hj)];exact e2,e3.mono (Same.refl _) fun a ha=>.inl (pm2.mem_iff.mp ha)⟩
theorem EnvOk.forget {i:Nat} {x:Option V} (E:EnvOk K He O Fs H ((aX [i] U).set i x) Γ) (hi:i<Γ.length):EnvOk K He O (Fs.set i []) H (aX [i] U) (Γ.set i none):=by
 obtain ⟨F,hF⟩:=E.lt hi;have pm:(F++(Fs.set i []).flatten).Perm Fs.flatten:=by simpa using ow (G:=[]) hF
 have sub:∀a∈O++(Fs.set i []).flatten,a∈O++Fs.flatten:=fun a ha=>by
  rcases LX ha with z | z
  ·exact LU _ z
  ·exact LR _ (pm.mem_iff.mp (LR _ z))
 have l1:=E.len1
 rw [length_set] at l1;obtain ⟨n1,n2,n3⟩:=L6 E.nd;have n4:((Fs.set i []).flatten).Nodup:=(L6 (pm.nodup_iff.mpr n2)).2.1
 refine ⟨by rw [length_set];exact l1,by rw [length_set,length_set];exact E.len2,E.same,List.nodup_append.mpr ⟨n1,n4,fun a ha b hb=>n3 a ha b (pm.mem_iff.mp (LR _ hb))⟩,fun a ha=>E.inH a (sub a ha),fun a ha=>E.fresh a (pm.mem_iff.mp (LR _ ha)),fun j q hq=>?_⟩
 obtain ⟨hj,hq⟩:=Hr hq;obtain ⟨w1,v',F',e1,e2,e3⟩:=E.slot j q hq;rw [getElem?_set_ne (Ne.symm hj)] at e1;exact ⟨w1,v',F',e1,by rw [getElem?_set_ne (Ne.symm hj)];exact e2,e3.mono (Same.refl _) fun a ha=>.inl (sub a ha)⟩
theorem EnvOk.reopen {i:Nat} (E1:EnvOk K He O Fs1 H1 U Γ1) (hF:Fs1[i]?=some F) (E2:EnvOk K He (G++(F++O)) Fs2 H2 (aX [i] U) Γ2) (hl:Γ2.length=Γ1.length) (s:Same H1 H2)
  (hn:Γ2[i]?=some none) (hF2:Fs2[i]?=some []) (new:∀a∈G++Fs2.flatten,a∈Fs1.flatten\/H1 a=none):EnvOk K He (G++O) (Fs2.set i F) H2 U (Γ2.set i (Γ1.getD i none)):=by
 have pm:((Fs2.set i F).flatten).Perm (F++Fs2.flatten):=by simpa using ow (G:=F) hF2
 have pm2:(G++O++(Fs2.set i F).flatten).Perm (G++(F++O)++Fs2.flatten):=by
  refine (List.Perm.append_left _ pm).trans ?_
  rw [append_assoc,append_assoc];refine List.Perm.append_left _ ?_
  rw [append_assoc];exact la _ _ _
 have hi:i<Γ2.length:=(L7 hn).1
 refine ⟨by rw [length_set,hl];exact E1.len1,by rw [length_set,length_set];exact E2.len2,E2.same,pm2.nodup_iff.mpr E2.nd,fun a ha=>E2.inH a (pm2.mem_iff.mp ha),fun a ha=>?_,fun j q hq=>?_⟩
 ·rcases LX (pm.mem_iff.mp ha) with z | z
  ·exact E1.fresh a (ik hF z)
  ·exact E2.fresh a z
 ·by_cases hj:j=i
  ·subst hj
   rw [getElem?_set_self hi] at hq;have hq:Γ1.getD j none=some q:=Option.some.inj hq
   rw [L1] at hq;have hq':Γ1[j]?=some (some q):=by
    cases e:Γ1[j]? with
    | none=>rw [e] at hq;cases hq
    | some o=>rw [e] at hq;simp only [Option.getD_some] at hq;rw [hq]
   obtain ⟨w1,v',F',e1,e2,e3⟩:=E1.slot j q hq'
   rw [hF] at e2
   cases e2;refine ⟨w1,v',F,e1,getElem?_set_self (by rw [E2.len2];exact hi),e3.mono s fun a ha=>?_⟩
   rcases LX ha with z | z
   ·rcases LX z with z | z
    ·exact (new a (LU _ z)).elim (fun y=>.inl (LR _ y)) .inr
    ·exact .inl (LU _ z)
   ·rcases LX (pm.mem_iff.mp z) with y | y
    ·exact .inl (LR _ (ik hF y))
    ·exact (new a (LR _ y)).elim (fun y=>.inl (LR _ y)) .inr
  ·rw [getElem?_set_ne (Ne.symm hj)] at hq
   obtain ⟨w1,v',F',e1,e2,e3⟩:=E2.slot j q hq;rw [Jd (by simpa using hj)] at e1
   exact ⟨w1,v',F',e1,by rw [getElem?_set_ne (Ne.symm hj)];exact e2,e3.mono (Same.refl _) fun a ha=>.inl (pm2.mem_iff.mp ha)⟩
theorem EnvOk.mutO {p:Addr} {o:HO} {xs:List V} (E:EnvOk K He O Fs H U Γ) (hp:p∈O) (hl:H p=some (.lst xs)) (hn:He p=none):EnvOk K He O Fs (bo H p o) U Γ:=by
 obtain ⟨n1,n2,n3⟩:=L6 E.nd;refine ⟨E.len1,E.len2,fun b u e=>?_,E.nd,fun a ha=>?_,E.fresh,fun j q hq=>?_⟩
 ·rw [b9 (iT e hn)]
  exact E.same b u e
 ·by_cases h:a=p
  ·rw [h,da];exact Option.some_ne_none _
  ·rw [b9 h];exact E.inH a ha
 ·obtain ⟨w1,v',F',e1,e2,e3⟩:=E.slot j q hq
  exact ⟨w1,v',F',e1,e2,e3.mut w1 (LU _ hp) (fun z=>n3 p hp p (ik e2 z) rfl) hl⟩
end
structure KI (K:Fg) (He:Hp) (O F:List Addr) (Fs1:List (List Addr)) (H1:Hp) (U:St) (i:Nat) (s:Sh) (A0:Addr) (n:Nat) (ys:List V) (H:Hp) (Γk:Ev) (Fk Gs:List (List Addr)) (acc:List D):Prop where
 env:EnvOk K He (A0::Gs.flatten++(F++O)) Fk H (aX [i] U) Γk
 same:Same H1 H
 at_:H A0=some (.lst ys)
 new:∀a∈Gs.flatten++Fk.flatten,a∈Fs1.flatten\/H1 a=none
 l1:ys.length=acc.length
 l2:Gs.length=acc.length
 own:∀(j:Nat) v d G,ys[j]?=some v->acc[j]?=some d->Gs[j]?=some G->Own K (A0::Gs.flatten++(F++O)++Fk.flatten) H s G v d
 noneG:Γk[i]?=some none
 noneF:Fk[i]?=some []
 len:Γk.length=n
theorem w9 (Gs:List (List α)) (G:List α):(Gs++[G]).flatten=Gs.flatten++G:=by simp
section
variable {K:Fg} {W:XW} {U:St} {H:Hp} {Q:VK} {fe:F1} {fc:FB} {fi:FI} {s:Sh} {i:Nat}
theorem II (h:tE K W (aq s i fi fc fe) U H Q):eV [i] (tI K W fi) (gName i) (tT K W0 fc) (tE K W0 fe) U H Q:=by
 obtain ⟨He,O,Fs,Γ,E,h⟩:=h;refine ⟨He,O,Fs,Γ,E,?_⟩
 unfold aq at h
 cases e:fi Γ with
 | er c Γ'=>rw [e] at h;exact h
 | no=>rw [e] at h;exact h
 | ok t Γ1=>
  rw [e] at h;intro J H1 Fs1 vs P s1 E1 n1 it hP hP1 _ hr A0 hD;have h:Wants K W He O Fs H U Q (match pU i fc fe s t.ds (Γ1.set i none) [] with | .ok ds Γ2=>if !s.isView&&decide (i<Γ1.length) then .ok ⟨.lst s,.list ds⟩ (Γ2.set i (Γ1.getD i none)) else .no | _=>.no):=h
  cases eg:pU i fc fe s t.ds (Γ1.set i none) [] with
  | er c Γ'=>rw [eg] at h;exact h.elim
  | no=>rw [eg] at h;exact h.elim
  | ok ds' Γ2=>
   rw [eg] at h;have h:Wants K W He O Fs H U Q (if (!s.isView&&decide (i<Γ1.length))=true then .ok ⟨.lst s,.list ds'⟩ (Γ2.set i (Γ1.getD i none)) else .no):=h
   by_cases hc:(!s.isView&&decide (i<Γ1.length))=true
   case neg=>rw [if_neg hc] at h;exact h.elim
   rw [if_pos hc] at h;simp only [Bool.and_eq_true,decide_eq_true_eq,Bool.not_eq_true'] at hc
   obtain ⟨hsv,hi⟩:=hc;obtain ⟨F,hF,E0,hmem⟩:=E1.shut hi;have hHeD:He A0=none:=E1.same.free hD
   have E0':EnvOk K He (A0::([]:List (List Addr)).flatten++(F++O)) (Fs1.set i []) (bo H1 A0 (.lst [])) (aX [i] U) (Γ1.set i none):=
    E0.hide (G:=[A0]) (gN hD) (by simp) (fun a ha=>by simp at ha;rw [ha];exact hD) (fun a ha=>by simp at ha;rw [ha,da];exact Option.some_ne_none _)
   refine ⟨fun k m ys H'=>m=vs.length-k/\k<=vs.length/\∃Γk Fk Gs acc,KI K He O F Fs1 H1 U i s A0 Γ1.length ys H' Γk Fk Gs acc/\pU i fc fe s (t.ds.drop k) Γk acc=.ok ds' Γ2,⟨vs.length,by simp,Nat.zero_le _,Γ1.set i none,Fs1.set i [],[],[],⟨E0',gN hD,da,fun a ha=>.inl ((hmem a).mp (LR _ (by simpa using ha))),rfl,rfl,fun j v d G h1=>by simp at h1,getElem?_set_self hi,getElem?_set_self (by rw [E1.len2];exact hi),by rw [length_set]⟩,by simpa using eg⟩,?_⟩
   rintro k m ys H' ⟨rfl,hk,Γk,Fk,Gs,acc,g,eg'⟩
   refine ⟨g.at_,?_⟩
   have hPk:P H':=hP1 H' g.same
   have hlen:vs.length=t.ds.length:=hr.1
   by_cases hlt:k<vs.length
   case neg=>
    have hke:k=vs.length:=by omega
    left
    have:t.ds.drop k=[]:=drop_eq_nil_of_le (by omega)
    rw [this] at eg';have eg'':(Out.ok acc Γk:Out (List D))=.ok ds' Γ2:=eg'
    injection eg'' with e1 e2
    subst e1;subst e2;refine ⟨by rw [hke];exact it.stop H' hPk,?_⟩
    have E3:EnvOk K He ((A0::Gs.flatten)++O) (Fk.set i F) H' U (Γk.set i (Γ1.getD i none)):=
     EnvOk.reopen (G:=A0::Gs.flatten) E1 hF g.env g.len g.same g.noneG g.noneF fun a ha=>by
      rcases LX ha with z | z
      ·rcases LZ z with z | z
       ·rw [z];exact .inr hD
       ·exact g.new a (LU _ z)
      ·exact g.new a (LR _ z)
    have pmF:((Fk.set i F).flatten).Perm (F++Fk.flatten):=by simpa using ow (G:=F) g.noneF
    obtain ⟨n1',_,n3'⟩:=L6 g.env.ndO;refine h (.ref A0) H' (A0::Gs.flatten) (Fk.set i F) ⟨s1.trans g.same,E3,fun a ha=>?_,?_⟩
    ·have up:a∈Fs1.flatten\/H1 a=none->a∈Fs.flatten\/H a=none:=fun z=>z.elim (n1 a) fun y=>.inr (s1.free y)
     rcases LX ha with z | z
     ·rcases LZ z with z | z
      ·exact up (.inr (by rw [z];exact hD))
      ·exact up (g.new a (LU _ z))
     ·rcases LX (pmF.mem_iff.mp z) with y | y
      ·exact up (.inl (ik hF y))
      ·exact up (g.new a (LR _ y))
    ·refine .lst hsv g.at_ g.l1 g.l2 n1' fun j v d G h1 h2 h3=>(g.own j v d G h1 h2 h3).perm fun a ha=>?_
     rw [append_assoc] at ha ⊢;rcases LX ha with z | z
     ·exact LU _ z
     ·refine LR _ ?_
      rcases LX z with z | z
      ·exact LU _ (LR _ z)
      ·rcases LX (pmF.mem_iff.mp z) with y | y
       ·exact LU _ (LU _ y)
       ·exact LR _ y
   case pos=>
    right
    have hv:vs[k]?=some vs[k]:=L0 hlt
    have hkd:k<t.ds.length:=by omega
    have hd:t.ds[k]?=some t.ds[k]:=L0 hkd
    have hdr:t.ds.drop k=t.ds[k]::t.ds.drop (k+1):=drop_eq_getElem_cons hkd
    rw [hdr] at eg';generalize hdk:t.ds[k]=d at hd eg'
    generalize hvk:vs[k]=v at hv
    obtain ⟨hgo,hyld⟩:=it.go k H' v hPk hv
    simp only [pU] at eg'
    have hik:i<Γk.length:=by rw [g.len];exact hi
    have rep:Rep K (bM H' (A0::Gs.flatten++(F++O)++Fk.flatten)) v d:=(hr.2 k v d hv hd).mono (sk g.same fun a ha=>by
     rcases LX ha with z | z
     ·rcases LX z with z | z
      ·rcases LZ z with z | z
       ·rw [z];exact .inr hD
       ·exact (g.new a (LU _ z)).elim (fun y=>.inl (LR _ y)) .inr
      ·rcases LX z with z | z
       ·exact .inl (LR _ (ik hF z))
       ·exact .inl (LU _ z)
     ·exact (g.new a (LR _ z)).elim (fun y=>.inl (LR _ y)) .inr)
    have Ep:EnvOk K He (A0::Gs.flatten++(F++O)) (Fk.set i []) H' ((aX [i] U).set i (some v)) (Γk.set i (Md d)):=
     EnvOk.put (G:=[]) (p:=⟨.leaf,d⟩) (v:=v) g.env (.leaf rep) rfl (fun a ha=>by simp at ha) hik
    have hsl:ys.length<sizeLine:=by
     rw [g.l1]
     cases ec:fc (Γk.set i (Md d)) with
     | no=>rw [ec] at eg';cases eg'
     | er c Γ'=>rw [ec] at eg';cases eg'
     | ok b Γa=>
      rw [ec] at eg'
      cases b with
      | false=>
       dsimp only at eg'
       split at eg'
       ·assumption
       ·cases eg'
      | true=>
       dsimp only at eg'
       split at eg'
       ·split at eg'
        ·rename_i z
         simp only [Bool.and_eq_true,decide_eq_true_eq] at z
         exact z.2
        ·cases eg'
       ·cases eg'
    refine ⟨hgo,hsl,fun x Hx hx=>?_⟩
    obtain ⟨rfl,rfl⟩:=hyld x Hx hx;show Ib (aX [i] U) ((aX [i] U).set i (some x))/\_
    refine ⟨⟨by rw [length_set],fun j u hj=>?_⟩,?_⟩
    ·have:=(Hl hj).1
     rw [getElem?_set_ne (by simp at this;exact fun z=>this z.symm)]
     exact hj
    refine ⟨He,_,_,_,Ep,?_⟩
    cases ec:fc (Γk.set i (Md d)) with
    | no=>rw [ec] at eg';cases eg'
    | er c Γ'=>rw [ec] at eg';cases eg'
    | ok b Γa=>
     rw [ec] at eg';intro H3 Fs3 s3 E3 n3;have lena:Γa.length=Γ1.length:=by
      have:=E3.len1
      rw [length_set,zC,E1.len1] at this;exact this.symm
     have n3':∀a∈Fs3.flatten,a∈Fs1.flatten\/H1 a=none:=fun a ha=>(n3 a ha).elim (fun z=>by
      have pm:((Fk.set i []).flatten).Perm Fk.flatten:=by simpa using ow (G:=[]) g.noneF
      exact g.new a (LR _ (pm.mem_iff.mp z))) fun z=>.inr (g.same.free z)
     cases b with
     | false=>
      dsimp only at eg'
      split at eg'
      case isFalse=>cases eg'
      refine fI ⟨vs.length-(k+1),by omega,rfl,hlt,Γa.set i none,Fs3.set i [],Gs,acc,⟨E3.forget (by rw [lena];exact hi),g.same.trans s3,s3 _ _ g.at_,fun a ha=>?_,g.l1,g.l2,fun j v d G h1 h2 h3=>(g.own j v d G h1 h2 h3).mono s3 fun a ha=>?_,getElem?_set_self (by rw [lena];exact hi),getElem?_set_self (by rw [E3.len2,lena];exact hi),by rw [length_set];exact lena⟩,eg'⟩
      ·rcases LX ha with z | z
       ·exact g.new a (LU _ z)
       ·obtain ⟨F3,hF3⟩:=E3.lt (i:=i) (by rw [lena];exact hi)
        have pm:(F3++(Fs3.set i []).flatten).Perm Fs3.flatten:=by simpa using ow (G:=[]) hF3
        exact n3' a (pm.mem_iff.mp (LR _ z))
      ·rcases LX ha with z | z
       ·exact .inl (LU _ z)
       ·obtain ⟨F3,hF3⟩:=E3.lt (i:=i) (by rw [lena];exact hi)
        have pm:(F3++(Fs3.set i []).flatten).Perm Fs3.flatten:=by simpa using ow (G:=[]) hF3
        have pm2:((Fk.set i []).flatten).Perm Fk.flatten:=by simpa using ow (G:=[]) g.noneF
        exact (n3 a (pm.mem_iff.mp (LR _ z))).elim (fun y=>.inl (LR _ (pm2.mem_iff.mp y))) .inr
     | true=>
      refine gY ⟨He,_,_,_,E3,?_⟩
      dsimp only at eg'
      cases ee:fe Γa with
      | no=>rw [ee] at eg';cases eg'
      | er c Γ'=>rw [ee] at eg';cases eg'
      | ok p Γb=>
       rw [ee] at eg';dsimp only at eg'
       split at eg'
       case isFalse=>cases eg'
       rename_i hco;simp only [Bool.and_eq_true,decide_eq_true_eq] at hco
       obtain ⟨hco,_⟩:=hco;intro u H4 G Fs4 A4;have lenb:Γb.length=Γ1.length:=by
        have:=A4.env.len1
        rw [length_set,zC,E1.len1] at this;exact this.symm
       have hib:i<Γb.length:=by rw [lenb];exact hi
       have at4:H4 A0=some (.lst ys):=A4.same _ _ (s3 _ _ g.at_)
       have s14:Same H1 H4:=(g.same.trans s3).trans A4.same
       have pmk:((Fk.set i []).flatten).Perm Fk.flatten:=by simpa using ow (G:=[]) g.noneF
       obtain ⟨F4,hF4⟩:=A4.env.lt hib;have pm4:(F4++(Fs4.set i []).flatten).Perm Fs4.flatten:=by simpa using ow (G:=[]) hF4
       have new4:∀a∈G++Fs4.flatten,a∈Fs1.flatten\/H1 a=none:=fun a ha=>(A4.new a ha).elim (n3' a) fun z=>.inr ((g.same.trans s3).free z)
       have hG':∀a∈aI s G,a∈G:=fun a ha=>Jl ha
       obtain ⟨k1,k2,k3⟩:=L6 A4.env.ndO;have ndk:(aI s G).Nodup:=by
        cases s<;>first | exact nodup_nil | exact k1
       have pmO:(A0::(Gs++[aI s G]).flatten++(F++O)).Perm (aI s G++(A0::Gs.flatten++(F++O))):=by
        rw [w9];show (A0::((Gs.flatten++aI s G)++(F++O))).Perm _
        refine List.Perm.trans ?_ List.perm_middle.symm
        refine List.Perm.cons _ ?_
        rw [append_assoc];exact la _ _ _
       have E5:EnvOk K He (aI s G++(A0::Gs.flatten++(F++O))) Fs4 H4 ((aX [i] U).set i (some x)) Γb:=A4.env.drop (fun a ha=>by
        rcases LX ha with z | z
        ·exact LU _ (hG' a z)
        ·exact LR _ z) (List.nodup_append.mpr ⟨ndk,k2,fun a ha b hb=>k3 a (hG' a ha) b hb⟩)
       have E6:=(E5.perm pmO).forget hib
       have hDin:A0∈A0::(Gs++[aI s G]).flatten++(F++O):=mem_cons_self
       have E7:=E6.mutO (o:=.lst (ys++[u])) hDin at4 hHeD
       have subH:∀a∈A0::(Gs++[aI s G]).flatten++(F++O)++(Fs4.set i []).flatten,a∈G++(A0::Gs.flatten++(F++O))++Fs4.flatten:=fun a ha=>by
        rcases LX ha with z | z
        ·rcases LX (pmO.mem_iff.mp z) with y | y
         ·exact LU _ (LU _ (hG' a y))
         ·exact LU _ (LR _ y)
        ·exact LR _ (pm4.mem_iff.mp (LR _ z))
       have Dnot:∀{j:Nat} {Gj:List Addr},Gs[j]?=some Gj->A0∉Gj:=fun {j Gj} hj z=>by
        have nd:=g.env.ndO
        exact (List.nodup_cons.mp nd).1 (LU _ (ik hj z))
       refine ⟨at4,vs.length-(k+1),by omega,rfl,hlt,Γb.set i none,Fs4.set i [],Gs++[aI s G],acc++[p.d],⟨E7,fun b o hb=>?_,da,fun a ha=>?_,by simp [g.l1],by simp [g.l2],fun j w d' G' h1 h2 h3=>?_,getElem?_set_self hib,getElem?_set_self (by rw [A4.env.len2];exact hib),by rw [length_set];exact lenb⟩,eg'⟩
       ·rw [b9 (iT hb hD)]
        exact s14 b o hb
       ·rcases LX ha with z | z
        ·rw [w9] at z
         rcases LX z with z | z
         ·exact g.new a (LU _ z)
         ·exact new4 a (LU _ (hG' a z))
        ·exact new4 a (LR _ (pm4.mem_iff.mp (LR _ z)))
       ·by_cases hj:j<ys.length
        ·rw [getElem?_append_left hj] at h1
         rw [getElem?_append_left (by rw [<-g.l1];exact hj)] at h2
         rw [getElem?_append_left (by rw [g.l2,<-g.l1];exact hj)] at h3
         have o1:=g.own j w d' G' h1 h2 h3
         have o2:=o1.mono (O':=A0::(Gs++[aI s G]).flatten++(F++O)++(Fs4.set i []).flatten) (s3.trans A4.same) fun a ha=>by
          have up:a∈G++Fs4.flatten->a∈A0::Gs.flatten++(F++O)++Fk.flatten\/Hx a=none:=fun z=>(A4.new a z).elim (fun y=>(n3 a y).elim (fun y=>.inl (LR _ (pmk.mem_iff.mp y))) .inr) fun y=>.inr (s3.free y)
          rcases LX (subH a ha) with z | z
          ·rcases LX z with z | z
           ·exact up (LU _ z)
           ·exact .inl (LU _ z)
          ·exact up (LR _ z)
         exact o2.mut hsv (LU _ hDin) (Dnot h3) at4
        ·have hj':j=ys.length:=by
          have:=(L7 h1).1
          rw [length_append,length_singleton] at this;omega
         subst hj'
         rw [getElem?_append_right (Mb _),Nat.sub_self] at h1;rw [getElem?_append_right (by rw [g.l1];exact Mb _),show ys.length-acc.length=0 by rw [g.l1];exact Nat.sub_self _] at h2
         rw [getElem?_append_right (by rw [g.l2,g.l1];exact Mb _),show ys.length-Gs.length=0 by rw [g.l2,g.l1];exact Nat.sub_self _] at h3
         cases h1
         cases h2
         cases h3;have o3:=A4.own.coer (s:=s) (O':=A0::(Gs++[aI s G]).flatten++(F++O)++(Fs4.set i []).flatten) hco subH fun a ha hO=>by
          cases s with
          | leaf=>
           exfalso
           have hO':a∈(A0::Gs.flatten++(F++O))++(Fs4.set i []).flatten:=by
            rw [w9] at hO;simpa [aI] using hO
           rcases LX hO' with z | z
           ·exact k3 a ha a z rfl
           ·have nd:=A4.env.nd
            exact (L6 nd).2.2 a (LU _ ha) a (pm4.mem_iff.mp (LR _ z)) rfl
          | view=>cases hsv
          | lst s=>exact ha
          | tup ss=>exact ha
         refine o3.mut hsv (LU _ hDin) (fun z=>?_) at4
         exact k3 A0 (hG' A0 z) A0 mem_cons_self rfl
end
inductive dY where
 | nx (e:Ev) | bk (e:Ev) | ct (e:Ev) | rt (p:PV) | er (c:Str) (e:Ev) | no
abbrev FS:=Ev->dY
structure RetOk (K:Fg) (He:Hp) (O:List Addr) (p:PV) (v:V) (H':Hp) (G:List Addr):Prop where
 same:Same He H'
 fresh:∀a∈G,He a=none
 inH:∀a∈G,H' a≠none
 nd:G.Nodup
 own:Own K (G++O) H' p.s G v p.d
 nv:p.s.isView=false
def kj (K:Fg) (W:XW) (He:Hp) (O:List Addr) (D:cW):dY->Prop
 | .nx Γ'=>∀U' H' Fs',EnvOk K He O Fs' H' U' Γ'->D.nx U' H'
 | .bk Γ'=>∀U' H' Fs',EnvOk K He O Fs' H' U' Γ'->D.bk U' H'
 | .ct Γ'=>∀U' H' Fs',EnvOk K He O Fs' H' U' Γ'->D.ct U' H'
 | .rt p=>∀v H' G,RetOk K He O p v H' G->D.rt v H'
 | .er c Γ'=>∀U' H' Fs',EnvOk K He O Fs' H' U' Γ'->W c U' H'
 | .no=>False
def tS (K:Fg) (W:XW) (g:FS):TS:=fun D U H=>∃He O Fs Γ,EnvOk K He O Fs H U Γ/\kj K W He O D (g Γ)
def aN:FS:=fun Γ=>.nx Γ
def av (g1 g2:FS):FS:=fun Γ=>match g1 Γ with
 | .nx Γ'=>g2 Γ'
 | o=>o
def gj (f:F1) (k:PV->Ev->dY):FS:=fun Γ=>match f Γ with
 | .ok p Γ'=>k p Γ'
 | .er c Γ'=>.er c Γ'
 | .no=>.no
def cg (c:FB) (a b:FS):FS:=fun Γ=>match c Γ with
 | .ok t Γ'=>if t then a Γ' else b Γ'
 | .er c Γ'=>.er c Γ'
 | .no=>.no
section
variable {K:Fg} {W:XW} {U:St} {H:Hp} {D:cW} {fa fb:F1} {ga gb:FB} {g1 g2:FS}
theorem oX (h:tS K W aN D U H):kE D U H:=by
 obtain ⟨He,O,Fs,Γ,E,h⟩:=h;exact h U H Fs E
theorem ub (h:tS K W (av g1 g2) D U H):d7 (tS K W g1) (tS K W g2) D U H:=by
 obtain ⟨He,O,Fs,Γ,E,h⟩:=h;refine ⟨He,O,Fs,Γ,E,?_⟩
 unfold av at h
 cases e:g1 Γ with
 | nx Γ'=>rw [e] at h;exact fun U' H' Fs' E'=>⟨He,O,Fs',Γ',E',h⟩
 | bk Γ'=>rw [e] at h;exact h
 | ct Γ'=>rw [e] at h;exact h
 | rt p=>rw [e] at h;exact h
 | er c Γ'=>rw [e] at h;exact h
 | no=>rw [e] at h;exact h
theorem fQ {k:PV->Ev->dY} {R:VK} (h:tS K W (gj fa k) D U H)
  (hk:∀He O Fs Γ1 p v H1 G Fs1,EnvOk K He O Fs H U Γ1\/True->(∀a∈G,He a=none)->Aft K He O Fs H U Γ1 p v H1 G Fs1->kj K W He O D (k p Γ1)->R v H1):tE K W fa U H R:=by
 obtain ⟨He,O,Fs,Γ,E,h⟩:=h;refine ⟨He,O,Fs,Γ,E,?_⟩
 unfold gj at h
 cases e:fa Γ with
 | ok p Γ1=>rw [e] at h;exact fun v H' G Fs' A=>hk He O Fs Γ1 p v H' G Fs' (.inr trivial) (A.freshG E) A h
 | er c Γ1=>rw [e] at h;exact fun H' Fs' s E'=>h U H' Fs' E'
 | no=>rw [e] at h;exact h
theorem uh (h:tS K W (cg ga g1 g2) D U H):tL (tT K W ga) (tS K W g1) (tS K W g2) D U H:=by
 obtain ⟨He,O,Fs,Γ,E,h⟩:=h;refine ⟨He,O,Fs,Γ,E,?_⟩
 unfold cg at h
 cases e:ga Γ with
 | ok b Γ1=>
  rw [e] at h;intro H' Fs' s E' n
  cases b with
  | true=>exact gY ⟨He,O,Fs',Γ1,E',h⟩
  | false=>exact fI ⟨He,O,Fs',Γ1,E',h⟩
 | er c Γ1=>rw [e] at h;exact fun H' Fs' s E'=>h U H' Fs' E'
 | no=>rw [e] at h;exact h
def aL (f:F1):FS:=gj f fun p _=>if p.s.isView then (if ba p.d then .rt ⟨.leaf,p.d⟩ else .no) else .rt p
theorem uc (h:tS K W (aL fa) D U H):tJ (tE K W fa) D U H:=by
 refine fQ h fun He O Fs Γ1 p v H1 G Fs1 _ fr A w=>?_
 obtain ⟨n1,n2,n3⟩:=L6 A.env.ndO;have inH:∀a∈G,H1 a≠none:=fun a ha=>A.env.inH a (LU _ (LU _ ha))
 cases hv:p.s.isView with
 | false=>
  have w:kj K W He O D (.rt p):=by simpa [hv] using w
  exact w v H1 G ⟨A.env.same,fr,inH,n1,A.own.perm fun a ha=>LU _ ha,hv⟩
 | true=>
  cases hs:ba p.d with
  | false=>rw [hv,hs] at w;exact w.elim
  | true=>
   have w:kj K W He O D (.rt ⟨.leaf,p.d⟩):=by simpa [hv,hs] using w
   exact w v H1 [] ⟨A.env.same,(fun _ z=>nomatch z),(fun _ z=>nomatch z),nodup_nil,.leaf (A.own.rep.sc hs).rep,rfl⟩
def ay (own:Bool) (i:Nat) (f:F1):FS:=gj f fun p Γ=>if i<Γ.length then (if own&&!p.s.isView then .nx (Γ.set i (some p)) else if T.coer .leaf p then .nx (Γ.set i (Md p.d)) else .no) else .no
theorem GQ {own:Bool} {i:Nat} (h:tS K W (ay own i fa) D U H):fG (tE K W fa) (gName i) D U H:=by
 refine fQ h fun He O Fs Γ1 p v H1 G Fs1 _ fr A w=>?_
 show D.nx (U.set i (some v)) H1
 have w:kj K W He O D (if i<Γ1.length then (if own&&!p.s.isView then .nx (Γ1.set i (some p)) else if T.coer .leaf p then .nx (Γ1.set i (Md p.d)) else .no) else .no):=w
 by_cases hi:i<Γ1.length
 case neg=>rw [if_neg hi] at w;exact w.elim
 rw [if_pos hi] at w
 cases ho:(own&&!p.s.isView) with
 | true=>
  rw [ho] at w;have hv:p.s.isView=false:=by
   simp only [Bool.and_eq_true,Bool.not_eq_true'] at ho
   exact ho.2
  exact w _ H1 _ (EnvOk.put A.env A.own hv fr hi)
 | false=>
  rw [ho] at w
  cases hc:T.coer .leaf p with
  | false=>rw [hc] at w;exact w.elim
  | true=>
   rw [hc] at w;have o:=A.own.coer (s:=.leaf) (O':=O++Fs1.flatten) hc iq fun a ha z=>absurd z (A.disj a ha)
   exact w _ H1 _ (EnvOk.put (G:=[]) (p:=⟨.leaf,p.d⟩) (v:=v) A.go o rfl (fun a ha=>by simp at ha) hi)
def bG (f:F1):FS:=gj f fun _ Γ=>.nx Γ
theorem xM (h:tS K W (bG fa) D U H):gP (tE K W fa) D U H:=
 fQ h fun He O Fs Γ1 p v H1 G Fs1 _ fr A w=>w U H1 Fs1 A.go
theorem zx {l:List α} {i:Nat} {x:α} (h:l[i]?=some x):l.set i x=l:=by
 apply ext_getElem?
 intro j;by_cases hj:j=i
 ·subst hj
  rw [getElem?_set_self (L7 h).1,h]
 ·rw [getElem?_set_ne (Ne.symm hj)]
def zh (i:Nat) (p:PV) (Γ:Ev):dY:=match Γ[i]? with
 | some (some ⟨.lst s,.list ds⟩)=>if T.coer s p&&decide (ds.length<sizeLine) then .nx (Γ.set i (some ⟨.lst s,.list (ds++[p.d])⟩)) else .no
 | _=>.no
def DF:Option (Option PV)->Bool
 | some (some ⟨.lst _,.list _⟩)=>true
 | _=>false
def fA (i:Nat) (f:F1):FS:=fun Γ=>if DF Γ[i]? then gj f (zh i) Γ else .no
theorem zg {H:Hp} {O:List Addr} {i:Nat} {s:Sh} {p:PV} {v:V} (E:EnvOk K He (G++O) Fs H U Γ) (o:Own K (G++O++Fs.flatten) H p.s G v p.d) (fr:∀a∈G,He a=none)
  (h:Γ[i]?=some (some ⟨.lst s,.list ds⟩)) (hc:T.coer s p=true) :
  ∃l vs,U[i]?=some (some (.ref l))/\H l=some (.lst vs)/\vs.length=ds.length/\∃Fs',EnvOk K He O Fs' (bo H l (.lst (vs++[v]))) U (Γ.set i (some ⟨.lst s,.list (ds++[p.d])⟩)):=by
 obtain ⟨hv,u,F,h1,E1,o1,sub⟩:=E.move h;have hi:i<Γ.length:=(L7 h).1
 cases o1 with
 | @lst _ l vs _ Fs0 hsv hp hl hf nd q=>
  refine ⟨l,vs,h1,hp,hl,Fs.set i (l::(Fs0++[aI s G]).flatten),?_⟩
  have hlF:l∈Fs.flatten:=sub l (LU _ mem_cons_self)
  have hHe:He l=none:=E.fresh l hlF
  have hG':∀a∈aI s G,a∈G:=fun a ha=>Jl ha
  obtain ⟨k1,k2,k3⟩:=L6 E1.ndO;obtain ⟨g1,g2,g3⟩:=L6 k2;have ndk:(aI s G).Nodup:=by
   cases s<;>first | exact nodup_nil | exact g1
  have pmO:((l::(Fs0++[aI s G]).flatten)++O).Perm ((l::Fs0.flatten)++(aI s G++O)):=by
   rw [w9];show (l::((Fs0.flatten++aI s G)++O)).Perm (l::(Fs0.flatten++(aI s G++O)))
   rw [append_assoc]
  have E2:EnvOk K He ((l::Fs0.flatten)++(aI s G++O)) (Fs.set i []) H U (Γ.set i none):=E1.drop (fun a ha=>by
   rcases LX ha with z | z
   ·exact LU _ z
   ·refine LR _ ?_
    rcases LX z with z | z
    ·exact LU _ (hG' a z)
    ·exact LR _ z) (List.nodup_append.mpr ⟨k1,List.nodup_append.mpr ⟨ndk,g2,fun a ha b hb=>g3 a (hG' a ha) b hb⟩,fun a ha b hb=>k3 a ha b (by
     rcases LX hb with z | z
     ·exact LU _ (hG' b z)
     ·exact LR _ z)⟩)
  have E3:=E2.perm pmO
  have hlin:l∈(l::(Fs0++[aI s G]).flatten)++O:=mem_cons_self
  have E4:=E3.mutO (o:=.lst (vs++[v])) hlin hp hHe
  have lnG:l∉G:=fun z=>k3 l mem_cons_self l (LU _ z) rfl
  have subH:∀a∈(l::(Fs0++[aI s G]).flatten)++O++(Fs.set i []).flatten,a∈(l::Fs0.flatten)++(G++O)++(Fs.set i []).flatten:=fun a ha=>by
   rcases LX ha with z | z
   ·refine LU _ ?_
    rcases LX (pmO.mem_iff.mp z) with y | y
    ·exact LU _ y
    ·refine LR _ ?_
     rcases LX y with y | y
     ·exact LU _ (hG' a y)
     ·exact LR _ y
   ·exact LR _ z
  have ownL:Own K ((l::(Fs0++[aI s G]).flatten)++O++(Fs.set i []).flatten) (bo H l (.lst (vs++[v]))) (.lst s) (l::(Fs0++[aI s G]).flatten) (.ref l) (.list (ds++[p.d])):=by
   refine .lst hsv da (by simp [hl]) (by simp [hf]) ?_ fun j w d' G' e1 e2 e3=>?_
   ·have nd2:=E3.ndO
    exact (L6 nd2).1
   ·by_cases hj:j<vs.length
    ·rw [getElem?_append_left hj] at e1
     rw [getElem?_append_left (by omega)] at e2
     rw [getElem?_append_left (by omega)] at e3
     exact ((q j w d' G' e1 e2 e3).perm subH).mut hsv (LU _ hlin) (fun z=>(List.nodup_cons.mp nd).1 (ik e3 z)) hp
    ·have hj':j=vs.length:=by
      have:=(L7 e1).1
      rw [length_append,length_singleton] at this;omega
     subst hj'
     rw [getElem?_append_right (Mb _),Nat.sub_self] at e1;rw [getElem?_append_right (by omega),show vs.length-ds.length=0 by omega] at e2
     rw [getElem?_append_right (by omega),show vs.length-Fs0.length=0 by omega] at e3
     cases e1
     cases e2
     cases e3;have osub:∀a∈(l::(Fs0++[aI s G]).flatten)++O++(Fs.set i []).flatten,a∈G++O++Fs.flatten:=fun a ha=>by
      rcases LX (subH a ha) with z | z
      ·rcases LX z with z | z
       ·exact LR _ (sub a (LU _ z))
       ·exact LU _ z
      ·exact LR _ (sub a (LR _ z))
     have o3:=o.coer (s:=s) hc osub fun a ha hO=>by
      cases s with
      | leaf=>
       exfalso
       rw [w9] at hO;have hO':a∈(l::Fs0.flatten)++O++(Fs.set i []).flatten:=by simpa [aI] using hO
       have ndE:=E.nd
       rw [append_assoc] at ndE;have dis:=(L6 ndE).2.2
       rcases LX hO' with z | z
       ·rcases LX z with z | z
        ·exact dis a ha a (LR _ (sub a (LU _ z))) rfl
        ·exact dis a ha a (LU _ z) rfl
       ·exact dis a ha a (LR _ (sub a (LR _ z))) rfl
      | view=>cases hsv
      | lst s=>exact ha
      | tup ss=>exact ha
     exact o3.mut hsv (LU _ hlin) (fun z=>lnG (hG' l z)) hp
  have fin:=EnvOk.put (i:=i) (p:=⟨.lst s,.list (ds++[p.d])⟩) (v:=.ref l) E4 ownL rfl (fun a ha=>?_) (by rw [length_set];exact hi)
  ·rw [set_set,set_set,zx h1] at fin
   exact fin
  ·rcases LZ ha with z | z
   ·rw [z];exact hHe
   ·rw [w9] at z
    rcases LX z with z | z
    ·exact E.fresh a (sub a (LU _ (L5 _ z)))
    ·exact fr a (hG' a z)
theorem Ed {QL:List V->Hp->Prop} (h1:tE K W fa U H fun v H'=>QL [v] H'):tA K W (ae fa af) U H QL:=by
 obtain ⟨He,O,Fs,Γ,E,h1⟩:=h1;refine ⟨He,O,Fs,Γ,E,?_⟩
 unfold ae af
 cases e:fa Γ with
 | ok p Γ'=>
  rw [e] at h1;intro vs H' Gs Fs' A
  match vs,Gs,A.len1,A.len2 with
  | [v],[G],_,_=>exact h1 v H' G Fs' ⟨A.same,by simpa using A.env,by simpa using A.new,by simpa using A.own 0 v p G rfl rfl rfl⟩
 | er c Γ'=>rw [e] at h1;exact h1
 | no=>rw [e] at h1;exact h1
theorem qR (h:DF o=true):∃s ds,o=some (some ⟨.lst s,.list ds⟩):=by
 unfold DF at h;split at h
 ·exact ⟨_,_,rfl⟩
 ·cases h
theorem EnvOk.ownL {H:Hp} {O:List Addr} {i:Nat} {s:Sh} (E:EnvOk K He O Fs H U Γ) (h:Γ[i]?=some (some ⟨.lst s,.list ds⟩)):∃l vs,U[i]?=some (some (.ref l))/\H l=some (.lst vs)/\vs.length=ds.length:=by
 obtain ⟨hv,v,F,h1,h2,h3⟩:=E.slot i _ h
 cases h3 with
 | @lst _ l vs _ Fs0 hsv hp hl hf nd q=>exact ⟨l,vs,h1,hp,hl⟩
theorem qp {i:Nat} (h:tS K W (fA i fa) D U H):gP (wQ K "list" En (aS i) (tA K W (ae fa af))) D U H:=by
 obtain ⟨He,O,Fs,Γ,E,h⟩:=h;unfold fA at h
 cases ho:DF Γ[i]? with
 | false=>rw [ho] at h;exact h.elim
 | true=>
  rw [ho] at h;obtain ⟨s,ds,e0⟩:=qR ho;obtain ⟨l,vs,h1,h2,h3⟩:=E.ownL e0;refine ⟨.ref l,h1,.inl ⟨rfl,vs,.of h2⟩,Ed (fQ (D:=D) ⟨He,O,Fs,Γ,E,h⟩ fun He O Fs Γ1 p v H1 G Fs1 _ fr A w=>?_)⟩
  unfold zh at w;split at w
  ·rename_i s1 ds1 e1
   cases hc:(T.coer s1 p&&decide (ds1.length<sizeLine)) with
   | false=>rw [hc] at w;exact w.elim
   | true=>
    rw [hc] at w;simp only [Bool.and_eq_true,decide_eq_true_eq] at hc
    obtain ⟨l1,vs1,q1,q2,q3,Fs',E'⟩:=zg A.env A.own fr e1 hc.1;rw [h1] at q1
    cases q1;exact ⟨l,vs1,v,rfl,rfl,q2,by rw [q3];exact hc.2,w U _ Fs' E'⟩
  ·exact w.elim
def bH (i:Nat) (body:FS):List Mc->Ev->dY
 | [],Γ=>.nx Γ
 | d::r,Γ=>if i<Γ.length then (match body (Γ.set i (Md d)) with
  | .nx Γ'=>bH i body r Γ'
  | .ct Γ'=>bH i body r Γ'
  | .bk Γ'=>.nx Γ'
  | .rt p=>.rt p
  | .er c Γ'=>.er c Γ'
  | .no=>.no) else .no
def cR (i:Nat) (fi:FI) (body:FS):FS:=fun Γ=>match fi Γ with
 | .ok t Γ1=>if t.st then bH i body t.ds Γ1 else .no
 | .er c Γ1=>.er c Γ1
 | .no=>.no
theorem EnvOk.rebase {H:Hp} {O:List Addr} (E:EnvOk K He O Fs H U Γ):EnvOk K (bM H Fs.flatten) O Fs H U Γ/\Same He (bM H Fs.flatten):=
 ⟨⟨E.len1,E.len2,hid_le,E.nd,E.inH,fun a ha=>by unfold bM;rw [if_pos ha],E.slot⟩,fun b o e=>w6 (E.same b o e) fun z=>by have:=E.fresh b z;rw [e] at this;cases this⟩
theorem EnvOk.unbase {H:Hp} {O:List Addr} (E:EnvOk K He' O Fs H U Γ) (s:Same He He'):EnvOk K He O Fs H U Γ:=
 ⟨E.len1,E.len2,s.trans E.same,E.nd,E.inH,fun a ha=>s.free (E.fresh a ha),E.slot⟩
theorem RetOk.unbase {H:Hp} {O:List Addr} {p:PV} {v:V} (r:RetOk K He' O p v H G) (s:Same He He'):RetOk K He O p v H G:=
 ⟨s.trans r.same,fun a ha=>s.free (r.fresh a ha),r.inH,r.nd,r.own,r.nv⟩
theorem BC {i:Nat} {body:FS} (h:tS K W (cR i fi body) D U H):xn (tI K W fi) (gName i) (tS K W body) D U H:=by
 obtain ⟨He,O,Fs,Γ,E,h⟩:=h;refine ⟨He,O,Fs,Γ,E,?_⟩
 unfold cR at h
 cases e:fi Γ with
 | er c Γ1=>rw [e] at h;exact fun H' Fs' s E'=>h U H' Fs' E'
 | no=>rw [e] at h;exact h
 | ok t Γ1=>
  rw [e] at h;intro J H1 Fs1 vs P s1 E1 n1 it hP hP1 hst hr;have h:kj K W He O D (if t.st then bH i body t.ds Γ1 else .no):=h
  cases ht:t.st with
  | false=>rw [ht] at h;exact h.elim
  | true=>
   rw [ht] at h;have h:kj K W He O D (bH i body t.ds Γ1):=h
   obtain ⟨E1',sHe⟩:=E1.rebase;have hlen:vs.length=t.ds.length:=hr.1
   refine ⟨fun k m U' H'=>m=vs.length-k/\k<=vs.length/\∃Γk Fk,EnvOk K (bM H1 Fs1.flatten) O Fk H' U' Γk/\kj K W He O D (bH i body (t.ds.drop k) Γk),⟨vs.length,by simp,Nat.zero_le _,Γ1,Fs1,E1',by simpa using h⟩,?_⟩
   rintro k m U' H' ⟨rfl,hk,Γk,Fk,Ek,hw⟩
   have hPk:P H':=hst ht H' Ek.same
   by_cases hlt:k<vs.length
   case neg=>
    left
    have hke:k=vs.length:=by omega
    have:t.ds.drop k=[]:=drop_eq_nil_of_le (by omega)
    rw [this] at hw;exact ⟨by rw [hke];exact it.stop H' hPk,hw U' H' Fk (Ek.unbase sHe)⟩
   case pos=>
    right
    have hv:vs[k]?=some vs[k]:=L0 hlt
    have hkd:k<t.ds.length:=by omega
    have hd:t.ds[k]?=some t.ds[k]:=L0 hkd
    have hdr:t.ds.drop k=t.ds[k]::t.ds.drop (k+1):=drop_eq_getElem_cons hkd
    rw [hdr] at hw;generalize hdk:t.ds[k]=d at hd hw
    generalize hvk:vs[k]=v at hv
    obtain ⟨hgo,hyld⟩:=it.go k H' v hPk hv
    simp only [bH] at hw
    by_cases hi:i<Γk.length
    case neg=>rw [if_neg hi] at hw;exact hw.elim
    rw [if_pos hi] at hw;have rep:Rep K (bM H' (O++Fk.flatten)) v d:=by
     refine (hr.2 k v d hv hd).mono fun b o hb=>?_
     have hb1:bM H1 Fs1.flatten b=some o:=sub_hid b o hb
     have hbO:b∉O:=fun z=>by
      unfold bM at hb;rw [if_pos (LU _ z)] at hb
      cases hb
     have hbF:b∉Fk.flatten:=fun z=>by
      have:=Ek.fresh b z
      rw [hb1] at this
      cases this
     exact w6 (Ek.same b o hb1) fun z=>(LX z).elim hbO hbF
    have Ep:EnvOk K (bM H1 Fs1.flatten) O (Fk.set i []) H' (U'.set i (some v)) (Γk.set i (Md d)):=
     EnvOk.put (G:=[]) (p:=⟨.leaf,d⟩) (v:=v) Ek (.leaf rep) rfl (fun a ha=>by simp at ha) hi
    refine ⟨hgo,fun U2 H2=>∃Γk Fk,EnvOk K (bM H1 Fs1.flatten) O Fk H2 U2 Γk/\kj K W He O D (bH i body (t.ds.drop (k+1)) Γk),fun U2 H2 q=>⟨vs.length-(k+1),by omega,rfl,hlt,q⟩,fun x Hx hx=>?_⟩
    obtain ⟨rfl,rfl⟩:=hyld x Hx hx;show tS K W body _ (U'.set i (some x)) Hx
    refine ⟨bM H1 Fs1.flatten,O,_,_,Ep,?_⟩
    cases eb:body (Γk.set i (Md d)) with
    | nx Γ'=>rw [eb] at hw;exact fun U2 H2 F2 E2=>⟨Γ',F2,E2,hw⟩
    | ct Γ'=>rw [eb] at hw;exact fun U2 H2 F2 E2=>⟨Γ',F2,E2,hw⟩
    | bk Γ'=>rw [eb] at hw;exact fun U2 H2 F2 E2=>hw U2 H2 F2 (E2.unbase sHe)
    | rt p=>rw [eb] at hw;exact fun u H2 G r=>hw u H2 G (r.unbase sHe)
    | er c Γ'=>rw [eb] at hw;exact fun U2 H2 F2 E2=>hw U2 H2 F2 (E2.unbase sHe)
    | no=>rw [eb] at hw;exact hw
end
inductive bz where
 | ok (p:PV) | er (c:Str) | no
def qf (K:Fg) (n:Nat) (den:List Mc->bz):Sp:=fun vs H Q _=>vs.length=n/\∃O ds,O.Nodup/\(∀a∈O,H a≠none)/\Reps K (bM H O) vs ds/\match den ds with
 | .ok p=>∀v H' G,RetOk K H O p v H' G->Q v H'
 | .er _=>False
 | .no=>False
def aR (n:Nat) (ds:List Mc):Ev:=ds.map (fun d=>some ⟨.leaf,d⟩)++List.replicate (n-ds.length) none
def aC (n:Nat) (g:FS) (ds:List Mc):bz:=match g (aR n ds) with
 | .nx _=>.ok ⟨.leaf,.none⟩
 | .rt p=>.ok p
 | .er c _=>.er c
 | _=>.no
section
variable {P:Program} {w:World} {K:Fg} {mg:Str->Option Value} {base:Heap}
theorem Jh {H:Hp} {O:List Addr} (hn:vs.length<=N.length) (nd:O.Nodup) (inH:∀a∈O,H a≠none) (rs:Reps K (bM H O) vs ds) :
  EnvOk K H O (List.replicate N.length []) H (L2.start N vs) (aR N.length ds):=by
 have fl:(List.replicate N.length ([]:List Addr)).flatten=[]:=by simp
 have hl:=rs.1
 refine ⟨by simp [L2.start,aR,hl],by simp [aR];omega,Same.refl _,by rw [fl];simpa using nd,by rw [fl];simpa using inH,fun a ha=>by rw [fl] at ha;simp at ha,fun i p hp=>?_⟩
 unfold aR at hp;by_cases hi:i<ds.length
 ·rw [getElem?_append_left (by simpa using hi),getElem?_map,L0 hi] at hp
  cases hp;refine ⟨rfl,vs[i]'(by omega),[],?_,?_,?_⟩
  ·unfold L2.start
   rw [getElem?_append_left (by simp;omega),getElem?_map,L0 (by omega)]
   rfl
  ·rw [getElem?_replicate,if_pos (by omega)]
  ·refine .leaf ?_
   rw [fl,append_nil];exact rs.2 i _ _ (L0 _) (L0 hi)
 ·rw [getElem?_append_right (by simpa using hi),getElem?_replicate] at hp
  split at hp<;>cases hp
theorem vI {st:Stmt} {f:Addr} {k:Nat} {g:FS} (F:Fun K x qual st f fd) (S:bK N ps (dM st))
  (hb:∀(cdv:Value) (A:Around) (outer:List Env) (s:Shared) (H:Hp) (E:XK),Room k (A.deeper (envOfC qual (dM st) s.heap.objs.size f cdv)) ->
   PSs (eh ip P w K mg base N qual (dM st) f cdv A outer s H E).nox (jv st) (tS K W0 g)):cO P w K mg base ip (k+1) f fd ps (qf K ps.length (aC N.length g)):=by
 have hpl:ps.length<=N.length:=by have:=congrArg List.length S.pre;rw [length_take] at this;omega
 refine F.ok S (fun vs H Q E h=>h.1) (fun cdv A outer s H vs Q E hr h=>⟨_,hb cdv A outer s H E hr,?_⟩)
 obtain ⟨hl,O,ds,nd,inH,rs,w⟩:=h;refine ⟨H,O,List.replicate N.length [],aR N.length ds,Jh (by omega) nd inH rs,?_⟩
 unfold aC at w
 cases e:g (aR N.length ds) with
 | nx Γ'=>
  rw [e] at w;exact fun U' H' Fs' E'=>w .non H' [] ⟨E'.same,(fun _ z=>nomatch z),(fun _ z=>nomatch z),nodup_nil,.leaf .non,rfl⟩
 | rt p=>rw [e] at w;exact w
 | bk Γ'=>rw [e] at w;exact w.elim
 | ct Γ'=>rw [e] at w;exact w.elim
 | er c Γ'=>rw [e] at w;exact w.elim
 | no=>rw [e] at w;exact w.elim
end
def aj (n:Nat) (den:List Mc->bz) (fl:FL):F1:=fun Γ=>(fl Γ).bind fun ps Γ'=>if ps.length=n then (match den (ps.map (·.d)) with
 | .ok p=>if ps.all (T.coer .leaf) then .ok p Γ' else if ba p.d then .ok ⟨.leaf,p.d⟩ Γ' else .ok ⟨.view,p.d⟩ Γ'
 | _=>.no) else .no
section
variable {K:Fg} {W:XW} {U:St} {H:Hp} {Q:VK} {fl:FL}
theorem xN {n:Nat} {E:XK} (h:tE K W (aj n den fl) U H Q):kF (qf K n den) [] E (tA K W fl) U H Q:=by
 obtain ⟨He,O,Fs,Γ,E0,h⟩:=h;refine ⟨He,O,Fs,Γ,E0,?_⟩
 unfold aj at h
 cases e:fl Γ with
 | er c Γ'=>rw [e] at h;exact h
 | no=>rw [e] at h;exact h
 | ok ps Γ1=>
  rw [e] at h;intro vs H1 Gs Fs1 A;have h:Wants K W He O Fs H U Q (if ps.length=n then (match den (ps.map (·.d)) with | .ok p=>if ps.all (T.coer .leaf) then .ok p Γ1 else if ba p.d then .ok ⟨.leaf,p.d⟩ Γ1 else .ok ⟨.view,p.d⟩ Γ1 | _=>.no) else .no):=h
  by_cases hn:ps.length=n
  case neg=>rw [if_neg hn] at h;exact h.elim
  rw [if_pos hn] at h;have hl:(vs++[]).length=n:=by rw [append_nil,A.len1];exact hn
  cases ed:den (ps.map (·.d)) with
  | er c=>rw [ed] at h;exact h.elim
  | no=>rw [ed] at h;exact h.elim
  | ok p=>
   rw [ed] at h;have h:Wants K W He O Fs H U Q (if ps.all (T.coer .leaf) then .ok p Γ1 else if ba p.d then .ok ⟨.leaf,p.d⟩ Γ1 else .ok ⟨.view,p.d⟩ Γ1):=h
   obtain ⟨n1,n2,n3⟩:=L6 A.env.nd;obtain ⟨m1,m2,m3⟩:=L6 n1;have newF:∀a∈Fs1.flatten,a∈Fs.flatten\/H a=none:=fun a ha=>A.new a (LR _ ha)
   cases hc:ps.all (T.coer .leaf) with
   | true=>
    rw [hc] at h;have h:Wants K W He O Fs H U Q (.ok p Γ1):=h
    refine ⟨hl,O++Fs1.flatten,ps.map (·.d),A.env.dropL.nd,A.env.dropL.inH,?_,?_⟩
    ·rw [append_nil]
     refine ⟨A.reps.1,fun i v d h1 h2=>?_⟩
     rw [getElem?_map] at h2
     cases e2:ps[i]? with
     | none=>rw [e2] at h2;cases h2
     | some q=>
      rw [e2] at h2
      cases h2;have hi:=(L7 e2).1
      have e3:Gs[i]?=some (Gs[i]'(by rw [A.len2];exact hi)):=L0 _
      have o:=A.own i v q _ h1 e2 e3
      have o2:=o.coer (s:=.leaf) (O':=O++Fs1.flatten) (List.all_eq_true.mp hc q (mem_of_getElem? e2)) iq fun a ha z=>by
       exfalso
       have hG:=ik e3 ha
       rcases LX z with y | y
       ·exact m3 a hG a y rfl
       ·exact n3 a (LU _ hG) a y rfl
      cases o2 with
      | leaf r=>exact r
    ·rw [ed]
     intro v H2 G r;refine h v H2 G Fs1 ⟨A.same.trans r.same,A.env.dropL.hide r.same r.nd r.fresh r.inH,fun a ha=>?_,by rw [append_assoc];exact r.own⟩
     rcases LX ha with z | z
     ·exact .inr (A.same.free (r.fresh a z))
     ·exact newF a z
   | false=>
    rw [hc] at h;have h:Wants K W He O Fs H U Q (if ba p.d then .ok ⟨.leaf,p.d⟩ Γ1 else .ok ⟨.view,p.d⟩ Γ1):=h
    refine ⟨hl,[],ps.map (·.d),nodup_nil,(fun _ z=>nomatch z),by rw [append_nil,Eh];exact A.reps,?_⟩
    rw [ed];intro v H2 G r
    cases hs:ba p.d with
    | true=>
     rw [hs] at h;exact Wants.scal h (r.own.rep.sc hs) (A.same.trans r.same) (A.env.dropL.grow r.same) (fun a ha=>ha) E0.ndO newF
    | false=>
     rw [hs] at h;have h:Wants K W He O Fs H U Q (.ok ⟨.view,p.d⟩ Γ1):=h
     exact h v H2 [] Fs1 ⟨A.same.trans r.same,by simpa using A.env.dropL.grow r.same,by simpa using newF,.view r.own.rep⟩
end
theorem Ao:bootBuiltins "len"=some (.builtin "len"):=by decide +kernel
theorem Gq:bootBuiltins "all"=some (.builtin "all"):=by decide +kernel
theorem Gp:bootBuiltins "any"=some (.builtin "any"):=by decide +kernel
theorem Gn:bootBuiltins "min"=some (.builtin "min"):=by decide +kernel
theorem mF:bootBuiltins "sorted"=some (.builtin "sorted"):=by decide +kernel
theorem JB:bootBuiltins "isinstance"=some (.builtin "isinstance"):=by decide +kernel
theorem Ap:bootBuiltins "int"=some (.type "int"):=by decide +kernel
theorem D6:bootBuiltins "list"=some (.type "list"):=by decide +kernel
theorem ze:bootBuiltins "tuple"=some (.type "tuple"):=by decide +kernel
theorem Dt:bootBuiltins "bool"=some (.type "bool"):=by decide +kernel
section
variable {X:Cx} {W:XW} {a b c e:Expr} {es:List Expr} {pos:Pos} {fa fb fc:F1} {fl:FL} {ga gb:FB} {g1 g2:FS}
theorem Dl {op:CmpOp} {r:R2} {g:Mc->Mc->Option Mc} (ho:OpR X (compareOp op) r) (hg:GOp X.K r g) (ha:PE X a (tE X.K W fa)) (hb:PE X b (tE X.K W fb)) (hm:behindInMarks op b=false:=by with_unfolding_all rfl) :
  PE X (.Compare a [op] [b] pos) (tE X.K W (aA g fa fb)):=aJ (ya ho ha hb hm) fun _ _ _=>fR hg
theorem Dh {op:CmpOp} {r:R2} {g:Mc->Mc->Option Mc} (ho:OpR X (compareOp op) r) (hg:GOp X.K r g) (ha:PE X a (tE X.K W fa)) (hb:PE X b (tE X.K W fb)) (hm:behindInMarks op b=false:=by with_unfolding_all rfl) :
  PT X (.Compare a [op] [b] pos) (tT X.K W (aF ao (aA g fa fb))):=jt (xS ho ha hb hm) fun U H QB=>oW fun Q=>fR hg
theorem vZ {op:CmpOp} {r r':R2} {g:Mc->Mc->Option Mc} (ho:OpR X (compareOp op) r) (hg:GOp X.K r g) (ho':OpR X (compareOp op') r') (hg':GOp X.K r' g') (ha:PE X a (tE X.K W fa)) (hb:PE X b (tE X.K W fb)) (hc:PE X c (tE X.K W fc))
  (hm:lastMarks [op,op'] [b,c]=false:=by with_unfolding_all rfl):PE X (.Compare a [op,op'] [b,c] pos) (tE X.K W (se g g' fa fb fc)):=aJ (uT ho ho' ha hb hc hm) fun _ _ _=>kT hg hg'
theorem vQ {op:CmpOp} {r r':R2} {g:Mc->Mc->Option Mc} (ho:OpR X (compareOp op) r) (hg:GOp X.K r g) (ho':OpR X (compareOp op') r') (hg':GOp X.K r' g') (ha:PE X a (tE X.K W fa)) (hb:PE X b (tE X.K W fb)) (hc:PE X c (tE X.K W fc))
  (hm:lastMarks [op,op'] [b,c]=false:=by with_unfolding_all rfl):PT X (.Compare a [op,op'] [b,c] pos) (tT X.K W (aF ao (se g g' fa fb fc))):=jt (uE ho ho' ha hb hc hm) fun U H QB=>oW fun Q=>kT hg hg'
theorem da_nil:PA X [] (tA X.K W af):=pS mP fun _ _ _=>Bu
theorem da_cons (ha:PE X e (tE X.K W fa)) (hr:PA X es (tA X.K W fl)) (hs:starEach (e::es) X.env=(false,eval e X.env)::starEach es X.env:=by rfl):PA X (e::es) (tA X.K W (ae fa fl)):=pS (gM ha hr hs) fun _ _ _=>oZ
theorem v7 {id:String} {r:List V->Hp->VK->Prop} {g:List Mc->Option Mc} {p:Pos} (hc:CallR X (.builtin id) r) (hg:GCall X.K r g) (hv:bootBuiltins x=some (.builtin id)) (hm:X.mg x=none) (ha:PA X (e::es) (tA X.K W fl)) (hG:Gl X x:=by rfl)
  (hn:x ≠ "__name__":=by decide) (hdb:(x==("__debug__":Str))=false:=by decide) (he:starEach (e::es) X.env=(false,eval e X.env)::starEach es X.env:=by rfl) (hpl:(backTo pos (starEach es X.env)).any (·.1)=false:=by rfl) :
  PE X (.Call (.Name x p) (e::es) [] pos) (tE X.K W (bh g fl)):=aJ (AG hc hG hm hv ha hn hdb he hpl) fun _ _ _=>o4 hg
theorem F9 {id:String} {r:List V->Hp->VK->Prop} {g:List Mc->Option Mc} {p:Pos} (hc:CallR X (.type id) r) (hg:GCall X.K r g) (hv:bootBuiltins x=some (.type id)) (hm:X.mg x=none) (ha:PA X (e::es) (tA X.K W fl)) (hG:Gl X x:=by rfl)
  (hn:x ≠ "__name__":=by decide) (hdb:(x==("__debug__":Str))=false:=by decide) (he:starEach (e::es) X.env=(false,eval e X.env)::starEach es X.env:=by rfl) (hpl:(backTo pos (starEach es X.env)).any (·.1)=false:=by rfl) :
  PE X (.Call (.Name x p) (e::es) [] pos) (tE X.K W (bh g fl)):=aJ (Jo hc hG hm hv ha hn hdb he hpl) fun _ _ _=>o4 hg
theorem rJ {p:Pos} (hm:X.mg "list"=none) (ha:PE X e (tE X.K W fa)) (hG:Gl X "list":=by rfl) (hs:starEach [e] X.env=[(false,eval e X.env)]:=by rfl) :
  PE X (.Call (.Name "list" p) [e] [] pos) (tE X.K W (mT fa)):=aJ (Jo fx hG hm D6 (da_cons ha da_nil hs) (by decide) (by decide) hs rfl) fun _ _ _=>qo
theorem yV {f:Addr} {k n:Nat} {p:Pos} (F:cO X.prog X.w X.K X.mg X.base ip k f fd ps (qf X.K n den)) (hr:Room k X.A) (hm:X.mg x=some (.ref f)) (hk:PySem.W.keepIn X.K (.ref f)=true)
  (hb:Binds X.K fd ps []) (ha:PA X (e::es) (tA X.K W fl)) (hg:Gl X x:=by rfl) (hdb:(x==("__debug__":Str))=false:=by decide) (he:starEach (e::es) X.env=(false,eval e X.env)::starEach es X.env:=by rfl)
  (hpl:(backTo pos (starEach es X.env)).any (·.1)=false:=by rfl):PE X (.Call (.Name x p) (e::es) [] pos) (tE X.K W (aj n den fl)):=aJ (IG F hr hg hm hk hb .nil uW ha hdb he hpl) fun _ _ _=>xN
theorem F8 {p:Pos} (hm:X.mg "range"=none) (ha:PA X [a] (tA X.K W fl)) (hg:Gl X "range":=by rfl) (hs:starEach [a] X.env=[(false,eval a X.env)]:=by rfl):PI X tg (.Call (.Name "range" p) [a] [] pos) (tI X.K W (lR fl)):=pR (qx hg hm ha hs) fun _ _ _=>BB
theorem F7 {p:Pos} (hm:X.mg "range"=none) (ha:PA X [a,b] (tA X.K W fl)) (hg:Gl X "range":=by rfl) (hs:starEach [a,b] X.env=[(false,eval a X.env),(false,eval b X.env)]:=by rfl) (hs2:starEach [b] X.env=[(false,eval b X.env)]:=by rfl) :
  PI X tg (.Call (.Name "range" p) [a,b] [] pos) (tI X.K W (Ag fl)):=pR (qw hg hm ha hs hs2) fun _ _ _=>BA
def aG:FB:=fun Γ=>.ok true Γ
theorem yU {fc:FB} (s:Sh) (i:Nat) (S:cX X.N [i] X.env.scope scope) (hN:X.N.Nodup) (hi':PI X (.Name x px) iter (tI X.K W fi))
  (hc:∀cells C s₀ H₀ ex,PF (blk X scope cells C s₀ H₀ ex) ifs (tT X.K W0 fc)) (he:∀cells C s₀ H₀ ex,PE (blk X scope cells C s₀ H₀ ex) elt (tE X.K W0 fe))
  (hcalm:X.calm=true:=by rfl) (hx:X.N[i]?=some x:=by rfl) (hl:∀cells C s₀ H₀ ex,Loc (blk X scope cells C s₀ H₀ ex).env.scope x:=by first | exact fun _ _ _ _ _=>Or.inl rfl | exact fun _ _ _ _ _=>Or.inr rfl)
  (hf:∀cells C s₀ H₀ ex,(blk X scope cells C s₀ H₀ ex).fn x=true\/(blk X scope cells C s₀ H₀ ex).env.scope.names.lookup x=some .local:=by first | exact fun _ _ _ _ _=>Or.inr rfl | exact fun _ _ _ _ _=>Or.inl rfl)
  (hs:∀x,foldedSetIterable iter X.env x=pure x:=by intro _;rfl):PE X (.ListComp elt [⟨.Name x px,iter,ifs,0⟩] scope pos) (tE X.K W (aq s i fi fc fe)):=
 aJ (IH S hcalm hi' (fun cells C s₀ H₀ ex=>sN (X:=blk X scope cells C s₀ H₀ ex) (i:=i) hN hx (hl cells C s₀ H₀ ex) (hf cells C s₀ H₀ ex)) hc he hs) fun _ _ _=>II
theorem Di (own:Bool) (i:Nat) (hN:X.N.Nodup) (ha:PE X a (tE X.K W fa)) (hi:X.N[i]?=some x:=by rfl) (hx:Loc X.env.scope x:=by first | exact Or.inl rfl | exact Or.inr rfl) (hs:swapsWith a (some (.Name x pos')) pos.line X.env=pure false:=by rfl)
  (hf:X.fn x=true\/X.env.scope.names.lookup x=some .local:=by first | exact .inl rfl | exact .inr rfl):PS X (.Assign [.Name x pos'] a pos) (tS X.K W (ay own i fa)):=b8 (Aw hN hi hx ha hs hf) fun _ _ _=>GQ
theorem nN (own:Bool) (j:Nat) {spos:Pos} {fc:FB} (s:Sh) (i:Nat) (S:cX X.N [i] X.env.scope scope) (hN:X.N.Nodup) (hi':PI X (.Name x px) iter (tI X.K W fi))
  (hc:∀cells C s₀ H₀ ex,PF (blk X scope cells C s₀ H₀ ex) ifs (tT X.K W0 fc)) (he:∀cells C s₀ H₀ ex,PE (blk X scope cells C s₀ H₀ ex) elt (tE X.K W0 fe))
  (hsw:swapsWith (.ListComp elt [⟨.Name x px,iter,ifs,0⟩] scope pos) (some (.Name y pos')) spos.line X.env=pure true:=by rfl)
  (hy:X.N[j]?=some y:=by rfl) (hly:X.env.scope.names.lookup y=some .local:=by rfl)
  (hcalm:X.calm=true:=by rfl) (hx:X.N[i]?=some x:=by rfl) (hl:∀cells C s₀ H₀ ex,Loc (blk X scope cells C s₀ H₀ ex).env.scope x:=by first | exact fun _ _ _ _ _=>Or.inl rfl | exact fun _ _ _ _ _=>Or.inr rfl)
  (hf:∀cells C s₀ H₀ ex,(blk X scope cells C s₀ H₀ ex).fn x=true\/(blk X scope cells C s₀ H₀ ex).env.scope.names.lookup x=some .local:=by first | exact fun _ _ _ _ _=>Or.inr rfl | exact fun _ _ _ _ _=>Or.inl rfl)
  (hs:∀x,foldedSetIterable iter X.env x=pure x:=by intro _;rfl):PS X (.Assign [.Name y pos'] (.ListComp elt [⟨.Name x px,iter,ifs,0⟩] scope pos) spos) (tS X.K W (ay own j (aq s i fi fc fe))):=
 b8 (Jt hN hy hly S hcalm hi' (fun cells C s₀ H₀ ex=>sN (X:=blk X scope cells C s₀ H₀ ex) (i:=i) hN hx (hl cells C s₀ H₀ ex) (hf cells C s₀ H₀ ex)) hc he hsw hs) fun D U H h=>by
  have h2:fG (tE X.K W (aq s i fi fc fe)) (gName j) D U H:=GQ h
  exact II h2
theorem rf (i:Nat) {p:Pos} (ha:PE X a (tE X.K W fa)) (hN:X.N[i]?=some x:=by rfl) (hv:Dv X.env.scope x:=by first | exact Or.inl rfl | exact Or.inr (Or.inl rfl) | exact Or.inr (Or.inr rfl)) (hd:(x==("__debug__":Str))=false:=by decide)
  (hcd:(x==("__classdict__":Str))=false:=by decide) (hs:starEach [a] X.env=[(false,eval a X.env)]:=by rfl)
  (hbase:attributeBase (.Name x p) "append" X.env (eval (.Name x p) X.env)=eval (.Name x p) X.env:=by rfl) (hline:(apos.endLine==cpos.line)=true:=by rfl)
  (hfew:((backTo cpos (starEach [a] X.env)).all (fun x=>!x.1)&&(backToKw cpos (keywordEach [] X.env)).all (fun x=>x.1.isSome)
   && decide ([a].length+([]:List Keyword).length+(if ([]:List Keyword).isEmpty then 0 else 1)<30))=true:=by rfl)
  (hsw:swapsWith (.Call (.Attribute (.Name x p) "append" apos) [a] [] cpos) none pos.line X.env=pure false:=by rfl) :
  PS X (.Expr (.Call (.Attribute (.Name x p) "append" apos) [a] [] cpos) pos) (tS X.K W (fA i fa)):=
 b8 (El (fT PySem.F.plainAttrs_list PySem.F.slot_list_append PySem.F.type_list_append Hm (km hN hv hd hcd) (da_cons ha da_nil hs) hbase hfew hline hs rfl) hsw) fun _ _ _=>qp
theorem Dj (i:Nat) {body:List Stmt} {g:FS} (hp:PassesOwn (model X.prog X.w) X.A X.env X.xe) (hN:X.N.Nodup) (hi':PI X (.Name x px) iter (tI X.K W fi)) (hb:PSs X body (tS X.K W g)) (hcalm:X.calm=true:=by rfl)
  (hx:X.N[i]?=some x:=by rfl) (hl:Loc X.env.scope x:=by first | exact Or.inl rfl | exact Or.inr rfl) (hf:X.fn x=true\/X.env.scope.names.lookup x=some .local:=by first | exact .inl rfl | exact .inr rfl)
  (hs:∀x,foldedSetIterable iter X.env x=pure x:=by intro _;rfl):PS X (.For (.Name x px) iter body [] pos) (tS X.K W (cR i fi g)):=
 b8 (Io hp hcalm hi' (sN hN hx hl hf) hb hs) fun _ _ _=>BC
end
structure Cp (X:Cx) (N gl:List Str) (vs cs ls lo gs:List Nat):Prop where
 hN:X.N=N
 nd:N.Nodup
 nm:∀x∈N,(x==("__debug__":Str))=false/\(x==("__classdict__":Str))=false
 ng:∀x∈gl,(x==("__debug__":Str))=false/\x ≠ "__name__"
 vis:∀(i:Nat) x,N[i]?=some x->vs.contains i=true->Dv X.env.scope x
 cel:∀(i:Nat) x,N[i]?=some x->cs.contains i=true->X.env.scope.names.lookup x=some .cell\/X.env.scope.names.lookup x=some .free
 loc:∀(i:Nat) x,N[i]?=some x->ls.contains i=true->Loc X.env.scope x/\(X.fn x=true\/X.env.scope.names.lookup x=some .local)
 loo:∀(i:Nat) x,N[i]?=some x->lo.contains i=true->X.env.scope.names.lookup x=some .local
 glb:∀(j:Nat) x,gl[j]?=some x->gs.contains j=true->Gl X x
 calm:X.calm=true
 kind:X.env.scope.kind=.function
def zo (sc:Scope) (ks:List NameKind) (o:Option Str):Bool:=match o with
 | some x=>(match sc.names.lookup x with
  | some k=>ks.any fun z=>decide (z=k)
  | none=>false)
 | none=>true
def iO (N gl:List Str) (vs cs ls lo gs:List Nat) (sc:Scope):Bool:=
 decide (sc.kind=.function)&&(vs.all fun i=>zo sc [.local,.cell,.free] N[i]?)&&(cs.all fun i=>zo sc [.cell,.free] N[i]?)&&(ls.all fun i=>zo sc [.local,.cell] N[i]?)&&(lo.all fun i=>zo sc [.local] N[i]?)&&(gs.all fun j=>zo sc [.globalImplicit] gl[j]?)
def sA (N gl:List Str):Bool:=decide N.Nodup&&(N.all fun x=>!(x==("__debug__":Str))&&!(x==("__classdict__":Str)))&&(gl.all fun x=>!(x==("__debug__":Str))&&!decide (x = "__name__"))
theorem DN {sc:Scope} {ks:List NameKind} (h:zo sc ks (some x)=true):∃k∈ks,sc.names.lookup x=some k:=by
 unfold zo at h;simp only at h
 split at h
 ·rename_i k e
  simp only [any_eq_true,decide_eq_true_eq] at h
  obtain ⟨z,hz,rfl⟩:=h;exact ⟨z,hz,e⟩
 ·cases h
theorem D5 {P:Nat->Bool} {l:List Nat} {i:Nat} (h:l.all P=true) (hi:l.contains i=true):P i=true:=by
 rw [all_eq_true] at h;exact h i (by simpa using hi)
structure LN (N gl:List Str) (vs cs ls lo gs:List Nat) (sc:Scope):Prop where
 kind:sc.kind=.function
 vis:∀(i:Nat) x,N[i]?=some x->vs.contains i=true->Dv sc x
 cel:∀(i:Nat) x,N[i]?=some x->cs.contains i=true->sc.names.lookup x=some .cell\/sc.names.lookup x=some .free
 loc:∀(i:Nat) x,N[i]?=some x->ls.contains i=true->Loc sc x
 loo:∀(i:Nat) x,N[i]?=some x->lo.contains i=true->sc.names.lookup x=some .local
 glb:∀(j:Nat) x,gl[j]?=some x->gs.contains j=true->sc.names.lookup x=some .globalImplicit
theorem D8 {vs:List Nat} {sc:Scope} (h:iO N gl vs cs ls lo gs sc=true):LN N gl vs cs ls lo gs sc:=by
 unfold iO at h;simp only [Bool.and_eq_true,decide_eq_true_eq] at h
 obtain ⟨⟨⟨⟨⟨h0,h1⟩,h2⟩,h3⟩,h4⟩,h5⟩:=h;refine ⟨h0,fun i x e hi=>?_,fun i x e hi=>?_,fun i x e hi=>?_,fun i x e hi=>?_,fun i x e hi=>?_⟩
 ·have q:=D5 h1 hi
  rw [e] at q;obtain ⟨k,hk,q⟩:=DN q;simp only [mem_cons,not_mem_nil,or_false] at hk
  rcases hk with rfl | rfl | rfl
  ·exact .inl q
  ·exact .inr (.inl q)
  ·exact .inr (.inr q)
 ·have q:=D5 h2 hi
  rw [e] at q;obtain ⟨k,hk,q⟩:=DN q;simp only [mem_cons,not_mem_nil,or_false] at hk
  rcases hk with rfl | rfl
  ·exact .inl q
  ·exact .inr q
 ·have q:=D5 h3 hi
  rw [e] at q;obtain ⟨k,hk,q⟩:=DN q;simp only [mem_cons,not_mem_nil,or_false] at hk
  rcases hk with rfl | rfl
  ·exact .inl q
  ·exact .inr q
 ·have q:=D5 h4 hi
  rw [e] at q;obtain ⟨k,hk,q⟩:=DN q;simp only [mem_cons,not_mem_nil,or_false] at hk
  rw [hk] at q;exact q
 ·have q:=D5 h5 hi
  rw [e] at q;obtain ⟨k,hk,q⟩:=DN q;simp only [mem_cons,not_mem_nil,or_false] at hk
  rw [hk] at q;exact q
theorem GO (h:sA N gl=true):N.Nodup/\(∀x∈N,(x==("__debug__":Str))=false/\(x==("__classdict__":Str))=false)/\∀x∈gl,(x==("__debug__":Str))=false/\x ≠ "__name__":=by
 unfold sA at h;simp only [Bool.and_eq_true,decide_eq_true_eq,all_eq_true,Bool.not_eq_true',decide_eq_false_iff_not] at h
 exact ⟨h.1.1,h.1.2,h.2⟩
theorem Cp.fn {P:Program} {w:World} {base:Heap} {vs:List Nat} {sc:Scope} {f:Addr} {cd:Value} {outer:List Env} {s:Shared} {H:Hp} {E:XK}
  (h:iO N gl vs cs ls lo gs sc=true) (h':sA N gl=true):Cp (eh ip P w K mg base N qual sc f cd A outer s H E).nox N gl vs cs ls lo gs:=by
 obtain ⟨a,b,c⟩:=GO h'
 have q:=D8 h
 exact ⟨rfl,a,b,c,q.vis,q.cel,fun i x e hi=>⟨q.loc i x e hi,.inl rfl⟩,q.loo,q.glb,rfl,q.kind⟩
theorem zP {env:Env} {x:Str} {k:NameKind}:∀{names:List (Str×NameKind)},names.lookup x=some k ->
  (names.map fun (n,k)=>if (k==NameKind.free&&env.scope.kind==.function&&env.kindOf n==some .cell) then (n,NameKind.cell) else (n,k)).lookup x=some k \/
  (k=.free/\(names.map fun (n,k)=>if (k==NameKind.free&&env.scope.kind==.function&&env.kindOf n==some .cell) then (n,NameKind.cell) else (n,k)).lookup x=some .cell)
 | [],h=>by simp at h
 | (n,k')::r,h=>by
  have ih:=@zP env x k r
  rw [map_cons];show List.lookup x ((if (k'==NameKind.free&&env.scope.kind==.function&&env.kindOf n==some .cell)=true then (n,NameKind.cell) else (n,k'))::_)=_\/_/\List.lookup x ((if (k'==NameKind.free&&env.scope.kind==.function&&env.kindOf n==some .cell)=true then (n,NameKind.cell) else (n,k'))::_)=_
  by_cases hc:(k'==NameKind.free&&env.scope.kind==.function&&env.kindOf n==some .cell)=true
  ·rw [if_pos hc]
   cases hx:x==n with
   | true=>
    simp only [lookup_cons,hx] at h ⊢
    cases h;simp only [Bool.and_eq_true,beq_iff_eq] at hc
    exact .inr ⟨hc.1.1,trivial⟩
   | false=>
    simp only [lookup_cons,hx] at h ⊢
    exact ih h
  ·rw [if_neg hc]
   cases hx:x==n with
   | true=>
    simp only [lookup_cons,hx] at h ⊢
    cases h;exact .inl rfl
   | false=>
    simp only [lookup_cons,hx] at h ⊢
    exact ih h
theorem w5 {k:NameKind} (h:scope.names.lookup x=some k):(relabel scope env).names.lookup x=some k\/(k=.free/\(relabel scope env).names.lookup x=some .cell):=zP h
theorem Cp.blk {X:Cx} {N gl:List Str} {vs cs ls lo gs vs' cs' ls' lo' gs':List Nat} {scope:Scope} (S:Cp X N gl vs cs ls lo gs) (h:iO N gl vs' cs' ls' lo' gs' scope=true) (cells C s₀ H₀ ex) :
  Cp (blk X scope cells C s₀ H₀ ex) N gl vs' cs' ls' lo' gs':=by
 have q:=D8 h
 refine ⟨S.hN,S.nd,S.nm,S.ng,fun i x e hi=>?_,fun i x e hi=>?_,fun i x e hi=>?_,fun i x e hi=>?_,fun i x e hi=>?_,S.calm,q.kind⟩
 ·show Dv (relabel scope X.env) x
  rcases q.vis i x e hi with z | z | z
  ·rcases w5 (env:=X.env) z with y | ⟨y,_⟩
   ·exact .inl y
   ·cases y
  ·rcases w5 (env:=X.env) z with y | ⟨y,_⟩
   ·exact .inr (.inl y)
   ·cases y
  ·rcases w5 (env:=X.env) z with y | ⟨_,y⟩
   ·exact .inr (.inr y)
   ·exact .inr (.inl y)
 ·show (relabel scope X.env).names.lookup x=some .cell\/(relabel scope X.env).names.lookup x=some .free
  rcases q.cel i x e hi with z | z
  ·rcases w5 (env:=X.env) z with y | ⟨y,_⟩
   ·exact .inl y
   ·cases y
  ·rcases w5 (env:=X.env) z with y | ⟨_,y⟩
   ·exact .inr y
   ·exact .inl y
 ·show Loc (relabel scope X.env) x/\((scope.names.any fun y=>y.1==x&&y.2==.cell)=true\/(relabel scope X.env).names.lookup x=some .local)
  rcases q.loc i x e hi with z | z
  ·rcases w5 (env:=X.env) z with y | ⟨y,_⟩
   ·exact ⟨.inl y,.inr y⟩
   ·cases y
  ·rcases w5 (env:=X.env) z with y | ⟨y,_⟩
   ·refine ⟨.inr y,.inl ?_⟩
    rw [any_eq_true];exact ⟨(x,.cell),gW z,by simp⟩
   ·cases y
 ·show (relabel scope X.env).names.lookup x=some .local
  rcases w5 (env:=X.env) (q.loo i x e hi) with y | ⟨y,_⟩
  ·exact y
  ·cases y
 ·show (relabel scope X.env).names.lookup x=some .globalImplicit
  rcases w5 (env:=X.env) (q.glb i x e hi) with y | ⟨y,_⟩
  ·exact y
  ·cases y
def ia (N:List Str) (i:Nat) (cs:List Nat) (sc:Scope):Bool:=
 decide (sc.kind=.function)&&(sc.names.all fun p=>!decide (p.2=.free)||cs.any fun j=>decide (N[j]?=some p.1)) &&
 ((List.range N.length).all fun j=>j==i||(sc.names.all fun p=>!decide (some p.1=N[j]?)||(!decide (p.2=.local)&&!decide (p.2=.cell)))) &&
 (sc.names.all fun p=>!decide (p.2=.local)||decide (sc.names.lookup p.1=some .local)) &&
 (sc.names.all fun p=>!decide (p.2=.free)||sc.names.all fun q=>!decide (q.1=p.1)||!decide (q.2=.cell))
theorem Jf {vs:List Nat} {i:Nat} (S:Cp X N gl vs cs ls lo gs) (h:ia N i cs scope=true):cX X.N [i] X.env.scope scope:=by
 unfold ia at h;simp only [Bool.and_eq_true,decide_eq_true_eq,all_eq_true,Bool.or_eq_true,Bool.not_eq_true',decide_eq_false_iff_not,any_eq_true,mem_range,beq_iff_eq] at h
 obtain ⟨⟨⟨⟨h0,h1⟩,h2⟩,h3⟩,h4⟩:=h;refine ⟨h0,fun n hn=>?_,fun j x e hj=>?_,fun x hx e=>?_,fun n hn hc=>?_⟩
 ·rcases h1 _ hn with z | ⟨j,hj,e⟩
  ·exact absurd rfl z
  ·exact S.cel j n e (by simpa using hj)
 ·rw [S.hN] at e
  rcases h2 j (L7 e).1 with z | z
  ·rw [z];exact List.mem_singleton.mpr rfl
  ·exfalso
   rcases hj with y | y
   ·rcases z _ y with w | w
    ·exact w e.symm
    ·exact w.1 rfl
   ·rcases z _ y with w | w
    ·exact w e.symm
    ·exact w.2 rfl
 ·rcases h3 x hx with z | z
  ·exact absurd e z
  ·exact z
 ·rcases h4 _ hn with z | z
  ·exact z rfl
  ·rcases z _ hc with w | w
   ·exact w rfl
   ·exact w rfl
structure Fx (X Y:Cx):Prop where
 prog:Y.prog=X.prog
 w:Y.w=X.w
 K:Y.K=X.K
 mg:Y.mg=X.mg
 base:Y.base=X.base
 A:Y.A=X.A
def Rm (X:Cx):Prop:=X.A.units+64<cLine
def wW (X:Cx) (x:Str) (n:Nat) (den:List Mc->bz):Prop:=∃(k:Nat) (f:Addr) (fd:FuncData) (ps:List Str),cO X.prog X.w X.K X.mg X.base ip k f fd ps (qf X.K n den)/\Room k X.A/\X.mg x=some (.ref f)/\PySem.W.keepIn X.K (.ref f)=true/\Binds X.K fd ps []
def LO (X:Cx) (x:Str) (d:Mc):Prop:=∃u v,X.mg x=some u/\RelV v u/\∀H,Rep X.K H v d
section
variable {X Y:Cx} {x:Str} {m:Nat} {d:Mc}
theorem Fx.n (F:Fx X Y) (h:X.mg x=none):Y.mg x=none:=by rw [F.mg];exact h
end
section
variable {X:Cx} {N gl:List Str} {vs cs ls lo gs:List Nat} {W:XW} {a b c e:Expr} {es:List Expr} {pos p:Pos} {fa fb fc:F1} {fl:FL} {ga gb:FB} {g1 g2:FS}
theorem cv (S:Cp X N gl vs cs ls lo gs) (i:Nat) (hN:N[i]?=some x) (hv:vs.contains i=true):PE X (.Name x pos) (tE X.K W (aa i)):=by
 have m:=S.nm x (mem_of_getElem? hN)
 exact vY (km (by rw [S.hN];exact hN) (S.vis i x hN hv) m.1 m.2)
theorem cm (S:Cp X N gl vs cs ls lo gs) (i:Nat) (hN:N[i]?=some x) (hv:vs.contains i=true):PE X (.Name x pos) (tE X.K W (cD i)):=by
 have m:=S.nm x (mem_of_getElem? hN)
 exact yS (km (by rw [S.hN];exact hN) (S.vis i x hN hv) m.1 m.2)
theorem Cp.g (S:Cp X N gl vs cs ls lo gs) {j:Nat} (hj:gl[j]?=some x) (hg:gs.contains j=true):Gl X x/\(x==("__debug__":Str))=false/\x ≠ "__name__":=
 ⟨S.glb j x hj hg,S.ng x (mem_of_getElem? hj)⟩
def Fe:R2:=fun x y H Q=>o8 (fun i j=>.bl (decide (i<j))) x y H Q\/∃i j,x=.str i/\y=.str j/\Q (.bl (decide (i.cps.toList<j.cps.toList))) H
theorem Fw:OpR X (compareOp .Lt) Fe:=op_lt.or qA
def C5:Mc->Mc->Option Mc
 | .str i,.str j=>some (.bool (!decide (i.cps.toList<j.cps.toList)))
 | _,_=>none
abbrev g9:Mc->Mc->Option Mc:=fun a b=>(LJ a b).or (C5 a b)
def BL:R2:=fun x y H Q=>o8 (fun i j=>.bl (decide (j<=i))) x y H Q\/∃i j,x=.str i/\y=.str j/\Q (.bl (!decide (i.cps.toList<j.cps.toList))) H
theorem qB:OpR X (compareOp .GtE) (fun x y H Q=>∃i j,x=.str i/\y=.str j/\Q (.bl (!decide (i.cps.toList<j.cps.toList))) H):=by
 intro pins s U H x y v u Q I rx ry h;obtain ⟨i,j,rfl,rfl,q⟩:=h;obtain ⟨t,rfl⟩:=rx;obtain ⟨t',rfl⟩:=ry;exact PySem.P.ge_str (GJ I q rfl)
theorem Fy:OpR X (compareOp .GtE) BL:=op_ge.or qB
theorem yz:GOp K (fun x y H Q=>∃i j,x=.str i/\y=.str j/\Q (.bl (!decide (i.cps.toList<j.cps.toList))) H) C5:=by
 intro x y H Q a b d ra rb e k
 cases ra<;>cases rb<;>simp only [C5] at e<;>try cases e
 rename_i i j;exact ⟨i,j,rfl,rfl,k _ (.bl _)⟩
theorem CT:GOp K BL g9:=(DD fun _ _=>.bl _).or yz
structure Ck (X:Cx) (op:CmpOp) (r:R2) (g:Mc->Mc->Option Mc):Prop where
 o:OpR X (compareOp op) r
 g:GOp X.K r g
theorem kX (R:Rm X):Ck X .Lt Fe gy:=⟨Fw,CS⟩
theorem BP (R:Rm X):Ck X .LtE (o8 fun i j=>.bl (decide (i<=j))) yF:=⟨Fq,DD fun _ _=>.bl _⟩
theorem iD (R:Rm X):Ck X .Gt (o8 fun i j=>.bl (decide (j<i))) eO:=⟨Fu,DD fun _ _=>.bl _⟩
theorem Fl (R:Rm X):Ck X .GtE BL g9:=⟨Fy,CT⟩
theorem nk (R:Rm X):Ck X .Eq (qt X.K false) gz:=⟨Cc R,CU⟩
theorem kW (R:Rm X):Ck X .NotEq (qt X.K true) gL:=⟨B7 R,CQ⟩
theorem d9 (R:Rm X):Ck X .In (uy X.K false) (bB false):=⟨Cb R,vA⟩
theorem Em (R:Rm X):Ck X .NotIn (uy X.K true) (bB true):=⟨qz R,vA⟩
theorem ct {op:CmpOp} {r:R2} {g:Mc->Mc->Option Mc} (k:Ck X op r g) (ha:PE X a (tE X.K W fa)) (hb:PE X b (tE X.K W fb)) (hm:behindInMarks op b=false):PT X (.Compare a [op] [b] pos) (tT X.K W (aF ao (aA g fa fb))):=Dh k.o k.g ha hb hm
theorem cc {n:Nat} (S:Cp X N gl vs cs ls lo gs) (j:Nat) (hj:gl[j]?=some x) (hg:gs.contains j=true) (C:wW X x n den) (ha:PA X (e::es) (tA X.K W fl)) (he:starEach (e::es) X.env=(false,eval e X.env)::starEach es X.env) (hpl:(backTo pos (starEach es X.env)).any (·.1)=false) :
  PE X (.Call (.Name x p) (e::es) [] pos) (tE X.K W (aj n den fl)):=by
 obtain ⟨k,f,fd,ps,F,hr,hm,hk,hb⟩:=C;exact yV F hr hm hk hb ha (S.g hj hg).1 (S.g hj hg).2.1 he hpl
abbrev sG (X:Cx) (N gl:List Str) (vs cs ls lo gs:List Nat) (R:Cx->Prop):Prop:=∀Y:Cx,Cp Y N gl vs cs ls lo gs->Fx X Y->R Y
theorem co {fc:FB} {vs' cs' lo' gs':List Nat} (S:Cp X N gl vs cs ls lo gs) (s:Sh) (i:Nat) (hx:N[i]?=some x) (h1:ia N i cs scope=true) (h2:iO N gl vs' cs' [i] lo' gs' scope=true)
  (hi':PI X (.Name x px) iter (tI X.K W fi)) (hc:sG X N gl vs' cs' [i] lo' gs' fun Y=>PF Y ifs (tT Y.K W0 fc)) (he:sG X N gl vs' cs' [i] lo' gs' fun Y=>PE Y elt (tE Y.K W0 fe)) (hs:∀x,foldedSetIterable iter X.env x=pure x) :
  PE X (.ListComp elt [⟨.Name x px,iter,ifs,0⟩] scope pos) (tE X.K W (aq s i fi fc fe)):=by
 have B:=fun cells C s₀ H₀ ex=>S.blk h2 cells C s₀ H₀ ex
 have L:=fun cells C s₀ H₀ ex=>(B cells C s₀ H₀ ex).loc i x hx (by simp)
 exact yU (X:=X) s i (Jf S h1) (by rw [S.hN];exact S.nd) hi' (fun cells C s₀ H₀ ex=>hc _ (B cells C s₀ H₀ ex) ⟨rfl,rfl,rfl,rfl,rfl,rfl⟩) (fun cells C s₀ H₀ ex=>he _ (B cells C s₀ H₀ ex) ⟨rfl,rfl,rfl,rfl,rfl,rfl⟩)
  S.calm (by rw [S.hN];exact hx) (fun cells C s₀ H₀ ex=>(L cells C s₀ H₀ ex).1) (fun cells C s₀ H₀ ex=>(L cells C s₀ H₀ ex).2) hs
theorem Ju (hk:X.env.scope.kind=.function) (hy:X.env.scope.names.lookup y=some .local) (hl:(pos'.line==pos.line)=true)
  (hn:(scope.names.any fun (n,k)=>n==y&&(k==NameKind.local||k==NameKind.cell))=false):swapsWith (.ListComp elt gens scope pos) (some (.Name y pos')) line X.env=pure true:=by
 have e1:(X.env.blockKind==ScopeKind.function)=true:=by unfold Env.blockKind;rw [hk];rfl
 have e2:(X.env.kindOf y==some NameKind.local)=true:=by unfold Env.kindOf;rw [hy];rfl
 show (pure (X.env.blockKind==.function&&X.env.kindOf y==some .local&&pos'.line==pos.line&&!(scope.names.any fun (n,k)=>n==y&&(k==NameKind.local||k==NameKind.cell))):Sem Bool)=pure true
 rw [e1,e2,hl,hn];rfl
theorem kG (hy:X.env.scope.names.lookup y=some .cell\/X.env.scope.names.lookup y=some .free):swapsWith (.ListComp elt gens scope pos) (some (.Name y pos')) line X.env=pure false:=by
 have e2:(X.env.kindOf y==some NameKind.local)=false:=by
  unfold Env.kindOf;rcases hy with hy | hy<;>rw [hy]<;>rfl
 show (pure (X.env.blockKind==.function&&X.env.kindOf y==some .local&&pos'.line==pos.line&&!(scope.names.any fun (n,k)=>n==y&&(k==NameKind.local||k==NameKind.cell))):Sem Bool)=pure false
 rw [e2,Bool.and_false,Bool.false_and,Bool.false_and]
theorem cs_append (S:Cp X N gl vs cs ls lo gs) (i:Nat) (hi:N[i]?=some x) (hv:vs.contains i=true) (ha:PE X a (tE X.K W fa)) (hs:starEach [a] X.env=[(false,eval a X.env)])
  (hbase:attributeBase (.Name x p) "append" X.env (eval (.Name x p) X.env)=eval (.Name x p) X.env) (hline:(apos.endLine==cpos.line)=true)
  (hfew:((backTo cpos (starEach [a] X.env)).all (fun x=>!x.1)&&(backToKw cpos (keywordEach [] X.env)).all (fun x=>x.1.isSome)
   && decide ([a].length+([]:List Keyword).length+(if ([]:List Keyword).isEmpty then 0 else 1)<30))=true)
  (hsw:swapsWith (.Call (.Attribute (.Name x p) "append" apos) [a] [] cpos) none pos.line X.env=pure false) :
  PS X (.Expr (.Call (.Attribute (.Name x p) "append" apos) [a] [] cpos) pos) (tS X.K W (fA i fa)):=
 rf i ha (by rw [S.hN];exact hi) (S.vis i x hi hv) (S.nm x (mem_of_getElem? hi)).1 (S.nm x (mem_of_getElem? hi)).2 hs hbase hline hfew hsw
end
def eU (g:Mc->Option Mc) (fa:F1):F1:=aU fa fun p Γ=>match g p.d with
 | some d=>.ok ⟨.leaf,d⟩ Γ
 | none=>.no
def cG:Mc->Option Mc
 | .int i=>some (.int (-i))
 | _=>none
def LL (fa fb:F1):F1:=aU fa fun p=>aU fb fun q=>fun Γ=>match p.s,p.d,q.d with
 | .lst .leaf,.list ds,.int k=>if cN k&&decide (ds.length*k.toNat<=sizeLine) then .ok ⟨.lst .leaf,.list (List.replicate k.toNat ds).flatten⟩ Γ else .no
 | _,_,_=>.no
def pV:Option (Option PV)->Bool
 | some (some ⟨.lst .leaf,.list _⟩)=>true
 | _=>false
def Bj (i:Nat) (p q:PV) (Γ:Ev):dY:=match Γ[i]? with
 | some (some ⟨.lst .leaf,.list ds⟩)=>(match q.d with
  | .int k=>(match dI ds.length k with
   | some j=>if T.coer .leaf p then .nx (Γ.set i (some ⟨.lst .leaf,.list (ds.set j p.d)⟩)) else .no
   | none=>.no)
  | _=>.no)
 | _=>.no
def eX (i:Nat) (fv fk:F1):FS:=fun Γ=>if pV Γ[i]? then gj fv (fun p=>gj fk (Bj i p)) Γ else .no
section
variable {K:Fg} {W:XW} {U:St} {H:Hp} {Q:VK} {D:cW} {fa fb:F1} {fl:FL}
theorem EW {r:V->Hp->VK->Prop} {g:Mc->Option Mc} (hg:∀x H Q a d,Rep K H x a->g a=some d->(∀v,Sc v d->Q v H)->r x H Q) (h:tE K W (eU g fa) U H Q):KS r (tE K W fa) U H Q:=by
 refine zr h fun He O Fs Γ1 p v H1 G Fs1 nd A h1=>?_
 cases e:g p.d with
 | none=>rw [e] at h1;exact h1.elim
 | some d=>
  rw [e] at h1;exact hg v H1 Q p.d d A.own.rep e fun u hu=>Wants.scal h1 hu A.same A.env.dropL (fun a ha=>ha) nd fun a ha=>A.new a (LR _ ha)
theorem Jj:∀{Fs:List (List Addr)},(∀F∈Fs,F=[])->Fs.flatten=[]
 | [],_=>rfl
 | F::r,h=>by rw [flatten_cons,h F mem_cons_self,Jj fun G hG=>h G (L5 _ hG)];rfl
theorem Own.leaves {O:List Addr} {v:V} (h:Own K O H (.lst .leaf) G v (.list ds)):∃l vs,v=.ref l/\G=[l]/\H l=some (.lst vs)/\vs.length=ds.length/\∀(j:Nat) u d,vs[j]?=some u->ds[j]?=some d->Rep K (bM H O) u d:=by
 cases h with
 | @lst _ l vs _ Fs hsv hp hl hf nd q=>
  have hF:∀F∈Fs,F=[]:=fun F hF=>by
   obtain ⟨j,hj,e⟩:=getElem_of_mem hF;have o:=q j (vs[j]'(by omega)) (ds[j]'(by omega)) F (L0 _) (L0 _) (by rw [L0 hj,e])
   cases o;rfl
  refine ⟨l,vs,rfl,by rw [Jj hF],hp,hl,fun j u d h1 h2=>?_⟩
  have hj:=(L7 h2).1
  have o:=q j u d (Fs[j]'(by omega)) h1 h2 (L0 _)
  generalize Fs[j]'(by omega)=F at o
  cases o with
  | leaf r=>exact r
theorem Own.mkLeaves {O:List Addr} {l:Addr} (hp:H l=some (.lst vs)) (hl:vs.length=ds.length) (q:∀(j:Nat) u d,vs[j]?=some u->ds[j]?=some d->Rep K (bM H O) u d):Own K O H (.lst .leaf) [l] (.ref l) (.list ds):=by
 have hF:(List.replicate ds.length ([]:List Addr)).flatten=[]:=Jj fun F hF=>(List.mem_replicate.mp hF).2
 have o:Own K O H (.lst .leaf) (l::(List.replicate ds.length ([]:List Addr)).flatten) (.ref l) (.list ds):=by
  refine .lst rfl hp hl (by simp) (by rw [hF];simp) fun j u d F h1 h2 h3=>?_
  have:F=[]:=(List.mem_replicate.mp (mem_of_getElem? h3)).2
  subst this;exact .leaf (q j u d h1 h2)
 rw [hF] at o;exact o
theorem Ba {k:PV->PV->Ev->dY} {R:V->V->Hp->Prop} (h:tS K W (gj fa fun p=>gj fb (k p)) D U H)
  (hk:∀He O Γ2 p q v u H1 H2 G1 G2 Fs2,O.Nodup->Same H H1->Same H1 H2->EnvOk K He (G2++(G1++O)) Fs2 H2 U Γ2->(∀a∈G2++G1,He a=none) ->
   Own K (G2++(G1++O)++Fs2.flatten) H2 p.s G1 v p.d->Own K (G2++(G1++O)++Fs2.flatten) H2 q.s G2 u q.d->kj K W He O D (k p q Γ2)->R v u H2) :
  tE K W fa U H fun v H1=>tE K W fb U H1 fun u H2=>R v u H2:=by
 refine fQ h fun He O Fs Γ1 p v H1 G1 Fs1 _ fr A1 h1=>?_
 refine ⟨He,G1++O,Fs1,Γ1,A1.env,?_⟩
 unfold gj at h1;have nd:O.Nodup:=(L6 A1.env.ndO).2.1
 cases e:fb Γ1 with
 | ok q Γ2=>
  rw [e] at h1;intro u H2 G2 Fs2 A2;refine hk He O Γ2 p q v u H1 H2 G1 G2 Fs2 nd A1.same A2.same A2.env (fun a ha=>?_) (A1.own.mono A2.same fun a ha=>?_) A2.own h1
  ·rcases LX ha with z | z
   ·exact A2.freshG A1.env a z
   ·exact fr a z
  ·rcases LX ha with z | z
   ·rcases LX z with z | z
    ·rcases A2.new a (LU _ z) with y | y
     ·exact .inl (LR _ y)
     ·exact .inr y
    ·exact .inl (LU _ z)
   ·rcases A2.new a (LR _ z) with y | y
    ·exact .inl (LR _ y)
    ·exact .inr y
 | er c Γ2=>
  rw [e] at h1;intro H2 Fs2 hs E2;exact h1 U H2 Fs2 E2.dropL
 | no=>
  rw [e] at h1;exact h1
theorem IM {Q':VK} (h:tE K W fa U H Q) (hq:∀v H',Q v H'->Q' v H'):tE K W fa U H Q':=by
 obtain ⟨He,O,Fs,Γ,E,h⟩:=h;refine ⟨He,O,Fs,Γ,E,?_⟩
 cases e:fa Γ with
 | ok p Γ'=>rw [e] at h;exact fun v H' G Fs' A=>hq v H' (h v H' G Fs' A)
 | er c Γ'=>rw [e] at h;exact h
 | no=>rw [e] at h;exact h
theorem EnvOk.chg {O:List Addr} {i:Nat} (E:EnvOk K He O Fs H U Γ) (h:Γ[i]?=some (some ⟨.lst .leaf,.list ds⟩)) :
  ∃l vs,U[i]?=some (some (.ref l))/\H l=some (.lst vs)/\vs.length=ds.length/\(∀(j:Nat) u d,vs[j]?=some u->ds[j]?=some d->Rep K (bM H (O++Fs.flatten)) u d) /\
   ∀(vs':List V) (ds':List Mc),vs'.length=ds'.length->(∀(j:Nat) u d,vs'[j]?=some u->ds'[j]?=some d->Rep K (bM H (O++Fs.flatten)) u d)->∃Fs',EnvOk K He O Fs' (bo H l (.lst vs')) U (Γ.set i (some ⟨.lst .leaf,.list ds'⟩)):=by
 obtain ⟨hv,v,F,h1,E1,o1,sub⟩:=E.move h;have hi:i<Γ.length:=(L7 h).1
 obtain ⟨_,v0,F0,h10,h20,o0⟩:=E.slot i _ h;obtain ⟨l,vs,rfl,rfl,hp,hl,hr⟩:=o1.leaves;obtain ⟨l',vs',e0,e1,hp',hl',hr'⟩:=o0.leaves;rw [h1] at h10
 cases h10
 cases e0;rw [hp] at hp'
 cases hp'
 refine ⟨l,vs,h1,hp,hl,hr',fun ws ds' hw q=>?_⟩
 have hlF:l∈Fs.flatten:=sub l (LU _ (List.mem_singleton.mpr rfl))
 have hHe:He l=none:=E.fresh l hlF
 have E4:=E1.mutO (o:=.lst ws) (LU _ (List.mem_singleton.mpr rfl)) hp hHe
 have ownL:Own K ([l]++O++(Fs.set i []).flatten) (bo H l (.lst ws)) (.lst .leaf) [l] (.ref l) (.list ds'):=by
  refine Own.mkLeaves da hw fun j u d a1 a2=>?_
  rw [GT (LU _ (LU _ (List.mem_singleton.mpr rfl)))];refine (q j u d a1 a2).mono (sk (Same.refl _) fun a ha=>.inl ?_)
  rcases LX ha with z | z
  ·rcases LX z with z | z
   ·rw [List.mem_singleton.mp z];exact LR _ hlF
   ·exact LU _ z
  ·exact LR _ (sub a (LR _ z))
 have fin:=EnvOk.put (i:=i) (p:=⟨.lst .leaf,.list ds'⟩) (v:=.ref l) E4 ownL rfl (fun a ha=>by rw [List.mem_singleton.mp ha];exact hHe) (by rw [length_set];exact hi)
 rw [set_set,set_set,zx h1] at fin;exact ⟨_,fin⟩
theorem Hu (h:pV o=true):∃ds,o=some (some ⟨.lst .leaf,.list ds⟩):=by
 unfold pV at h;split at h
 ·exact ⟨_,rfl⟩
 ·cases h
theorem xD {i:Nat} (h:tS K W (eX i fa fb) D U H):fG (tE K W fa) (L2.gSub (aS i) (tE K W fb) ux) D U H:=by
 obtain ⟨He,O,Fs,Γ,E,h⟩:=h;unfold eX at h
 cases ho:pV Γ[i]? with
 | false=>rw [ho] at h;exact h.elim
 | true=>
  rw [ho] at h;obtain ⟨ds,e0⟩:=Hu ho;obtain ⟨l,vs,h1,h2,h3,_,_⟩:=E.chg e0;refine IM (Ba (D:=D) (R:=fun v u H2=>ux (.ref l) u v H2 fun H3=>D.nx U H3) ⟨He,O,Fs,Γ,E,h⟩ fun He O Γ2 p q v u H1 H2 G1 G2 Fs2 nd s1 s2 E2 fr o1 o2 w=>?_) fun v H' q=>⟨.ref l,h1,q⟩
  unfold Bj at w;split at w
  ·rename_i ds1 e1
   split at w
   ·rename_i k ek
    split at w
    ·rename_i j ej
     cases hc:T.coer .leaf p with
     | false=>rw [hc] at w;exact w.elim
     | true=>
      rw [hc] at w;have E3:EnvOk K He O Fs2 H2 U Γ2:=E2.drop (fun a ha=>LR _ (LR _ ha)) nd
      obtain ⟨l1,vs1,q1,q2,q3,q4,q5⟩:=E3.chg e1;rw [h1] at q1
      cases q1;have hu:=o2.rep
      rw [ek] at hu
      cases hu;have ov:Own K (O++Fs2.flatten) H2 .leaf [] v p.d:=by
       refine o1.coer (s:=.leaf) hc (fun a ha=>?_) fun a ha z=>?_
       ·rcases LX ha with z | z
        ·exact LU _ (LR _ (LR _ z))
        ·exact LR _ z
       ·exfalso
        have ndE:=E2.nd
        rw [append_assoc] at ndE;have n2:=(L6 ndE).2.1
        rw [append_assoc] at n2;exact (L6 n2).2.2 a ha a z rfl
      cases ov with
      | leaf rv=>
       have ixl:dI vs1.length k=some j:=by rw [q3];exact ej
       obtain ⟨Fs',E4⟩:=q5 (vs1.set j v) (ds1.set j p.d) (by rw [length_set,length_set,q3]) fun m x d a1 a2=>by
        by_cases hm:m=j
        ·subst hm
         rw [List.getElem?_set] at a1 a2
         rw [if_pos rfl] at a1 a2
         split at a1
         ·split at a2
          ·cases a1;cases a2;exact rv
          ·cases a2
         ·cases a1
        ·rw [getElem?_set_ne (Ne.symm hm)] at a1 a2
         exact q4 m x d a1 a2
       exact ⟨l,vs1,k,j,rfl,rfl,q2,ixl,w U _ Fs' E4⟩
    ·exact w.elim
   ·exact w.elim
  ·exact w.elim
end
section
variable {K:Fg} {W:XW} {U:St} {H:Hp} {Q:VK} {D:cW} {fa fb:F1} {fl:FL}
theorem Ji:∀{Gs:List (List Addr)} {i j:Nat} {A B:List Addr},Gs.flatten.Nodup->Gs[i]?=some A->Gs[j]?=some B->i≠j->∀a∈A,a∉B
 | G::Gs,0,j+1,A,B,nd,h1,h2,_,a,ha=>by
  rw [flatten_cons] at nd;simp at h1 h2
  subst h1;exact fun z=>(L6 nd).2.2 a ha a (ik h2 z) rfl
 | G::Gs,i+1,0,A,B,nd,h1,h2,_,a,ha=>by
  rw [flatten_cons] at nd;simp at h1 h2
  subst h2;exact fun z=>(L6 nd).2.2 a z a (ik h1 ha) rfl
 | G::Gs,i+1,j+1,A,B,nd,h1,h2,hij,a,ha=>by
  rw [flatten_cons] at nd;exact Ji (Gs:=Gs) (i:=i) (j:=j) (L6 nd).2.1 (by simpa using h1) (by simpa using h2) (by omega) a ha
 | G::Gs,0,0,A,B,_,_,_,h,_,_=>absurd rfl h
 | [],i,j,A,B,_,h1,_,_,_,_=>by simp at h1
end
section
variable {X:Cx}
theorem A5:Ll X (unaryOp .USub) (fun x H Q=>∃i,x=.int i/\Q (.int (-i)) H):=by
 intro pins s U H x v Q I rx h;obtain ⟨i,rfl,q⟩:=h;obtain ⟨t,rfl⟩:=rx;exact neg_int ⟨.int (-i),H,I.tok _,⟨_,rfl⟩,q⟩
end
section
variable {X:Cx}
variable {N gl:List Str} {vs cs ls lo gs:List Nat} {W:XW} {a b c e:Expr} {es:List Expr} {pos p:Pos} {fa fb fc:F1} {fl:FL} {g:FS}
theorem cs_setI (S:Cp X N gl vs cs ls lo gs) (i:Nat) (hi:N[i]?=some x) (hv:vs.contains i=true) (ha:PE X a (tE X.K W fa)) (hb:PE X b (tE X.K W fb))
  (hs:swapsWithSole [.Subscript (.Name x px) b pos'] a pos.line X.env=pure false) (hw:swappedStores [.Subscript (.Name x px) b pos'] a X.env=pure none)
  (h1:(assignEach [.Subscript (.Name x px) b pos'] X.env).map (·.2)=[assign (.Subscript (.Name x px) b pos') X.env])
  (has:∀v,assign (.Subscript (.Name x px) b pos') X.env v=(do
   let ov <-holding [v] (eval (.Name x px) X.env)
   let iv <-holding [v,ov] (eval b X.env)
   standAt pos'
   holding [v,ov,iv] (setItem ov iv v)
   release [v,ov,iv] [])):PS X (.Assign [.Subscript (.Name x px) b pos'] a pos) (tS X.K W (eX i fa fb)):=by
 have m:=S.nm x (mem_of_getElem? hi)
 exact b8 (BU ha (BW (km (by rw [S.hN];exact hi) (S.vis i x hi hv) m.1 m.2) hb tX has) hs hw h1) fun _ _ _=>xD
end
def wG:Expr->Bool
 | .Starred ..=>true
 | _=>false
theorem cF {e:Expr} (h:wG e=false):starEach (e::es) env=(false,eval e env)::starEach es env:=by
 cases e<;>first | rfl | cases h
theorem dm {a:Expr} (h:wG a=false):starEach [a] env=[(false,eval a env)]:=cF h
theorem tV {a b:Expr} (h:wG a=false) (h2:wG b=false):starEach [a,b] env=[(false,eval a env),(false,eval b env)]:=by rw [cF h,dm h2]
def DefOk (P:Program) (w:World) (K:Fg) (mg:Str->Option Value) (base:Heap) (j:Nat) (x:Str) (n:Nat) (den:List Mc->bz):Prop:=
 ∃(f:Addr) (fd:FuncData) (ps:List Str),cO P w K mg base ip j f fd ps (qf K n den)/\mg x=some (.ref f)/\PySem.W.keepIn K (.ref f)=true/\Binds K fd ps []
def ou (K:Fg) (mg:Str->Option Value) (x:Str) (d:Mc):Prop:=∃u v,mg x=some u/\RelV v u/\∀H,Rep K H v d
theorem DefOk.cal {j k n:Nat} (h:DefOk X.prog X.w X.K X.mg X.base j x n den) (hr:Room k X.A) (hj:decide (j<=k)=true):wW X x n den:=by
 obtain ⟨f,fd,ps,F,a,b,c⟩:=h;exact ⟨j,f,fd,ps,F,hr.mono (of_decide_eq_true hj),a,b,c⟩
def JM:Mc->V
 | .none=>.non
 | .bool b=>.bl b
 | .int i=>.int i
 | .str x=>.str x
 | _=>.non
def rS:List Value->List Mc->Bool
 | .int i _::r,.int j::ds=>decide (i=j)&&rS r ds
 | .str x _::r,.str y::ds=>decide (x=y)&&rS r ds
 | [],[]=>true
 | _,_=>false
theorem IA:∀{us:List Value} {ds:List Mc},rS us ds=true->Vals (ds.map JM) us/\∀d∈ds,Sc (JM d) d
 | [],[],_=>⟨.nil,fun d hd=>(nomatch hd)⟩
 | .int i t::r,.int j::ds,h=>by
  simp only [rS,Bool.and_eq_true,decide_eq_true_eq] at h
  obtain ⟨rfl,h⟩:=h;obtain ⟨a,b⟩:=IA h;refine ⟨.cons ⟨t,rfl⟩ a,fun d hd=>?_⟩
  rcases LZ hd with z | z
  ·rw [z];exact .int i
  ·exact b d z
 | .str i t::r,.str j::ds,h=>by
  simp only [rS,Bool.and_eq_true,decide_eq_true_eq] at h
  obtain ⟨rfl,h⟩:=h;obtain ⟨a,b⟩:=IA h;refine ⟨.cons ⟨t,rfl⟩ a,fun d hd=>?_⟩
  rcases LZ hd with z | z
  ·rw [z];exact .str i
  ·exact b d z
def Do (its:Array Value) (ds:List Mc):Bool:=decide (its.size<=sizeLine)&&rS its.toList ds
theorem yX {dd:Option Addr} {its:Array Value} {n:Nat} {sl:Array (Option Value)} (hm:mg x=some (.ref a)) (l:K.lookup a=some ⟨.type "tuple",dd,.seq its n,sl⟩) (h:Do its ds=true):ou K mg x (.tuple ds):=by
 unfold Do at h;simp only [Bool.and_eq_true,decide_eq_true_eq] at h
 obtain ⟨v,s⟩:=IA h.2;refine ⟨.ref a,.ref a,hm,rfl,fun H=>.tup (vs:=ds.map JM) (.inr ⟨_,its,n,l,rfl,rfl,h.1,v⟩) (by simp) fun i v d h1 h2=>?_⟩
 rw [getElem?_map,h2] at h1
 cases h1;exact (s d (mem_of_getElem? h2)).rep
theorem yY {i:Int} {t:Tok} (hm:mg x=some (.int i t)):ou K mg x (.int i):=⟨.int i t,.int i,hm,⟨t,rfl⟩,fun H=>.int i⟩
theorem Cu {m:List Mc->bz} {H:Hp} {ns:List Int} {E:XK} (h:m [.list (ns.map .int)]=.ok ⟨.leaf,.bool true⟩) (hS:SqL K H a (ns.map V.int)):qf K 1 m [.ref a] H (fun v _=>v=.bl true) E:=by
 refine ⟨rfl,[],[.list (ns.map .int)],nodup_nil,(fun _ z=>nomatch z),⟨rfl,fun i v d h1 h2=>?_⟩,?_⟩
 ·rw [Eh]
  match i,h1,h2 with
  | 0,h1,h2=>
   cases h1
   cases h2;refine .lst hS (by simp) fun i v d h1 h2=>?_
   rw [getElem?_map] at h1 h2
   cases e:ns[i]? with
   | none=>rw [e] at h1;cases h1
   | some z=>
    rw [e] at h1 h2
    cases h1
    cases h2;exact .int z
  | i+1,h1,h2=>simp at h1
 ·rw [h]
  intro v H' G r
  have o:=r.own.rep
  cases o;rfl
end T
namespace TQ
open PySem PySem.Spec L2 T
open PyProof.Rows hiding St
variable {x:Str} {op':CmpOp} {r':R2} {g':Mc->Mc->Option Mc} {scope:Scope} {px pos':Pos} {iter elt tg:Expr} {ifs:List Expr} {fi:FI} {fe:F1} {vs' cs' lo' gs':List Nat}
structure Q (p:Prop):Prop where
 p:p
section
variable {X:Cx} {N gl:List Str} {vs cs ls lo gs:List Nat} {W:XW} {a b c e:Expr} {es:List Expr} {pos p:Pos} {fa fb fc:F1} {fl:FL} {ga gb:FB} {g1 g2 g:FS}
theorem w_cv (S:Cp X N gl vs cs ls lo gs) (i:Nat) (hN:N[i]?=some x) (hv:vs.contains i=true):Q (PE X (.Name x pos) (tE X.K W (aa i))):=⟨T.cv S i hN hv⟩
theorem jw (S:Cp X N gl vs cs ls lo gs) (i:Nat) (hN:N[i]?=some x) (hv:vs.contains i=true):Q (PE X (.Name x pos) (tE X.K W (cD i))):=⟨T.cm S i hN hv⟩
theorem xg (S:Cp X N gl vs cs ls lo gs) (j:Nat) {d:Mc} (hj:gl[j]?=some x) (hg:gs.contains j=true) (h:LO X x d):Q (PE X (.Name x pos) (tE X.K W (eK d))):=⟨by
 obtain ⟨u,v,h1,h2,h3⟩:=h;have q:=S.g hj hg
 exact yT q.1 h1 h2 h3 q.2.1⟩
theorem w_de_int {j:Int} {k pos}:Q (PE X (.Constant (.int j) k pos) (tE X.K W (eK (.int j)))):=⟨T.de_int ⟩
theorem mQ {j:Bool} {k pos}:Q (PE X (.Constant (.bool j) k pos) (tE X.K W (eK (.bool j)))):=⟨aJ lh fun _ _ _=>ug fun _=>.bl j⟩
theorem wN {k pos}:Q (PE X (.Constant .none k pos) (tE X.K W (eK .none))):=⟨aJ BY fun _ _ _=>ug fun _=>.non⟩
theorem sq {j:Str} {k pos}:Q (PE X (.Constant (.str j) k pos) (tE X.K W (eK (.str j)))):=⟨T.de_str ⟩
theorem sv (ha:Q (PE X a (tE X.K W fa))) (hb:Q (PE X b (tE X.K W fb))):Q (PE X (.BinOp a .Add b pos) (tE X.K W (aA bu fa fb))):=⟨have ha:=ha.p;have hb:=hb.p;aJ (fS Cd ha hb) fun _ _ _=>fR (DD fun _ _=>.int _)⟩
theorem kr (ha:Q (PE X a (tE X.K W fa))) (hb:Q (PE X b (tE X.K W fb))):Q (PE X (.BinOp a .Sub b pos) (tE X.K W (aA gSub fa fb))):=⟨have ha:=ha.p;have hb:=hb.p;aJ (fS B5 ha hb) fun _ _ _=>fR (DD fun _ _=>.int _)⟩
theorem DL (ha:Q (PE X a (tE X.K W fa))) (hb:Q (PE X b (tE X.K W fb))):Q (PE X (.BinOp a .Mult b pos) (tE X.K W (aA gv fa fb))):=⟨have ha:=ha.p;have hb:=hb.p;aJ (fS B8 ha hb) fun _ _ _=>fR (pJ (fun i j h=>by
 simp only [rX,Bool.or_eq_true,Bool.and_eq_true,decide_eq_true_eq] at h
 exact h) fun _ _=>.int _)⟩
theorem ku (ha:Q (PE X a (tE X.K W fa))) (hb:Q (PE X b (tE X.K W fb))):Q (PE X (.BinOp a .FloorDiv b pos) (tE X.K W (aA vF fa fb))):=⟨have ha:=ha.p;have hb:=hb.p;aJ (fS yc ha hb) fun _ _ _=>fR (pJ (fun i j h=>by
 simp only [zc,Bool.and_eq_true,decide_eq_true_eq] at h
 exact h) fun _ _=>.int _)⟩
theorem zz (ha:Q (PE X a (tE X.K W fa))) (hb:Q (PE X b (tE X.K W fb))):Q (PE X (.BinOp a .Mod b pos) (tE X.K W (aA gw fa fb))):=⟨have ha:=ha.p;have hb:=hb.p;aJ (fS B9 ha hb) fun _ _ _=>fR (pJ (fun i j h=>by
 simp only [zb,decide_eq_true_eq] at h
 exact h) fun _ _=>.int _)⟩
theorem sZ (ha:Q (PE X a (tE X.K W fa))) (hb:Q (PE X b (tE X.K W fb))):Q (PE X (.BinOp a .Pow b pos) (tE X.K W (aA yE fa fb))):=⟨have ha:=ha.p;have hb:=hb.p;aJ (fS B6 ha hb) fun _ _ _=>fR (pJ (fun i j h=>by
 simp only [za,Bool.and_eq_true,decide_eq_true_eq] at h
 exact ⟨h.1.1,h.1.2,h.2⟩) fun _ _=>.int _)⟩
theorem AI (ha:Q (PE X a (tE X.K W fa))):Q (PE X (.UnaryOp .USub a pos) (tE X.K W (eU cG fa))):=⟨have ha:=ha.p;aJ (Fo A5 ha) fun _ _ _=>EW fun x H Q a d r e k=>by
 cases r<;>simp only [cG] at e<;>cases e
 exact ⟨_,rfl,k _ (.int _)⟩⟩
theorem tf (ha:Q (PE X a (tE X.K W fa))):Q (PE X (.UnaryOp .Not a pos) (tE X.K W (vO fa))):=⟨have ha:=ha.p;aJ (BX ha) fun _ _ _=>Bt⟩
theorem JI {op:CmpOp} {r:R2} {g:Mc->Mc->Option Mc} (k:Ck X op r g) (ha:Q (PE X a (tE X.K W fa))) (hb:Q (PE X b (tE X.K W fb))) (hm:behindInMarks op b=false):Q (PE X (.Compare a [op] [b] pos) (tE X.K W (aA g fa fb))):=⟨have ha:=ha.p;have hb:=hb.p;Dl k.o k.g ha hb hm⟩
theorem zJ {op:CmpOp} {r:R2} {g:Mc->Mc->Option Mc} (k:Ck X op r g) (k':Ck X op' r' g') (ha:Q (PE X a (tE X.K W fa))) (hb:Q (PE X b (tE X.K W fb))) (hc:Q (PE X c (tE X.K W fc))) (hm:lastMarks [op,op'] [b,c]=false):Q (PE X (.Compare a [op,op'] [b,c] pos) (tE X.K W (se g g' fa fb fc))):=⟨have ha:=ha.p;have hb:=hb.p;have hc:=hc.p;vZ k.o k.g k'.o k'.g ha hb hc hm⟩
theorem AJ {op} (h:Q (PE X a (tE X.K W fa))):Q (PE X (.BoolOp op [a] pos) (tE X.K W fa)):=⟨L2.pe_one h.p⟩
theorem zy (ha:Q (PE X a (tE X.K W fa))) (hb:Q (PE X (.BoolOp .And (b::es) pos) (tE X.K W fb))):Q (PE X (.BoolOp .And (a::b::es) pos) (tE X.K W (fm fa fb))):=⟨have ha:=ha.p;have hb:=hb.p;aJ (B0 ha hb) fun _ _ _=>BG⟩
theorem xf (hc:Q (PT X c (tT X.K W ga))) (ha:Q (PE X a (tE X.K W fa))) (hb:Q (PE X b (tE X.K W fb))):Q (PE X (.IfExp c a b pos) (tE X.K W (FX ga fa fb))):=⟨have hc:=hc.p;have ha:=ha.p;have hb:=hb.p;aJ (uR hc ha hb) fun _ _ _=>EZ⟩
theorem w_de_idx (ha:Q (PE X a (tE X.K W fa))) (hb:Q (PE X b (tE X.K W fb))) (hs:DI b):Q (PE X (.Subscript a b pos) (tE X.K W (ag fa fb))):=⟨have ha:=ha.p;have hb:=hb.p;aJ (lg D9 ha hb hs) fun _ _ _=>Bz⟩
theorem kn (s:Sh) (h:Q (PA X es (tA X.K W fl))):Q (PE X (.List es pos) (tE X.K W (aV s fl))):=⟨have h:=h.p;aJ (Il h) fun _ _ _=>oY⟩
theorem pW {x1} (h:Q (PA X es (tA X.K W fl))):Q (PE X (.Tuple es x1 pos) (tE X.K W (bI fl))):=⟨have h:=h.p;aJ (uO h) fun _ _ _=>Br⟩
theorem wM :Q (PA X [] (tA X.K W af)):=⟨T.da_nil ⟩
theorem iV (ha:Q (PE X e (tE X.K W fa))) (hr:Q (PA X es (tA X.K W fl))) (hs:starEach (e::es) X.env=(false,eval e X.env)::starEach es X.env):Q (PA X (e::es) (tA X.K W (ae fa fl))):=⟨T.da_cons ha.p hr.p hs⟩
theorem JH {fc:FB} (S:Cp X N gl vs cs ls lo gs) (s:Sh) (i:Nat) (hx:N[i]?=some x) (h1:ia N i cs scope=true) (h2:iO N gl vs' cs' [i] lo' gs' scope=true) (hi':Q (PI X (.Name x px) iter (tI X.K W fi))) (hc:sG X N gl vs' cs' [i] lo' gs' fun Y=>Q (PF Y ifs (tT Y.K W0 fc))) (he:sG X N gl vs' cs' [i] lo' gs' fun Y=>Q (PE Y elt (tE Y.K W0 fe))) (hs:∀x,foldedSetIterable iter X.env x=pure x):Q (PE X (.ListComp elt [⟨.Name x px,iter,ifs,0⟩] scope pos) (tE X.K W (aq s i fi fc fe))):=⟨T.co S s i hx h1 h2 hi'.p (fun Y S F=>(hc Y S F).p) (fun Y S F=>(he Y S F).p) hs⟩
theorem AL {y:Str} {spos:Pos} {fc:FB} (S:Cp X N gl vs cs ls lo gs) (own:Bool) (j:Nat) (s:Sh) (i:Nat) (hy:N[j]?=some y) (hyl:lo.contains j=true) (hx:N[i]?=some x) (hsl:(pos'.line==pos.line)=true) (hsn:(scope.names.any fun (n,k)=>n==y&&(k==NameKind.local||k==NameKind.cell))=false) (h1:ia N i cs scope=true) (h2:iO N gl vs' cs' [i] lo' gs' scope=true) (hi':Q (PI X (.Name x px) iter (tI X.K W fi))) (hc:sG X N gl vs' cs' [i] lo' gs' fun Y=>Q (PF Y ifs (tT Y.K W0 fc))) (he:sG X N gl vs' cs' [i] lo' gs' fun Y=>Q (PE Y elt (tE Y.K W0 fe))) (hs:∀x,foldedSetIterable iter X.env x=pure x):Q (PS X (.Assign [.Name y pos'] (.ListComp elt [⟨.Name x px,iter,ifs,0⟩] scope pos) spos) (tS X.K W (ay own j (aq s i fi fc fe)))):=⟨by
 have hi':=hi'.p
 have hc:=fun Y S F=>(hc Y S F).p
 have he:=fun Y S F=>(he Y S F).p
 have B:=fun cells C s₀ H₀ ex=>S.blk h2 cells C s₀ H₀ ex
 have L:=fun cells C s₀ H₀ ex=>(B cells C s₀ H₀ ex).loc i x hx (by simp)
 exact nN (X:=X) own j s i (Jf S h1) (by rw [S.hN];exact S.nd) hi' (fun cells C s₀ H₀ ex=>hc _ (B cells C s₀ H₀ ex) ⟨rfl,rfl,rfl,rfl,rfl,rfl⟩) (fun cells C s₀ H₀ ex=>he _ (B cells C s₀ H₀ ex) ⟨rfl,rfl,rfl,rfl,rfl,rfl⟩)
  (Ju S.kind (S.loo j y hy hyl) hsl hsn) (by rw [S.hN];exact hy) (S.loo j y hy hyl) S.calm (by rw [S.hN];exact hx) (fun cells C s₀ H₀ ex=>(L cells C s₀ H₀ ex).1) (fun cells C s₀ H₀ ex=>(L cells C s₀ H₀ ex).2) hs⟩
theorem tq (S:Cp X N gl vs cs ls lo gs) (j:Nat) (hj:gl[j]?=some ("len":Str)) (hg:gs.contains j=true) (hm:X.mg "len"=none) (ha:Q (PA X (e::es) (tA X.K W fl))) (he:starEach (e::es) X.env=(false,eval e X.env)::starEach es X.env) (hpl:(backTo pos (starEach es X.env)).any (·.1)=false):Q (PE X (.Call (.Name "len" p) (e::es) [] pos) (tE X.K W (bh aM fl))):=⟨have ha:=ha.p;v7 (call_len_seq.or ka) CV Ao hm ha (S.g hj hg).1 (S.g hj hg).2.2 (S.g hj hg).2.1 he hpl⟩
theorem wL (S:Cp X N gl vs cs ls lo gs) (j:Nat) (hj:gl[j]?=some ("all":Str)) (hg:gs.contains j=true) (hm:X.mg "all"=none) (ha:Q (PA X (e::es) (tA X.K W fl))) (he:starEach (e::es) X.env=(false,eval e X.env)::starEach es X.env) (hpl:(backTo pos (starEach es X.env)).any (·.1)=false):Q (PE X (.Call (.Name "all" p) (e::es) [] pos) (tE X.K W (bh (cC false) fl))):=⟨have ha:=ha.p;v7 (rW S.calm) vC Gq hm ha (S.g hj hg).1 (S.g hj hg).2.2 (S.g hj hg).2.1 he hpl⟩
theorem ky (S:Cp X N gl vs cs ls lo gs) (j:Nat) (hj:gl[j]?=some ("any":Str)) (hg:gs.contains j=true) (hm:X.mg "any"=none) (ha:Q (PA X (e::es) (tA X.K W fl))) (he:starEach (e::es) X.env=(false,eval e X.env)::starEach es X.env) (hpl:(backTo pos (starEach es X.env)).any (·.1)=false):Q (PE X (.Call (.Name "any" p) (e::es) [] pos) (tE X.K W (bh (cC true) fl))):=⟨have ha:=ha.p;v7 (rV S.calm) vC Gp hm ha (S.g hj hg).1 (S.g hj hg).2.2 (S.g hj hg).2.1 he hpl⟩
theorem tu (S:Cp X N gl vs cs ls lo gs) (j:Nat) (hj:gl[j]?=some ("int":Str)) (hg:gs.contains j=true) (hm:X.mg "int"=none) (ha:Q (PA X (e::es) (tA X.K W fl))) (he:starEach (e::es) X.env=(false,eval e X.env)::starEach es X.env) (hpl:(backTo pos (starEach es X.env)).any (·.1)=false):Q (PE X (.Call (.Name "int" p) (e::es) [] pos) (tE X.K W (bh vE fl))):=⟨have ha:=ha.p;F9 rU CW Ap hm ha (S.g hj hg).1 (S.g hj hg).2.2 (S.g hj hg).2.1 he hpl⟩
theorem w_cb_list (S:Cp X N gl vs cs ls lo gs) (j:Nat) (hj:gl[j]?=some ("list":Str)) (hg:gs.contains j=true) (hm:X.mg "list"=none) (ha:Q (PE X e (tE X.K W fa))) (hs:starEach [e] X.env=[(false,eval e X.env)]):Q (PE X (.Call (.Name "list" p) [e] [] pos) (tE X.K W (mT fa))):=⟨have ha:=ha.p;rJ hm ha (S.g hj hg).1 hs⟩
theorem JJ {n:Nat} {den:List Mc->bz} (S:Cp X N gl vs cs ls lo gs) (j:Nat) (hj:gl[j]?=some x) (hg:gs.contains j=true) (C:wW X x n den) (ha:Q (PA X (e::es) (tA X.K W fl))) (he:starEach (e::es) X.env=(false,eval e X.env)::starEach es X.env) (hpl:(backTo pos (starEach es X.env)).any (·.1)=false):Q (PE X (.Call (.Name x p) (e::es) [] pos) (tE X.K W (aj n den fl))):=⟨T.cc S j hj hg C ha.p he hpl⟩
theorem iX (S:Cp X N gl vs cs ls lo gs) (j:Nat) (hj:gl[j]?=some ("range":Str)) (hg:gs.contains j=true) (hm:X.mg "range"=none) (ha:Q (PA X [a] (tA X.K W fl))) (hs:starEach [a] X.env=[(false,eval a X.env)]):Q (PI X tg (.Call (.Name "range" p) [a] [] pos) (tI X.K W (lR fl))):=⟨have ha:=ha.p;F8 hm ha (S.g hj hg).1 hs⟩
theorem EH (S:Cp X N gl vs cs ls lo gs) (j:Nat) (hj:gl[j]?=some ("range":Str)) (hg:gs.contains j=true) (hm:X.mg "range"=none) (ha:Q (PA X [a,b] (tA X.K W fl))) (hs:starEach [a,b] X.env=[(false,eval a X.env),(false,eval b X.env)]) (hs2:starEach [b] X.env=[(false,eval b X.env)]):Q (PI X tg (.Call (.Name "range" p) [a,b] [] pos) (tI X.K W (Ag fl))):=⟨have ha:=ha.p;F7 hm ha (S.g hj hg).1 hs hs2⟩
theorem w_di_seq (ha:Q (PE X a (tE X.K W fa))):Q (PI X tg a (tI X.K W (ax fa))):=⟨have ha:=ha.p;pR (GX ha) fun _ _ _=>xK⟩
theorem JG {op:CmpOp} {r:R2} {g:Mc->Mc->Option Mc} (k:Ck X op r g) (ha:Q (PE X a (tE X.K W fa))) (hb:Q (PE X b (tE X.K W fb))) (hm:behindInMarks op b=false):Q (PT X (.Compare a [op] [b] pos) (tT X.K W (aF ao (aA g fa fb)))):=⟨T.ct k ha.p hb.p hm⟩
theorem EG {op:CmpOp} {r:R2} {g:Mc->Mc->Option Mc} (k:Ck X op r g) (k':Ck X op' r' g') (ha:Q (PE X a (tE X.K W fa))) (hb:Q (PE X b (tE X.K W fb))) (hc:Q (PE X c (tE X.K W fc))) (hm:lastMarks [op,op'] [b,c]=false):Q (PT X (.Compare a [op,op'] [b,c] pos) (tT X.K W (aF ao (se g g' fa fb fc)))):=⟨have ha:=ha.p;have hb:=hb.p;have hc:=hc.p;vQ k.o k.g k'.o k'.g ha hb hc hm⟩
theorem oy (ha:Q (PT X a (tT X.K W ga))):Q (PT X (.UnaryOp .Not a pos) (tT X.K W (bT ga))):=⟨have ha:=ha.p;jt (uC ha) fun _ _ _=>o5⟩
theorem Ho (ha:Q (PT X a (tT X.K W ga))):Q (PW X (.BoolOp .And [a] pos) (tT X.K W ga)):=⟨have ha:=ha.p;xR ha⟩
theorem zA (ha:Q (PT X a (tT X.K W ga))):Q (PW X (.BoolOp .Or [a] pos) (tT X.K W ga)):=⟨have ha:=ha.p;uB ha⟩
theorem Hq (ha:Q (PT X a (tT X.K W ga))) (hb:Q (PW X (.BoolOp .And (b::es) pos) (tT X.K W gb))):Q (PW X (.BoolOp .And (a::b::es) pos) (tT X.K W (fy ga gb))):=⟨have ha:=ha.p;have hb:=hb.p;wA (BQ ha hb) fun _ _ _=>xO⟩
theorem sO (ha:Q (PT X a (tT X.K W ga))) (hb:Q (PW X (.BoolOp .Or (b::es) pos) (tT X.K W gb))):Q (PW X (.BoolOp .Or (a::b::es) pos) (tT X.K W (fF ga gb))):=⟨have ha:=ha.p;have hb:=hb.p;wA (zX ha hb) fun _ _ _=>uq⟩
theorem sj (h:Q (PW X a (tT X.K W ga))):Q (PT X a (tT X.K W ga)):=⟨L2.PW.pt h.p⟩
theorem iS (ha:Q (PE X a (tE X.K W fa))) (he:∀whole,isTrue a X.env whole=(do let v <-whole;standAt a.pos;holding [v] (truthy v))):Q (PT X a (tT X.K W (aF bt fa))):=⟨have ha:=ha.p;jt (IX ha he) fun _ _ _=>t9⟩
theorem fZ :Q (PSs X [] (tS X.K W aN)):=⟨GG GY fun _ _ _=>oX⟩
theorem dG {st:Stmt} (h1:Q (PS X st (tS X.K W g1))):Q (PSs X [st] (tS X.K W g1)):=⟨have h1:=h1.p;wK h1⟩
theorem bq {st:Stmt} {rest:List Stmt} (h1:Q (PS X st (tS X.K W g1))) (h2:Q (PSs X rest (tS X.K W g2))):Q (PSs X (st::rest) (tS X.K W (av g1 g2))):=⟨have h1:=h1.p;have h2:=h2.p;GG (ox h1 h2) fun _ _ _=>ub⟩
theorem sY (ha:Q (PE X a (tE X.K W fa))):Q (PS X (.Return (some a) pos) (tS X.K W (aL fa))):=⟨have ha:=ha.p;b8 (Ec ha) fun _ _ _=>uc⟩
theorem fC {A B:List Stmt} (hc:Q (PT X c (tT X.K W ga))) (ha:Q (PSs X A (tS X.K W g1))) (hb:Q (PSs X B (tS X.K W g2))):Q (PS X (.If c A B pos) (tS X.K W (cg ga g1 g2))):=⟨have hc:=hc.p;have ha:=ha.p;have hb:=hb.p;b8 (uG hc ha hb) fun _ _ _=>uh⟩
theorem sM (S:Cp X N gl vs cs ls lo gs) (i:Nat) {body:List Stmt} {g:FS} (hx:N[i]?=some x) (hl:ls.contains i=true) (hp:PassesOwn (model X.prog X.w) X.A X.env X.xe) (hi':Q (PI X (.Name x px) iter (tI X.K W fi))) (hb:Q (PSs X body (tS X.K W g))) (hs:∀x,foldedSetIterable iter X.env x=pure x):Q (PS X (.For (.Name x px) iter body [] pos) (tS X.K W (cR i fi g))):=⟨have hi':=hi'.p;have hb:=hb.p;Dj i hp (by rw [S.hN];exact S.nd) hi' hb S.calm (by rw [S.hN];exact hx) (S.loc i x hx hl).1 (S.loc i x hx hl).2 hs⟩
theorem kx (S:Cp X N gl vs cs ls lo gs) (own:Bool) (i:Nat) (hi:N[i]?=some x) (hl:ls.contains i=true) (hs:swapsWith a (some (.Name x pos')) pos.line X.env=pure false) (ha:Q (PE X a (tE X.K W fa))):Q (PS X (.Assign [.Name x pos'] a pos) (tS X.K W (ay own i fa))):=⟨have ha:=ha.p;Di own i (by rw [S.hN];exact S.nd) ha (by rw [S.hN];exact hi) (S.loc i x hi hl).1 hs (S.loc i x hi hl).2⟩
theorem pX (S:Cp X N gl vs cs ls lo gs) (i:Nat) (hi:N[i]?=some x) (hv:vs.contains i=true) (ha:Q (PE X a (tE X.K W fa))) (hb:Q (PE X b (tE X.K W fb))) (hs:swapsWithSole [.Subscript (.Name x px) b pos'] a pos.line X.env=pure false) (hw:swappedStores [.Subscript (.Name x px) b pos'] a X.env=pure none) (h1:(assignEach [.Subscript (.Name x px) b pos'] X.env).map (·.2)=[assign (.Subscript (.Name x px) b pos') X.env]) (has:∀v,assign (.Subscript (.Name x px) b pos') X.env v=(do
   let ov <-holding [v] (eval (.Name x px) X.env)
   let iv <-holding [v,ov] (eval b X.env)
   standAt pos'
   holding [v,ov,iv] (setItem ov iv v)
   release [v,ov,iv] [])):Q (PS X (.Assign [.Subscript (.Name x px) b pos'] a pos) (tS X.K W (eX i fa fb))):=⟨T.cs_setI S i hi hv ha.p hb.p hs hw h1 has⟩
theorem zE (S:Cp X N gl vs cs ls lo gs) (i:Nat) {apos cpos:Pos} (hi:N[i]?=some x) (hv:vs.contains i=true) (ha:Q (PE X a (tE X.K W fa))) (hs:starEach [a] X.env=[(false,eval a X.env)]) (hbase:attributeBase (.Name x p) "append" X.env (eval (.Name x p) X.env)=eval (.Name x p) X.env) (hline:(apos.endLine==cpos.line)=true) (hfew:((backTo cpos (starEach [a] X.env)).all (fun x=>!x.1)&&(backToKw cpos (keywordEach [] X.env)).all (fun x=>x.1.isSome)
   && decide ([a].length+([]:List Keyword).length+(if ([]:List Keyword).isEmpty then 0 else 1)<30))=true) (hsw:swapsWith (.Call (.Attribute (.Name x p) "append" apos) [a] [] cpos) none pos.line X.env=pure false):Q (PS X (.Expr (.Call (.Attribute (.Name x p) "append" apos) [a] [] cpos) pos) (tS X.K W (fA i fa))):=⟨T.cs_append S i hi hv ha.p hs hbase hline hfew hsw⟩
theorem w_df_nil :Q (PF X [] (tT X.K W0 aG)):=⟨Gz uN fun U H Q h=>by
 obtain ⟨He,O,Fs,Γ,E,h⟩:=h;exact h H Fs (Same.refl _) E fun _ z=>.inl z⟩
theorem kf (h:Q (PT X c (tT X.K W0 ga))):Q (PF X [c] (tT X.K W0 ga)):=⟨have h:=h.p;uM h⟩
end
end TQ
namespace T
open PySem PySem.Spec L2
open PyProof.Rows hiding St
variable {K:Fg} {c:String} {X:Cx} {U:St} {He:Hp} {Fs:List (List Addr)} {Γ:Ev} {ds:List Mc} {ta:TA} {pos:Pos} {pins:List (Addr×Obj)} {h':Heap} {t':Nat} {fp:List Addr} {elts:List Expr}
def xr:FS:=fun _=>.no
section
variable {X:Cx} {W:XW} {e:Expr} {fa:F1} {pos:Pos}
theorem ds_drop (ha:PE X e (tE X.K W fa)) (hs:swapsWith e none pos.line X.env=pure false):PS X (.Expr e pos) (tS X.K W (bG fa)):=b8 (El ha hs) fun _ _ _=>xM
end
def A6:Mc->String
 | .none => "NoneType"
 | .bool _ => "bool"
 | .int _ => "int"
 | .str _ => "str"
 | .list _ => "list"
 | .tuple _ => "tuple"
 | .dict _ => "dict"
def vh (t c:String):Bool:=t==c||(t == "bool"&&c == "int")
def kinds:List String:=["bool", "int", "str", "list", "tuple"]
theorem yl (hc:c∈kinds):∀t∈["NoneType", "bool", "int", "str", "list", "tuple"],PySem.W.kitOne K (.type t) (.type c)=some (vh t c):=by
 intro t ht;unfold kinds at hc;simp only [mem_cons,not_mem_nil,or_false] at hc ht
 rcases hc with rfl | rfl | rfl | rfl | rfl<;>rcases ht with rfl | rfl | rfl | rfl | rfl | rfl<;>kernel_rfl
section
variable {X:Cx} {pins:List (Addr×Obj)} {U:St} {H:Hp} {s:Shared} {A:Around} {E:Value->Shared->Prop} {Q:Value->Shared->Prop} {c:Value} {b:Bool}
theorem nG {x:V} {u:Value} {d:Mc} (I:Inv X pins U H s) (rx:RelV x u) (r:Rep X.K H x d) (e:PySem.W.kitOne X.K (.type (A6 d)) c=some b) (h:∀tk,Q (.bool b) { s with toks:=tk }) :
  wpAny (model X.prog X.w) A (call (.builtin "isinstance") [u,c]) Q E s:=by
 cases r with
 | non=>exact AM I rx .non e h
 | bl y=>exact AM I rx (.bl y) e h
 | int i=>exact AM I rx (.int i) e h
 | str y=>exact AM I rx (.str y) e h
 | @lst p vs ds hs hl q=>
  rcases hs with (z | ⟨o,z⟩) | ⟨o,its,n,hk,hc,hd,hz,_⟩
  ·exact AM I rx (.lst z) e h
  ·exact AM I rx (.frz z) e h
  ·cases (show u=Value.ref p from rx)
   exact PySem.W.kia_one PySem.W.kitx_list I.kIn ⟨o,I.kIn _ o hk,hc⟩ e nofun h
 | @tup p vs ds hs hl q=>
  rcases hs with (z | ⟨o,z⟩) | ⟨o,its,n,hk,hc,hd,hz,_⟩
  ·exact AM I rx (.tup z) e h
  ·cases (show u=Value.ref p from rx)
   obtain ⟨_,_,_,n,p1,h1,h2,_⟩:=(show ObjOk X.prog X.w H s.heap p (.frz o (.tup vs)) from I.hok p _ z);exact PySem.W.kia_one PySem.W.kitx_tuple I.kIn ⟨p1,h1,h2⟩ e nofun h
  ·cases (show u=Value.ref p from rx)
   exact PySem.W.kia_one PySem.W.kitx_tuple I.kIn ⟨o,I.kIn _ o hk,hc⟩ e nofun h
end
def BK (K:Fg) (c:String):List V->Hp->VK->Prop:=fun xs H Q=>∃x d,xs=[x,.ty c]/\Rep K H x d/\Q (.bl (vh (A6 d) c)) H
theorem wc (hc:c∈kinds):CallR X (.builtin "isinstance") (BK X.K c):=by
 intro pins s U H xs us Q I rv h;obtain ⟨x,d,rfl,r,q⟩:=h;match us,rv with
 | [u,t],.cons r1 (.cons r2 .nil)=>
  cases (show t=Value.type c from r2)
  have ht:A6 d∈["NoneType", "bool", "int", "str", "list", "tuple"]:=by cases r<;>simp [A6]
  exact nG I r1 r (yl hc _ ht) fun tk=>⟨.bl _,H,I.tok tk,rfl,q⟩
def iK (c:String) (fa:F1):F1:=aU fa fun p Γ=>.ok ⟨.leaf,.bool (vh (A6 p.d) c)⟩ Γ
theorem Bx {W:XW} {H:Hp} {Q:VK} {fa:F1} (h:tE K W (iK c fa) U H Q):xo (BK K c) (bS (tE K W fa) (bS (tC (.ty c)) eL)) U H Q:=by
 show tE K W fa U H fun x H1=>BK K c [x,.ty c] H1 Q
 refine zr h fun He O Fs Γ1 p v H1 G Fs1 nd A w=>?_
 exact ⟨v,p.d,rfl,A.own.rep,Wants.scal w (.bl _) A.same A.env.dropL (fun a ha=>ha) nd fun a ha=>A.new a (LR _ ha)⟩
def sP (c:FB) (g:FS):Nat->Ev->dY
 | 0,_=>.no
 | n+1,Γ=>match c Γ with
  | .ok true Γ1=>(match g Γ1 with
   | .nx Γ2=>sP c g n Γ2
   | .ct Γ2=>sP c g n Γ2
   | .bk Γ2=>.nx Γ2
   | .rt p=>.rt p
   | .er e Γ2=>.er e Γ2
   | .no=>.no)
  | .ok false Γ1=>.nx Γ1
  | .er e Γ1=>.er e Γ1
  | .no=>.no
def sL (n:Nat) (c:FB) (g:FS):FS:=sP c g n
section
variable {K:Fg} {W:XW} {U:St} {H:Hp} {Q:VK} {D:cW} {fa fb:F1} {fl:FL}
theorem t8 {n:Nat} {c:FB} {g:FS} (h:tS K W (sL n c g) D U H):GF (tT K W c) (tS K W g) D U H:=by
 obtain ⟨He,O,Fs,Γ,E,h⟩:=h;refine ⟨fun m U' H'=>∃Γk Fk,EnvOk K He O Fk H' U' Γk/\kj K W He O D (sP c g m Γk),⟨n,Γ,Fs,E,h⟩,?_⟩
 rintro m U' H' ⟨Γk,Fk,Ek,hw⟩
 cases m with
 | zero=>exact hw.elim
 | succ m=>
  refine ⟨He,O,Fk,Γk,Ek,?_⟩
  rw [sP] at hw
  cases e:c Γk with
  | er x Γ1=>rw [e] at hw;exact fun H2 Fs2 s E2=>hw U' H2 Fs2 E2
  | no=>rw [e] at hw;exact hw
  | ok b Γ1=>
   rw [e] at hw;intro H2 Fs2 s2 E2 n2
   cases b with
   | false=>rw [if_neg Bool.false_ne_true];exact hw U' H2 Fs2 E2
   | true=>
    rw [if_pos rfl];refine ⟨fun U3 H3=>∃Γ3 F3,EnvOk K He O F3 H3 U3 Γ3/\kj K W He O D (sP c g m Γ3),fun U3 H3 q=>⟨m,Nat.lt_succ_self _,q⟩,He,O,Fs2,Γ1,E2,?_⟩
    have hw:kj K W He O D (match g Γ1 with | .nx Γ2=>sP c g m Γ2 | .ct Γ2=>sP c g m Γ2 | .bk Γ2=>.nx Γ2 | .rt p=>.rt p | .er e Γ2=>.er e Γ2 | .no=>.no):=hw
    cases eb:g Γ1 with
    | nx Γ'=>rw [eb] at hw;exact fun U2 H2 F2 E2=>⟨Γ',F2,E2,hw⟩
    | ct Γ'=>rw [eb] at hw;exact fun U2 H2 F2 E2=>⟨Γ',F2,E2,hw⟩
    | bk Γ'=>rw [eb] at hw;exact fun U2 H2 F2 E2=>hw U2 H2 F2 E2
    | rt p=>rw [eb] at hw;exact fun u H2 G r=>hw u H2 G r
    | er x Γ'=>rw [eb] at hw;exact fun U2 H2 F2 E2=>hw U2 H2 F2 E2
    | no=>rw [eb] at hw;exact hw
theorem EnvOk.chgF {O:List Addr} {i:Nat} (E:EnvOk K He O Fs H U Γ) (h:Γ[i]?=some (some ⟨.lst .leaf,.list ds⟩)) :
  ∃l vs,U[i]?=some (some (.ref l))/\H l=some (.lst vs)/\vs.length=ds.length/\(∀(j:Nat) u d,vs[j]?=some u->ds[j]?=some d->Rep K (bM H (O++Fs.flatten)) u d) /\
   ∀(vs':List V) (ds':List Mc),vs'.length=ds'.length->(∀(j:Nat) u d,vs'[j]?=some u->ds'[j]?=some d->Rep K (bM H (O++Fs.flatten)) u d)->EnvOk K He O Fs (bo H l (.lst vs')) U (Γ.set i (some ⟨.lst .leaf,.list ds'⟩)):=by
 obtain ⟨hv,v,F,h1,E1,o1,sub⟩:=E.move h;have hi:i<Γ.length:=(L7 h).1
 obtain ⟨_,v0,F0,h10,h20,o0⟩:=E.slot i _ h;obtain ⟨l,vs,rfl,rfl,hp,hl,hr⟩:=o1.leaves;obtain ⟨l',vs',e0,e1,hp',hl',hr'⟩:=o0.leaves;rw [h1] at h10
 cases h10
 cases e0;rw [hp] at hp'
 cases hp'
 refine ⟨l,vs,h1,hp,hl,hr',fun ws ds' hw q=>?_⟩
 have hlF:l∈Fs.flatten:=sub l (LU _ (List.mem_singleton.mpr rfl))
 have hHe:He l=none:=E.fresh l hlF
 have E4:=E1.mutO (o:=.lst ws) (LU _ (List.mem_singleton.mpr rfl)) hp hHe
 have ownL:Own K ([l]++O++(Fs.set i []).flatten) (bo H l (.lst ws)) (.lst .leaf) [l] (.ref l) (.list ds'):=by
  refine Own.mkLeaves da hw fun j u d a1 a2=>?_
  rw [GT (LU _ (LU _ (List.mem_singleton.mpr rfl)))];refine (q j u d a1 a2).mono (sk (Same.refl _) fun a ha=>.inl ?_)
  rcases LX ha with z | z
  ·rcases LX z with z | z
   ·rw [List.mem_singleton.mp z];exact LR _ hlF
   ·exact LU _ z
  ·exact LR _ (sub a (LR _ z))
 have fin:=EnvOk.put (i:=i) (p:=⟨.lst .leaf,.list ds'⟩) (v:=.ref l) E4 ownL rfl (fun a ha=>by rw [List.mem_singleton.mp ha];exact hHe) (by rw [length_set];exact hi)
 rw [set_set,set_set,zx h1] at fin;rw [e1] at h20;rw [zx h20] at fin;exact fin
end
def uv (K:Fg):List V->Hp->VK->Prop:=fun xs H Q=>∃(p:Addr) (ns:List Int),xs=[.ref p]/\SqL K H p (ns.map V.int)/\ns.length<64/\∀l,H l=none->Q (.ref l) (bo H l (.lst ((PySem.W.sortI ns).map V.int)))
theorem IE:∀{ns:List Int} {us:List Value},Vals (ns.map V.int) us->IntsAre us ns
 | [],_,.nil=>.nil
 | n::ns,_,.cons r t=>by
  obtain ⟨tk,rfl⟩:=(show ∃t,_=Value.int n t from r)
  exact .cons _ _ (IE t)
theorem IQ:∀{ns:List Int} {us:List Value},IntsAre us ns->Vals (ns.map V.int) us
 | _,_,.nil=>.nil
 | _,_,.cons _ _ t=>.cons ⟨_,rfl⟩ (IQ t)
theorem oi:CallR X (.builtin "sorted") (uv X.K):=by
 intro pins s U H xs us Q I rv h;obtain ⟨p,ns,rfl,hS,h64,q⟩:=h;obtain ⟨u,rfl,ru⟩:=rv.one
 cases ru;obtain ⟨its,r,pl,hz⟩:=I.list hS;have hI:=IE r
 have hl:its.length=ns.length:=by rw [<-r.length,length_map]
 refine sorted_ints pl.isList hI (by omega) fun out ns' a1 a2 a3=>?_
 have e:=PySem.W.eq_sortI a2 a3
 subst e;obtain ⟨n,ho⟩:=sortedAll_at s.heap its out;have hlen:(PySem.W.sortI ns).length=ns.length:=(PySem.W.sortI_perm ns).length_eq
 have hb:=i7 (n:=ns.length) (by omega)
 refine ⟨.ref (s.heap.objs.size+1),bo H (s.heap.objs.size+1) (.lst ((PySem.W.sortI ns).map V.int)),I.laid (t':=s.toks) (fun b o e=>sortedAll_old e) (Nat.le_succ _) ⟨by rw [length_map,hlen];omega,out.toList,n,IQ a1,by simpa [seqObj] using ho⟩,rfl,q _ (I.hok.fresh (Nat.le_succ _))⟩
theorem oA:∀{xs:List V} {us:List Value},xs.length=us.length->(∀(i:Nat) x u,xs[i]?=some x->us[i]?=some u->RelV x u)->Vals xs us
 | [],[],_,_=>.nil
 | x::xs,u::us,hl,h=>.cons (h 0 x u rfl rfl) (oA (by simpa using hl) fun i x u a b=>h (i+1) x u (by simpa using a) (by simpa using b))
 | [],_::_,hl,_=>by simp at hl
 | _::_,[],hl,_=>by simp at hl
def KW (ta:TA):TE:=fun U H Q=>ta U H fun vs H1=>∃j:Int,vs=[.int j]/\-(2 ^ 62)<=j/\j<=sizeLine/\∀l,H1 l=none->Q (.ref l) (bo H1 l (.lst (d8 0 j.toNat)))
theorem jJ {a:Expr} {p p2 pos2:Pos} (hg:Gl X "list") (hm:X.mg "list"=none) (hg2:Gl X "range") (hm2:X.mg "range"=none) (hc:X.calm=true) (ha:PA X [a] ta) (hs:starEach [a] X.env=[(false,eval a X.env)])
  (hs1:starEach [.Call (.Name "range" p2) [a] [] pos2] X.env=[(false,eval (.Call (.Name "range" p2) [a] [] pos2) X.env)]):PE X (.Call (.Name "list" p) [.Call (.Name "range" p2) [a] [] pos2] [] pos) (KW ta):=by
 intro pins s U H Q I h;refine Call_ (wH I hg hm D6 (PyProof.Rows.callWith_type1 ?_ hs1 rfl))
 rw [hs1];show wpAny _ _ (spliced ((false,eval (.Call (.Name "range" p2) [a] [] pos2) X.env)::[])) _ _ s
 refine Calls.spliced_cons (Call_ (wH I hg2 hm2 boot_range (PyProof.Rows.callWith_type1 (bj (ha pos2 pins s U H _ I h) fun us s1 ⟨vs,H1,I1,r1,q1⟩=>?_) hs rfl)))
 obtain ⟨j,e,q1,q2,q⟩:=q1;subst e;obtain ⟨u,rfl,ru⟩:=r1.one;obtain ⟨t,rfl⟩:=(show ∃t,u=Value.int j t from ru)
 refine call_range_1 (Calls.spliced_nil ?_)
 have hz:(sizeLine:Int)<2 ^ 62:=by decide
 refine call_list_range (n:=j.toNat) (I.ok.hd hc) (IsRange.new ..) (small_one (by omega) (by omega) q1 (by omega)) (by rw [rangeSize_one];split<;>omega) (by have:(sizeLine:Nat)=2 ^ 24:=rfl;omega) fun h' tk acc' c' hk ho hacc=>?_
 have I2:Inv X pins U H1 { s1 with heap:=s1.heap.push { cls:=.type "range",data:=.fields #[.int 0 s1.toks,.int j t,.int 1 (s1.toks+1)] },toks:=s1.toks+1+1 }:=I1.kept fun b o e=>Ma _ e
 have hv:Vals (d8 0 j.toNat) acc'.toList:=by
  refine oA (by have:=hacc.1;simp only [Array.length_toList,d8,length_map,length_range];omega) fun i x u e1 e2=>?_
  obtain ⟨t2,rfl⟩:=hacc.2 i u (by rw [<-Array.getElem?_toList];exact e2)
  unfold d8 at e1;rw [getElem?_map] at e1
  cases e3:(List.range j.toNat)[i]? with
  | none=>rw [e3] at e1;cases e1
  | some k=>
   rw [e3] at e1;obtain ⟨k1,k2⟩:=L7 e3
   simp at k2
   subst k2
   cases e1;exact ⟨t2,by simp⟩
 refine ⟨.ref _,bo H1 _ (.lst (d8 0 j.toNat)),I2.laid (t':=tk) (fun b o e=>hk b o e) (Mb _) ⟨?_,acc'.toList,c',hv,by simpa using ho⟩,rfl,q _ (I2.hok.fresh (Mb _))⟩
 simp only [d8,length_map,length_range]
 omega
section
variable {K:Fg} {W:XW} {U:St} {H:Hp} {Q:VK} {fa:F1} {fl:FL}
theorem AftL.newSc {O:List Addr} {Gs Fs1:List (List Addr)} {Γ1:Ev} {ps:List PV} {us:List V} {H1:Hp} {l:Addr} {vs:List V} (A:AftL K He O Fs H U Γ1 ps us H1 Gs Fs1) (nd:O.Nodup) (hl:H1 l=none) (hv:vs.length=ds.length) (hs:∀(i:Nat) v d,vs[i]?=some v->ds[i]?=some d->Sc v d) :
  Aft K He O Fs H U Γ1 ⟨.lst .leaf,.list ds⟩ (.ref l) (bo H1 l (.lst vs)) [l] Fs1:=by
 refine ⟨A.same.trans (gN hl),A.env.dropL.hide (gN hl) (by simp) (by simpa using hl) (fun a ha=>by rw [List.mem_singleton.mp ha,da];exact Option.some_ne_none _),fun a ha=>?_,?_⟩
 ·rcases LX ha with z | z
  ·rw [List.mem_singleton.mp z];exact .inr (A.same.free hl)
  ·exact A.new a (LR _ z)
 ·exact Own.mkLeaves da hv fun j u d e1 e2=>(hs j u d e1 e2).rep
def Df (fl:FL):F1:=fun Γ=>(fl Γ).bind fun ps Γ'=>match iC (ps.map (·.d)) with
 | some j=>if j<=sizeLine then .ok ⟨.lst .leaf,.list (b6 0 j.toNat)⟩ Γ' else .no
 | none=>.no
theorem E8 (h:tE K W (Df fl) U H Q):KW (tA K W fl) U H Q:=by
 obtain ⟨He,O,Fs,Γ,E,h⟩:=h;refine ⟨He,O,Fs,Γ,E,?_⟩
 unfold Df at h
 cases e:fl Γ with
 | er c Γ'=>rw [e] at h;exact h
 | no=>rw [e] at h;exact h
 | ok ps Γ1=>
  rw [e] at h;intro vs H1 Gs Fs1 A;have h:Wants K W He O Fs H U Q (match iC (ps.map (·.d)) with | some j=>if j<=sizeLine then .ok ⟨.lst .leaf,.list (b6 0 j.toNat)⟩ Γ1 else .no | none=>.no):=h
  cases er:iC (ps.map (·.d)) with
  | none=>rw [er] at h;exact h.elim
  | some j=>
   rw [er] at h;obtain ⟨e1,e2,e3⟩:=oT er;have r:=A.reps
   rw [e1] at r;have h:Wants K W He O Fs H U Q (if j<=sizeLine then .ok ⟨.lst .leaf,.list (b6 0 j.toNat)⟩ Γ1 else .no):=h
   by_cases hj:j<=sizeLine
   ·rw [if_pos hj] at h
    have hv:vs=[.int j]:=by
     have hl:=r.1
     match vs,hl with
     | [v],_=>
      have q:=r.2 0 v (.int j) rfl rfl
      cases q;rfl
    refine ⟨j,hv,e2,hj,fun l hl=>h _ _ _ _ (A.newSc E.ndO hl (by simp [d8,b6]) fun i v d a1 a2=>?_)⟩
    have q:=IZ (K:=K) (H:=H1) (lo:=0) (n:=j.toNat)
    refine (q.2 i v d a1 a2).sc ?_
    unfold b6 at a2;rw [getElem?_map] at a2
    cases e3:(List.range j.toNat)[i]? with
    | none=>rw [e3] at a2;cases a2
    | some k=>rw [e3] at a2;cases a2;rfl
   ·rw [if_neg hj] at h;exact h.elim
def sf:List Mc->Option (List Int)
 | []=>some []
 | .int i::r=>(sf r).map (i :: ·)
 | _=>none
theorem Jk:∀{ds:List Mc} {ns:List Int},sf ds=some ns->ds=ns.map .int
 | [],ns,h=>by cases h;rfl
 | .int i::r,ns,h=>by
  unfold sf at h
  cases e:sf r with
  | none=>rw [e] at h;cases h
  | some ms=>rw [e] at h;cases h;rw [Jk e];rfl
 | .none::_,_,h=>by cases h
 | .bool _::_,_,h=>by cases h
 | .str _::_,_,h=>by cases h
 | .list _::_,_,h=>by cases h
 | .tuple _::_,_,h=>by cases h
 | .dict _::_,_,h=>by cases h
end
theorem Inv.turnedL {H:Hp} {s:Shared} (I:L2.Inv X pins U H s) (k:∀b o,b∉fp->s.heap.get? b=some o->h'.get? b=some o) (hf:∀b∈fp,iP X pins H b):L2.Inv X pins U H { s with heap:=h',toks:=t' }:=by
 have nit:∀b u,H b=some u->b∉fp:=fun b u e z=>by have:=(hf b z).1;rw [e] at this;cases this
 have hL:X.env.locals∉fp:=fun z=>(hf _ z).2.1 rfl
 refine I.step (g':=s.gens) (d':=s.drawn) (ch:=fp) (fun b hb=>?_) (fun b o _ _ hc e _=>k b o hc e) (fun b o _ _ hc e _=>⟨o.slots,k b o hc e⟩) (fun _ _ _ _ n=>n)
  (fun b o hc e=>⟨o,k b o hc e⟩) (fun _ _ e=>e) (fun _ _ _ e=>e) (fun b ps e=>⟨#[],by rw [e];simp⟩) (fun m hm=>?_) (fun b u e=>?_) I.bare
 ·obtain ⟨f0,f1,f2,f3,f4,f5⟩:=hf b hb
  exact ⟨f3,f1,f4,f5⟩
 ·obtain ⟨o,es,ep,ho,r⟩:=hm
  exact ⟨o,es,ep,k _ o hL ho,r⟩
 ·refine (I.hok b u e).stay (fun c v hc q=>k c v ?_ q) (fun _ q=>q) fun _ _ q=>q
  rcases hc with z | z
  ·rw [z];exact nit b u e
  ·exact nit c _ z
theorem Inv.turnedT {H:Hp} {s:Shared} {T:Addr} {xs:List V} (I:L2.Inv X pins U H s) (k:∀b o,b∉fp->s.heap.get? b=some o->h'.get? b=some o) (hf:∀b∈fp,iP X pins H b) (hT:s.heap.objs.size<=T)
  (new:ObjOk X.prog X.w (bo H T (.tup xs)) h' T (.tup xs)):L2.Inv X pins U (bo H T (.tup xs)) { s with heap:=h',toks:=t' }:=by
 have hTn:H T=none:=I.hok.fresh hT
 have nit:∀b u,H b=some u->b∉fp:=fun b u e z=>by have:=(hf b z).1;rw [e] at this;cases this
 have up:∀b u,H b=some u->bo H T (.tup xs) b=some u:=fun b u e=>by rw [b9 (iT e hTn)];exact e
 have hL:X.env.locals∉fp:=fun z=>(hf _ z).2.1 rfl
 refine I.step (g':=s.gens) (d':=s.drawn) (ch:=fp) (fun b hb=>?_) (fun b o _ _ hc e _=>k b o hc e) (fun b o _ _ hc e _=>⟨o.slots,k b o hc e⟩) (fun b o _ e n=>by rw [b9 (Nat.ne_of_lt (Nat.lt_of_lt_of_le (Heap.lt_size e) hT))];exact n)
  (fun b o hc e=>⟨o,k b o hc e⟩) (fun b _ e=>up b _ e) (fun b _ _ e=>up b _ e) (fun b ps e=>⟨#[],by rw [up b _ e];simp⟩) (fun m hm=>?_) (fun b u e=>?_) I.bare
 ·obtain ⟨f0,f1,f2,f3,f4,f5⟩:=hf b hb
  exact ⟨f3,f1,f4,f5⟩
 ·obtain ⟨o,es,ep,ho,r⟩:=hm
  exact ⟨o,es,ep,k _ o hL ho,r⟩
 ·by_cases hb:b=T
  ·subst hb
   rw [da] at e
   cases e;exact new
  ·rw [b9 hb] at e
   refine (I.hok b u e).stay (fun c v hc q=>k c v ?_ q) (fun c q=>up c _ q) fun c _ q=>up c _ q
   rcases hc with z | z
   ·rw [z];exact nit b u e
   ·exact nit c _ z
def KH (K:Fg) (a:Addr):It:=
 ⟨fun i H=>∃xs x,SqL K H a xs/\xs[i]?=some x,fun i H x H'=>∃T v,x=.ref T/\H T=none/\H'=bo H T (.tup [.int i,v])/\∀xs,SqL K H a xs->xs[i]?=some v,fun i H=>∃xs,SqL K H a xs/\xs.length<=i⟩
theorem qc {P:Program} {w:World} {k:Nat} (a e it:Addr) (hei:e≠it) (hae:a≠e) (hai:a≠it) :
  wu P w K (.Tuple elts k pos) (KH K a) [e,it] e (fun i h=>(∃old,IsEnum h e it i old)/\h.IsListIter it a i) where
 mem:=by simp
 obj:=fun i h st b hb=>by
  obtain ⟨⟨old,he⟩,o,e1,c,d⟩:=st;simp only [mem_cons,not_mem_nil,or_false] at hb
  rcases hb with rfl | rfl
  ·exact ⟨_,he,fun v z=>by
    have z':Data.fields _=Data.cell v:=z
    cases z'⟩
  ·exact ⟨o,e1,fun v z=>by rw [d] at z;cases z⟩
 keep:=fun i h h' st kk=>by
  obtain ⟨⟨old,he⟩,hit⟩:=st;exact ⟨⟨old,kk e (by simp) _ he⟩,hit.at fun o q=>kk it (by simp) o q⟩
 item:=by
  intro X hP hw hK hc i pins s U H E I hf st hg;subst hP hw hK;obtain ⟨xs,x,hq,hx⟩:=hg;obtain ⟨its,rv,p,hz⟩:=I.list hq;obtain ⟨u,hu,ru⟩:=rv.get hx;have W:=WalksT.enumerate (prog:=X.prog) (w:=X.w) (A:=X.A) (I.ok.hd hc) e it a hei hae hai its.toArray
  have hil:i<its.toArray.size:=by
   have:=(L7 hu).1
   simpa using this
  refine W.item i s _ _ hil ⟨st.1,st.2,p.isList⟩ fun T vals h' tk hv hT hTT hMid kk=>?_
  obtain ⟨t,y,hy,rfl⟩:=hv;have ey:y=u:=by
   rw [List.getElem?_toArray,hu] at hy;exact (Option.some.inj hy).symm
  subst ey;refine ⟨.ref T,rfl,W.go elts k pos i T _ _ _ hMid fun h2 st2 kk2=>?_⟩
  have hTn:H T=none:=I.hok.fresh hT
  have hTw:T∉[e,it]:=W.apart i T _ hMid
  have kAll:∀b o,b∉[e,it]->s.heap.get? b=some o->h2.get? b=some o:=fun b o hb q=>kk2 b o hb (kk b o hb q)
  have I1:L2.Inv X pins U H { s with heap:=h2,toks:=tk }:=Inv.turnedL I kAll hf
  have tT:h2.IsTuple T #[.int i t,y]:=by
   obtain ⟨o,q1,q2⟩:=hTT;exact ⟨o,kk2 T o hTw q1,q2⟩
  have hvs:Vals [.int (i:Int),x] [.int i t,y]:=.cons (show RelV (.int (i:Int)) (.int i t) from ⟨t,rfl⟩) (.cons ru .nil)
  have I3:L2.Inv X pins U (bo H T (.tup [.int i,x])) { s with heap:=h2,toks:=tk }:=Inv.turnedT (t':=tk) I kAll hf hT ⟨by show 2<=sizeLine;decide,[.int i t,y],hvs,(show IsTup h2 T _ from tT)⟩
  refine ⟨.ref T,bo H T (.tup [.int i,x]),I3,rfl,⟨T,x,rfl,hTn,rfl,fun ys hy=>by rw [I.list_inj hy hq];exact hx⟩,⟨st2.1,st2.2.1⟩,fun b hb=>?_⟩
  have hbT:b≠T:=fun z=>by rw [z] at hb;exact hTw hb
  rw [b9 hbT];exact (hf b hb).1
 done:=by
  intro X hP hw hK hc i pins s U H E I hf st hg;subst hP hw hK;obtain ⟨xs,hq,hx⟩:=hg;obtain ⟨its,rv,p,hz⟩:=I.list hq;have hl:=rv.length
  obtain ⟨⟨old,he⟩,hit⟩:=st;refine wpAny_pyNext_enum_end (I.ok.hd hc) he hit p.isList (Array.getElem?_eq_none (by simp;omega)) fun h' hk=>⟨rfl,Inv.turnedL (t':=s.toks) I (fun b o hb q=>hk b o (fun z=>hb (by simp [z])) q) hf⟩
 self:=fun _ _ _ _ _ st h=>by
  obtain ⟨⟨old,he⟩,hit⟩:=st;exact wpAny_pyIter_enum he h
def vw (K:Fg) (ta:TA):TI:=fun U H R=>ta U H fun vs H1=>∃a,vs=[.ref a]/\(∃xs,SqL K H1 a xs)/\R (KH K a) H1
theorem pj {kt:Nat} {ptg:Pos} {l:Expr} {p:Pos} (hg:Gl X "enumerate") (hm:X.mg "enumerate"=none) (ha:PA X [l] ta) (hs:starEach [l] X.env=[(false,eval l X.env)]) :
  PI X (.Tuple elts kt ptg) (.Call (.Name "enumerate" p) [l] [] pos) (vw X.K ta):=by
 intro pins s U H R I h;refine Call_ (wH I hg hm boot_enumerate (PyProof.Rows.callWith_type1 (bj (ha pos pins s U H _ I h) fun us s1 ⟨vs,H1,I1,r1,q1⟩=>?_) hs rfl))
 obtain ⟨a,e,⟨xs,hq⟩,q⟩:=q1;subst e;obtain ⟨u,rfl,ru⟩:=r1.one
 cases ru;obtain ⟨its,rv,pl,hz⟩:=I1.list hq;refine call_enumerate_list pl.isList fun h' he hit hsz hk=>?_
 have ha1:a<s1.heap.objs.size:=by
  obtain ⟨o,q1,_⟩:=pl.isList;exact Heap.lt_size q1
 refine wpAny_pyIter_enum (s:={ s1 with heap:=h' }) he ?_
 have I2:L2.Inv X pins U H1 { s1 with heap:=h' }:=I1.kept (t':=s1.toks) hk
 refine ⟨s1.heap.objs.size+1,[s1.heap.objs.size+1,s1.heap.objs.size],_,KH X.K a,H1,rfl,I2,qc a _ _ (Nat.succ_ne_self _) (Nat.ne_of_lt (Nat.lt_succ_of_lt ha1)) (Nat.ne_of_lt ha1),⟨⟨_,he⟩,hit⟩,fun b hb=>?_,q⟩
 simp only [mem_cons,not_mem_nil,or_false] at hb
 have hb2:s1.heap.objs.size<=b:=by
  rcases hb with z | z
  ·rw [z];exact Nat.le_succ _
  ·rw [z];exact Mb _
 have f:=I1.fpOk hb2 (I1.hok.fresh hb2)
 exact f
def sJ (i j:Nat) (fc:FB) (fe:F1) (s:Sh):Nat->List Mc->Ev->List Mc->Out (List Mc)
 | _,[],Γ,acc=>.ok acc Γ
 | k,d::r,Γ,acc=>match fc ((Γ.set i (Md (.int (k:Nat)))).set j (Md d)) with
  | .ok true Γ1=>(match fe Γ1 with
   | .ok p Γ2=>if T.coer s p&&decide (acc.length<sizeLine) then sJ i j fc fe s (k+1) r ((Γ2.set i none).set j none) (acc++[p.d]) else .no
   | _=>.no)
  | .ok false Γ1=>if acc.length<sizeLine then sJ i j fc fe s (k+1) r ((Γ1.set i none).set j none) acc else .no
  | _=>.no
def wJ:Option (Option PV)->Bool
 | some none=>true
 | _=>false
def AC (s:Sh) (i j:Nat) (fa:F1) (fc:FB) (fe:F1):F1:=fun Γ=>(ax fa Γ).bind fun t Γ1=>if wJ Γ1[i]?&&wJ Γ1[j]?&&!s.isView then (match sJ i j fc fe s 0 t.ds Γ1 [] with
 | .ok ds Γ2=>.ok ⟨.lst s,.list ds⟩ Γ2
 | _=>.no) else .no
theorem gZ {o:Option (Option PV)} (h:wJ o=true):o=some none:=by
 unfold wJ at h;split at h
 ·rfl
 ·cases h
section
variable {K:Fg} {He H H1 H2:Hp} {O G:List Addr} {Fs Fs1 Fs2:List (List Addr)} {U:St} {Γ Γ1 Γ2:Ev}
theorem tY {i j m:Nat} {p:PV} (h:((Γ.set i none).set j none)[m]?=some (some p)):m≠i/\m≠j/\Γ[m]?=some (some p):=by
 obtain ⟨h1,h2⟩:=Hr h;obtain ⟨h3,h4⟩:=Hr h2;exact ⟨h3,h1,h4⟩
theorem EnvOk.forget2 {i j:Nat} {x y:Option V} (E:EnvOk K He O Fs H (((aX [i,j] U).set i x).set j y) Γ):EnvOk K He O Fs H (aX [i,j] U) ((Γ.set i none).set j none):=by
 refine ⟨by have:=E.len1;simpa using this,by have:=E.len2;simpa using this,E.same,E.nd,E.inH,E.fresh,fun m q hq=>?_⟩
 obtain ⟨h1,h2,h3⟩:=tY hq;obtain ⟨w1,v',F',e1,e2,e3⟩:=E.slot m q h3;rw [getElem?_set_ne (Ne.symm h2),getElem?_set_ne (Ne.symm h1)] at e1;exact ⟨w1,v',F',e1,e2,e3⟩
theorem EnvOk.blank2 {i j:Nat} (E:EnvOk K He O Fs H U Γ) (hi:Γ[i]?=some none) (hj:Γ[j]?=some none):EnvOk K He O Fs H (aX [i,j] U) Γ:=by
 refine ⟨by rw [zC];exact E.len1,E.len2,E.same,E.nd,E.inH,E.fresh,fun m q hq=>?_⟩
 obtain ⟨w1,v',F',e1,e2,e3⟩:=E.slot m q hq;refine ⟨w1,v',F',?_,e2,e3⟩
 rw [Jd (fun z=>?_)]
 ·exact e1
 ·simp only [mem_cons,not_mem_nil,or_false] at z
  rcases z with z | z
  ·rw [z,hi] at hq;cases hq
  ·rw [z,hj] at hq;cases hq
theorem EnvOk.unblank2 {i j:Nat} (E:EnvOk K He O Fs H (aX [i,j] U) Γ):EnvOk K He O Fs H U Γ:=by
 refine ⟨by have:=E.len1;rw [zC] at this;exact this,E.len2,E.same,E.nd,E.inH,E.fresh,fun m q hq=>?_⟩
 obtain ⟨w1,v',F',e1,e2,e3⟩:=E.slot m q hq;exact ⟨w1,v',F',(Hl e1).2,e2,e3⟩
theorem lT {i:Nat} {a:Addr} (hi:i<Fs.length) (h:a∈(Fs.set i []).flatten):a∈Fs.flatten:=by
 have hF:Fs[i]?=some (Fs[i]'hi):=L0 _
 have:=(ow (G:=[]) hF).mem_iff.mp (LR _ h)
 simpa using this
structure GD (K:Fg) (He:Hp) (O:List Addr) (Fs1:List (List Addr)) (H1:Hp) (U:St) (i j:Nat) (s:Sh) (A0:Addr) (n:Nat) (ys:List V) (H:Hp) (Γk:Ev) (Fk Gs:List (List Addr)) (acc:List Mc):Prop where
 env:EnvOk K He (A0::Gs.flatten++O) Fk H (aX [i,j] U) Γk
 same:Same H1 H
 at_:H A0=some (.lst ys)
 new:∀a∈Gs.flatten++Fk.flatten,a∈Fs1.flatten\/H1 a=none
 l1:ys.length=acc.length
 l2:Gs.length=acc.length
 own:∀(m:Nat) v d G,ys[m]?=some v->acc[m]?=some d->Gs[m]?=some G->Own K (A0::Gs.flatten++O++Fk.flatten) H s G v d
 len:Γk.length=n
end
section
variable {K:Fg} {W:XW} {U:St} {H:Hp} {Q:VK} {fa fe:F1} {fc:FB} {s:Sh} {i j:Nat}
theorem uj (hij:i≠j) (h:tE K W (AC s i j fa fc fe) U H Q):eV [i,j] (vw K (tA K W (ae fa af))) (C2 K 2 (lS (gName i) (lS (gName j) C3))) (tT K W0 fc) (tE K W0 fe) U H Q:=by
 obtain ⟨He,O,Fs,Γ,E,h⟩:=h;refine Ed ⟨He,O,Fs,Γ,E,?_⟩
 unfold AC ax at h
 cases e:fa Γ with
 | er c Γ1=>rw [e] at h;exact h
 | no=>rw [e] at h;exact h
 | ok p Γ1=>
  rw [e] at h;intro v H1 G Fs1 A;obtain ⟨sp,d⟩:=p
  cases d with
  | list ds=>
   have h:Wants K W He O Fs H U Q ((if dj ⟨sp,.list ds⟩ ds then Out.ok (⟨ds,!sp.isView⟩:KG) Γ1 else .no).bind fun t Γ1=>if wJ Γ1[i]?&&wJ Γ1[j]?&&!s.isView then (match sJ i j fc fe s 0 t.ds Γ1 [] with | .ok ds Γ2=>.ok ⟨.lst s,.list ds⟩ Γ2 | _=>.no) else .no):=h
   cases hc:dj ⟨sp,.list ds⟩ ds with
   | false=>rw [hc] at h;exact h.elim
   | true=>
    rw [hc] at h;have h:Wants K W He O Fs H U Q (if wJ Γ1[i]?&&wJ Γ1[j]?&&!s.isView then (match sJ i j fc fe s 0 ds Γ1 [] with | .ok ds Γ2=>.ok ⟨.lst s,.list ds⟩ Γ2 | _=>.no) else .no):=h
    by_cases hn:(wJ Γ1[i]?&&wJ Γ1[j]?&&!s.isView)=true
    case neg=>rw [if_neg hn] at h;exact h.elim
    rw [if_pos hn] at h;simp only [Bool.and_eq_true,Bool.not_eq_true'] at hn
    obtain ⟨⟨hni,hnj⟩,hsv⟩:=hn;have hni:=gZ hni
    have hnj:=gZ hnj
    cases eg:sJ i j fc fe s 0 ds Γ1 [] with
    | er c Γ'=>rw [eg] at h;exact h.elim
    | no=>rw [eg] at h;exact h.elim
    | ok ds' Γ2=>
     rw [eg] at h;have h:Wants K W He O Fs H U Q (.ok ⟨.lst s,.list ds'⟩ Γ2):=h
     obtain ⟨p,vs,rfl,hq,hst,hr⟩:=A.own.items (O':=O++Fs1.flatten) hc iq A.disj
     have E1:=A.go
     have hlen:vs.length=ds.length:=hr.1
     have hi:i<Γ1.length:=(L7 hni).1
     have hj:j<Γ1.length:=(L7 hnj).1
     refine ⟨p,rfl,⟨vs,hq⟩,fun A0 hD=>?_⟩
     have hHeD:He A0=none:=E1.same.free hD
     have E0':EnvOk K He (A0::([]:List (List Addr)).flatten++O) Fs1 (bo H1 A0 (.lst [])) (aX [i,j] U) Γ1:=
      (E1.blank2 hni hnj).hide (G:=[A0]) (gN hD) (by simp) (fun a ha=>by simp at ha;rw [ha];exact hD) (fun a ha=>by simp at ha;rw [ha,da];exact Option.some_ne_none _)
     refine ⟨fun k m ys H'=>m=vs.length-k/\k<=vs.length/\∃Γk Fk Gs acc,GD K He O Fs1 H1 U i j s A0 Γ1.length ys H' Γk Fk Gs acc/\sJ i j fc fe s k (ds.drop k) Γk acc=.ok ds' Γ2,⟨vs.length,by simp,Nat.zero_le _,Γ1,Fs1,[],[],⟨E0',gN hD,da,fun a ha=>.inl (by simpa using ha),rfl,rfl,fun m v d G h1=>by simp at h1,rfl⟩,by simpa using eg⟩,?_⟩
     rintro k m ys H' ⟨rfl,hk,Γk,Fk,Gs,acc,g,eg'⟩
     refine ⟨g.at_,?_⟩
     have hPk:SqL K H' p vs:=g.same.seq hq
     by_cases hlt:k<vs.length
     case neg=>
      left
      have:ds.drop k=[]:=drop_eq_nil_of_le (by omega)
      rw [this] at eg';have eg'':(Out.ok acc Γk:Out (List Mc))=.ok ds' Γ2:=eg'
      injection eg'' with e1 e2
      subst e1;subst e2;refine ⟨⟨vs,hPk,by omega⟩,?_⟩
      obtain ⟨n1',_,n3'⟩:=L6 g.env.ndO;refine h (.ref A0) H' (A0::Gs.flatten) Fk ⟨A.same.trans g.same,g.env.unblank2,fun a ha=>?_,?_⟩
      ·have up:a∈Fs1.flatten\/H1 a=none->a∈Fs.flatten\/H a=none:=fun z=>z.elim (fun y=>A.newF a y) fun y=>.inr (A.same.free y)
       rcases LX ha with z | z
       ·rcases LZ z with z | z
        ·exact up (.inr (by rw [z];exact hD))
        ·exact up (g.new a (LU _ z))
       ·exact up (g.new a (LR _ z))
      ·exact .lst hsv g.at_ g.l1 g.l2 n1' fun m v d G h1 h2 h3=>g.own m v d G h1 h2 h3
     case pos=>
      right
      have hv:vs[k]?=some vs[k]:=L0 hlt
      have hkd:k<ds.length:=by omega
      have hd:ds[k]?=some ds[k]:=L0 hkd
      have hdr:ds.drop k=ds[k]::ds.drop (k+1):=drop_eq_getElem_cons hkd
      rw [hdr] at eg';generalize hdk:ds[k]=d at hd eg'
      generalize hvk:vs[k]=v at hv
      simp only [sJ] at eg'
      have hik:i<Γk.length:=by rw [g.len];exact hi
      have hjk:j<Γk.length:=by rw [g.len];exact hj
      have hsl:ys.length<sizeLine:=by
       rw [g.l1]
       cases ec:fc ((Γk.set i (Md (.int (k:Nat)))).set j (Md d)) with
       | no=>rw [ec] at eg';cases eg'
       | er c Γ'=>rw [ec] at eg';cases eg'
       | ok b Γa=>
        rw [ec] at eg'
        cases b with
        | false=>
         dsimp only at eg'
         split at eg'
         ·assumption
         ·cases eg'
        | true=>
         dsimp only at eg'
         split at eg'
         ·split at eg'
          ·rename_i z
           simp only [Bool.and_eq_true,decide_eq_true_eq] at z
           exact z.2
          ·cases eg'
         ·cases eg'
      refine ⟨⟨vs,v,hPk,hv⟩,hsl,?_⟩
      rintro x Hx ⟨T,v',rfl,hTn,rfl,hv'⟩
      have ev:v'=v:=Option.some.inj ((hv' vs hPk).symm.trans hv)
      subst ev;refine ⟨T,[.int k,v'],rfl,.of da,rfl,.int k,[v'],rfl,v',[],rfl,rfl,?_⟩
      have sT:Same H' (bo H' T (.tup [.int k,v'])):=gN hTn
      have Eg:=g.env.grow sT
      have rep:Rep K (bM (bo H' T (.tup [.int k,v'])) (A0::Gs.flatten++O++Fk.flatten)) v' d:=(hr.2 k v' d hv hd).mono (sk (g.same.trans sT) fun a ha=>by
       rcases LX ha with z | z
       ·rcases LX z with z | z
        ·rcases LZ z with z | z
         ·rw [z];exact .inr hD
         ·exact (g.new a (LU _ z)).elim (fun y=>.inl (LR _ y)) .inr
        ·exact .inl (LU _ z)
       ·exact (g.new a (LR _ z)).elim (fun y=>.inl (LR _ y)) .inr)
      have lF:Fk.length=Γk.length:=g.env.len2
      have Ep:=EnvOk.put (G:=[]) (i:=i) (p:=⟨.leaf,.int (k:Nat)⟩) (v:=.int k) Eg (.leaf (.int _)) rfl (fun a ha=>by simp at ha) hik
      have fk:∀a∈(Fk.set i []).flatten,a∈Fk.flatten:=fun a ha=>lT (by omega) ha
      have Eq:=EnvOk.put (G:=[]) (i:=j) (p:=⟨.leaf,d⟩) (v:=v') Ep (.leaf (rep.mono (sk (Same.refl _) fun a ha=>.inl (by
       rcases LX ha with z | z
       ·exact LU _ z
       ·exact LR _ (fk a z))))) rfl (fun a ha=>by simp at ha) (by rw [length_set];exact hjk)
      have fkk:∀a∈((Fk.set i []).set j []).flatten,a∈Fk.flatten:=fun a ha=>fk a (lT (by rw [length_set];omega) ha)
      refine ⟨⟨by rw [length_set,length_set],fun m u hm=>?_⟩,?_⟩
      ·have:=(Hl hm).1
       simp only [mem_cons,not_mem_nil,or_false,not_or] at this
       rw [getElem?_set_ne (Ne.symm this.2),getElem?_set_ne (Ne.symm this.1)];exact hm
      refine ⟨He,_,_,_,Eq,?_⟩
      cases ec:fc ((Γk.set i (Md (.int (k:Nat)))).set j (Md d)) with
      | no=>rw [ec] at eg';cases eg'
      | er c Γ'=>rw [ec] at eg';cases eg'
      | ok b Γa=>
       rw [ec] at eg';intro H3 Fs3 s3' E3 n3
       have s3:Same H' H3:=sT.trans s3'
       have lena:Γa.length=Γ1.length:=by
        have:=E3.len1
        rw [length_set,length_set,zC,E1.len1] at this;exact this.symm
       have n3':∀a∈Fs3.flatten,a∈Fs1.flatten\/H1 a=none:=fun a ha=>(n3 a ha).elim (fun z=>g.new a (LR _ (fkk a z))) fun z=>.inr (g.same.free (sT.free z))
       have n3k:∀a∈Fs3.flatten,a∈Fk.flatten\/H' a=none:=fun a ha=>(n3 a ha).elim (fun z=>.inl (fkk a z)) fun z=>.inr (sT.free z)
       cases b with
       | false=>
        dsimp only at eg'
        split at eg'
        case isFalse=>cases eg'
        refine fI ⟨vs.length-(k+1),by omega,rfl,hlt,(Γa.set i none).set j none,Fs3,Gs,acc,⟨E3.forget2,g.same.trans s3,s3 _ _ g.at_,fun a ha=>?_,g.l1,g.l2,fun m v d G h1 h2 h3=>(g.own m v d G h1 h2 h3).mono s3 fun a ha=>?_,by rw [length_set,length_set];exact lena⟩,eg'⟩
        ·rcases LX ha with z | z
         ·exact g.new a (LU _ z)
         ·exact n3' a z
        ·rcases LX ha with z | z
         ·exact .inl (LU _ z)
         ·exact (n3k a z).elim (fun y=>.inl (LR _ y)) .inr
       | true=>
        refine gY ⟨He,_,_,_,E3,?_⟩
        dsimp only at eg'
        cases ee:fe Γa with
        | no=>rw [ee] at eg';cases eg'
        | er c Γ'=>rw [ee] at eg';cases eg'
        | ok p Γb=>
         rw [ee] at eg';dsimp only at eg'
         split at eg'
         case isFalse=>cases eg'
         rename_i hco;simp only [Bool.and_eq_true,decide_eq_true_eq] at hco
         obtain ⟨hco,_⟩:=hco;intro u H4 G Fs4 A4;have lenb:Γb.length=Γ1.length:=by
          have:=A4.env.len1
          rw [length_set,length_set,zC,E1.len1] at this;exact this.symm
         have at4:H4 A0=some (.lst ys):=A4.same _ _ (s3 _ _ g.at_)
         have s14:Same H1 H4:=(g.same.trans s3).trans A4.same
         have new4:∀a∈G++Fs4.flatten,a∈Fs1.flatten\/H1 a=none:=fun a ha=>(A4.new a ha).elim (n3' a) fun z=>.inr ((g.same.trans s3).free z)
         have hG':∀a∈aI s G,a∈G:=fun a ha=>Jl ha
         obtain ⟨k1,k2,k3⟩:=L6 A4.env.ndO;have ndk:(aI s G).Nodup:=by
          cases s<;>first | exact nodup_nil | exact k1
         have pmO:(A0::(Gs++[aI s G]).flatten++O).Perm (aI s G++(A0::Gs.flatten++O)):=by
          rw [w9];show (A0::((Gs.flatten++aI s G)++O)).Perm _
          refine List.Perm.trans ?_ List.perm_middle.symm
          refine List.Perm.cons _ ?_
          rw [append_assoc];exact la _ _ _
         have E5:EnvOk K He (aI s G++(A0::Gs.flatten++O)) Fs4 H4 (((aX [i,j] U).set i (some (.int k))).set j (some v')) Γb:=A4.env.drop (fun a ha=>by
          rcases LX ha with z | z
          ·exact LU _ (hG' a z)
          ·exact LR _ z) (List.nodup_append.mpr ⟨ndk,k2,fun a ha b hb=>k3 a (hG' a ha) b hb⟩)
         have E6:=(E5.perm pmO).forget2
         have hDin:A0∈A0::(Gs++[aI s G]).flatten++O:=mem_cons_self
         have E7:=E6.mutO (o:=.lst (ys++[u])) hDin at4 hHeD
         have subH:∀a∈A0::(Gs++[aI s G]).flatten++O++Fs4.flatten,a∈G++(A0::Gs.flatten++O)++Fs4.flatten:=fun a ha=>by
          rcases LX ha with z | z
          ·rcases LX (pmO.mem_iff.mp z) with y | y
           ·exact LU _ (LU _ (hG' a y))
           ·exact LU _ (LR _ y)
          ·exact LR _ z
         have Dnot:∀{m:Nat} {Gj:List Addr},Gs[m]?=some Gj->A0∉Gj:=fun {m Gj} hj z=>by
          have nd:=g.env.ndO
          exact (List.nodup_cons.mp nd).1 (LU _ (ik hj z))
         refine ⟨at4,vs.length-(k+1),by omega,rfl,hlt,(Γb.set i none).set j none,Fs4,Gs++[aI s G],acc++[p.d],⟨E7,fun b o hb=>?_,da,fun a ha=>?_,by simp [g.l1],by simp [g.l2],fun m w d' G' h1 h2 h3=>?_,by rw [length_set,length_set];exact lenb⟩,eg'⟩
         ·rw [b9 (iT hb hD)]
          exact s14 b o hb
         ·rcases LX ha with z | z
          ·rw [w9] at z
           rcases LX z with z | z
           ·exact g.new a (LU _ z)
           ·exact new4 a (LU _ (hG' a z))
          ·exact new4 a (LR _ z)
         ·by_cases hm:m<ys.length
          ·rw [getElem?_append_left hm] at h1
           rw [getElem?_append_left (by rw [<-g.l1];exact hm)] at h2
           rw [getElem?_append_left (by rw [g.l2,<-g.l1];exact hm)] at h3
           have o1:=g.own m w d' G' h1 h2 h3
           have o2:=o1.mono (O':=A0::(Gs++[aI s G]).flatten++O++Fs4.flatten) (s3.trans A4.same) fun a ha=>by
            have up:a∈G++Fs4.flatten->a∈A0::Gs.flatten++O++Fk.flatten\/H' a=none:=fun z=>(A4.new a z).elim (fun y=>(n3k a y).elim (fun y=>.inl (LR _ y)) .inr) fun y=>.inr (s3.free y)
            rcases LX (subH a ha) with z | z
            ·rcases LX z with z | z
             ·exact up (LU _ z)
             ·exact .inl (LU _ z)
            ·exact up (LR _ z)
           exact o2.mut hsv (LU _ hDin) (Dnot h3) at4
          ·have hm':m=ys.length:=by
            have:=(L7 h1).1
            rw [length_append,length_singleton] at this;omega
           subst hm'
           rw [getElem?_append_right (Mb _),Nat.sub_self] at h1;rw [getElem?_append_right (by rw [g.l1];exact Mb _),show ys.length-acc.length=0 by rw [g.l1];exact Nat.sub_self _] at h2
           rw [getElem?_append_right (by rw [g.l2,g.l1];exact Mb _),show ys.length-Gs.length=0 by rw [g.l2,g.l1];exact Nat.sub_self _] at h3
           cases h1
           cases h2
           cases h3;have o3:=A4.own.coer (s:=s) (O':=A0::(Gs++[aI s G]).flatten++O++Fs4.flatten) hco subH fun a ha hO=>by
            cases s with
            | leaf=>
             exfalso
             have hO':a∈(A0::Gs.flatten++O)++Fs4.flatten:=by
              rw [w9] at hO;simpa [aI] using hO
             rcases LX hO' with z | z
             ·exact k3 a ha a z rfl
             ·have nd:=A4.env.nd
              exact (L6 nd).2.2 a (LU _ ha) a z rfl
            | view=>cases hsv
            | lst s=>exact ha
            | tup ss=>exact ha
           refine o3.mut hsv (LU _ hDin) (fun z=>?_) at4
           exact k3 A0 (hG' A0 z) A0 mem_cons_self rfl
  | _=>exact h.elim
end
def D7 (N:List Str) (is:List Nat) (cs:List Nat) (sc:Scope):Bool:=
 decide (sc.kind=.function)&&(sc.names.all fun p=>!decide (p.2=.free)||cs.any fun j=>decide (N[j]?=some p.1)) &&
 ((List.range N.length).all fun j=>is.contains j||(sc.names.all fun p=>!decide (some p.1=N[j]?)||(!decide (p.2=.local)&&!decide (p.2=.cell)))) &&
 (sc.names.all fun p=>!decide (p.2=.local)||decide (sc.names.lookup p.1=some .local)) &&
 (sc.names.all fun p=>!decide (p.2=.free)||sc.names.all fun q=>!decide (q.1=p.1)||!decide (q.2=.cell))
theorem Jr {N gl:List Str} {vs cs ls lo gs is:List Nat} {scope:Scope} (S:Cp X N gl vs cs ls lo gs) (h:D7 N is cs scope=true):cX X.N is X.env.scope scope:=by
 unfold D7 at h;simp only [Bool.and_eq_true,decide_eq_true_eq,all_eq_true,Bool.or_eq_true,Bool.not_eq_true',decide_eq_false_iff_not,any_eq_true,mem_range] at h
 obtain ⟨⟨⟨⟨h0,h1⟩,h2⟩,h3⟩,h4⟩:=h;refine ⟨h0,fun n hn=>?_,fun j x e hj=>?_,fun x hx e=>?_,fun n hn hc=>?_⟩
 ·rcases h1 _ hn with z | ⟨j,hj,e⟩
  ·exact absurd rfl z
  ·exact S.cel j n e (by simpa using hj)
 ·rw [S.hN] at e
  rcases h2 j (L7 e).1 with z | z
  ·simpa using z
  ·exfalso
   rcases hj with y | y
   ·rcases z _ y with w | w
    ·exact w e.symm
    ·exact w.1 rfl
   ·rcases z _ y with w | w
    ·exact w e.symm
    ·exact w.2 rfl
 ·rcases h3 x hx with z | z
  ·exact absurd e z
  ·exact z
 ·rcases h4 _ hn with z | z
  ·exact z rfl
  ·rcases z _ hc with w | w
   ·exact w rfl
   ·exact w rfl
end T
namespace TQ
open PySem PySem.Spec L2 T
open PyProof.Rows hiding St
variable {p2:Pos} {x:Str}
section
variable {X:Cx} {N gl:List Str} {vs cs ls lo gs:List Nat} {W:XW} {a b c e:Expr} {es:List Expr} {pos p:Pos} {fa fb fc:F1} {fl:FL} {ga gb:FB} {g1 g2 g:FS}
theorem DH {st:Stmt}:Q (PS X st (tS X.K W xr)):=⟨fun pins s U H D I h=>by
 obtain ⟨He,O,Fs,Γ,E,h⟩:=h;exact h.elim⟩
theorem zD (ha:Q (PE X e (tE X.K W fa))) (hs:swapsWith e none pos.line X.env=pure false):Q (PS X (.Expr e pos) (tS X.K W (bG fa))):=⟨T.ds_drop ha.p hs⟩
theorem Ew {X:Cx} {N gl:List Str} {vs cs ls lo gs:List Nat} {W:XW} {a:Expr} {pos p:Pos} {fa:F1} {c:String} (S:Cp X N gl vs cs ls lo gs) (j k:Nat) (hj:gl[j]?=some ("isinstance":Str)) (hg:gs.contains j=true) (hk:gl[k]?=some x) (hg2:gs.contains k=true) (hc:kinds.contains c=true) (hv:bootBuiltins x=some (.type c)) (hm:X.mg "isinstance"=none) (hm2:X.mg x=none) (ha:Q (PE X a (tE X.K W fa))) (hs:starEach [a,.Name x p2] X.env=(false,eval a X.env)::starEach [.Name x p2] X.env) (hs2:starEach [.Name x p2] X.env=(false,eval (.Name x p2) X.env)::starEach [] X.env) (hpl:(backTo pos (starEach [.Name x p2] X.env)).any (·.1)=false):Q (PE X (.Call (.Name "isinstance" p) [a,.Name x p2] [] pos) (tE X.K W (iK c fa))):=⟨have ha:=ha.p;aJ (AG (wc (by simpa using hc)) (S.g hj hg).1 hm JB (gM ha (gM (pz (v:=.ty c) (S.g hk hg2).1 hm2 hv rfl (S.g hk hg2).2.2 (S.g hk hg2).2.1) mP hs2) hs) (S.g hj hg).2.2 (S.g hj hg).2.1 hs hpl) fun _ _ _=>Bx⟩
theorem gO {pos2:Pos} (S:Cp X N gl vs cs ls lo gs) (j k:Nat) (hj:gl[j]?=some ("list":Str)) (hg:gs.contains j=true) (hm:X.mg "list"=none) (hk:gl[k]?=some ("range":Str)) (hg2:gs.contains k=true) (hm2:X.mg "range"=none) (ha:Q (PA X [a] (tA X.K W fl))) (hs:starEach [a] X.env=[(false,eval a X.env)]) (hs1:starEach [.Call (.Name "range" p2) [a] [] pos2] X.env=[(false,eval (.Call (.Name "range" p2) [a] [] pos2) X.env)]):Q (PE X (.Call (.Name "list" p) [.Call (.Name "range" p2) [a] [] pos2] [] pos) (tE X.K W (Df fl))):=⟨have ha:=ha.p;aJ (jJ (S.g hj hg).1 hm (S.g hk hg2).1 hm2 S.calm ha hs hs1) fun _ _ _=>E8⟩
theorem Hy (n:Nat) {body:List Stmt} (hp:PassesOwn (model X.prog X.w) X.A X.env X.xe) (hc:Q (PT X c (tT X.K W ga))) (hb:Q (PSs X body (tS X.K W g))):Q (PS X (.While c body [] pos) (tS X.K W (sL n ga g))):=⟨have hc:=hc.p;have hb:=hb.p;b8 (kZ hp hc hb) fun _ _ _=>t8⟩
theorem EI {scope:Scope} {y:Str} {px py pt cpos:Pos} {kt:Nat} {elt:Expr} {ifs:List Expr} {fe:F1} {fc:FB} {vs' cs' lo' gs':List Nat} (S:Cp X N gl vs cs ls lo gs) (s:Sh) (i j k:Nat) (hij:(i != j)=true) (hx:N[i]?=some x) (hy:N[j]?=some y) (hk:gl[k]?=some ("enumerate":Str)) (hg:gs.contains k=true) (hm:X.mg "enumerate"=none) (h1:D7 N [i,j] cs scope=true) (h2:iO N gl vs' cs' [i,j] lo' gs' scope=true) (ha:Q (PE X a (tE X.K W fa))) (hs1:starEach [a] X.env=[(false,eval a X.env)]) (hc:sG X N gl vs' cs' [i,j] lo' gs' fun Y=>Q (PF Y ifs (tT Y.K W0 fc))) (he:sG X N gl vs' cs' [i,j] lo' gs' fun Y=>Q (PE Y elt (tE Y.K W0 fe))) (hs:∀x,foldedSetIterable (.Call (.Name "enumerate" p) [a] [] cpos) X.env x=pure x):Q (PE X (.ListComp elt [⟨.Tuple [.Name x px,.Name y py] kt pt,.Call (.Name "enumerate" p) [a] [] cpos,ifs,0⟩] scope pos) (tE X.K W (AC s i j fa fc fe))):=⟨by
 have ha:=ha.p
 have hc:=fun Y S F=>(hc Y S F).p
 have he:=fun Y S F=>(he Y S F).p
 have B:=fun cells C s₀ H₀ ex=>S.blk h2 cells C s₀ H₀ ex
 have L:=fun cells C s₀ H₀ ex=>(B cells C s₀ H₀ ex).loc i x hx (by simp)
 have L2':=fun cells C s₀ H₀ ex=>(B cells C s₀ H₀ ex).loc j y hy (by simp)
 have hN:X.N.Nodup:=by rw [S.hN];exact S.nd
 exact aJ (IH (Jr S h1) S.calm (pj (S.g hk hg).1 hm (da_cons ha da_nil hs1) hs1)
  (fun cells C s₀ H₀ ex=>uL (X:=blk X scope cells C s₀ H₀ ex) S.calm (Hi (sN (X:=blk X scope cells C s₀ H₀ ex) (i:=i) hN (by show X.N[i]?=_;rw [S.hN];exact hx) (L cells C s₀ H₀ ex).1 (L cells C s₀ H₀ ex).2) (Hi (sN (X:=blk X scope cells C s₀ H₀ ex) (i:=j) hN (by show X.N[j]?=_;rw [S.hN];exact hy) (L2' cells C s₀ H₀ ex).1 (L2' cells C s₀ H₀ ex).2) pq)))
  (fun cells C s₀ H₀ ex=>hc _ (B cells C s₀ H₀ ex) ⟨rfl,rfl,rfl,rfl,rfl,rfl⟩) (fun cells C s₀ H₀ ex=>he _ (B cells C s₀ H₀ ex) ⟨rfl,rfl,rfl,rfl,rfl,rfl⟩) hs) fun _ _ _=>uj (by simpa using hij)⟩
end
end TQ
namespace L2
open PySem PySem.Spec PyProof.Rows
variable {o:Option V} {u:Value} {y:V} {kvs:List (List bE×V)} {H':Hp} {h':Heap} {pos:Pos} {X:Cx} {trs:List (TE×TE)}
section
variable {κ:Type} [DecidableEq κ]
def cQ (kvs:List (κ×V)) (k:κ):Option V:=(kvs.find? fun kv=>decide (kv.1=k)).map (·.2)
def dH (kvs:List (κ×V)) (k:κ) (v:V):List (κ×V):=
 if (kvs.any fun kv=>decide (kv.1=k))=true then kvs.map (fun kv=>if kv.1=k then (kv.1,v) else kv) else kvs++[(k,v)]
theorem Eu {p:κ×V} {r:List (κ×V)} {k:κ} (e:p.1=k):cQ (p::r) k=some p.2:=by simp [cQ,find?_cons,e]
theorem Et {p:κ×V} {r:List (κ×V)} {k:κ} (e:¬p.1=k):cQ (p::r) k=cQ r k:=by simp [cQ,find?_cons,e]
theorem Jb (k:κ):∀kvs:List (κ×V),(kvs.any fun kv=>decide (kv.1=k))=(cQ kvs k).isSome
 | []=>rfl
 | p::r=>by
  rw [List.any_cons];by_cases e:p.1=k
  ·simp only [Eu e,decide_eq_true e,Bool.true_or,Option.isSome_some]
  ·rw [Et e,decide_eq_false e,Bool.false_or];exact Jb k r
theorem Jw (kvs:List (κ×V)) (k:κ) (v:V):(dH kvs k v).length<=kvs.length+1:=by
 unfold dH;split
 ·rw [length_map];omega
 ·rw [length_append,length_cons,length_nil];omega
theorem kY {kvs:List (κ×V)} {k:κ} (v:V) (h:cQ kvs k=none):dH kvs k v=kvs++[(k,v)]:=by
 unfold dH;rw [Jb,h];exact if_neg (by decide)
theorem RelO.isSome_eq {u:Option Value} (r:RelO o u):o.isSome=u.isSome:=by
 cases o with
 | none=>cases u with
  | none=>rfl
  | some _=>exact (show False from r).elim
 | some _=>cases u with
  | none=>exact (show False from r).elim
  | some _=>rfl
theorem KV.val {kvs:List (κ×V)} {vs:List (κ×Value)} (r:KV kvs vs) (k:κ):RelO (cQ kvs k) (valueAt vs k):=by
 unfold KV at r;induction r with
 | nil=>exact True.intro
 | @cons p q ps qs h t ih=>
  obtain ⟨h1,h2⟩:=h;by_cases e:p.1=k
  ·have e':q.1=k:=h1.symm.trans e
   have b:valueAt (q::qs) k=some q.2:=by simp [valueAt,find?_cons,e']
   rw [Eu e,b];exact h2
  ·have e':¬q.1=k:=fun z=>e (h1.trans z)
   have b:valueAt (q::qs) k=valueAt qs k:=by simp [valueAt,find?_cons,e']
   rw [Et e,b];exact ih
theorem KV.any {kvs:List (κ×V)} {vs:List (κ×Value)} (r:KV kvs vs) (k:κ):(kvs.any fun kv=>decide (kv.1=k))=vs.any fun kv=>decide (kv.1=k):=by
 unfold KV at r;induction r with
 | nil=>rfl
 | cons h t ih=>rw [List.any_cons,List.any_cons,ih,h.1]
theorem KV.repl {kvs:List (κ×V)} {vs:List (κ×Value)} (r:KV kvs vs) (k:κ) (ry:RelV y u) :
  KV (kvs.map fun kv=>if kv.1=k then (kv.1,y) else kv) (vs.map fun kv=>if kv.1=k then (kv.1,u) else kv):=by
 unfold KV at r ⊢
 induction r with
 | nil=>exact .nil
 | @cons p q ps qs h t ih=>
  rw [map_cons,map_cons];refine .cons ?_ ih
  obtain ⟨h1,h2⟩:=h;by_cases e:p.1=k
  ·rw [if_pos e,if_pos (h1.symm.trans e)];exact ⟨h1,ry⟩
  ·rw [if_neg e,if_neg (fun z=>e (h1.trans z))];exact ⟨h1,h2⟩
theorem KV.put {kvs:List (κ×V)} {vs:List (κ×Value)} (r:KV kvs vs) (k:κ) (ry:RelV y u):KV (dH kvs k y) (stored vs k u):=by
 unfold dH stored;rw [r.any k];by_cases e:(vs.any fun kv=>decide (kv.1=k))=true
 ·rw [if_pos e,if_pos e];exact r.repl k ry
 ·rw [if_neg e,if_neg e];exact Paired.snoc r ⟨rfl,ry⟩
theorem KV.length {kvs:List (κ×V)} {vs:List (κ×Value)} (r:KV kvs vs):kvs.length=vs.length:=Paired.length r
end
theorem jf {P:Program} {w:World} {k:bE} (r:RelV (kV k) u):(kg P w).is k u=true:=by
 cases k with
 | inl i=>obtain ⟨t,e⟩:=(show ∃t,u=Value.int i t from r);subst e;exact lG P w i t
 | inr x=>obtain ⟨t,e⟩:=(show ∃t,u=Value.str x t from r);subst e;exact lE P w x t
theorem jg {P:Program} {w:World}:∀{ks:List bE} {us:List Value},Vals (ks.map kV) us->ItemsAre (kg P w) ks us
 | [],_,r=>by rw [map_nil] at r;cases r;exact .nil
 | k::ks,_,r=>by
  rw [map_cons] at r
  cases r with
  | cons h t=>exact .cons (jf h) (jg t)
abbrev KT (H:Hp):List (List bE×V)->List (List bE×Addr×Value)->Prop:=Paired fun p q=>p.1=q.1/\H q.2.1=some (.tup (p.1.map kV))/\RelV p.2 q.2.2
theorem KT.val {H:Hp} {xs:List (List bE×Addr×Value)} (r:KT H kvs xs) (k:List bE):RelO (cQ kvs k) ((atKey xs k).map (·.2)):=by
 induction r with
 | nil=>exact True.intro
 | @cons p q ps qs h t ih=>
  obtain ⟨h1,_,h2⟩:=h;by_cases e:p.1=k
  ·have e':q.1=k:=h1.symm.trans e
   have b:atKey (q::qs) k=some q.2:=by simp [atKey,find?_cons,e']
   rw [Eu e,b];exact h2
  ·have e':¬q.1=k:=fun z=>e (h1.trans z)
   have b:atKey (q::qs) k=atKey qs k:=by simp [atKey,find?_cons,e']
   rw [Et e,b];exact ih
theorem KT.repl {H:Hp} {xs:List (List bE×Addr×Value)} (r:KT H kvs xs) (k:List bE) (ry:RelV y u) :
  KT H (kvs.map fun kv=>if kv.1=k then (kv.1,y) else kv) (xs.map (putAt k u)):=by
 induction r with
 | nil=>exact .nil
 | @cons p q ps qs h t ih=>
  rw [map_cons,map_cons];refine .cons ?_ ih
  obtain ⟨h1,h2,h3⟩:=h;unfold putAt;by_cases e:p.1=k
  ·rw [if_pos e,if_pos (h1.symm.trans e)];exact ⟨h1,h2,ry⟩
  ·rw [if_neg e,if_neg (fun z=>e (h1.trans z))];exact ⟨h1,h2,h3⟩
theorem KT.put {H:Hp} {xs:List (List bE×Addr×Value)} (r:KT H kvs xs) (k:List bE) {b:Addr} (hb:H b=some (.tup (k.map kV))) (ry:RelV y u) :
  KT H (dH kvs k y) (storedH xs k b u):=by
 have e:(kvs.any fun kv=>decide (kv.1=k))=(atKey xs k).isSome:=by
  rw [Jb,(r.val k).isSome_eq,Option.isSome_map]
 unfold dH storedH;rw [e];by_cases q:(atKey xs k).isSome=true
 ·rw [if_pos q,if_pos q];exact r.repl k ry
 ·rw [if_neg q,if_neg q];exact Paired.snoc r ⟨rfl,hb,ry⟩
theorem KT.keeps {H:Hp} {xs:List (List bE×Addr×Value)} (r:KT H kvs xs) (ht:∀b ys,H b=some (.tup ys)->H' b=some (.tup ys)):KT H' kvs xs:=
 Paired.mapP r fun _ _ z=>⟨z.1,ht _ _ z.2.1,z.2.2⟩
section
variable {P:Program} {w:World} {H:Hp} {h:Heap} {a:Addr}
theorem zQ {u:HO} (ok:HOk P w H h) (e:Rd H a u):ObjOk P w H h a u:=e.ok ok
theorem lX {kvs:List (bE×V)} (ok:HOk P w H h) (e:Rd H a (.dK kvs)):kvs.length<=sizeLine/\(a==sysModules)=false/\∃vs,KV kvs vs/\h.DictOf (kg P w) a vs:=
 show ObjOk P w H h a (.dK kvs) from zQ ok e
theorem vS {kvs:List (bE×V)} (ok:HOk P w H h) (e:H a=some (.dK kvs)):kvs.length<=sizeLine/\(a==sysModules)=false/\∃vs,KV kvs vs/\h.DictOf (kg P w) a vs:=lX ok (.inl e)
theorem Ea {ks:List bE} (ok:HOk P w H h) (e:H a=some (.tup (ks.map kV))):(tupleKind (kg P w)).is h ks a:=by
 obtain ⟨_,its,r,o,h1,h2,n,h3⟩:=(show ObjOk P w H h a (.tup (ks.map kV)) from ok a _ e);exact ⟨o,its.toArray,n,h1,h2,h3,by simpa using jg r⟩
theorem lW (ok:HOk P w H h) (e:Rd H a (.dT kvs)):kvs.length<=sizeLine/\(a==sysModules)=false /\
  ∃xs,KT H kvs xs/\h.DictOfH (tupleKind (kg P w)) a xs:=by
 obtain ⟨z,y,xs,r,o,es,ep,h1,h2,h3,h4,h5⟩:=(show ObjOk P w H h a (.dT kvs) from zQ ok e);refine ⟨z,y,xs,r,o,es,ep,h1,h2,h3,h4,fun x hx=>?_,h5⟩
 have all:∀{l:List (List bE×V)} {m:List (List bE×Addr×Value)},KT H l m->∀x∈m,(tupleKind (kg P w)).is h x.1 x.2.1:=by
  intro l m q;induction q with
  | nil=>intro x hx;exact nomatch hx
  | @cons p q ps qs hq t ih=>
   intro x hx;rcases LZ hx with e | hx
   ·subst e
    exact Ea ok (by rw [<-hq.1];exact hq.2.1)
   ·exact ih x hx
 exact all r x hx
theorem FZ (ok:HOk P w H h) (e:H a=some (.dT kvs)):kvs.length<=sizeLine/\(a==sysModules)=false /\
  ∃xs,KT H kvs xs/\h.DictOfH (tupleKind (kg P w)) a xs:=lW ok (.inl e)
end
def DGet (H:Hp) (a:Addr) (y:V) (r:Option V):Prop:=
 (∃kvs k,Rd H a (.dK kvs)/\y=kV k/\r=cQ kvs k)\/∃kvs k b,Rd H a (.dT kvs)/\y=.ref b/\H b=some (.tup (k.map kV))/\r=cQ kvs k
def DPut (H:Hp) (a:Addr) (y v:V) (H':Hp):Prop:=
 (∃kvs k,H a=some (.dK kvs)/\y=kV k/\kvs.length<sizeLine/\H'=bo H a (.dK (dH kvs k v))) \/
 ∃kvs k b,H a=some (.dT kvs)/\y=.ref b/\H b=some (.tup (k.map kV))/\kvs.length<sizeLine/\H'=bo H a (.dT (dH kvs k v))
theorem DGet.k {H:Hp} {a:Addr} {kvs:List (bE×V)} {k:bE} (e:H a=some (.dK kvs)):DGet H a (kV k) (cQ kvs k):=.inl ⟨kvs,k,.inl e,rfl,rfl⟩
theorem DPut.k {H:Hp} {a:Addr} {kvs:List (bE×V)} {k:bE} {v:V} (e:H a=some (.dK kvs)) (hl:kvs.length<sizeLine):DPut H a (kV k) v (bo H a (.dK (dH kvs k v))):=.inl ⟨kvs,k,e,rfl,hl,rfl⟩
section
variable {X:Cx} {pins:List (Addr×Obj)} {U:St} {H:Hp} {s:Shared} {a:Addr} {y v:V} {u r:Value} {o:Option V} {A:Around} {E:Value->Shared->Prop}
theorem Inv.big (I:Inv X pins U H s):sysModules<s.heap.objs.size:=by
 have h:mainGlobals<s.heap.objs.size:=(I.mod.glob.keeps I.bk).lt
 exact Nat.lt_trans (by decide) h
theorem rO {Q:Value->Shared->Prop} (hu:A.units+1<cLine) (I:Inv X pins U H s) (g:DGet H a y (some v)) (ry:RelV y u) (h:∀w' s',Inv X pins U H s'->RelV v w'->Q w' s') :
  wpAny (model X.prog X.w) A (getItem (.ref a) u) Q E s:=by
 rcases g with ⟨kvs,k,e,ey,l⟩ | ⟨kvs,k,b,e,ey,eb,l⟩
 ·subst ey
  obtain ⟨z,hd,vs,rel,dd⟩:=lX I.hok e;obtain ⟨w',hw,rw'⟩:=RelO.some_of (v:=v) (o:=valueAt vs k) (by rw [l];exact rel.val k)
  exact wpAny_getItem_of (jf ry) dd.mapOf hw (h w' _ (I.tok _) rw')
 ·subst ey
  cases (show u=Value.ref b from ry)
  obtain ⟨z,hd,xs,rel,dd⟩:=lW I.hok e;obtain ⟨w',hw,rw'⟩:=RelO.some_of (v:=v) (o:=(atKey xs k).map (·.2)) (by rw [l];exact rel.val k)
  obtain ⟨p,hp,hp2⟩:=Option.map_eq_some_iff.mp hw;refine wpAny_getItem_heap (tupleKind_room_in1 hu) (Ea I.hok eb) dd hp ?_
  rw [hp2];exact h w' _ (I.tok _) rw'
theorem Ky {Q:Value->Shared->Prop} (hu:A.units+1<cLine) (I:Inv X pins U H s) (g:DGet H a y o) (ry:RelV y u) (h:∀s',Inv X pins U H s'->Q (.bool o.isSome) s') :
  wpAny (model X.prog X.w) A (compareOp .In u (.ref a)) Q E s:=by
 rcases g with ⟨kvs,k,e,ey,l⟩ | ⟨kvs,k,b,e,ey,eb,l⟩
 ·subst ey
  obtain ⟨z,hd,vs,rel,dd⟩:=lX I.hok e;refine wpAny_in_of (jf ry) hd dd.mapOf ?_
  rw [<-(rel.val k).isSome_eq,<-l];exact h _ (I.tok _)
 ·subst ey
  cases (show u=Value.ref b from ry)
  obtain ⟨z,hd,xs,rel,dd⟩:=lW I.hok e;refine wpAny_in_heap (tupleKind_room_in1 hu) (Ea I.hok eb) hd dd ?_
  have q:=(rel.val k).isSome_eq
  rw [Option.isSome_map] at q;rw [<-q,<-l];exact h _ (I.tok _)
theorem yW {Q:Value->Shared->Prop} (hu:A.units+1<cLine) (I:Inv X pins U H s) (g:DGet H a y o) (ry:RelV y u) (h:∀s',Inv X pins U H s'->Q (.bool (!o.isSome)) s') :
  wpAny (model X.prog X.w) A (compareOp .NotIn u (.ref a)) Q E s:=by
 rcases g with ⟨kvs,k,e,ey,l⟩ | ⟨kvs,k,b,e,ey,eb,l⟩
 ·subst ey
  obtain ⟨z,hd,vs,rel,dd⟩:=lX I.hok e;refine wpAny_notIn_of (jf ry) hd dd.mapOf ?_
  rw [<-(rel.val k).isSome_eq,<-l];exact h _ (I.tok _)
 ·subst ey
  cases (show u=Value.ref b from ry)
  obtain ⟨z,hd,xs,rel,dd⟩:=lW I.hok e;refine wpAny_notIn_heap (tupleKind_room_in1 hu) (Ea I.hok eb) hd dd ?_
  have q:=(rel.val k).isSome_eq
  rw [Option.isSome_map] at q;rw [<-q,<-l];exact h _ (I.tok _)
theorem ID {t':Nat} {ob:HO} (I:Inv X pins U H s) (mu:GB (H a)) (hs:Heap.SameBut a s.heap h') (he:∃q,h'.get? a=some q) (new:ObjOk X.prog X.w (bo H a ob) h' a ob) :
  Inv X pins U (bo H a ob) { s with heap:=h',toks:=t' }:=
 I.write (x:=a) (e:=a) mu (.inl rfl) (fun b q hb z=>(hs.2 b hb).trans z) he new
theorem vT {P:Program} {w:World} {kvs:List (bE×V)} {vs:List (bE×Value)} (z:kvs.length<=sizeLine) (hd:(a==sysModules)=false) (rel:KV kvs vs) (dd:h'.DictOf (kg P w) a vs) :
  ObjOk P w H' h' a (.dK kvs):=⟨z,hd,vs,rel,dd⟩
theorem rK {Q:Unit->Shared->Prop} (hu:A.units+1<cLine) (I:Inv X pins U H s) (g:DPut H a y v H') (ry:RelV y u) (rv:RelV v r) (h:∀s',Inv X pins U H' s'->Q () s') :
  wpAny (model X.prog X.w) A (setItem (.ref a) u r) Q E s:=by
 rcases g with ⟨kvs,k,e,ey,l,eH⟩ | ⟨kvs,k,b,e,ey,eb,l,eH⟩
 ·subst ey eH
  obtain ⟨z,hd,vs,rel,dd⟩:=vS I.hok e;have hz:vs.length<=sizeLine:=by rw [<-rel.length];exact z
  have hl:(dH kvs k v).length<=sizeLine:=by have:=Jw kvs k v;omega
  refine wpAny_setItem_pairs (hsz:=hz) (jf ry) dd fun h' dd' hs=>h _ ?_
  have he:∃q,h'.get? a=some q:=let ⟨q,_,_,hq,_⟩:=dd';⟨q,hq⟩
  exact ID I (by rw [e];exact True.intro) hs he (vT hl hd (rel.put k rv) dd')
 ·subst ey eH
  cases (show u=Value.ref b from ry)
  obtain ⟨z,hd,xs,rel,dd⟩:=FZ I.hok e;have hz:xs.length<=sizeLine:=by rw [<-Paired.length rel];exact z
  have hl:(dH kvs k v).length<=sizeLine:=by have:=Jw kvs k v;omega
  refine wpAny_setItem_heap (hsz:=hz) (tupleKind_room_in1 hu) (Ea I.hok eb) dd fun h' dd' hs=>h _ ?_
  obtain ⟨q,es,ep,hq,h2,h3,h4,_,h5⟩:=dd'
  refine ID I (by rw [e];exact True.intro) hs ⟨q,hq⟩ ⟨hl,hd,_,(rel.put k eb rv).keeps fun c ys ec=>?_,q,es,ep,hq,h2,h3,h4,h5⟩
  rw [b9 (FE ec e nofun)];exact ec
end
def GA (i:Expr):Prop:=∀ov iv,subscripted i false ov iv=operate [ov,iv] (getItem ov iv)
theorem xp {prog:Program} {w:World} {A:Around} {E:Value->Shared->Prop} {s:Shared} {env:Env} {value slice:Expr} {T id:String} {Q:Value->Shared->Prop}
  (hl:typeLookup (.type T) "__getitem__"=pure (some (.builtin id))) (hs:GA slice)
  (h:wpAny (model prog w) A (eval value env) (fun o s₁=>wpAny (model prog w) A (eval slice env) (fun i s₂=>s₂.TypeIs o T/\wpAny (model prog w) A (getItem o i) Q E s₂) E s₁) E s) :
  wpAny (model prog w) A (eval (.Subscript value slice pos) env) Q E s:=by
 refine Subscript_ (wpAny_mono h (fun o s₁ h₁=>wpAny_mono h₁ (fun i s₂ h₂=>?_) fun _ _ x=>x) fun _ _ x=>x)
 obtain ⟨hT,h₂⟩:=h₂;unfold subscriptTail;refine L8 ?_
 rw [getitemInPython_of_ne hT.not_modules];refine L8 (wpAny_specialOf hT hl ?_)
 have fin:wpAny (model prog w) A (subscripted slice false o i) (fun r s₃=>wpAny (model prog w) A (letTemporaryGo value o r >>= fun _=>pure r) Q E s₃) E s₂:=by
  rw [hs o i];exact wpAny_operating (wpAny_mono h₂ (fun r s₃ h₃=>L8 (wpAny_letTemporaryGo (L9 h₃))) fun _ _ x=>x)
 first
  | exact L9 (L8 fin)
  | exact L8 (L9 (L8 fin))
  | exact L8 fin
theorem lZ {pins:List (Addr×Obj)} {U:St} {H:Hp} {s:Shared} {a:Addr} (I:Inv X pins U H s) (g:DGet H a y o):s.TypeIs (.ref a) "dict":=by
 rcases g with ⟨kvs,k,e,_,_⟩ | ⟨kvs,k,b,e,_,_,_⟩
 ·obtain ⟨_,_,vs,_,dd⟩:=lX I.hok e
  exact dd.typeIs
 ·obtain ⟨_,_,xs,_,dd⟩:=lW I.hok e
  exact dd.typeIs
def tQ (td ty:TE):TE:=fun U H Q=>td U H fun x H1=>ty U H1 fun y H2=>∃a v,x=.ref a/\DGet H2 a y (some v)/\Q v H2
def Be (ty td:TE):TE:=fun U H Q=>ty U H fun y H1=>td U H1 fun x H2=>∃a o,x=.ref a/\DGet H2 a y o/\Q (.bl o.isSome) H2
def IL (ty td:TE):TE:=fun U H Q=>ty U H fun y H1=>td U H1 fun x H2=>∃a o,x=.ref a/\DGet H2 a y o/\Q (.bl (!o.isSome)) H2
def oR (td ty tv:TE):TS:=fun D U H=>tv U H fun v H1=>td U H1 fun x H2=>ty U H2 fun y H3=>∃a H4,x=.ref a/\DPut H3 a y v H4/\D.nx U H4
section
variable {X:Cx} {o i e value:Expr} {pos pos' tpos:Pos} {td ty tv:TE}
theorem xZ (hu:X.A.units+1<cLine) (ho:PE X o td) (hi:PE X i ty) (hs:GA i):PE X (.Subscript o i pos) (tQ td ty):=by
 intro pins s U H Q I h;refine xp PySem.F.slot_dict_getitem.lookup hs (bj (ho pins s U H _ I h) fun u s1 ⟨x,H1,I1,rx,q1⟩=>bj (hi pins s1 U H1 _ I1 q1) fun iv s2 ⟨y,H2,I2,ry,a,v,ex,g,q2⟩=>?_)
 subst ex;obtain rfl:u=Value.ref a:=rx
 exact ⟨lZ I2 g,rO hu I2 g ry fun w' s3 I3 rw'=>⟨v,H2,I3,rw',q2⟩⟩
theorem B1 (hu:X.A.units+1<cLine) (hi:PE X i ty) (ho:PE X o td):PC X .In i o (Be ty td):=by
 intro pins s U H Q I h;refine bj (hi pins s U H _ I h) fun iv s1 ⟨y,H1,I1,ry,q1⟩=>bj (ho pins s1 U H1 _ I1 q1) fun u s2 ⟨x,H2,I2,rx,a,ov,ex,g,q2⟩=>?_
 subst ex;obtain rfl:u=Value.ref a:=rx
 exact Ky hu I2 g ry fun s3 I3=>⟨.bl ov.isSome,H2,I3,rfl,q2⟩
theorem qy (hu:X.A.units+1<cLine) (hi:PE X i ty) (ho:PE X o td):PC X .NotIn i o (IL ty td):=by
 intro pins s U H Q I h;refine bj (hi pins s U H _ I h) fun iv s1 ⟨y,H1,I1,ry,q1⟩=>bj (ho pins s1 U H1 _ I1 q1) fun u s2 ⟨x,H2,I2,rx,a,ov,ex,g,q2⟩=>?_
 subst ex;obtain rfl:u=Value.ref a:=rx
 exact yW hu I2 g ry fun s3 I3=>⟨.bl (!ov.isSome),H2,I3,rfl,q2⟩
theorem o9 (hu:X.A.units+1<cLine) (ho:PE X o td) (hi:PE X i ty) (hv:PE X value tv) (hs:swapsWith value (some (.Subscript o i pos')) pos.line X.env=pure false) :
  PS X (.Assign [.Subscript o i pos'] value pos) (oR td ty tv):=by
 intro pins s U H D I h;refine wpAny_Assign_Subscript (bj (hv pins s U H _ I h) fun r s1 ⟨v,H1,I1,rv,q1⟩=>bj (ho pins s1 U H1 _ I1 q1) fun u s2 ⟨x,H2,I2,rx,q2⟩=>bj (hi pins s2 U H2 _ I2 q2) fun iv s3 ⟨y,H3,I3,ry,a,H4,ex,g,q3⟩=>?_) hs
 subst ex;obtain rfl:u=Value.ref a:=rx
 exact rK hu I3 g ry rv fun s4 I4=>⟨U,H4,I4,q3⟩
end
theorem lY {P:Program} {w:World} {H:Hp} (h:Heap) (hb:sysModules<h.objs.size):ObjOk P w H (h.push { cls:=.type "dict",data:=.dict #[] }) h.objs.size (.dK []):=
 ⟨Nat.zero_le _,beq_eq_false_iff_ne.mpr (Ne.symm (Nat.ne_of_lt hb)),[],.nil,Heap.DictOf.new h⟩
def tP:TE:=fun _ H Q=>∀p,H p=none->Q (.ref p) (bo H p (.dK []))
section
variable {X:Cx} {pos:Pos}
theorem uS:PE X (.Dict [] [] pos) tP:=fun pins s U H Q I h=>
 wpAny_Dict_empty ⟨.ref s.heap.objs.size,_,I.laid (a:=s.heap.objs.size) (o:=.dK []) (t':=s.toks) (fun _ _ q=>Ma _ q) (Mb _) (lY s.heap I.big),rfl,h _ (I.hok.fresh (Mb _))⟩
end
def Iu:List (TE×TE)->St->Hp->(List (V×V)->Hp->Prop)->Prop
 | [],_,H,Q=>Q [] H
 | (tk,tv)::r,U,H,Q=>tk U H fun x H1=>tv U H1 fun y H2=>Iu r U H2 fun ps H3=>Q ((x,y)::ps) H3
abbrev VV:List (V×V)->List (Value×Value)->Prop:=Paired fun p q=>RelV p.1 q.1/\RelV p.2 q.2
def HZ (X:Cx) (pos:Pos) (keys:List (Option Expr)) (values:List Expr) (trs:List (TE×TE)):Prop:=
 ∀(pins:List (Addr×Obj)) (s:Shared) (U:St) (H:Hp) (Q:List (V×V)->Hp->Prop),Inv X pins U H s->Iu trs U H Q ->
  wpAny (model X.prog X.w) X.A (evalPairs (pairTrees keys values X.env pos)) (fun vs s'=>∃ps H',Inv X pins U H' s'/\VV ps vs/\Q ps H') X.xe s
theorem xT:HZ X pos [] [] []:=fun pins s U H Q I h=>pairTrees_nil_walk ⟨[],H,I,.nil,h⟩
theorem uH {k v:Expr} {ks:List (Option Expr)} {vs:List Expr} {tk tv:TE} (hk:PE X k tk) (hv:PE X v tv) (hr:HZ X pos ks vs trs) :
  HZ X pos (some k::ks) (v::vs) ((tk,tv)::trs):=fun pins s U H Q I h=>
 pairTrees_cons_walk (bj (hk pins s U H _ I h) fun u s1 ⟨x,H1,I1,rx,q1⟩=>bj (hv pins s1 U H1 _ I1 q1) fun w2 s2 ⟨y,H2,I2,ry,q2⟩=>
  bj (hr pins s2 U H2 _ I2 q2) fun ws s3 ⟨ps,H3,I3,rel,q3⟩=>⟨(x,y)::ps,H3,I3,.cons ⟨rx,ry⟩ rel,q3⟩)
def Av (kvs more:List (bE×V)):List (bE×V):=more.foldl (fun acc kv=>dH acc kv.1 kv.2) kvs
theorem KV.merge:∀{more:List (bE×V)} {rs:List (bE×Value)} {kvs:List (bE×V)} {vs:List (bE×Value)},KV more rs->KV kvs vs->KV (Av kvs more) (merged vs rs):=by
 intro more rs kvs vs r;unfold KV at r;induction r generalizing kvs vs with
 | nil=>intro q;exact q
 | @cons p q ps qs h t ih=>
  intro r0;have e:KV (dH kvs p.1 p.2) (stored vs q.1 q.2):=by
   have:=r0.put p.1 h.2
   rw [<-h.1];exact this
  exact ih e
theorem ez:∀(more kvs:List (bE×V)),(Av kvs more).length<=kvs.length+more.length
 | [],kvs=>by show kvs.length<=kvs.length+0;omega
 | p::r,kvs=>by
  have h1:=ez r (dH kvs p.1 p.2)
  have h2:=Jw kvs p.1 p.2
  show (Av (dH kvs p.1 p.2) r).length<=_
  rw [length_cons];omega
theorem ib {P:Program} {w:World}:∀{kvs:List (bE×V)} {ws:List (Value×Value)},VV (kvs.map fun kv=>(kV kv.1,kv.2)) ws->∃rs,Carries (kg P w) ws rs/\KV kvs rs
 | [],_,r=>by rw [map_nil] at r;cases r;exact ⟨[],True.intro,.nil⟩
 | p::kvs,_,r=>by
  rw [map_cons] at r
  cases r with
  | @cons a b as bs h t=>
   obtain ⟨rs,c,q⟩:=ib (P:=P) (w:=w) t
   obtain ⟨b1,b2⟩:=b;exact ⟨(p.1,b2)::rs,⟨jf h.1,rfl,c⟩,.cons ⟨rfl,h.2⟩ q⟩
def zM (trs:List (TE×TE)):TE:=fun U H Q=>∀p,H p=none->Iu trs U (bo H p (.dK [])) fun ps H2=>H2 p=some (.dK [])/\∃kvs:List (bE×V),ps=kvs.map (fun kv=>(kV kv.1,kv.2))/\kvs.length<=15/\Q (.ref p) (bo H2 p (.dK (Av [] kvs)))
theorem xY {keys:List (Option Expr)} {values:List Expr} (h:HZ X pos keys values trs) (hall:keys.all (·.isSome)=true) (hl:keys.length=values.length) (h0:keys≠[])
  (h15:keys.length<=15):PE X (.Dict keys values pos) (zM trs):=by
 intro pins s U H Q I q;have hn:=I.hok.fresh (Mb s.heap.objs.size)
 have I1:=I.laid (a:=s.heap.objs.size) (o:=.dK []) (h':=s.heap.push { cls:=.type "dict",data:=.dict #[] }) (t':=s.toks) (fun _ _ q=>Ma _ q) (Mb _) (lY s.heap I.big)
 refine wpAny_Dict_walk (knd:=kg X.prog X.w) hall hl h0 h15 (bj (h pins _ U _ _ I1 (q _ hn)) fun ws s2 ⟨ps,H2,I2,rel,e,kvs,ep,lk,q2⟩=>?_)
 subst ep;obtain ⟨rs,c,rk⟩:=ib (P:=X.prog) (w:=X.w) rel
 obtain ⟨z,hd,vs0,r0,dd⟩:=vS I2.hok e
 cases r0;refine ⟨rs,c,dd,fun h' dd' hs=>⟨.ref s.heap.objs.size,_,?_,rfl,q2⟩⟩
 have hz:(Av [] kvs).length<=sizeLine:=by
  have h1:=ez kvs []
  rw [length_nil] at h1;rw [sizeLine_eq];omega
 have he:∃q,h'.get? s.heap.objs.size=some q:=let ⟨q,_,_,hq,_⟩:=dd';⟨q,hq⟩
 exact ID I2 (by rw [e];exact True.intro) hs he (vT hz hd (rk.merge .nil) dd')
end L2
namespace T
open PySem PySem.Spec L2
open PyProof.Rows hiding St
variable {X:Cx} {K:Fg} {l b:Addr} {vs ws:List V} {ds:List Mc} {G2 G1 F:List Addr} {n:Nat} {ys:Array Value} {d2:Option Addr} {s2:Array (Option Value)}
def cB (ns:List Int) (v:V):List (bE×V):=ns.map fun n=>((Sum.inl n:bE),v)
def uw:List V->Hp->VK->Prop:=fun xs H Q=>∃(p:Addr) (ns:List Int) (v:V),xs=[.ref p]/\H p=some (.dK (cB ns v))/\ns.length<64/\∀l,H l=none->Q (.ref l) (bo H l (.lst ((PySem.W.sortI ns).map V.int)))
theorem jj {P:Program} {w:World}:∀{ns:List Int} {v:V} {vs:List (bE×Value)} {us:List Value},KV (cB ns v) vs->us.length=ns.length->(∀(j:Nat) u,us[j]?=some u->∃k x,vs[j]?=some (k,x)/\(kg P w).is k u=true)->IntsAre us ns
 | [],_,_,[],.nil,_,_=>.nil
 | n::ns,v,_,u::us,.cons r t,hl,h=>by
  obtain ⟨k,x,e,hk⟩:=h 0 u rfl
  cases e;have rk:(Sum.inl n:bE)=k:=r.1
  have hs:∃t,u=Value.int n t:=by
   rcases wO (show gX _ u=true from hk) with ⟨i,t,e1,e2⟩ | ⟨y,t,e1,e2⟩
   ·rw [<-rk] at e1
    injection e1 with e1
    exact ⟨t,by rw [e2,e1]⟩
   ·rw [<-rk] at e1
    cases e1
  obtain ⟨t',rfl⟩:=hs;exact .cons _ _ (jj t (by simpa using hl) fun j u e=>h (j+1) u (by simpa using e))
 | [],_,_,_::_,_,hl,_=>by simp at hl
 | _::_,_,_,[],_,hl,_=>by simp at hl
theorem oj (hc:X.calm=true):CallR X (.builtin "sorted") uw:=by
 intro pins s U H xs us Q I rv h;obtain ⟨p,ns,v,rfl,hS,h64,q⟩:=h;obtain ⟨u,rfl,ru⟩:=rv.one
 cases ru;obtain ⟨hz,lo,vs,r,hD⟩:=vS I.hok hS;obtain ⟨ep,hat⟩:=hD.dictAt;have hl:vs.length=ns.length:=by rw [<-r.length];simp [cB]
 have hb:=i7 (n:=ns.length) (by omega)
 refine Calls.call_function_entry kind_sorted plain_sorted entry_sorted (args_sorted1 _) ?_
 unfold Builtin.«sorted»
 refine L8 (m:=checkCount "sorted" 1 1 _) (L9 ?_)
 refine L8 (PySem.W.kdu_collect (PySem.W.kdl_dict (knd:=kg X.prog X.w) (kvs:=vs) (ep:=ep) lo) (I.ok.hd hc) hat (by rw [hl];omega) fun h' tk acc hk hacc=>?_)
 have hla:acc.toList.length=ns.length:=by rw [Array.length_toList,hacc.1,hl]
 have hI:IntsAre acc.toList ns:=jj (P:=X.prog) (w:=X.w) r hla fun j u e=>hacc.2 j u (by rw [<-Array.getElem?_toList];exact e)
 refine L8 (wpAny_newList ?_ (by rw [hla];omega))
 have hoL:(h'.push { cls:=.type "list",data:=.seq acc.toList.toArray }).get? h'.objs.size=some (seqObj "list" acc.toList.toArray 0):=Heap.get?_push_size _ rfl
 refine L8 (wpAny_holding (wpAny_call_entry slot_list_sort ⟨_,hoL,rfl⟩ entry_list_sort (list_sort_tree hoL hI (by rw [hla];exact h64) fun out ns' a1 a2 a3=>⟨_,rfl,?_⟩) (args_list_sort _)))
 have e:=PySem.W.eq_sortI a2 a3
 subst e;have hlen:(PySem.W.sortI ns).length=ns.length:=(PySem.W.sortI_perm ns).length_eq
 obtain ⟨n,ho⟩:=sortedHeap_at (out:=out) hoL
 have I1:L2.Inv X pins U H { s with heap:=h',toks:=tk }:=I.kept (t':=tk) hk
 have kk:∀b o,h'.get? b=some o->(sortedHeap (h'.push { cls:=.type "list",data:=.seq acc.toList.toArray }) h'.objs.size acc.toList out).get? b=some o:=fun b o e=>by
  have hlt:=Heap.lt_size e
  rw [sortedHeap_old (Nat.ne_of_lt hlt) (by rw [Heap.size_push];exact Nat.lt_succ_of_lt hlt)]
  exact Ma _ e
 exact L9 ⟨_,rfl,.ref h'.objs.size,bo H h'.objs.size (.lst ((PySem.W.sortI ns).map V.int)),I1.laid (t':=tk) kk (Mb _) ⟨by rw [length_map,hlen];omega,out.toList,n,IQ a1,by simpa [seqObj] using ho⟩,rfl,q _ (I1.hok.fresh (Mb _))⟩
def si:Mc->Bool
 | .none=>true
 | _=>false
def cS (neg:Bool):Mc->Mc->Option Mc
 | a,.none=>some (.bool (if neg then !si a else si a))
 | _,_=>none
theorem lD {H:Hp} {x:V} {a:Mc} (r:Rep K H x a):decide (x=V.non)=si a:=by
 cases r<;>simp [si]
theorem yy:GOp K (fun x y H Q=>y=.non/\Q (.bl (decide (x=.non))) H) (cS false):=by
 intro x y H Q a b d ra rb e k
 cases rb<;>simp only [cS] at e<;>try cases e
 exact ⟨rfl,by rw [lD ra];exact k _ (.bl _)⟩
theorem vz:GOp K (fun x y H Q=>y=.non/\Q (.bl (!decide (x=.non))) H) (cS true):=by
 intro x y H Q a b d ra rb e k
 cases rb<;>simp only [cS] at e<;>try cases e
 exact ⟨rfl,by rw [lD ra];exact k _ (.bl _)⟩
theorem Fj (R:Rm X):Ck X .Is (fun x y H Q=>y=.non/\Q (.bl (decide (x=.non))) H) (cS false):=⟨Ca,yy⟩
theorem GZ (R:Rm X):Ck X .IsNot (fun x y H Q=>y=.non/\Q (.bl (!decide (x=.non))) H) (cS true):=⟨yb,vz⟩
def dJ (fa fb:F1):F1:=aU fa fun p=>aU fb fun q=>fun Γ=>match p.d,q.d with
 | .list xs,.list ys=>if dj p xs&&dj q ys&&decide (xs.length+ys.length<=sizeLine) then .ok ⟨.lst .leaf,.list (xs++ys)⟩ Γ else .no
 | _,_=>.no
def uA (K:Fg):R2:=fun x y H Q=>∃l b xs zs,x=.ref l/\y=.ref b/\SqL K H l xs/\SqL K H b zs/\xs.length+zs.length<=sizeLine/\∀p,H p=none->Q (.ref p) (bo H p (.lst (xs++zs)))
theorem y0 {prog:Program} {w:World} {A:Around} {E:Value->Shared->Prop} {s:Shared} {vs ws:List Value} {Q:Value->Shared->Prop} (hl:s.heap.IsList l vs.toArray) (hb:s.heap.IsList b ws.toArray) (hz:vs.length+ws.length<=sizeLine)
  (h:Q (.ref s.heap.objs.size) { s with heap:=s.heap.push { cls:=.type "list",data:=.seq (vs++ws).toArray } }):wpAny (model prog w) A (binaryOp .Add (.ref l) (.ref b)) Q E s:=by
 obtain ⟨⟨cls,dd,data,sl⟩,ho,hc,n,hd⟩:=id hl;obtain ⟨⟨cls2,dd2,data2,sl2⟩,ho2,hc2,n2,hd2⟩:=id hb;simp only at hc hd hc2 hd2
 subst hc hd hc2 hd2;have e:vs.toArray++ws.toArray=(vs++ws).toArray:=by simp
 rw [<-e] at h;exact concat_meets ⟨_,ho,rfl⟩ ⟨_,ho2,rfl⟩ noFill_list_add seq_list_add PySem.F.slot_list_add PySem.F.entry_list_add (PySem.F.args_list_add_2 _ _) (list_addW l b vs.toArray ws.toArray n n2 dd dd2 sl sl2 (by simpa using hz)) ⟨ho,ho2,h⟩
theorem pB:OpR X (binaryOp .Add) (uA X.K):=by
 intro pins s U H x y v u Q I rx ry h;obtain ⟨l,b,xs,zs,rfl,rfl,hH,hB,hz,q⟩:=h
 cases rx
 cases ry;obtain ⟨its,r,pl,z⟩:=I.list hH;obtain ⟨its2,r2,pl2,z2⟩:=I.list hB;refine y0 pl.isList pl2.isList (by rw [<-r.length,<-r2.length];exact hz) ?_
 exact ⟨.ref _,_,I.lnew (t':=s.toks) (r.append r2) (by rw [length_append];exact hz),rfl,q _ I.fresh⟩
section
variable {K:Fg} {W:XW} {U:St} {H:Hp} {Q:VK} {D:cW} {fa fb:F1} {fl:FL}
theorem Reps.app {es:List Mc} (h:Reps K H vs ds) (h':Reps K H ws es):Reps K H (vs++ws) (ds++es):=by
 refine ⟨by rw [length_append,length_append,h.1,h'.1],fun i v d e1 e2=>?_⟩
 by_cases hi:i<vs.length
 ·rw [getElem?_append_left hi] at e1
  rw [getElem?_append_left (by rw [<-h.1];exact hi)] at e2
  exact h.2 i v d e1 e2
 ·rw [getElem?_append_right (by omega)] at e1
  rw [getElem?_append_right (by rw [<-h.1];omega),<-h.1] at e2
  exact h'.2 _ v d e1 e2
theorem Reps.drop (k:Nat) (h:Reps K H vs ds):Reps K H (vs.drop k) (ds.drop k):=by
 refine ⟨by rw [List.length_drop,List.length_drop,h.1],fun i v d e1 e2=>?_⟩
 rw [List.getElem?_drop] at e1 e2
 exact h.2 _ v d e1 e2
theorem F6 {O:List Addr} (nd:(G2++(G1++O)++F).Nodup):(∀a∈G1,a∉O++F)/\(∀a∈G2,a∉O++F):=by
 rw [append_assoc,append_assoc] at nd;obtain ⟨_,n2,n3⟩:=L6 nd;obtain ⟨_,_,n4⟩:=L6 n2;exact ⟨fun a ha z=>n4 a ha a z rfl,fun a ha z=>n3 a ha a (LR _ z) rfl⟩
theorem Bf {O:List Addr}:∀a∈O++F,a∈G2++(G1++O)++F:=fun a ha=>by
 rcases LX ha with z | z
 ·exact LU _ (LR _ (LR _ z))
 ·exact LR _ z
theorem GV {He H1:Hp} {O:List Addr} {Fs Fs1:List (List Addr)} {Γ1:Ev} {v:V} {d:Mc} (E:EnvOk K He O Fs1 H1 U Γ1) (s:Same H H1) (n:∀a∈Fs1.flatten,a∈Fs.flatten\/H a=none)
  (hr:Rep K (bM H1 (O++Fs1.flatten)) v d):Aft K He O Fs H U Γ1 ⟨.leaf,d⟩ v H1 [] Fs1:=
 ⟨s,by rw [nil_append];exact E,by rw [nil_append];exact n,.leaf (by rw [nil_append];exact hr)⟩
theorem uk (h:tE K W (dJ fa fb) U H Q):tK (uA K) (tE K W fa) (tE K W fb) U H Q:=by
 refine Ee (R:=fun v u H2=>uA K v u H2 Q) h fun He O Fs Γ2 p q v u H1 H2 G1 G2 Fs2 nd s1 s2 E new o1 o2 w=>?_
 obtain ⟨s,d⟩:=p;obtain ⟨s',d'⟩:=q;dsimp only at w o1 o2
 split at w
 ·rename_i xs ys
  cases hc:(dj ⟨s,.list xs⟩ xs&&dj ⟨s',.list ys⟩ ys&&decide (xs.length+ys.length<=sizeLine)) with
  | false=>rw [hc] at w;exact w.elim
  | true=>
   rw [hc] at w;simp only [Bool.and_eq_true,decide_eq_true_eq] at hc
   obtain ⟨⟨h1,h2⟩,h3⟩:=hc;obtain ⟨d1,d2⟩:=F6 E.nd;obtain ⟨p1,vs,rfl,q1,_,r1⟩:=o1.items (O':=O++Fs2.flatten) h1 Bf d1
   obtain ⟨p2,ws,rfl,q2,_,r2⟩:=o2.items (O':=O++Fs2.flatten) h2 Bf d2
   refine ⟨p1,p2,vs,ws,rfl,rfl,q1,q2,by rw [r1.1,r2.1];exact h3,fun p' hp'=>w _ _ _ _ (Er (E.drop (fun a ha=>LR _ (LR _ ha)) nd) (s1.trans s2) (fun a ha=>new a (LR _ (LR _ ha))) (r1.app r2) hp')⟩
 ·exact w.elim
end
theorem ql {H:Hp} {ns:List Int} (h:Reps K H ws (ns.map .int)):ws=ns.map V.int:=by
 obtain ⟨hwl,hw⟩:=h;apply ext_getElem?
 intro i;by_cases hi:i<ws.length
 ·have hi2:i<ns.length:=by rw [length_map] at hwl;omega
  have q:=hw i (ws[i]'hi) (.int (ns[i]'hi2)) (L0 _) (by rw [getElem?_map,L0 hi2];rfl)
  rw [L0 hi,getElem?_map,L0 hi2];generalize ws[i]'hi=u at q
  cases q;rfl
 ·rw [getElem?_eq_none (by omega),getElem?_eq_none (by rw [length_map] at hwl ⊢;omega)]
def yr (i:Nat) (q:PV) (Γ:Ev):Out PV:=match Γ[i]?,q.d with
 | some (some ⟨.lst .leaf,.list ds⟩),.int k=>(match dI ds.length k with
  | some j=>(match ds[j]? with
   | some d=>.ok ⟨.leaf,d⟩ Γ
   | none=>.no)
  | none=>.no)
 | _,_=>.no
def bY (i:Nat) (fb:F1):F1:=fun Γ=>if pV Γ[i]? then (fb Γ).bind (yr i) else .no
section
variable {K:Fg} {W:XW} {U:St} {H:Hp} {Q:VK} {D:cW} {fa fb:F1} {fl:FL}
theorem xJ {i:Nat} (h:tE K W (bY i fb) U H Q):tK (zW K) (aS i) (tE K W fb) U H Q:=by
 obtain ⟨He,O,Fs,Γ,E,h⟩:=h;unfold bY at h
 cases ho:pV Γ[i]? with
 | false=>rw [ho] at h;exact h.elim
 | true=>
  rw [ho] at h;obtain ⟨ds,e0⟩:=Hu ho;obtain ⟨l,vs,h1,h2,h3,_,_⟩:=E.chgF e0;refine ⟨.ref l,h1,?_⟩
  refine zr (k:=yr i) ⟨He,O,Fs,Γ,E,h⟩ fun He O Fs Γ1 q u H1 G Fs1 nd A w=>?_
  unfold yr at w;split at w
  ·rename_i ds1 k e1 e2
   obtain ⟨l1,vs1,q1,q2,q3,q4,_⟩:=A.go.chgF e1;rw [h1] at q1
   cases q1;have r:=A.own.rep
   rw [e2] at r
   cases r
   cases hj:dI ds1.length k with
   | none=>rw [hj] at w;exact w.elim
   | some j=>
    rw [hj] at w;have w:Wants K W He O Fs H U Q (match ds1[j]? with | some d=>.ok ⟨.leaf,d⟩ Γ1 | none=>.no):=w
    cases hd:ds1[j]? with
    | none=>rw [hd] at w;exact w.elim
    | some d=>
     rw [hd] at w;have hjl:j<vs1.length:=by rw [q3];exact (L7 hd).1
     have hv:vs1[j]?=some (vs1[j]'hjl):=L0 _
     refine .inl ⟨l,vs1,k,vs1[j]'hjl,rfl,rfl,.of q2,Ih q3 hj hv,?_⟩
     exact w _ _ _ _ (GV A.go A.same A.newF (q4 j _ d hv hd))
  ·exact w.elim
def nJ (p:PV):Bool:=match p with
 | ⟨.lst .leaf,.list ds⟩=>ds.all ba
 | _=>false
def AB (n:Nat) (den:List Mc->bz) (fl:FL):F1:=fun Γ=>(fl Γ).bind fun ps Γ'=>if ps.length=n then (match den (ps.map (·.d)) with
 | .ok p=>if nJ p then .ok p Γ' else .no
 | _=>.no) else .no
theorem uo {den:List Mc->bz} {E:XK} (h:tE K W (AB n den fl) U H Q):kF (qf K n den) [] E (tA K W fl) U H Q:=by
 obtain ⟨He,O,Fs,Γ,E0,h⟩:=h;refine ⟨He,O,Fs,Γ,E0,?_⟩
 unfold AB at h
 cases e:fl Γ with
 | er c Γ'=>rw [e] at h;exact h
 | no=>rw [e] at h;exact h
 | ok ps Γ1=>
  rw [e] at h;intro vs H1 Gs Fs1 A;have h:Wants K W He O Fs H U Q (if ps.length=n then (match den (ps.map (·.d)) with | .ok p=>if nJ p then .ok p Γ1 else .no | _=>.no) else .no):=h
  by_cases hn:ps.length=n
  case neg=>rw [if_neg hn] at h;exact h.elim
  rw [if_pos hn] at h;have hl:(vs++[]).length=n:=by rw [append_nil,A.len1];exact hn
  cases ed:den (ps.map (·.d)) with
  | er c=>rw [ed] at h;exact h.elim
  | no=>rw [ed] at h;exact h.elim
  | ok p=>
   rw [ed] at h;have h:Wants K W He O Fs H U Q (if nJ p then .ok p Γ1 else .no):=h
   have newF:∀a∈Fs1.flatten,a∈Fs.flatten\/H a=none:=fun a ha=>A.new a (LR _ ha)
   cases hc:nJ p with
   | false=>rw [hc] at h;exact h.elim
   | true=>
    rw [hc] at h;have h:Wants K W He O Fs H U Q (.ok p Γ1):=h
    refine ⟨hl,[],ps.map (·.d),nodup_nil,(fun _ z=>nomatch z),by rw [append_nil,Eh];exact A.reps,?_⟩
    rw [ed];intro v H2 G r;unfold nJ at hc;split at hc
    ·rename_i ds
     obtain ⟨l,us,rfl,rfl,hp,hul,hr⟩:=r.own.leaves;refine h (.ref l) H2 [l] Fs1 ⟨A.same.trans r.same,A.env.dropL.hide r.same r.nd r.fresh r.inH,fun a ha=>?_,Own.mkLeaves hp hul fun j u d e1 e2=>((hr j u d e1 e2).sc (List.all_eq_true.mp hc d (mem_of_getElem? e2))).rep⟩
     rcases LX ha with z | z
     ·exact .inr (A.same.free (r.fresh a z))
     ·exact newF a z
    ·cases hc
def wj (i:Nat) (a:Int) (p:PV) (Γ:Ev):dY:=match p.d with
 | .int b=>if i<Γ.length then .nx (Γ.set i (Md (.int (a+b)))) else .no
 | _=>.no
def i8 (i:Nat) (f:F1):FS:=fun Γ=>match Γ[i]? with
 | some (some ⟨.leaf,.int a⟩)=>gj f (wj i a) Γ
 | _=>.no
theorem BF {i:Nat} (h:tS K W (i8 i fa) D U H):EO i (tE K W fa) (Lh fun i j=>i+j) D U H:=by
 obtain ⟨He,O,Fs,Γ,E,h⟩:=h;unfold i8 at h;split at h
 ·rename_i a e0
  obtain ⟨_,v,F,h1,h2,h3⟩:=E.slot i _ e0;have r:=h3.rep
  cases r;refine ⟨.int a,h1,?_⟩
  refine fQ (D:=D) (k:=wj i a) ⟨He,O,Fs,Γ,E,h⟩ fun He O Fs Γ1 p u H1 G Fs1 _ fr A w=>?_
  unfold wj at w;split at w
  ·rename_i b eb
   have r:=A.own.rep
   rw [eb] at r
   cases r;by_cases hi:i<Γ1.length
   ·rw [if_pos hi] at w
    exact ⟨a,b,rfl,rfl,w _ _ _ (EnvOk.put (G:=[]) (p:=⟨.leaf,.int (a+b)⟩) (v:=.int (a+b)) A.go (.leaf (.int _)) rfl (fun a ha=>by simp at ha) hi)⟩
   ·rw [if_neg hi] at w;exact w.elim
  ·exact w.elim
 ·exact h.elim
def C9 (i:Nat) (p:PV) (Γ:Ev):dY:=match Γ[i]?,p.d with
 | some (some ⟨.lst .leaf,.list ds⟩),.tuple es=>if dj p es&&decide (ds.length+es.length<=sizeLine) then .nx (Γ.set i (some ⟨.lst .leaf,.list (ds++es)⟩)) else .no
 | some (some ⟨.lst .leaf,.list ds⟩),.list es=>if dj p es&&decide (ds.length+es.length<=sizeLine) then .nx (Γ.set i (some ⟨.lst .leaf,.list (ds++es)⟩)) else .no
 | _,_=>.no
def iB (i:Nat) (f:F1):FS:=fun Γ=>if pV Γ[i]? then gj f (C9 i) Γ else .no
def BM (K:Fg):V->List V->Hp->VK->Prop:=fun x vs H Q=>∃l b xs zs,x=.ref l/\vs=[.ref b]/\H l=some (.lst xs)/\(SqL K H b zs\/SqT K H b zs)/\xs.length+zs.length<=sizeLine/\Q .non (bo H l (.lst (xs++zs)))
theorem BD {i:Nat} (h:tS K W (iB i fa) D U H):gP (wQ K "list" (BM K) (aS i) (tA K W (ae fa af))) D U H:=by
 obtain ⟨He,O,Fs,Γ,E,h⟩:=h;unfold iB at h
 cases ho:pV Γ[i]? with
 | false=>rw [ho] at h;exact h.elim
 | true=>
  rw [ho] at h;obtain ⟨ds,e0⟩:=Hu ho;obtain ⟨l,vs,h1,h2,h3,_,_⟩:=E.chgF e0;refine ⟨.ref l,h1,.inl ⟨rfl,vs,.of h2⟩,Ed (fQ (D:=D) ⟨He,O,Fs,Γ,E,h⟩ fun He O Fs Γ1 p v H1 G Fs1 _ fr A w=>?_)⟩
  obtain ⟨s,d⟩:=p;have fin:∀(ds1 es:List Mc) (b:Addr) (ws:List V),Γ1[i]?=some (some ⟨.lst .leaf,.list ds1⟩)->v=.ref b->(SqL K H1 b ws\/SqT K H1 b ws)->Reps K (bM H1 (O++Fs1.flatten)) ws es->ds1.length+es.length<=sizeLine ->
    kj K W He O D (.nx (Γ1.set i (some ⟨.lst .leaf,.list (ds1++es)⟩)))->BM K (.ref l) [v] H1 (fun _ H2=>D.nx U H2):=fun ds1 es b ws e1 hv hq hr hz w=>by
   obtain ⟨l1,vs1,q1,q2,q3,q4,q5⟩:=A.go.chgF e1;rw [h1] at q1
   cases q1;subst hv;refine ⟨l,b,vs1,ws,rfl,rfl,q2,hq,by rw [q3,hr.1];exact hz,w U _ _ (q5 (vs1++ws) (ds1++es) (by rw [length_append,length_append,q3,hr.1]) ?_)⟩
   exact (Reps.app ⟨q3,q4⟩ hr).2
  unfold C9 at w;split at w
  ·rename_i ds1 es e1 e2
   dsimp only at e2;subst e2
   cases hc:(dj ⟨s,.tuple es⟩ es&&decide (ds1.length+es.length<=sizeLine)) with
   | false=>rw [hc] at w;exact w.elim
   | true=>
    rw [hc] at w;simp only [Bool.and_eq_true,decide_eq_true_eq] at hc
    obtain ⟨b,ws,rfl,hq,_,hr⟩:=A.own.itemsT (O':=O++Fs1.flatten) hc.1 iq A.disj
    exact fin ds1 es b ws e1 rfl (.inr hq) hr hc.2 w
  ·rename_i ds1 es e1 e2
   dsimp only at e2;subst e2
   cases hc:(dj ⟨s,.list es⟩ es&&decide (ds1.length+es.length<=sizeLine)) with
   | false=>rw [hc] at w;exact w.elim
   | true=>
    rw [hc] at w;simp only [Bool.and_eq_true,decide_eq_true_eq] at hc
    obtain ⟨b,ws,rfl,hq,_,hr⟩:=A.own.items (O':=O++Fs1.flatten) hc.1 iq A.disj
    exact fin ds1 es b ws e1 rfl (.inl hq) hr hc.2 w
  ·exact w.elim
end
theorem Kv {xs:Array Value} {m:Nat} (h0:¬(!xs.isEmpty&&Builtin.List.listTooLong (xs.size+ys.size))=true) (h1:xs.size<=sizeLine) (h2:(xs++ys).size<=sizeLine+1) :
  Meets (Builtin.«list.extend» ⟨[.ref l,.ref b],[]⟩) (fun _ R s=>s.heap.get? l=some ⟨.type "list",none,.seq xs n,#[]⟩/\s.heap.get? b=some ⟨.type "tuple",d2,.seq ys m,s2⟩ /\
   R (.ok (.ret Value.none)) { s with heap:=s.heap.update l (Obj.mapSeq fun x=>x++ys),toks:=s.toks }):=
 .of_wp fun prog w A R s h=>by
  obtain ⟨hp,g,d,tk,os⟩:=s;obtain ⟨hl,hb,h⟩:=h;have f1:=AutoSeq1.idx_int
  have f2:=AutoSeq1.sub_tuple_tuple
  have f3:=AutoSeq1.sub_list_list
  have f4:=AutoSeq1.sub_tuple_list
  have f5:=AutoSeq1.sub_list_tuple
  wp_walk using (wpAny_updateSeq hl rfl (hz:=h1) (_hz':=h2)),AutoSeq1.wpAny_loadPart' hl,AutoSeq1.wpAny_loadPart' hb
  exact ⟨_,rfl,h⟩
theorem Kw {xs:Array Value} {m:Nat} (h0:¬(!xs.isEmpty&&Builtin.List.listTooLong (xs.size+ys.size))=true) (h1:xs.size<=sizeLine) (h2:(xs++ys).size<=sizeLine+1) :
  Meets (Builtin.«list.extend» ⟨[.ref l,.ref b],[]⟩) (fun _ R s=>s.heap.get? l=some ⟨.type "list",none,.seq xs n,#[]⟩/\s.heap.get? b=some ⟨.type "list",d2,.seq ys m,s2⟩ /\
   R (.ok (.ret Value.none)) { s with heap:=s.heap.update l (Obj.mapSeq fun x=>x++ys),toks:=s.toks }):=
 .of_wp fun prog w A R s h=>by
  obtain ⟨hp,g,d,tk,os⟩:=s;obtain ⟨hl,hb,h⟩:=h;have f1:=AutoSeq1.idx_int
  have f2:=AutoSeq1.sub_tuple_tuple
  have f3:=AutoSeq1.sub_list_list
  have f4:=AutoSeq1.sub_tuple_list
  have f5:=AutoSeq1.sub_list_tuple
  wp_walk using (wpAny_updateSeq hl rfl (hz:=h1) (_hz':=h2)),AutoSeq1.wpAny_loadPart' hl,AutoSeq1.wpAny_loadPart' hb
  exact ⟨_,rfl,h⟩
theorem Cj:KF X "list.extend" (BM X.K):=by
 intro pins s U H x vs v us Q I rx rv h;obtain ⟨l,b,xs,zs,rfl,rfl,hH,hB,hz,q⟩:=h
 cases rx;obtain ⟨u,rfl,ru⟩:=rv.one
 cases ru;obtain ⟨z,its,n,r,hl,e⟩:=I.lstM hH;have fin:∀its2:List Value,Vals zs its2->its.toArray.size+its2.toArray.size<=sizeLine/\(its.toArray++its2.toArray).size<=sizeLine+1/\its.toArray.size<=sizeLine/\¬(!its.toArray.isEmpty&&Builtin.List.listTooLong (its.toArray.size+its2.toArray.size))=true /\
   EP X pins U Q Value.none { s with heap:=s.heap.update l (Obj.mapSeq fun x=>x++its2.toArray),toks:=s.toks }:=fun its2 r2=>by
  have h1:its.toArray.size+its2.toArray.size<=sizeLine:=by rw [size_toArray,size_toArray,<-r.length,<-r2.length];exact hz
  refine ⟨h1,by rw [Array.size_append];omega,by omega,?_,?_⟩
  ·rw [u4 h1,Bool.and_false]
   exact Bool.false_ne_true
  ·exact ⟨.non,_,I.lset (its':=its++its2) hH e (by simp) (r.append r2) (by rw [length_append];exact hz),rfl,q⟩
 rcases hB with hB | hB
 ·obtain ⟨its2,r2,⟨⟨c2,d2,dat2,s2⟩,n2,e2,ec,ed,es⟩,_⟩:=I.list hB
  simp only at ec es
  subst ec es;obtain ⟨f1,f2,f3,f4,f5⟩:=fin its2 r2;exact call_meets F.slot_list_extend ⟨_,e,rfl⟩ F.entry_list_extend (F.args_list_extend_2 _ _) (Kw f4 f3 f2) ⟨e,e2,f5⟩
 ·obtain ⟨its2,r2,⟨⟨c2,d2,dat2,s2⟩,e2,ec,n2,es⟩,_⟩:=I.tuple hB
  simp only at ec es
  subst ec es;obtain ⟨f1,f2,f3,f4,f5⟩:=fin its2 r2;exact call_meets F.slot_list_extend ⟨_,e,rfl⟩ F.entry_list_extend (F.args_list_extend_2 _ _) (Kv f4 f3 f2) ⟨e,e2,f5⟩
section
variable {X:Cx} {N gl:List Str} {vs cs ls lo gs:List Nat} {W:XW} {a b c e:Expr} {es:List Expr} {pos p:Pos} {fa fb fc:F1} {fl:FL} {g:FS}
theorem cs_extend (S:Cp X N gl vs cs ls lo gs) (i:Nat) {x:Str} {apos cpos:Pos} (hi:N[i]?=some x) (hv:vs.contains i=true) (ha:PE X a (tE X.K W fa)) (hs:starEach [a] X.env=[(false,eval a X.env)])
  (hbase:attributeBase (.Name x p) "extend" X.env (eval (.Name x p) X.env)=eval (.Name x p) X.env) (hline:(apos.endLine==cpos.line)=true)
  (hfew:((backTo cpos (starEach [a] X.env)).all (fun x=>!x.1)&&(backToKw cpos (keywordEach [] X.env)).all (fun x=>x.1.isSome)
   && decide ([a].length+([]:List Keyword).length+(if ([]:List Keyword).isEmpty then 0 else 1)<30))=true)
  (hsw:swapsWith (.Call (.Attribute (.Name x p) "extend" apos) [a] [] cpos) none pos.line X.env=pure false) :
  PS X (.Expr (.Call (.Attribute (.Name x p) "extend" apos) [a] [] cpos) pos) (tS X.K W (iB i fa)):=by
 have m:=S.nm x (mem_of_getElem? hi)
 exact b8 (El (fT PySem.F.plainAttrs_list PySem.F.slot_list_extend PySem.F.type_list_extend Cj (km (by rw [S.hN];exact hi) (S.vis i x hi hv) m.1 m.2) (da_cons ha da_nil hs) hbase hfew hline hs rfl) hsw) fun _ _ _=>BD
end
end T
namespace TQ
open PySem PySem.Spec L2 T
open PyProof.Rows hiding St
variable {x:Str}
section
variable {X:Cx} {N gl:List Str} {vs cs ls lo gs:List Nat} {W:XW} {a b c e:Expr} {es:List Expr} {pos p:Pos} {fa fb fc:F1} {fl:FL} {ga gb:FB} {g1 g2 g:FS}
theorem Hk (ha:Q (PE X a (tE X.K W fa))) (hb:Q (PE X b (tE X.K W fb))):Q (PE X (.BinOp a .Add b pos) (tE X.K W (dJ fa fb))):=⟨have ha:=ha.p;have hb:=hb.p;aJ (fS pB ha hb) fun _ _ _=>uk⟩
theorem Hn (S:Cp X N gl vs cs ls lo gs) (i:Nat) (hi:N[i]?=some x) (hv:vs.contains i=true) (hb:Q (PE X b (tE X.K W fb))) (hs:DI b):Q (PE X (.Subscript (.Name x p) b pos) (tE X.K W (bY i fb))):=⟨by
 have hb:=hb.p
 have m:=S.nm x (mem_of_getElem? hi)
 exact aJ (lg D9 (km (by rw [S.hN];exact hi) (S.vis i x hi hv) m.1 m.2) hb hs) fun _ _ _=>xJ⟩
theorem AX {n:Nat} {den:List Mc->bz} (S:Cp X N gl vs cs ls lo gs) (j:Nat) (hj:gl[j]?=some x) (hg:gs.contains j=true) (C:wW X x n den) (ha:Q (PA X (e::es) (tA X.K W fl))) (he:starEach (e::es) X.env=(false,eval e X.env)::starEach es X.env) (hpl:(backTo pos (starEach es X.env)).any (·.1)=false):Q (PE X (.Call (.Name x p) (e::es) [] pos) (tE X.K W (AB n den fl))):=⟨by
 have ha:=ha.p
 obtain ⟨k,f,fd,ps,F,hr,hm,hk,hb⟩:=C;exact aJ (IG F hr (S.g hj hg).1 hm hk hb .nil uW ha (S.g hj hg).2.1 he hpl) fun _ _ _=>uo⟩
theorem tj (S:Cp X N gl vs cs ls lo gs) (i:Nat) {pos':Pos} (hi:N[i]?=some x) (hl:ls.contains i=true) (ha:Q (PE X a (tE X.K W fa))):Q (PS X (.AugAssign (.Name x pos') .Add a pos) (tS X.K W (i8 i fa))):=⟨have ha:=ha.p;b8 (BS (by rw [S.hN];exact S.nd) (by rw [S.hN];exact hi) (S.loc i x hi hl).1 ha CG (S.loc i x hi hl).2) fun _ _ _=>BF⟩
theorem fN (S:Cp X N gl vs cs ls lo gs) (i:Nat) {apos cpos:Pos} (hi:N[i]?=some x) (hv:vs.contains i=true) (ha:Q (PE X a (tE X.K W fa))) (hs:starEach [a] X.env=[(false,eval a X.env)]) (hbase:attributeBase (.Name x p) "extend" X.env (eval (.Name x p) X.env)=eval (.Name x p) X.env) (hline:(apos.endLine==cpos.line)=true) (hfew:((backTo cpos (starEach [a] X.env)).all (fun x=>!x.1)&&(backToKw cpos (keywordEach [] X.env)).all (fun x=>x.1.isSome)
   && decide ([a].length+([]:List Keyword).length+(if ([]:List Keyword).isEmpty then 0 else 1)<30))=true) (hsw:swapsWith (.Call (.Attribute (.Name x p) "extend" apos) [a] [] cpos) none pos.line X.env=pure false):Q (PS X (.Expr (.Call (.Attribute (.Name x p) "extend" apos) [a] [] cpos) pos) (tS X.K W (iB i fa))):=⟨T.cs_extend S i hi hv ha.p hs hbase hline hfew hsw⟩
end
end TQ
namespace T
open PySem PySem.Spec L2
open PyProof.Rows hiding St
variable {K:Fg} {tg:Expr} {X:Cx} {x:Str} {W:XW} {U:St}
def Ic (x:Str):It where
 go:=fun i _=>i<x.cps.size
 yld:=fun i H v H'=>H'=H/\∃c,x.cps[i]?=some c/\v=.str ⟨#[c]⟩
 stop:=fun i _=>x.cps.size<=i
theorem qa {P:Program} {w:World} (it:Addr) (x:Str) (t:Tok):wu P w K tg (Ic x) [it] it (fun i h=>h.IsStrIter it "str_ascii_iterator" x t i) where
 mem:=by simp
 obj:=fun i h st b hb=>by
  have e:b=it:=by simpa using hb
  subst e;obtain ⟨o,ho,hc,hd⟩:=st;exact ⟨o,ho,fun v z=>by rw [hd] at z;cases z⟩
 keep:=fun i h h' st k=>let ⟨o,ho,r⟩:=st;⟨o,k it (by simp) o ho,r⟩
 item:=by
  intro X hP hw hK hc i pins s U H E I hf st hg;subst hP hw hK;obtain ⟨f0,f1,f2,f3,f4,f5⟩:=hf it (by simp)
  have W:=Walks.strAscii (prog:=X.prog) (w:=X.w) (I.ok.hd hc) it x t
  refine W.item i s _ _ hg st fun v h' tk hv st' kk=>?_
  obtain ⟨c,u,hx,rfl⟩:=hv;have I1:Inv X pins U H { s with heap:=h',toks:=tk }:=I.turned (fun b o hb e=>kk b o (by simpa using hb) e) f0 f1 f3 f4 f5
  obtain ⟨o,ho,oc,od⟩:=id st'
  exact ⟨_,rfl,vB (s:={ s with heap:=h',toks:=tk }) (n := "str_ascii_iterator") ho oc od (by decide) ⟨.str ⟨#[c]⟩,H,I1,⟨u,rfl⟩,⟨rfl,c,hx,rfl⟩,st',fun b hb=>(hf b hb).1⟩⟩
 done:=by
  intro X hP hw hK hc i pins s U H E I hf st hg;subst hP hw hK;obtain ⟨f0,f1,f2,f3,f4,f5⟩:=hf it (by simp)
  exact wpAny_pyNext_ascii_end (I.ok.hd hc) st (by have:x.cps.size<=i:=hg;simp;omega) fun h' eb=>⟨rfl,I.turned (t':=s.toks) (fun b o hb e=>eb b o hb e) f0 f1 f3 f4 f5⟩
 self:=fun _ _ _ _ _ st h=>wpAny_pyIter_striter_ascii st h
def vv (x:Str):TI:=fun U H R=>R (Ic x) H
theorem xW {j:Nat} {pos:Pos} (ha:x.cps.all (·<128)=true):PI X tg (.Constant (.str x) j pos) (vv x):=by
 intro pins s U H R I h;refine Calls.Constant_str ?_
 refine wpAny_pyIter_ascii ha ?_
 have I1:=I.tok (s.toks+1)
 refine ⟨s.heap.objs.size,[s.heap.objs.size],_,_,H,rfl,I1.kept (t':=s.toks+1) fun b o e=>Ma _ e,qa _ x _,⟨_,Heap.get?_push_size _ rfl,rfl,rfl⟩,fun b hb=>?_,h⟩
 have e:b=s.heap.objs.size:=by simpa using hb
 subst e;exact I1.fpOk (Mb _) (I1.hok.fresh (Mb _))
def An (x:Str):List V:=x.cps.toList.map fun c=>.str ⟨#[c]⟩
def Gh (x:Str):List Mc:=x.cps.toList.map fun c=>.str ⟨#[c]⟩
theorem yn:zl (Ic x) (fun _=>True) (An x):=by
 refine ⟨fun i H v _ hv=>?_,fun H _=>?_⟩
 ·unfold An at hv
  rw [getElem?_map,Array.getElem?_toList] at hv
  cases e:x.cps[i]? with
  | none=>rw [e] at hv;cases hv
  | some c=>
   rw [e] at hv
   cases hv;refine ⟨(Array.getElem?_eq_some_iff.mp e).1,fun y H' ⟨h1,c',h2,h3⟩=>⟨h1,?_⟩⟩
   rw [e] at h2
   cases h2;exact h3
 ·show x.cps.size<=(An x).length
  unfold An;rw [length_map,Array.length_toList];exact Mb _
theorem xB {H:Hp}:Reps K H (An x) (Gh x):=by
 refine ⟨by simp [An,Gh],fun i v d h1 h2=>?_⟩
 unfold An at h1;unfold Gh at h2;rw [getElem?_map] at h1 h2
 cases e:x.cps.toList[i]? with
 | none=>rw [e] at h1;cases h1
 | some c=>
  rw [e] at h1 h2
  cases h1
  cases h2;exact .str _
def fh (x:Str):FI:=fun Γ=>.ok ⟨Gh x,true⟩ Γ
theorem ui {H:Hp} {R:It->Hp->Prop} (h:tI K W (fh x) U H R):vv x U H R:=by
 obtain ⟨He,O,Fs,Γ,E,h⟩:=h;exact h (Ic x) H Fs (An x) (fun _=>True) (Same.refl _) E (fun a ha=>.inl ha) yn trivial (fun _ _=>trivial) (fun _ _ _=>trivial) xB
def o7:V->List V->Hp->VK->Prop:=fun x xs H Q=>∃(i j:Str) (k:Nat) (rest:List Nat),x=.str i/\xs=[.str j]/\Builtin.Str.occurrences i j 0 i.length 1=k::rest/\Q (.int k) H
theorem qJ:DX X "str.index" o7:=by
 intro pins s U H x xs v us Q I rx rv h;obtain ⟨i,j,k,rest,rfl,rfl,ho,q⟩:=h;obtain ⟨t,rfl⟩:=rx;obtain ⟨u,rfl,ru⟩:=rv.one;obtain ⟨t',rfl⟩:=ru;exact SC.index ho ⟨.int k,H,I.tok _,⟨_,rfl⟩,q⟩
def dU (x:Str):List Mc->Option Mc
 | [.str j]=>match Builtin.Str.occurrences x j 0 x.length 1 with
  | k::_=>some (.int k)
  | []=>none
 | _=>none
theorem yD:GCall K (fun xs H Q=>o7 (.str x) xs H Q) (dU x):=by
 intro vs H Q ds d rs e k;unfold dU at e;split at e
 ·rename_i j
  obtain ⟨v,rfl,r⟩:=rs.one
  cases r;split at e
  ·rename_i k' rest ho
   cases e;exact ⟨x,j,k',rest,rfl,rfl,ho,k _ (.int _)⟩
  ·cases e
 ·cases e
theorem xI {H:Hp} {Q:VK} {fl:FL} (h:tE K W (bh (dU x) fl) U H Q):wQ K "str" o7 (tC (.str x)) (tA K W fl) U H Q:=
 ⟨rfl,o4 yD h⟩
theorem ce_idxS {j:Nat} {p apos cpos:Pos} {e:Expr} {fe:F1} (ha:PE X e (tE X.K W fe)) (hs:starEach [e] X.env=[(false,eval e X.env)]) (hline:(apos.endLine==cpos.line)=true) :
  PE X (.Call (.Attribute (.Constant (.str x) j p) "index" apos) [e] [] cpos) (tE X.K W (bh (dU x) (ae fe af))):=
 aJ (fT (T := "str") (r:=o7) F.plainAttrs_str F.slot_str_index F.type_str_index qJ uP (da_cons ha da_nil hs) rfl (by rw [hs];rfl) hline hs rfl) fun _ _ _=>xI
end T
namespace TQ
open PySem PySem.Spec L2 T
open PyProof.Rows hiding St
variable {X:Cx} {W:XW} {x:Str}
theorem iU {tg:Expr} {j:Nat} {pos:Pos} (ha:x.cps.all (·<128)=true):Q (PI X tg (.Constant (.str x) j pos) (tI X.K W (fh x))):=⟨pR (xW ha) fun _ _ _=>ui⟩
theorem iZ {j:Nat} {p apos cpos:Pos} {e:Expr} {fe:F1} (ha:Q (PE X e (tE X.K W fe))) (hs:starEach [e] X.env=[(false,eval e X.env)]) (hline:(apos.endLine==cpos.line)=true) :
  Q (PE X (.Call (.Attribute (.Constant (.str x) j p) "index" apos) [e] [] cpos) (tE X.K W (bh (dU x) (ae fe af)))):=⟨T.ce_idxS ha.p hs hline⟩
end TQ
namespace T
open PySem PySem.Spec L2
open PyProof.Rows hiding St
variable {K:Fg} {vs:List V} {ds:List Mc}
def cutD (xs:List Mc) (lo hi:Option Int):List Mc:=(xs.drop (HT.sIx xs.length 0 lo)).take (HT.sIx xs.length xs.length hi-HT.sIx xs.length 0 lo)
theorem Reps.take {H:Hp} (k:Nat) (h:Reps K H vs ds):Reps K H (vs.take k) (ds.take k):=by
 refine ⟨by rw [length_take,length_take,h.1],fun i v d e1 e2=>?_⟩
 by_cases hi:i<k
 ·rw [List.getElem?_take,if_pos hi] at e1 e2
  exact h.2 _ v d e1 e2
 ·rw [List.getElem?_take,if_neg hi] at e1
  cases e1
theorem Reps.cut {H:Hp} (lo hi:Option Int) (h:Reps K H vs ds):Reps K H (rP vs lo hi) (cutD ds lo hi):=by
 unfold rP cutD;rw [h.1];exact (h.drop _).take _
def eR (g:Int->Option Int×Option Int) (fa fb:F1):F1:=aU fa fun p=>aU fb fun q=>fun Γ=>match p.d,q.d with
 | .list xs,.int k=>if dj p xs then .ok ⟨.lst .leaf,.list (cutD xs (g k).1 (g k).2)⟩ Γ else .no
 | _,_=>.no
section
variable {K:Fg} {W:XW} {U:St} {H:Hp} {Q:VK} {fa fb:F1}
theorem ua {g:Int->Option Int×Option Int} (h:tE K W (eR g fa fb) U H Q):tE K W fa U H fun v H1=>tE K W fb U H1 fun u H2=>∃k,u=.int k/\BH K v (g k).1 (g k).2 H2 Q:=by
 refine Ee (R:=fun v u H2=>∃k,u=.int k/\BH K v (g k).1 (g k).2 H2 Q) h fun He O Fs Γ2 p q v u H1 H2 G1 G2 Fs2 nd s1 s2 E new o1 o2 w=>?_
 obtain ⟨s,d⟩:=p;obtain ⟨s',d'⟩:=q;dsimp only at w o1 o2
 split at w
 ·rename_i xs k
  cases hc:dj ⟨s,.list xs⟩ xs with
  | false=>rw [hc] at w;exact w.elim
  | true=>
   rw [hc] at w;obtain ⟨d1,d2⟩:=F6 E.nd;obtain ⟨p1,vs,rfl,q1,_,r1⟩:=o1.items (O':=O++Fs2.flatten) hc Bf d1
   have ru:=o2.rep
   cases ru;exact ⟨k,rfl,p1,vs,rfl,q1,fun p' hp'=>w _ _ _ _ (Er (E.drop (fun a ha=>LR _ (LR _ ha)) nd) (s1.trans s2) (fun a ha=>new a (LR _ (LR _ ha))) (r1.cut _ _) hp')⟩
 ·exact w.elim
end
end T
namespace TQ
open PySem PySem.Spec L2 T
open PyProof.Rows hiding St
variable {X:Cx} {W:XW} {a b:Expr} {fa fb:F1} {p2 pos:Pos}
theorem iY (ha:Q (PE X a (tE X.K W fa))) (hb:Q (PE X b (tE X.K W fb))):Q (PE X (.Subscript a (.Slice none (some b) none p2) pos) (tE X.K W (eR (fun k=>(none,some k)) fa fb))):=⟨have ha:=ha.p;have hb:=hb.p;aJ (lb oN ha pe (pb hb)) fun _ _ _=>ua⟩
theorem fO (ha:Q (PE X a (tE X.K W fa))) (hb:Q (PE X b (tE X.K W fb))):Q (PE X (.Subscript a (.Slice (some b) none none p2) pos) (tE X.K W (eR (fun k=>(some k,none)) fa fb))):=⟨have ha:=ha.p;have hb:=hb.p;aJ (lb oN ha (pb hb) pe) fun _ _ _=>ua⟩
end TQ
namespace T
open PySem PySem.Spec L2
open PyProof.Rows hiding St
def BI (K:Fg):V->List V->Hp->VK->Prop:=fun x xs H Q=>∃(l:Addr) (ns:List Int) (k:Int) (j:Nat),x=.ref l/\xs=[.int k]/\SqL K H l (ns.map V.int)/\ns[j]?=some k/\(∀m,m<j->ns[m]?≠some k)/\Q (.int j) H
theorem pI:∀{us:List Value} {ns:List Int} {m:Nat} {u:Value} {k:Int},IntsAre us ns->us[m]?=some u->isInt k u=true->ns[m]?=some k
 | _,_,_,_,_,.nil,h,_=>by simp at h
 | _,_,0,_,_,.cons n t r,h,e=>by
  simp at h
  subst h;simp [isInt] at e
  simp [e]
 | _,_,m+1,_,_,.cons n t r,h,e=>by
  simp only [getElem?_cons_succ] at h ⊢
  exact pI r h e
theorem lO:∀{us:List Value} {ns:List Int} {m:Nat} {u:Value} {k:Int},IntsAre us ns->us[m]?=some u->ns[m]?=some k->isInt k u=true
 | _,_,_,_,_,.nil,h,_=>by simp at h
 | _,_,0,_,_,.cons n t r,h,e=>by
  simp at h e
  subst h e;simp [isInt]
 | _,_,m+1,_,_,.cons n t r,h,e=>by
  simp only [getElem?_cons_succ] at h e
  exact lO r h e
theorem qK {X:Cx}:DX X "list.index" (BI X.K):=by
 intro pins s U H x xs v us Q I rx rv h;obtain ⟨l,ns,k,j,rfl,rfl,hS,hj,hno,q⟩:=h
 cases rx;obtain ⟨u,rfl,ru⟩:=rv.one;obtain ⟨t,rfl⟩:=ru;obtain ⟨its,r,pl,hz⟩:=I.list hS;have hI:=IE r
 have hl:its.length=ns.length:=by rw [<-r.length,length_map]
 have hjl:j<its.toArray.size:=by rw [size_toArray,hl];exact (L7 hj).1
 obtain ⟨o,n,ho,hc,hd,hdt⟩:=pl;obtain ⟨ocls,odict,odata,oslots⟩:=o;simp only at hc hd hdt
 subst hc hd hdt;have hsm:(j:Int)<2 ^ 63-1:=by
  rw [length_map] at hz;have h1:sizeLine<2 ^ 62:=by decide
  have:=(L7 hj).1
  omega
 refine call_meets F.slot_list_index ⟨_,ho,rfl⟩ F.entry_list_index (F.args_list_index_2 _ _) (SeqAt.list_indexAt l its.toArray n none oslots (.int k t) (isInt k) j hjl hsm ?_ fun m hm hmj=>?_) ⟨ho,fun y hy=>?_,⟨.int j,H,I.tok _,⟨_,rfl⟩,q⟩⟩
 ·exact lO hI (m:=j) (u:=its.toArray[j]) (by simp at hjl ⊢) hj
 ·cases e:isInt k its.toArray[m] with
  | false=>rfl
  | true=>exact absurd (pI hI (m:=m) (u:=its.toArray[m]) (by simp at hm ⊢) e) (hno m hmj)
 ·exact (eq_isInt k t hI y (by simpa using hy)).at _ _
def lN:Option (Option PV)->Bool
 | some (some ⟨.leaf,.list _⟩)=>true
 | _=>false
theorem vn {o:Option (Option PV)} (h:lN o=true):∃ds,o=some (Md (.list ds)):=by
 unfold lN at h;split at h
 ·exact ⟨_,rfl⟩
 ·cases h
def Ac (k:Int):List Int->Option Nat
 | []=>none
 | n::r=>if n=k then some 0 else (Ac k r).map (·+1)
theorem Ij {k:Int}:∀{ns:List Int} {j:Nat},Ac k ns=some j->ns[j]?=some k/\∀m,m<j->ns[m]?≠some k
 | [],_,h=>by cases h
 | n::r,j,h=>by
  unfold Ac at h;by_cases e:n=k
  ·rw [if_pos e] at h
   cases h;exact ⟨by simp [e],fun m hm=>by omega⟩
  ·rw [if_neg e] at h
   cases hr:Ac k r with
   | none=>rw [hr] at h;cases h
   | some j'=>
    rw [hr] at h
    cases h;obtain ⟨h1,h2⟩:=Ij hr;refine ⟨by simpa using h1,fun m hm=>?_⟩
    cases m with
    | zero=>simpa using e
    | succ m=>simpa using h2 m (by have:m+1<j'+1:=hm;omega)
def ym (i:Nat) (q:PV):Ev->Out PV:=fun Γ=>match Γ[i]?,q.d with
 | some (some ⟨.leaf,.list ds⟩),.int k=>(match sf ds with
  | some ns=>(match Ac k ns with
   | some j=>.ok ⟨.leaf,.int (j:Nat)⟩ Γ
   | none=>.no)
  | none=>.no)
 | _,_=>.no
def lU (i:Nat) (fb:F1):F1:=fun Γ=>if lN Γ[i]? then (fb Γ).bind (ym i) else .no
section
variable {K:Fg} {W:XW} {U:St} {H:Hp} {Q:VK} {fb:F1}
theorem GW {He:Hp} {O:List Addr} {Fs:List (List Addr)} {Γ:Ev} {i:Nat} {ds:List Mc} (E:EnvOk K He O Fs H U Γ) (h:Γ[i]?=some (Md (.list ds))):∃l vs,U[i]?=some (some (.ref l))/\SqL K H l vs/\Reps K H vs ds:=by
 obtain ⟨_,v,F,h1,_,o⟩:=E.slot i _ h;have r:=o.rep
 cases r with
 | @lst a vs _ hq hl hr=>exact ⟨a,vs,h1,hq,hl,hr⟩
theorem Bv {i:Nat} (h:tE K W (lU i fb) U H Q):wQ K "list" (BI K) (aS i) (tA K W (ae fb af)) U H Q:=by
 obtain ⟨He,O,Fs,Γ,E,h⟩:=h;unfold lU at h
 cases ho:lN Γ[i]? with
 | false=>rw [ho] at h;exact h.elim
 | true=>
  rw [ho] at h;obtain ⟨ds,e0⟩:=vn ho;obtain ⟨l,vs,h1,h2,h3⟩:=GW E e0;refine ⟨.ref l,h1,.inl ⟨rfl,vs,h2⟩,Ed ?_⟩
  refine zr (k:=ym i) ⟨He,O,Fs,Γ,E,h⟩ fun He O Fs Γ1 q u H1 G Fs1 nd A w=>?_
  unfold ym at w;split at w
  ·rename_i ds1 k e1 e2
   obtain ⟨l1,vs1,q1,q2,q3⟩:=GW A.go e1;rw [h1] at q1
   cases q1;have r:=A.own.rep
   rw [e2] at r
   cases r
   cases hi:sf ds1 with
   | none=>rw [hi] at w;exact w.elim
   | some ns=>
    rw [hi] at w;dsimp only at w
    cases hj:Ac k ns with
    | none=>rw [hj] at w;exact w.elim
    | some j=>
     rw [hj] at w;rw [Jk hi] at q3;have ev:=ql q3
     subst ev;obtain ⟨a1,a2⟩:=Ij hj;exact ⟨l,ns,k,j,rfl,rfl,q2,a1,a2,w _ _ _ _ (GV A.go A.same A.newF (.int _))⟩
  ·exact w.elim
end
section
variable {X:Cx} {N gl:List Str} {vs cs ls lo gs:List Nat} {W:XW} {e:Expr} {fe:F1} {p:Pos}
theorem ce_ixN (S:Cp X N gl vs cs ls lo gs) (i:Nat) {x:Str} {apos cpos:Pos} (hi:N[i]?=some x) (hv:vs.contains i=true) (ha:PE X e (tE X.K W fe)) (hbase:attributeBase (.Name x p) "index" X.env (eval (.Name x p) X.env)=eval (.Name x p) X.env) (hs:starEach [e] X.env=[(false,eval e X.env)]) (hline:(apos.endLine==cpos.line)=true) :
  PE X (.Call (.Attribute (.Name x p) "index" apos) [e] [] cpos) (tE X.K W (lU i fe)):=by
 have m:=S.nm x (mem_of_getElem? hi)
 exact aJ (fT (T := "list") (r:=BI X.K) F.plainAttrs_list F.slot_list_index F.type_list_index qK (km (by rw [S.hN];exact hi) (S.vis i x hi hv) m.1 m.2) (da_cons ha da_nil hs) hbase (by rw [hs];rfl) hline hs rfl) fun _ _ _=>Bv
end
end T
namespace TQ
open PySem PySem.Spec L2 T
open PyProof.Rows hiding St
variable {X:Cx} {N gl:List Str} {vs cs ls lo gs:List Nat} {W:XW} {e a:Expr} {fe fa:F1} {p pos:Pos}
theorem tm (S:Cp X N gl vs cs ls lo gs) (i:Nat) {x:Str} {apos cpos:Pos} (hi:N[i]?=some x) (hv:vs.contains i=true) (ha:Q (PE X e (tE X.K W fe))) (hbase:attributeBase (.Name x p) "index" X.env (eval (.Name x p) X.env)=eval (.Name x p) X.env) (hs:starEach [e] X.env=[(false,eval e X.env)]) (hline:(apos.endLine==cpos.line)=true) :
  Q (PE X (.Call (.Attribute (.Name x p) "index" apos) [e] [] cpos) (tE X.K W (lU i fe))):=⟨T.ce_ixN S i hi hv ha.p hbase hs hline⟩
end TQ
namespace T
open PySem PySem.Spec L2
open PyProof.Rows hiding St
variable {fi:FI} {fe:F1} {ds:List D} {Γ:Ev} {α:Type} {g:D->D->Option D} {a b:Bool} {ga gb:FB} {g1 g2:FS} {o:dY}
theorem Es:(1000:Nat)<=sizeLine:=by decide
theorem Jv {i:Nat} {fc:FB} {fe:F1} {s:Sh} {c:D->Bool} {f:D->PV} {Γ:Ev} (hΓ:Γ.set i none=Γ):∀(r acc:List D),(∀d∈r,fc (Γ.set i (Md d))=.ok (c d) (Γ.set i (Md d))) ->
  (∀d∈r,c d=true->fe (Γ.set i (Md d))=.ok (f d) (Γ.set i (Md d))/\coer s (f d)=true)->acc.length+r.length<=sizeLine->pU i fc fe s r Γ acc=.ok (acc++((r.filter c).map fun d=>(f d).d)) Γ
 | [],acc,_,_,_=>by simp [pU]
 | d::r,acc,hc,he,hl=>by
  have h1:=hc d mem_cons_self
  have hl1:acc.length<sizeLine:=by simp at hl;omega
  have back:(Γ.set i (Md d)).set i none=Γ:=by rw [set_set];exact hΓ
  rw [pU,h1]
  cases hcd:c d with
  | false=>
   dsimp only;rw [if_pos hl1,back,Jv hΓ r acc (fun d hd=>hc d (L5 _ hd)) (fun d hd=>he d (L5 _ hd)) (by simp at hl;omega)]
   rw [List.filter_cons_of_neg (by rw [hcd];exact Bool.false_ne_true)]
  | true=>
   obtain ⟨h2,h3⟩:=he d mem_cons_self hcd;dsimp only;rw [h2];dsimp only;rw [h3,decide_eq_true hl1,Bool.and_self,if_pos rfl,back,Jv hΓ r (acc++[(f d).d]) (fun d hd=>hc d (L5 _ hd)) (fun d hd=>he d (L5 _ hd)) (by simp at hl ⊢;omega)]
   rw [List.filter_cons_of_pos hcd,map_cons,append_assoc];rfl
theorem hJ {s:Sh} {i:Nat} {fc:FB} {c:D->Bool} {f:D->PV} {st:Bool} (hi:fi Γ=.ok ⟨ds,st⟩ Γ) (hl:i<Γ.length) (hs:s.isView=false) (hn:ds.length<=1000)
  (hc:∀d∈ds,fc (Γ.set i (Md d))=.ok (c d) (Γ.set i (Md d))) (he:∀d∈ds,c d=true->fe (Γ.set i (Md d))=.ok (f d) (Γ.set i (Md d))/\coer s (f d)=true) :
  aq s i fi fc fe Γ=.ok ⟨.lst s,.list ((ds.filter c).map fun d=>(f d).d)⟩ Γ:=by
 have hb:=Es
 unfold aq;rw [hi];unfold Out.bind;dsimp only;rw [Jv (c:=c) (f:=f) (by rw [set_set]) ds [] (fun d hd=>by rw [set_set];exact hc d hd) (fun d hd=>by rw [set_set];exact he d hd) (by simp;omega)]
 dsimp only;rw [hs,decide_eq_true hl];simp only [Bool.not_false,Bool.and_self,if_true,nil_append,set_set]
 have:Γ.set i (Γ.getD i none)=Γ:=by
  apply zx
  rw [L1,L0 hl];rfl
 rw [this]
theorem DK {s:Sh} {i:Nat} {f:D->PV} {st:Bool} (hi:fi Γ=.ok ⟨ds,st⟩ Γ) (hl:i<Γ.length) (hs:s.isView=false) (hn:ds.length<=1000)
  (he:∀d∈ds,fe (Γ.set i (Md d))=.ok (f d) (Γ.set i (Md d))/\coer s (f d)=true) :
  aq s i fi aG fe Γ=.ok ⟨.lst s,.list (ds.map fun d=>(f d).d)⟩ Γ:=by
 rw [hJ (fc:=aG) (c:=fun _=>true) (f:=f) hi hl hs hn (fun d hd=>rfl) fun d hd _=>he d hd,List.filter_eq_self.mpr fun _ _=>rfl]
theorem IT {P:Nat->Ev->Prop} {i:Nat} {body:FS}:∀(ds:List D) (n:Nat) (Γ:Ev),P n Γ->(∀k d Γ,d∈ds->n<=k->k<n+ds.length->P k Γ->i<Γ.length/\∃Γ',body (Γ.set i (Md d))=.nx Γ'/\P (k+1) Γ')->∃Γ',bH i body ds Γ=.nx Γ'/\P (n+ds.length) Γ'
 | [],n,Γ,h,_=>⟨Γ,rfl,h⟩
 | d::r,n,Γ,h,st=>by
  obtain ⟨hi,Γ1,e1,h1⟩:=st n d Γ mem_cons_self (Mb _) (by simp) h
  obtain ⟨Γ2,e2,h2⟩:=IT r (n+1) Γ1 h1 fun k d Γ hd a b c=>st k d Γ (L5 _ hd) (by omega) (by simp;omega) c
  refine ⟨Γ2,?_,?_⟩
  ·rw [bH,if_pos hi,e1]
   exact e2
  ·rw [length_cons,show n+(r.length+1)=n+1+r.length by omega]
   exact h2
theorem IV {any:Bool} {xs:List α} {f:α->Bool}:mS (xs.map fun x=>.bool (f x))=some (xs.map f):=by
 induction xs with
 | nil=>rfl
 | cons x r ih=>rw [map_cons,mS,ih];rfl
theorem zB {xs:List α} {f:α->Bool}:cC false [.list (xs.map fun x=>.bool (f x))]=some (.bool (xs.all f)):=by
 show Option.map _ (mS _)=_
 rw [IV (any:=false)];simp [List.all_map]
section
variable {Γ Γ1 Γ2:Ev} {fa fb fc:F1} {fl:FL} {p q:PV} {ps:List PV} {d e:D} {s s' s2:Sh} {i j n:Nat}
theorem au (h:Γ[i]?=some (Md d)):aa i Γ=.ok ⟨.leaf,d⟩ Γ:=by unfold aa;rw [h]
theorem kB (h:Γ[i]?=some (some ⟨.lst s,d⟩)):aa i Γ=.ok ⟨.view,d⟩ Γ:=by unfold aa;rw [h]
theorem zt (h:Γ[i]?=some (some p)):cD i Γ=.ok p (Γ.set i none):=by unfold cD;rw [h]
theorem bg:eK d Γ=.ok ⟨.leaf,d⟩ Γ:=rfl
theorem aE (ha:fa Γ=.ok p Γ1) (hb:fb Γ1=.ok q Γ2) (hg:g p.d q.d=some d):aA g fa fb Γ=.ok ⟨.leaf,d⟩ Γ2:=by
 unfold aA aU;rw [ha];simp only [Out.bind];rw [hb];simp only [hg]
theorem HF {g:D->Option D} (ha:fa Γ=.ok p Γ1) (hg:g p.d=some d):eU g fa Γ=.ok ⟨.leaf,d⟩ Γ1:=by
 unfold eU aU;rw [ha];simp only [Out.bind,hg]
theorem az (ha:fa Γ=.ok p Γ1) (hl:fl Γ1=.ok ps Γ2):ae fa fl Γ=.ok (p::ps) Γ2:=by
 unfold ae;rw [ha];simp only [Out.bind];rw [hl]
theorem ak:af Γ=.ok [] Γ:=rfl
theorem bF {g:List D->Option D} (hl:fl Γ=.ok ps Γ1) (hg:g (ps.map (·.d))=some d):bh g fl Γ=.ok ⟨.leaf,d⟩ Γ1:=by
 unfold bh;rw [hl];simp only [Out.bind];rw [hg]
theorem b7 {den:List D->bz} (hl:fl Γ=.ok ps Γ1) (hd:den (ps.map (·.d))=.ok p) (hn:ps.length=n) (hc:ps.all (coer .leaf)=true):aj n den fl Γ=.ok p Γ1:=by
 unfold aj;rw [hl];simp only [Out.bind,hn,hd,hc,if_true]
theorem sI {k:Int} (ha:fa Γ=.ok ⟨s,.list ds⟩ Γ1) (hb:fb Γ1=.ok ⟨s',.int k⟩ Γ2) (hi:dI ds.length k=some j) (hd:ds[j]?=some d) (hs:mO s j d=some s2):ag fa fb Γ=.ok ⟨s2,d⟩ Γ2:=by
 unfold ag aU;rw [ha];simp only [Out.bind];rw [hb];simp only [hi,hd,hs]
theorem iR {k:Int} (ha:fa Γ=.ok ⟨s,.tuple ds⟩ Γ1) (hb:fb Γ1=.ok ⟨s',.int k⟩ Γ2) (hi:dI ds.length k=some j) (hd:ds[j]?=some d) (hs:mO s j d=some s2):ag fa fb Γ=.ok ⟨s2,d⟩ Γ2:=by
 unfold ag aU;rw [ha];simp only [Out.bind];rw [hb];simp only [hi,hd,hs]
theorem mU (hl:fl Γ=.ok ps Γ1) (hs:s.isView=false) (hc:ps.all (coer s)=true) (hn:decide (ps.length<=1000)=true):aV s fl Γ=.ok ⟨.lst s,.list (ps.map (·.d))⟩ Γ1:=by
 have h2:ps.length<=sizeLine:=Nat.le_trans (of_decide_eq_true hn) Es
 unfold aV;rw [hl];simp only [Out.bind,hs,hc,decide_eq_true h2,Bool.not_false,Bool.and_self,if_true]
theorem kA (hl:fl Γ=.ok ps Γ1) (hc:ps.all tok=true) (hn:decide (ps.length<=1000)=true):bI fl Γ=.ok ⟨.tup (ps.map xk),.tuple (ps.map (·.d))⟩ Γ1:=by
 have h2:ps.length<=sizeLine:=Nat.le_trans (of_decide_eq_true hn) Es
 unfold bI;rw [hl];simp only [Out.bind,hc,decide_eq_true h2,Bool.and_self,if_true]
theorem AH (ha:fa Γ=.ok ⟨s,.list ds⟩ Γ1) (ho:dj ⟨s,.list ds⟩ ds=true):mT fa Γ=.ok ⟨.lst .leaf,.list ds⟩ Γ1:=by
 unfold mT aU;rw [ha];simp only [Out.bind,ho,if_true]
theorem v_and (ha:fa Γ=.ok ⟨s,.bool a⟩ Γ) (hb:fb Γ=.ok ⟨.leaf,.bool b⟩ Γ):fm fa fb Γ=.ok ⟨.leaf,.bool (a&&b)⟩ Γ:=by
 unfold fm aU;rw [ha];simp only [Out.bind]
 cases a with
 | false=>rfl
 | true=>exact hb
theorem IP {g':D->D->Option D} {b':Bool} (ha:fa Γ=.ok p Γ) (hb:fb Γ=.ok q Γ) (hg:g p.d q.d=some (.bool b)) (hs:ba q.d=true) {z:PV} (hc:fc Γ=.ok z Γ) (hg':g' q.d z.d=some (.bool b')):se g g' fa fb fc Γ=.ok ⟨.leaf,.bool (b&&b')⟩ Γ:=by
 unfold se aU;rw [ha];simp only [Out.bind];rw [hb];simp only [hg]
 cases b with
 | false=>rfl
 | true=>simp only [hs,if_true,hc,hg',Bool.true_and]
theorem cZ (ha:fa Γ=.ok ⟨s,.bool b⟩ Γ1):aF ao fa Γ=.ok b Γ1:=by unfold aF;rw [ha];rfl
theorem dW (ha:fa Γ=.ok ⟨s,.bool b⟩ Γ1):aF bt fa Γ=.ok b Γ1:=by unfold aF;rw [ha];rfl
theorem dX (h:ga Γ=.ok b Γ1):bT ga Γ=.ok (!b) Γ1:=by unfold bT;rw [h];rfl
theorem we (ha:ga Γ=.ok a Γ) (hb:gb Γ=.ok b Γ):fy ga gb Γ=.ok (a&&b) Γ:=by
 unfold fy;rw [ha];simp only [Out.bind]
 cases a with
 | false=>rfl
 | true=>exact hb
theorem ic (ha:ga Γ=.ok a Γ) (hb:gb Γ=.ok b Γ):fF ga gb Γ=.ok (a||b) Γ:=by
 unfold fF;rw [ha];simp only [Out.bind]
 cases a with
 | false=>exact hb
 | true=>rfl
theorem br (ha:fa Γ=.ok ⟨s,.list ds⟩ Γ1) (ho:dj ⟨s,.list ds⟩ ds=true):ax fa Γ=.ok ⟨ds,!s.isView⟩ Γ1:=by
 unfold ax;rw [ha];simp only [Out.bind,ho,if_true]
theorem xc {k:Int} (hl:fl Γ=.ok ps Γ1) (hp:ps.map (·.d)=[.int k]) (h0:-1000<=k) (h1:k<=100000):lR fl Γ=.ok ⟨b6 0 k.toNat,true⟩ Γ1:=by
 have h3:cN k=true:=by unfold cN;simp only [Bool.and_eq_true,decide_eq_true_eq];omega
 unfold lR;rw [hl];simp only [Out.bind,hp,iC,h3,if_true]
theorem JF {k m:Int} (hl:fl Γ=.ok ps Γ1) (hp:ps.map (·.d)=[.int k,.int m]) (h0:-1000<=k) (h1:k<=100000) (h2:-1000<=m) (h4:m<=100000):Ag fl Γ=.ok ⟨b6 k (m-k).toNat,true⟩ Γ1:=by
 have h3:cN k=true:=by unfold cN;simp only [Bool.and_eq_true,decide_eq_true_eq];omega
 have h5:cN m=true:=by unfold cN;simp only [Bool.and_eq_true,decide_eq_true_eq];omega
 unfold Ag;rw [hl];simp only [Out.bind,hp,qk,h3,h5,Bool.and_self,if_true]
theorem ar (h1:g1 Γ=.nx Γ1) (h2:g2 Γ1=o):av g1 g2 Γ=o:=by unfold av;rw [h1];exact h2
theorem Ay (h1:g1 Γ=.rt p):av g1 g2 Γ=.rt p:=by unfold av;rw [h1]
theorem bN {c:FB} {a b:FS} {t:Bool} (hc:c Γ=.ok t Γ1) (ht:t=true->a Γ1=o) (hf:t=false->b Γ1=o):cg c a b Γ=o:=by
 unfold cg;rw [hc]
 cases t with
 | true=>exact ht rfl
 | false=>exact hf rfl
theorem aZ (h:fa Γ=.ok p Γ1) (hs:p.s.isView=false):aL fa Γ=.rt p:=by
 unfold aL gj;rw [h];simp only [hs];rfl
theorem cY (h:fa Γ=.ok p Γ1) (hc:coer .leaf p=true) (hi:i<Γ1.length):ay false i fa Γ=.nx (Γ1.set i (Md p.d)):=by
 unfold ay gj;rw [h];simp only [hi,if_true,hc,Bool.false_and];rfl
theorem sg (h:fa Γ=.ok p Γ1) (hs:p.s.isView=false) (hi:i<Γ1.length):ay true i fa Γ=.nx (Γ1.set i (some p)):=by
 unfold ay gj;rw [h];simp only [hi,if_true,hs,Bool.true_and,Bool.not_false]
theorem DM (ho:Γ[i]?=some (some ⟨.lst s,.list ds⟩)) (h:fa Γ=.ok p Γ) (hc:coer s p=true) (hn:ds.length<=900):fA i fa Γ=.nx (Γ.set i (some ⟨.lst s,.list (ds++[p.d])⟩)):=by
 have h2:ds.length<sizeLine:=Nat.lt_of_lt_of_le (by omega:ds.length<1000) Es
 unfold fA DF;rw [ho];simp only [if_true];unfold gj;rw [h];simp only;unfold zh;rw [ho];simp only [hc,decide_eq_true h2,Bool.and_self,if_true]
theorem AR {k:Int} (ho:Γ[i]?=some (some ⟨.lst .leaf,.list ds⟩)) (h:fa Γ=.ok p Γ) (hk:fb Γ=.ok ⟨s,.int k⟩ Γ) (hi:dI ds.length k=some j) (hc:coer .leaf p=true):eX i fa fb Γ=.nx (Γ.set i (some ⟨.lst .leaf,.list (ds.set j p.d)⟩)):=by
 unfold eX pV;rw [ho];simp only [if_true];unfold gj;rw [h];simp only;rw [hk];simp only;unfold Bj;rw [ho];simp only [hi,hc,if_true]
theorem dB {body:FS} (h:fi Γ=.ok ⟨ds,true⟩ Γ1) (hg:bH i body ds Γ1=o):cR i fi body Γ=o:=by unfold cR;rw [h];exact hg
end
end T
namespace KC
open PySem PySem.Spec L2 T
open PyProof.Rows hiding St
variable {x:Str} {ds os ss:List D} {a b lo c:Int} {n:Nat} {g:FS} {ts:List Int} {Γ Γ1:Ev} {fa:F1}
noncomputable def bJ:Mc:=.tuple [.str "a",.str "b",.str "c",.str "d",.str "e",.str "f"]
noncomputable def cn:Mc:=.tuple [.int 0,.int 1]
noncomputable def dz:Mc:=.int 24
noncomputable def mf:FS:=(aL (bh (cC false) (ae (aq .leaf 1 (Ag (ae (eK (.int 1)) (ae (bh aM (ae (aa 0) af)) af))) aG (aA gy (ag (aa 0) (aA gSub (aa 1) (eK (.int 1)))) (ag (aa 0) (aa 1)))) af)))
noncomputable def cT:List Mc->bz:=aC 2 mf
noncomputable def ml:FS:=(aL (fm (bh (cC false) (ae (aq .leaf 1 (ax (aa 0)) aG (aA (bB false) (aa 1) (eK bJ))) af)) (aj 1 cT (ae (aa 0) af))))
noncomputable def aT:List Mc->bz:=aC 2 ml
noncomputable def mj:FS:=(aL (fm (bh (cC false) (ae (aq .leaf 2 (ax (aa 0)) aG (se yF gy (eK (.int 0)) (aa 2) (aa 1))) af)) (aj 1 cT (ae (aa 0) af))))
noncomputable def cz:List Mc->bz:=aC 3 mj
noncomputable def mi:FS:=(aL (fm (aA eO (bh aM (ae (aa 0) af)) (eK (.int 0))) (aj 2 cz (ae (aa 0) (ae (aa 1) af)))))
noncomputable def cU:List Mc->bz:=aC 2 mi
noncomputable def nV:FS:=(av (ay false 3 (bh aM (ae (aa 0) af)))
  (av (cg (fF (aF ao (aA gy (aa 3) (eK (.int 1)))) (fF (aF ao (aA eO (aa 3) (eK dz))) (fF (aF ao (aA gL (bh aM (ae (aa 1) af)) (aa 3))) (aF ao (aA gL (bh aM (ae (aa 2) af)) (aa 3)))))) (aL (eK (.bool false))) aN)
  (av (cg (bT (aF bt (bh (cC false) (ae (aq .leaf 4 (ax (aa 0)) aG (aA (bB false) (aa 4) (eK cn))) af)))) (aL (eK (.bool false))) aN)
  (aL (fm (bh (cC false) (ae (aq .leaf 5 (ax (aa 1)) aG (aj 1 aT (ae (aa 5) af))) af)) (bh (cC false) (ae (aq .leaf 5 (ax (aa 2)) aG (aj 2 cU (ae (aa 5) (ae (aa 3) af)))) af)))))))
noncomputable def dq:List Mc->bz:=aC 6 nV
noncomputable def iM:FS:=(cg (bT (aF bt (aj 3 dq (ae (ag (aa 0) (eK (.int 0))) (ae (ag (aa 0) (eK (.int 1))) (ae (ag (aa 0) (eK (.int 2))) af)))))) xr aN)
noncomputable def aB:List Mc->bz:=aC 1 iM
noncomputable def mh:FS:=(aL (FX (aF bt (aa 0)) (bh (cC true) (ae (aa 1) af)) (bh (cC false) (ae (aa 1) af))))
noncomputable def di:List Mc->bz:=aC 2 mh
noncomputable def eF:FS:=(av (ay true 4 (aV .leaf af))
  (av (cR 5 (ax (aa 2))
  (cg (fy (aF ao (aA (cS false) (ag (aa 3) (aa 5)) (eK .none))) (aF bt (aj 2 di (ae (ag (aa 1) (aa 5)) (ae (aq .leaf 6 (ax (ag (ag (aa 0) (eK (.int 2))) (aa 5))) aG (aA (cS true) (ag (aa 3) (aa 6)) (eK .none))) af))))) (fA 4 (aa 5)) aN))
  (aL (cD 4))))
noncomputable def bO:List Mc->bz:=aC 7 eF
noncomputable def hV:FS:=(av (ay true 4 (aq .leaf 8 (ax (ag (aa 0) (eK (.int 0)))) aG (eK .none)))
  (av (ay false 5 (eK (.int 0)))
  (av (ay false 6 (aa 3))
  (av (sL 1000 (aF bt (aa 6))
  (av (cR 7 (ax (aa 6))
  (eX 4 (aa 5) (aa 7)))
  (av (i8 5 (eK (.int 1)))
  (ay false 6 (AB 4 bO (ae (aa 0) (ae (aa 1) (ae (aa 2) (ae (aa 4) af)))))))))
  (aL (cD 4))))))
noncomputable def eN:List Mc->bz:=aC 9 hV
noncomputable def h9:FS:=(av (cg (aF ao (aA gy (aa 1) (bh aM (ae (aa 0) af)))) (aL (ag (aa 0) (aa 1))) aN)
  (aL (eK (.int 0))))
noncomputable def bc:List Mc->bz:=aC 2 h9
noncomputable def mw:FS:=(av (cg (aF ao (aA g9 (aa 0) (aA yE (eK (.int 10)) (eK (.int 18))))) (av (ay false 4 (aa 0))
  (av (cR 5 (lR (ae (aa 1) af))
  (ay false 4 (aA vF (aa 4) (aa 2))))
  (aL (aA gw (aa 4) (aa 2))))) aN)
  (av (ay false 3 (aA gw (aA gv (aA bu (aA bu (aA gw (aa 0) (eK (.int 1000000007))) (aA gv (eK (.int 1009)) (aa 1))) (eK (.int 17))) (eK (.int 69621))) (eK (.int 2147483647))))
  (av (ay false 3 (aA gw (aA bu (aA bu (aA gv (aa 3) (aa 3)) (aA gv (eK (.int 40503)) (aa 1))) (eK (.int 5))) (eK (.int 2147483629))))
  (aL (aA gw (aA vF (aA gw (aA gv (aa 3) (eK (.int 48271))) (eK (.int 2147483647))) (eK (.int 32))) (aa 2))))))
noncomputable def aD:List Mc->bz:=aC 6 mw
open PySem.SeqAt
noncomputable def HW (a b:D):Bool:=match gy a b with
 | some (.bool t)=>t
 | _=>false
noncomputable def gJ (ds:List D):Prop:=∀a∈ds,∃n,a=.int n
noncomputable def ig (ds:List D):Prop:=∀a∈ds,∃x,a=.str x/\PyData.strOk x=true
noncomputable def Row (ds:List D):Prop:=gJ ds\/ig ds
theorem Ax (i:Int):shaped (.int i)=true:=by simp [shaped,PyData.canLay0,PyData.depth]
theorem sh_str (h:PyData.strOk x=true):shaped (.str x)=true:=by simp [shaped,PyData.canLay0,PyData.depth,h]
theorem Row.lt {a b:D} (h:Row ds) (ha:a∈ds) (hb:b∈ds):gy a b=some (.bool (HW a b))/\g9 a b=some (.bool (!HW a b)):=by
 rcases h with h | h
 ·obtain ⟨n,rfl⟩:=h a ha
  obtain ⟨m,rfl⟩:=h b hb;refine ⟨rfl,?_⟩
  show some (PyData.bool (decide (m<=n)))=some (.bool (!decide (n<m)))
  congr 2
  by_cases q:n<m
  ·simp [q,Int.not_le.mpr q]
  ·simp [q,Int.not_lt.mp q]
 ·obtain ⟨n,rfl,_⟩:=h a ha
  obtain ⟨m,rfl,_⟩:=h b hb;exact ⟨rfl,rfl⟩
noncomputable def Ab (ds:List D) (d:D):Bool:=match d with
 | .int j=>HW (ds.getD (j-1).toNat .none) (ds.getD j.toNat .none)
 | _=>false
noncomputable def eY (ds:List D):Bool:=(b6 1 ((ds.length:Int)-1).toNat).all (Ab ds)
theorem Ej {d:D} (h:d∈b6 lo n):∃k:Nat,k<n/\d=.int (lo+k):=by
 unfold b6 at h;simp only [mem_map,mem_range] at h
 obtain ⟨k,hk,e⟩:=h;exact ⟨k,hk,e.symm⟩
theorem G5:(b6 lo n).length=n:=by unfold b6;simp
theorem As {k:Nat} (h:k<n):dI n (k:Int)=some k:=by
 unfold dI;rw [if_pos (by omega),if_pos (by omega)]
 simp
theorem FK {i:Int} (h0:0<=i) (h1:i<n):dI n i=some i.toNat:=by
 unfold dI;rw [if_pos h0,if_pos h1]
theorem CH {i:Int} (h0:-1000<=i) (h1:i<=100000):cN i=true:=by
 unfold cN;simp only [Bool.and_eq_true,decide_eq_true_eq]
 omega
theorem GK {k:Nat} (h:k<ds.length):ds[k]?=some (ds.getD k .none):=by
 rw [L1,L0 h];rfl
theorem getD_mem {k:Nat} (h:k<ds.length):ds.getD k .none∈ds:=mem_of_getElem? (GK h)
theorem FJ {k:Nat} (h:Row ds) (hk:k<((ds.length:Int)-1).toNat):dI ds.length (1+(k:Int)-1)=some k/\dI ds.length (1+(k:Int))=some (k+1)/\ds[k]?=some (ds.getD k .none)/\ds[k+1]?=some (ds.getD (k+1) .none) /\
  gy (ds.getD k .none) (ds.getD (k+1) .none)=some (.bool (Ab ds (.int (1+(k:Int)))))/\g9 (ds.getD k .none) (ds.getD (k+1) .none)=some (.bool (!Ab ds (.int (1+(k:Int))))):=by
 have h1:k<ds.length:=by omega
 have h2:k+1<ds.length:=by omega
 have l:=h.lt (getD_mem h1) (getD_mem h2)
 have e3:Ab ds (.int (1+(k:Int)))=HW (ds.getD k .none) (ds.getD (k+1) .none):=by
  unfold Ab;dsimp only;rw [show (1+(k:Int)-1).toNat=k by omega,show (1+(k:Int)).toNat=k+1 by omega]
 rw [e3];exact ⟨by rw [show (1+(k:Int)-1)=k by omega];exact As h1,by rw [show (1+(k:Int))=((k+1:Nat):Int) by omega];exact As h2,GK h1,GK h2,l.1,l.2⟩
theorem aQ {p:PV} (h:g (aR n ds)=.rt p):aC n g ds=.ok p:=by unfold aC;rw [h]
theorem eq_int:gz (.int a) (.int b)=some (.bool (a==b)):=by
 unfold gz;rw [Ax,Ax,Bool.and_self,if_pos rfl,PyData.eqv]
theorem eB (h:Row ds) (hl:ds.length<=100):cT [.list ds]=.ok ⟨.leaf,.bool (eY ds)⟩:=by
 have hc:aq .leaf 1 (Ag (ae (eK (.int 1)) (ae (bh aM (ae (aa 0) af)) af))) aG (aA gy (ag (aa 0) (aA gSub (aa 1) (eK (.int 1)))) (ag (aa 0) (aa 1))) [Md (.list ds),none] =
   .ok ⟨.lst .leaf,.list ((b6 1 ((ds.length:Int)-1).toNat).map fun d=>.bool (Ab ds d))⟩ [Md (.list ds),none]:=by
  refine DK (f:=fun d=>⟨.leaf,.bool (Ab ds d)⟩) (st:=true) (JF (k:=1) (m:=(ds.length:Int)) (az bg (az (bF (az (au rfl) ak) rfl) ak)) rfl (by omega) (by omega) (by omega) (by omega)) (by simp) rfl (by rw [G5];omega) fun d hd=>⟨?_,rfl⟩
  obtain ⟨k,hk,rfl⟩:=Ej hd;obtain ⟨e1,e2,e3,e4,e5,e6⟩:=FJ h hk;exact aE (sI (au rfl) (aE (au rfl) bg rfl) e1 e3 rfl) (sI (au rfl) (au rfl) e2 e4 rfl) e5
 exact aQ (aZ (bF (az hc ak) zB) rfl)
noncomputable def DV (a:D):Bool:=[PyData.str "a",.str "b",.str "c",.str "d",.str "e",.str "f"].any fun y=>PyData.eqv y a
noncomputable def FO (a:D):Bool:=[PyData.int 0,.int 1].any fun y=>PyData.eqv y a
noncomputable def inR (n:Int) (a:D):Bool:=match a with
 | .int i=>decide (0<=i)&&decide (i<n)
 | _=>false
noncomputable def DT (d:D):Bool:=match d with
 | .list xs=>xs.all DV&&eY xs
 | _=>false
noncomputable def HI (n:Int) (d:D):Bool:=match d with
 | .list xs=>decide (0<xs.length)&&(xs.all (inR n)&&eY xs)
 | _=>false
theorem Bi:shaped bJ=true:=by decide +kernel
theorem ES:shaped cn=true:=by decide +kernel
theorem CI (hx:PyData.strOk x=true):bB false (.str x) bJ=some (.bool (DV (.str x))):=by
 unfold bB bJ;have:=Bi
 unfold bJ at this;simp only [sh_str hx,this,Bool.and_self,if_true]
 rfl
theorem FN {i:Int}:bB false (.int i) cn=some (.bool (FO (.int i))):=by
 unfold bB cn;have:=ES
 unfold cn at this;simp only [Ax,this,Bool.and_self,if_true]
 rfl
theorem eD (h:ig ds) (hl:ds.length<=100):aT [.list ds]=.ok ⟨.leaf,.bool (ds.all DV&&eY ds)⟩:=by
 have hc:aq .leaf 1 (ax (aa 0)) aG (aA (bB false) (aa 1) (eK bJ)) [Md (.list ds),none]=.ok ⟨.lst .leaf,.list (ds.map fun d=>.bool (DV d))⟩ [Md (.list ds),none]:=by
  refine DK (f:=fun d=>⟨.leaf,.bool (DV d)⟩) (br (au rfl) rfl) (by simp) rfl (by omega) fun d hd=>⟨?_,rfl⟩
  obtain ⟨x,rfl,hx⟩:=h d hd;exact aE (au rfl) bg (CI hx)
 exact aQ (aZ (v_and (bF (az hc ak) zB) (b7 (az (au rfl) ak) (eB (.inr h) hl) rfl rfl)) rfl)
theorem chain_ev {i n:Int}:yF (.int 0) (.int i)=some (.bool (decide (0<=i)))/\gy (.int i) (.int n)=some (.bool (decide (i<n))):=⟨rfl,rfl⟩
theorem eC {n:Int} (h:gJ ds) (hl:ds.length<=100):cz [.list ds,.int n]=.ok ⟨.leaf,.bool (ds.all (inR n)&&eY ds)⟩:=by
 have hc:aq .leaf 2 (ax (aa 0)) aG (se yF gy (eK (.int 0)) (aa 2) (aa 1)) [Md (.list ds),Md (.int n),none]=.ok ⟨.lst .leaf,.list (ds.map fun d=>.bool (inR n d))⟩ [Md (.list ds),Md (.int n),none]:=by
  refine DK (f:=fun d=>⟨.leaf,.bool (inR n d)⟩) (br (au rfl) rfl) (by simp) rfl (by omega) fun d hd=>⟨?_,rfl⟩
  obtain ⟨i,rfl⟩:=h d hd;exact IP bg (au rfl) (chain_ev (n:=n)).1 rfl (au rfl) chain_ev.2
 exact aQ (aZ (v_and (bF (az hc ak) zB) (b7 (az (au rfl) ak) (eB (.inl h) hl) rfl rfl)) rfl)
theorem iL {n:Int} (h:gJ ds) (hl:ds.length<=100):cU [.list ds,.int n]=.ok ⟨.leaf,.bool (decide (0<ds.length)&&(ds.all (inR n)&&eY ds))⟩:=by
 have e:eO (.int (ds.length:Nat)) (.int 0)=some (.bool (decide (0<ds.length))):=by
  show some (PyData.bool (decide ((0:Int)<(ds.length:Int))))=_
  congr 2
  exact decide_eq_decide.mpr (by omega)
 exact aQ (aZ (v_and (aE (bF (az (au rfl) ak) rfl) bg e) (b7 (az (au rfl) (az (au rfl) ak)) (eC h hl) rfl rfl)) rfl)
structure Wk (b:Nat) (os ms ss:List D):Prop where
 o:gJ os
 m:∀r∈ms,∃xs,r=.list xs/\ig xs/\xs.length<=30
 s:∀r∈ss,∃xs,r=.list xs/\gJ xs/\xs.length<=30
 lo:os.length<=b
 lm:ms.length<=b
 ls:ss.length<=b
noncomputable def HX (os ms ss:List D):Bool:=decide ((os.length:Int)<1)||(decide ((24:Int)<os.length)||((!((ms.length:Int)==(os.length:Int)))||(!((ss.length:Int)==(os.length:Int)))))
noncomputable def isW (os ms ss:List D):Bool:=!HX os ms ss&&(os.all FO&&(ms.all DT&&ss.all (HI os.length)))
theorem ne_int:gL (.int a) (.int b)=some (.bool (!(a==b))):=by
 unfold gL;rw [Ax,Ax,Bool.and_self,if_pos rfl,PyData.eqv]
theorem jZ {b:Nat} {ms:List D} (h:Wk b os ms ss) (hb:b<=100):dq [.list os,.list ms,.list ss]=.ok ⟨.leaf,.bool (isW os ms ss)⟩:=by
 have lo:=h.lo
 have lm:=h.lm
 have ls:=h.ls
 refine aQ ?_
 refine ar (cY (bF (az (au rfl) ak) rfl) rfl (by simp [aR])) ?_
 have hif:(fF (aF ao (aA gy (aa 3) (eK (.int 1)))) (fF (aF ao (aA eO (aa 3) (eK dz))) (fF (aF ao (aA gL (bh aM (ae (aa 1) af)) (aa 3))) (aF ao (aA gL (bh aM (ae (aa 2) af)) (aa 3)))))) [Md (.list os),Md (.list ms),Md (.list ss),Md (.int (os.length:Nat)),none,none]
   = .ok (HX os ms ss) [Md (.list os),Md (.list ms),Md (.list ss),Md (.int (os.length:Nat)),none,none]:=
  ic (cZ (aE (au rfl) bg rfl)) (ic (cZ (aE (au rfl) bg rfl)) (ic (cZ (aE (bF (az (au rfl) ak) rfl) (au rfl) ne_int)) (cZ (aE (bF (az (au rfl) ak) rfl) (au rfl) ne_int))))
 cases hbad:HX os ms ss with
 | true=>
  rw [hbad] at hif;unfold isW;rw [hbad];exact Ay (bN hif (fun _=>aZ bg rfl) nofun)
 | false=>
  rw [hbad] at hif;refine ar (bN hif nofun (fun _=>rfl)) ?_
  have c1:aq .leaf 4 (ax (aa 0)) aG (aA (bB false) (aa 4) (eK cn)) [Md (.list os),Md (.list ms),Md (.list ss),Md (.int (os.length:Nat)),none,none]
    = .ok ⟨.lst .leaf,.list (os.map fun d=>.bool (FO d))⟩ [Md (.list os),Md (.list ms),Md (.list ss),Md (.int (os.length:Nat)),none,none]:=by
   refine DK (f:=fun d=>⟨.leaf,.bool (FO d)⟩) (br (au rfl) rfl) (by simp) rfl (by omega) fun d hd=>⟨?_,rfl⟩
   obtain ⟨i,rfl⟩:=h.o d hd;exact aE (au rfl) bg FN
  have c2:aq .leaf 5 (ax (aa 1)) aG (aj 1 aT (ae (aa 5) af)) [Md (.list os),Md (.list ms),Md (.list ss),Md (.int (os.length:Nat)),none,none]
    = .ok ⟨.lst .leaf,.list (ms.map fun d=>.bool (DT d))⟩ [Md (.list os),Md (.list ms),Md (.list ss),Md (.int (os.length:Nat)),none,none]:=by
   refine DK (f:=fun d=>⟨.leaf,.bool (DT d)⟩) (br (au rfl) rfl) (by simp) rfl (by omega) fun d hd=>⟨?_,rfl⟩
   obtain ⟨xs,rfl,hx,hl⟩:=h.m d hd;exact b7 (az (au rfl) ak) (eD hx (by omega)) rfl rfl
  have c3:aq .leaf 5 (ax (aa 2)) aG (aj 2 cU (ae (aa 5) (ae (aa 3) af))) [Md (.list os),Md (.list ms),Md (.list ss),Md (.int (os.length:Nat)),none,none]
    = .ok ⟨.lst .leaf,.list (ss.map fun d=>.bool (HI os.length d))⟩ [Md (.list os),Md (.list ms),Md (.list ss),Md (.int (os.length:Nat)),none,none]:=by
   refine DK (f:=fun d=>⟨.leaf,.bool (HI os.length d)⟩) (br (au rfl) rfl) (by simp) rfl (by omega) fun d hd=>⟨?_,rfl⟩
   obtain ⟨xs,rfl,hx,hl⟩:=h.s d hd;exact b7 (az (au rfl) (az (au rfl) ak)) (iL hx (by omega)) rfl rfl
  have t1:=dX (dW (bF (az c1 ak) zB))
  cases ho:os.all FO with
  | false=>
   rw [ho] at t1;unfold isW;rw [ho,Bool.false_and,Bool.and_false];exact Ay (bN t1 (fun _=>aZ bg rfl) nofun)
  | true=>
   rw [ho] at t1;refine ar (bN t1 nofun (fun _=>rfl)) ?_
   unfold isW;rw [hbad,ho,Bool.not_false,Bool.true_and,Bool.true_and];exact aZ (v_and (bF (az c2 ak) zB) (bF (az c3 ak) zB)) rfl
theorem De {xs:List D} (h:shaped (.list xs)=true):gz (.list xs) (.list [])=some (.bool (decide (xs.length=0))):=by
 unfold gz;have h2:shaped (.list [])=true:=by decide +kernel
 rw [h,h2,Bool.and_self,if_pos rfl]
 cases xs with
 | nil=>rfl
 | cons a r=>rfl
theorem G6 {xs:List D} (h:gJ xs):shaped (.list xs)=true:=by
 have c:PyData.canLayAll0 xs=true/\PyData.depthAll xs=0:=by
  induction xs with
  | nil=>exact ⟨rfl,rfl⟩
  | cons a r ih=>
   obtain ⟨n,rfl⟩:=h a mem_cons_self;have q:=ih fun x hx=>h x (L5 _ hx)
   simp [PyData.canLayAll0,PyData.canLay0,PyData.depthAll,PyData.depth,q.1,q.2]
 simp [shaped,PyData.canLay0,PyData.depth,c.1,c.2]
theorem oQ {xs:List D} (h:ig xs):shaped (.list xs)=true:=by
 have c:PyData.canLayAll0 xs=true/\PyData.depthAll xs=0:=by
  induction xs with
  | nil=>exact ⟨rfl,rfl⟩
  | cons a r ih=>
   obtain ⟨n,rfl,hn⟩:=h a mem_cons_self;have q:=ih fun x hx=>h x (L5 _ hx)
   simp [PyData.canLayAll0,PyData.canLay0,PyData.depthAll,PyData.depth,q.1,q.2,hn]
 simp [shaped,PyData.canLay0,PyData.depth,c.1,c.2]
theorem lt_int:gy (.int a) (.int b)=some (.bool (decide (a<b))):=rfl
theorem yB:g9 (.int a) (.int b)=some (.bool (decide (b<=a))):=rfl
theorem add_int':bu (.int a) (.int b)=some (.int (a+b)):=rfl
theorem mod_i (h:0<b):gw (.int a) (.int b)=some (.int (a % b)):=by
 show (if zb a b then _ else _)=_
 rw [if_pos (by unfold zb;simpa using h)]
theorem Ak (h:0<b) (h2:b<1073741824):vF (.int a) (.int b)=some (.int (a / b)):=by
 show (if zc a b then _ else _)=_
 rw [if_pos (by unfold zc;simp [h,h2])]
theorem Aa (h:-1000000000000<b) (h2:b<1000000000000):gv (.int a) (.int b)=some (.int (a*b)):=by
 show (if rX a b then _ else _)=_
 rw [if_pos (by unfold rX;simp only [Bool.or_eq_true,Bool.and_eq_true,decide_eq_true_eq];right;omega)]
theorem mul_l (h:-1000000000000<a) (h2:a<1000000000000):gv (.int a) (.int b)=some (.int (a*b)):=by
 show (if rX a b then _ else _)=_
 rw [if_pos (by unfold rX;simp only [Bool.or_eq_true,Bool.and_eq_true,decide_eq_true_eq];left;omega)]
theorem Fm (h:0<=b) (h2:b<=100):yE (.int 10) (.int b)=some (.int (10 ^ b.toNat)):=by
 show (if za 10 b then _ else _)=_
 rw [if_pos (by unfold za;simp only [Bool.and_eq_true,decide_eq_true_eq];exact ⟨⟨h,by omega⟩,by decide⟩)]
theorem Hd {xs:List D} (h:gJ xs) {k:Int} (hk:0<=k):∃c,bc [.list xs,.int k]=.ok ⟨.leaf,.int c⟩:=by
 have t:aF ao (aA gy (aa 1) (bh aM (ae (aa 0) af))) [Md (.list xs),Md (.int k)]=.ok (decide (k<(xs.length:Int))) [Md (.list xs),Md (.int k)]:=
  cZ (aE (au rfl) (bF (az (au rfl) ak) rfl) lt_int)
 cases hlt:decide (k<(xs.length:Int)) with
 | true=>
  rw [hlt] at t;have hl:=of_decide_eq_true hlt
  have hk2:k.toNat<xs.length:=by omega
  obtain ⟨c,hc⟩:=h _ (getD_mem hk2);have g:=GK hk2
  rw [hc] at g;exact ⟨c,aQ (Ay (bN t (fun _=>aZ (sI (au rfl) (au rfl) (FK hk hl) g rfl) rfl) nofun))⟩
 | false=>
  rw [hlt] at t;exact ⟨0,aQ (ar (bN t nofun (fun _=>rfl)) (aZ bg rfl))⟩
theorem me {k:Int} (hk:0<=k) (hk2:k<=1000) (hb:1<=b) (hb2:b<=1000):∃r,aD [.int c,.int k,.int b]=.ok ⟨.leaf,.int r⟩/\0<=r/\r<b:=by
 have t:aF ao (aA g9 (aa 0) (aA yE (eK (.int 10)) (eK (.int 18)))) [Md (.int c),Md (.int k),Md (.int b),none,none,none]=.ok (decide (10 ^ (18:Int).toNat<=c)) [Md (.int c),Md (.int k),Md (.int b),none,none,none]:=
  cZ (aE (au rfl) (aE bg bg (Fm (by omega) (by omega))) yB)
 cases hge:decide (10 ^ (18:Int).toNat<=c) with
 | true=>
  rw [hge] at t;obtain ⟨Γ',e,l,x,hΓ⟩:=IT (P:=fun _ Γ=>∃l x,Γ=[Md (.int c),Md (.int k),Md (.int b),none,Md (.int l),x]) (i:=5) (body:=ay false 4 (aA vF (aa 4) (aa 2))) (b6 0 k.toNat) 0
   [Md (.int c),Md (.int k),Md (.int b),none,Md (.int c),none] ⟨c,none,rfl⟩ (fun m d Γ hd _ _ ⟨l,x,hΓ⟩=>by
    subst hΓ;refine ⟨by simp,_,cY (aE (au rfl) (au rfl) (Ak (by omega) (by omega))) rfl (by simp),_,_,rfl⟩)
  subst hΓ;exact ⟨_,aQ (Ay (bN t (fun _=>ar (cY (au rfl) rfl (by simp)) (ar (dB (xc (k:=k) (az (au rfl) ak) rfl (by omega) (by omega)) e) (aZ (aE (au rfl) (au rfl) (mod_i (by omega))) rfl))) nofun)),Int.emod_nonneg _ (by omega),Int.emod_lt_of_pos _ (by omega)⟩
 | false=>
  rw [hge] at t;have m1:∀x:Int,0<=x % 2147483647/\x % 2147483647<2147483647:=fun x=>⟨Int.emod_nonneg _ (by omega),Int.emod_lt_of_pos _ (by omega)⟩
  refine ⟨_,aQ (ar (bN t nofun (fun _=>rfl)) (ar (cY (aE (aE (aE (aE (aE (au rfl) bg (mod_i (by omega))) (aE bg (au rfl) (mul_l (by omega) (by omega))) add_int') bg add_int') bg (Aa (by omega) (by omega))) bg (mod_i (by omega))) rfl (by simp [aR]))
   (ar (cY (aE (aE (aE (aE (au rfl) (au rfl) (mul_l ?_ ?_)) (aE bg (au rfl) (mul_l (by omega) (by omega))) add_int') bg add_int') bg (mod_i (by omega))) rfl (by simp [aR]))
   (aZ (aE (aE (aE (aE (au rfl) bg (Aa (by omega) (by omega))) bg (mod_i (by omega))) bg (Ak (by omega) (by omega))) (au rfl) (mod_i (by omega))) rfl)))),Int.emod_nonneg _ (by omega),Int.emod_lt_of_pos _ (by omega)⟩
  ·exact Int.lt_of_lt_of_le (by omega) (m1 _).1
  ·exact Int.lt_trans (m1 _).2 (by omega)
noncomputable def dE (c k b:Int):Int:=match aD [.int c,.int k,.int b] with
 | .ok ⟨_,.int r⟩=>r
 | _=>0
theorem DG {k:Int} (hk:0<=k) (hk2:k<=1000) (hb:1<=b) (hb2:b<=1000):aD [.int c,.int k,.int b]=.ok ⟨.leaf,.int (dE c k b)⟩:=by
 obtain ⟨r,e,_⟩:=me (c:=c) hk hk2 hb hb2
 unfold dE;rw [e]
theorem vR {k:Int} (hk:0<=k) (hk2:k<=1000) (hb:1<=b) (hb2:b<=1000):0<=dE c k b/\dE c k b<b:=by
 obtain ⟨r,e,h⟩:=me (c:=c) hk hk2 hb hb2
 unfold dE;rw [e];exact h
theorem ll {c:Nat} (h:c<1000):PyData.strOk ⟨#[c]⟩=true:=by
 unfold PyData.strOk;simp
 omega
theorem kS (h:ts.Pairwise (· < ·)):eY (ts.map .int)=true:=by
 unfold eY;rw [all_eq_true];intro d hd;obtain ⟨k,hk,rfl⟩:=Ej hd;rw [length_map] at hk;have h1:k<ts.length:=by omega
 have h2:k+1<ts.length:=by omega
 unfold Ab;dsimp only;rw [show (1+(k:Int)-1).toNat=k by omega,show (1+(k:Int)).toNat=k+1 by omega]
 rw [L1,L1,getElem?_map,getElem?_map,L0 h1,L0 h2];have:=List.pairwise_iff_getElem.mp h k (k+1) h1 h2 (by omega)
 show decide (ts[k]<ts[k+1])=true
 exact decide_eq_true this
structure Gw (N:Int) (n:Nat) (os ms ss:List D):Prop where
 lo:os.length=n
 lm:ms.length=n
 ls:ss.length=n
 o:∀a∈os,a=.int 0\/a=.int 1
 m:∀r∈ms,∃xs,r=.list xs/\ig xs/\xs.length<=30/\DT r=true
 s:∀r∈ss,∃ts:List Int,r=.list (ts.map .int)/\ts.length<=30/\ts≠[]/\(∀t∈ts,0<=t/\t<N)/\ts.Pairwise (· < ·)
theorem zw:gJ (ts.map .int):=fun a ha=>by
 obtain ⟨n,_,e⟩:=List.mem_map.mp ha;exact ⟨n,e.symm⟩
theorem Gw.wk {N:Int} {b:Nat} {ms:List D} (h:Gw N n os ms ss) (hb:n<=b):Wk b os ms ss:=
 ⟨fun a ha=>(h.o a ha).elim (fun e=>⟨0,e⟩) fun e=>⟨1,e⟩,fun r hr=>let ⟨xs,e,a,b,_⟩:=h.m r hr;⟨xs,e,a,b⟩,fun r hr=>let ⟨ts,e,a,_⟩:=h.s r hr;⟨_,e,zw,by rw [length_map];exact a⟩,by rw [h.lo];exact hb,by rw [h.lm];exact hb,by rw [h.ls];exact hb⟩
theorem Gw.isW {n:Nat} {os ms ss:List D} (h:Gw (n:Int) n os ms ss) (h1:1<=n) (h24:n<=24):isW os ms ss=true:=by
 unfold KC.isW HX;rw [h.lo,h.lm,h.ls];have e1:decide ((n:Int)<1)=false:=decide_eq_false (by omega)
 have e2:decide ((24:Int)<n)=false:=decide_eq_false (by omega)
 rw [e1,e2];simp only [beq_self_eq_true,Bool.not_true,Bool.or_self,Bool.not_false,Bool.true_and,Bool.and_eq_true,all_eq_true]
 refine ⟨fun a ha=>?_,fun r hr=>?_,fun r hr=>?_⟩
 ·rcases h.o a ha with rfl | rfl<;>rfl
 ·obtain ⟨xs,_,_,_,e⟩:=h.m r hr
  exact e
 ·obtain ⟨ts,rfl,h2,h3,h4,h5⟩:=h.s r hr
  unfold HI;simp only [Bool.and_eq_true,decide_eq_true_eq,length_map,all_eq_true]
  refine ⟨by cases ts with | nil=>exact absurd rfl h3 | cons a r=>simp,fun a ha=>?_,kS h5⟩
  obtain ⟨t,ht,rfl⟩:=List.mem_map.mp ha;have:=h4 t ht
  unfold inR;simp only [Bool.and_eq_true,decide_eq_true_eq]
  exact this
theorem Kq (c0 c1 c2:Bool):DT (.list (((if c0 then [PyData.str ⟨#[97]⟩] else [])++((if c1 then [PyData.str ⟨#[98]⟩] else [])++(if c2 then [PyData.str ⟨#[99]⟩] else [])))))=true:=by
 cases c0<;>cases c1<;>cases c2<;>decide +kernel
theorem Bo (n:Nat) (c:D->Bool):∃ts:List Int,((b6 0 n).filter c).map (fun d=>d)=ts.map .int/\(∀t∈ts,0<=t/\t<(n:Int))/\ts.Pairwise (· < ·)/\ts.length<=n:=by
 refine ⟨((List.range n).map fun i=>(0:Int)+(i:Nat)).filter fun i=>c (.int i),?_,fun t ht=>?_,?_,?_⟩
 ·rw [List.map_id']
  unfold b6;rw [show (fun i:Nat=>PyData.int (0+(i:Int)))=(PyData.int∘fun i:Nat=>(0:Int)+(i:Nat)) from rfl,<-map_map,List.filter_map]
  rfl
 ·obtain ⟨h1,_⟩:=List.mem_filter.mp ht
  obtain ⟨i,hi,rfl⟩:=List.mem_map.mp h1;rw [mem_range] at hi;omega
 ·refine List.Pairwise.filter _ ?_
  rw [pairwise_map];exact List.pairwise_lt_range.imp fun h=>by omega
 ·refine Nat.le_trans (length_filter_le _ _) ?_
  simp
noncomputable abbrev W3:Sh:=.tup [.lst .leaf,.lst .leaf,.lst .leaf]
noncomputable abbrev de (os ms ss:List D):D:=.tuple [.list os,.list ms,.list ss]
theorem lC (h:g (aR n ds)=.nx Γ):aC n g ds=.ok ⟨.leaf,.none⟩:=by unfold aC;rw [h]
theorem kC {p:PV} {c:String} {b:Bool} (ha:fa Γ=.ok p Γ1) (hb:vh (A6 p.d) c=b):iK c fa Γ=.ok ⟨.leaf,.bool b⟩ Γ1:=by
 unfold iK aU;rw [ha];simp only [Out.bind,hb]
theorem v_not {s:Sh} {b:Bool} (ha:fa Γ=.ok ⟨s,.bool b⟩ Γ1):vO fa Γ=.ok ⟨.leaf,.bool (!b)⟩ Γ1:=by
 unfold vO aU;rw [ha];rfl
theorem zu {p:PV} (h:fa Γ=.ok p Γ1):bG fa Γ=.nx Γ1:=by unfold bG gj;rw [h]
theorem rH {b:Nat} {ms:List D} (h:Wk b os ms ss) (hb:b<=100) (hw:isW os ms ss=true):aB [de os ms ss]=.ok ⟨.leaf,.none⟩:=by
 have t:bT (aF bt (aj 3 dq (ae (ag (aa 0) (eK (.int 0))) (ae (ag (aa 0) (eK (.int 1))) (ae (ag (aa 0) (eK (.int 2))) af))))) [Md (de os ms ss)]=.ok (!(isW os ms ss)) [Md (de os ms ss)]:=
  dX (dW (b7 (az (iR (j:=0) (au rfl) bg rfl rfl rfl) (az (iR (j:=1) (au rfl) bg rfl rfl rfl) (az (iR (j:=2) (au rfl) bg rfl rfl rfl) ak))) (jZ h hb) rfl rfl))
 rw [hw] at t;exact lC (bN t nofun (fun _=>rfl))
theorem Hh {d:D} (h:shaped d=true):gL d d=some (.bool false):=by
 unfold gL;rw [h,Bool.and_self,if_pos rfl,PySem.SeqAt.eqv_refl _ (canLay_of_shaped h)];rfl
theorem vo {i:Int}:bB false (.int i) (.list (ts.map .int))=some (.bool (ts.contains i)):=by
 unfold bB;simp only [Ax,G6 zw,Bool.and_self,if_true]
 congr 2
 rw [Bool.eq_iff_iff];simp only [Bool.false_eq_true,if_false,any_eq_true,mem_map,contains_iff_mem]
 constructor
 ·rintro ⟨d,⟨t,ht,rfl⟩,e⟩
  rw [PyData.eqv] at e;have:t=i:=by simpa using e
  rw [<-this];exact ht
 ·intro h
  exact ⟨.int i,⟨i,h,rfl⟩,by rw [PyData.eqv];simp⟩
theorem rR {xs:List D} (h:gJ xs):PyData.canLayAll0 xs=true/\PyData.depthAll xs=0:=by
 induction xs with
 | nil=>exact ⟨rfl,rfl⟩
 | cons a r ih=>
  obtain ⟨n,rfl⟩:=h a mem_cons_self;have q:=ih fun x hx=>h x (L5 _ hx)
  simp [PyData.canLayAll0,PyData.canLay0,PyData.depthAll,PyData.depth,q.1,q.2]
theorem Gg {xs:List D} (h:ig xs):PyData.canLayAll0 xs=true/\PyData.depthAll xs=0:=by
 induction xs with
 | nil=>exact ⟨rfl,rfl⟩
 | cons a r ih=>
  obtain ⟨n,rfl,hn⟩:=h a mem_cons_self;have q:=ih fun x hx=>h x (L5 _ hx)
  simp [PyData.canLayAll0,PyData.canLay0,PyData.depthAll,PyData.depth,q.1,q.2,hn]
theorem IC {ms:List D} (h:∀r∈ms,∃xs,r=.list xs/\PyData.canLayAll0 xs=true/\PyData.depthAll xs=0):PyData.canLayAll0 ms=true/\PyData.depthAll ms<=1:=by
 induction ms with
 | nil=>exact ⟨rfl,Nat.zero_le _⟩
 | cons a r ih=>
  obtain ⟨xs,rfl,h1,h2⟩:=h a mem_cons_self;have q:=ih fun x hx=>h x (L5 _ hx)
  refine ⟨by simp [PyData.canLayAll0,PyData.canLay0,q.1,h1],?_⟩
  rw [PyData.depthAll,PyData.depth,h2];exact Nat.max_le.mpr ⟨by omega,q.2⟩
noncomputable def has (x:Str) (d:D):Bool:=match d with
 | .list xs=>xs.any fun y=>PyData.eqv y (.str x)
 | _=>false
theorem CJ {xs:List D} (hx:PyData.strOk x=true) (h:ig xs):bB false (.str x) (.list xs)=some (.bool (has x (.list xs))):=by
 unfold bB;simp only [sh_str hx,oQ h,Bool.and_self,if_true]
 rfl
theorem qF {i:Int}:bB true (.int i) (.list (ts.map .int))=some (.bool (!ts.contains i)):=by
 have h:=vo (ts:=ts) (i:=i)
 unfold bB at h ⊢
 simp only [Ax,G6 zw,Bool.and_self,if_true,Bool.false_eq_true,if_false] at h ⊢
 have h:=Option.some.inj h
 injection h with h
 rw [h]
end KC
namespace T
open PySem PySem.Spec L2
open PyProof.Rows hiding St
variable {α:Type} {b a:Int} {ds:List D} {fl:FL} {fi:FI} {fe:F1} {Γ:Ev}
section
variable {Γ Γ1:Ev} {fa fb fc:F1} {fl:FL} {p:PV} {i n:Nat} {ga gb:FB} {g1 g2:FS}
@[simp] theorem J1:sizeLine=16777216:=rfl
@[simp] theorem zq {β:Type} {a:α} {e:Ev} {k:α->Ev->Out β}:(Out.ok a e).bind k=k a e:=rfl
@[simp] theorem K8 {d:D}:eK d Γ=.ok ⟨.leaf,d⟩ Γ:=rfl
@[simp] theorem K7:af Γ=.ok [] Γ:=rfl
@[simp] theorem JU:aG Γ=.ok true Γ:=rfl
@[simp] theorem JY:aN Γ=.nx Γ:=rfl
@[simp] theorem Ke:ae fa fl Γ=(fa Γ).bind fun p Γ1=>(fl Γ1).bind fun ps Γ2=>.ok (p::ps) Γ2:=rfl
@[simp] theorem Lw {g:D->D->Option D}:aA g fa fb Γ=(fa Γ).bind fun p Γ1=>(fb Γ1).bind fun q Γ2=>match g p.d q.d with | some d=>.ok ⟨.leaf,d⟩ Γ2 | none=>.no:=rfl
@[simp] theorem Ly {g:List D->Option D}:bh g fl Γ=(fl Γ).bind fun ps Γ'=>match g (ps.map (·.d)) with | some d=>.ok ⟨.leaf,d⟩ Γ' | none=>.no:=rfl
@[simp] theorem Lf {g:D->Option Bool}:aF g fa Γ=(fa Γ).bind fun p Γ'=>match g p.d with | some b=>.ok b Γ' | none=>.no:=rfl
@[simp] theorem Kh:bT ga Γ=(ga Γ).bind fun c Γ'=>.ok (!c) Γ':=rfl
@[simp] theorem Ki:fy ga gb Γ=(ga Γ).bind fun c Γ'=>if c then gb Γ' else .ok false Γ':=rfl
@[simp] theorem Le:fF ga gb Γ=(ga Γ).bind fun c Γ'=>if c then .ok true Γ' else gb Γ':=rfl
@[simp] theorem Ld:FX ga fa fb Γ=(ga Γ).bind fun b Γ'=>if b then fa Γ' else fb Γ':=rfl
@[simp] theorem Kc:fm fa fb Γ=(fa Γ).bind fun p Γ=>match p.d with | .bool true=>fb Γ | .bool false=>.ok ⟨.leaf,.bool false⟩ Γ | _=>.no:=rfl
@[simp] theorem o6:av g1 g2 Γ=match g1 Γ with | .nx Γ'=>g2 Γ' | .rt p=>.rt p | .bk Γ'=>.bk Γ' | .ct Γ'=>.ct Γ' | .er c Γ'=>.er c Γ' | .no=>.no:=by
 unfold av
 cases g1 Γ<;>rfl
@[simp] theorem nj {k:PV->Ev->dY}:gj fa k Γ=match fa Γ with | .ok p Γ1=>k p Γ1 | .er c Γ1=>.er c Γ1 | .no=>.no:=by
 unfold gj
 cases fa Γ<;>rfl
@[simp] theorem Lx:cg ga g1 g2 Γ=match ga Γ with | .ok b Γ1=>if b then g1 Γ1 else g2 Γ1 | .er c Γ1=>.er c Γ1 | .no=>.no:=by
 unfold cg
 cases ga Γ<;>rfl
@[simp] theorem HL {b:Bool}:ao (.bool b)=some b:=rfl
@[simp] theorem J8 {b:Bool}:bt (.bool b)=some b:=rfl
@[simp] theorem HJ {xs:List D}:bt (.list xs)=some (!xs.isEmpty):=rfl
noncomputable def HR (p:PV):PV:=match p.s with
 | .leaf=>p
 | _=>⟨.view,p.d⟩
@[simp] theorem K3 {d:D}:HR ⟨.leaf,d⟩=⟨.leaf,d⟩:=rfl
@[simp] theorem K2 {s:Sh} {d:D}:HR ⟨.lst s,d⟩=⟨.view,d⟩:=rfl
@[simp] theorem K1 {s:List Sh} {d:D}:HR ⟨.tup s,d⟩=⟨.view,d⟩:=rfl
@[simp] theorem KZ:aa i Γ=match Γ[i]? with | some (some p)=>.ok (HR p) Γ | _=>.no:=by
 unfold aa
 cases h:Γ[i]? with
 | none=>rfl
 | some o=>
  cases o with
  | none=>rfl
  | some p=>
   obtain ⟨s,d⟩:=p
   cases s<;>rfl
@[simp] theorem JZ:cD i Γ=match Γ[i]? with | some (some p)=>.ok p (Γ.set i none) | _=>.no:=rfl
@[simp] theorem Kf {d:D}:coer .leaf ⟨.leaf,d⟩=true:=rfl
@[simp] theorem HN {s:Sh} {d:D}:coer .leaf ⟨.lst s,d⟩=true:=rfl
@[simp] theorem HM {s:List Sh} {d:D}:coer .leaf ⟨.tup s,d⟩=true:=rfl
@[simp] theorem HP {i:Int} {s:Sh}:coer .leaf ⟨s,.int i⟩=true:=by cases s<;>rfl
@[simp] theorem HQ {b:Bool} {s:Sh}:coer .leaf ⟨s,.bool b⟩=true:=by cases s<;>rfl
@[simp] theorem J6:Sh.isView .leaf=false:=rfl
@[simp] theorem J5 {s:Sh}:Sh.isView (.lst s)=false:=rfl
@[simp] theorem J4 {s:List Sh}:Sh.isView (.tup s)=false:=rfl
@[simp] theorem E9 {own:Bool}:ay own i fa Γ=match fa Γ with | .ok p Γ1=>(if i<Γ1.length then (if own&&!p.s.isView then .nx (Γ1.set i (some p)) else if T.coer .leaf p then .nx (Γ1.set i (some ⟨.leaf,p.d⟩)) else .no) else .no) | .er c Γ1=>.er c Γ1 | .no=>.no:=by
 unfold ay;rw [nj]
@[simp] theorem Fb:aL fa Γ=match fa Γ with | .ok p Γ1=>(if p.s.isView then (if ba p.d then .rt ⟨.leaf,p.d⟩ else .no) else .rt p) | .er c Γ1=>.er c Γ1 | .no=>.no:=by
 unfold aL;rw [nj]
@[simp] theorem Kd:bG fa Γ=match fa Γ with | .ok p Γ1=>.nx Γ1 | .er c Γ1=>.er c Γ1 | .no=>.no:=by
 unfold bG;rw [nj]
@[simp] theorem Kg {den:List D->bz}:aj n den fl Γ=(fl Γ).bind fun ps Γ'=>if ps.length=n then (match den (ps.map (·.d)) with | .ok p=>if ps.all (T.coer .leaf) then .ok p Γ' else if ba p.d then .ok ⟨.leaf,p.d⟩ Γ' else .ok ⟨.view,p.d⟩ Γ' | _=>.no) else .no:=rfl
@[simp] theorem Kb:bu (.int a) (.int b)=some (.int (a+b)):=rfl
@[simp] theorem J9:gSub (.int a) (.int b)=some (.int (a-b)):=rfl
@[simp] theorem Lc:gy (.int a) (.int b)=some (.bool (decide (a<b))):=rfl
@[simp] theorem Fc:eO (.int a) (.int b)=some (.bool (decide (b<a))):=rfl
@[simp] theorem Ka:aM [.list ds]=some (.int ds.length):=rfl
@[simp] theorem HK:aM [.tuple ds]=some (.int ds.length):=rfl
noncomputable def lQ (p q:PV):Ev->Out PV:=ag (fun Γ=>.ok p Γ) (fun Γ=>.ok q Γ)
@[simp] theorem dC:ag fa fb Γ=(fa Γ).bind fun p Γ1=>(fb Γ1).bind fun q Γ2=>lQ p q Γ2:=by
 unfold lQ ag aU
 cases fa Γ with
 | ok p Γ1=>simp only [zq]
 | er c Γ1=>rfl
 | no=>rfl
@[simp] theorem i9 {k:Int} {s:Sh}:lQ ⟨.leaf,.tuple ds⟩ ⟨s,.int k⟩ Γ=match d6 ds k with | some d=>.ok ⟨.leaf,d⟩ Γ | none=>.no:=by
 unfold lQ ag aU d6;simp only [zq]
 cases h:dI ds.length k with
 | none=>rfl
 | some j=>
  simp only [Option.bind_some]
  cases h2:ds[j]? with
  | none=>rfl
  | some d=>rfl
@[simp] theorem ja {k:Int} {s:Sh}:lQ ⟨.leaf,.list ds⟩ ⟨s,.int k⟩ Γ=match d6 ds k with | some d=>.ok ⟨.leaf,d⟩ Γ | none=>.no:=by
 unfold lQ ag aU d6;simp only [zq]
 cases h:dI ds.length k with
 | none=>rfl
 | some j=>
  simp only [Option.bind_some]
  cases h2:ds[j]? with
  | none=>rfl
  | some d=>rfl
@[simp] theorem Lb {k:Int} {s:Sh}:lQ ⟨.view,.list ds⟩ ⟨s,.int k⟩ Γ=match d6 ds k with | some d=>.ok ⟨if ba d then .leaf else .view,d⟩ Γ | none=>.no:=by
 unfold lQ ag aU d6;simp only [zq]
 cases h:dI ds.length k with
 | none=>rfl
 | some j=>
  simp only [Option.bind_some]
  cases h2:ds[j]? with
  | none=>rfl
  | some d=>rfl
@[simp] theorem zT {a:α} {r:List α}:d6 (a::r) 0=some a:=by
 simp [d6,dI]
@[simp] theorem zS {a b:α} {r:List α}:d6 (a::b::r) 1=some b:=by
 have:(1:Int)<(r.length:Int)+1+1:=by omega
 simp [d6,dI,this]
@[simp] theorem zR {a b c:α} {r:List α}:d6 (a::b::c::r) 2=some c:=by
 have:(2:Int)<(r.length:Int)+1+1+1:=by omega
 simp [d6,dI,this]
theorem Az {xs:List α} {k:Nat} {x:α} (h:xs[k]?=some x):d6 xs (k:Int)=some x:=by
 have hk:=(L7 h).1
 have:(k:Int)<(xs.length:Int):=by omega
 simp [d6,dI,this,h]
end
section
variable {Γ:Ev} {fa fb:F1} {i:Nat}
@[simp] theorem K9 {c:String}:iK c fa Γ=(fa Γ).bind fun p Γ=>.ok ⟨.leaf,.bool (vh (A6 p.d) c)⟩ Γ:=rfl
@[simp] theorem J0 {s:Sh}:aV s fl Γ=(fl Γ).bind fun ps Γ'=>if !s.isView&&ps.all (T.coer s)&&decide (ps.length<=sizeLine) then .ok ⟨.lst s,.list (ps.map (·.d))⟩ Γ' else .no:=rfl
@[simp] theorem K0:bI fl Γ=(fl Γ).bind fun ps Γ'=>if ps.all tok&&decide (ps.length<=sizeLine) then .ok ⟨.tup (ps.map xk),.tuple (ps.map (·.d))⟩ Γ' else .no:=rfl
@[simp] theorem JX {d:D}:tok ⟨.leaf,d⟩=true:=rfl
@[simp] theorem JW {s:Sh} {d:D}:tok ⟨.lst s,d⟩=true:=rfl
@[simp] theorem JV {s:List Sh} {d:D}:tok ⟨.tup s,d⟩=true:=rfl
@[simp] theorem La {a:D}:cS false a .none=some (.bool (si a)):=rfl
@[simp] theorem J3 {a:D}:cS true a .none=some (.bool (!si a)):=rfl
@[simp] theorem J7:ax fa Γ=(fa Γ).bind fun p Γ'=>match p.d with | .list ds=>if dj p ds then .ok ⟨ds,!p.s.isView⟩ Γ' else .no | _=>.no:=rfl
@[simp] theorem K6 {d:D}:dj ⟨.leaf,d⟩ ds=true:=rfl
@[simp] theorem K5 {s:Sh} {d:D}:dj ⟨.lst s,d⟩ ds=true:=rfl
@[simp] theorem K4 {s:List Sh} {d:D}:dj ⟨.tup s,d⟩ ds=true:=rfl
@[simp] theorem Lg {f:F1}:i8 i f Γ=match Γ[i]? with | some (some ⟨.leaf,.int a⟩)=>gj f (wj i a) Γ | _=>.no:=rfl
@[simp] theorem Kj {s:Sh}:wj i a ⟨s,.int b⟩ Γ=if i<Γ.length then .nx (Γ.set i (Md (.int (a+b)))) else .no:=rfl
theorem Ex {β:Type} {c:FB} {g:FS} {G:β->Ev} {test:β->Bool} {Inv:β->Prop} {meas:β->Nat} (hc:∀b,Inv b->c (G b)=.ok (test b) (G b)) (hg:∀b,Inv b->test b=true->∃b',g (G b)=.nx (G b')/\Inv b'/\meas b'<meas b) :
  ∀(N:Nat) (b:β),Inv b->meas b<N->∃b',sP c g N (G b)=.nx (G b')/\Inv b'/\test b'=false
 | 0,b,_,h=>by omega
 | N+1,b,hi,hm=>by
  rw [sP,hc b hi]
  cases ht:test b with
  | false=>exact ⟨b,rfl,hi,ht⟩
  | true=>
   obtain ⟨b1,h1,h2,h3⟩:=hg b hi ht;obtain ⟨b',e,q⟩:=Ex hc hg N b1 h2 (by omega)
   refine ⟨b',?_,q⟩
   simp only [h1]
   exact e
theorem wm {fa:F1} {p:PV} (ho:Γ[i]?=some (some ⟨.lst .leaf,.list ds⟩)) (h:fa Γ=.ok p Γ) (hc:coer .leaf p=true) (hn:ds.length<=9000):fA i fa Γ=.nx (Γ.set i (some ⟨.lst .leaf,.list (ds++[p.d])⟩)):=by
 have hb:(10000:Nat)<=sizeLine:=by decide
 unfold fA DF;rw [ho];simp only [if_true,nj,h]
 unfold zh;rw [ho];have:ds.length<sizeLine:=by omega
 simp only [hc,decide_eq_true this,Bool.and_self,if_true]
end
theorem Js {α:Type} {en:α->D} {i:Nat} {fc:FB} {fe:F1} {s:Sh} {c:α->Bool} {f:α->PV} {Γ:Ev} (hΓ:Γ.set i none=Γ):∀(r:List α) (acc:List D),(∀x∈r,fc (Γ.set i (Md (en x)))=.ok (c x) (Γ.set i (Md (en x)))) ->
  (∀x∈r,c x=true->fe (Γ.set i (Md (en x)))=.ok (f x) (Γ.set i (Md (en x)))/\coer s (f x)=true)->acc.length+r.length<=sizeLine->pU i fc fe s (r.map en) Γ acc=.ok (acc++((r.filter c).map fun x=>(f x).d)) Γ
 | [],acc,_,_,_=>by simp [pU]
 | x::r,acc,hc,he,hl=>by
  have h1:=hc x mem_cons_self
  have hl1:acc.length<sizeLine:=by simp only [length_cons] at hl;omega
  have back:(Γ.set i (Md (en x))).set i none=Γ:=by rw [set_set];exact hΓ
  rw [map_cons,pU,h1]
  cases hcd:c x with
  | false=>
   dsimp only;rw [if_pos hl1,back,Js hΓ r acc (fun d hd=>hc d (L5 _ hd)) (fun d hd=>he d (L5 _ hd)) (by simp only [length_cons] at hl;omega)]
   rw [List.filter_cons_of_neg (by rw [hcd];exact Bool.false_ne_true)]
  | true=>
   obtain ⟨h2,h3⟩:=he x mem_cons_self hcd;dsimp only;rw [h2];dsimp only;rw [h3,decide_eq_true hl1,Bool.and_self,if_pos rfl,back,Js hΓ r (acc++[(f x).d]) (fun d hd=>hc d (L5 _ hd)) (fun d hd=>he d (L5 _ hd)) (by simp only [length_cons,length_append,length_nil] at hl ⊢;omega)]
   rw [List.filter_cons_of_pos hcd,map_cons,append_assoc];rfl
theorem ko (en:α->D) (xs:List α) (c:α->Bool) (f:α->PV) {s:Sh} {i:Nat} {fc:FB} {st:Bool} (hi:fi Γ=.ok ⟨xs.map en,st⟩ Γ) (hl:i<Γ.length) (hs:s.isView=false) (hn:xs.length<=10000)
  (hc:∀x∈xs,fc (Γ.set i (Md (en x)))=.ok (c x) (Γ.set i (Md (en x)))) (he:∀x∈xs,c x=true->fe (Γ.set i (Md (en x)))=.ok (f x) (Γ.set i (Md (en x)))/\coer s (f x)=true) :
  aq s i fi fc fe Γ=.ok ⟨.lst s,.list ((xs.filter c).map fun x=>(f x).d)⟩ Γ:=by
 have hb:(10000:Nat)<=sizeLine:=by decide
 unfold aq;rw [hi];unfold Out.bind;dsimp only;rw [Js (c:=c) (f:=f) (by rw [set_set]) xs [] (fun d hd=>by rw [set_set];exact hc d hd) (fun d hd=>by rw [set_set];exact he d hd) (by simp;omega)]
 dsimp only;rw [hs,decide_eq_true hl];simp only [Bool.not_false,Bool.and_self,if_true,nil_append,set_set]
 have:Γ.set i (Γ.getD i none)=Γ:=by
  apply zx
  rw [L1,L0 hl];rfl
 rw [this]
theorem oz (en:α->D) (xs:List α) (f:α->PV) {s:Sh} {i:Nat} {st:Bool} (hi:fi Γ=.ok ⟨xs.map en,st⟩ Γ) (hl:i<Γ.length) (hs:s.isView=false) (hn:xs.length<=10000)
  (he:∀x∈xs,fe (Γ.set i (Md (en x)))=.ok (f x) (Γ.set i (Md (en x)))/\coer s (f x)=true):aq s i fi aG fe Γ=.ok ⟨.lst s,.list (xs.map fun x=>(f x).d)⟩ Γ:=by
 rw [ko (fc:=aG) en xs (fun _=>true) f hi hl hs hn (fun _ _=>rfl) fun x hx _=>he x hx,List.filter_eq_self.mpr fun _ _=>rfl]
theorem IU {α β:Type} (en:α->D) (step:β->α->β) {Inv:β->List α->Prop} {i:Nat} {body:FS} {G:β->Option PV->Ev} (hi:∀b x,i<(G b x).length) (hset:∀b x y,(G b x).set i y=G b y)
  (hb:∀b a r,Inv b (a::r)->body (G b (Md (en a)))=.nx (G (step b a) (Md (en a)))/\Inv (step b a) r):∀(xs:List α) (b:β) (x:Option PV),Inv b xs->∃y,bH i body (xs.map en) (G b x)=.nx (G (xs.foldl step b) y)/\Inv (xs.foldl step b) []
 | [],b,x,h=>⟨x,rfl,h⟩
 | a::r,b,x,h=>by
  obtain ⟨h1,h2⟩:=hb b a r h;obtain ⟨y,e,h3⟩:=IU en step hi hset hb r (step b a) (Md (en a)) h2
  refine ⟨y,?_,h3⟩
  rw [map_cons,bH,if_pos (hi b x),hset,h1];exact e
end T
namespace KC
open PySem PySem.Spec L2 T PySem.SeqAt
open PyProof.Rows hiding St
noncomputable abbrev rm (t:Nat):D:=.int (t:Int)
noncomputable abbrev aw (r:List Nat):D:=.list (r.map rm)
theorem oS {n:Nat}:b6 0 n=(List.range n).map rm:=by
 unfold b6;simp
theorem DE {t:Nat} {r:List Nat}:bB false (rm t) (aw r)=some (.bool (r.contains t)):=by
 have h:=vo (ts:=r.map fun t:Nat=>(t:Int)) (i:=t)
 rw [map_map] at h;refine h.trans ?_
 congr 2
 rw [Bool.eq_iff_iff,contains_iff_mem,contains_iff_mem,mem_map];exact ⟨fun ⟨a,h1,h2⟩=>by rw [<-Int.ofNat_inj.mp h2];exact h1,fun h=>⟨t,h,rfl⟩⟩
theorem Jm {t:Nat} {r:List Nat}:bB true (rm t) (aw r)=some (.bool (!r.contains t)):=by
 have h:=qF (ts:=r.map fun t:Nat=>(t:Int)) (i:=t)
 rw [map_map] at h;refine h.trans ?_
 congr 3
 rw [Bool.eq_iff_iff,contains_iff_mem,contains_iff_mem,mem_map];exact ⟨fun ⟨a,h1,h2⟩=>by rw [<-Int.ofNat_inj.mp h2];exact h1,fun h=>⟨t,h,rfl⟩⟩
structure Wd where
 n:Nat
 os:List D
 m:List (List Str)
 s:List (List Nat)
noncomputable def bw (r:List Str):D:=.list (r.map .str)
noncomputable def Wd.enc (w:Wd):D:=de w.os (w.m.map bw) (w.s.map aw)
structure Wd.Ok (w:Wd):Prop where
 g:Gw (w.n:Int) w.n w.os (w.m.map bw) (w.s.map aw)
 h1:1<=w.n
 h24:w.n<=24
 lm:w.m.length=w.n
 ls:w.s.length=w.n
 st:∀r∈w.s,r≠[]/\r.length<=30/\∀t∈r,t<w.n
 mc:∀r∈w.m,∀c∈r,PyData.strOk c=true
noncomputable def Wd.stp (w:Wd) (r:Nat):List Nat:=w.s.getD r []
noncomputable def Wd.mks (w:Wd) (r:Nat):List Str:=w.m.getD r []
theorem Wd.Ok.at2 {w:Wd} (h:w.Ok) {r:Nat} (hr:r<w.n):d6 (w.s.map aw) (r:Int)=some (aw (w.stp r)):=by
 refine Az ?_
 unfold Wd.stp;rw [getElem?_map,L1,L0 (by rw [h.ls];exact hr)]
 rfl
theorem Wd.Ok.at1 {w:Wd} (h:w.Ok) {r:Nat} (hr:r<w.n):d6 (w.m.map bw) (r:Int)=some (bw (w.mks r)):=by
 refine Az ?_
 unfold Wd.mks;rw [getElem?_map,L1,L0 (by rw [h.lm];exact hr)]
 rfl
theorem Wd.Ok.stp_lt {w:Wd} (h:w.Ok) {r t:Nat} (ht:t∈w.stp r):t<w.n:=by
 unfold Wd.stp at ht;rw [L1] at ht
 cases e:w.s[r]? with
 | none=>rw [e] at ht;simp at ht
 | some x=>rw [e] at ht;exact (h.st x (mem_of_getElem? e)).2.2 t ht
theorem Wd.Ok.stp_ne {w:Wd} (h:w.Ok) {r:Nat} (hr:r<w.n):w.stp r≠[]:=by
 unfold Wd.stp;rw [L1,L0 (by rw [h.ls];exact hr)]
 exact (h.st _ (getElem_mem _)).1
noncomputable def aY:List Str:=["a", "b", "c", "d", "e", "f"]
theorem Au {c:Str} (h:c∈aY):PyData.strOk c=true/\DV (.str c)=true:=by
 unfold aY at h;simp only [mem_cons,not_mem_nil,or_false] at h
 rcases h with rfl | rfl | rfl | rfl | rfl | rfl<;>decide +kernel
end KC
namespace KC
variable {l L thr goal:List Nat} {n a:Nat} {rk:List (Option Nat)} {bs cl:List Bool}
noncomputable def bf (rk:List (Option Nat)) (t:Nat):Option Nat:=rk.getD t none
noncomputable def iJ (any:Bool) (l:List Nat) (P:Nat->Prop):Prop:=if any then ∃t∈l,P t else ∀t∈l,P t
theorem led_t {P:Nat->Prop}:iJ true l P↔∃t∈l,P t:=by unfold iJ;simp
theorem led_f {P:Nat->Prop}:iJ false l P↔∀t∈l,P t:=by unfold iJ;simp
theorem AF {any:Bool} {P Q:Nat->Prop} (h:iJ any l P) (i:∀t∈l,P t->Q t):iJ any l Q:=by
 cases any with
 | true=>obtain ⟨t,ht,hp⟩:=led_t.mp h;exact led_t.mpr ⟨t,ht,i t ht hp⟩
 | false=>exact led_f.mpr fun t ht=>i t ht (led_f.mp h t ht)
structure RightG (n:Nat) (st:Nat->List Nat) (ch:Nat->Bool) (thr goal:List Nat) (rk:List (Option Nat)):Prop where
 len:rk.length=n
 g:∀r,r<n->r∈goal->bf rk r=some 0
 p:∀r k,r<n->r∉goal->bf rk r=some k->0<k/\r∈thr/\iJ (ch r) (st r) fun t=>∃j,bf rk t=some j/\j<k
 z:∀r,r<n->bf rk r=none->r∉goal/\(r∉thr\/¬iJ (ch r) (st r) fun t=>bf rk t≠none)
section
variable {n:Nat} {st:Nat->List Nat} {ch own:Nat->Bool} {thr goal:List Nat} {rk:List (Option Nat)}
theorem RightG.min (h:RightG n st ch thr goal rk) {S:Nat->Prop} (cl:∀r t,t∈st r->t<n) (hg:∀r,r<n->r∈goal->S r) (hs:∀r,r<n->r∈thr->iJ (ch r) (st r) S->S r) {r:Nat} (hr:r<n) (hk:bf rk r≠none):S r:=by
 have key:∀k r,r<n->bf rk r=some k->S r:=by
  intro k;induction k using Nat.strongRecOn with
  | ind k ih=>
   intro r hr hk;by_cases hgo:r∈goal
   ·exact hg r hr hgo
   ·obtain ⟨_,h2,h3⟩:=h.p r k hr hgo hk
    exact hs r hr h2 (AF h3 fun t ht ⟨j,hj,hlt⟩=>ih j hlt t (cl r t ht) hj)
 obtain ⟨k,hk⟩:=Option.ne_none_iff_exists'.mp hk
 exact key k r hr hk
theorem RightG.goal_ok (h:RightG n st ch thr goal rk) {r:Nat} (hr:r<n) (hg:r∈goal):bf rk r≠none:=by rw [h.g r hr hg];simp
theorem RightG.step_ok (h:RightG n st ch thr goal rk) {r:Nat} (hr:r<n) (ht:r∈thr) (hl:iJ (ch r) (st r) fun t=>bf rk t≠none):bf rk r≠none:=fun z=>by
 rcases (h.z r hr z).2 with q | q
 ·exact q ht
 ·exact q hl
end
structure Fr {α:Type} (n:Nat) (st:Nat->List Nat) (R:Nat->Prop) (M:List α) (mk:α->Nat->Prop) (X:Nat->Prop):Prop where
 lt:∀r,X r->r<n
 sub:∀r,X r->R r
 c:∀r,X r->∃t∈st r,X t
 a:∀m∈M,∀S:Nat->Prop,(∀r,X r->mk m r->S r)->(∀r,X r->(∃t∈st r,X t/\S t)->S r)->∀r,X r->S r
noncomputable def Std (n:Nat) (L:List Nat):Prop:=∃q:Nat->Bool,L=(List.range n).filter q
theorem Std.lt (h:Std n L):∀r∈L,r<n:=by
 obtain ⟨q,rfl⟩:=h;intro r hr;exact List.mem_range.mp (List.mem_filter.mp hr).1
theorem Std.len (h:Std n L):L.length<=n:=by
 obtain ⟨q,rfl⟩:=h;exact Nat.le_trans (length_filter_le _ _) (by simp)
theorem Std.filter (h:Std n L) (p:Nat->Bool):Std n (L.filter p):=by
 obtain ⟨q,rfl⟩:=h;exact ⟨fun t=>p t&&q t,List.filter_filter ..⟩
theorem Std.of (q:Nat->Bool):Std n ((List.range n).filter q):=⟨q,rfl⟩
open PySem PySem.Spec L2 T PySem.SeqAt
open PyProof.Rows hiding St
noncomputable def oD:Option Nat->D
 | none=>.none
 | some k=>.int (k:Int)
@[simp] theorem HV (o:Option Nat):si (oD o)=o.isNone:=by cases o<;>rfl
@[simp] theorem HU (o:Option Nat):ba (oD o)=true:=by cases o<;>rfl
noncomputable abbrev fE (rk:List (Option Nat)):D:=.list (rk.map oD)
theorem mG {t:Nat} (h:t<rk.length):d6 (rk.map oD) (t:Int)=some (oD (bf rk t)):=by
 refine Az ?_
 unfold bf;rw [getElem?_map,L1,L0 h];rfl
noncomputable def jV (any:Bool) (bs:List Bool):Bool:=if any then bs.any id else bs.all id
theorem pK:cC true [.list (bs.map .bool)]=some (.bool (bs.any id)):=by
 have h:=IV (any:=true) (xs:=bs) (f:=id)
 show Option.map _ (mS _)=_
 rw [show (bs.map PyData.bool)=bs.map fun x=>PyData.bool (id x) from rfl,h]
 simp
theorem vG:cC false [.list (bs.map .bool)]=some (.bool (bs.all id)):=by
 have h:=IV (any:=true) (xs:=bs) (f:=id)
 show Option.map _ (mS _)=_
 rw [show (bs.map PyData.bool)=bs.map fun x=>PyData.bool (id x) from rfl,h]
 simp
theorem yQ {c:Bool}:di [.bool c,.list (bs.map .bool)]=.ok ⟨.leaf,.bool (jV c bs)⟩:=by
 unfold jV
 cases c<;>simp [di,aC,mh,aR,pK,vG]
structure Wd.Ok0 (w:Wd):Prop where
 lo:w.os.length=w.n
 h24:w.n<=24
 ls:w.s.length=w.n
 st:∀r∈w.s,r.length<=30/\∀t∈r,t<w.n
theorem Wd.Ok.z {w:Wd} (h:w.Ok):w.Ok0:=⟨h.g.lo,h.h24,h.ls,fun r hr=>(h.st r hr).2⟩
theorem Wd.Ok0.at2 {w:Wd} (h:w.Ok0) {r:Nat} (hr:r<w.n):d6 (w.s.map aw) (r:Int)=some (aw (w.stp r)):=by
 refine Az ?_
 unfold Wd.stp;rw [getElem?_map,L1,L0 (by rw [h.ls];exact hr)]
 rfl
theorem Wd.Ok0.stp_lt {w:Wd} (h:w.Ok0) {r t:Nat} (ht:t∈w.stp r):t<w.n:=by
 unfold Wd.stp at ht;rw [L1] at ht
 cases e:w.s[r]? with
 | none=>rw [e] at ht;simp at ht
 | some x=>rw [e] at ht;exact (h.st x (mem_of_getElem? e)).2 t ht
theorem Wd.Ok0.len {w:Wd} (h:w.Ok0) {r:Nat}:(w.stp r).length<=10000:=by
 unfold Wd.stp;rw [L1]
 cases e:w.s[r]? with
 | none=>simp
 | some x=>
  have:=(h.st x (mem_of_getElem? e)).1
  simp only [Option.getD_some]
  omega
noncomputable abbrev mR (cl:List Bool):D:=.list (cl.map .bool)
noncomputable def gG (cl:List Bool) (r:Nat):Bool:=cl.getD r false
theorem Gr {t:Nat} (h:t<cl.length):d6 (cl.map PyData.bool) (t:Int)=some (.bool (gG cl t)):=by
 refine Az ?_
 unfold gG;rw [getElem?_map,L1,L0 h];rfl
noncomputable def u3 (w:Wd) (ch:Nat->Bool) (thr:List Nat) (rk:List (Option Nat)):List Nat:=thr.filter fun r=>(bf rk r).isNone&&jV (ch r) ((w.stp r).map fun t=>(bf rk t).isSome)
theorem vV {w:Wd} (h:w.Ok0) (hcl:cl.length=w.n) (ht:∀r∈thr,r<w.n) (hl:rk.length=w.n) (hn:thr.length<=1000):bO [w.enc,mR cl,aw thr,fE rk]=.ok ⟨.lst .leaf,aw (u3 w (gG cl) thr rk)⟩:=by
 obtain ⟨y,e,_⟩:=IU rm (fun (b:List Nat) r=>if (bf rk r).isNone&&jV (gG cl r) ((w.stp r).map fun t=>(bf rk t).isSome) then b++[r] else b) (Inv:=fun b r=>b.length+r.length<=1000/\∀t∈r,t<w.n) (i:=5)
  (body:=(cg (fy (aF ao (aA (cS false) (ag (aa 3) (aa 5)) (eK .none))) (aF bt (aj 2 di (ae (ag (aa 1) (aa 5)) (ae (aq .leaf 6 (ax (ag (ag (aa 0) (eK (.int 2))) (aa 5))) aG (aA (cS true) (ag (aa 3) (aa 6)) (eK .none))) af))))) (fA 4 (aa 5)) aN))
  (G:=fun b x=>[Md w.enc,Md (mR cl),Md (aw thr),Md (fE rk),some ⟨.lst .leaf,aw b⟩,x,none])
  (fun _ _=>by simp) (fun _ _ _=>by simp) (fun b r rest hI=>by
   obtain ⟨h1,h2⟩:=hI;have hr:r<w.n:=h2 r mem_cons_self
   have a1:=mG (rk:=rk) (t:=r) (by omega)
   have a2:=h.at2 hr
   have a4:=Gr (cl:=cl) (t:=r) (by omega)
   simp only [length_cons] at h1
   have c1:aq .leaf 6 (ax (ag (ag (aa 0) (eK (.int 2))) (aa 5))) aG (aA (cS true) (ag (aa 3) (aa 6)) (eK .none)) [Md w.enc,Md (mR cl),Md (aw thr),Md (fE rk),some ⟨.lst .leaf,aw b⟩,Md (rm r),none]
     = .ok ⟨.lst .leaf,.list ((w.stp r).map fun t=>.bool (bf rk t).isSome)⟩ [Md w.enc,Md (mR cl),Md (aw thr),Md (fE rk),some ⟨.lst .leaf,aw b⟩,Md (rm r),none]:=by
    refine oz rm (w.stp r) (fun t=>⟨.leaf,.bool (bf rk t).isSome⟩) (st:=true) (by simp [Wd.enc,a2]) (by simp) rfl h.len fun t ht=>?_
    have a3:=mG (rk:=rk) (t:=t) (by rw [hl];exact h.stp_lt ht)
    simp [a3]
   have dl:=yQ (c:=gG cl r) (bs:=(w.stp r).map fun t=>(bf rk t).isSome)
   rw [map_map] at dl;have dl:di [.bool (gG cl r),.list ((w.stp r).map fun t=>.bool (bf rk t).isSome)]=.ok ⟨.leaf,.bool (jV (gG cl r) ((w.stp r).map fun t=>(bf rk t).isSome))⟩:=dl
   have ap:fA 4 (aa 5) [Md w.enc,Md (mR cl),Md (aw thr),Md (fE rk),some ⟨.lst .leaf,aw b⟩,Md (rm r),none]=.nx [Md w.enc,Md (mR cl),Md (aw thr),Md (fE rk),some ⟨.lst .leaf,.list (b.map rm++[rm r])⟩,Md (rm r),none]:=
    wm rfl (au rfl) rfl (by simp;omega)
   refine ⟨?_,?_⟩
   ·cases q1:(bf rk r).isNone with
    | false=>simp [a1,q1]
    | true=>
     cases q2:jV (gG cl r) ((w.stp r).map fun t=>(bf rk t).isSome) with
     | false=>simp [a1,a4,q1,c1,dl,q2]
     | true=>simp [a1,a4,q1,c1,dl,q2,ap]
   ·refine ⟨?_,fun t ht=>h2 t (L5 _ ht)⟩
    split
    ·rw [length_append,length_singleton];omega
    ·omega) thr [] none (by simp;exact ⟨hn,ht⟩)
 have ef:∀(l b:List Nat),l.foldl (fun (b:List Nat) r=>if (bf rk r).isNone&&jV (gG cl r) ((w.stp r).map fun t=>(bf rk t).isSome) then b++[r] else b) b=b++u3 w (gG cl) l rk:=by
  intro l;induction l with
  | nil=>intro b;simp [u3]
  | cons r t ih=>
   intro b;rw [List.foldl_cons,ih];unfold u3;rw [filter_cons];split<;>simp
 rw [ef,nil_append] at e;refine aQ ?_
 have e2:=dB (fi:=ax (aa 2)) (Γ:=[Md w.enc,Md (mR cl),Md (aw thr),Md (fE rk),some ⟨.lst .leaf,aw []⟩,none,none]) (br (ds:=thr.map rm) (au rfl) rfl) e
 have e1:ay true 4 (aV .leaf af) (aR 7 [w.enc,mR cl,aw thr,fE rk])=.nx [Md w.enc,Md (mR cl),Md (aw thr),Md (fE rk),some ⟨.lst .leaf,aw []⟩,none,none]:=by simp [aR]
 unfold eF;rw [o6,e1];simp only
 rw [o6,e2];simp
theorem led_iff {any:Bool} {b:Nat->Bool}:jV any (l.map b)=true↔iJ any l fun t=>b t=true:=by
 unfold jV iJ
 cases any<;>simp
noncomputable def cj (rk:List (Option Nat)) (k:Nat) (fr:List Nat):List (Option Nat):=fr.foldl (fun l r=>l.set r (some k)) rk
theorem IY {k:Nat}:∀(fr:List Nat) (rk:List (Option Nat)),(cj rk k fr).length=rk.length
 | [],_=>rfl
 | a::r,rk=>by
  show (cj (rk.set a (some k)) k r).length=_
  rw [IY,length_set]
theorem xy {t:Nat} {o:Option Nat} (h:a<rk.length):bf (rk.set a o) t=if t=a then o else bf rk t:=by
 unfold bf;rw [L1,L1];split
 ·rename_i e;subst e;rw [getElem?_set_self h];rfl
 ·rename_i e;rw [getElem?_set_ne (fun z=>e z.symm)]
theorem oV {k t:Nat}:∀(fr:List Nat) (rk:List (Option Nat)),(∀a∈fr,a<rk.length)->bf (cj rk k fr) t=if t∈fr then some k else bf rk t
 | [],rk,_=>by simp [cj]
 | a::r,rk,h=>by
  show bf (cj (rk.set a (some k)) k r) t=_
  rw [oV r _ (fun b hb=>by rw [length_set];exact h b (L5 _ hb)),xy (h a mem_cons_self)]
  by_cases e1:t∈r
  ·simp [e1]
  ·by_cases e2:t=a
   ·simp [e2]
   ·simp [e1,e2]
noncomputable def bL (rk:List (Option Nat)):Nat:=(rk.filter Option.isNone).length
theorem qH {k:Nat} (h:rk[a]?=some none):bL (rk.set a (some k))+1=bL rk:=by
 induction rk generalizing a with
 | nil=>simp at h
 | cons x r ih=>
  cases a with
  | zero=>
   simp at h
   subst h;simp [bL]
  | succ a=>
   have:=ih (a:=a) (by simpa using h)
   simp only [bL,List.set_cons_succ,filter_cons] at this ⊢
   cases x with
   | none=>simp only [Option.isNone_none,if_true,length_cons];omega
   | some v=>simpa using this
theorem u5 {k:Nat}:bL (rk.set a (some k))<=bL rk:=by
 induction rk generalizing a with
 | nil=>simp [bL]
 | cons x r ih=>
  cases a with
  | zero=>cases x<;>simp [bL]
  | succ a=>
   have:=ih (a:=a)
   simp only [bL,List.set_cons_succ,filter_cons] at this ⊢
   cases x with
   | none=>simp only [Option.isNone_none,if_true,length_cons];omega
   | some v=>simpa using this
theorem e8 {k:Nat}:∀(fr:List Nat) (rk:List (Option Nat)),bL (cj rk k fr)<=bL rk
 | [],_=>Mb _
 | a::r,rk=>Nat.le_trans (e8 r (rk.set a (some k))) u5
theorem qI {k:Nat} {fr:List Nat} (hne:fr≠[]) (h:∀a∈fr,rk[a]?=some none):bL (cj rk k fr)<bL rk:=by
 cases fr with
 | nil=>exact absurd rfl hne
 | cons a r=>
  have h1:=qH (k:=k) (h a mem_cons_self)
  have h2:=e8 (k:=k) r (rk.set a (some k))
  show bL (cj (rk.set a (some k)) k r)<_
  omega
structure RS where
 rk:List (Option Nat)
 k:Nat
 fr:List Nat
 x8:Option PV
structure RI (w:Wd) (ch:Nat->Bool) (thr goal:List Nat) (b:RS):Prop where
 len:b.rk.length=w.n
 frn:∀r∈b.fr,r<w.n/\bf b.rk r=none
 frl:b.fr.length<=1000
 lt:∀r j,bf b.rk r=some j->j<b.k
 zero:b.k=0->b.fr=goal
 g:0<b.k->∀r,r∈goal->bf b.rk r=some 0
 p:∀r j,r<w.n->r∉goal->bf b.rk r=some j->0<j/\r∈thr/\iJ (ch r) (w.stp r) fun t=>∃i,bf b.rk t=some i/\i<j
 nx:0<b.k->b.fr=u3 w ch thr b.rk
 m1:∀r,r∈thr->bf b.rk r=none->¬iJ (ch r) (w.stp r) fun t=>∃i,bf b.rk t=some i/\i+1<b.k
 m2:∀r j,r∉goal->bf b.rk r=some j->¬iJ (ch r) (w.stp r) fun t=>∃i,bf b.rk t=some i/\i+1<j
noncomputable def LM (st:Nat->List Nat) (ch:Nat->Bool) (goal:List Nat) (rk:List (Option Nat)):Prop:=∀r j,r∉goal->bf rk r=some j->¬iJ (ch r) (st r) fun t=>∃i,bf rk t=some i/\i+1<j
theorem RI.right {w:Wd} {ch:Nat->Bool} {b:RS} (hne:∀r∈thr,w.stp r≠[]) (I:RI w ch thr goal b) (he:b.fr=[]):RightG w.n w.stp ch thr goal b.rk:=by
 refine ⟨I.len,fun r hr hg=>?_,I.p,fun r hr hz=>?_⟩
 ·rcases Nat.eq_zero_or_pos b.k with h | h
  ·rw [<-I.zero h,he] at hg;simp at hg
  ·exact I.g h r hg
 ·rcases Nat.eq_zero_or_pos b.k with h | h
  ·have hg:goal=[]:=by rw [<-I.zero h];exact he
   refine ⟨by rw [hg];simp,?_⟩
   by_cases ht:r∈thr
   case neg=>exact .inl ht
   refine .inr fun hl=>?_
   have no:∀t,bf b.rk t=none:=fun t=>by
    cases e:bf b.rk t with
    | none=>rfl
    | some j=>have:=I.lt t j e;omega
   cases hc:ch r with
   | true=>
    rw [hc] at hl;obtain ⟨t,_,z⟩:=led_t.mp hl;exact z (no t)
   | false=>
    rw [hc] at hl;obtain ⟨t,ht'⟩:=exists_mem_of_ne_nil _ (hne r ht);exact led_f.mp hl t ht' (no t)
  ·refine ⟨fun hg=>(by rw [I.g h r hg] at hz;cases hz),?_⟩
   by_cases ht:r∈thr
   ·refine .inr fun hl=>?_
    have hx:=I.nx h
    rw [he] at hx;have:r∈u3 w ch thr b.rk:=by
     unfold u3;refine List.mem_filter.mpr ⟨ht,?_⟩
     rw [hz];simp only [Option.isNone_none,Bool.true_and]
     exact led_iff.mpr (AF hl fun t _ z=>by cases e:bf b.rk t with | none=>exact absurd e z | some j=>rfl)
    rw [<-hx] at this;simp at this
   ·exact .inl ht
theorem RI.step {w:Wd} {ch:Nat->Bool} (hne0:∀r∈thr,w.stp r≠[]) {b:RS} {y:Option PV} (hthr:∀r∈thr,r<w.n) (hl:thr.length<=1000) (I:RI w ch thr goal b) (hne:b.fr≠[]) :
  RI w ch thr goal ⟨cj b.rk b.k b.fr,b.k+1,u3 w ch thr (cj b.rk b.k b.fr),y⟩/\bL (cj b.rk b.k b.fr)<bL b.rk:=by
 have hfl:∀a∈b.fr,a<b.rk.length:=fun a ha=>by rw [I.len];exact (I.frn a ha).1
 have pt:∀t,bf (cj b.rk b.k b.fr) t=if t∈b.fr then some b.k else bf b.rk t:=fun t=>oV _ _ hfl
 refine ⟨⟨by rw [IY];exact I.len,fun r hr=>?_,?_,fun r j e=>?_,fun z=>absurd z (Nat.succ_ne_zero _),fun _ r hg=>?_,fun r j hr hg e=>?_,fun _=>rfl,fun r ht hz hl=>?_,fun r j hg e hl=>?_⟩,qI hne fun a ha=>?_⟩
 ·obtain ⟨h1,h2⟩:=List.mem_filter.mp hr
  simp only [Bool.and_eq_true,Option.isNone_iff_eq_none] at h2
  exact ⟨hthr r h1,h2.1⟩
 ·exact Nat.le_trans (length_filter_le _ _) hl
 ·rw [pt] at e
  show j<b.k+1
  split at e
  ·cases e;omega
  ·have:=I.lt r j e;omega
 ·show bf (cj b.rk b.k b.fr) r=some 0
  rw [pt];rcases Nat.eq_zero_or_pos b.k with h | h
  ·rw [I.zero h,if_pos hg,h]
  ·have:=I.g h r hg
   split
   ·rename_i z;rw [(I.frn r z).2] at this;cases this
   ·exact this
 ·have e:bf (cj b.rk b.k b.fr) r=some j:=e
  rw [pt] at e;split at e
  ·rename_i hm
   cases e;have hk:0<b.k:=by
    rcases Nat.eq_zero_or_pos b.k with h | h
    ·rw [I.zero h] at hm;exact absurd hm hg
    ·exact h
   have hx:=I.nx hk
   rw [hx] at hm;obtain ⟨h1,h2⟩:=List.mem_filter.mp hm;simp only [Bool.and_eq_true] at h2
   refine ⟨hk,h1,AF (led_iff.mp h2.2) fun t _ z=>?_⟩
   cases e:bf b.rk t with
   | none=>rw [e] at z;cases z
   | some i=>
    refine ⟨i,?_,I.lt t i e⟩
    show bf (cj b.rk b.k b.fr) t=_
    rw [pt,if_neg (fun q=>by rw [(I.frn t q).2] at e;cases e),e]
  ·obtain ⟨h1,h2,h3⟩:=I.p r j hr hg e
   refine ⟨h1,h2,AF h3 fun t _ ⟨i,hi,hlt⟩=>⟨i,?_,hlt⟩⟩
   show bf (cj b.rk b.k b.fr) t=_
   rw [pt,if_neg (fun q=>by rw [(I.frn t q).2] at hi;cases hi),hi]
 ·have hz:bf (cj b.rk b.k b.fr) r=none:=hz
  rw [pt] at hz;split at hz
  ·cases hz
  rename_i hf;have hl:iJ (ch r) (w.stp r) fun t=>∃i,bf (cj b.rk b.k b.fr) t=some i/\i+1<b.k+1:=hl
  have hl:iJ (ch r) (w.stp r) fun t=>∃i,bf b.rk t=some i/\i<b.k:=AF hl fun t _ ⟨i,hi,hlt⟩=>by
   rw [pt] at hi;split at hi
   ·cases hi;omega
   ·exact ⟨i,hi,by omega⟩
  rcases Nat.eq_zero_or_pos b.k with h | h
  ·cases hc:ch r with
   | true=>
    rw [hc] at hl;obtain ⟨t,_,i,_,z⟩:=led_t.mp hl;omega
   | false=>
    rw [hc] at hl;obtain ⟨t,ht'⟩:=exists_mem_of_ne_nil _ (hne0 r ht);obtain ⟨i,_,z⟩:=led_f.mp hl t ht'
    omega
  ·refine hf ?_
   rw [I.nx h];refine List.mem_filter.mpr ⟨ht,?_⟩
   rw [hz];simp only [Option.isNone_none,Bool.true_and]
   exact led_iff.mpr (AF hl fun t _ ⟨i,hi,_⟩=>by rw [hi];rfl)
 ·have e:bf (cj b.rk b.k b.fr) r=some j:=e
  have hl:iJ (ch r) (w.stp r) fun t=>∃i,bf (cj b.rk b.k b.fr) t=some i/\i+1<j:=hl
  have hj:j<=b.k:=by
   rw [pt] at e;split at e
   ·cases e;omega
   ·have:=I.lt r j e;omega
  have hl:iJ (ch r) (w.stp r) fun t=>∃i,bf b.rk t=some i/\i+1<j:=AF hl fun t _ ⟨i,hi,hlt⟩=>by
   rw [pt] at hi;split at hi
   ·cases hi;omega
   ·exact ⟨i,hi,hlt⟩
  rw [pt] at e;split at e
  ·rename_i hm
   cases e;have hk:0<b.k:=by
    rcases Nat.eq_zero_or_pos b.k with h | h
    ·rw [I.zero h] at hm;exact absurd hm hg
    ·exact h
   have hm':=hm
   rw [I.nx hk] at hm';exact I.m1 r (List.mem_filter.mp hm').1 (I.frn r hm).2 hl
  ·exact I.m2 r j hg e hl
 ·obtain ⟨h1,h2⟩:=I.frn a ha
  unfold bf at h2;rw [L1,L0 (by rw [I.len];exact h1)] at h2
  rw [L0 (by rw [I.len];exact h1)]
  simpa using h2
noncomputable abbrev GR (w:Wd) (cl:List Bool) (thr goal:List Nat) (b:RS):Ev:=[Md w.enc,Md (mR cl),Md (aw thr),Md (aw goal),some ⟨.lst .leaf,fE b.rk⟩,Md (.int (b.k:Int)),Md (aw b.fr),b.x8,none]
noncomputable abbrev jI:FS:=(av (cR 7 (ax (aa 6))
  (eX 4 (aa 5) (aa 7)))
  (av (i8 5 (eK (.int 1)))
  (ay false 6 (AB 4 bO (ae (aa 0) (ae (aa 1) (ae (aa 2) (ae (aa 4) af))))))))
theorem xx {w:Wd} (ok:w.Ok0) {b:RS} (hcl:cl.length=w.n) (hne0:∀r∈thr,w.stp r≠[]) (hthr:∀r∈thr,r<w.n) (hl:thr.length<=1000) (I:RI w (gG cl) thr goal b) (hne:b.fr≠[]) :
  ∃b',jI (GR w cl thr goal b)=.nx (GR w cl thr goal b')/\RI w (gG cl) thr goal b'/\bL b'.rk<bL b.rk:=by
 obtain ⟨y,e,_⟩:=IU rm (fun (l:List (Option Nat)) r=>l.set r (some b.k)) (Inv:=fun l r=>l.length=w.n/\∀t∈r,t<w.n) (i:=7) (body:=eX 4 (aa 5) (aa 7))
  (G:=fun l x=>[Md w.enc,Md (mR cl),Md (aw thr),Md (aw goal),some ⟨.lst .leaf,fE l⟩,Md (.int (b.k:Int)),Md (aw b.fr),x,none])
  (fun _ _=>by simp) (fun _ _ _=>by simp) (fun l r rest ⟨h1,h2⟩=>by
   have hr:=h2 r mem_cons_self
   refine ⟨?_,by rw [length_set];exact h1,fun t ht=>h2 t (L5 _ ht)⟩
   rw [AR (ds:=l.map oD) (j:=r) (k:=(r:Int)) rfl (au rfl) (au rfl) (As (by rw [length_map,h1];exact hr)) rfl]
   simp [List.map_set,oD]) b.fr b.rk b.x8 ⟨I.len,fun t ht=>(I.frn t ht).1⟩
 obtain ⟨I',hm⟩:=RI.step (y:=y) hne0 hthr hl I hne
 refine ⟨⟨cj b.rk b.k b.fr,b.k+1,u3 w (gG cl) thr (cj b.rk b.k b.fr),y⟩,?_,I',hm⟩
 have e2:=dB (fi:=ax (aa 6)) (Γ:=GR w cl thr goal b) (br (ds:=b.fr.map rm) (au rfl) rfl) e
 have dn:=vV ok (cl:=cl) (thr:=thr) (rk:=cj b.rk b.k b.fr) hcl hthr (by rw [IY];exact I.len) hl
 unfold jI;rw [o6,e2];have fr:nJ ⟨.lst .leaf,aw (u3 w (gG cl) thr (cj b.rk b.k b.fr))⟩=true:=by
  unfold nJ;simp [ba]
 have ec:∀Γ:Ev,Γ=[Md w.enc,Md (mR cl),Md (aw thr),Md (aw goal),some ⟨.lst .leaf,fE (cj b.rk b.k b.fr)⟩,Md (.int ((b.k:Int)+1)),Md (aw b.fr),y,none] ->
   AB 4 bO (ae (aa 0) (ae (aa 1) (ae (aa 2) (ae (aa 4) af)))) Γ=.ok ⟨.lst .leaf,aw (u3 w (gG cl) thr (cj b.rk b.k b.fr))⟩ Γ:=fun Γ hΓ=>by
  subst hΓ;unfold AB;simp [dn,fr]
 have pu:b.fr.foldl (fun l r=>l.set r (some b.k)) b.rk=cj b.rk b.k b.fr:=rfl
 rw [pu];simp [ec _ rfl]
theorem fo {w:Wd} (ok:w.Ok0) (hcl:cl.length=w.n) (hne0:∀r∈thr,w.stp r≠[]) (hthr:∀r∈thr,r<w.n) (hl:thr.length<=1000) (hgoal:∀r∈goal,r<w.n) (hgl:goal.length<=1000) :
  ∃rk,eN [w.enc,mR cl,aw thr,aw goal]=.ok ⟨.lst .leaf,fE rk⟩/\RightG w.n w.stp (gG cl) thr goal rk/\LM w.stp (gG cl) goal rk:=by
 have lo:=ok.lo
 have h24:=ok.h24
 have i0:RI w (gG cl) thr goal ⟨w.os.map fun _=>none,0,goal,none⟩:=by
  have z:∀r,bf (w.os.map fun _=>none) r=none:=fun r=>by
   unfold bf;rw [L1,getElem?_map]
   cases w.os[r]?<;>rfl
  refine ⟨by simp [lo],fun r hr=>⟨hgoal r hr,z r⟩,hgl,fun r j e=>(by rw [z] at e;cases e),fun _=>rfl,fun h=>absurd h (by simp),fun r j _ _ e=>(by rw [z] at e;cases e),fun h=>absurd h (by simp),fun r ht _ hl=>?_,fun r j _ e=>(by rw [z] at e;cases e)⟩
  have hl:iJ (gG cl r) (w.stp r) fun t=>∃i,bf (w.os.map fun _=>none) t=some i/\i+1<0:=hl
  cases hc:gG cl r with
  | true=>
   rw [hc] at hl;obtain ⟨t,_,i,_,z⟩:=led_t.mp hl;omega
  | false=>
   rw [hc] at hl;obtain ⟨t,ht'⟩:=exists_mem_of_ne_nil _ (hne0 r ht);obtain ⟨i,_,z⟩:=led_f.mp hl t ht'
   omega
 obtain ⟨b',e,I,hf⟩:=Ex (c:=aF bt (aa 6)) (g:=jI) (G:=GR w cl thr goal) (test:=fun b=>!b.fr.isEmpty) (Inv:=RI w (gG cl) thr goal) (meas:=fun b=>bL b.rk) (fun b I=>by simp) (fun b I hb=>xx ok hcl hne0 hthr hl I (by intro z;rw [z] at hb;simp at hb)) 1000 _ i0 (by
  have:bL (w.os.map fun _=>none)<=w.os.length:=by unfold bL;exact Nat.le_trans (length_filter_le _ _) (by simp)
  show bL (w.os.map fun _=>none)<1000
  omega)
 refine ⟨b'.rk,?_,I.right hne0 (by simpa using hf),I.m2⟩
 refine aQ ?_
 have co:∀Γ:Ev,Γ.length=9->Γ[0]?=some (Md w.enc)->aq .leaf 8 (ax (ag (aa 0) (eK (.int 0)))) aG (eK .none) Γ=.ok ⟨.lst .leaf,.list (w.os.map fun _=>.none)⟩ Γ:=fun Γ h1 h2=>by
  have:=oz (fun d:D=>d) w.os (fun _=>⟨.leaf,.none⟩) (s:=.leaf) (i:=8) (fi:=ax (ag (aa 0) (eK (.int 0)))) (fe:=eK .none) (st:=true) (Γ:=Γ) (by simp [h2,Wd.enc]) (by omega) rfl (by omega) (fun x hx=>by simp)
  simpa using this
 have e:sP (aF bt (aa 6)) jI 1000 [Md w.enc,Md (mR cl),Md (aw thr),Md (aw goal),some ⟨.lst .leaf,.list (w.os.map fun _=>.none)⟩,Md (.int 0),Md (aw goal),none,none]=.nx (GR w cl thr goal b'):=by
  have q:fE (w.os.map fun _=>none)=.list (w.os.map fun _=>.none):=by
   unfold fE;rw [map_map];rfl
  rw [<-q];exact e
 unfold hV;rw [o6,E9,co _ rfl rfl];simp [aR]
 unfold sL;rw [e];simp
theorem GM {c:Str} {r:List Str} (hc:PyData.strOk c=true) (h:∀x∈r,PyData.strOk x=true):bB false (.str c) (bw r)=some (.bool (r.contains c)):=by
 have hs:ig (r.map PyData.str):=fun a ha=>by
  obtain ⟨x,hx,rfl⟩:=List.mem_map.mp ha;exact ⟨x,rfl,h x hx⟩
 rw [bw,CJ hc hs];congr 2
 unfold has;simp only [List.any_map]
 rw [Bool.eq_iff_iff,any_eq_true,contains_iff_mem];constructor
 ·rintro ⟨x,hx,e⟩
  have:PyData.eqv (.str x) (.str c)=true:=e
  have:x=c:=by simpa [PyData.eqv] using this
  rw [<-this];exact hx
 ·intro hx
  exact ⟨c,hx,by show PyData.eqv (.str c) (.str c)=true;simp [PyData.eqv]⟩
theorem JK {Γ Γ1:Ev} {fl:FL} {ps:List PV} {k:Int} (hl:fl Γ=.ok ps Γ1) (hp:ps.map (·.d)=[.int k]) (h0:0<=k) (h1:k<=1000):Df fl Γ=.ok ⟨.lst .leaf,.list (b6 0 k.toNat)⟩ Γ1:=by
 have h3:cN k=true:=CH (by omega) (by omega)
 have hb:=Es
 have h4:k<=(sizeLine:Int):=by omega
 unfold Df;rw [hl];simp only [Out.bind,hp,iC,h3,if_true,h4]
theorem Wd.Ok.check {w:Wd} (ok:w.Ok):aB [w.enc]=.ok ⟨.leaf,.none⟩:=rH (ok.g.wk (b:=24) ok.h24) (by omega) (ok.g.isW ok.h1 ok.h24)
end KC
namespace T
open PySem PySem.Spec L2
open PyProof.Rows hiding St
variable {Γ:Ev} {fb:F1}
theorem AK {α:Type} (en:α->D) {i:Nat} {body:FS} {Inv:List α->Ev->Prop} (hb:∀a r Γ,Inv (a::r) Γ->i<Γ.length/\∃Γ',body (Γ.set i (Md (en a)))=.nx Γ'/\Inv r Γ'):∀(xs:List α) (Γ:Ev),Inv xs Γ->∃Γ',bH i body (xs.map en) Γ=.nx Γ'/\Inv [] Γ'
 | [],Γ,h=>⟨Γ,rfl,h⟩
 | a::r,Γ,h=>by
  obtain ⟨hi,Γ1,h1,h2⟩:=hb a r Γ h;obtain ⟨Γ2,e,h3⟩:=AK en hb r Γ1 h2;refine ⟨Γ2,?_,h3⟩
  rw [map_cons,bH,if_pos hi,h1];exact e
theorem AZ {i j:Nat} {s:Sh} {k:Int} {ds:List D} {d:D} (ho:Γ[i]?=some (some ⟨.lst .leaf,.list ds⟩)) (hb:fb Γ=.ok ⟨s,.int k⟩ Γ) (hi:dI ds.length k=some j) (hd:ds[j]?=some d):bY i fb Γ=.ok ⟨.leaf,d⟩ Γ:=by
 unfold bY pV;rw [ho];simp only [if_true,hb,zq]
 unfold yr;rw [ho];simp only [hi,hd]
theorem oC {Γ1 Γ2:Ev} {fa:F1} {s s':Sh} {xs ys:List D} (ha:fa Γ=.ok ⟨s,.list xs⟩ Γ1) (hb:fb Γ1=.ok ⟨s',.list ys⟩ Γ2) (h1:dj ⟨s,.list xs⟩ xs=true) (h2:dj ⟨s',.list ys⟩ ys=true) (hn:xs.length+ys.length<=10000):dJ fa fb Γ=.ok ⟨.lst .leaf,.list (xs++ys)⟩ Γ2:=by
 have hb':(10000:Nat)<=sizeLine:=by decide
 have:xs.length+ys.length<=sizeLine:=Nat.le_trans hn hb'
 unfold dJ aU;rw [ha];simp only [zq]
 rw [hb];simp only [zq,h1,h2,decide_eq_true this,Bool.and_self,if_true]
end T
namespace KC
open PySem PySem.Spec L2 T PySem.SeqAt
open PyProof.Rows hiding St
theorem EJ {n:Nat} {os ms ss:List D} (g:Gw (n:Int) n os ms ss) (h1:1<=n) (h24:n<=24):∃w:Wd,w.Ok/\w.enc=de os ms ss/\w.n=n:=by
 have hm:∀l:List D,(∀r∈l,∃xs,r=.list xs/\ig xs)->∃M:List (List Str),l=M.map bw/\∀r∈M,∀c∈r,PyData.strOk c=true:=by
  have one:∀xs:List D,ig xs->∃r:List Str,xs=r.map .str/\∀c∈r,PyData.strOk c=true:=by
   intro xs;induction xs with
   | nil=>intro _;exact ⟨[],rfl,by simp⟩
   | cons a r ih=>
    intro h;obtain ⟨x,rfl,hx⟩:=h a mem_cons_self;obtain ⟨t,rfl,ht⟩:=ih fun b hb=>h b (L5 _ hb)
    exact ⟨x::t,rfl,fun c hc=>(LZ hc).elim (fun e=>by rw [e];exact hx) (ht c)⟩
  intro l;induction l with
  | nil=>intro _;exact ⟨[],rfl,by simp⟩
  | cons a r ih=>
   intro h;obtain ⟨xs,rfl,hx⟩:=h a mem_cons_self;obtain ⟨x,rfl,hx2⟩:=one xs hx;obtain ⟨M,rfl,hM⟩:=ih fun b hb=>h b (L5 _ hb)
   exact ⟨x::M,rfl,fun c hc=>(LZ hc).elim (fun e=>by rw [e];exact hx2) (hM c)⟩
 have hs:∀l:List D,(∀r∈l,∃ts:List Int,r=.list (ts.map .int)/\ts.length<=30/\ts≠[]/\(∀t∈ts,0<=t/\t<(n:Int))/\ts.Pairwise (· < ·))->∃S:List (List Nat),l=S.map aw/\∀r∈S,r≠[]/\r.length<=30/\∀t∈r,t<n:=by
  have one:∀ts:List Int,(∀t∈ts,0<=t/\t<(n:Int))->∃r:List Nat,ts.map PyData.int=r.map rm/\r.length=ts.length/\∀t∈r,t<n:=by
   intro ts;induction ts with
   | nil=>intro _;exact ⟨[],rfl,rfl,by simp⟩
   | cons a r ih=>
    intro h;have ha:=h a mem_cons_self
    obtain ⟨t,e,el,ht⟩:=ih fun b hb=>h b (L5 _ hb)
    refine ⟨a.toNat::t,?_,by simp [el],fun c hc=>(LZ hc).elim (fun e=>by omega) (ht c)⟩
    rw [map_cons,map_cons,e];congr 2
    omega
  intro l;induction l with
  | nil=>intro _;exact ⟨[],rfl,by simp⟩
  | cons a r ih=>
   intro h;obtain ⟨ts,rfl,t1,t2,t3,_⟩:=h a mem_cons_self;obtain ⟨x,e,el,hx⟩:=one ts t3;obtain ⟨S,rfl,hS⟩:=ih fun b hb=>h b (L5 _ hb)
   refine ⟨x::S,by rw [map_cons,e],fun c hc=>(LZ hc).elim (fun e=>by
    subst e;exact ⟨fun z=>t2 (List.length_eq_zero_iff.mp (by rw [<-el,z];rfl)),by omega,hx⟩) (hS c)⟩
 obtain ⟨M,eM,hM⟩:=hm ms fun r hr=>let ⟨xs,a,b,_⟩:=g.m r hr;⟨xs,a,b⟩
 obtain ⟨S,eS,hS⟩:=hs ss g.s;subst eM eS;refine ⟨⟨n,os,M,S⟩,⟨g,h1,h24,?_,?_,hS,hM⟩,rfl,rfl⟩
 ·have:=g.lm;simpa using this
 ·have:=g.ls;simpa using this
theorem g5 (l:List Int):sf (l.map .int)=some l:=by
 induction l with
 | nil=>rfl
 | cons a r ih=>rw [map_cons,sf,ih];rfl
end KC
namespace KQ
open PySem PySem.Spec L2 T PySem.SeqAt KC
open PyProof.Rows hiding St
variable {at' lim:Int}
noncomputable def j3:FS:=(av (ay false 3 (aA bu (eK (.int 1)) (aA gw (aj 2 bc (ae (aa 0) (ae (aa 1) af))) (aa 2))))
  (av (ay true 4 (aV .leaf af))
  (av (ay true 5 (aV .leaf af))
  (av (ay true 6 (aV .leaf af))
  (av (cR 7 (lR (ae (aa 3) af))
  (av (ay false 8 (aj 2 bc (ae (aa 0) (ae (aA bu (aA bu (aa 1) (eK (.int 1))) (aa 7)) af))))
  (av (fA 4 (aj 3 aD (ae (aa 8) (ae (eK (.int 0)) (ae (eK (.int 2)) af)))))
  (av (fA 5 (aq .leaf 11 (fh "abc") (aF ao (aA gz (aj 3 aD (ae (aa 8) (ae (aA bu (eK (.int 1)) (bh (dU "abc") (ae (aa 11) af))) (ae (eK (.int 2)) af)))) (eK (.int 1)))) (aa 11)))
  (av (ay false 9 (aq .leaf 10 (lR (ae (aa 3) af)) (aF ao (aA gz (aj 3 aD (ae (aa 8) (ae (aA bu (eK (.int 4)) (aa 10)) (ae (aA bu (eK (.int 2)) (bh vE (ae (aA eO (aa 3) (eK (.int 3))) af))) af)))) (eK (.int 1)))) (aa 10)))
  (av (cg (aF ao (aA gz (aa 9) (aV .leaf af))) (ay false 9 (aV .leaf (ae (aj 3 aD (ae (aa 8) (ae (aA bu (eK (.int 4)) (aa 3)) (ae (aa 3) af)))) af))) aN)
  (fA 6 (aa 9))))))))
  (aL (bI (ae (cD 4) (ae (cD 5) (ae (cD 6) af))))))))))
noncomputable def dv:List Mc->bz:=aC 12 j3
noncomputable abbrev eW:FS:=(av (ay false 8 (aj 2 bc (ae (aa 0) (ae (aA bu (aA bu (aa 1) (eK (.int 1))) (aa 7)) af))))
  (av (fA 4 (aj 3 aD (ae (aa 8) (ae (eK (.int 0)) (ae (eK (.int 2)) af)))))
  (av (fA 5 (aq .leaf 11 (fh "abc") (aF ao (aA gz (aj 3 aD (ae (aa 8) (ae (aA bu (eK (.int 1)) (bh (dU "abc") (ae (aa 11) af))) (ae (eK (.int 2)) af)))) (eK (.int 1)))) (aa 11)))
  (av (ay false 9 (aq .leaf 10 (lR (ae (aa 3) af)) (aF ao (aA gz (aj 3 aD (ae (aa 8) (ae (aA bu (eK (.int 4)) (aa 10)) (ae (aA bu (eK (.int 2)) (bh vE (ae (aA eO (aa 3) (eK (.int 3))) af))) af)))) (eK (.int 1)))) (aa 10)))
  (av (cg (aF ao (aA gz (aa 9) (aV .leaf af))) (ay false 9 (aV .leaf (ae (aj 3 aD (ae (aa 8) (ae (aA bu (eK (.int 4)) (aa 3)) (ae (aa 3) af)))) af))) aN)
  (fA 6 (aa 9)))))))
noncomputable def pE (k:Nat):D:=.str ⟨#[97+k]⟩
theorem mH {Γ:Ev}:fh "abc" Γ=.ok ⟨[0,1,2].map pE,true⟩ Γ:=by
 have:Gh "abc"=[0,1,2].map pE:=by kernel_rfl
 unfold fh;rw [this]
theorem Ik {k:Nat} (h:k∈[0,1,2]):k<3:=by
 simp at h
 omega
theorem vb {k:Nat} (h:k∈[0,1,2]):dU "abc" [pE k]=some (.int (k:Int)):=by
 simp at h
 rcases h with rfl | rfl | rfl<;>kernel_rfl
theorem om {xs os ms ss:List D} {many:Int} {n:Nat} {x8 x9:Option PV} (hx:gJ xs) (ha:0<=at') (hm:1<=many) (hm2:many<=24) (h:Gw many n os ms ss) (hn:n<=30) {r:Nat} :
  ∃os' ms' ss' x8' x9',eW [Md (.list xs),Md (.int at'),Md (.int lim),Md (.int many),some ⟨.lst .leaf,.list os⟩,some ⟨.lst .leaf,.list ms⟩,some ⟨.lst .leaf,.list ss⟩,Md (.int (r:Nat)),x8,x9,none,none]
   = .nx [Md (.list xs),Md (.int at'),Md (.int lim),Md (.int many),some ⟨.lst .leaf,.list os'⟩,some ⟨.lst .leaf,.list ms'⟩,some ⟨.lst .leaf,.list ss'⟩,Md (.int (r:Nat)),x8',x9',none,none]/\Gw many (n+1) os' ms' ss':=by
 obtain ⟨c,hc⟩:=Hd hx (k:=at'+1+(r:Int)) (by omega)
 have lo:=h.lo
 have lm:=h.lm
 have ls:=h.ls
 have c5:∀(Γ:Ev),Γ.length=12->Γ[8]?=some (Md (.int c))->(aq .leaf 11 (fh "abc") (aF ao (aA gz (aj 3 aD (ae (aa 8) (ae (aA bu (eK (.int 1)) (bh (dU "abc") (ae (aa 11) af))) (ae (eK (.int 2)) af)))) (eK (.int 1)))) (aa 11)) Γ
   = .ok ⟨.lst .leaf,.list (([0,1,2].filter fun k:Nat=>dE c (1+(k:Int)) 2==1).map pE)⟩ Γ:=fun Γ hl h8=>by
  refine ko pE [0,1,2] (fun k:Nat=>dE c (1+(k:Int)) 2==1) (fun k=>⟨.leaf,pE k⟩) (st:=true) mH (by omega) rfl (by simp) (fun k hk=>?_) fun k hk _=>?_
  ·have g11:(Γ.set 11 (Md (pE k)))[11]?=some (Md (pE k)):=by rw [getElem?_set_self (by omega)]
   have g8:(Γ.set 11 (Md (pE k)))[8]?=some (Md (.int c)):=by rw [getElem?_set_ne (by omega)];exact h8
   exact cZ (aE (b7 (az (au g8) (az (aE bg (bF (az (au g11) ak) (vb hk)) add_int') (az bg ak))) (DG (by omega) (by have:=Ik hk;omega) (by omega) (by omega)) rfl rfl) bg eq_int)
  ·exact ⟨au (by rw [getElem?_set_self (by omega)]),rfl⟩
 generalize hM:(([0,1,2].filter fun k:Nat=>dE c (1+(k:Int)) 2==1).map pE)=M at c5
 have rM:ig M/\M.length<=30/\DT (.list M)=true:=by
  refine ⟨?_,?_,?_⟩
  ·rw [<-hM]
   intro a ha;obtain ⟨k,hk,rfl⟩:=List.mem_map.mp ha;have:=Ik (List.mem_filter.mp hk).1
   exact ⟨_,rfl,ll (by omega)⟩
  ·rw [<-hM,length_map]
   exact Nat.le_trans (length_filter_le _ _) (by simp)
  ·rw [<-hM]
   simp only [filter_cons,List.filter_nil]
   have:=Kq (dE c (1+((0:Nat):Int)) 2==1) (dE c (1+((1:Nat):Int)) 2==1) (dE c (1+((2:Nat):Int)) 2==1)
   revert this
   cases (dE c (1+((0:Nat):Int)) 2==1)<;>cases (dE c (1+((1:Nat):Int)) 2==1)<;>cases (dE c (1+((2:Nat):Int)) 2==1)<;>exact fun h=>h
 have c6:∀(Γ:Ev),Γ.length=12->Γ[8]?=some (Md (.int c))->Γ[3]?=some (Md (.int many))->aq .leaf 10 (lR (ae (aa 3) af)) (aF ao (aA gz (aj 3 aD (ae (aa 8) (ae (aA bu (eK (.int 4)) (aa 10)) (ae (aA bu (eK (.int 2)) (bh vE (ae (aA eO (aa 3) (eK (.int 3))) af))) af)))) (eK (.int 1)))) (aa 10) Γ
   = .ok ⟨.lst .leaf,.list (((b6 0 many.toNat).filter fun d=>match d with | .int k=>dE c (4+k) (2+(if decide (3<many) then 1 else 0))==1 | _=>false).map fun d=>d)⟩ Γ:=fun Γ hl h8 h3=>by
  refine hJ (c:=fun d=>match d with | .int k=>dE c (4+k) (2+(if decide (3<many) then 1 else 0))==1 | _=>false) (f:=fun d=>⟨.leaf,d⟩) (st:=true) (xc (k:=many) (az (au h3) ak) rfl (by omega) (by omega)) (by omega) rfl (by rw [G5];omega) (fun d hd=>?_) fun d hd _=>?_
  ·obtain ⟨k,hk,rfl⟩:=Ej hd
   have g10:(Γ.set 10 (Md (.int (0+(k:Int)))))[10]?=some (Md (.int (0+(k:Int)))):=by rw [getElem?_set_self (by omega)]
   have g8:(Γ.set 10 (Md (.int (0+(k:Int)))))[8]?=some (Md (.int c)):=by rw [getElem?_set_ne (by omega)];exact h8
   have g3:(Γ.set 10 (Md (.int (0+(k:Int)))))[3]?=some (Md (.int many)):=by rw [getElem?_set_ne (by omega)];exact h3
   have b1:(1:Int)<=2+(if decide (3<many) then 1 else 0)/\(2:Int)+(if decide (3<many) then 1 else 0)<=1000:=by split<;>omega
   exact cZ (aE (b7 (az (au g8) (az (aE bg (au g10) add_int') (az (aE bg (bF (az (aE (au g3) bg rfl) ak) rfl) add_int') ak))) (DG (by omega) (by omega) b1.1 b1.2) rfl rfl) bg eq_int)
  ·obtain ⟨k,hk,rfl⟩:=Ej hd
   exact ⟨au (by rw [getElem?_set_self (by omega)]),rfl⟩
 obtain ⟨ts,hT,hts1,hts2,hts3⟩:=Bo many.toNat (fun d=>match d with | .int k=>dE c (4+k) (2+(if decide (3<many) then 1 else 0))==1 | _=>false)
 rw [hT] at c6;have fin:∀(Γ:Ev) (T:List Int),(T.length<=30/\T≠[]/\(∀t∈T,0<=t/\t<many)/\T.Pairwise (· < ·))->Γ=[Md (.list xs),Md (.int at'),Md (.int lim),Md (.int many),some ⟨.lst .leaf,.list (os++[.int (dE c 0 2)])⟩,some ⟨.lst .leaf,.list (ms++[.list M])⟩,some ⟨.lst .leaf,.list ss⟩,Md (.int (r:Nat)),Md (.int c),Md (.list (T.map .int)),none,none] ->
   ∃os' ms' ss' x8' x9',fA 6 (aa 9) Γ=.nx [Md (.list xs),Md (.int at'),Md (.int lim),Md (.int many),some ⟨.lst .leaf,.list os'⟩,some ⟨.lst .leaf,.list ms'⟩,some ⟨.lst .leaf,.list ss'⟩,Md (.int (r:Nat)),x8',x9',none,none]/\Gw many (n+1) os' ms' ss':=fun Γ T hT2 hΓ=>by
  subst hΓ;refine ⟨os++[.int (dE c 0 2)],ms++[.list M],ss++[.list (T.map .int)],_,_,DM rfl (au rfl) rfl (by omega),by simp;omega,by simp;omega,by simp;omega,fun a ha=>?_,fun a ha=>?_,fun a ha=>?_⟩
  ·rcases LX ha with z | z
   ·exact h.o a z
   ·have:=vR (c:=c) (k:=0) (b:=2) (by omega) (by omega) (by omega) (by omega)
    rw [List.mem_singleton.mp z];rcases (by omega:dE c 0 2=0\/dE c 0 2=1) with e | e
    ·exact .inl (by rw [e])
    ·exact .inr (by rw [e])
  ·rcases LX ha with z | z
   ·exact h.m a z
   ·exact ⟨M,List.mem_singleton.mp z,rM.1,rM.2.1,by rw [List.mem_singleton.mp z];exact rM.2.2⟩
  ·rcases LX ha with z | z
   ·exact h.s a z
   ·exact ⟨T,List.mem_singleton.mp z,hT2⟩
 have e1:=cY (i:=8) (b7 (fl:=ae (aa 0) (ae (aA bu (aA bu (aa 1) (eK (.int 1))) (aa 7)) af)) (Γ:=[Md (.list xs),Md (.int at'),Md (.int lim),Md (.int many),some ⟨.lst .leaf,.list os⟩,some ⟨.lst .leaf,.list ms⟩,some ⟨.lst .leaf,.list ss⟩,Md (.int (r:Nat)),x8,x9,none,none]) (az (au rfl) (az (aE (aE (au rfl) bg add_int') (au rfl) add_int') ak)) hc rfl rfl) rfl (by simp)
 have e2:fA 4 (aj 3 aD (ae (aa 8) (ae (eK (.int 0)) (ae (eK (.int 2)) af)))) [Md (.list xs),Md (.int at'),Md (.int lim),Md (.int many),some ⟨.lst .leaf,.list os⟩,some ⟨.lst .leaf,.list ms⟩,some ⟨.lst .leaf,.list ss⟩,Md (.int (r:Nat)),Md (.int c),x9,none,none]=_:=
  DM rfl (b7 (az (au rfl) (az bg (az bg ak))) (DG (by omega) (by omega) (by omega) (by omega)) rfl rfl) rfl (by omega)
 have e3:=DM (i:=5) (Γ:=[Md (.list xs),Md (.int at'),Md (.int lim),Md (.int many),some ⟨.lst .leaf,.list (os++[.int (dE c 0 2)])⟩,some ⟨.lst .leaf,.list ms⟩,some ⟨.lst .leaf,.list ss⟩,Md (.int (r:Nat)),Md (.int c),x9,none,none]) rfl (c5 _ rfl rfl) rfl (by omega)
 have e4:=cY (i:=9) (Γ:=[Md (.list xs),Md (.int at'),Md (.int lim),Md (.int many),some ⟨.lst .leaf,.list (os++[.int (dE c 0 2)])⟩,some ⟨.lst .leaf,.list (ms++[.list M])⟩,some ⟨.lst .leaf,.list ss⟩,Md (.int (r:Nat)),Md (.int c),x9,none,none]) (c6 _ rfl rfl rfl) rfl (by simp)
 have t:aF ao (aA gz (aa 9) (aV .leaf af)) [Md (.list xs),Md (.int at'),Md (.int lim),Md (.int many),some ⟨.lst .leaf,.list (os++[.int (dE c 0 2)])⟩,some ⟨.lst .leaf,.list (ms++[.list M])⟩,some ⟨.lst .leaf,.list ss⟩,Md (.int (r:Nat)),Md (.int c),Md (.list (ts.map .int)),none,none]
   = .ok (decide ((ts.map PyData.int).length=0)) _:=cZ (aE (au rfl) (mU (s:=.leaf) ak rfl rfl rfl) (De (G6 zw)))
 cases hz:decide ((ts.map PyData.int).length=0) with
 | true=>
  rw [hz] at t;obtain ⟨o',m',s',y8,y9,f1,f2⟩:=fin _ [dE c (4+many) many] ⟨by simp,by simp,fun t ht=>by rw [List.mem_singleton.mp ht];exact vR (by omega) (by omega) (by omega) (by omega),List.pairwise_singleton _ _⟩ rfl
  exact ⟨o',m',s',y8,y9,ar e1 (ar e2 (ar e3 (ar e4 (ar (bN t (fun _=>cY (mU (s:=.leaf) (az (b7 (az (au rfl) (az (aE bg (au rfl) add_int') (az (au rfl) ak))) (DG (by omega) (by omega) (by omega) (by omega)) rfl rfl) ak) rfl rfl rfl) rfl (by simp)) nofun) f1)))),f2⟩
 | false=>
  rw [hz] at t;obtain ⟨o',m',s',y8,y9,f1,f2⟩:=fin _ ts ⟨by omega,(fun z=>by rw [z] at hz;cases hz),(fun t ht=>by have:=hts1 t ht;omega),hts2⟩ rfl
  exact ⟨o',m',s',y8,y9,ar e1 (ar e2 (ar e3 (ar e4 (ar (bN t nofun (fun _=>rfl)) f1)))),f2⟩
theorem rh {xs:List D} (hx:gJ xs) (ha:0<=at') (hl:1<=lim) (hl2:lim<=24):∃(n:Nat) (os ms ss:List D),dv [.list xs,.int at',.int lim]=.ok ⟨W3,de os ms ss⟩/\Gw (n:Int) n os ms ss/\1<=n/\(n:Int)<=lim:=by
 obtain ⟨c,hc⟩:=Hd hx (k:=at') ha
 have b0:0<=c % lim:=Int.emod_nonneg _ (by omega)
 have b1:c % lim<lim:=Int.emod_lt_of_pos _ (by omega)
 generalize hmm:1+c % lim=many at *
 have e0:ay false 3 (aA bu (eK (.int 1)) (aA gw (aj 2 bc (ae (aa 0) (ae (aa 1) af))) (aa 2))) [Md (.list xs),Md (.int at'),Md (.int lim),none,none,none,none,none,none,none,none,none]
   = .nx [Md (.list xs),Md (.int at'),Md (.int lim),Md (.int many),none,none,none,none,none,none,none,none]:=by
  rw [<-hmm];exact cY (aE bg (aE (b7 (az (au rfl) (az (au rfl) ak)) hc rfl rfl) (au rfl) (mod_i (by omega))) add_int') rfl (by simp)
 obtain ⟨Γ',e,os,ms,ss,x7,x8,x9,hΓ,hw⟩:=IT (P:=fun n Γ=>∃os ms ss x7 x8 x9,Γ=[Md (.list xs),Md (.int at'),Md (.int lim),Md (.int many),some ⟨.lst .leaf,.list os⟩,some ⟨.lst .leaf,.list ms⟩,some ⟨.lst .leaf,.list ss⟩,x7,x8,x9,none,none]/\Gw many n os ms ss) (i:=7) (body:=eW) (b6 0 many.toNat) 0
  [Md (.list xs),Md (.int at'),Md (.int lim),Md (.int many),some ⟨.lst .leaf,.list []⟩,some ⟨.lst .leaf,.list []⟩,some ⟨.lst .leaf,.list []⟩,none,none,none,none,none] ⟨[],[],[],none,none,none,rfl,rfl,rfl,rfl,fun a ha=>(nomatch ha),fun a ha=>(nomatch ha),fun a ha=>(nomatch ha)⟩ (fun m d Γ hd h1 h2 ⟨os,ms,ss,x7,x8,x9,hΓ,hw⟩=>by
   subst hΓ;obtain ⟨k,hk,rfl⟩:=Ej hd;rw [G5] at h2;rw [Int.zero_add];obtain ⟨os',ms',ss',y8,y9,f1,f2⟩:=om (at':=at') (lim:=lim) (many:=many) (x8:=x8) (x9:=x9) hx ha (by omega) (by omega) hw (by omega) (r:=k)
   exact ⟨by simp,_,f1,os',ms',ss',_,y8,y9,rfl,f2⟩)
 subst hΓ;rw [G5,Nat.zero_add] at hw;have en:((many.toNat:Nat):Int)=many:=by omega
 refine ⟨many.toNat,os,ms,ss,aQ (ar e0 (ar (sg (mU (s:=.leaf) ak rfl rfl rfl) rfl (by simp)) (ar (sg (mU (s:=.leaf) ak rfl rfl rfl) rfl (by simp)) (ar (sg (mU (s:=.leaf) ak rfl rfl rfl) rfl (by simp)) (ar (dB (xc (k:=many) (az (au rfl) ak) rfl (by omega) (by omega)) e) (aZ (kA (az (zt (p:=⟨.lst .leaf,.list os⟩) rfl) (az (zt (p:=⟨.lst .leaf,.list ms⟩) rfl) (az (zt (p:=⟨.lst .leaf,.list ss⟩) rfl) ak))) rfl rfl) rfl)))))),by rw [en];exact hw,by omega,by omega⟩
end KQ
namespace KC
open PySem PySem.Spec L2 T
open PyProof.Rows hiding St
variable {n:Nat} {fl:FL} {Γ:Ev} {c:Str} {rk:List (Option Nat)}
noncomputable def dA:FS:=(aL (fm (aA (cS true) (aa 0) (eK .none)) (fm (aA (cS true) (aa 1) (eK .none)) (aA gy (aa 0) (aa 1)))))
noncomputable def dr:List Mc->bz:=aC 2 dA
noncomputable def eI:FS:=(aL (aq .leaf 3 (ax (ag (ag (aa 0) (eK (.int 2))) (aa 2))) (aF bt (aj 2 dr (ae (ag (aa 1) (aa 3)) (ae (ag (aa 1) (aa 2)) af)))) (aa 3)))
noncomputable def bP:List Mc->bz:=aC 4 eI
noncomputable def nU:FS:=(aL (aj 4 eN (ae (aa 0) (ae (aq .leaf 3 (ax (ag (aa 0) (eK (.int 0)))) aG (eK (.bool true))) (ae (aa 1) (ae (aa 2) af))))))
noncomputable def cM:List Mc->bz:=aC 4 nU
noncomputable def fq:FS:=(cg (aF ao (aA (bB true) (aa 0) (eK bJ))) xr aN)
noncomputable def dt:List Mc->bz:=aC 1 fq
noncomputable def eJ:FS:=(cg (bT (aF bt (aj 2 cz (ae (aa 1) (ae (bh aM (ae (ag (aa 0) (eK (.int 0))) af)) af))))) xr aN)
noncomputable def cw:List Mc->bz:=aC 2 eJ
noncomputable def v9:FS:=(av (bG (aj 1 aB (ae (aa 0) af)))
  (av (bG (aj 1 dt (ae (aa 1) af)))
  (aL (AC .leaf 2 3 (ag (aa 0) (eK (.int 1))) (aF ao (aA (bB false) (aa 1) (aa 3))) (aa 2)))))
noncomputable def dg:List Mc->bz:=aC 4 v9
noncomputable def fu:FS:=(av (bG (aj 1 aB (ae (aa 0) af)))
  (av (cg (bT (aF bt (aj 1 aT (ae (aa 2) af)))) xr aN)
  (bG (aj 2 cw (ae (aa 0) (ae (aa 1) af))))))
noncomputable def bW:List Mc->bz:=aC 3 fu
noncomputable def gD:FS:=(aL (aj 3 cM (ae (aa 0) (ae (aa 1) (ae (aq .leaf 3 (ax (aa 1)) (aF ao (aA (bB false) (aa 2) (ag (ag (aa 0) (eK (.int 1))) (aa 3)))) (aa 3)) af)))))
noncomputable def bC:List Mc->bz:=aC 4 gD
noncomputable def rL:FS:=(av (ay false 3 (aq .leaf 7 (ax (aa 1)) (bT (aF bt (bh (cC true) (ae (aq .leaf 8 (ax (ag (ag (aa 0) (eK (.int 2))) (aa 7))) aG (aA (bB false) (aa 8) (aa 1))) af)))) (aa 7)))
  (av (cg (aF bt (aa 3)) (aL (bI (ae (aa 3) (ae (eK .none) af)))) aN)
  (av (cR 4 (ax (aa 2))
  (av (ay false 5 (aj 3 bC (ae (aa 0) (ae (aa 1) (ae (aa 4) af)))))
  (av (ay false 6 (aq .leaf 7 (ax (aa 1)) (aF ao (aA (cS false) (ag (aa 5) (aa 7)) (eK .none))) (aa 7)))
  (cg (aF bt (aa 6)) (aL (bI (ae (aa 6) (ae (aa 4) af)))) aN))))
  (aL (eK .none)))))
noncomputable def ck:List Mc->bz:=aC 9 rL
noncomputable def gE:FS:=(av (ay true 3 (aV .leaf af))
  (av (ay false 4 (mT (aa 1)))
  (av (ay false 5 (aj 3 ck (ae (aa 0) (ae (aa 4) (ae (aa 2) af)))))
  (av (sL 1000 (aF ao (aA (cS true) (aa 5) (eK .none)))
  (av (fA 3 (aa 5))
  (av (ay false 4 (aq .leaf 6 (ax (aa 4)) (aF ao (aA (bB true) (aa 6) (ag (aa 5) (eK (.int 0))))) (aa 6)))
  (ay false 5 (aj 3 ck (ae (aa 0) (ae (aa 4) (ae (aa 2) af))))))))
  (aL (bI (ae (cD 3) (ae (aa 4) af))))))))
noncomputable def bD:List Mc->bz:=aC 7 gE
open PySem.SeqAt
theorem JT {α:Type} {l:List α} (d:α) (h:l.length=n):l=(List.range n).map fun r=>l.getD r d:=by
 apply ext_getElem?
 intro k;rw [getElem?_map];by_cases hk:k<n
 ·rw [List.getElem?_range hk]
  show l[k]?=some (l.getD k d)
  rw [L1,L0 (by omega)]
  rfl
 ·rw [getElem?_eq_none (by omega),getElem?_eq_none (by simp;omega)]
  rfl
theorem wx {s:Sh} (hn:n<=1000) (h:fl Γ=.ok [⟨s,.int (n:Int)⟩] Γ):lR fl Γ=.ok ⟨(List.range n).map rm,true⟩ Γ:=by
 rw [xc (k:=(n:Int)) h rfl (by omega) (by omega),Int.toNat_natCast,oS]
theorem GC {s:Sh} (hn:n<=1000) (h:fl Γ=.ok [⟨s,.int (n:Int)⟩] Γ):Df fl Γ=.ok ⟨.lst .leaf,aw (List.range n)⟩ Γ:=by
 rw [JK (k:=(n:Int)) h rfl (by omega) (by omega),Int.toNat_natCast,oS]
section
variable {i j:Nat} {fc:FB} {fe:F1} {s:Sh} {Γ:Ev} {e:Nat->D} {c:Nat->Bool} {f:Nat->PV}
noncomputable abbrev Γ2 (Γ:Ev) (i j:Nat) (e:Nat->D) (r:Nat):Ev:=(Γ.set i (Md (.int (r:Nat)))).set j (Md (e r))
theorem Jz (hij:i≠j) (hΓ:(Γ.set i none).set j none=Γ):∀(m k:Nat) (acc:List D),(∀r,k<=r->r<k+m->fc (Γ2 Γ i j e r)=.ok (c r) (Γ2 Γ i j e r)) ->
  (∀r,k<=r->r<k+m->c r=true->fe (Γ2 Γ i j e r)=.ok (f r) (Γ2 Γ i j e r)/\coer s (f r)=true)->acc.length+m<=sizeLine->sJ i j fc fe s k ((List.range' k m).map e) Γ acc=.ok (acc++(((List.range' k m).filter c).map fun r=>(f r).d)) Γ
 | 0,k,acc,_,_,_=>by simp [sJ]
 | m+1,k,acc,hc,he,hl=>by
  have h1:=hc k (Mb _) (by omega)
  have hl1:acc.length<sizeLine:=by omega
  have back:((Γ2 Γ i j e k).set i none).set j none=Γ:=by
   unfold Γ2;rw [List.set_comm _ _ (Ne.symm hij),set_set,set_set];exact hΓ
  rw [List.range'_succ,map_cons,sJ];have h1:fc ((Γ.set i (Md (.int (k:Nat)))).set j (Md (e k)))=_:=h1
  rw [h1]
  cases hcd:c k with
  | false=>
   dsimp only;rw [if_pos hl1,back,Jz hij hΓ m (k+1) acc (fun r h1 h2=>hc r (by omega) (by omega)) (fun r h1 h2=>he r (by omega) (by omega)) (by omega)]
   rw [List.filter_cons_of_neg (by rw [hcd];exact Bool.false_ne_true)]
  | true=>
   obtain ⟨h2,h3⟩:=he k (Mb _) (by omega) hcd
   dsimp only;rw [h2];dsimp only;rw [h3,decide_eq_true hl1,Bool.and_self,if_pos rfl,back,Jz hij hΓ m (k+1) (acc++[(f k).d]) (fun r h1 h2=>hc r (by omega) (by omega)) (fun r h1 h2=>he r (by omega) (by omega)) (by simp only [length_append,length_cons,length_nil];omega)]
   rw [List.filter_cons_of_pos hcd,map_cons,append_assoc];rfl
theorem rd (e:Nat->D) (n:Nat) (c:Nat->Bool) (f:Nat->PV) {fa:F1} {st:Bool} (hi:ax fa Γ=.ok ⟨(List.range n).map e,st⟩ Γ) (h1:Γ[i]?=some none) (h2:Γ[j]?=some none) (hij:i≠j) (hs:s.isView=false) (hn:n<=10000)
  (hc:∀r,r<n->fc (Γ2 Γ i j e r)=.ok (c r) (Γ2 Γ i j e r)) (he:∀r,r<n->c r=true->fe (Γ2 Γ i j e r)=.ok (f r) (Γ2 Γ i j e r)/\coer s (f r)=true) :
  AC s i j fa fc fe Γ=.ok ⟨.lst s,.list (((List.range n).filter c).map fun r=>(f r).d)⟩ Γ:=by
 have hb:(10000:Nat)<=sizeLine:=by decide
 unfold AC;rw [hi];unfold Out.bind;dsimp only;rw [h1,h2,hs];have hΓ:(Γ.set i none).set j none=Γ:=by rw [zx h1,zx h2]
 rw [List.range_eq_range',Jz (c:=c) (f:=f) hij hΓ n 0 [] (fun r _ h=>hc r (by omega)) (fun r _ h=>he r (by omega)) (by simp;omega)]
 rfl
end
theorem hU (h:c∈aY):dt [.str c]=.ok ⟨.leaf,.none⟩:=by
 have:bB true (.str c) bJ=some (.bool false):=by
  unfold aY at h;simp only [mem_cons,not_mem_nil,or_false] at h
  rcases h with rfl | rfl | rfl | rfl | rfl | rfl<;>kernel_rfl
 refine lC (Γ:=aR 1 [.str c]) ?_
 simp [fq,aR,this]
theorem G4 {r:List Nat}:r.map rm=(r.map fun t:Nat=>(t:Int)).map PyData.int:=by rw [map_map];rfl
theorem Std.sorted {L:List Nat} (h:Std n L):L.Pairwise (· < ·):=by
 obtain ⟨q,rfl⟩:=h;exact List.Pairwise.filter _ List.pairwise_lt_range
theorem jY (h24:n<=24) {R:List Nat} (h:Std n R):cz [aw R,.int (n:Int)]=.ok ⟨.leaf,.bool true⟩:=by
 have hl:=h.len
 rw [aw,G4,eC zw (by simp;omega)]
 have h1:((R.map fun t:Nat=>(t:Int)).map PyData.int).all (inR (n:Int))=true:=by
  rw [all_eq_true];intro d hd;obtain ⟨i,hi,rfl⟩:=List.mem_map.mp hd;obtain ⟨t,ht,rfl⟩:=List.mem_map.mp hi;have:=h.lt t ht
  simp [inR]
  omega
 have h2:eY ((R.map fun t:Nat=>(t:Int)).map PyData.int)=true:=kS (by
  rw [pairwise_map];exact h.sorted.imp fun h=>by omega)
 rw [h1,h2];rfl
theorem dF {w:Wd} (ok:w.Ok) {R:List Nat} (h:Std w.n R):cw [w.enc,aw R]=.ok ⟨.leaf,.none⟩:=by
 have lo:=ok.g.lo
 have:=jY ok.h24 h
 refine lC (Γ:=aR 2 [w.enc,aw R]) ?_
 simp [eJ,aR,Wd.enc,de,lo,this]
noncomputable def DS (w:Wd) (c:Str):List Nat:=(List.range w.n).filter fun r=>(w.mks r).contains c
theorem mem_mkd {w:Wd} {r:Nat}:r∈DS w c↔r<w.n/\c∈w.mks r:=by unfold DS;simp
theorem GN {w:Wd} (ok:w.Ok) (r:Nat):∀x∈w.mks r,PyData.strOk x=true:=fun x hx=>by
 unfold Wd.mks at hx;rw [L1] at hx
 cases e:w.m[r]? with
 | none=>rw [e] at hx;simp at hx
 | some l=>rw [e] at hx;exact ok.mc _ (mem_of_getElem? e) x hx
theorem Wd.Ok.m_range {w:Wd} (ok:w.Ok):w.m.map bw=(List.range w.n).map fun r=>bw (w.mks r):=by
 conv=>lhs;rw [JT (l:=w.m) [] ok.lm]
 rw [map_map];rfl
theorem nR {w:Wd} (ok:w.Ok) (h:c∈aY):dg [w.enc,.str c]=.ok ⟨.lst .leaf,aw (DS w c)⟩:=by
 have c1:=ok.check
 have c2:=hU h
 have h24:=ok.h24
 have e:AC .leaf 2 3 (ag (aa 0) (eK (.int 1))) (aF ao (aA (bB false) (aa 1) (aa 3))) (aa 2) (aR 4 [w.enc,.str c])=.ok ⟨.lst .leaf,.list ((DS w c).map fun r=>rm r)⟩ (aR 4 [w.enc,.str c]):=by
  refine rd (fun r=>bw (w.mks r)) w.n (fun r=>(w.mks r).contains c) (fun r=>⟨.leaf,rm r⟩) (st:=true) ?_ rfl rfl (by omega) rfl (by omega) (fun r hr=>?_) (fun r hr _=>?_)
  ·simp [aR,Wd.enc,de,ok.m_range]
  ·simp [Γ2,aR,GM (Au h).1 (GN ok r)]
  ·simp [Γ2,aR]
 exact aQ (ar (zu (b7 (az (au rfl) ak) c1 rfl rfl)) (ar (zu (b7 (az (au rfl) ak) c2 rfl rfl)) (aZ e rfl)))
noncomputable def LG (p:Int):D->Bool
 | .int o=>o==p
 | _=>false
noncomputable def own (w:Wd) (p:Int):Nat->Bool:=gG (w.os.map (LG p))
theorem Wd.Ok.o_at {w:Wd} (ok:w.Ok) {r:Nat} (hr:r<w.n):∃o:Int,(o=0\/o=1)/\d6 w.os (r:Int)=some (.int o)/\∀p,own w p r=(o==p):=by
 have hl:r<w.os.length:=by rw [ok.g.lo];exact hr
 have hm:=ok.g.o _ (getElem_mem hl)
 have key:∀o:Int,w.os[r]=.int o->d6 w.os (r:Int)=some (.int o)/\∀p,own w p r=(o==p):=fun o e=>by
  refine ⟨Az (by rw [L0 hl,e]),fun p=>?_⟩
  unfold own gG;rw [L1,getElem?_map,L0 hl,e];rfl
 rcases hm with e | e
 ·exact ⟨0,.inl rfl,key 0 e⟩
 ·exact ⟨1,.inr rfl,key 1 e⟩
theorem RightG.congr {st:Nat->List Nat} {ch ch':Nat->Bool} {thr goal:List Nat} (h:RightG n st ch thr goal rk) (e:∀r,r<n->ch r=ch' r):RightG n st ch' thr goal rk:=
 ⟨h.len,h.g,fun r k hr hg hk=>by rw [<-e r hr];exact h.p r k hr hg hk,fun r hr hz=>by rw [<-e r hr];exact h.z r hr hz⟩
noncomputable def qN:Option Nat->Option Nat->Bool
 | some a,some b=>decide (a<b)
 | _,_=>false
theorem rE {a b:Option Nat}:dr [oD a,oD b]=.ok ⟨.leaf,.bool (qN a b)⟩:=by
 refine aQ ?_
 cases a with
 | none=>simp [dA,aR,oD,qN,si]
 | some a=>
  cases b with
  | none=>simp [dA,aR,oD,qN,si]
  | some b=>simp [dA,aR,oD,qN,si]
noncomputable def nE (w:Wd) (rk:List (Option Nat)) (r:Nat):List Nat:=(w.stp r).filter fun t=>qN (bf rk t) (bf rk r)
theorem gC {w:Wd} (ok:w.Ok) (hl:rk.length=w.n) {r:Nat} (hr:r<w.n):bP [w.enc,fE rk,rm r]=.ok ⟨.lst .leaf,aw (nE w rk r)⟩:=by
 have a2:=ok.at2 hr
 have a1:=mG (rk:=rk) (t:=r) (by omega)
 have e:aq .leaf 3 (ax (ag (ag (aa 0) (eK (.int 2))) (aa 2))) (aF bt (aj 2 dr (ae (ag (aa 1) (aa 3)) (ae (ag (aa 1) (aa 2)) af)))) (aa 3) (aR 4 [w.enc,fE rk,rm r])=.ok ⟨.lst .leaf,.list ((nE w rk r).map fun t=>rm t)⟩ (aR 4 [w.enc,fE rk,rm r]):=by
  refine ko rm (w.stp r) (fun t=>qN (bf rk t) (bf rk r)) (fun t=>⟨.leaf,rm t⟩) (st:=true) (by simp [aR,Wd.enc,de,a2]) (by simp [aR]) rfl ok.z.len (fun t ht=>?_) (fun t ht _=>?_)
  ·have a3:=mG (rk:=rk) (t:=t) (by rw [hl];exact ok.stp_lt ht)
   have dl:=rE (a:=bf rk t) (b:=bf rk r)
   simp [aR,a1,a3,dl]
  ·simp [aR]
 refine aQ ?_
 unfold eI;rw [Fb,e];rfl
end KC
namespace T
open PySem PySem.Spec L2
open PyProof.Rows hiding St
variable {He:Hp} {Fs:List (List Addr)} {Γ:Ev}
section
variable {K:Fg} {W:XW} {U:St} {H:Hp} {Q:VK} {D:cW} {fa fb:F1} {fl:FL}
theorem EnvOk.chgAt {O:List Addr} {i:Nat} {s:Sh} {d d':Mc} {v:V} {F:List Addr} {m:Addr} {xs ys:List V} (E:EnvOk K He O Fs H U Γ) (h:Γ[i]?=some (some ⟨s,d⟩)) (h1:U[i]?=some (some v)) (h2:Fs[i]?=some F)
  (hm:m∈F) (hx:H m=some (.lst xs)) (hs:s.isView=false) (o:Own K (O++Fs.flatten) (bo H m (.lst ys)) s F v d'):EnvOk K He O Fs (bo H m (.lst ys)) U (Γ.set i (some ⟨s,d'⟩)):=by
 have hi:i<Γ.length:=(L7 h).1
 have hmF:m∈Fs.flatten:=ik h2 hm
 have hHe:=E.fresh m hmF
 refine ⟨by rw [length_set];exact E.len1,by rw [length_set];exact E.len2,fun b u e=>?_,E.nd,fun a ha=>?_,E.fresh,fun j q hq=>?_⟩
 ·rw [b9 (iT e hHe)]
  exact E.same b u e
 ·by_cases z:a=m
  ·rw [z,da];exact Option.some_ne_none _
  ·rw [b9 z];exact E.inH a ha
 ·by_cases hj:j=i
  ·subst hj
   rw [getElem?_set_self hi] at hq
   cases hq;exact ⟨hs,v,F,h1,h2,o⟩
  ·rw [getElem?_set_ne (Ne.symm hj)] at hq
   obtain ⟨w1,v',F',e1,e2,e3⟩:=E.slot j q hq;exact ⟨w1,v',F',e1,e2,e3.mut w1 (LR _ hmF) (fun z=>Ji (L6 E.nd).2.1 e2 h2 hj m z hm) hx⟩
theorem EnvOk.chgT {O:List Addr} {i j:Nat} {ss:List Sh} {ds es:List Mc} (E:EnvOk K He O Fs H U Γ) (h:Γ[i]?=some (some ⟨.tup ss,.tuple ds⟩)) (hj:ds[j]?=some (.list es)) (hsj:ss[j]?=some (.lst .leaf)) :
  ∃l vs m ws,U[i]?=some (some (.ref l))/\H l=some (.tup vs)/\vs.length=ds.length/\vs[j]?=some (.ref m)/\H m=some (.lst ws)/\ws.length=es.length/\(∀(k:Nat) u d,ws[k]?=some u->es[k]?=some d->Rep K (bM H (O++Fs.flatten)) u d) /\
   ∀(ws':List V) (es':List Mc),ws'.length=es'.length->(∀(k:Nat) u d,ws'[k]?=some u->es'[k]?=some d->Rep K (bM H (O++Fs.flatten)) u d)->EnvOk K He O Fs (bo H m (.lst ws')) U (Γ.set i (some ⟨.tup ss,.tuple (ds.set j (.list es'))⟩)):=by
 obtain ⟨hv,v,F,h1,h2,o⟩:=E.slot i _ h
 cases o with
 | @tup _ p vs _ Fs0 hsv hp hn hl hf hs nd q=>
  have hjl:j<ds.length:=(L7 hj).1
  have vj:vs[j]?=some (vs[j]'(by omega)):=L0 _
  have fj:Fs0[j]?=some (Fs0[j]'(by omega)):=L0 _
  obtain ⟨m,ws,em,eG,hm,hwl,hwr⟩:=(q j _ _ _ _ vj hj fj hsj).leaves;rw [em] at vj;rw [eG] at fj;have hmF:m∈Fs0.flatten:=ik fj (List.mem_singleton.mpr rfl)
  have hmO:m∈O++Fs.flatten:=LR _ (ik h2 hmF)
  have pnm:p≠m:=fun z=>hn (z▸hmO)
  refine ⟨p,vs,m,ws,h1,hp,hl,vj,hm,hwl,hwr,fun ws' es' hw q'=>?_⟩
  refine E.chgAt h h1 h2 hmF hm rfl ?_
  refine .tup hsv (by rw [b9 pnm];exact hp) hn (by rw [length_set];exact hl) (by rw [length_set];exact hf) (by rw [length_set];exact hs) nd fun k v d F s e1 e2 e3 e4=>?_
  by_cases hk:k=j
  ·subst hk
   rw [getElem?_set_self hjl] at e2
   cases e2;rw [vj] at e1
   cases e1;rw [fj] at e3
   cases e3;rw [hsj] at e4
   cases e4;refine Own.mkLeaves da hw fun n u d a1 a2=>?_
   rw [GT hmO];exact q' n u d a1 a2
  ·rw [getElem?_set_ne (Ne.symm hk)] at e2
   exact (q k v d F s e1 e2 e3 e4).mut (hsv s (mem_of_getElem? e4)) hmO (fun z=>Ji nd e3 fj hk m z (List.mem_singleton.mpr rfl)) hm
def LH (i:Nat) (q p:PV) (Γ:Ev):dY:=match Γ[i]? with
 | some (some ⟨.lst .leaf,.list ds⟩)=>(match q.d with
  | .int k=>if decide (0<=k)&&decide (k<=ds.length)&&decide (ds.length<10000)&&T.coer .leaf p then .nx (Γ.set i (some ⟨.lst .leaf,.list (ds.take k.toNat++p.d::ds.drop k.toNat)⟩)) else .no
  | _=>.no)
 | _=>.no
def pP (i:Nat) (k:Nat) (p:PV) (Γ:Ev):dY:=match Γ[i]? with
 | some (some ⟨.tup ss,.tuple ds⟩)=>(match ss[k]?,ds[k]? with
  | some (.lst .leaf),some (.list es)=>if T.coer .leaf p&&decide (es.length<sizeLine) then .nx (Γ.set i (some ⟨.tup ss,.tuple (ds.set k (.list (es++[p.d])))⟩)) else .no
  | _,_=>.no)
 | _=>.no
def DR (i k:Nat) (Γ:Ev):Bool:=match Γ[i]? with
 | some (some ⟨.tup ss,.tuple ds⟩)=>(match ss[k]?,ds[k]? with
  | some (.lst .leaf),some (.list _)=>true
  | _,_=>false)
 | _=>false
theorem Ce {i k:Nat} (h:DR i k Γ=true):∃ss ds es,Γ[i]?=some (some ⟨.tup ss,.tuple ds⟩)/\ss[k]?=some (.lst .leaf)/\ds[k]?=some (.list es):=by
 unfold DR at h;split at h
 ·rename_i ss ds e
  split at h
  ·rename_i es e1 e2
   exact ⟨ss,ds,es,e,e1,e2⟩
  ·cases h
 ·cases h
def dO (i k:Nat) (fa:F1):FS:=fun Γ=>if DR i k Γ then gj fa (pP i k) Γ else .no
theorem zf {xs:List V} {k:Nat} {v:V} (h:xs[k]?=some v):d6 xs (k:Int)=some v:=by
 have hk:=(L7 h).1
 have e:=(L7 h).2
 simp [d6,dI,hk,e]
theorem xP {i k:Nat} (h:tS K W (dO i k fa) D U H):gP (wQ K "list" En (tK (zW K) (aS i) (tE K W (eK (.int (k:Int))))) (tA K W (ae fa af))) D U H:=by
 obtain ⟨He,O,Fs,Γ,E,h⟩:=h;unfold dO at h
 cases ho:DR i k Γ with
 | false=>rw [ho] at h;exact h.elim
 | true=>
  rw [ho] at h;obtain ⟨ss,ds,es,e1,es1,ee⟩:=Ce ho;obtain ⟨l,vs,m,ws,q1,q2,q3,q4,q5,q6,q7,q8⟩:=E.chgT e1 ee es1;refine ⟨.ref l,q1,He,O,Fs,Γ,E,?_⟩
  intro u H1 G1 Fs1 A1;have hu:=A1.own.rep
  cases hu;have q2':H1 l=some (.tup vs):=A1.same _ _ q2
  have q5':H1 m=some (.lst ws):=A1.same _ _ q5
  refine .inr (.inl ⟨l,vs,(k:Int),.ref m,rfl,rfl,.of q2',zf q4,.inl ⟨rfl,ws,.of q5'⟩,Ed (fQ (D:=D) ⟨He,O,Fs1,Γ,A1.env.dropL,h⟩ fun He O Fs Γ2 p v H2 G Fs2 _ fr2 A2 w2=>?_)⟩)
  unfold pP at w2;split at w2
  ·rename_i ss2 ds2 e2
   split at w2
   ·rename_i es2 e3 e4
    cases hc:(T.coer .leaf p&&decide (es2.length<sizeLine)) with
    | false=>rw [hc] at w2;exact w2.elim
    | true=>
     rw [hc] at w2;simp only [Bool.and_eq_true,decide_eq_true_eq] at hc
     obtain ⟨l2,vs2,m2,ws2,r1,r2,r3,r4,r5,r6,r7,r8⟩:=A2.env.dropL.chgT e2 e4 e3;rw [q1] at r1
     cases r1;have x2:H2 l=some (.tup vs):=A2.same _ _ q2'
     rw [x2] at r2
     cases r2;rw [q4] at r4
     cases r4;have ov:Own K (O++Fs2.flatten) H2 .leaf [] v p.d:=A2.own.coer (s:=.leaf) hc.1 iq fun a ha z=>absurd z (A2.disj a ha)
     cases ov with
     | leaf rv=>
      have E4:=r8 (ws2++[v]) (es2++[p.d]) (by simp [r6]) fun n x d a1 a2=>by
       by_cases hn:n<ws2.length
       ·rw [getElem?_append_left hn] at a1
        rw [getElem?_append_left (by omega)] at a2
        exact r7 n x d a1 a2
       ·have hn':n=ws2.length:=by
         have:=(L7 a1).1
         rw [length_append,length_singleton] at this;omega
        subst hn'
        rw [getElem?_append_right (Mb _),Nat.sub_self] at a1;rw [getElem?_append_right (by omega),show ws2.length-es2.length=0 by omega] at a2
        cases a1
        cases a2;exact rv
      exact ⟨m,ws2,v,rfl,rfl,r5,by rw [r6];exact hc.2,w2 U _ _ E4⟩
   ·exact w2.elim
  ·exact w2.elim
end
section
variable {X:Cx} {N gl:List Str} {vs cs ls lo gs:List Nat} {W:XW} {a b c e:Expr} {es:List Expr} {pos p:Pos} {fa fb fc:F1} {fl:FL} {g:FS}
theorem cs_appT (S:Cp X N gl vs cs ls lo gs) (i k:Nat) {x:Str} {spos apos cpos:Pos} {kk:Nat} {pk:Pos} {z:Int} (hi:N[i]?=some x) (hv:vs.contains i=true) (hz:z=(k:Int)) (ha:PE X a (tE X.K W fa)) (hx:DI (.Constant (.int z) kk pk)) (hs:starEach [a] X.env=[(false,eval a X.env)])
  (hbase:attributeBase (.Subscript (.Name x p) (.Constant (.int z) kk pk) spos) "append" X.env (eval (.Subscript (.Name x p) (.Constant (.int z) kk pk) spos) X.env)=eval (.Subscript (.Name x p) (.Constant (.int z) kk pk) spos) X.env) (hline:(apos.endLine==cpos.line)=true)
  (hfew:((backTo cpos (starEach [a] X.env)).all (fun x=>!x.1)&&(backToKw cpos (keywordEach [] X.env)).all (fun x=>x.1.isSome)
   && decide ([a].length+([]:List Keyword).length+(if ([]:List Keyword).isEmpty then 0 else 1)<30))=true)
  (hsw:swapsWith (.Call (.Attribute (.Subscript (.Name x p) (.Constant (.int z) kk pk) spos) "append" apos) [a] [] cpos) none pos.line X.env=pure false) :
  PS X (.Expr (.Call (.Attribute (.Subscript (.Name x p) (.Constant (.int z) kk pk) spos) "append" apos) [a] [] cpos) pos) (tS X.K W (dO i k fa)):=by
 subst hz;have m:=S.nm x (mem_of_getElem? hi)
 exact b8 (El (fT PySem.F.plainAttrs_list PySem.F.slot_list_append PySem.F.type_list_append Hm (lg D9 (km (by rw [S.hN];exact hi) (S.vis i x hi hv) m.1 m.2) de_int hx) (da_cons ha da_nil hs) hbase hfew hline hs rfl) hsw) fun _ _ _=>xP
end
end T
namespace TQ
open PySem PySem.Spec L2 T
open PyProof.Rows hiding St
section
variable {X:Cx} {N gl:List Str} {vs cs ls lo gs:List Nat} {W:XW} {a b c e:Expr} {es:List Expr} {pos p:Pos} {fa fb fc:F1} {fl:FL} {ga gb:FB} {g1 g2 g:FS}
theorem iW (S:Cp X N gl vs cs ls lo gs) (i k:Nat) {x:Str} {spos apos cpos:Pos} {kk:Nat} {pk:Pos} {z:Int} (hi:N[i]?=some x) (hv:vs.contains i=true) (hz:z=(k:Int)) (ha:Q (PE X a (tE X.K W fa))) (hx:DI (.Constant (.int z) kk pk)) (hs:starEach [a] X.env=[(false,eval a X.env)]) (hbase:attributeBase (.Subscript (.Name x p) (.Constant (.int z) kk pk) spos) "append" X.env (eval (.Subscript (.Name x p) (.Constant (.int z) kk pk) spos) X.env)=eval (.Subscript (.Name x p) (.Constant (.int z) kk pk) spos) X.env) (hline:(apos.endLine==cpos.line)=true) (hfew:((backTo cpos (starEach [a] X.env)).all (fun x=>!x.1)&&(backToKw cpos (keywordEach [] X.env)).all (fun x=>x.1.isSome)
   && decide ([a].length+([]:List Keyword).length+(if ([]:List Keyword).isEmpty then 0 else 1)<30))=true) (hsw:swapsWith (.Call (.Attribute (.Subscript (.Name x p) (.Constant (.int z) kk pk) spos) "append" apos) [a] [] cpos) none pos.line X.env=pure false):Q (PS X (.Expr (.Call (.Attribute (.Subscript (.Name x p) (.Constant (.int z) kk pk) spos) "append" apos) [a] [] cpos) pos) (tS X.K W (dO i k fa))):=⟨T.cs_appT S i k hi hv hz ha.p hx hs hbase hline hfew hsw⟩
end
end TQ
namespace T
open PySem PySem.Spec L2
open PyProof.Rows hiding St
section
variable {K:Fg} {W:XW} {U:St} {H:Hp} {Q:VK} {D:cW} {fa fb:F1} {fl:FL}
open Classical in
def AD (i:Nat):F1:=fun Γ=>if pV Γ[i]? then (match Γ[i]? with
 | some (some p)=>.ok p Γ
 | _=>.no) else .no
theorem uf {i:Nat} (h:tE K W (AD i) U H Q):xo (fun xs H Q=>∃p ys,xs=[.ref p]/\(SqL K H p ys\/SqT K H p ys)/\∀l,H l=none->Q (.ref l) (bo H l (.lst ys))) (bS (aS i) eL) U H Q:=by
 obtain ⟨He,O,Fs,Γ,E,h⟩:=h;unfold AD at h
 cases ho:pV Γ[i]? with
 | false=>rw [ho] at h;exact h.elim
 | true=>
  obtain ⟨ds,e0⟩:=Hu ho;rw [ho,e0] at h;have h:Wants K W He O Fs H U Q (.ok ⟨.lst .leaf,.list ds⟩ Γ):=h
  obtain ⟨l,vs,h1,h2,h3,h4,_⟩:=E.chgF e0;refine ⟨.ref l,h1,?_⟩
  exact ⟨l,vs,rfl,.inl (.inl (.of h2)),fun l' hl=>h _ _ _ _ (Er E (Same.refl _) (fun a ha=>.inl ha) ⟨h3,h4⟩ hl)⟩
end
section
variable {X:Cx} {N gl:List Str} {vs cs ls lo gs:List Nat} {W:XW} {a b c e:Expr} {es:List Expr} {pos p:Pos} {fa fb fc:F1} {fl:FL} {g:FS}
theorem cb_listO (S:Cp X N gl vs cs ls lo gs) (j:Nat) (hj:gl[j]?=some ("list":Str)) (hg:gs.contains j=true) (hm:X.mg "list"=none) (i:Nat) {x:Str} {p2:Pos} (hi:N[i]?=some x) (hv:vs.contains i=true) (hs:starEach [.Name x p2] X.env=[(false,eval (.Name x p2) X.env)]) :
  PE X (.Call (.Name "list" p) [.Name x p2] [] pos) (tE X.K W (AD i)):=by
 have m:=S.nm x (mem_of_getElem? hi)
 exact aJ (Jo fx (S.g hj hg).1 hm D6 (gM (km (by rw [S.hN];exact hi) (S.vis i x hi hv) m.1 m.2) mP hs) (by decide) (by decide) hs rfl) fun _ _ _=>uf
end
end T
namespace TQ
open PySem PySem.Spec L2 T
open PyProof.Rows hiding St
section
variable {X:Cx} {N gl:List Str} {vs cs ls lo gs:List Nat} {W:XW} {a b c e:Expr} {es:List Expr} {pos p:Pos} {fa fb fc:F1} {fl:FL} {g:FS}
theorem mW (S:Cp X N gl vs cs ls lo gs) (j:Nat) (hj:gl[j]?=some ("list":Str)) (hg:gs.contains j=true) (hm:X.mg "list"=none) (i:Nat) {x:Str} {p2:Pos} (hi:N[i]?=some x) (hv:vs.contains i=true) (hs:starEach [.Name x p2] X.env=[(false,eval (.Name x p2) X.env)]) :
  Q (PE X (.Call (.Name "list" p) [.Name x p2] [] pos) (tE X.K W (AD i))):=⟨T.cb_listO S j hj hg hm i hi hv hs⟩
end
end TQ
namespace KC
open PySem PySem.Spec L2 T PySem.SeqAt
open PyProof.Rows hiding St
variable {c:Str} {L l:List Nat} {M:List Str} {Γ:Ev} {fa fb:F1}
noncomputable abbrev pD (w:Wd) (c:Str) (r:Nat):Prop:=c∈w.mks r
noncomputable abbrev gm (w:Wd) (c:Str) (L:List Nat):List Nat:=L.filter fun r=>(w.mks r).contains c
theorem ma {w:Wd} (ok:w.Ok) (hcl:c∈aY) (hs:Std w.n L) :
  ∃rk,bC [w.enc,aw L,.str c]=.ok ⟨.lst .leaf,fE rk⟩/\RightG w.n w.stp (fun _=>true) L (gm w c L) rk:=by
 have lo:=ok.g.lo
 have h24:=ok.h24
 have hl:=hs.len
 have hgl:(gm w c L).length<=1000:=Nat.le_trans (length_filter_le _ _) (by omega)
 obtain ⟨rk,e,Rt,_⟩:=fo ok.z (cl:=w.os.map fun _=>true) (thr:=L) (goal:=gm w c L) (by rw [length_map];exact lo) (fun r hr=>ok.stp_ne (hs.lt r hr)) hs.lt (by omega) (fun r hr=>hs.lt r (List.mem_filter.mp hr).1) hgl
 have Rt:=Rt.congr (ch':=fun _=>true) fun r hr=>by
  unfold gG;rw [L1,getElem?_map,L0 (by omega)]
  rfl
 refine ⟨rk,?_,Rt⟩
 have c1:aq .leaf 3 (ax (ag (aa 0) (eK (.int 0)))) aG (eK (.bool true)) (aR 4 [w.enc,aw L,aw (gm w c L)])=.ok ⟨.lst .leaf,mR (w.os.map fun _=>true)⟩ (aR 4 [w.enc,aw L,aw (gm w c L)]):=by
  have:=oz (fun d:D=>d) w.os (fun d=>⟨.leaf,.bool true⟩) (s:=.leaf) (i:=3) (fi:=ax (ag (aa 0) (eK (.int 0)))) (fe:=eK (.bool true)) (st:=true) (Γ:=aR 4 [w.enc,aw L,aw (gm w c L)]) (by simp [aR,Wd.enc,de]) (by simp [aR]) rfl (by omega) (fun d hd=>by simp)
  rw [this];simp
 have st:cM [w.enc,aw L,aw (gm w c L)]=.ok ⟨.lst .leaf,fE rk⟩:=aQ (aZ (b7 (az (au rfl) (az c1 (az (au rfl) (az (au rfl) ak)))) e rfl rfl) rfl)
 have c2:aq .leaf 3 (ax (aa 1)) (aF ao (aA (bB false) (aa 2) (ag (ag (aa 0) (eK (.int 1))) (aa 3)))) (aa 3) (aR 4 [w.enc,aw L,.str c])=.ok ⟨.lst .leaf,.list ((gm w c L).map fun t=>rm t)⟩ (aR 4 [w.enc,aw L,.str c]):=by
  refine ko rm L (fun r=>(w.mks r).contains c) (fun t=>⟨.leaf,rm t⟩) (st:=true) (by simp [aR]) (by simp [aR]) rfl (by omega) (fun t ht=>?_) (fun t ht _=>?_)
  ·have a1:=ok.at1 (hs.lt t ht)
   simp [aR,Wd.enc,de,a1,GM (Au hcl).1 (GN ok t)]
  ·simp [aR]
 exact aQ (aZ (b7 (az (au rfl) (az (au rfl) (az c2 ak))) st rfl rfl) rfl)
structure wB (w:Wd) (M:List Str) (L off:List Nat):Prop where
 ne:off≠[]
 sub:∀r∈off,r∈L
 no:∀(R:Nat->Prop) X,Fr w.n w.stp R M (pD w) X->(∀r,X r->r∈L)->∀r∈off,¬X r
structure pT (w:Wd) (M:List Str) (L:List Nat):Prop where
 c:∀r∈L,∃t∈w.stp r,t∈L
 a:∀m∈M,∀S:Nat->Prop,(∀r,r∈L->pD w m r->S r)->(∀r,r∈L->(∃t∈w.stp r,t∈L/\S t)->S r)->∀r,r∈L->S r
noncomputable abbrev ke (w:Wd) (M:List Str) (L:List Nat) (x4 x5 x6:Option PV):Ev:=[Md w.enc,Md (aw L),Md (bw M),Md (aw []),x4,x5,x6,none,none]
noncomputable abbrev dP:FS:=(av (ay false 5 (aj 3 bC (ae (aa 0) (ae (aa 1) (ae (aa 4) af)))))
  (av (ay false 6 (aq .leaf 7 (ax (aa 1)) (aF ao (aA (cS false) (ag (aa 5) (aa 7)) (eK .none))) (aa 7)))
  (cg (aF bt (aa 6)) (aL (bI (ae (aa 6) (ae (aa 4) af)))) aN)))
theorem xv {w:Wd} (ok:w.Ok) (hs:Std w.n L) (hcl:c∈aY) (x5 x6:Option PV):∃rk,RightG w.n w.stp (fun _=>true) L (gm w c L) rk /\
  ((L.filter (fun r=>(bf rk r).isNone)=[]/\∃y5 y6,dP (ke w M L (Md (.str c)) x5 x6)=.nx (ke w M L (Md (.str c)) y5 y6)) \/
   (L.filter (fun r=>(bf rk r).isNone)≠[]/\dP (ke w M L (Md (.str c)) x5 x6)=.rt ⟨.tup [.leaf,.leaf],.tuple [aw (L.filter fun r=>(bf rk r).isNone),.str c]⟩)):=by
 have h24:=ok.h24
 have hl:=hs.len
 obtain ⟨rk,e,R⟩:=ma ok hcl hs;refine ⟨rk,R,?_⟩
 have c0:aq .leaf 7 (ax (aa 1)) (aF ao (aA (cS false) (ag (aa 5) (aa 7)) (eK .none))) (aa 7) (ke w M L (Md (.str c)) (Md (fE rk)) x6)=.ok ⟨.lst .leaf,.list ((L.filter fun r=>(bf rk r).isNone).map fun t=>rm t)⟩ (ke w M L (Md (.str c)) (Md (fE rk)) x6):=by
  refine ko rm L (fun r=>(bf rk r).isNone) (fun t=>⟨.leaf,rm t⟩) (st:=true) (by simp) (by simp) rfl (by omega) (fun t ht=>?_) (fun t ht _=>?_)
  ·have a1:=mG (rk:=rk) (t:=t) (by rw [R.len];exact hs.lt t ht)
   simp [a1]
  ·simp
 have s1:ay false 5 (aj 3 bC (ae (aa 0) (ae (aa 1) (ae (aa 4) af)))) (ke w M L (Md (.str c)) x5 x6)=.nx (ke w M L (Md (.str c)) (Md (fE rk)) x6):=cY (b7 (az (au rfl) (az (au rfl) (az (au rfl) ak))) e rfl rfl) rfl (by simp)
 have s2:ay false 6 (aq .leaf 7 (ax (aa 1)) (aF ao (aA (cS false) (ag (aa 5) (aa 7)) (eK .none))) (aa 7)) (ke w M L (Md (.str c)) (Md (fE rk)) x6)=.nx (ke w M L (Md (.str c)) (Md (fE rk)) (Md (aw (L.filter fun r=>(bf rk r).isNone)))):=cY c0 rfl (by simp)
 by_cases q:L.filter (fun r=>(bf rk r).isNone)=[]
 ·refine .inl ⟨q,Md (fE rk),Md (aw (L.filter fun r=>(bf rk r).isNone)),ar s1 (ar s2 ?_)⟩
  rw [q];simp
 ·refine .inr ⟨q,ar s1 (ar s2 ?_)⟩
  generalize L.filter (fun r=>(bf rk r).isNone)=F at q
  cases F with
  | nil=>exact absurd rfl q
  | cons a r=>simp [xk]
theorem t7 {w:Wd} (ok:w.Ok) {M0:List Str} {L:List Nat} (hs:Std w.n L):∀(M:List Str),(∀c∈M,c∈aY)->∀(x4 x5 x6:Option PV),
  ((∃y4 y5 y6,bH 4 dP (M.map .str) (ke w M0 L x4 x5 x6)=.nx (ke w M0 L y4 y5 y6))/\∀c∈M,∃rk,RightG w.n w.stp (fun _=>true) L (gm w c L) rk/\∀r∈L,bf rk r≠none) \/
  (∃c∈M,∃rk,RightG w.n w.stp (fun _=>true) L (gm w c L) rk/\L.filter (fun r=>(bf rk r).isNone)≠[]/\bH 4 dP (M.map .str) (ke w M0 L x4 x5 x6)=.rt ⟨.tup [.leaf,.leaf],.tuple [aw (L.filter fun r=>(bf rk r).isNone),.str c]⟩)
 | [],_,x4,x5,x6=>.inl ⟨⟨x4,x5,x6,rfl⟩,by simp⟩
 | c::M,h,x4,x5,x6=>by
  obtain ⟨rk,R,q⟩:=xv ok (M:=M0) hs (h c mem_cons_self) x5 x6
  have fg:∀o,dP (ke w M0 L (some ⟨.leaf,.str c⟩) x5 x6)=o->bH 4 dP ((c::M).map .str) (ke w M0 L x4 x5 x6)=(match o with | .nx Γ1=>bH 4 dP (M.map .str) Γ1 | .ct Γ1=>bH 4 dP (M.map .str) Γ1 | .bk Γ1=>.nx Γ1 | .rt p=>.rt p | .er a b=>.er a b | .no=>.no):=fun o ho=>by
   rw [map_cons,bH,if_pos (by simp)]
   have:(ke w M0 L x4 x5 x6).set 4 (Md (.str c))=ke w M0 L (Md (.str c)) x5 x6:=rfl
   rw [this,ho];all_goals (cases o<;>rfl)
  rcases q with ⟨q,y5,y6,e⟩ | ⟨q,e⟩
  ·have hall:∀r∈L,bf rk r≠none:=fun r hr hz=>by
    have:r∈L.filter (fun r=>(bf rk r).isNone):=List.mem_filter.mpr ⟨hr,by simp [hz]⟩
    rw [q] at this;simp at this
   rcases t7 ok (M0:=M0) hs M (fun d hd=>h d (L5 _ hd)) (Md (.str c)) y5 y6 with ⟨⟨z4,z5,z6,e2⟩,h2⟩ | ⟨d,hd,rk',R',q',e2⟩
   ·refine .inl ⟨⟨z4,z5,z6,?_⟩,fun d hd=>?_⟩
    ·rw [fg _ e];exact e2
    ·rcases LZ hd with rfl | hd
     ·exact ⟨rk,R,hall⟩
     ·exact h2 d hd
   ·refine .inr ⟨d,L5 _ hd,rk',R',q',?_⟩
    rw [fg _ e];exact e2
  ·refine .inr ⟨c,mem_cons_self,rk,R,q,?_⟩
   rw [fg _ e]
theorem Du:cC true [.list (l.map fun t=>PyData.bool (L.contains t))]=some (.bool (l.any fun t=>L.contains t)):=by
 have:=pK (bs:=l.map fun t=>L.contains t)
 rw [map_map] at this;refine this.trans ?_
 rw [List.any_map];rfl
theorem md {w:Wd} (ok:w.Ok) (hM:∀c∈M,c∈aY) (hs:Std w.n L) :
  (ck [w.enc,aw L,bw M]=.ok ⟨.leaf,.none⟩/\pT w M L)\/(∃off o,ck [w.enc,aw L,bw M]=.ok ⟨.tup [.leaf,.leaf],.tuple [aw off,o]⟩/\wB w M L off):=by
 have h24:=ok.h24
 have hl:=hs.len
 have e1:aq .leaf 7 (ax (aa 1)) (bT (aF bt (bh (cC true) (ae (aq .leaf 8 (ax (ag (ag (aa 0) (eK (.int 2))) (aa 7))) aG (aA (bB false) (aa 8) (aa 1))) af)))) (aa 7) (aR 9 [w.enc,aw L,bw M])=.ok ⟨.lst .leaf,.list ((L.filter fun r=>!(w.stp r).any fun t=>L.contains t).map fun t=>rm t)⟩ (aR 9 [w.enc,aw L,bw M]):=by
  refine ko rm L (fun r=>!(w.stp r).any fun t=>L.contains t) (fun t=>⟨.leaf,rm t⟩) (st:=true) (by simp [aR]) (by simp [aR]) rfl (by omega) (fun r hr=>?_) (fun t ht _=>?_)
  ·have a2:=ok.at2 (hs.lt r hr)
   have c2:aq .leaf 8 (ax (ag (ag (aa 0) (eK (.int 2))) (aa 7))) aG (aA (bB false) (aa 8) (aa 1)) ((aR 9 [w.enc,aw L,bw M]).set 7 (Md (rm r)))=.ok ⟨.lst .leaf,.list ((w.stp r).map fun t=>.bool (L.contains t))⟩ ((aR 9 [w.enc,aw L,bw M]).set 7 (Md (rm r))):=by
    refine oz rm (w.stp r) (fun t=>⟨.leaf,.bool (L.contains t)⟩) (st:=true) (by simp [aR,Wd.enc,de,a2]) (by simp [aR]) rfl ok.z.len (fun t ht=>⟨?_,rfl⟩)
    exact aE (au rfl) (au rfl) DE
   exact dX (dW (s:=.leaf) (bF (az c2 ak) Du))
  ·simp [aR]
 by_cases q:(L.filter fun r=>!(w.stp r).any fun t=>L.contains t)=[]
 ·rw [q] at e1
  have hc:∀r∈L,∃t∈w.stp r,t∈L:=fun r hr=>by
   have:=List.filter_eq_nil_iff.mp q r hr
   simpa using this
  have s1:ay false 3 _ (aR 9 [w.enc,aw L,bw M])=.nx (ke w M L none none none):=cY e1 rfl (by simp [aR])
  have s2:cg (aF bt (aa 3)) (aL (bI (ae (aa 3) (ae (eK .none) af)))) aN (ke w M L none none none)=.nx (ke w M L none none none):=by simp
  rcases t7 ok (M0:=M) hs M hM none none none with ⟨⟨z4,z5,z6,e2⟩,h2⟩ | ⟨c,hcM,rk,R,q',e2⟩
  ·refine .inl ⟨aQ (ar s1 (ar s2 (ar (dB (br (ds:=M.map .str) (au rfl) rfl) e2) (aZ bg rfl)))),hc,fun c hcM S h3 h4 r hr=>?_⟩
   obtain ⟨rk,R,hall⟩:=h2 c hcM;have:r∈L/\S r:=R.min (S:=fun r=>r∈L/\S r) (fun r t ht=>ok.stp_lt ht) (fun r _ hg=>by
     obtain ⟨g1,g2⟩:=List.mem_filter.mp hg;exact ⟨g1,h3 r g1 (by simpa using g2)⟩) (fun r _ ht hl=>by
     obtain ⟨t,g1,g2,g3⟩:=led_t.mp hl;exact ⟨ht,h4 r ht ⟨t,g1,g2,g3⟩⟩) (hs.lt r hr) (hall r hr)
   exact this.2
  ·refine .inr ⟨_,_,aQ (ar s1 (ar s2 (Ay (dB (br (ds:=M.map .str) (au rfl) rfl) e2)))),q',fun r hr=>(List.mem_filter.mp hr).1,fun Rm X hX hXL r hr hx=>?_⟩
   obtain ⟨g1,g2⟩:=List.mem_filter.mp hr;have hz:bf rk r=none:=by simpa using g2
   refine hX.a c hcM (fun r=>bf rk r≠none) (fun r hx hm=>R.goal_ok (hX.lt r hx) (List.mem_filter.mpr ⟨hXL r hx,by simpa using hm⟩)) (fun r hx ⟨t,ht,_,hk⟩=>R.step_ok (hX.lt r hx) (hXL r hx) (led_t.mpr ⟨t,ht,hk⟩)) r hx hz
 ·refine .inr ⟨L.filter fun r=>!(w.stp r).any fun t=>L.contains t,.none,?_,q,fun r hr=>(List.mem_filter.mp hr).1,fun Rm X hX hXL r hr hx=>?_⟩
  ·refine aQ (ar (cY e1 rfl (by simp [aR])) (Ay ?_))
   simp only [map_map] at *
   generalize (L.filter fun r=>!(w.stp r).any fun t=>L.contains t)=F at q
   cases F with
   | nil=>exact absurd rfl q
   | cons a r=>simp [aR,xk]
  ·obtain ⟨t,ht,hxt⟩:=hX.c r hx
   have:=(List.mem_filter.mp hr).2
   simp only [Bool.not_eq_true',List.any_eq_false,contains_iff_mem] at this
   exact this t ht (hXL t hxt)
structure KJ where
 rows:List D
 L:List Nat
 row:D
noncomputable abbrev DB (w:Wd) (R:List Nat) (M:List Str) (b:KJ):Ev:=[Md w.enc,Md (aw R),Md (bw M),some ⟨.lst .leaf,.list b.rows⟩,Md (aw b.L),Md b.row,none]
structure FI (w:Wd) (R:List Nat) (M:List Str) (b:KJ):Prop where
 std:Std w.n b.L
 sub:∀r∈b.L,r∈R
 cnt:b.rows.length+b.L.length<=w.n
 big:∀X,Fr w.n w.stp (·∈R) M (pD w) X->∀r,X r->r∈b.L
 row:(b.row=.none/\pT w M b.L)\/(∃off o,b.row=.tuple [aw off,o]/\wB w M b.L off)
noncomputable abbrev nI:FS:=(av (fA 3 (aa 5))
  (av (ay false 4 (aq .leaf 6 (ax (aa 4)) (aF ao (aA (bB true) (aa 6) (ag (aa 5) (eK (.int 0))))) (aa 6)))
  (ay false 5 (aj 3 ck (ae (aa 0) (ae (aa 4) (ae (aa 2) af)))))))
theorem vH {w:Wd} (ok:w.Ok) (hM:∀c∈M,c∈aY) (hs:Std w.n L):∃p,ck [w.enc,aw L,bw M]=.ok p/\coer .leaf p=true/\((p.d=.none/\pT w M L)\/(∃off o,p.d=.tuple [aw off,o]/\wB w M L off)):=by
 rcases md ok hM hs with ⟨e,h⟩ | ⟨off,o,e,h⟩
 ·exact ⟨_,e,rfl,.inl ⟨rfl,h⟩⟩
 ·exact ⟨_,e,rfl,.inr ⟨off,o,rfl,h⟩⟩
theorem yG {w:Wd} (ok:w.Ok) {R:List Nat} (hM:∀c∈M,c∈aY) {b:KJ} (I:FI w R M b) (hb:(!si b.row)=true):∃b',nI (DB w R M b)=.nx (DB w R M b')/\FI w R M b'/\b'.L.length<b.L.length:=by
 have h24:=ok.h24
 have hl:=I.std.len
 have hcnt:=I.cnt
 rcases I.row with ⟨e,_⟩ | ⟨off,o,e,hoff⟩
 ·rw [e] at hb;cases hb
 have hs':=I.std.filter fun r=>!off.contains r
 obtain ⟨p,e2,hp,hr⟩:=vH ok hM hs'
 have c0:aq .leaf 6 (ax (aa 4)) (aF ao (aA (bB true) (aa 6) (ag (aa 5) (eK (.int 0))))) (aa 6) (DB w R M ⟨b.rows++[b.row],b.L,b.row⟩)=.ok ⟨.lst .leaf,.list ((b.L.filter fun r=>!off.contains r).map fun t=>rm t)⟩ (DB w R M ⟨b.rows++[b.row],b.L,b.row⟩):=by
  refine ko rm b.L (fun r=>!off.contains r) (fun t=>⟨.leaf,rm t⟩) (st:=true) (by simp) (by simp) rfl (by omega) (fun t ht=>?_) (fun t ht _=>?_)
  ·rw [e]
   exact cZ (s:=.leaf) (aE (au rfl) (iR (j:=0) (ds:=[aw off,o]) (au rfl) bg rfl rfl rfl) Jm)
  ·simp
 have lt:(b.L.filter fun r=>!off.contains r).length<b.L.length:=by
  obtain ⟨x,hx⟩:=exists_mem_of_ne_nil _ hoff.ne;have:(b.L.filter fun r=>!off.contains r).length≠b.L.length:=fun e=>by
   have:=List.length_filter_eq_length_iff.mp e x (hoff.sub x hx)
   simp [hx] at this
  have:=length_filter_le (fun r=>!off.contains r) b.L
  omega
 refine ⟨⟨b.rows++[b.row],b.L.filter fun r=>!off.contains r,p.d⟩,?_,⟨hs',fun r hr=>I.sub r (List.mem_filter.mp hr).1,by simp only [length_append,length_cons,length_nil];omega,fun X hX r hx=>?_,hr⟩,lt⟩
 ·exact ar (DM rfl (au rfl) rfl (by omega)) (ar (cY c0 rfl (by simp)) (cY (b7 (az (au rfl) (az (au rfl) (az (au rfl) ak))) e2 rfl rfl) hp (by simp)))
 ·refine List.mem_filter.mpr ⟨I.big X hX r hx,?_⟩
  cases hc:off.contains r with
  | false=>rfl
  | true=>exact absurd hx (hoff.no _ X hX (I.big X hX) r (by simpa using hc))
noncomputable def mM (w:Wd):List Nat->Prop
 | a::b::r=>b∈w.stp a/\mM w (b::r)
 | _=>True
theorem mB {w:Wd} {z t:Nat} (ht:t∈w.stp z):∀{p:List Nat},mM w p->p.getLast?=some z->mM w (p++[t])
 | [],_,h=>by simp at h
 | [a],_,h=>by
  simp at h
  subst h;exact ⟨ht,trivial⟩
 | a::b::r,h,e=>⟨h.1,mB ht h.2 (by simpa using e)⟩
theorem oB {Γ1 Γ2:Ev} {g:Int->Option Int×Option Int} {s s':Sh} {xs:List D} {k:Int} (ha:fa Γ=.ok ⟨s,.list xs⟩ Γ1) (hb:fb Γ1=.ok ⟨s',.int k⟩ Γ2) (ho:dj ⟨s,.list xs⟩ xs=true):eR g fa fb Γ=.ok ⟨.lst .leaf,.list (T.cutD xs (g k).1 (g k).2)⟩ Γ2:=by
 unfold eR aU;rw [ha];simp only [Out.bind]
 rw [hb];simp only [ho,if_true]
theorem uY {s:Sh}:dj ⟨s,aw l⟩ (l.map rm)=true:=by
 unfold dj;simp [ba]
theorem oP {k:Nat}:T.cutD (l.map rm) (some (k:Int)) none=(l.drop k).map rm:=by
 unfold T.cutD;rw [HT.sIx_none,HT.sIx_nat,length_map,List.map_drop];by_cases h:k<=l.length
 ·rw [Nat.min_eq_left h,List.take_of_length_le (by simp)]
 ·rw [Nat.min_eq_right (by omega),List.drop_of_length_le (by simp),List.drop_of_length_le (by simp;omega)]
  simp
theorem xq {n d k:Nat} (h:1<=k):HT.sIx n d (some (-(k:Int)))=n-k:=by
 unfold HT.sIx;simp only
 rw [if_pos (by omega)]
 omega
theorem oO:T.cutD (l.map rm) none (some (-1))=l.dropLast.map rm:=by
 unfold T.cutD;rw [HT.sIx_none,List.drop_zero,Nat.sub_zero,List.dropLast_eq_take,List.map_take,length_map];rw [show (-1:Int)=-((1:Nat):Int) from rfl,xq (by omega)]
theorem kD {s:Sh} {k:Nat} (ha:fa Γ=.ok ⟨.leaf,aw l⟩ Γ) (hb:fb Γ=.ok ⟨s,.int (k:Int)⟩ Γ) (h:k<l.length):ag fa fb Γ=.ok ⟨.leaf,rm (l.getD k 0)⟩ Γ:=by
 rw [dC,ha];simp only [Out.bind]
 rw [hb];simp only
 rw [ja,Az (x:=rm (l.getD k 0)) (by rw [getElem?_map,L1,L0 h];rfl)]
theorem wq {α:Type} {xs:List α}:cC false [.list (xs.map fun _=>.bool true)]=some (.bool true):=by
 rw [zB (xs:=xs) (f:=fun _=>true),List.all_eq_true.mpr fun _ _=>rfl]
noncomputable abbrev wy (F R:List Nat):D:=.tuple [aw F,aw R]
structure mJ (w:Wd) (F R:List Nat):Prop where
 ne:R≠[]
 lt:∀x∈F++R,x<w.n
 ch:mM w (F++R++R.take 1)
 len:F.length+R.length<=1000
theorem pN {w:Wd}:∀{l:List Nat} {k:Nat},mM w l->k+1<l.length->l.getD (k+1) 0∈w.stp (l.getD k 0)
 | [],k,_,h=>by simp at h
 | [a],k,_,h=>by simp at h
 | a::b::r,0,h,_=>h.1
 | a::b::r,k+1,h,hk=>by
  have:=pN (k:=k) h.2 (by simpa using hk)
  simpa using this
theorem kH {w:Wd} (ok:w.Ok) {i:Nat} {s:Sh} {r:Nat} (h0:Γ[i]?=some (Md w.enc)) (hb:fb Γ=.ok ⟨s,rm r⟩ Γ) (hr:r<w.n):ag (ag (aa i) (eK (.int 2))) fb Γ=.ok ⟨.leaf,aw (w.stp r)⟩ Γ:=by
 rw [dC,dC,au h0];simp only [Out.bind,bg,Wd.enc,de,i9,zR]
 rw [hb];simp only [ja]
 rw [ok.at2 hr]
theorem G7 {w:Wd} (ok:w.Ok) {i:Nat} (h0:Γ[i]?=some (Md w.enc)):bh aM (ae (ag (aa i) (eK (.int 0))) af) Γ=.ok ⟨.leaf,.int (w.n:Int)⟩ Γ:=by
 have e:ag (aa i) (eK (.int 0)) Γ=.ok ⟨.leaf,.list w.os⟩ Γ:=by
  rw [dC,au h0];simp only [Out.bind,bg,Wd.enc,de,i9,zT]
 refine bF (az e ak) ?_
 simp [ok.g.lo]
end KC
namespace KC
open PySem PySem.Spec L2 T
open PyProof.Rows hiding St
noncomputable def j0:FS:=(cg (bT (aF ao (se yF gy (eK (.int 0)) (aa 1) (bh aM (ae (ag (aa 0) (eK (.int 0))) af))))) xr aN)
noncomputable def aH:List Mc->bz:=aC 2 j0
end KC
namespace KC
variable {F:List Nat}
noncomputable def sy (F R:List Nat) (k:Nat):Nat:=if k<F.length then F.getD k 0 else R.getD ((k-F.length) % R.length) 0
theorem pf {R:List Nat} {k:Nat} (h:F.length<=k):sy F R (k+R.length)=sy F R k:=by
 unfold sy;rw [if_neg (by omega),if_neg (by omega),show k+R.length-F.length=(k-F.length)+R.length by omega,Nat.add_mod_right]
open PySem PySem.Spec L2 T PySem.SeqAt
open PyProof.Rows hiding St
theorem GS {R:List Nat} (hR:0<R.length) {k:Nat} (hk:k<=F.length+R.length):(F++R++R.take 1).getD k 0=sy F R k:=by
 have l1:(R.take 1).length=1:=by rw [length_take];omega
 unfold sy;rw [L1];by_cases c:k<F.length
 ·rw [if_pos c,append_assoc,getElem?_append_left c,<-L1]
 ·rw [if_neg c]
  by_cases d:k<F.length+R.length
  ·rw [getElem?_append_left (by rw [length_append];exact d),getElem?_append_right (by omega),Nat.mod_eq_of_lt (by omega),<-L1]
  ·have:k=F.length+R.length:=by omega
   subst this;rw [getElem?_append_right (by rw [length_append];omega),length_append,Nat.sub_self,show F.length+R.length-F.length=R.length by omega,Nat.mod_self,List.getElem?_take,if_pos (by omega),<-L1]
theorem xb {w:Wd} {R:List Nat} (h:mJ w F R):∀k,sy F R (k+1)∈w.stp (sy F R k):=by
 have hR:0<R.length:=List.length_pos_iff.mpr h.ne
 have low:∀k,k<F.length+R.length->sy F R (k+1)∈w.stp (sy F R k):=fun k hk=>by
  have:=pN (k:=k) h.ch (by simp only [length_append,length_take];omega)
  rw [GS hR (by omega),GS hR (by omega)] at this
  exact this
 intro k;induction k using Nat.strongRecOn with
 | ind k ih=>
  by_cases c:k<F.length+R.length
  ·exact low k c
  ·have a:=pf (F:=F) (R:=R) (k:=k-R.length) (by omega)
   have b:=pf (F:=F) (R:=R) (k:=k+1-R.length) (by omega)
   rw [Nat.sub_add_cancel (by omega)] at a b
   rw [a,b,show k+1-R.length=k-R.length+1 by omega]
   exact ih (k-R.length) (by omega)
end KC
namespace KQ.M.B
open KC
variable {X:Nat->Prop} {a b:Nat}
inductive Rc (E:Nat->Nat->Prop):Nat->Nat->Prop
 | one {a b:Nat}:E a b->Rc E a b
 | cons {a b c:Nat}:E a b->Rc E b c->Rc E a c
section
variable {E E':Nat->Nat->Prop} {a b c:Nat}
theorem Rc.trans (h:Rc E a b) (h':Rc E b c):Rc E a c:=by
 induction h with
 | one e=>exact .cons e h'
 | cons e _ ih=>exact .cons e (ih h')
theorem Rc.mono (h:Rc E a b) (m:∀a b,E a b->E' a b):Rc E' a b:=by
 induction h with
 | one e=>exact .one (m _ _ e)
 | cons e _ ih=>exact .cons (m _ _ e) ih
theorem Rc.ends (h:Rc E a b) (m:∀a b,E a b->X a/\X b):X a/\X b:=by
 induction h with
 | one e=>exact m _ _ e
 | cons e _ ih=>exact ⟨(m _ _ e).1,ih.2⟩
end
section
variable {α:Type} {n:Nat} {st:Nat->List Nat} {R:List Nat} {M:List α} {mk:α->Nat->Prop}
noncomputable def Eg (st:Nat->List Nat) (R:List Nat) (a b:Nat):Prop:=a∈R/\b∈R/\b∈st a
structure wD (st:Nat->List Nat) (R:List Nat) (M:List α) (mk:α->Nat->Prop) (h:Nat):Prop where
 m:h∈R
 r:Rc (Eg st R) h h
 k:∀m∈M,∃x,Rc (Eg st R) h x/\Rc (Eg st R) x h/\mk m x
noncomputable def Due (st:Nat->List Nat) (R:List Nat) (M:List α) (mk:α->Nat->Prop) (r:Nat):Prop:=r∈R/\(wD st R M mk r\/∃h,wD st R M mk h/\Rc (Eg st R) r h)
theorem vN (h:Rc (Eg st R) a b):a∈R/\b∈R:=h.ends fun _ _ e=>⟨e.1,e.2.1⟩
theorem Eo (h:Rc (Eg st R) a b) (d:Due st R M mk b):Due st R M mk a:=
 ⟨(vN h).1,.inr (d.2.elim (fun z=>⟨b,z,h⟩) fun ⟨c,z,q⟩=>⟨c,z,h.trans q⟩)⟩
theorem Dg (hR:∀r∈R,r<n):Fr n st (·∈R) M mk (Due st R M mk):=by
 have step:∀a b,Rc (Eg st R) a b->Due st R M mk b->∃t∈st a,Due st R M mk t:=fun a b h d=>by
  cases h with
  | one e=>exact ⟨b,e.2.2,d⟩
  | cons e q=>exact ⟨_,e.2.2,Eo q d⟩
 refine ⟨fun r d=>hR r d.1,fun r d=>d.1,fun r d=>?_,fun m hm S h1 h2 r d=>?_⟩
 ·rcases d.2 with z | ⟨h,z,q⟩
  ·exact step r r z.r d
  ·exact step r h q ⟨z.m,.inl z⟩
 ·have back:∀a b,Rc (Eg st R) a b->Due st R M mk b->S b->S a:=fun a b h=>by
   induction h with
   | one e=>exact fun d s=>h2 _ (Eo (.one e) d) ⟨_,e.2.2,d,s⟩
   | cons e q ih=>exact fun d s=>h2 _ (Eo (.cons e q) d) ⟨_,e.2.2,Eo q d,ih d s⟩
  have home:∀h,wD st R M mk h->S h:=fun h z=>by
   obtain ⟨x,q1,q2,k⟩:=z.k m hm;have dh:Due st R M mk h:=⟨z.m,.inl z⟩
   have dx:=Eo q2 dh
   exact back h x q1 dx (h1 x dx k)
  rcases d.2 with z | ⟨h,z,q⟩
  ·exact home r z
  ·exact back r h q ⟨z.m,.inl z⟩ (home h z)
open Classical in
theorem yN (F:Fr n st (·∈R) M mk X):∀r,X r->Due st R M mk r:=by
 let EX:Nat->Nat->Prop:=fun a b=>X a/\X b/\b∈st a
 have mono:∀a b,Rc EX a b->Rc (Eg st R) a b:=fun a b h=>h.mono fun a b e=>⟨F.sub a e.1,F.sub b e.2.1,e.2.2⟩
 have inX:∀a b,Rc EX a b->X a/\X b:=fun a b h=>h.ends fun _ _ e=>⟨e.1,e.2.1⟩
 let rs:Nat->List Nat:=fun r=>(List.range n).filter fun y=>decide (y=r\/Rc EX r y)
 have bot:∀k r,(rs r).length=k->X r->∃h,X h/\(h=r\/Rc EX r h)/\∀y,Rc EX h y->Rc EX y h:=by
  intro k;induction k using Nat.strongRecOn with
  | ind k ih=>
   intro r hk hx;by_cases q:∀y,Rc EX r y->Rc EX y r
   ·exact ⟨r,hx,.inl rfl,q⟩
   ·obtain ⟨y,hy⟩:=Classical.not_forall.mp q
    obtain ⟨h1,h2⟩:=Classical.not_imp.mp hy;have ne:r≠y:=fun z=>by subst z;exact h2 h1
    have lt:(rs y).length<k:=by
     have e:rs y=(rs r).filter fun z=>decide (z=y\/Rc EX y z):=by
      show (List.range n).filter _=((List.range n).filter _).filter _
      rw [List.filter_filter];refine List.filter_congr fun z _=>?_
      by_cases q:z=y\/Rc EX y z
      ·have:z=r\/Rc EX r z:=.inr (q.elim (fun z=>by rw [z];exact h1) fun z=>h1.trans z)
       simp [q,this]
      ·simp [q]
     rw [e,<-hk];refine List.length_filter_lt_length_iff_exists.mpr ⟨r,List.mem_filter.mpr ⟨List.mem_range.mpr (F.lt r hx),by simp⟩,?_⟩
     simp only [decide_eq_true_eq]
     exact fun z=>z.elim ne h2
    obtain ⟨h,a1,a2,a3⟩:=ih _ lt y rfl (inX _ _ h1).2;exact ⟨h,a1,.inr (a2.elim (fun z=>by rw [z];exact h1) fun z=>h1.trans z),a3⟩
 intro r hx;obtain ⟨h,xh,hr,hb⟩:=bot _ r rfl hx;have hm:wD st R M mk h:=by
  obtain ⟨t,ht,xt⟩:=F.c h xh;have s1:Rc EX h t:=.one ⟨xh,xt,ht⟩
  have s2:Rc EX h h:=s1.trans (hb t s1)
  refine ⟨F.sub h xh,mono _ _ s2,fun m hm=>?_⟩
  obtain ⟨y,hy,k⟩:=F.a m hm (fun x=>∃y,(y=x\/Rc EX x y)/\mk m y) (fun x _ k=>⟨x,.inl rfl,k⟩) (fun x hx ⟨t,ht,xt,y,hy,k⟩=>⟨y,.inr (hy.elim (fun z=>by rw [z];exact .one ⟨hx,xt,ht⟩) fun z=>.cons ⟨hx,xt,ht⟩ z),k⟩) h xh
  rcases hy with rfl | hy
  ·exact ⟨y,mono _ _ s2,mono _ _ s2,k⟩
  ·exact ⟨y,mono _ _ hy,mono _ _ (hb y hy),k⟩
 refine ⟨F.sub r hx,?_⟩
 rcases hr with rfl | hr
 ·exact .inl hm
 ·exact .inr ⟨h,hm,mono _ _ hr⟩
end
noncomputable def ms (A P:List (Nat×Nat)):Nat:=(A.filter fun x=>!P.contains x).length
theorem FF {A P:List (Nat×Nat)} {x:Nat×Nat} (h:x∈A) (hx:x∉P):ms A (P++[x])<ms A P:=by
 unfold ms;have e:(A.filter fun y=>!(P++[x]).contains y)=(A.filter fun y=>!P.contains y).filter fun y=>!(y==x):=by
  rw [List.filter_filter];refine List.filter_congr fun y _=>?_
  rw [List.contains_append,Bool.not_or];by_cases q:y=x<;>simp [q]
 rw [e];exact List.length_filter_lt_length_iff_exists.mpr ⟨x,List.mem_filter.mpr ⟨h,by simpa using hx⟩,by simp⟩
theorem oh {E:Nat->Nat->Prop} {P:List (Nat×Nat)} {R:List Nat} (so:∀x∈P,Rc E x.1 x.2) (ed:∀a b,E a b->(a,b)∈P) (hE:∀a b,E a b->a∈R/\b∈R) (cl:∀o∈P,∀t∈R,(o.2,t)∈P->(o.1,t)∈P):(a,b)∈P↔Rc E a b:=by
 refine ⟨fun h=>so _ h,fun h=>?_⟩
 induction h with
 | one e=>exact ed _ _ e
 | cons e q ih=>exact cl (_,_) (ed _ _ e) _ (q.ends hE).2 ih
end KQ.M.B
namespace KC
open PySem PySem.Spec L2 T PySem.SeqAt
open PyProof.Rows hiding St
theorem den_check_room {w:Wd} (ok:w.Ok) {r:Nat} (hr:r<w.n):aH [w.enc,rm r]=.ok ⟨.leaf,.none⟩:=by
 have c:=IP (g:=yF) (g':=gy) (Γ:=aR 2 [w.enc,rm r]) (fa:=eK (.int 0)) (fb:=aa 1) (fc:=bh aM (ae (ag (aa 0) (eK (.int 0))) af)) (b:=decide ((0:Int)<=(r:Int))) (b':=decide ((r:Int)<(w.n:Int))) bg (au (i:=1) rfl) rfl rfl (G7 ok rfl) rfl
 have t:=dX (cZ (s:=.leaf) c)
 rw [decide_eq_true (show (0:Int)<=(r:Int) by omega),decide_eq_true (show (r:Int)<(w.n:Int) by omega)] at t
 exact lC (bN t nofun fun _=>rfl)
end KC
namespace T
open PySem PySem.Spec L2
open PyProof.Rows hiding St
variable {M:Model} {A:Around} {E2:Value->Shared->Prop} {K:Fg} {mg:Str->Option Value} {base:Heap} {N:List Str} {qual:Str} {sc:Scope} {cd:Value} {E':XK} {U:St}
theorem qE {P:Program} {w:World} {H:Hp} {h:Heap} {a:Addr} {o:HO} (x:ObjOk P w H h a o):∃u,h.get? a=some u:=by
 cases o with
 | lst xs=>obtain ⟨_,_,_,_,e⟩:=x;exact ⟨_,e⟩
 | tup xs=>obtain ⟨_,_,_,_,e,_⟩:=x;exact ⟨_,e⟩
 | dK kvs=>obtain ⟨_,_,_,_,o,_,_,e,_⟩:=x;exact ⟨_,e⟩
 | dT kvs=>obtain ⟨_,_,_,_,o,_,_,e,_⟩:=x;exact ⟨_,e⟩
 | set S n=>obtain ⟨o,_,_,_,e,_⟩:=x;exact ⟨_,e⟩
 | ins C dx fs=>obtain ⟨_,_,_,e,_⟩:=x;exact ⟨_,e⟩
 | own y=>obtain ⟨_,e⟩:=x;exact ⟨_,e⟩
 | xd fs=>obtain ⟨_,⟨_,_,_,e,_⟩,_⟩:=x;exact ⟨_,e⟩
 | rng lo hi=>obtain ⟨_,_,_,e⟩:=x;exact ⟨_,e⟩
 | frz ob u=>obtain ⟨e,_⟩:=x;exact ⟨_,e⟩
 | tbl ps=>exact ⟨_,show h.get? a=some _ from x⟩
 | met f y=>exact ⟨_,show h.get? a=some _ from x⟩
 | ext φ=>obtain ⟨_,⟨_,e⟩,_⟩:=x;exact ⟨_,e⟩
structure DC (P:Program) (w:World) (outer:List Env) (H:Hp) (s:Shared) (H':Hp) (C a:Addr) (s':Shared):Prop where
 os:s'.os=s.os
 bare:AllBare s'.gens
 un:Un (fJ outer) [] H H' s.heap s'.heap
 hok:HOk P w H' s'.heap
 fly:∃B a0,Heap.FlyingW B outer a (.ref C) a0 s'.heap/\(∀b o,H' b=some o->∃u,B.get? b=some u)/\(∀b o,s.heap.get? b=some o->b∉fJ outer->∃u,B.get? b=some u)
def sF (P:Program) (w:World):r9:=fun outer H s E e s'=>∃a C H',e=.ref a/\DC P w outer H s H' C a s'/\E (.ref C) none H'
section
variable {X:Cx} {pins:List (Addr×Obj)} {U:St} {H H':Hp} {s s':Shared} {B h2:Heap} {C a:Addr} {a0:Value} {E:XK}
theorem vJ (I:Inv X pins U H s) (hex:X.ex=[]) (hst:X.stack=X.env::X.outer) (hf:X.env.frame=some X.env.locals)
  (un:Un (fJ X.stack) [] H H' s.heap h2) (hok:HOk X.prog X.w H' h2) (st:B.StaysIn h2) (c1:∀b o,H' b=some o->∃u,B.get? b=some u) (c2:∀b o,s.heap.get? b=some o->b∉fJ X.stack->∃u,B.get? b=some u)
  (ff:h2.FunFrames B X.stack) (fl:Heap.FlyingW B X.outer a (.ref C) a0 s'.heap) (up:h2.UpToSlots s'.heap) (os:s'.os=s.os) (bare:AllBare s'.gens):DC X.prog X.w X.outer X.H₀ X.s₀ H' C a s':=by
 have hfs:fJ X.stack=X.env.locals::X.fs:=by
  rw [hst];show List.filterMap _ _=_
  rw [filterMap_cons,hf];rfl
 have hx:∀b:Addr,b∉X.ex:=fun b=>by rw [hex];exact nofun
 have hn:∀b:Addr,b∉([]:List Addr):=fun b z=>nomatch z
 have old:∀b o,X.s₀.heap.get? b=some o->b∉X.fs->b∉fJ X.stack:=fun b o q hb z=>by
  rw [hfs] at z;rcases LZ z with z | z
  ·have l1:=Heap.lt_size q
   have l2:=I.ok.above
   rw [<-z] at l2;exact absurd l1 (Nat.not_lt.mpr l2)
  ·exact hb z
 have keepB:∀b o u,B.get? b=some u->h2.get? b=some o->s'.heap.get? b=some o:=fun b o u e1 e2=>by
  have e3:=st b u e1
  rw [e2] at e3
  cases e3;exact fl.1 b o e1
 have ffo:=fl.2.2.1
 refine ⟨os.trans I.os,bare,⟨fun b o q n hb _=>?_,fun b o q n hb _=>?_,fun b o q n _=>?_,fun b o q _=>?_,fun b xs q=>un.tups b xs (I.base.tups b xs q),fun b o u q=>un.frzs b o u (I.base.frzs b o u q),fun b ps q=>?_⟩,fun b o e=>?_,B,a0,fl,c1,fun b o q hb=>?_⟩
 ·have q1:=I.base.keep b o q n hb (hx b)
  have n1:=I.base.free b o q n (hx b)
  have hb':=old b o q hb
  obtain ⟨u,e⟩:=c2 b o q1 hb'
  exact keepB b o u e (un.keep b o q1 n1 hb' (hn b))
 ·obtain ⟨sl,q1⟩:=I.base.slot b o q n hb (hx b)
  have n1:=I.base.free b o q n (hx b)
  have hb':b∈fJ X.stack:=by rw [hfs];exact L5 _ hb
  obtain ⟨sl2,q2⟩:=un.slot b _ q1 n1 hb' (hn b)
  obtain ⟨_,o',e,d⟩:=ff.mem hb'
  rw [q2] at e
  cases e;obtain ⟨sl3,q3⟩:=up b _ q2 d;exact ⟨sl3,q3⟩
 ·obtain ⟨o1,q1⟩:=I.base.there b o q (hx b)
  exact un.free b o1 q1 (I.base.free b o q n (hx b)) (hn b)
 ·obtain ⟨o1,q1⟩:=I.base.there b o q (hx b)
  by_cases hb:b∈X.fs
  ·obtain ⟨_,o',e,_⟩:=ffo.mem hb
   exact ⟨o',e⟩
  ·obtain ⟨u,e⟩:=c2 b o1 q1 (old b o q hb)
   exact ⟨u,fl.1 b u e⟩
 ·obtain ⟨m1,e1⟩:=I.base.tbls b ps q
  obtain ⟨m2,e2⟩:=un.tbls b _ e1;exact ⟨m1++m2,by rw [e2,Array.append_assoc]⟩
 ·refine (hok b o e).stay (fun c u hc q=>?_) (fun _ q=>q) fun _ _ q=>q
  have hc':∃o',H' c=some o':=by
   rcases hc with z | z
   ·exact ⟨o,by rw [z];exact e⟩
   ·exact ⟨_,z⟩
  obtain ⟨o',z⟩:=hc'
  obtain ⟨v,e1⟩:=c1 c o' z
  exact keepB c u v e1 q
 ·obtain ⟨o1,q1⟩:=I.base.there b o q (hx b)
  exact c2 b o1 q1 (old b o q hb)
theorem C8 {Q:Unit->Shared->Prop} (I:Inv X pins U H s) (hex:X.ex=[]) (hst:X.stack=X.env::X.outer) (hf:X.env.frame=some X.env.locals) (hA:A.frames=some X.stack) (f:DC X.prog X.w X.stack H s H' C a s')
  (hQ:∀h',DC X.prog X.w X.outer X.H₀ X.s₀ H' C a { s' with heap:=h' }->Q () { s' with heap:=h' }):wpAny M A (leaving X.env (.ref a)) Q E2 s':=by
 obtain ⟨os,bare,un,hok,B,a0,fl,c1,c2⟩:=f;refine wpAny_leaves_onW (by rw [hA,hst]) hf (by rw [<-hst];exact fl) fun h' fl' up=>hQ h' ?_
 exact vJ (s':={ s' with heap:=h' }) I hex hst hf un hok fl.1 c1 c2 fl.2.2.1 fl' up os bare
theorem vK {Q:Unit->Shared->Prop} {h1:Heap} {args:List Value} (I:Inv X pins U H s) (hex:X.ex=[]) (hst:X.stack=X.env::X.outer) (hf:X.env.frame=some X.env.locals) (hA:A.frames=some X.stack)
  (hx:Heap.MadeExcOf s.heap h1 a (.ref C) args) (hQ:∀h',DC X.prog X.w X.outer X.H₀ X.s₀ H C a { s with heap:=h' }->Q () { s with heap:=h' }):wpAny M A (leaving X.env (.ref a)) Q E2 { s with heap:=h1 }:=by
 have ff:s.heap.FunFrames (PySem.W.hideAll s.heap (fJ X.stack)) X.stack:=PySem.W.funFrames_hide I.stack fun env he b hb=>List.mem_filterMap.mpr ⟨env,he,hb⟩
 refine wpAny_leaves_madeW (base:=PySem.W.hideAll s.heap (fJ X.stack)) (h:=s.heap) (env:=X.env) (outer:=X.outer) (by rw [hA,hst]) hf (fun b o q=>PySem.W.of_hideAll _ q) (by rw [<-hst];exact ff) hx fun h' t fl _ _ up=>hQ h' ?_
 refine vJ (h2:=s.heap) (s':={ s with heap:=h' }) I hex hst hf (Un.kept fun b o q=>q) I.hok (fun b o q=>PySem.W.of_hideAll _ q) (fun b o e=>?_) (fun b o q hb=>⟨o,PySem.W.hideAll_get _ q hb⟩) ff fl ((Heap.UpToSlots.of_keeps hx.keeps).trans up) rfl I.bare
 by_cases hb:b∈fJ X.stack
 ·have:=I.stkFree b hb
  rw [this] at e
  cases e
 ·obtain ⟨u,hu⟩:∃u,s.heap.get? b=some u:=by
   exact qE (I.hok b o e)
  exact ⟨u,PySem.W.hideAll_get _ hu hb⟩
end
theorem Fp {P:Program} {w:World} {f:Addr} {outer:List Env} {s:Shared} {H:Hp} {E:XK}
  (h:∀u d H',E' u d H'->E u d H'):GH (sF P w) (eh (sF P w) P w K mg base N qual sc f cd A outer s H E) E':=by
 intro pins U H1 s1 e s2 I h2;obtain ⟨a,C,H',rfl,fl,hE⟩:=h2;exact C8 I rfl rfl rfl I.ok.frames fl fun h' fl'=>⟨a,C,H',rfl,fl',h _ _ _ hE⟩
def Makes (X:Cx) (E:XK):Prop:=∀(pins:List (Addr×Obj)) (U:St) (H:Hp) (s:Shared) (h1:Heap) (a C:Addr) (args:List Value),Inv X pins U H s->Heap.MadeExcOf s.heap h1 a (.ref C) args->E (.ref C) none H->X.xe (.ref a) { s with heap:=h1 }
theorem Cq {P:Program} {w:World} {f:Addr} {outer:List Env} {s:Shared} {H:Hp} {E:XK}
  (h:∀u d H',E' u d H'->E u d H'):Makes (eh (sF P w) P w K mg base N qual sc f cd A outer s H E) E':=by
 intro pins U H1 s1 h1 a C args I hx hE;exact vK I rfl rfl rfl I.ok.frames hx fun h' fl=>⟨a,C,H1,rfl,fl,h _ _ _ hE⟩
section
variable {X:Cx} {x:Str} {C:Addr} {B Bn newId nid initId inN:String} {bm bmN:List Value} {np cpos pos:Pos} {e:Expr} {es:List Expr} {t:TA} {E:XK}
def Bb (C:Addr) (E:XK) (t:TA):TS:=fun _ U H=>t U H fun vs H1=>vs.length<=sizeLine/\E (.ref C) none H1
theorem uF (hc:X.calm=true) (O:OwnCls x C bm newId X.mg X.base) (Fn:ExcBaseFacts Bn newId inN bmN) (hBn:bm.contains (.type Bn)=true) (FB:ExcBaseFacts B nid initId bm) (hg:Gl X x) (hM:Makes X E) (ha:PA X (e::es) t)
  (he:starEach (e::es) X.env=(false,eval e X.env)::starEach es X.env:=by rfl) (hplain:(backTo cpos (starEach es X.env)).any (·.1)=false:=by rfl) (hd:(x==("__debug__":Str))=false:=by decide) :
  PS X (.Raise (some (.Call (.Name x np) (e::es) [] cpos)) none pos) (Bb C E t):=by
 intro pins s U H D I h;obtain ⟨tl,N,nm,q,bs,hdct,sn,sub,ab,col,dd,k0,k1,k2,k3,k5,mN,hC,hN,hni,T⟩:=O.obj;refine wpAny_Raise_call_subU (C:=C) (nm:=nm) (q:=q) (N:=N) (bs:=bs) (bm:=tl) (hdct:=hdct) (sn:=sn) (sub:=sub) (ab:=ab) (col:=col) (dd:=dd) (k0:=k0) (k1:=k1) (k2:=k2) (k3:=k3) (k5:=k5)
  Fn hBn FB (mN:=mN) (T.hasType FB.hasBase) (I.ok.hd hc) (by rw [he];show (false||(backTo cpos (starEach es X.env)).any (·.1))=false;rw [hplain];rfl) hni (Ei I hg O.bound ⟨rfl,?_⟩ hd)
 have h2:=ha cpos pins s U H _ I h
 rw [he] at h2 ⊢;refine Calls.evalArgs_plain (wpAny_mono h2 (fun vs s₂ h₂=>?_) fun _ _ y=>y)
 obtain ⟨ws,H1,I1,r,hl,hE⟩:=h₂;exact ⟨rfl,by rw [<-r.length];exact hl,I1.bk _ _ hC,hN.keeps I1.bk,T.keeps I1.bk,fun h' a hx=>hM pins U H1 s₂ h' a C vs I1 hx hE⟩
end
def G9 (CX:r9) (X:Cx) (EE:St->XK):Prop:=∀(pins:List (Addr×Obj)) (U:St) (H:Hp) (s:Shared) (e:Value) (s':Shared),Inv X pins U H s->CX X.stack H s (EE U) e s'->X.xe e s'
def tR (sp:Sp) (EE:St->XK) (t:TA):TE:=fun U H Q=>t U H fun vs H1=>sp vs H1 Q (EE U)
section
variable {X:Cx} {CX:r9} {k:Nat} {f:Addr} {fd:FuncData} {ps:List Str} {sp:Sp} {EE:St->XK} {x:Str} {p pos:Pos} {e:Expr} {es:List Expr} {t:TA}
theorem xu {pins:List (Addr×Obj)} {H:Hp} {s:Shared} {Q:VK} {us:List Value} {vs:List V} (F:cO X.prog X.w X.K X.mg X.base CX k f fd ps sp) (hr:Room k X.A) (hb:Binds X.K fd ps []) (hx:G9 CX X EE)
  (I:Inv X pins U H s) (r:Vals vs us) (h:sp vs H Q (EE U)):wpAny (model X.prog X.w) X.A (call (.ref f) us) (EP X pins U Q) X.xe s:=by
 have hl:us.length=ps.length:=by rw [<-r.length];exact F.len _ _ _ _ h
 have hb2:=hb s us I.kIn (by rw [append_nil];exact hl)
 rw [append_nil] at hb2;refine wpAny_call (codeAny_mono (F.run X.A X.stack s H ⟨us,[]⟩ us vs Q (EE U) hr I.env0 hb2 r h) fun r s' hq=>?_)
 cases r with
 | error e=>exact hx pins U H s e s' I hq
 | ok fl=>
  cases fl with
  | ret u=>exact I.after hq
  | next=>exact False.elim hq
  | brk=>exact False.elim hq
  | cont=>exact False.elim hq
theorem uU (F:cO X.prog X.w X.K X.mg X.base CX k f fd ps sp) (hr:Room k X.A) (hg:Gl X x) (hm:X.mg x=some (.ref f)) (hk:PySem.W.keepIn X.K (.ref f)=true) (hb:Binds X.K fd ps []) (hx:G9 CX X EE)
  (ha:PA X (e::es) t) (hdb:(x==("__debug__":Str))=false:=by decide) (he:starEach (e::es) X.env=(false,eval e X.env)::starEach es X.env:=by rfl) (hpl:(backTo pos (starEach es X.env)).any (·.1)=false:=by rfl) :
  PE X (.Call (.Name x p) (e::es) [] pos) (tR sp EE t):=by
 intro pins s U H Q I h;refine wpAny_Call_Name_kw (Ei I hg hm ?_ hdb)
 refine PySem.W.callWith_K (h₀:=X.base) I.ok.mod.kin hk (bj (ha pos pins s U H _ I h) fun us s1 ⟨vs,H1,I1,r,q⟩=>⟨I1.kIn,?_⟩) he hpl
 exact xu F hr hb hx I1 r q
end
def dS (X:Cx) (pins:List (Addr×Obj)) (W:Addr->St->Hp->Prop):Cx:=
 { X with pn:=X.pn++pins,xe:=fun e s'=>∃(ps:List (Addr×Obj)) (U:St) (H H':Hp) (s:Shared) (a C:Addr),e=.ref a/\Inv X (pins++ps) U H s/\DC X.prog X.w X.stack H s H' C a s'/\W C U H' }
section
variable {X:Cx} {pins ps:List (Addr×Obj)} {W:Addr->St->Hp->Prop} {U:St} {H:Hp} {s:Shared}
theorem vt (ok:X.Ok):(dS X pins W).Ok:=⟨ok.mod,ok.kind,ok.glob,ok.blt,ok.above,ok.inj,ok.has,ok.cab,ok.hd,ok.frames,ok.stk,ok.exf,ok.bs,ok.bsz,ok.noex,ok.exfs,ok.funs,ok.frf⟩
theorem vp (ok:(dS X pins W).Ok):X.Ok:=⟨ok.mod,ok.kind,ok.glob,ok.blt,ok.above,ok.inj,ok.has,ok.cab,ok.hd,ok.frames,ok.stk,ok.exf,ok.bs,ok.bsz,ok.noex,ok.exfs,ok.funs,ok.frf⟩
theorem vq (I:Inv X (pins++ps) U H s):Inv (dS X pins W) ps U H s:=⟨vt I.ok,I.os,I.bare,I.base,I.loc,I.cell,I.free,I.freeC,fun p hp=>I.pin p (by rw [<-append_assoc];exact hp),I.hok,I.len⟩
theorem lP (I:Inv (dS X pins W) ps U H s):Inv X (pins++ps) U H s:=⟨vp I.ok,I.os,I.bare,I.base,I.loc,I.cell,I.free,I.freeC,fun p hp=>I.pin p (by rw [<-append_assoc] at hp;exact hp),I.hok,I.len⟩
theorem Inv.less (I:Inv X (pins++ps) U H s):Inv X pins U H s:=⟨I.ok,I.os,I.bare,I.base,I.loc,I.cell,I.free,I.freeC,fun p hp=>I.pin p (by rw [<-append_assoc];exact LU _ hp),I.hok,I.len⟩
theorem jW:G9 (sF X.prog X.w) (dS X pins W) fun U=>fun u _ H'=>∃C,u=.ref C/\W C U H':=by
 intro qs U H s e s' I h
 obtain ⟨a,C,H',rfl,fl,C',hC,hW⟩:=h
 cases hC;exact ⟨qs,U,H,H',s,a,C,rfl,lP I,fl,hW⟩
end
theorem FM {A B:Bool->Hp->Prop} {H:Hp} (h:A true H):oG U H fun b H=>if b=true then A b H else B b H:=by
 show (if true=true then A true H else B true H)
 rw [if_pos rfl];exact h
end T
namespace KC
open PySem PySem.Spec L2 T PySem.SeqAt
open PyProof.Rows hiding St
variable {Γ:Ev} {fb:F1}
noncomputable def B3 (w:Wd) (r:Nat):Int:=if own w 0 r then 0 else 1
section
variable {w:Wd}
theorem B2 (ok:w.Ok) {i:Nat} {s:Sh} {r:Nat} (h0:Γ[i]?=some (Md w.enc)) (hb:fb Γ=.ok ⟨s,rm r⟩ Γ) (hr:r<w.n):ag (ag (aa i) (eK (.int 0))) fb Γ=.ok ⟨.leaf,.int (B3 w r)⟩ Γ:=by
 obtain ⟨o,ho,e,h⟩:=ok.o_at hr;have:B3 w r=o:=by
  unfold B3;rw [h 0];rcases ho with rfl | rfl<;>rfl
 rw [this,dC,dC,au h0];simp only [Out.bind,bg,Wd.enc,de,i9,zT]
 rw [hb];simp only [ja]
 rw [e]
theorem Cm (ok:w.Ok) {i:Nat} {s:Sh} {r:Nat} (h0:Γ[i]?=some (Md w.enc)) (hb:fb Γ=.ok ⟨s,rm r⟩ Γ) (hr:r<w.n):ag (ag (aa i) (eK (.int 1))) fb Γ=.ok ⟨.leaf,bw (w.mks r)⟩ Γ:=by
 rw [dC,dC,au h0];simp only [Out.bind,bg,Wd.enc,de,i9,zS]
 rw [hb];simp only [ja]
 rw [ok.at1 hr]
end
section
variable {w:Wd} {o:Bool} {N:List Nat} {m:Nat}
theorem yk (ok:w.Ok) {r:Nat} (hr:r<w.n):w.mks r∈w.m:=by
 unfold Wd.mks;rw [L1,L0 (by rw [ok.lm];exact hr)]
 exact getElem_mem _
theorem oM (ok:w.Ok) {i:Nat} {s:Sh} {r:Nat} (h0:Γ[i]?=some (Md w.enc)) (hb:fb Γ=.ok ⟨s,rm r⟩ Γ) (hr:r<w.n):ag (ag (aa i) (eK (.int 2))) fb Γ=.ok ⟨.leaf,aw (w.stp r)⟩ Γ:=by
 rw [dC,dC,au h0];simp only [Out.bind,bg,Wd.enc,de,i9,zR]
 rw [hb];simp only [ja]
 rw [ok.at2 hr]
end
end KC
namespace T
open PySem PySem.Spec L2
open PyProof.Rows hiding St
variable {h:Heap} {L:Addr} {X:Cx}
noncomputable def dZ (h:Heap) (L:Addr):List (Addr×Obj):=(List.range h.objs.size).filterMap fun b=>if b=L then none else (h.get? b).map fun o=>(b,o)
theorem mem_objsBut {b:Addr} {o:Obj}:(b,o)∈dZ h L↔b≠L/\h.get? b=some o:=by
 unfold dZ;rw [List.mem_filterMap];constructor
 ·rintro ⟨c,_,e⟩
  split at e
  ·cases e
  ·rename_i hc
   obtain ⟨o',h1,h2⟩:=Option.map_eq_some_iff.mp e
   cases h2;exact ⟨hc,h1⟩
 ·rintro ⟨h1,h2⟩
  exact ⟨b,List.mem_range.mpr (Heap.lt_size h2),by rw [if_neg h1,h2];rfl⟩
noncomputable def noHeap:Heap:={ objs:=#[] }
theorem gV (b:Addr):noHeap.get? b=none:=Heap.get?_none_of_le (Nat.zero_le _)
noncomputable def zV (K:Fg):List V->Hp->VK->Prop:=fun xs H Q=>∃(p:Addr) (vs:List V) (ls:List (List V)),xs=[.ref p]/\SqL K H p vs/\vs.length=ls.length/\(∀(i:Nat) v l,vs[i]?=some v->ls[i]?=some l->∃a,v=.ref a/\SqL K H a l)/\0<vs.length /\
 ∀(i:Nat) v l,vs[i]?=some v->ls[i]?=some l->(∀(j:Nat) l',ls[j]?=some l'->l.length<=l'.length/\(j<i->l.length<l'.length))->Q v H
theorem yg {m m':Str->Option Value} (a:h.Ns L m) (b:h.Ns L m'):m=m':=by
 obtain ⟨o,es,ep,h1,h2,_,h3⟩:=a;obtain ⟨o',es',ep',g1,g2,_,g3⟩:=b;rw [h1] at g1
 cases g1;rw [h2] at g2
 cases g2;funext x
 rw [<-h3,<-g3]
theorem qS {pins:List (Addr×Obj)} {U:St} {H:Hp} {s:Shared} {h':Heap} {t':Nat} {m:Str->Option Value} (I:L2.Inv X pins U H s) (hn:s.heap.Ns X.env.locals m) (k:∀b o,b≠X.env.locals->s.heap.get? b=some o->h'.get? b=some o) (hn':h'.Ns X.env.locals m):L2.Inv X pins U H { s with heap:=h',toks:=t' }:=by
 have nit:∀b u,H b=some u->b≠X.env.locals:=fun b u e z=>by rw [z,I.free] at e;cases e
 refine I.step (g':=s.gens) (d':=s.drawn) (ch:=[]) (fun _ z=>nomatch z) (fun b o hb _ _ e _=>k b o hb e) (fun b o hb _ _ e _=>⟨o.slots,k b o hb e⟩) (fun _ _ _ _ n=>n)
  (fun b o _ e=>?_) (fun _ _ e=>e) (fun _ _ _ e=>e) (fun b ps e=>⟨#[],by rw [e];simp⟩) (fun m' hm=>by rw [<-yg hn hm];exact hn') (fun b u e=>?_) I.bare
 ·by_cases hb:b=X.env.locals
  ·subst hb
   obtain ⟨o',_,_,h1,_⟩:=hn'
   exact ⟨o',h1⟩
  ·exact ⟨o,k b o hb e⟩
 ·refine (I.hok b u e).stay (fun c v hc q=>k c v ?_ q) (fun _ q=>q) fun _ _ q=>q
  rcases hc with z | z
  ·rw [z];exact nit b u e
  ·exact nit c _ z
theorem xX {e:Expr} {ta:TA} {p p2 kpos pos:Pos} (hc:X.calm=true) (hg:Gl X "min") (hm:X.mg "min"=none) (hg2:Gl X "len") (hm2:X.mg "len"=none) (ha:PA X [e] ta) (hs:starEach [e] X.env=[(false,eval e X.env)]) :
  PE X (.Call (.Name "min" p) [e] [⟨some "key",.Name "len" p2,kpos⟩] pos) (xo (zV X.K) ta):=by
 intro pins s U H Q I h;refine wpAny_Call_Name_kw (wH I hg hm Gn ?_)
 refine PyProof.Rows.callWith_kw (bj (ha pos pins s U H _ I h) fun us s1 ⟨xs,H1,I1,r1,q1⟩=>?_) (by rw [hs];rfl) (by rw [hs];rfl) rfl rfl
 show wpAny _ _ (evalAll [do let v <-eval (.Name "len" p2) X.env;standAt pos;pure v]) _ _ s1
 refine wpAny_evalAll_cons (L8 (wH I1 hg2 hm2 Ao (L8 (wpAny_standAt (L9 (wpAny_evalAll_nil ?_))))))
 obtain ⟨a,vs,ls,rfl,hq,hl,hel,hne,q⟩:=q1;obtain ⟨u,rfl,ru⟩:=vals1 r1
 cases ru;obtain ⟨its,rv,pl,hz⟩:=I1.list hq;obtain ⟨m,hns,hlook⟩:=I1.loc;have hlen:vs.length=its.length:=rv.length
 have neL:∀{b:Addr} {xs:Array Value},s1.heap.IsList b xs->b≠X.env.locals:=fun {b xs} h z=>by
  obtain ⟨o,h1,_,n,h2⟩:=h;obtain ⟨o',es,ep,g1,g2,_⟩:=hns;rw [z,g1] at h1
  cases h1;rw [g2] at h2
  cases h2
 have mv:∀{h:Heap} {b:Addr} {xs:Array Value},News noHeap X.env.locals h (dZ s1.heap X.env.locals)->s1.heap.IsList b xs->h.IsList b xs:=fun {h b xs} N hl=>by
  have hb:=neL hl
  obtain ⟨o,h1,h2⟩:=hl;exact ⟨o,(N (b,o) (mem_objsBut.mpr ⟨hb,h1⟩)).1,h2⟩
 have F0:Fr noHeap X.env.locals s1.heap m:=⟨hns,(fun b o e=>by rw [gV] at e;cases e),Nat.zero_le _⟩
 have N0:News noHeap X.env.locals s1.heap (dZ s1.heap X.env.locals):=fun p hp=>⟨(mem_objsBut.mp hp).2,(mem_objsBut.mp hp).1,gV _⟩
 show wpAny _ _ (call (.builtin "min") [.ref a] [(Str.ofString "key",.builtin "len")]) _ _ s1
 refine kmb_min (h₀:=noHeap) (L:=X.env.locals) (m:=m) (news:=dZ s1.heap X.env.locals) (vs:=its) (fun i=>((ls.getD i []).length:Int)) (I1.ok.hd hc) F0 N0 (fun h _ N=>mv N pl.isList) (by omega) (fun i v hv h tk own F N=>?_) fun i v h' tk' hv hb F N=>?_
 ·have hi:i<vs.length:=by have:=(L7 hv).1;omega
  have hi2:i<ls.length:=by omega
  obtain ⟨u,hu,ru⟩:=rv.get (L0 hi)
  rw [hv] at hu
  cases hu;obtain ⟨b,eb,hb⟩:=hel i vs[i] ls[i] (L0 hi) (L0 hi2)
  rw [eb] at ru
  cases ru;obtain ⟨its2,rv2,pl2,hz2⟩:=I1.list hb;have hl2:=rv2.length
  have hN:News noHeap X.env.locals h (dZ s1.heap X.env.locals):=fun p hp=>N p (LU _ hp)
  have hn63:=zp
  refine Calls.call_len_list (mv hN pl2.isList) (by simp only [size_toArray];omega) ⟨h,_,tk+1,rfl,?_,F,N⟩
  rw [L1,L0 hi2,size_toArray,<-hl2];rfl
 ·have hi:i<vs.length:=by have:=(L7 hv).1;omega
  have hi2:i<ls.length:=by omega
  obtain ⟨u,hu,ru⟩:=rv.get (L0 hi)
  rw [hv] at hu
  cases hu;refine ⟨vs[i],H1,qS I1 hns (fun b o hb e=>(N (b,o) (mem_objsBut.mpr ⟨hb,e⟩)).1) F.ns,ru,q i _ ls[i] (L0 hi) (L0 hi2) fun j l' hj=>?_⟩
  have hj2:=(L7 hj).1
  have this:=hb j (by omega)
  rw [L1,L0 hi2,L1,hj] at this;have this:(ls[i].length:Int)<=(l'.length:Int)/\(j<i->(ls[i].length:Int)<(l'.length:Int)):=this
  exact ⟨by omega,fun z=>by have:=this.2 z;omega⟩
section
variable {K:Fg} {W:XW} {He H:Hp} {O:List Addr} {Fs:List (List Addr)} {U:St} {Γ:Ev} {D:cW}
theorem EnvOk.nm {j:Nat} {x:Option V} (E:EnvOk K He O Fs H U Γ) (hj:∀p,Γ[j]?≠some (some p)):EnvOk K He O Fs H (U.set j x) Γ:=
 ⟨by rw [length_set];exact E.len1,E.len2,E.same,E.nd,E.inH,E.fresh,fun m p hm=>by
  have hne:j≠m:=fun z=>hj p (by rw [z];exact hm)
  obtain ⟨a,v,F,b,c,d⟩:=E.slot m p hm;exact ⟨a,v,F,by rw [getElem?_set_ne hne];exact b,c,d⟩⟩
end
mutual
def rz:Mc->Nat
 | .none=>4
 | .bool _=>5
 | .int _=>1921
 | .str _=>20000000
 | .list xs=>2+rzL xs
 | .tuple xs=>3+rzL xs
 | .dict _=>20000000
def rzL:List Mc->Nat
 | []=>0
 | x::xs=>(rz x+2)+rzL xs
end
theorem oF:∀(ts:List Str) (k:Nat) (acc:Str),(textFrom k acc ts).length<=acc.length+piled ts
 | [],k,acc=>Mb _
 | t::ts,k,acc=>by
  have h:=oF ts (k+1) (acc++(if k>0 then ", " else "":String)++t)
  rw [Str.length_append,Str.length_append] at h;have h2:(Str.ofString (if k>0 then ", " else "":String)).length<=2:=by
   split
   ·rw [PySem.ofString_length];decide
   ·rw [PySem.ofString_length];decide
  show (textFrom (k+1) (acc++(if k>0 then ", " else "":String)++t) ts).length<=_
  rw [piled_cons];omega
mutual
theorem kI:∀(d:Mc),d.showable=true->rz d<17000000->d.shown.length<=rz d
 | .none,_,_=>by
  show (Str.ofString "None").length<=4
  rw [PySem.ofString_length];decide
 | .bool b,_,_=>by
  cases b
  ·show (Str.ofString (if false then "True" else "False")).length<=5
   rw [PySem.ofString_length];decide
  ·show (Str.ofString (if true then "True" else "False")).length<=5
   rw [PySem.ofString_length];decide
 | .int i,h,_=>by
  have h:i.natAbs.log2<1920:=of_decide_eq_true (by simpa [PyData.showable] using h)
  show (Str.ofString (toString i)).length<=1921
  rw [PySem.ofString_length];exact int_text_length_le (by decide) h
 | .str x,_,h=>by
  have h:(20000000:Nat)<17000000:=h
  omega
 | .dict _,_,h=>by
  have h:(20000000:Nat)<17000000:=h
  omega
 | .list xs,h,hz=>by
  have hz:2+rzL xs<17000000:=hz
  have p:=shownAll_le xs (by simpa [PyData.showable] using h) (by omega)
  show (listText (PyData.shownAll xs)).length<=2+rzL xs
  unfold listText;rw [Str.length_append];have t:=oF (PyData.shownAll xs) 0 "["
  have e1:(Str.ofString "[").length=1:=by rw [PySem.ofString_length];decide
  have e2:(Str.ofString "]").length=1:=by rw [PySem.ofString_length];decide
  omega
 | .tuple xs,h,hz=>by
  have hz:3+rzL xs<17000000:=hz
  have p:=shownAll_le xs (by simpa [PyData.showable] using h) (by omega)
  show (tupleText (PyData.shownAll xs)).length<=3+rzL xs
  unfold tupleText;rw [Str.length_append,Str.length_append];have e1:(Str.ofString "(").length=1:=by rw [PySem.ofString_length];decide
  have e2:(Str.ofString (if (PyData.shownAll xs).length==1 then ",)" else ")":String)).length<=2:=by
   split
   ·rw [PySem.ofString_length];decide
   ·rw [PySem.ofString_length];decide
  have e3:(Str.join ", " (PyData.shownAll xs)).length<=piled (PyData.shownAll xs):=by
   by_cases hn:PyData.shownAll xs=[]
   ·rw [hn];exact Nat.le_of_eq rfl
   ·have:=join_length_add _ hn
    omega
  omega
theorem shownAll_le:∀(xs:List Mc),PyData.showableAll xs=true->rzL xs<17000000->piled (PyData.shownAll xs)<=rzL xs
 | [],_,_=>Mb _
 | x::xs,h,hz=>by
  have h:x.showable=true/\PyData.showableAll xs=true:=by simpa [PyData.showableAll] using h
  have hz:(rz x+2)+rzL xs<17000000:=hz
  have a:=kI x h.1 (by omega)
  have b:=shownAll_le xs h.2 (by omega)
  show piled (x.shown::PyData.shownAll xs)<=(rz x+2)+rzL xs
  rw [piled_cons];omega
end
def CD:Mc->Bool
 | .list _=>true
 | .tuple _=>true
 | _=>false
def dD:List Mc->Option Mc
 | [d]=>if CD d&&d.canLay0&&d.showable&&decide (d.depth<=50)&&decide (rz d<=16000000) then some (.str d.shown) else none
 | _=>none
def zU (K:Fg):List V->Hp->VK->Prop:=fun xs H Q=>∃(p:Addr) (d:Mc),xs=[.ref p]/\Rep K H (.ref p) d/\d.canLay0=true/\d.showable=true/\d.depth<=50/\rz d<=16000000/\Q (.str d.shown) H
theorem yC {K:Fg}:GCall K (zU K) dD:=by
 intro vs H Q ds d r e k;unfold dD at e;split at e
 case h_2=>cases e
 rename_i d0
 cases hc:(CD d0&&d0.canLay0&&d0.showable&&decide (d0.depth<=50)&&decide (rz d0<=16000000)) with
 | false=>rw [hc] at e;cases e
 | true=>
  rw [hc] at e
  cases e;simp only [Bool.and_eq_true,decide_eq_true_eq] at hc
  obtain ⟨⟨⟨⟨c1,c2⟩,c3⟩,c4⟩,c5⟩:=hc;match vs,r.1 with
  | [v],_=>
   have rv:Rep K H v d0:=r.2 0 v d0 rfl rfl
   obtain ⟨p,rfl⟩:∃p,v=.ref p:=by
    cases rv with
    | lst=>exact ⟨_,rfl⟩
    | tup=>exact ⟨_,rfl⟩
    | _=>cases c1
   exact ⟨p,d0,rfl,rv,c2,c3,c4,c5,k _ (.str _)⟩
theorem rT (hr:Rm X) (hg:X.A.guards=some []):CallR X (.builtin "repr") (zU X.K):=by
 intro pins s U H xs us Q I rv h;obtain ⟨p,d,rfl,r,c2,c3,c4,c5,q⟩:=h;obtain ⟨u,rfl,ru⟩:∃u,us=[u]/\RelV (.ref p) u:=by
  cases rv with
  | cons a b=>cases b;exact ⟨_,rfl,a⟩
 cases ru;obtain ⟨as,R⟩:=r.reads I (.ref p) rfl;have hu:X.A.units+64<cLine:=hr
 have big:(16000000:Nat)<=sizeLine:=by decide
 refine repr_of_reads' R c3 (PyData.noDict_hsm (PyData.hasDict_of_canLay d c2)) hg (by omega) (fun _ _ e=>e) (fun h' u tk hk=>?_) (by have:=kI d c3 (by omega);omega)
 exact ⟨.str d.shown,H,I.kept (t':=tk) hk,⟨u,rfl⟩,q⟩
theorem boot_repr:bootBuiltins "repr"=some (.builtin "repr"):=by decide +kernel
section
variable {X:Cx} {N gl:List Str} {vs cs ls lo gs:List Nat} {W:XW} {a:Expr} {pos p:Pos} {fa:F1}
theorem cb_repr (S:Cp X N gl vs cs ls lo gs) (hr:Rm X) (hG:X.A.guards=some []) (j:Nat) (hj:gl[j]?=some ("repr":Str)) (hg:gs.contains j=true) (hm:X.mg "repr"=none) (ha:PE X a (tE X.K W fa)) (hs:starEach [a] X.env=[(false,eval a X.env)]) (hpl:(backTo pos (starEach [] X.env)).any (·.1)=false) :
  PE X (.Call (.Name "repr" p) [a] [] pos) (tE X.K W (bh dD (ae fa af))):=
 aJ (AG (rT hr hG) (S.g hj hg).1 hm boot_repr (da_cons ha da_nil hs) (S.g hj hg).2.2 (S.g hj hg).2.1 hs hpl) fun _ _ _=>o4 yC
end
end T
namespace TQ
open PySem PySem.Spec L2 T
open PyProof.Rows hiding St
section
variable {X:Cx} {N gl:List Str} {vs cs ls lo gs:List Nat} {W:XW} {a:Expr} {pos p:Pos} {fa:F1}
theorem i4 (S:Cp X N gl vs cs ls lo gs) (hr:Rm X) (hG:X.A.guards=some []) (j:Nat) (hj:gl[j]?=some ("repr":Str)) (hg:gs.contains j=true) (hm:X.mg "repr"=none) (ha:Q (PE X a (tE X.K W fa))) (hs:starEach [a] X.env=[(false,eval a X.env)]) (hpl:(backTo pos (starEach [] X.env)).any (·.1)=false) :
  Q (PE X (.Call (.Name "repr" p) [a] [] pos) (tE X.K W (bh dD (ae fa af)))):=⟨T.cb_repr S hr hG j hj hg hm ha.p hs hpl⟩
end
end TQ
namespace T
open PySem PySem.Spec L2
open PyProof.Rows hiding St
variable {K:Fg} {fd:FuncData} {ps:List Str}
theorem w4 (s:String):PyData.strOk (Str.ofString s)=true:=by
 unfold PyData.strOk;rw [Array.all_eq_true'];intro c hc;have:c∈(Str.ofString s).cps.toList:=by simpa using hc
 obtain ⟨d,hd,rfl⟩:∃d:Char,d∈s.toList/\d.toNat=c:=by
  rw [Str.ofString_eq_toList] at this;simpa using this
 have:=d.valid
 simp only [decide_eq_true_eq]
 show d.val.toNat<0x110000
 rcases this with h | h
 ·exact Nat.lt_trans h (by decide)
 ·exact h.2
theorem AE {a b:Str} (ha:PyData.strOk a=true) (hb:PyData.strOk b=true):PyData.strOk (a++b)=true:=by
 unfold PyData.strOk at *
 rw [Str.cps_append,Array.all_append,ha,hb];rfl
theorem lq:∀(ts:List Str) (k:Nat) (acc:Str),PyData.strOk acc=true->(∀t∈ts,PyData.strOk t=true)->PyData.strOk (textFrom k acc ts)=true
 | [],k,acc,h,_=>h
 | t::ts,k,acc,h,ht=>lq ts (k+1) _ (AE (AE h (w4 _)) (ht t mem_cons_self)) fun x hx=>ht x (L5 _ hx)
theorem lr:∀(ts:List Str),(∀t∈ts,PyData.strOk t=true)->PyData.strOk (Str.join ", " ts)=true
 | [],_=>by decide +kernel
 | [x],h=>h x mem_cons_self
 | x::y::r,h=>AE (AE (h x mem_cons_self) (w4 _)) (lr (y::r) fun t ht=>h t (L5 _ ht))
mutual
theorem jb:∀(d:Mc),rz d<17000000->PyData.strOk d.shown=true
 | .none,_=>w4 _
 | .bool b,_=>by cases b<;>exact w4 _
 | .int i,_=>w4 _
 | .str x,h=>by
  have h:(20000000:Nat)<17000000:=h
  omega
 | .dict _,h=>by
  have h:(20000000:Nat)<17000000:=h
  omega
 | .list xs,hz=>AE (lq _ _ _ (w4 _) (okS_all xs (by have hz:2+rzL xs<17000000:=hz;omega))) (w4 _)
 | .tuple xs,hz=>AE (AE (w4 _) (lr _ (okS_all xs (by have hz:3+rzL xs<17000000:=hz;omega)))) (w4 _)
theorem okS_all:∀(xs:List Mc),rzL xs<17000000->∀t∈PyData.shownAll xs,PyData.strOk t=true
 | [],_,t,ht=>nomatch ht
 | x::xs,hz,t,ht=>by
  have hz:(rz x+2)+rzL xs<17000000:=hz
  have ht:t∈x.shown::PyData.shownAll xs:=ht
  rcases LZ ht with rfl | ht
  ·exact jb x (by omega)
  ·exact okS_all xs (by omega) t ht
end
def Gu (L:List Nat) (U U':St):Prop:=∀i∈L,U'[i]?=U[i]?
def nD (L:List Nat) (D:cW) (U:St):cW:={ D with nx:=fun U' H'=>Gu L U U'->D.nx U' H' }
def tN (L:List Nat) (K:Fg) (W:XW) (g:FS):TS:=fun D U H=>tS K W g (nD L D U) U H
section
variable {K:Fg} {W:XW} {U:St} {H:Hp} {D:cW} {fa fb fk:F1} {g g1 g2:FS} {c:FB} {L:List Nat}
theorem zi {i:Nat} {x:Option V} (h:i∉L):Gu L U (U.set i x):=fun j hj=>getElem?_set_ne (fun z:i=j=>h (by rw [z];exact hj))
theorem yh:(nD L D U).nx U=D.nx U:=funext fun _=>propext ⟨fun h=>h fun _ _=>rfl,fun h _=>h⟩
theorem Kl {R:(Hp->Prop)->Prop} (h:R ((nD L D U).nx U)):R (D.nx U):=yh (L:=L) (D:=D) (U:=U)▸h
theorem oI {D':cW} (h:tS K W g D U H) (h1:∀U' H',D.nx U' H'->D'.nx U' H') (h2:D'.rt=D.rt) (h3:D'.bk=D.bk) (h4:D'.ct=D.ct):tS K W g D' U H:=by
 obtain ⟨He,O,Fs,Γ,E,h⟩:=h;refine ⟨He,O,Fs,Γ,E,?_⟩
 cases e:g Γ with
 | nx Γ'=>rw [e] at h;exact fun U' H' Fs' E'=>h1 _ _ (h U' H' Fs' E')
 | bk Γ'=>rw [e] at h;exact fun U' H' Fs' E'=>by rw [h3];exact h U' H' Fs' E'
 | ct Γ'=>rw [e] at h;exact fun U' H' Fs' E'=>by rw [h4];exact h U' H' Fs' E'
 | rt p=>rw [e] at h;exact fun v H' G r=>by rw [h2];exact h v H' G r
 | er c Γ'=>rw [e] at h;exact h
 | no=>rw [e] at h;exact h
theorem Cg {U1:St} (h:Gu L U U1):nD L D U1=nD L D U:=by
 unfold nD;congr 1
 funext U' H'
 have:Gu L U1 U'↔Gu L U U':=⟨fun z i hi=>(z i hi).trans (h i hi),fun z i hi=>(z i hi).trans (h i hi).symm⟩
 rw [propext this]
theorem xE (h:tN L K W (av g1 g2) D U H):d7 (tN L K W g1) (tN L K W g2) D U H:=by
 have h:=ub h
 refine oI (D':=nD L { D with nx:=tN L K W g2 D } U) h (fun U1 H1 z a=>?_) rfl rfl rfl
 show tS K W g2 (nD L D U1) U1 H1
 rw [Cg a];exact z
theorem ue (h:tN L K W aN D U H):kE D U H:=Kl (L:=L) (R:=fun P=>P H) (oX h)
theorem By (h:tN L K W (cg c g1 g2) D U H):tL (tT K W c) (tN L K W g1) (tN L K W g2) D U H:=uh h
theorem xC {own:Bool} {i:Nat} (hi:i∉L) (h:tN L K W (ay own i fa) D U H):fG (tE K W fa) (L2.gName i) D U H:=by
 have h:tE K W fa U H fun v H1=>(nD L D U).nx (U.set i (some v)) H1:=GQ h
 have e:(fun v H1=>(nD L D U).nx (U.set i (some v)) H1)=fun v H1=>D.nx (U.set i (some v)) H1:=funext fun v=>funext fun H1=>propext ⟨fun z=>z (zi hi),fun z _=>z⟩
 rw [e] at h;exact h
end
abbrev D3 (x:Str) (s:Stmt) (ps:List Str) (us:List Value):Prop:=∀(kV doc pm:Value) (an:Option Addr) (cdv ct:Value),bindArgs (PySem.W.fnOf x x (DJ s) (jv s) (dM s) .none kV doc pm an cdv ct) ⟨us,[]⟩=pure (ps.zip us)
abbrev wF (x:Str) (s:Stmt) (ps:List Str):Prop:=∀us:List Value,us.length=ps.length->D3 x s ps us
section
variable {x:Str} {s:Stmt} {p1 p2 p3 p4 p5 p6:Str}
theorem zd (h:∀a,D3 x s [p1] [a]:=by exact fun _ _ _ _ _ _ _=>rfl):wF x s [p1]:=fun us hl=>match us,hl with | [_],_=>h _
theorem mE (h:∀a b,D3 x s [p1,p2] [a,b]:=by exact fun _ _ _ _ _ _ _ _=>rfl):wF x s [p1,p2]:=fun us hl=>match us,hl with | [_,_],_=>h _ _
theorem sD (h:∀a b c,D3 x s [p1,p2,p3] [a,b,c]:=by exact fun _ _ _ _ _ _ _ _ _=>rfl):wF x s [p1,p2,p3]:=fun us hl=>match us,hl with | [_,_,_],_=>h _ _ _
theorem Gi (h:∀a b c d,D3 x s [p1,p2,p3,p4] [a,b,c,d]:=by exact fun _ _ _ _ _ _ _ _ _ _=>rfl):wF x s [p1,p2,p3,p4]:=fun us hl=>match us,hl with | [_,_,_,_],_=>h _ _ _ _
end
def Ft (K:Fg) (mg:Str->Option Value) (n:Str) (s:Stmt):Prop:=∃f fd,mg n=some (.ref f)/\Fun K n n s f fd
theorem ft {h:Heap} {mg:Str->Option Value} {n:Str} {s:Stmt} {f:Addr} {od an:Option Addr} {sl:Array (Option Value)} {oc kV dc pm cd ct:Value} (X:K.In h) (G:h.Ns mainGlobals mg) (a:PySem.W.nsIn K mainGlobals n=some (some (.ref f))) (l:K.lookup f=some ⟨oc,od,.func (PySem.W.fnOf n n (DJ s) (jv s) (dM s) .none kV dc pm an cd ct),sl⟩) (c:PySem.W.codeIn K cd n=true) (k:PySem.W.keepIn K (.ref f)=true):Ft K mg n s:=⟨f,_,PySem.W.mg_of X G a,C6 (st:=s) l c k⟩
theorem AA {x:Str} {st:Stmt} {f:Addr} (F:Fun K x x st f fd) (b:wF x st ps):Binds K fd ps []:=F.binds fun kV doc pm an cdv ct us hl=>b us hl kV doc pm an cdv ct
def nC (vs cs:List Nat):List Nat:=vs.filter fun i=>!cs.contains i
def fB (N gl ps:List Str) (vs cs gs:List Nat) (s:Stmt):Bool:=iO N gl vs cs vs (nC vs cs) gs (dM s)&&sA N gl&&(!(dM s).isCoroutine&&!(dM s).isGenerator&&decide (N.take ps.length=ps)&&(ps.all fun x=>zo (dM s) [.local,.cell] (some x))&&((dM s).names.all fun y=>!decide (y.2=.free)))
theorem pL {N gl:List Str} {vs cs gs:List Nat} {s:Stmt} (h:fB N gl ps vs cs gs s=true):iO N gl vs cs vs (nC vs cs) gs (dM s)=true/\sA N gl=true/\bK N ps (dM s):=by
 unfold fB at h;simp only [Bool.and_eq_true,decide_eq_true_eq,all_eq_true,Bool.not_eq_true',decide_eq_false_iff_not] at h
 obtain ⟨⟨h1,h2⟩,⟨⟨⟨h3,h4⟩,h5⟩,h6⟩,h7⟩:=h;refine ⟨h1,h2,(D8 h1).kind,h3,h4,(GO h2).1,h5,fun x hx=>?_,h7⟩
 obtain ⟨k,hk,q⟩:=DN (h6 x hx);simp only [mem_cons,not_mem_nil,or_false] at hk
 rcases hk with rfl | rfl
 ·exact .inl q
 ·exact .inr q
structure In (p:Fg->(Str->Option Value)->Prop) (X:Cx) (P:Program) (w:World) (K:Fg) (mg:Str->Option Value) (base:Heap) (k:Nat):Prop where
 e1:X.prog=P
 e2:X.w=w
 e3:X.K=K
 e4:X.mg=mg
 e5:X.base=base
 rm:Room k X.A
 pp:p K mg
section
variable {p:Fg->(Str->Option Value)->Prop} {X Y:Cx} {P:Program} {w:World} {K:Fg} {mg:Str->Option Value} {base:Heap} {j k n:Nat} {x:Str} {s:Stmt} {ps:List Str} {g:FS} {den:List Mc->bz} {ss:List Sh}
theorem In.r (I:In p X P w K mg base k):Rm X:=I.rm.units
theorem In.e (I:In p X P w K mg base k):p X.K X.mg:=by rw [I.e3,I.e4];exact I.pp
theorem In.c (I:In p X P w K mg base k) (h:DefOk P w K mg base j x n den) (hj:decide (j<=k)=true:=by first | exact rfl | exact decide_eq_true (by omega)):wW X x n den:=by
 obtain ⟨rfl,rfl,rfl,rfl,rfl,r,_⟩:=I;exact h.cal r hj
theorem Fx.i (F:Fx X Y) (I:In p X P w K mg base k):In p Y P w K mg base k:=⟨F.prog.trans I.e1,F.w.trans I.e2,F.K.trans I.e3,F.mg.trans I.e4,F.base.trans I.e5,by rw [F.A];exact I.rm,I.pp⟩
abbrev Bd (p:Fg->(Str->Option Value)->Prop) (P:Program) (w:World) (K:Fg) (mg:Str->Option Value) (base:Heap) (k:Nat) (N gl:List Str) (vs cs gs:List Nat) (s:Stmt) (g:FS):Prop:=∀X:Cx,Cp X N gl vs cs vs (nC vs cs) gs->In p X P w K mg base k->PassesOwn (model X.prog X.w) X.A X.env X.xe->TQ.Q (PSs X (jv s) (tS X.K W0 g))
theorem LF {f:Addr} (F:Fun K x x s f fd) (e:p K mg) (N gl:List Str) (vs cs gs:List Nat) (h:fB N gl ps vs cs gs s=true) (hb:Bd p P w K mg base k N gl vs cs gs s g):cO P w K mg base ip (k+1) f fd ps (qf K ps.length (aC N.length g)):=by
 obtain ⟨h1,h2,h3⟩:=pL h;exact vI F h3 fun cdv A outer s H E hr=>(hb _ (Cp.fn h1 h2) ⟨rfl,rfl,rfl,rfl,rfl,hr,e⟩ PassesOwn.never).p
theorem mk (F:Ft K mg x s) (e:p K mg) (ps:List Str) (b:wF x s ps) (rs gl:List Str) (vs cs gs:List Nat) (hb:Bd p P w K mg base k (ps++rs) gl vs cs gs s g) (h:fB (ps++rs) gl ps vs cs gs s=true:=by kernel_rfl):DefOk P w K mg base (k+1) x ps.length (aC (ps++rs).length g):=by
 obtain ⟨f,fd,hm,F⟩:=F;exact ⟨f,fd,ps,LF F e _ gl vs cs gs h hb,hm,F.kp,AA F b⟩
section
variable {h:Heap} {a:Addr} {dd:Option Addr} {its:Array Value} {n:Nat} {sl:Array (Option Value)} {ds:List Mc} (KX:K.In h) (G:h.Ns mainGlobals mg)
include KX G
theorem gn (z:PySem.W.nsIn K mainGlobals x=some none):mg x=none:=PySem.W.mg_none_of KX G z
theorem gi {i:Int} {t:Tok} (z:PySem.W.nsIn K mainGlobals x=some (some (.int i t))):ou K mg x (.int i):=yY (PySem.W.mg_of KX G z)
theorem gt (z:PySem.W.nsIn K mainGlobals x=some (some (.ref a))) (l:K.lookup a=some ⟨.type "tuple",dd,.seq its n,sl⟩) (c:Do its ds=true):ou K mg x (.tuple ds):=yX (PySem.W.mg_of KX G z) l c
end
theorem walkG {m:List Mc->bz} {l:PySem.W.OpenLaw} {q:Program} {loose:List Str} {XP:(Str->Option Value)->Heap->Prop} {YP:World->Heap->Prop} {d:DefRec} {K:Params->Fg} (lt:∀ns:List Int,ns.length<=63->m [.list (ns.map .int)]=.ok ⟨.leaf,.bool true⟩) (hr:Room j callerA) (hn:l.most=some 63) (hdf:d.params.defaults=[])
  (hY:∀(w:World) (h:Heap),YP w h->(K w.params).In h)
  (F:∀(w:World) (mg:Str->Option Value) (fa:Addr) (h:Heap),(K w.params).In h->h.Ns mainGlobals mg->mg d.name=some (.ref fa) ->
   ∃fd:FuncData,(∀(s:Shared) (u:Value),BindsTo s fd ⟨[u],[]⟩ [("script",u)])/\∀base:Heap,(K w.params).In base->base.Ns mainGlobals mg->cO l.prog w (K w.params) mg base ip j fa fd ["script"] (qf (K w.params) 1 m)) :
  PySem.W.WalkO q loose XP YP l.row.toRowW d [] (fun f vs=>PySem.call f vs):=
 L2.walk_of (n:=63) (k:=j) (x := "script") (CX:=fun _=>ip) (sp:=fun w=>qf (K w.params) 1 m) hn (by decide) hdf hr hY F (fun _ _ a ns hl _ hS=>Cu (lt ns hl) hS) fun _ _ _ _ _ z=>z
end
end T
namespace TQ
open PySem PySem.Spec L2 T
open PyProof.Rows hiding St
variable {x:Str}
section
variable {X:Cx} {N gl:List Str} {vs cs ls lo gs:List Nat} {W:XW} {a b c e:Expr} {es:List Expr} {pos p:Pos} {fa fb fc:F1} {fl:FL} {ga gb:FB} {g1 g2 g:FS}
theorem ai (S:Cp X N gl vs cs ls lo gs) (i:Nat) (hN:N[i]?=some x:=by exact rfl) (hv:vs.contains i=true:=by exact rfl):Q (PE X (.Name x pos) (tE X.K W (aa i))):=w_cv S i hN hv
theorem aW (ha:Q (PE X e (tE X.K W fa))) (hr:Q (PA X es (tA X.K W fl))) (hs:wG e=false:=by exact rfl):Q (PA X (e::es) (tA X.K W (ae fa fl))):=iV ha hr (cF hs)
theorem aO (ha:Q (PE X e (tE X.K W fa))) (hs:wG e=false:=by exact rfl):Q (PA X [e] (tA X.K W (ae fa af))):=iV ha wM (cF hs)
theorem bA (ha:Q (PE X a (tE X.K W fa))) (hb:Q (PE X b (tE X.K W fb))) (hs:DI b:=by exact fun _ _=>rfl):Q (PE X (.Subscript a b pos) (tE X.K W (ag fa fb))):=w_de_idx ha hb hs
theorem bZ {n:Nat} {den:List Mc->bz} (S:Cp X N gl vs cs ls lo gs) (j:Nat) (C:wW X x n den) (ha:Q (PA X (e::es) (tA X.K W fl))) (hj:gl[j]?=some x:=by exact rfl) (hg:gs.contains j=true:=by exact rfl) (he:wG e=false:=by exact rfl) (hpl:(backTo pos (starEach es X.env)).any (·.1)=false:=by exact rfl):Q (PE X (.Call (.Name x p) (e::es) [] pos) (tE X.K W (aj n den fl))):=JJ S j hj hg C ha (cF he) hpl
theorem cL (S:Cp X N gl vs cs ls lo gs) (own:Bool) (i:Nat) {pos':Pos} (ha:Q (PE X a (tE X.K W fa))) (hi:N[i]?=some x:=by exact rfl) (hl:ls.contains i=true:=by exact rfl) (hs:swapsWith a (some (.Name x pos')) pos.line X.env=pure false:=by exact rfl):Q (PS X (.Assign [.Name x pos'] a pos) (tS X.K W (ay own i fa))):=kx S own i hi hl hs ha
theorem gK (S:Cp X N gl vs cs ls lo gs) (j:Nat) (hm:X.mg "len"=none) (ha:Q (PA X (e::es) (tA X.K W fl))) (hj:gl[j]?=some ("len":Str):=by exact rfl) (hg:gs.contains j=true:=by exact rfl) (he:wG e=false:=by exact rfl) (hpl:(backTo pos (starEach es X.env)).any (·.1)=false:=by exact rfl):Q (PE X (.Call (.Name "len" p) (e::es) [] pos) (tE X.K W (bh aM fl))):=tq S j hj hg hm ha (cF he) hpl
theorem cP {op:CmpOp} {r:R2} {g:Mc->Mc->Option Mc} (k:Ck X op r g) (ha:Q (PE X a (tE X.K W fa))) (hb:Q (PE X b (tE X.K W fb))) (hm:behindInMarks op b=false:=by with_unfolding_all rfl):Q (PT X (.Compare a [op] [b] pos) (tT X.K W (aF ao (aA g fa fb)))):=JG k ha hb hm
theorem pZ {op:CmpOp} {r:R2} {g:Mc->Mc->Option Mc} (k:Ck X op r g) (ha:Q (PE X a (tE X.K W fa))) (hb:Q (PE X b (tE X.K W fb))) (hm:behindInMarks op b=false:=by with_unfolding_all rfl):Q (PE X (.Compare a [op] [b] pos) (tE X.K W (aA g fa fb))):=JI k ha hb hm
theorem cH (ha:Q (PE X a (tE X.K W fa))):Q (PSs X [.Return (some a) pos] (tS X.K W (aL fa))):=dG (sY ha)
theorem fD {scope:Scope} {px:Pos} {iter elt:Expr} {ifs:List Expr} {fi:FI} {fe:F1} {fc:FB} (vs' cs' gs':List Nat) (S:Cp X N gl vs cs ls lo gs) (i:Nat) (hi':Q (PI X (.Name x px) iter (tI X.K W fi))) (hc:sG X N gl vs' cs' [i] [] gs' fun Y=>Q (PF Y ifs (tT Y.K W0 fc))) (he:sG X N gl vs' cs' [i] [] gs' fun Y=>Q (PE Y elt (tE Y.K W0 fe))) (hx:N[i]?=some x:=by exact rfl) (h1:ia N i cs scope=true:=by kernel_rfl) (h2:iO N gl vs' cs' [i] [] gs' scope=true:=by kernel_rfl) (hs:∀x,foldedSetIterable iter X.env x=pure x:=by exact fun _=>rfl):Q (PE X (.ListComp elt [⟨.Name x px,iter,ifs,0⟩] scope pos) (tE X.K W (aq .leaf i fi fc fe))):=JH S .leaf i hx h1 h2 hi' hc he hs
end
end TQ
namespace T
open PySem PySem.Spec L2
open PyProof.Rows hiding St
variable {qual:Str} {N:List Str} {n:Nat} {den:List Mc->bz} {mg:Str->Option Value} {K:Fg} {base:Heap} {sc:Scope} {cd:Value} {A:Around}
def wX (mg:Str->Option Value) (E:XK):XW:=fun c _ H'=>∀C,mg c=some (.ref C)->E (.ref C) none H'
def HH (K:Fg) (mg:Str->Option Value) (n:Nat) (den:List Mc->bz):Sp:=fun vs H Q E=>vs.length=n/\∃O ds,O.Nodup/\(∀a∈O,H a≠none)/\Reps K (bM H O) vs ds/\match den ds with
 | .ok p=>∀v H' G,RetOk K H O p v H' G->Q v H'
 | .er c=>∀C H',mg c=some (.ref C)->Same H H'->E (.ref C) none H'
 | .no=>False
section
variable {P:Program} {w:World} {K:Fg} {mg:Str->Option Value} {base:Heap}
theorem yH {x:Str} {st:Stmt} {f:Addr} {fd:FuncData} {ps:List Str} {k:Nat} {g:FS} (F:Fun K x qual st f fd) (S:bK N ps (dM st))
  (hb:∀(cdv:Value) (A:Around) (outer:List Env) (s:Shared) (H:Hp) (E:XK),Room k (A.deeper (envOfC qual (dM st) s.heap.objs.size f cdv)) ->
   PSs (eh (sF P w) P w K mg base N qual (dM st) f cdv A outer s H E) (jv st) (tS K (wX mg E) g)):cO P w K mg base (sF P w) (k+1) f fd ps (HH K mg ps.length (aC N.length g)):=by
 have hpl:ps.length<=N.length:=by have:=congrArg List.length S.pre;rw [length_take] at this;omega
 obtain ⟨oc,od,kV,doc,pm,an,cdv,ct,osl,rfl,lk,hcd⟩:=F.ex;refine Aj lk hcd S (fun vs H Q E h=>h.1) fun A outer s H vs Q E hr h=>⟨_,hb cdv A outer s H E hr,?_⟩
 obtain ⟨hl,O,ds,nd,inH,rs,w⟩:=h;refine ⟨H,O,List.replicate N.length [],aR N.length ds,Jh (by omega) nd inH rs,?_⟩
 unfold aC at w
 cases e:g (aR N.length ds) with
 | nx Γ'=>
  rw [e] at w;exact fun U' H' Fs' E'=>w .non H' [] ⟨E'.same,(fun _ z=>nomatch z),(fun _ z=>nomatch z),nodup_nil,.leaf .non,rfl⟩
 | rt p=>rw [e] at w;exact w
 | bk Γ'=>rw [e] at w;exact w.elim
 | ct Γ'=>rw [e] at w;exact w.elim
 | er c Γ'=>rw [e] at w;exact fun U' H' Fs' E' C hC=>w C H' hC E'.same
 | no=>rw [e] at w;exact w.elim
end
def DefOkX (P:Program) (w:World) (K:Fg) (mg:Str->Option Value) (base:Heap) (j:Nat) (x:Str) (n:Nat) (den:List Mc->bz):Prop:=
 ∃(f:Addr) (fd:FuncData) (ps:List Str),cO P w K mg base (sF P w) j f fd ps (HH K mg n den)/\mg x=some (.ref f)/\PySem.W.keepIn K (.ref f)=true/\Binds K fd ps []
def zm (X:Cx) (x:Str) (n:Nat) (den:List Mc->bz):Prop:=∃(k:Nat) (f:Addr) (fd:FuncData) (ps:List Str),cO X.prog X.w X.K X.mg X.base (sF X.prog X.w) k f fd ps (HH X.K X.mg n den)/\Room k X.A/\X.mg x=some (.ref f)/\PySem.W.keepIn X.K (.ref f)=true/\Binds X.K fd ps []
theorem DefOkX.cal {X:Cx} {j k:Nat} {x:Str} (h:DefOkX X.prog X.w X.K X.mg X.base j x n den) (hr:Room k X.A) (hj:decide (j<=k)=true):zm X x n den:=by
 obtain ⟨f,fd,ps,F,a,b,c⟩:=h;exact ⟨j,f,fd,ps,F,hr.mono (of_decide_eq_true hj),a,b,c⟩
def wY (n:Nat) (den:List Mc->bz) (fl:FL):F1:=fun Γ=>(fl Γ).bind fun ps Γ'=>if ps.length=n then (match den (ps.map (·.d)) with
 | .ok p=>if ps.all (T.coer .leaf) then .ok p Γ' else if ba p.d then .ok ⟨.leaf,p.d⟩ Γ' else .ok ⟨.view,p.d⟩ Γ'
 | .er c=>.er c Γ'
 | .no=>.no) else .no
section
variable {K:Fg} {W:XW} {U:St} {H:Hp} {Q:VK} {fl:FL}
theorem um {EE:St->XK} (hW:∀c U H' C,W c U H'->mg c=some (.ref C)->EE U (.ref C) none H') (h:tE K W (wY n den fl) U H Q):tR (HH K mg n den) EE (tA K W fl) U H Q:=by
 obtain ⟨He,O,Fs,Γ,E0,h⟩:=h;refine ⟨He,O,Fs,Γ,E0,?_⟩
 unfold wY at h
 cases e:fl Γ with
 | er c Γ'=>rw [e] at h;exact h
 | no=>rw [e] at h;exact h
 | ok ps Γ1=>
  rw [e] at h;intro vs H1 Gs Fs1 A;have h:Wants K W He O Fs H U Q (if ps.length=n then (match den (ps.map (·.d)) with | .ok p=>if ps.all (T.coer .leaf) then .ok p Γ1 else if ba p.d then .ok ⟨.leaf,p.d⟩ Γ1 else .ok ⟨.view,p.d⟩ Γ1 | .er c=>.er c Γ1 | .no=>.no) else .no):=h
  by_cases hn:ps.length=n
  case neg=>rw [if_neg hn] at h;exact h.elim
  rw [if_pos hn] at h;have hl:vs.length=n:=by rw [A.len1];exact hn
  cases ed:den (ps.map (·.d)) with
  | er c=>
   rw [ed] at h;have h:Wants K W He O Fs H U Q (.er c Γ1):=h
   refine ⟨hl,[],ps.map (·.d),nodup_nil,(fun _ z=>nomatch z),by rw [Eh];exact A.reps,?_⟩
   rw [ed];exact fun C H' hC sm=>hW c U H' C (h H' Fs1 (A.same.trans sm) (A.env.dropL.grow sm)) hC
  | no=>rw [ed] at h;exact h.elim
  | ok p=>
   rw [ed] at h;have h:Wants K W He O Fs H U Q (if ps.all (T.coer .leaf) then .ok p Γ1 else if ba p.d then .ok ⟨.leaf,p.d⟩ Γ1 else .ok ⟨.view,p.d⟩ Γ1):=h
   obtain ⟨n1,n2,n3⟩:=L6 A.env.nd;obtain ⟨m1,m2,m3⟩:=L6 n1;have newF:∀a∈Fs1.flatten,a∈Fs.flatten\/H a=none:=fun a ha=>A.new a (LR _ ha)
   cases hc:ps.all (T.coer .leaf) with
   | true=>
    rw [hc] at h;have h:Wants K W He O Fs H U Q (.ok p Γ1):=h
    refine ⟨hl,O++Fs1.flatten,ps.map (·.d),A.env.dropL.nd,A.env.dropL.inH,?_,?_⟩
    ·refine ⟨A.reps.1,fun i v d h1 h2=>?_⟩
     rw [getElem?_map] at h2
     cases e2:ps[i]? with
     | none=>rw [e2] at h2;cases h2
     | some q=>
      rw [e2] at h2
      cases h2;have hi:=(L7 e2).1
      have e3:Gs[i]?=some (Gs[i]'(by rw [A.len2];exact hi)):=L0 _
      have o:=A.own i v q _ h1 e2 e3
      have o2:=o.coer (s:=.leaf) (O':=O++Fs1.flatten) (List.all_eq_true.mp hc q (mem_of_getElem? e2)) iq fun a ha z=>by
       exfalso
       have hG:=ik e3 ha
       rcases LX z with y | y
       ·exact m3 a hG a y rfl
       ·exact n3 a (LU _ hG) a y rfl
      cases o2 with
      | leaf r=>exact r
    ·rw [ed]
     intro v H2 G r;refine h v H2 G Fs1 ⟨A.same.trans r.same,A.env.dropL.hide r.same r.nd r.fresh r.inH,fun a ha=>?_,by rw [append_assoc];exact r.own⟩
     rcases LX ha with z | z
     ·exact .inr (A.same.free (r.fresh a z))
     ·exact newF a z
   | false=>
    rw [hc] at h;have h:Wants K W He O Fs H U Q (if ba p.d then .ok ⟨.leaf,p.d⟩ Γ1 else .ok ⟨.view,p.d⟩ Γ1):=h
    refine ⟨hl,[],ps.map (·.d),nodup_nil,(fun _ z=>nomatch z),by rw [Eh];exact A.reps,?_⟩
    rw [ed];intro v H2 G r
    cases hs:ba p.d with
    | true=>
     rw [hs] at h;exact Wants.scal h (r.own.rep.sc hs) (A.same.trans r.same) (A.env.dropL.grow r.same) (fun a ha=>ha) E0.ndO newF
    | false=>
     rw [hs] at h;have h:Wants K W He O Fs H U Q (.ok ⟨.view,p.d⟩ Γ1):=h
     exact h v H2 [] Fs1 ⟨A.same.trans r.same,by simpa using A.env.dropL.grow r.same,by simpa using newF,.view r.own.rep⟩
end
def Gv (X:Cx) (W:XW):Prop:=∃EE:St->XK,G9 (sF X.prog X.w) X EE/\∀c U H' C,W c U H'->X.mg c=some (.ref C)->EE U (.ref C) none H'
def Ia (X:Cx) (W:XW):Prop:=∃E:XK,Makes X E/\∀c U H' C,W c U H'->X.mg c=some (.ref C)->E (.ref C) none H'
theorem JO {P:Program} {w:World} {f:Addr} {outer:List Env} {s:Shared} {H:Hp} {E:XK} :
  Gv (eh (sF P w) P w K mg base N qual sc f cd A outer s H E) (wX mg E):=
 ⟨fun _=>E,fun pins U H s e s' I h=>Fp (fun _ _ _ z=>z) pins U H s e s' I h,fun c U H' C h hC=>h C hC⟩
theorem Ko {P:Program} {w:World} {f:Addr} {outer:List Env} {s:Shared} {H:Hp} {E:XK} :
  Ia (eh (sF P w) P w K mg base N qual sc f cd A outer s H E) (wX mg E):=
 ⟨E,Cq fun _ _ _ z=>z,fun c U H' C h hC=>h C hC⟩
section
variable {X:Cx} {N gl:List Str} {vs cs ls lo gs:List Nat} {W:XW} {a b c e:Expr} {es:List Expr} {pos p:Pos} {fa fb fc:F1} {fl:FL}
theorem Kz {x:Str} (S:Cp X N gl vs cs ls lo gs) (j:Nat) (hj:gl[j]?=some x) (hg:gs.contains j=true) (C:zm X x n den) (th:Gv X W) (ha:PA X (e::es) (tA X.K W fl)) (he:starEach (e::es) X.env=(false,eval e X.env)::starEach es X.env) (hpl:(backTo pos (starEach es X.env)).any (·.1)=false) :
  PE X (.Call (.Name x p) (e::es) [] pos) (tE X.K W (wY n den fl)):=by
 obtain ⟨k,f,fd,ps,F,hr,hm,hk,hb⟩:=C;obtain ⟨EE,hx,hW⟩:=th;exact aJ (uU F hr (S.g hj hg).1 hm hk hb hx ha (S.g hj hg).2.1 he hpl) fun _ _ _=>um hW
def rY (mg:Str->Option Value) (base:Heap) (x:Str):Prop:=∃C,OwnCls x C [.type "ValueError",.type "Exception",.type "BaseException",.type "object"] "ValueError.__new__" mg base
def Iq (c:Str):FS:=fun Γ=>.er c Γ
theorem wa {x m:Str} {np cpos mp:Pos} {mk:Nat} (S:Cp X N gl vs cs ls lo gs) (j:Nat) (hj:gl[j]?=some x) (hg:gs.contains j=true) (R:rY X.mg X.base x) (mk':Ia X W) :
  PS X (.Raise (some (.Call (.Name x np) [.Constant (.str m) mk mp] [] cpos)) none pos) (tS X.K W (Iq x)):=by
 obtain ⟨C,O⟩:=R;obtain ⟨E,hM,hW⟩:=mk'
 have ha:PA X [.Constant (.str m) mk mp] (tA X.K W (ae (eK (.str m)) af)):=da_cons de_str da_nil rfl
 refine b8 (uF S.calm O F.excBase_ValueError (by decide) F.excBase_ValueError (S.g hj hg).1 hM ha rfl rfl (S.g hj hg).2.1) fun D U H h=>?_
 obtain ⟨He,O',Fs,Γ,E0,h⟩:=h;refine ⟨He,O',Fs,Γ,E0,?_⟩
 show ∀vs H1 Gs Fs1,_->_
 intro vs H1 Gs Fs1 A;refine ⟨?_,hW x U H1 C (h U H1 Fs1 A.env.dropL) O.bound⟩
 rw [A.len1];exact (by decide:1<=sizeLine)
end
theorem Cp.fnX {P:Program} {w:World} {gl:List Str} {vs cs ls lo gs:List Nat} {f:Addr} {outer:List Env} {s:Shared} {H:Hp} {E:XK}
  (h:iO N gl vs cs ls lo gs sc=true) (h':sA N gl=true):Cp (eh (sF P w) P w K mg base N qual sc f cd A outer s H E) N gl vs cs ls lo gs:=by
 obtain ⟨a,b,c⟩:=GO h'
 have q:=D8 h
 exact ⟨rfl,a,b,c,q.vis,q.cel,fun i x e hi=>⟨q.loc i x e hi,.inl rfl⟩,q.loo,q.glb,rfl,q.kind⟩
section
variable {p:Fg->(Str->Option Value)->Prop} {X Y:Cx} {P:Program} {w:World} {K:Fg} {mg:Str->Option Value} {base:Heap} {j k n:Nat} {y:Str} {s:Stmt} {ps:List Str} {g:FS} {den:List Mc->bz}
theorem In.x (I:In p X P w K mg base k) (h:DefOkX P w K mg base j y n den) (hj:decide (j<=k)=true:=by first | exact rfl | exact decide_eq_true (by omega)):zm X y n den:=by
 obtain ⟨rfl,rfl,rfl,rfl,rfl,r,_⟩:=I;exact h.cal r hj
theorem In.ra (I:In p X P w K mg base k) (h:rY mg base y):rY X.mg X.base y:=by rw [I.e4,I.e5];exact h
abbrev LQ (p:Fg->(Str->Option Value)->Prop) (P:Program) (w:World) (K:Fg) (mg:Str->Option Value) (base:Heap) (k:Nat) (N gl:List Str) (vs cs gs:List Nat) (s:Stmt) (g:FS):Prop:=∀(X:Cx) (W:XW),Cp X N gl vs cs vs (nC vs cs) gs->In p X P w K mg base k->Gv X W->Ia X W->TQ.Q (PSs X (jv s) (tS X.K W g))
theorem Lz (F:Ft K mg y s) (e:p K mg) (ps:List Str) (b:wF y s ps) (rs gl:List Str) (vs cs gs:List Nat) (hb:LQ p P w K mg base k (ps++rs) gl vs cs gs s g) (h:fB (ps++rs) gl ps vs cs gs s=true:=by kernel_rfl):DefOkX P w K mg base (k+1) y ps.length (aC (ps++rs).length g):=by
 obtain ⟨f,fd,hm,F⟩:=F;obtain ⟨h1,h2,h3⟩:=pL h;exact ⟨f,fd,ps,yH F h3 fun cdv A outer s H E hr=>(hb _ _ (Cp.fnX h1 h2) ⟨rfl,rfl,rfl,rfl,rfl,hr,e⟩ JO Ko).p,hm,F.kp,AA F b⟩
theorem xQ {h:Heap} {C:Addr} (KX:K.In base) (G:base.Ns mainGlobals mg) (e:PySem.W.nsIn K mainGlobals y=some (some (.ref C))) (q:PySem.W.excIn K C [.type "ValueError",.type "Exception",.type "BaseException",.type "object"] "ValueError.__new__"=true):rY mg base y:=by
 refine ⟨C,PySem.W.mg_of KX G e,?_⟩
 unfold PySem.W.excIn at q;split at q
 ·rename_i dd cd sl ho
  split at q
  ·rename_i C' bm k0 k1 k2 k3 n k5 hm hs
   simp only [Bool.and_eq_true,beq_iff_eq,Bool.not_eq_true'] at q
   obtain ⟨⟨⟨⟨⟨rfl,rfl⟩,hdel⟩,ht⟩,hok⟩,hni⟩:=q;obtain ⟨nm,bs,mro,ns,qn,hd,sn,sub,ab,col,del⟩:=cd;dsimp only at hm hdel hok hni
   subst hm hdel;have hsl:sl=#[k0,k1,k2,k3,some (.builtin "ValueError.__new__"),k5]:=by
    obtain ⟨l⟩:=sl;simp only at hs
    rw [hs]
   subst hsl;exact ⟨bm,ns,nm,qn,bs,hd,sn,sub,ab,col,dd,k0,k1,k2,k3,k5,_,KX _ _ ho,.of_isNs (PySem.W.isNs_of_in KX hok),PySem.W.nsMap_none_of_in KX hok hni,PySem.W.tail_of_in KX ht⟩
  ·cases q
 ·cases q
end
end T
namespace TQ
open PySem PySem.Spec L2 T
open PyProof.Rows hiding St
variable {x:Str}
section
variable {X:Cx} {N gl:List Str} {vs cs ls lo gs:List Nat} {W:XW} {a b c e:Expr} {es:List Expr} {pos p:Pos} {fl:FL} {g:FS}
theorem AW {n:Nat} {den:List Mc->bz} (S:Cp X N gl vs cs ls lo gs) (th:Gv X W) (j:Nat) (C:zm X x n den) (ha:Q (PA X (e::es) (tA X.K W fl))) (hj:gl[j]?=some x:=by exact rfl) (hg:gs.contains j=true:=by exact rfl) (he:wG e=false:=by exact rfl) (hpl:(backTo pos (starEach es X.env)).any (·.1)=false:=by exact rfl):Q (PE X (.Call (.Name x p) (e::es) [] pos) (tE X.K W (wY n den fl))):=⟨Kz S j hj hg C th ha.p (cF he) hpl⟩
theorem mV {m:Str} {np cpos mp:Pos} {mk:Nat} (S:Cp X N gl vs cs ls lo gs) (mk':Ia X W) (j:Nat) (R:rY X.mg X.base x) (hj:gl[j]?=some x:=by exact rfl) (hg:gs.contains j=true:=by exact rfl):Q (PS X (.Raise (some (.Call (.Name x np) [.Constant (.str m) mk mp] [] cpos)) none pos) (tS X.K W (Iq x))):=⟨wa S j hj hg R mk'⟩
end
end TQ
namespace T
open PySem PySem.Spec L2 PySem.W
open PyProof.Rows hiding St
variable {K:Fg} {C:Addr} {b:Bool} {tk:Tok}
structure eT (K:Fg) (C:Addr):Prop where
 cl:(PySem.W.clsIn K C).isSome=true
 ga:PySem.W.findIn K (.ref C) "__getattribute__"=some (some (.builtin "BaseException.__getattribute__"))
 gn:PySem.W.findIn K (.ref C) "__getattr__"=some none
 gc:PySem.W.findIn K (.ref C) "__class__"=some (some (.builtin "object.__class__"))
 ob:PySem.W.mroIn K C (.type "object")=some true
 be:PySem.W.mroIn K C (.type "BaseException")=some true
def yJ (K:Fg) (C:Addr):Bool:=(PySem.W.clsIn K C).isSome&&PySem.W.findIn K (.ref C) "__getattribute__"==some (some (.builtin "BaseException.__getattribute__"))&&PySem.W.findIn K (.ref C) "__getattr__"==some none &&
 PySem.W.findIn K (.ref C) "__class__"==some (some (.builtin "object.__class__"))&&PySem.W.mroIn K C (.type "object")==some true&&PySem.W.mroIn K C (.type "BaseException")==some true
theorem pM (h:yJ K C=true):eT K C:=by
 unfold yJ at h;simp only [Bool.and_eq_true,beq_iff_eq] at h
 obtain ⟨⟨⟨⟨⟨a,b⟩,c⟩,d⟩,e⟩,f⟩:=h;exact ⟨a,b,c,d,e,f⟩
def wC (x C:Addr) (h:Heap):Prop:=∃oe vs,h.get? x=some oe/\oe.cls=.ref C/\oe.data=.fields vs
section
variable {prog:Program} {w:World} {A:Around} {E:Value->Shared->Prop} {h:Heap} {g:Array GenState} {d:Drawn} {t:Nat} {os:OsState} {K:Fg} {x C:Addr} {o:Obj}
theorem vg {Q:Bool->Shared->Prop} (X:K.In h) (Z:eT K C) (hx:h.get? x=some o) (hc:o.cls=.ref C) {T:Value} (hm:PySem.W.mroIn K C T=some b) (hq:Q b ⟨h,g,d,t,os⟩):wpAny (model prog w) A (isInstance (.ref x) T) Q E ⟨h,g,d,t,os⟩:=by
 have LT:Looks (model prog w) h (typeOf (.ref x)) (.ref C):=hc▸(Looks.ld hx).andThen .now
 exact (show Looks (model prog w) h (isInstance (.ref x) T) b from LT.andThen (looks_mroIn X hm)).at hq
theorem nZ {R:Result->Shared->Prop} (X:K.In h) (Z:eT K C) (hx:h.get? x=some o) (hc:o.cls=.ref C) (hq:R (.ok (.ret (.ref C))) ⟨h,g,d,t,os⟩) :
  codeAny (model prog w) A (.call (.builtin "getset_descriptor.__get__") ⟨[.builtin "object.__class__",.ref x,.ref C],[]⟩) R ⟨h,g,d,t,os⟩:=by
 have hT5:(⟨h,g,d,t,os⟩:Shared).TypeIs (.builtin "object.__class__") "getset_descriptor":=F.typeOf_object_class
 have LS:Looks (model prog w) h (isSubtype (.ref C) (.type (".".intercalate ("object.__class__".cutAt '.').dropLast))) true:=by rw [F.owner_object_class];exact looks_mroIn X Z.ob
 refine codeAny_call_builtin F.slot_gs_get.plain F.entry_gs_get (F.slot_gs_get.check _ _ _ _ _ _ _ _ hT5 (F.args_gs_get _ _ _) ?_)
 repeat (any_goals (first | assumption | (with_reducible refine wpAny_loadPart_at hx ?_;rw [hc]) | with_reducible refine LS.at ?_ | wp_step))
 refine ⟨Code.quiet_builtin _ (by decide +kernel),codeAny_builtin F.entry_object_class ?_⟩
 repeat (any_goals (first | assumption | (with_reducible refine wpAny_loadPart_at hx ?_;rw [hc]) | wp_step))
theorem oa {Q:Fin->Shared->Prop} (X:K.In h) (Z:eT K C) (hx:h.get? x=some o) (hc:o.cls=.ref C) (hq:Q (.done (.ret (.ref C))) ⟨h,g,d,t,os⟩) :
  wpAny (model prog w) A (Builtin.«object.__getattribute__» ⟨[.ref x,.str "__class__" tk],[]⟩) Q E ⟨h,g,d,t,os⟩:=by
 have hT5:(⟨h,g,d,t,os⟩:Shared).TypeIs (.builtin "object.__class__") "getset_descriptor":=F.typeOf_object_class
 have L4:Looks (model prog w) h (typeLookup (.ref C) "__class__") (some (.builtin "object.__class__")):=looks_findIn X Z.gc
 have f5:=F.typeOf_object_class
 have f6:=F.slot_gs_get.lookup
 have f7:=F.slot_gs_set.lookup
 repeat (any_goals (first | assumption | (with_reducible refine wpAny_loadPart_at hx ?_;rw [hc]) | with_reducible refine L4.at ?_ | wp_step))
 refine nZ X Z hx hc ?_
 repeat (any_goals (first | assumption | wp_step))
theorem og {nameV:Value} {Q:Unit->Shared->Prop} (X:K.In h) (Z:eT K C) (hx:h.get? x=some o) (hc:o.cls=.ref C) (hq:Q () ⟨h,g,d,t,os⟩):wpAny (model prog w) A (checkBuiltinCall "BaseException.__getattribute__" ⟨[.ref x,nameV],[]⟩) Q E ⟨h,g,d,t,os⟩:=by
 have hk:builtinKind "BaseException.__getattribute__"=some .slot:=by decide +kernel
 have hsplit:splitId "BaseException.__getattribute__"=some ("BaseException", "__getattribute__"):=by decide +kernel
 have ha:=F.args_bexc_ga (.ref x) nameV
 simp only [checkBuiltinCall,hk,hsplit]
 refine L8 (vg X Z hx hc Z.be ?_)
 repeat (any_goals (first | assumption | wp_step))
theorem my {R:Result->Shared->Prop} (X:K.In h) (Z:eT K C) (hx:h.get? x=some o) (hc:o.cls=.ref C) (hq:R (.ok (.ret (.ref C))) ⟨h,g,d,t,os⟩) :
  codeAny (model prog w) A (.call (.builtin "BaseException.__getattribute__") ⟨[.ref x,.str "__class__" tk],[]⟩) R ⟨h,g,d,t,os⟩:=
 codeAny_call_builtin F.excAttr_ValueError.ga.plain F.entry_bexc_ga (og X Z hx hc (oa X Z hx hc hq))
theorem rQ {Q:Value->Shared->Prop} (X:K.In h) (Z:eT K C) (hx:h.get? x=some o) (hc:o.cls=.ref C) (hq:Q (.ref C) ⟨h,g,d,t,os⟩):wpAny (model prog w) A (getAttrBy (.ref x) (.str "__class__" tk) false) Q E ⟨h,g,d,t,os⟩:=by
 have L2:Looks (model prog w) h (typeLookup (.ref C) "__getattribute__") (some (.builtin "BaseException.__getattribute__")):=looks_findIn X Z.ga
 have L3:Looks (model prog w) h (typeLookup (.ref C) "__getattr__") none:=looks_findIn X Z.gn
 have f3:=F.excAttr_ValueError.ga.bind (.ref x)
 have hx2:(Value.builtin "BaseException.__getattribute__"==Value.builtin "object.__getattribute__")=false:=by decide +kernel
 have hx1:(onTheHeap (Value.ref C)&&Value.builtin "BaseException.__getattribute__"==Value.builtin "object.__getattribute__")=false:=by rw [hx2];rfl
 repeat (any_goals (first | assumption | (with_reducible refine wpAny_loadPart_at hx ?_;rw [hc]) | with_reducible refine L2.at ?_ | with_reducible refine L3.at ?_ | wp_step))
 refine my X Z hx hc ?_
 repeat (any_goals (first | assumption | wp_step))
theorem mz {Q:Option Value->Shared->Prop} (X:K.In h) (Z:eT K C) (hx:h.get? x=some o) (hc:o.cls=.ref C) (hq:Q (some (.ref C)) ⟨h,g,d,t+1,os⟩):wpAny (model prog w) A (getAttr? (.ref x) "__class__") Q E ⟨h,g,d,t,os⟩:=by
 unfold getAttr? getAttrBy?
 repeat (any_goals (first | assumption | with_reducible apply rQ X Z hx hc | wp_step))
theorem u9 (Z:eT K C):KitX K (.ref x) (.ref C) (wC x C) where
 ty:=fun M h _ p=>by obtain ⟨o,_,hx,hc,_⟩:=p;exact hc▸(Looks.ld hx).andThen .now
 it:=fun _ _ X _=>by
  have z0:=Z.cl
  unfold clsIn at z0;split at z0
  ·rename_i c' d' cd' sl' ho
   intro A' Q' E' s' k q
   unfold isType loadHead;exact L8 (wpAny_loadPart (k _ _ (X _ _ ho)) (L9 q))
  ·cases z0
 ne:=fun h tp dd its n sl X htp=>by
  have z0:=Z.cl
  refine Bool.eq_false_iff.mpr fun q=>?_
  have e:C=tp:=Value.ref.inj (beq_iff_eq.mp q)
  subst e;unfold clsIn at z0;split at z0
  ·rename_i c' d' cd' sl' ho
   have z:=(X _ _ ho).symm.trans htp
   cases z
  ·cases z0
 ca:=fun {_ _ _ _ _ s} X p k=>by
  obtain ⟨h,g,d,t,os⟩:=s;obtain ⟨o,_,hx,hc,_⟩:=p;exact mz X Z hx hc k
end
theorem qW {prog:Program} {w:World} {A:Around} {E:Value->Shared->Prop} {x D:Addr} {s:Shared} {o:Obj} {Q:Bool->Shared->Prop} (X:K.In s.heap) (hx:s.heap.get? x=some o) (hc:o.cls=.ref C) (e1:PySem.W.typeIn K (.ref D)=some (.type "type")) (Z:eT K D) (e3:PySem.W.subIn K (.ref C) (.ref D)=some b) (hq:Q b s) :
  wpAny (model prog w) A (excMatches (.ref x) (.ref D)) Q E s:=by
 obtain ⟨h,g,d,t,os⟩:=s;have LT:Looks (model prog w) h (typeOf (.ref x)) (.ref C):=hc▸(Looks.ld hx).andThen .now
 have LD:Looks (model prog w) h (typeOf (.ref D)) (.type "type"):=looks_typeIn X e1
 have LB:Looks (model prog w) h (isSubtype (.ref D) (.type "BaseException")) true:=looks_mroIn X Z.be
 have LS:Looks (model prog w) h (isSubtype (.ref C) (.ref D)) b:=looks_subIn X e3
 have LY:Looks (model prog w) h (isType (.ref D)) true:=by
  have z0:=Z.cl
  unfold clsIn at z0;split at z0
  ·rename_i c' d' cd' sl' ho
   intro A' Q' E' s' k q
   unfold isType loadHead;exact L8 (wpAny_loadPart (k _ _ (X _ _ ho)) (L9 q))
  ·cases z0
 have f:=tc_notTuple
 unfold excMatches;refine L8 (L8 (LD.at ?_))
 repeat (any_goals (first | with_reducible refine LY.at ?_ | with_reducible refine LB.at ?_ | with_reducible refine LT.at ?_ | with_reducible refine LS.at ?_ | wp_step))
 first
  | exact hq
  | (cases b<;>(wp_walk;exact hq))
end T
namespace T
open PySem PySem.Spec L2
open PyProof.Rows hiding St
variable {x C a:Addr} {pos p1 p2 pos' apos cpos bp:Pos} {X:Cx} {pins:List (Addr×Obj)} {W:Addr->St->Hp->Prop} {N gl cl ds:List Str} {vs cs ls lo gs:List Nat} {g:FS} {en ex y c:Str} {ie kb:Nat} {bb:Bool} {A:Around} {K:Fg} {mg:Str->Option Value} {base:Heap} {oe:Obj}
section
variable {X:Cx} {pins:List (Addr×Obj)} {U:St} {H H':Hp} {s s':Shared} {C a:Addr} {M:Model} {A:Around} {E:Value->Shared->Prop}
theorem yA {i:Nat} {x:Str} {Q:Unit->Shared->Prop} (I:Inv X pins U H s) (hN:X.N.Nodup) (hi:X.N[i]?=some x) (hk:X.env.scope.names.lookup x=some .local)
  (h:∀s',Inv X pins (U.set i none) H s'->Q () s'):wpAny M A (do bindName X.env x .none;unbindBehindTheSuite X.env x pos) Q E s:=by
 obtain ⟨m,hn,hl⟩:=id I.loc;have hcls:(X.env.scope.kind==.class||(X.env.scope.kind==.module&&X.env.locals != X.env.globals))=false:=by rw [I.ok.kind];rfl
 have hiU:i<U.length:=by rw [I.len];exact (L7 hi).1
 have cne:=I.cne
 refine wpAny_nameGoes_keeps hk hn hcls fun h' v hn' hs=>?_
 obtain ⟨oL,_,_,hoL,_⟩:=id hn;refine h _ ⟨I.ok,I.os,I.bare,⟨fun b o e n hb hx=>?_,fun b o e n hb hx=>?_,I.base.free,fun b o e hx=>?_,I.base.tups,I.base.frzs,I.base.tbls⟩,⟨_,hn',fun j y v' e1 e2 e3=>?_⟩,fun y c e=>?_,I.free,I.freeC,fun p hp=>?_,fun b ob e=>?_,by simpa using I.len⟩
 ·exact (hs.2 b (Nat.ne_of_lt (Nat.lt_of_lt_of_le (Heap.lt_size e) I.ok.above))).trans (I.base.keep b o e n hb hx)
 ·obtain ⟨sl,e1⟩:=I.base.slot b o e n hb hx
  exact ⟨sl,(hs.2 b (Nat.ne_of_lt (Nat.lt_of_lt_of_le (Heap.lt_size e) I.ok.above))).trans e1⟩
 ·obtain ⟨o',e1⟩:=I.base.there b o e hx
  exact ⟨o',(hs.2 b (Nat.ne_of_lt (Nat.lt_of_lt_of_le (Heap.lt_size e) I.ok.above))).trans e1⟩
 ·by_cases hj:j=i
  ·subst hj
   rw [getElem?_set_self hiU] at e2
   cases e2
  ·rw [getElem?_set_ne (Ne.symm hj)] at e2
   obtain ⟨u',r',q⟩:=hl j y v' e1 e2 e3
   refine ⟨u',r',?_⟩
   rcases q with ⟨k,e⟩ | ⟨k,c,e,z⟩
   ·refine .inl ⟨k,?_⟩
    have:y≠x:=fun e=>hj (IW hN e1 (e▸hi))
    simp [this,e]
   ·exact .inr ⟨k,c,e,z.sameBut hs (cne y c e)⟩
 ·obtain ⟨w',z⟩:=I.cell y c e
  exact ⟨w',z.sameBut hs (cne y c e)⟩
 ·obtain ⟨e,n,ne,nf,d⟩:=I.pin p hp
  exact ⟨(hs.2 p.1 ne).trans e,n,ne,nf,d⟩
 ·refine (I.hok b ob e).stay (fun c w' hc q=>(hs.2 c ?_).trans q) (fun _ q=>q) fun _ _ q=>q
  rintro rfl
  rcases hc with rfl | hc
  ·rw [I.free] at e;cases e
  ·rw [I.free] at hc;cases hc
theorem qV {Q:Unit->Shared->Prop} (I:Inv X pins U H s) (hst:X.stack=X.env::X.outer) (hf:X.env.frame=some X.env.locals) (hA:A.frames=some X.stack) (f:DC X.prog X.w X.stack H s H' C a s')
  (hQ:∀h2 B a0,Heap.FlyingW B X.stack a (.ref C) a0 h2->H' a=none->a∉fJ X.stack->(∀h3,Heap.FlyingW B X.stack a (.ref C) a0 h3->h2.UpToSlots h3->Inv X pins U H' { s' with heap:=h3 })->Q () { s' with heap:=h2 }) :
  wpAny M A (noteFrame (.ref a) X.env) (fun _ s2=>wpAny M A (setFlight (.ref a) none) Q E s2) E s':=by
 have os:=f.os
 have bare:=f.bare
 obtain ⟨os',bare',un,hok,B,a0,fl,c1,c2⟩:=id f;have hn:∀b:Addr,b∉([]:List Addr):=fun b z=>nomatch z
 have keepB:∀h3,B.StaysIn h3->∀b o u,B.get? b=some u->s'.heap.get? b=some o->h3.get? b=some o:=fun h3 st b o u e1 e2=>by
  have e3:=fl.1 b u e1
  rw [e2] at e3
  cases e3;exact st b o e1
 have go:∀h3,B.StaysIn h3->h3.FunFrames B X.stack->s'.heap.UpToSlots h3->Un (fJ X.stack) [] H H' s.heap h3/\HOk X.prog X.w H' h3:=fun h3 st ff up=>by
  refine ⟨⟨fun b o q n hb _=>?_,fun b o q n hb _=>?_,un.free,fun b o q _=>?_,un.tups,un.frzs,un.tbls⟩,fun b o e=>?_⟩
  ·obtain ⟨u,e⟩:=c2 b o q hb
   exact keepB h3 st b o u e (un.keep b o q n hb (hn b))
  ·obtain ⟨sl2,q2⟩:=un.slot b o q n hb (hn b)
   obtain ⟨_,o',e,d⟩:=fl.2.2.1.mem hb;rw [q2] at e
   cases e;obtain ⟨sl3,q3⟩:=up b _ q2 d;exact ⟨sl3,q3⟩
  ·by_cases hb:b∈fJ X.stack
   ·obtain ⟨_,o',e,_⟩:=ff.mem hb
    exact ⟨o',e⟩
   ·obtain ⟨u,e⟩:=c2 b o q hb
    exact ⟨u,st b u e⟩
  ·refine (hok b o e).stay (fun c u hc q=>?_) (fun _ q=>q) fun _ _ q=>q
   have hc':∃o',H' c=some o':=by
    rcases hc with z | z
    ·exact ⟨o,by rw [z];exact e⟩
    ·exact ⟨_,z⟩
   obtain ⟨o',z⟩:=hc'
   obtain ⟨v,e1⟩:=c1 c o' z
   exact keepB h3 st c u v e1 q
 have hHa:H' a=none:=by
  cases e:H' a with
  | none=>rfl
  | some o=>
   obtain ⟨u,e1⟩:=c1 a o e;rw [fl.2.1] at e1
   cases e1
 have haf:a∉fJ X.stack:=fun z=>by
  obtain ⟨_,o',e,d⟩:=fl.2.2.1.mem z;obtain ⟨oe,vs,_,_,_,he,_,hd,_⟩:=fl.2.2.2;rw [he] at e
  cases e;exact d vs hd
 refine wpAny_looks_onW (by rw [hA,hst]) hf (by rw [<-hst];exact fl) fun h1 hh1 up1=>?_
 refine wpAny_landsW hh1 fun h2 fl2 up2=>hQ h2 B a0 (by rw [hst];exact fl2) hHa haf fun h3 fl3 up3=>?_
 obtain ⟨un3,hok3⟩:=go h3 fl3.1 fl3.2.2.1 ((up1.trans up2).trans up3);exact I.call' (s':={ s' with heap:=h3 }) (ch:=[]) os un3 hok3 bare (fun b z=>absurd z (by simp))
end
def wZ (X:Cx) (pins:List (Addr×Obj)) (a:Addr) (oe:Obj):Cx:={ X with A:=X.A.mark (some (.ref a)),calm:=false,pn:=(X.pn++pins)++[(a,oe)],xe:=fun _ _=>False }
section
variable {X:Cx} {pins:List (Addr×Obj)} {U:St} {H:Hp} {s:Shared} {a:Addr} {oe:Obj}
theorem yv (I:Inv X pins U H s) (hx:s.heap.get? a=some oe) (hH:H a=none) (hl:a≠X.env.locals) (hf:a∉X.fs) (hd:∀v,oe.data≠.cell v):Inv (wZ X pins a oe) [] U H s:=
 ⟨⟨I.ok.mod,I.ok.kind,I.ok.glob,I.ok.blt,I.ok.above,I.ok.inj,I.ok.has,I.ok.cab,fun z=>(nomatch z),I.ok.frames,I.ok.stk,I.ok.exf,I.ok.bs,I.ok.bsz,I.ok.noex,I.ok.exfs,I.ok.funs,I.ok.frf⟩,I.os,I.bare,I.base,I.loc,I.cell,I.free,I.freeC,fun p hp=>by
  have hp:p∈((X.pn++pins)++[(a,oe)])++[]:=hp
  rw [append_nil] at hp;rcases LX hp with z | z
  ·exact I.pin p z
  ·cases List.mem_singleton.mp z
   exact ⟨hx,hH,hl,hf,hd⟩,I.hok,I.len⟩
theorem yw (ok:X.Ok) (I:Inv (wZ X pins a oe) [] U H s):Inv X pins U H s:=
 ⟨ok,I.os,I.bare,I.base,I.loc,I.cell,I.free,I.freeC,fun p hp=>I.pin p (LU _ (LU _ hp)),I.hok,I.len⟩
end
def Ad:Option (Option PV)->Bool
 | some none=>true
 | _=>false
theorem vk {Γ:Ev} {j:Nat} (h:Ad Γ[j]?=true):∀p,Γ[j]?≠some (some p):=fun p z=>by rw [z] at h;cases h
def xl (cl:List Str) (ie:Nat) (k:Str->FS) (c:Str):FS:=fun Γ=>if cl.contains c&&Ad Γ[ie]? then (match k c Γ with
 | .nx Γ'=>if Ad Γ'[ie]? then .nx Γ' else .no
 | _=>.no) else .no
def kR (cl:List Str) (ie:Nat) (g:FS) (k:Str->FS):FS:=fun Γ=>match g Γ with
 | .er c Γ'=>xl cl ie k c Γ'
 | o=>o
def wT (mg:Str->Option Value) (W:Addr->St->Hp->Prop):XW:=fun c U H'=>∀C,mg c=some (.ref C)->W C U H'
def ki (i:Nat) (a:Addr) (U:St):Prop:=U[i]?=some (some (.ref a))
def JR (φ:St->Prop) (t:TS):TS:=fun D U H=>φ U/\t D U H
def tG (φ:St->Prop) (t:TE):TE:=fun U H Q=>φ U/\t U H Q
theorem JN:Gv (dS X pins W) (wT X.mg W):=
 ⟨fun U=>fun u _ H'=>∃C,u=.ref C/\W C U H',jW,fun c U H' C h hC=>⟨C,rfl,h C hC⟩⟩
structure Aq (K:Fg) (D:Addr):Prop where
 ty:PySem.W.typeIn K (.ref D)=some (.type "type")
 ex:eT K D
theorem BR (S:Cp X N gl vs cs ls lo gs) {body:List Stmt} {k:Str->FS} {hn:Str} {j:Nat} {np hpos:Pos} {suite:Stmt} {D:Addr}
  (hst:X.stack=X.env::X.outer) (hf:X.env.frame=some X.env.locals) (hie:N[ie]?=some en) (hel:lo.contains ie=true) (hj:gl[j]?=some hn) (hg:gs.contains j=true) (hD:X.mg hn=some (.ref D)) (hDc:Aq X.K D)
  (hc:∀c∈cl,∀C,X.mg c=some (.ref C)->PySem.W.subIn X.K (.ref C) (.ref D)=some true)
  (hb:∀(pins:List (Addr×Obj)) (W:Addr->St->Hp->Prop),PSs (dS X pins W) body (tS X.K (wT X.mg W) g))
  (hh:∀(pins:List (Addr×Obj)) (a C:Addr) (oe:Obj) (c:Str),c∈cl->X.mg c=some (.ref C)->oe.cls=.ref C->(∃vs,oe.data=.fields vs)->PSs (wZ X pins a oe) [suite] (JR (ki ie a) (tS X.K W0 (k c)))) :
  PS X (.Try body [.ExceptHandler (some (.Name hn np)) (some en) [suite] hpos] [] [] pos) (tS X.K W0 (kR cl ie g k)):=by
 intro pins s U H D0 I h;obtain ⟨He,O,Fs,Γ,E,h⟩:=h;refine wpAny_Try_except ?_
 let W:Addr->St->Hp->Prop:=fun C U' H'=>∃c Γ' Fs',X.mg c=some (.ref C)/\EnvOk X.K He O Fs' H' U' Γ'/\kj X.K W0 He O D0 (xl cl ie k c Γ')
 have I':Inv X (pins++[]) U H s:=by rw [append_nil];exact I
 have hw:kj X.K (wT X.mg W) He O D0 (g Γ):=by
  unfold kR at h
  cases e:g Γ with
  | nx Γ'=>rw [e] at h;exact h
  | bk Γ'=>rw [e] at h;exact h
  | ct Γ'=>rw [e] at h;exact h
  | rt p=>rw [e] at h;exact h
  | no=>rw [e] at h;exact h
  | er c Γ'=>rw [e] at h;exact fun U' H' Fs' E' C hC=>⟨c,Γ',Fs',hC,E',h⟩
 refine wpAny_mono (hb pins W [] s U H D0 (vq I') ⟨He,O,Fs,Γ,E,hw⟩) (fun f s1 h1=>?_) fun e s1 h1=>?_
 ·have back:∀{U' H'},Inv (dS X pins W) [] U' H' s1->Inv X pins U' H' s1:=fun {U' H'} J=>by have:=lP J;rwa [append_nil] at this
  cases f with
  | next=>
   obtain ⟨U',H',J,q⟩:=h1;exact bj (GY pins s1 U' H' D0 (back J) q) fun _ _ z=>z
  | brk=>obtain ⟨U',H',J,q⟩:=h1;exact ⟨U',H',back J,q⟩
  | cont=>obtain ⟨U',H',J,q⟩:=h1;exact ⟨U',H',back J,q⟩
  | ret u=>obtain ⟨v,U',H',J,r,q⟩:=h1;exact ⟨v,U',H',back J,r,q⟩
 ·obtain ⟨ps,U1,H1,H',s0,a,C,rfl,J,fl,c,Γ',Fs',hC,E',hW⟩:=h1
  refine qV (T.Inv.less J) hst hf I.ok.frames fl fun h2 B a0 fl2 hHa haf go=>?_
  have I2:=go h2 fl2 (Heap.UpToSlots.refl h2)
  unfold xl at hW
  cases hcl:(cl.contains c&&Ad Γ'[ie]?) with
  | false=>rw [hcl] at hW;exact hW.elim
  | true=>
   rw [hcl] at hW;simp only [Bool.and_eq_true] at hcl
   have hcm:c∈cl:=by simpa using hcl.1
   have hnm:=S.g hj hg
   obtain ⟨oe2,he2,hc2⟩:=fl2.there;refine wpAny_handleBy_cons (codeAny_handlers_test (Calls.Name_function_global I2.ok.kind hnm.1 (Calls.loadGlobal_global (by rw [I2.ok.glob];exact I2.mod.glob.keeps I2.bk) hD ?_) hnm.2.1)) (by intro q;cases q)
   refine qW I2.kIn he2 hc2 hDc.ty hDc.ex (hc c hcm C hC) ?_
   refine codeAny_handlers_suite_as ?_
   refine lands_againW fl2 fun h3 fl3 up3=>?_
   have I3:=go h3 fl3 up3
   obtain ⟨oe,vs,_,_,_,he,⟨hcls,_⟩,hd,_⟩:=fl3.2.2.2;have hal:a≠X.env.locals:=fun z=>haf (by rw [hst];exact List.mem_filterMap.mpr ⟨X.env,mem_cons_self,by rw [z];exact hf⟩)
   have hafs:a∉X.fs:=fun z=>haf (by rw [hst];obtain ⟨en,h1,h2⟩:=List.mem_filterMap.mp z;exact List.mem_filterMap.mpr ⟨en,L5 _ h1,h2⟩)
   have I4:Inv (wZ X pins a oe) [] U1 H' { s1 with heap:=h3 }:=yv I3 he hHa hal hafs fun v z=>by rw [hd] at z;cases z
   have hlo:=S.loo ie en hie hel
   have hN:X.N.Nodup:=by rw [S.hN];exact S.nd
   have hiN:X.N[ie]?=some en:=by rw [S.hN];exact hie
   refine Hj (X:=wZ X pins a oe) (v:=.ref a) I4 hN hiN (.inl hlo) rfl (fun s5 I5=>?_) (.inr hlo)
   have hiU:ie<U1.length:=by rw [I3.len];exact (L7 hiN).1
   refine wpAny_mono (hh pins a C oe c hcm hC hcls ⟨vs,hd⟩ [] s5 _ H' { nx:=fun U' H'=>D0.nx (U'.set ie none) H',rt:=fun _ _=>False } I5 ⟨by unfold ki;exact getElem?_set_self hiU,He,O,Fs',Γ',E'.nm (vk hcl.2),?_⟩) (fun f s6 h6=>?_) fun _ _ z=>z.elim
   ·cases ek:k c Γ' with
    | nx Γ2=>
     rw [ek] at hW;intro U2 H2 Fs2 E2;have hW:kj X.K W0 He O D0 (if Ad Γ2[ie]? then .nx Γ2 else .no):=hW
     cases hn2:Ad Γ2[ie]? with
     | false=>rw [hn2] at hW;exact hW.elim
     | true=>rw [hn2] at hW;exact hW _ H2 Fs2 (E2.nm (vk hn2))
    | bk Γ2=>rw [ek] at hW;exact hW.elim
    | ct Γ2=>rw [ek] at hW;exact hW.elim
    | rt p=>rw [ek] at hW;exact hW.elim
    | er c2 Γ2=>rw [ek] at hW;exact hW.elim
    | no=>rw [ek] at hW;exact hW.elim
   ·cases f with
    | next=>
     obtain ⟨U2,H2,J2,q⟩:=h6;exact yA (yw I2.ok J2) hN hiN hlo fun s7 I7=>⟨_,H2,I7,q⟩
    | brk=>obtain ⟨_,_,_,q⟩:=h6;exact q.elim
    | cont=>obtain ⟨_,_,_,q⟩:=h6;exact q.elim
    | ret u=>obtain ⟨_,_,_,_,_,q⟩:=h6;exact q.elim
section
variable {K:Fg} {W:XW} {U:St} {H:Hp} {fa fb:F1} {c:FB}
theorem oH {Q Q':Bool->Hp->Prop} (h:tT K W c U H Q) (i:∀b H',Q b H'->Q' b H'):tT K W c U H Q':=by
 obtain ⟨He,O,Fs,Γ,E,h⟩:=h;refine ⟨He,O,Fs,Γ,E,?_⟩
 cases e:c Γ with
 | ok p Γ'=>rw [e] at h;exact fun H' Fs' s E' n=>i _ _ (h H' Fs' s E' n)
 | er c Γ'=>rw [e] at h;exact h
 | no=>rw [e] at h;exact h
theorem tM {Q:VK} {v:V} {d:Mc} (s:Sc v d) (h:tE K W (eK d) U H Q):Q v H:=by
 obtain ⟨He,O,Fs,Γ,E,h⟩:=h;exact Wants.scal (W:=W) h s (Same.refl _) E (fun a ha=>ha) E.ndO fun a ha=>.inl ha
end
def zL (φ:St->Prop) (t:TA):TA:=fun U H Q=>φ U/\t U H Q
def sx (φ:St->Prop) (t:TT):TT:=fun U H Q=>φ U/\t U H Q
def iQ (X:Cx) (a C:Addr):Prop:=∀pins U H s,Inv X pins U H s->wC a C s.heap
def Kk (K:Fg) (a C:Addr) (cv:V) (cu:Value):List V->Hp->VK->Prop:=fun xs H Q=>∃b,xs=[.ref a,cv]/\PySem.W.kitOne K (.ref C) cu=some b/\Q (.bl b) H
section
variable {X:Cx} {N gl:List Str} {vs cs ls lo gs:List Nat} {W:XW} {φ:St->Prop} {a b c e:Expr} {es:List Expr} {pos p:Pos} {fa fb fc:F1} {fl:FL} {ga gb:FB} {g1 g2:FS}
theorem mD {cv:V} {cu:Value} (hx:iQ X x C) (Z:eT X.K C) (hr:∀u,RelV cv u->u=cu):CallR X (.builtin "isinstance") (Kk X.K x C cv cu):=by
 intro pins s U H xs us Q I rv h;obtain ⟨b,rfl,hk,q⟩:=h;match us,rv with
 | [u,t],.cons r1 (.cons r2 .nil)=>
  cases (show u=Value.ref x from r1)
  cases hr t r2
  exact PySem.W.kia_one (u9 Z) I.kIn (hx _ _ _ _ I) hk nofun fun tk=>⟨.bl b,H,I.tok tk,rfl,q⟩
theorem gu (h:PE X a (tE X.K W fa)):PE X a (tG φ (tE X.K W fa)):=aJ h fun _ _ _ h=>h.2
theorem FT {i:Nat} {D:Addr} {d:Str} (S:Cp { X with calm:=true } N gl vs cs ls lo gs) (hx:iQ X x C) (Z:eT X.K C) (hk:PySem.W.kitOne X.K (.ref C) (.ref D)=some bb) (hD:X.mg d=some (.ref D)) (hmi:X.mg "isinstance"=none)
  (hN:N[i]?=some ex) (hv:vs.contains i=true) (j k:Nat) (hj:gl[j]?=some ("isinstance":Str)) (hg:gs.contains j=true) (hk2:gl[k]?=some d) (hg2:gs.contains k=true) :
  PE X (.Call (.Name "isinstance" p) [.Name ex p1,.Name d p2] [] pos) (tG (ki i x) (tE X.K W (eK (.bool bb)))):=by
 have m:=S.nm ex (mem_of_getElem? hN)
 have hvar:PE X (.Name ex p1) (aS i):=km (by show X.N[i]?=_;rw [show X.N=N from S.hN];exact hN) (S.vis i ex hN hv) m.1 m.2
 refine aJ (AG (mD (cv:=.ref D) (cu:=.ref D) hx Z fun u hu=>hu) (S.g hj hg).1 hmi JB (gM hvar (gM (pv (v:=.ref D) (S.g hk2 hg2).1 hD rfl (S.g hk2 hg2).2.1) mP rfl) rfl) (S.g hj hg).2.2 (S.g hj hg).2.1 rfl rfl) fun U H Q h=>?_
 exact ⟨.ref x,h.1,bb,rfl,hk,tM (.bl bb) h.2⟩
theorem CZ {i:Nat} {d:Str} {T:String} (S:Cp { X with calm:=true } N gl vs cs ls lo gs) (hx:iQ X x C) (Z:eT X.K C) (hk:PySem.W.kitOne X.K (.ref C) (.type T)=some bb) (hD:X.mg d=none) (hb:bootBuiltins d=some (.type T)) (hmi:X.mg "isinstance"=none)
  (hN:N[i]?=some ex) (hv:vs.contains i=true) (j k:Nat) (hj:gl[j]?=some ("isinstance":Str)) (hg:gs.contains j=true) (hk2:gl[k]?=some d) (hg2:gs.contains k=true) :
  PE X (.Call (.Name "isinstance" p) [.Name ex p1,.Name d p2] [] pos) (tG (ki i x) (tE X.K W (eK (.bool bb)))):=by
 have m:=S.nm ex (mem_of_getElem? hN)
 have hvar:PE X (.Name ex p1) (aS i):=km (by show X.N[i]?=_;rw [show X.N=N from S.hN];exact hN) (S.vis i ex hN hv) m.1 m.2
 refine aJ (AG (mD (cv:=.ty T) (cu:=.type T) hx Z fun u hu=>hu) (S.g hj hg).1 hmi JB (gM hvar (gM (pz (v:=.ty T) (S.g hk2 hg2).1 hD hb rfl (S.g hk2 hg2).2.2 (S.g hk2 hg2).2.1) mP rfl) rfl) (S.g hj hg).2.2 (S.g hj hg).2.1 rfl rfl) fun U H Q h=>?_
 exact ⟨.ref x,h.1,bb,rfl,hk,tM (.bl bb) h.2⟩
theorem FR:PA X [] (zL φ (tA X.K W af)):=pS da_nil fun _ _ _ h=>h.2
theorem C0 (ha:PE X e (tG φ (tE X.K W fa))) (hr:PA X es (zL φ (tA X.K W fl))) (hs:starEach (e::es) X.env=(false,eval e X.env)::starEach es X.env:=by exact cF rfl):PA X (e::es) (zL φ (tA X.K W (ae fa fl))):=
 pS (gM ha hr hs) fun U H Q h=>⟨h.1,IM (oZ h.2) fun v H1 q=>⟨h.1,q⟩⟩
theorem CY (s:Sh) (h:PA X es (zL φ (tA X.K W fl))):PE X (.List es pos) (tG φ (tE X.K W (aV s fl))):=aJ (Il h) fun U H Q h=>⟨h.1,oY h.2⟩
theorem FU (ha:PE X a (tG φ (tE X.K W fa))) (hb:PE X b (tG φ (tE X.K W fb))):PE X (.BinOp a .Add b pos) (tG φ (tE X.K W (dJ fa fb))):=
 aJ (fS pB ha hb) fun U H Q h=>⟨h.1,IM (uk h.2) fun v H1 q=>⟨h.1,q⟩⟩
theorem FQ (S:Cp { X with calm:=true } N gl vs cs ls lo gs) (i:Nat) {x:Str} (hN:N[i]?=some x) (hv:vs.contains i=true):PE X (.Name x pos) (tE X.K W (aa i)):=by
 have m:=S.nm x (mem_of_getElem? hN)
 exact vY (km (by show X.N[i]?=_;rw [show X.N=N from S.hN];exact hN) (S.vis i x hN hv) m.1 m.2)
theorem CM (ha:PE X a (tG φ (tE X.K W fa))) (he:∀whole,isTrue a X.env whole=(do let v <-whole;standAt a.pos;holding [v] (truthy v)):=by intro _;rfl):PT X a (sx φ (tT X.K W (aF bt fa))):=jt (IX ha he) fun U H Q h=>⟨h.1,t9 h.2⟩
theorem CO (ha:PT X a (sx φ (tT X.K W ga))):PT X (.UnaryOp .Not a pos) (sx φ (tT X.K W (bT ga))):=jt (uC ha) fun U H Q h=>⟨h.1,o5 h.2⟩
theorem CN (ha:PT X a (tT X.K W ga)) (hb:PT X b (sx φ (tT X.K W gb))):PT X (.BoolOp .Or [a,b] pos) (sx φ (tT X.K W (fF ga gb))):=
 PW.pt (wA (zX ha (uB hb)) fun U H Q h=>oH (uq h.2) fun c H1 q=>by
  cases c with
  | true=>exact q
  | false=>exact fI ⟨h.1,by simpa using q⟩)
def tZ (i:Nat) (x:Addr) (K:Fg) (W:XW) (g:FS):TS:=fun D U H=>ki i x U/\tN [i] K W g D U H
theorem D1 {i:Nat} {st:Stmt} (h:PS X st (tZ i x X.K W g)):PSs X [st] (tZ i x X.K W g):=wK h
theorem D2 {i:Nat}:PSs X [] (tZ i x X.K W aN):=GG GY fun _ _ _ h=>ue h.2
theorem Ar {i:Nat} {st:Stmt} {rest:List Stmt} (h1:PS X st (tZ i x X.K W g1)) (h2:PSs X rest (tZ i x X.K W g2)):PSs X (st::rest) (tZ i x X.K W (av g1 g2)):=
 GG (ox h1 h2) fun D U H h=>by
  refine ⟨h.1,?_⟩
  have q:=xE h.2
  refine oI (D':=nD [i] { D with nx:=tZ i x X.K W g2 D } U) q (fun U1 H1 z a=>⟨?_,z a⟩) rfl rfl rfl
  unfold ki;rw [a i (List.mem_singleton.mpr rfl)];exact h.1
theorem DY {i k:Nat} (S:Cp { X with calm:=true } N gl vs cs ls lo gs) (hki:(k==i)=false) (hk:N[k]?=some y) (hl:ls.contains k=true) (ha:PE X a (tG (ki i x) (tE X.K W fa))) (hs:swapsWith a (some (.Name y pos')) pos.line X.env=pure false:=by rfl):PS X (.Assign [.Name y pos'] a pos) (tZ i x X.K W (ay false k fa)):=
 b8 (Aw (by show X.N.Nodup;rw [show X.N=N from S.hN];exact S.nd) (by show X.N[k]?=_;rw [show X.N=N from S.hN];exact hk) (S.loc k y hk hl).1 ha hs (S.loc k y hk hl).2) fun D U H h=>⟨h.1,xC (by simpa using hki) h.2⟩
theorem Ig {i:Nat} {A B:List Stmt} (hc:PT X c (sx (ki i x) (tT X.K W ga))) (ha:PSs X A (tZ i x X.K W g1)) (hb:PSs X B (tZ i x X.K W g2)):PS X (.If c A B pos) (tZ i x X.K W (cg ga g1 g2)):=
 b8 (uG hc ha hb) fun D U H h=>⟨h.1,oH (By h.2) fun b H1 q=>by
  cases b with
  | true=>exact ⟨h.1,q⟩
  | false=>exact fI ⟨h.1,by simpa using q⟩⟩
theorem DZ {i:Nat} (ha:PE X a (tG (ki i x) (tE X.K W fa))):PS X (.Return (some a) pos) (tZ i x X.K W (aL fa)):=b8 (Ec ha) fun D U H h=>⟨h.1,uc (D:=nD [i] D U) h.2⟩
end
theorem Je:∀{ns:List Bool} {us:List Value},Vals (ns.map V.bl) us->us=ns.map Value.bool
 | [],_,.nil=>rfl
 | n::ns,_,.cons r t=>by
  cases (show _=Value.bool n from r)
  rw [Je t];rfl
def vi:Value->Bool
 | .bool b=>b==true
 | _=>false
theorem jh (b:Bool):vi (.bool b)=b:=by cases b<;>rfl
def BN (K:Fg):V->List V->Hp->VK->Prop:=fun x xs H Q=>∃(l:Addr) (ns:List Bool),x=.ref l/\xs=[.bl true]/\SqL K H l (ns.map V.bl)/\Q (.int (ns.count true:Nat)) H
def BJ (K:Fg):V->List V->Hp->VK->Prop:=fun x xs H Q=>∃(l:Addr) (ns:List Bool) (j:Nat),x=.ref l/\xs=[.bl true]/\SqL K H l (ns.map V.bl)/\ns[j]?=some true/\(∀m,m<j->ns[m]?≠some true)/\Q (.int j) H
theorem qM:DX X "list.count" (BN X.K):=by
 intro pins s U H x xs v us Q I rx rv h;obtain ⟨l,ns,rfl,rfl,hS,q⟩:=h
 cases rx;obtain ⟨u,rfl,ru⟩:=rv.one
 cases (show u=Value.bool true from ru)
 obtain ⟨its,r,pl,hz⟩:=I.list hS;have hI:=Je r
 subst hI;obtain ⟨o,n,ho,hc,hd,hdt⟩:=pl;obtain ⟨ocls,odict,odata,oslots⟩:=o;simp only at hc hd hdt
 subst hc hd hdt;refine call_meets F.slot_list_count ⟨_,ho,rfl⟩ F.entry_list_count (F.args_list_count_2 _ _) (SeqAt.list_countAt l (ns.map Value.bool).toArray n none oslots (.bool true) vi) ⟨ho,fun y hy=>?_,?_⟩
 ·obtain ⟨b,_,rfl⟩:=List.mem_map.mp (show y∈ns.map Value.bool by exact Array.mem_def.mp hy)
  exact SeqAt.EqAt.bool_bool b true
 ·have e:(ns.map Value.bool).toArray.toList.countP vi=ns.count true:=by
   show (ns.map Value.bool).countP vi=_
   rw [List.countP_map];unfold List.count;congr 1
  rw [e];exact ⟨.int (ns.count true:Nat),H,I.tok _,⟨_,rfl⟩,q⟩
theorem qL:DX X "list.index" (BJ X.K):=by
 intro pins s U H x xs v us Q I rx rv h;obtain ⟨l,ns,j,rfl,rfl,hS,hj,hno,q⟩:=h
 cases rx;obtain ⟨u,rfl,ru⟩:=rv.one
 cases (show u=Value.bool true from ru)
 obtain ⟨its,r,pl,hz⟩:=I.list hS;have hI:=Je r
 subst hI;have hjl:j<(ns.map Value.bool).toArray.size:=by rw [size_toArray,length_map];exact (L7 hj).1
 obtain ⟨o,n,ho,hc,hd,hdt⟩:=pl;obtain ⟨ocls,odict,odata,oslots⟩:=o;simp only at hc hd hdt
 subst hc hd hdt;have hsm:(j:Int)<2 ^ 63-1:=by
  rw [length_map] at hz;have h1:sizeLine<2 ^ 62:=by decide
  have:=(L7 hj).1
  omega
 refine call_meets F.slot_list_index ⟨_,ho,rfl⟩ F.entry_list_index (F.args_list_index_2 _ _) (SeqAt.list_indexAt l (ns.map Value.bool).toArray n none oslots (.bool true) vi j hjl hsm ?_ fun m hm hmj=>?_) ⟨ho,fun y hy=>?_,⟨.int j,H,I.tok _,⟨_,rfl⟩,q⟩⟩
 ·rw [List.getElem_toArray,List.getElem_map,jh]
  obtain ⟨hl,e⟩:=L7 hj
  exact e
 ·rw [List.getElem_toArray,List.getElem_map,jh]
  have hml:m<ns.length:=by rw [size_toArray,length_map] at hm;exact hm
  have:=hno m hmj
  rw [L0 hml] at this
  cases e:ns[m] with
  | false=>rfl
  | true=>rw [e] at this;exact absurd rfl this
 ·obtain ⟨b,_,rfl⟩:=List.mem_map.mp (show y∈ns.map Value.bool by exact Array.mem_def.mp hy)
  exact SeqAt.EqAt.bool_bool b true
def DU:List Bool->Option Nat
 | []=>none
 | n::r=>if n then some 0 else (DU r).map (·+1)
theorem vd:∀{ns:List Bool} {j:Nat},DU ns=some j->ns[j]?=some true/\∀m,m<j->ns[m]?≠some true
 | [],_,h=>by cases h
 | n::r,j,h=>by
  unfold DU at h
  cases n with
  | true=>cases h;exact ⟨rfl,fun m hm=>by omega⟩
  | false=>
   cases hr:DU r with
   | none=>rw [hr] at h;cases h
   | some j'=>
    rw [hr] at h
    cases h;obtain ⟨h1,h2⟩:=vd hr;refine ⟨by simpa using h1,fun m hm=>?_⟩
    cases m with
    | zero=>simp
    | succ m=>simpa using h2 m (by have:m+1<j'+1:=hm;omega)
def qZ (i:Nat):F1:=fun Γ=>match Γ[i]? with
 | some (some ⟨.leaf,.list ds⟩)=>(match mS ds with
  | some ns=>.ok ⟨.leaf,.int (ns.count true:Nat)⟩ Γ
  | none=>.no)
 | _=>.no
def qY (i:Nat):F1:=fun Γ=>match Γ[i]? with
 | some (some ⟨.leaf,.list ds⟩)=>(match mS ds with
  | some ns=>(match DU ns with
   | some j=>.ok ⟨.leaf,.int (j:Nat)⟩ Γ
   | none=>.no)
  | none=>.no)
 | _=>.no
section
variable {K:Fg} {W:XW} {U:St} {H:Hp} {Q:VK}
theorem BE {i:Nat} (h:tE K W (qZ i) U H Q):wQ K "list" (BN K) (aS i) (bS (tC (.bl true)) eL) U H Q:=by
 obtain ⟨He,O,Fs,Γ,E,h⟩:=h;have h:Wants K W He O Fs H U Q (qZ i Γ):=h
 unfold qZ at h;split at h
 ·rename_i ds e0
  obtain ⟨l,vs,h1,h2,h3⟩:=GW E e0;refine ⟨.ref l,h1,.inl ⟨rfl,vs,h2⟩,?_⟩
  cases hi:mS ds with
  | none=>rw [hi] at h;exact h.elim
  | some ns=>
   rw [hi] at h;rw [Ht hi] at h3;have ev:=Hw h3
   subst ev;exact ⟨l,ns,rfl,rfl,h2,h _ _ _ _ (GV E (Same.refl _) (fun a ha=>.inl ha) (.int _))⟩
 ·exact h.elim
theorem Bw {i:Nat} (h:tE K W (qY i) U H Q):wQ K "list" (BJ K) (aS i) (bS (tC (.bl true)) eL) U H Q:=by
 obtain ⟨He,O,Fs,Γ,E,h⟩:=h;have h:Wants K W He O Fs H U Q (qY i Γ):=h
 unfold qY at h;split at h
 ·rename_i ds e0
  obtain ⟨l,vs,h1,h2,h3⟩:=GW E e0;refine ⟨.ref l,h1,.inl ⟨rfl,vs,h2⟩,?_⟩
  cases hi:mS ds with
  | none=>rw [hi] at h;exact h.elim
  | some ns=>
   rw [hi] at h;dsimp only at h
   cases hj:DU ns with
   | none=>rw [hj] at h;exact h.elim
   | some j=>
    rw [hj] at h;rw [Ht hi] at h3;have ev:=Hw h3
    subst ev;obtain ⟨a1,a2⟩:=vd hj;exact ⟨l,ns,j,rfl,rfl,h2,a1,a2,h _ _ _ _ (GV E (Same.refl _) (fun a ha=>.inl ha) (.int _))⟩
 ·exact h.elim
end
section
variable {X:Cx} {N gl:List Str} {vs cs ls lo gs:List Nat} {W:XW} {p:Pos}
theorem Dq (S:Cp { X with calm:=true } N gl vs cs ls lo gs) (i:Nat) {x:Str} (hi:N[i]?=some x) (hv:vs.contains i=true) (hbase:attributeBase (.Name x p) "count" X.env (eval (.Name x p) X.env)=eval (.Name x p) X.env:=by rfl) (hline:(apos.endLine==cpos.line)=true:=by rfl) :
  PE X (.Call (.Attribute (.Name x p) "count" apos) [.Constant (.bool true) kb bp] [] cpos) (tE X.K W (qZ i)):=by
 have m:=S.nm x (mem_of_getElem? hi)
 exact aJ (fT (T := "list") (r:=BN X.K) F.plainAttrs_list F.slot_list_count F.type_list_count qM (km (by show X.N[i]?=_;rw [show X.N=N from S.hN];exact hi) (S.vis i x hi hv) m.1 m.2) (gM lh mP rfl) hbase rfl hline rfl rfl) fun _ _ _=>BE
theorem Dp (S:Cp { X with calm:=true } N gl vs cs ls lo gs) (i:Nat) {x:Str} (hi:N[i]?=some x) (hv:vs.contains i=true) (hbase:attributeBase (.Name x p) "index" X.env (eval (.Name x p) X.env)=eval (.Name x p) X.env:=by rfl) (hline:(apos.endLine==cpos.line)=true:=by rfl) :
  PE X (.Call (.Attribute (.Name x p) "index" apos) [.Constant (.bool true) kb bp] [] cpos) (tE X.K W (qY i)):=by
 have m:=S.nm x (mem_of_getElem? hi)
 exact aJ (fT (T := "list") (r:=BJ X.K) F.plainAttrs_list F.slot_list_index F.type_list_index qL (km (by show X.N[i]?=_;rw [show X.N=N from S.hN];exact hi) (S.vis i x hi hv) m.1 m.2) (gM lh mP rfl) hbase rfl hline rfl rfl) fun _ _ _=>Bw
end
structure RoomH (k:Nat) (A:Around):Prop where
 dp:A.depth+3*k+5<recursionLimit
 un:A.units+16*k+200<cLine
 gd:A.guards=some []
theorem Room.mark {k:Nat} (r:Room k A) (v:Option Value):RoomH k (A.mark v):=⟨r.dp,r.un,r.gd⟩
theorem RoomH.mono {j k:Nat} (r:RoomH k A) (h:j<=k):RoomH j A:=⟨by have:=r.dp;omega,by have:=r.un;omega,r.gd⟩
theorem RoomH.deeper {k:Nat} (r:RoomH (k+1) A) (env:Env):RoomH k (A.deeper env):=
 ⟨by have:=r.dp;show A.depth+1+3*k+5<_;omega,by have:=r.un;show A.units+3+16*k+200<_;omega,r.gd⟩
def Gc (P:Program) (w:World) (K:Fg) (mg:Str->Option Value) (base:Heap) (N:List Str) (qual:Str) (scope:Scope) (f:Addr) (cd:Value) (A:Around) (outer:List Env) (s:Shared) (H:Hp):Cx:=
 { eh ip P w K mg base N qual scope f cd A outer s H E0 with calm:=false,xe:=fun _ _=>False }
theorem C7 {P:Program} {w:World} {k:Nat} {f:Addr} {name qual:Str} {params:Arguments} {body:List Stmt} {scope:Scope} {dV kV doc pm cdv ct oc:Value} {an od:Option Addr}
  {osl:Array (Option Value)} {ps:List Str} (lk:K.lookup f=some ⟨oc,od,.func (PySem.W.fnOf name qual params body scope dV kV doc pm an cdv ct),osl⟩) (hcd:PySem.W.codeIn K cdv qual=true) (S:bK N ps scope)
  {outer:List Env} {s:Shared} {H:Hp} {args:Args} {us:List Value} {vs:List V} {Q:VK} {t:TS} (hr:RoomH (k+1) A) (e0:rZ P w K mg base A outer s H) (hb:BindsTo s (PySem.W.fnOf name qual params body scope dV kV doc pm an cdv ct) args (ps.zip us)) (r:Vals vs us) (hl:vs.length=ps.length)
  (ht:PSs (Gc P w K mg base N qual scope f cdv A outer s H) body t) (hq:t { nx:=fun _ H'=>Q .non H',rt:=Q } (start N vs) H):codeAny (model P w) A (.call (.ref f) args) (CR ip outer P w H s Q E0) s:=by
 have KX:K.In s.heap:=e0.mod.kin.keeps fun b o e=>(e0.bs b o e).1
 have lim:s.heap.NoLimit:=e0.mod.nolimit.keeps fun b o e=>(e0.bs b o e).1
 have hkind:∀y∈ps.zip us,scope.names.lookup y.1=some .local\/(scope.names.lookup y.1=some .cell/\((cellsFrom (s.heap.objs.size+1) scope.names []).lookup y.1).isSome=true):=fun ⟨n,v⟩ hy=>by
  rcases S.par n (of_mem_zip hy).1 with q | q
  ·exact .inl q
  ·exact .inr ⟨q,PySem.W.cellsFrom_some _ _ _ (.inl q)⟩
 refine codeAny_call_function (by have:=hr.dp;omega) (KX _ _ lk) rfl S.co S.gen rfl (PySem.W.codeRec_of KX hcd) (hb _ _ _ _ ?_)
 refine wpAny_newFunctionEnv_cells S.kind hkind fun env he s1 x=>?_
 subst he;refine ⟨lim.keeps x.toInCall.keep,codeAny_func ?_⟩
 have J:Inv (eh ip P w K mg base N qual scope f cdv { A with handled:=none } outer s H E0) [] (start N vs) H s1:=ji S rfl ⟨e0.frames,e0.mod,e0.bs,e0.bsz,e0.funs,e0.frf,e0.hok,e0.bare⟩ hl r x
 have I:Inv (Gc P w K mg base N qual scope f cdv A outer s H) [] (start N vs) H s1:=
  ⟨⟨J.ok.mod,J.ok.kind,J.ok.glob,J.ok.blt,J.ok.above,J.ok.inj,J.ok.has,J.ok.cab,fun z=>(nomatch z),Around.frames_deeper e0.frames,J.ok.stk,J.ok.exf,J.ok.bs,J.ok.bsz,J.ok.noex,J.ok.exfs,J.ok.funs,J.ok.frf⟩,J.os,J.bare,J.base,J.loc,J.cell,J.free,J.freeC,J.pin,J.hok,J.len⟩
 refine wpAny_mono (ht [] s1 (start N vs) H _ I hq) (fun fl s' hs=>?_) fun e s' hs=>hs.elim
 have fin:∀{U':St} {H':Hp} {v:V} {u:Value},Inv (Gc P w K mg base N qual scope f cdv A outer s H) [] U' H' s'->RelV v u->Q v H'->CE outer P w H s Q u s':=
  fun {U' H' v u} J rv q=>⟨v,H',J.os,J.bare,J.base,J.hok,rv,q⟩
 cases fl with
 | ret u=>
  obtain ⟨v,U',H',J,rv,q⟩:=hs;exact fin J rv q
 | next=>
  obtain ⟨U',H',J,q⟩:=hs;exact fin (v:=V.non) (u:=Value.none) J rfl q
 | brk=>
  obtain ⟨_,_,_,q⟩:=hs;exact False.elim q
 | cont=>
  obtain ⟨_,_,_,q⟩:=hs;exact False.elim q
def Dk (n:Nat) (g:FS):bz:=match g (List.replicate n none) with
 | .nx _=>.ok ⟨.leaf,.none⟩
 | .rt p=>.ok p
 | _=>.no
def KD (P:Program) (w:World) (K:Fg) (mg:Str->Option Value) (base:Heap) (k:Nat) (f:Addr) (fd:FuncData) (q:Str) (cl:List Str) (m:Str->bz):Prop:=
 ∀(A:Around) (outer:List Env) (s:Shared) (H:Hp) (a C:Addr) (c:Str) (O:List Addr) (Q:VK) (args:Args),RoomH k A->rZ P w K mg base A outer s H->wC a C s.heap->H a=none->a∉fJ outer->c∈cl->mg c=some (.ref C)->O.Nodup->(∀b∈O,H b≠none) ->
  (match m c with | .ok p=>∀v H' G,RetOk K H O p v H' G->Q v H' | _=>False)->BindsTo s fd args ([q].zip [.ref a])->codeAny (model P w) A (.call (.ref f) args) (CR ip outer P w H s Q E0) s
def D4 (P:Program) (w:World) (K:Fg) (mg:Str->Option Value) (base:Heap) (k:Nat) (x:Str) (cl:List Str) (m:Str->bz):Prop:=
 ∃(f:Addr) (fd:FuncData) (q:Str),mg x=some (.ref f)/\PySem.W.keepIn K (.ref f)=true/\Binds K fd [q] []/\KD P w K mg base k f fd q cl m
structure InH (p:Fg->(Str->Option Value)->Prop) (X:Cx) (P:Program) (w:World) (K:Fg) (mg:Str->Option Value) (base:Heap) (k:Nat):Prop where
 e1:X.prog=P
 e2:X.w=w
 e3:X.K=K
 e4:X.mg=mg
 e5:X.base=base
 rm:RoomH k X.A
 pp:p K mg
theorem InH.r {p:Fg->(Str->Option Value)->Prop} {P:Program} {w:World} {k:Nat} (I:InH p X P w K mg base k):Rm X:=by
 have:=I.rm.un
 unfold Rm;omega
section
variable {p:Fg->(Str->Option Value)->Prop} {P:Program} {w:World} {K:Fg} {mg:Str->Option Value} {base:Heap} {k:Nat} {x q:Str} {st:Stmt} {cl:List Str} {d:Str->FS}
theorem LC (F:Ft K mg x st) (e:p K mg) (q:Str) (b:wF x st [q]) (rs gl:List Str) (vs cs gs:List Nat)
  (hb:∀(X:Cx) (a C:Addr) (c:Str),c∈cl->mg c=some (.ref C)->Cp { X with calm:=true } ([q]++rs) gl vs cs vs (nC vs cs) gs->InH p X P w K mg base k->iQ X a C->PSs X (jv st) (tZ 0 a X.K W0 (d c)))
  (h:fB ([q]++rs) gl [q] vs cs gs st=true:=by kernel_rfl):D4 P w K mg base (k+1) x cl (fun c=>Dk ([q]++rs).length (d c)):=by
 obtain ⟨f,fd,hm,F⟩:=F;obtain ⟨h1,h2,h3⟩:=pL h;refine ⟨f,fd,q,hm,F.kp,AA F b,fun A outer s H a C c O Q args hr e0 hx hH haf hc hC nd inH hw hbn=>?_⟩
 obtain ⟨oc,od,kV,doc,pm,an,cdv,ct,osl,rfl,lk,hcd⟩:=F.ex;have hex:iQ (Gc P w K mg base ([q]++rs) x (dM st) f cdv A outer s H) a C:=fun pins U H' s' I=>by
  obtain ⟨oe,vs,g,hc1,hd⟩:=hx;exact ⟨oe,vs,I.base.keep a oe g hH haf nofun,hc1,hd⟩
 have S:Cp { Gc P w K mg base ([q]++rs) x (dM st) f cdv A outer s H with calm:=true } ([q]++rs) gl vs cs vs (nC vs cs) gs:=by
  obtain ⟨a1,b1,c1⟩:=GO h2;have q1:=D8 h1
  exact ⟨rfl,a1,b1,c1,q1.vis,q1.cel,fun i x e hi=>⟨q1.loc i x e hi,.inl rfl⟩,q1.loo,q1.glb,rfl,q1.kind⟩
 refine C7 (k:=k) lk hcd h3 (vs:=[.ref a]) hr e0 hbn (.cons rfl .nil) rfl (hb _ a C c hc hC S ⟨rfl,rfl,rfl,rfl,rfl,hr.deeper _,e⟩ hex) ?_
 refine ⟨rfl,H,O,List.replicate ([q]++rs).length [],List.replicate ([q]++rs).length none,?_,?_⟩
 ·have fl:(List.replicate ([q]++rs).length ([]:List Addr)).flatten=[]:=by simp
  refine ⟨by simp [L2.start],by simp,Same.refl _,by rw [fl];simpa using nd,by rw [fl];simpa using inH,fun a ha=>by rw [fl] at ha;simp at ha,fun i p hp=>?_⟩
  rw [getElem?_replicate] at hp;split at hp<;>cases hp
 ·unfold Dk at hw
  dsimp only at hw
  cases e:d c (List.replicate ([q]++rs).length none) with
  | nx Γ'=>
   rw [e] at hw;exact fun U' H' Fs' E' _=>hw .non H' [] ⟨E'.same,(fun _ z=>nomatch z),(fun _ z=>nomatch z),nodup_nil,.leaf .non,rfl⟩
  | rt p=>rw [e] at hw;exact hw
  | bk Γ'=>rw [e] at hw;exact hw.elim
  | ct Γ'=>rw [e] at hw;exact hw.elim
  | er c Γ'=>rw [e] at hw;exact hw.elim
  | no=>rw [e] at hw;exact hw.elim
end
def qX (r:bz):F1:=fun Γ=>match r with
 | .ok p=>.ok p Γ
 | _=>.no
theorem C1 {W:XW} {k kk:Nat} {x:Str} {m:Str->bz} {p:Pos} (S:Cp X N gl vs cs ls lo gs) (hst:X.stack=X.env::X.outer) (hf:X.env.frame=some X.env.locals)
  (F:D4 X.prog X.w X.K X.mg X.base k x cl m) (hr:Room kk X.A) (hk:decide (k<=kk)=true) (hc:c∈cl) (hC:X.mg c=some (.ref C)) (hcl:oe.cls=.ref C) (hd:∃vs,oe.data=.fields vs) (hN:N[ie]?=some en) (hv:vs.contains ie=true) (j:Nat) (hj:gl[j]?=some x) (hg:gs.contains j=true) :
  PE (wZ X pins a oe) (.Call (.Name x p) [.Name en p1] [] pos) (tG (ki ie a) (tE X.K W (qX (m c)))):=by
 obtain ⟨f,fd,q,hm,hkp,hb,run⟩:=F;have mm:=S.nm en (mem_of_getElem? hN)
 have hvar:PE (wZ X pins a oe) (.Name en p1) (aS ie):=km (by show X.N[ie]?=_;rw [S.hN];exact hN) (S.vis ie en hN hv) mm.1 mm.2
 intro pins' s U H Q I h
 obtain ⟨h1,He,O,Fs,Γ,E,h2⟩:=h;refine wpAny_Call_Name_kw (Ei I (S.g hj hg).1 hm ?_ (S.g hj hg).2.1)
 refine PySem.W.callWith_K (h₀:=X.base) I.ok.mod.kin hkp (bj (gM hvar mP rfl pos pins' s U H (fun vs H1=>vs=[.ref a]/\H1=H) I ⟨.ref a,h1,rfl,rfl⟩) fun us s1 ⟨vs,H1,I1,r,q1,q2⟩=>⟨I1.kIn,?_⟩) (cF rfl) rfl
 subst q1 q2;obtain ⟨u,rfl,ru⟩:=r.one
 cases (show u=Value.ref a from ru)
 obtain ⟨e,n,ne,nf,dd⟩:=I1.pin (a,oe) (LU _ (LR _ (List.mem_singleton.mpr rfl)))
 have haf:a∉fJ X.stack:=fun z=>by
  rw [hst] at z;obtain ⟨en',m1,m2⟩:=List.mem_filterMap.mp z;rcases LZ m1 with y | y
  ·rw [y,hf] at m2
   exact ne (Option.some.inj m2).symm
  ·exact nf (List.mem_filterMap.mpr ⟨en',y,m2⟩)
 have hb2:=hb s1 [.ref a] I1.kIn rfl
 rw [append_nil] at hb2;obtain ⟨vsd,hdd⟩:=hd;refine wpAny_call (codeAny_mono (run (X.A.mark (some (.ref a))) X.stack s1 _ a C c (O++Fs.flatten) Q ⟨[.ref a],[]⟩ ((Room.mark hr _).mono (of_decide_eq_true hk)) I1.env0 ⟨oe,vsd,e,hcl,hdd⟩ n haf hc hC E.nd E.inH ?_ hb2) fun r s' hq=>?_)
 ·cases em:m c with
  | er c'=>unfold qX at h2;rw [em] at h2;exact h2.elim
  | no=>unfold qX at h2;rw [em] at h2;exact h2.elim
  | ok p=>
   unfold qX at h2;rw [em] at h2;intro v H2 G r;refine h2 v H2 G Fs ⟨r.same,E.hide r.same r.nd r.fresh r.inH,fun b hb=>?_,by rw [append_assoc];exact r.own⟩
   rcases LX hb with z | z
   ·exact .inr (r.fresh b z)
   ·exact .inl z
 ·cases r with
  | error e=>exact hq.elim
  | ok fl=>
   cases fl with
   | ret u=>exact I1.after hq
   | next=>exact False.elim hq
   | brk=>exact False.elim hq
   | cont=>exact False.elim hq
theorem Cp.hand (S:Cp X N gl vs cs ls lo gs):Cp { wZ X pins a oe with calm:=true } N gl vs cs ls lo gs:=⟨S.hN,S.nd,S.nm,S.ng,S.vis,S.cel,S.loc,S.loo,S.glb,rfl,S.kind⟩
theorem Cp.try (S:Cp X N gl vs cs ls lo gs):Cp (dS X pins W) N gl vs cs ls lo gs:=⟨S.hN,S.nd,S.nm,S.ng,S.vis,S.cel,S.loc,S.loo,S.glb,S.calm,S.kind⟩
theorem In.try {p:Fg->(Str->Option Value)->Prop} {P:Program} {w:World} {k:Nat} (I:In p X P w K mg base k):In p (dS X pins W) P w K mg base k:=⟨I.e1,I.e2,I.e3,I.e4,I.e5,I.rm,I.pp⟩
theorem CP {W:XW} {a:Expr} {fa:F1} {k:Nat} {φ:St->Prop} (S:Cp { X with calm:=true } N gl vs cs ls lo gs) (hk:N[k]?=some y) (hl:ls.contains k=true) (ha:PE X a (tG φ (tE X.K W fa))) (hs:swapsWith a (some (.Name y pos')) pos.line X.env=pure false:=by rfl) :
  PSs X [.Assign [.Name y pos'] a pos] (JR φ (tS X.K W (ay false k fa))):=
 wK (b8 (Aw (by show X.N.Nodup;rw [show X.N=N from S.hN];exact S.nd) (by show X.N[k]?=_;rw [show X.N=N from S.hN];exact hk) (S.loc k y hk hl).1 ha hs (S.loc k y hk hl).2) fun D U H h=>⟨h.1,GQ h.2⟩)
abbrev Lk:List Value:=[.type "ValueError",.type "Exception",.type "BaseException",.type "object"]
def Gf (K:Fg) (D C:Addr) (c:Str) (ds:List Str):Bool:=PySem.W.excIn K C Lk "ValueError.__new__"&&yJ K C&&PySem.W.subIn K (.ref C) (.ref D)==some true&&PySem.W.kitOne K (.ref C) (.type "ValueError")==some true&&ds.all fun d=>match PySem.W.nsIn K mainGlobals d with
 | some (some (.ref E))=>PySem.W.kitOne K (.ref C) (.ref E)==some (d==c)
 | _=>false
def FV (K:Fg) (cl ds:List Str):Bool:=match PySem.W.nsIn K mainGlobals "HallError" with
 | some (some (.ref D))=>PySem.W.typeIn K (.ref D)==some (.type "type")&&yJ K D&&cl.all fun c=>match PySem.W.nsIn K mainGlobals c with
  | some (some (.ref C))=>Gf K D C c ds
  | _=>false
 | _=>false
structure GE (K:Fg) (mg:Str->Option Value) (D C:Addr) (c:Str) (ds:List Str):Prop where
 ns:PySem.W.nsIn K mainGlobals c=some (some (.ref C))
 gm:mg c=some (.ref C)
 ei:PySem.W.excIn K C Lk "ValueError.__new__"=true
 ex:eT K C
 sub:PySem.W.subIn K (.ref C) (.ref D)=some true
 ve:PySem.W.kitOne K (.ref C) (.type "ValueError")=some true
 is:∀d,ds.contains d=true->∃E,mg d=some (.ref E)/\PySem.W.kitOne K (.ref C) (.ref E)=some (d==c)
structure ExT (K:Fg) (mg:Str->Option Value) (cl ds:List Str):Prop where
 h:∃D,mg "HallError"=some (.ref D)/\Aq K D/\∀c∈cl,∃C,GE K mg D C c ds
theorem gx {h:Heap} (KX:K.In h) (G:h.Ns mainGlobals mg) (z:FV K cl ds=true):ExT K mg cl ds:=by
 unfold FV at z;split at z
 ·rename_i D e0
  simp only [Bool.and_eq_true,beq_iff_eq,all_eq_true] at z
  obtain ⟨⟨z1,z2⟩,z3⟩:=z;refine ⟨D,PySem.W.mg_of KX G e0,⟨z1,pM z2⟩,fun c hc=>?_⟩
  have z4:=z3 c hc
  split at z4
  ·rename_i C e1
   unfold Gf at z4;simp only [Bool.and_eq_true,beq_iff_eq,all_eq_true] at z4
   obtain ⟨⟨⟨⟨y1,y2⟩,y3⟩,y4⟩,y5⟩:=z4;refine ⟨C,e1,PySem.W.mg_of KX G e1,y1,pM y2,y3,y4,fun d hd=>?_⟩
   have y6:=y5 d (by simpa using hd)
   split at y6
   ·rename_i E e2
    exact ⟨E,PySem.W.mg_of KX G e2,beq_iff_eq.mp y6⟩
   ·cases y6
  ·cases z4
 ·cases z
theorem ExT.cls (E:ExT K mg cl ds) (hc:c∈cl) (hC:mg c=some (.ref C)):∃D,GE K mg D C c ds:=by
 obtain ⟨D,_,_,h⟩:=E.h;obtain ⟨C',k⟩:=h c hc;have:=k.gm
 rw [hC] at this
 cases this;exact ⟨D,k⟩
theorem ExT.rais (E:ExT K mg cl ds) (KX:K.In base) (G:base.Ns mainGlobals mg) (hc:cl.contains c=true:=by kernel_rfl):rY mg base c:=by
 obtain ⟨D,_,_,h⟩:=E.h;obtain ⟨C,k⟩:=h c (by simpa using hc)
 exact xQ (h:=base) KX G k.ns k.ei
section
variable {X:Cx} {N gl:List Str} {vs cs ls lo gs:List Nat} {W:XW} {cl ds:List Str} {i:Nat} {x C:Addr} {c ex d:Str} {p p1 p2 pos:Pos}
theorem FP (S:Cp { X with calm:=true } N gl vs cs ls lo gs) (E:ExT X.K X.mg cl ds) (hx:iQ X x C) (hc:c∈cl) (hC:X.mg c=some (.ref C)) (hmi:X.mg "isinstance"=none) (j k:Nat) (hN:N[i]?=some ex:=by exact rfl) (hv:vs.contains i=true:=by exact rfl) (hj:gl[j]?=some ("isinstance":Str):=by exact rfl) (hg:gs.contains j=true:=by exact rfl) (hk2:gl[k]?=some d:=by exact rfl) (hg2:gs.contains k=true:=by exact rfl) (hd:ds.contains d=true:=by kernel_rfl) :
  PE X (.Call (.Name "isinstance" p) [.Name ex p1,.Name d p2] [] pos) (tG (ki i x) (tE X.K W (eK (.bool (d==c))))):=by
 obtain ⟨D,k'⟩:=E.cls hc hC;obtain ⟨E',h1,h2⟩:=k'.is d hd
 exact FT S hx k'.ex h2 h1 hmi hN hv j k hj hg hk2 hg2
theorem kc:bootBuiltins "ValueError"=some (.type "ValueError"):=by decide +kernel
theorem Kt (S:Cp { X with calm:=true } N gl vs cs ls lo gs) (E:ExT X.K X.mg cl ds) (hx:iQ X x C) (hc:c∈cl) (hC:X.mg c=some (.ref C)) (hmi:X.mg "isinstance"=none) (hve:X.mg "ValueError"=none) (j k:Nat) (hN:N[i]?=some ex:=by exact rfl) (hv:vs.contains i=true:=by exact rfl) (hj:gl[j]?=some ("isinstance":Str):=by exact rfl) (hg:gs.contains j=true:=by exact rfl) (hk2:gl[k]?=some ("ValueError":Str):=by exact rfl) (hg2:gs.contains k=true:=by exact rfl) :
  PE X (.Call (.Name "isinstance" p) [.Name ex p1,.Name "ValueError" p2] [] pos) (tG (ki i x) (tE X.K W (eK (.bool true)))):=by
 obtain ⟨D,k'⟩:=E.cls hc hC;exact CZ S hx k'.ex k'.ve hve kc hmi hN hv j k hj hg hk2 hg2
end
abbrev KO:List Str:=["NoWorld", "NoPlayer", "NoMark", "NoSentence", "NoRoom", "NoWay", "NoPlan", "NoPaper", "TooGreat", "NoNote"]
abbrev Li:List Str:=["isinstance", "NoWorld", "NoPlayer", "NoMark", "NoSentence", "NoRoom", "NoWay", "NoPlan", "NoPaper", "TooGreat", "NoNote", "ValueError"]
abbrev bk (d c:Str):F1:=eK (.bool (d==c))
def Gb (c:Str):FS:=av (ay false 1 (aV .leaf (ae (bk "NoWorld" c) (ae (bk "NoPlayer" c) (ae (bk "NoMark" c) (ae (bk "NoSentence" c) af))))))
 (av (ay false 1 (dJ (aa 1) (aV .leaf (ae (bk "NoRoom" c) (ae (bk "NoWay" c) (ae (bk "NoPlan" c) (ae (bk "NoPaper" c) af)))))))
 (av (ay false 1 (dJ (aa 1) (aV .leaf (ae (bk "TooGreat" c) (ae (bk "NoNote" c) af)))))
 (av (cg (fF (aF ao (aA gL (qZ 1) (eK (.int 1)))) (bT (aF bt (eK (.bool true))))) (aL (eK (.str "other"))) aN)
 (aL (ag (aV .leaf (ae (eK (.str "world")) (ae (eK (.str "player")) (ae (eK (.str "mark")) (ae (eK (.str "sentence")) (ae (eK (.str "room")) (ae (eK (.str "way")) (ae (eK (.str "plan")) (ae (eK (.str "paper")) (ae (eK (.str "great")) (ae (eK (.str "note")) af))))))))))) (qY 1))))))
end T
namespace TQ
open PySem PySem.Spec L2 T
open PyProof.Rows hiding St
variable {kb:Nat} {apos cpos bp:Pos}
section
variable {X:Cx} {N gl:List Str} {vs cs ls lo gs:List Nat} {W:XW} {φ:St->Prop} {a b c e:Expr} {es:List Expr} {pos p p1 p2:Pos} {fa fb fc:F1} {fl:FL} {ga gb:FB} {g1 g2:FS} {i k:Nat} {x C:Addr} {cl ds:List Str} {ex d y cc:Str}
theorem eo (S:Cp { X with calm:=true } N gl vs cs ls lo gs) (E:ExT X.K X.mg cl ds) (hx:iQ X x C) (hc:cc∈cl) (hC:X.mg cc=some (.ref C)) (hmi:X.mg "isinstance"=none) (j k:Nat) (hN:N[i]?=some ex:=by exact rfl) (hv:vs.contains i=true:=by exact rfl) (hj:gl[j]?=some ("isinstance":Str):=by exact rfl) (hg:gs.contains j=true:=by exact rfl) (hk2:gl[k]?=some d:=by exact rfl) (hg2:gs.contains k=true:=by exact rfl) (hd:ds.contains d=true:=by kernel_rfl) :
  Q (PE X (.Call (.Name "isinstance" p) [.Name ex p1,.Name d p2] [] pos) (tG (ki i x) (tE X.K W (eK (.bool (d==cc)))))):=⟨FP S E hx hc hC hmi j k hN hv hj hg hk2 hg2 hd⟩
theorem JC (S:Cp { X with calm:=true } N gl vs cs ls lo gs) (E:ExT X.K X.mg cl ds) (hx:iQ X x C) (hc:cc∈cl) (hC:X.mg cc=some (.ref C)) (hmi:X.mg "isinstance"=none) (hve:X.mg "ValueError"=none) (j k:Nat) (hN:N[i]?=some ex:=by exact rfl) (hv:vs.contains i=true:=by exact rfl) (hj:gl[j]?=some ("isinstance":Str):=by exact rfl) (hg:gs.contains j=true:=by exact rfl) (hk2:gl[k]?=some ("ValueError":Str):=by exact rfl) (hg2:gs.contains k=true:=by exact rfl) :
  Q (PE X (.Call (.Name "isinstance" p) [.Name ex p1,.Name "ValueError" p2] [] pos) (tG (ki i x) (tE X.K W (eK (.bool true))))):=⟨Kt S E hx hc hC hmi hve j k hN hv hj hg hk2 hg2⟩
theorem HE (h:Q (PE X a (tE X.K W fa))):Q (PE X a (tG φ (tE X.K W fa))):=⟨gu h.p⟩
theorem sU:Q (PA X [] (zL φ (tA X.K W af))):=⟨FR⟩
theorem wI (ha:Q (PE X e (tG φ (tE X.K W fa)))) (hr:Q (PA X es (zL φ (tA X.K W fl)))) (hs:wG e=false:=by exact rfl):Q (PA X (e::es) (zL φ (tA X.K W (ae fa fl)))):=⟨C0 ha.p hr.p (cF hs)⟩
theorem Iw (s:Sh) (h:Q (PA X es (zL φ (tA X.K W fl)))):Q (PE X (.List es pos) (tG φ (tE X.K W (aV s fl)))):=⟨CY s h.p⟩
theorem zI (ha:Q (PE X a (tG φ (tE X.K W fa)))) (hb:Q (PE X b (tG φ (tE X.K W fb)))):Q (PE X (.BinOp a .Add b pos) (tG φ (tE X.K W (dJ fa fb)))):=⟨FU ha.p hb.p⟩
theorem zF (S:Cp { X with calm:=true } N gl vs cs ls lo gs) (i:Nat) {x:Str} (hN:N[i]?=some x:=by exact rfl) (hv:vs.contains i=true:=by exact rfl):Q (PE X (.Name x pos) (tE X.K W (aa i))):=⟨FQ S i hN hv⟩
theorem Ez (ha:Q (PE X a (tG φ (tE X.K W fa)))) (he:∀whole,isTrue a X.env whole=(do let v <-whole;standAt a.pos;holding [v] (truthy v)):=by exact fun _=>rfl):Q (PT X a (sx φ (tT X.K W (aF bt fa)))):=⟨CM ha.p he⟩
theorem EB (ha:Q (PT X a (sx φ (tT X.K W ga)))):Q (PT X (.UnaryOp .Not a pos) (sx φ (tT X.K W (bT ga)))):=⟨CO ha.p⟩
theorem EA (ha:Q (PT X a (tT X.K W ga))) (hb:Q (PT X b (sx φ (tT X.K W gb)))):Q (PT X (.BoolOp .Or [a,b] pos) (sx φ (tT X.K W (fF ga gb)))):=⟨CN ha.p hb.p⟩
theorem zH {st:Stmt} {g:FS} (h:Q (PS X st (tZ i x X.K W g))):Q (PSs X [st] (tZ i x X.K W g)):=⟨D1 h.p⟩
theorem AN:Q (PSs X [] (tZ i x X.K W aN)):=⟨D2⟩
theorem G8 {st:Stmt} {rest:List Stmt} (h1:Q (PS X st (tZ i x X.K W g1))) (h2:Q (PSs X rest (tZ i x X.K W g2))):Q (PSs X (st::rest) (tZ i x X.K W (av g1 g2))):=⟨Ar h1.p h2.p⟩
theorem sQ {pos':Pos} (S:Cp { X with calm:=true } N gl vs cs ls lo gs) (ha:Q (PE X a (tG (ki i x) (tE X.K W fa)))) (hki:(k==i)=false:=by exact rfl) (hk:N[k]?=some y:=by exact rfl) (hl:ls.contains k=true:=by exact rfl) (hs:swapsWith a (some (.Name y pos')) pos.line X.env=pure false:=by exact rfl):Q (PS X (.Assign [.Name y pos'] a pos) (tZ i x X.K W (ay false k fa))):=⟨DY S hki hk hl ha.p hs⟩
theorem JD {A B:List Stmt} (hc:Q (PT X c (sx (ki i x) (tT X.K W ga)))) (ha:Q (PSs X A (tZ i x X.K W g1))) (hb:Q (PSs X B (tZ i x X.K W g2))):Q (PS X (.If c A B pos) (tZ i x X.K W (cg ga g1 g2))):=⟨Ig hc.p ha.p hb.p⟩
theorem zG (ha:Q (PE X a (tG (ki i x) (tE X.K W fa)))):Q (PS X (.Return (some a) pos) (tZ i x X.K W (aL fa))):=⟨DZ ha.p⟩
theorem ED (S:Cp { X with calm:=true } N gl vs cs ls lo gs) (i:Nat) {x:Str} (hline:(apos.endLine==cpos.line)=true) (hi:N[i]?=some x:=by exact rfl) (hv:vs.contains i=true:=by exact rfl) (hbase:attributeBase (.Name x p) "count" X.env (eval (.Name x p) X.env)=eval (.Name x p) X.env:=by exact rfl) :
  Q (PE X (.Call (.Attribute (.Name x p) "count" apos) [.Constant (.bool true) kb bp] [] cpos) (tE X.K W (qZ i))):=⟨Dq S i hi hv hbase hline⟩
theorem EC (S:Cp { X with calm:=true } N gl vs cs ls lo gs) (i:Nat) {x:Str} (hline:(apos.endLine==cpos.line)=true) (hi:N[i]?=some x:=by exact rfl) (hv:vs.contains i=true:=by exact rfl) (hbase:attributeBase (.Name x p) "index" X.env (eval (.Name x p) X.env)=eval (.Name x p) X.env:=by exact rfl) :
  Q (PE X (.Call (.Attribute (.Name x p) "index" apos) [.Constant (.bool true) kb bp] [] cpos) (tE X.K W (qY i))):=⟨Dp S i hi hv hbase hline⟩
end
theorem xa {X:Cx} {cl:List Str} {a C:Addr} {c:Str} (S:Cp { X with calm:=true } ["e", "some"] Li [0,1] [] [0,1] [0,1] [0,1,2,3,4,5,6,7,8,9,10,11]) (R:Rm X) (E:ExT X.K X.mg cl KO) (hx:iQ X a C) (hc:c∈cl) (hC:X.mg c=some (.ref C)) (hmi:X.mg "isinstance"=none) (hve:X.mg "ValueError"=none)
  {q1 q2 q3 q4 q5 q6 q7 q8 q9 q10 q11 q12 q13 q14 q15 q16 q17 q18 q19 q20 q21 q22 q23 q24 q25 q26 q27 q28 q29 q30 q31 q32 q33 q34 q35 q36 q37 q38 q39 q40 q41 q42 q43 q44 q45 q46 q47 q48 q49 q50 q51 q52 q53 q54 q55 q56 q57 q58 q59 q60 q61 q62 q63 q64 q65 q66 q67 q68 q69 q70 q71 q72 q73 q74 q75 q76 q77 q78 q79 q80 q81 q82 q83 q84 q85:Pos}
  {k1 k2 k3 k4 k5 k6 k7 k8 k9 k10 k11 k12 k13 k14:Nat} (h1:(q47.endLine==q50.line)=true:=by exact rfl) (h2:(q60.endLine==q63.line)=true:=by exact rfl) :
  Q (PSs X [.Assign [.Name "some" q1] (.List [.Call (.Name "isinstance" q2) [.Name "e" q3,.Name "NoWorld" q4] [] q5,.Call (.Name "isinstance" q6) [.Name "e" q7,.Name "NoPlayer" q8] [] q9,.Call (.Name "isinstance" q10) [.Name "e" q11,.Name "NoMark" q12] [] q13,.Call (.Name "isinstance" q14) [.Name "e" q15,.Name "NoSentence" q16] [] q17] q18) q19,
   .Assign [.Name "some" q20] (.BinOp (.Name "some" q21) .Add (.List [.Call (.Name "isinstance" q22) [.Name "e" q23,.Name "NoRoom" q24] [] q25,.Call (.Name "isinstance" q26) [.Name "e" q27,.Name "NoWay" q28] [] q29,.Call (.Name "isinstance" q30) [.Name "e" q31,.Name "NoPlan" q32] [] q33,.Call (.Name "isinstance" q34) [.Name "e" q35,.Name "NoPaper" q36] [] q37] q38) q39) q40,
   .Assign [.Name "some" q41] (.BinOp (.Name "some" q42) .Add (.List [.Call (.Name "isinstance" q43) [.Name "e" q44,.Name "TooGreat" q45] [] q46,.Call (.Name "isinstance" q64) [.Name "e" q65,.Name "NoNote" q66] [] q67] q68) q69) q70,
   .If (.BoolOp .Or [.Compare (.Call (.Attribute (.Name "some" q48) "count" q47) [.Constant (.bool true) k1 q49] [] q50) [.NotEq] [.Constant (.int 1) k2 q51] q52,.UnaryOp .Not (.Call (.Name "isinstance" q53) [.Name "e" q54,.Name "ValueError" q55] [] q56) q57] q58) [.Return (some (.Constant (.str "other") k3 q59)) q71] [] q72,
   .Return (some (.Subscript (.List [.Constant (.str "world") k4 q73,.Constant (.str "player") k5 q74,.Constant (.str "mark") k6 q75,.Constant (.str "sentence") k7 q76,.Constant (.str "room") k8 q77,.Constant (.str "way") k9 q78,.Constant (.str "plan") k10 q79,.Constant (.str "paper") k11 q80,.Constant (.str "great") k12 q81,.Constant (.str "note") k13 q82] q83) (.Call (.Attribute (.Name "some" q61) "index" q60) [.Constant (.bool true) k14 q62] [] q63) q84)) q85] (tZ 0 a X.K W0 (Gb c))):=by
 refine G8 (sQ S (Iw .leaf (wI (eo S E hx hc hC hmi 0 1) (wI (eo S E hx hc hC hmi 0 2) (wI (eo S E hx hc hC hmi 0 3) (wI (eo S E hx hc hC hmi 0 4) sU)))))) ?_
 refine G8 (sQ S (zI (HE (zF S 1)) (Iw .leaf (wI (eo S E hx hc hC hmi 0 5) (wI (eo S E hx hc hC hmi 0 6) (wI (eo S E hx hc hC hmi 0 7) (wI (eo S E hx hc hC hmi 0 8) sU))))))) ?_
 refine G8 (sQ S (zI (HE (zF S 1)) (Iw .leaf (wI (eo S E hx hc hC hmi 0 9) (wI (eo S E hx hc hC hmi 0 10) sU))))) ?_
 refine G8 (JD (EA (cP (kW R) (ED S 1 h1) w_de_int) (EB (Ez (JC S E hx hc hC hmi hve 0 11)))) (zH (zG (HE sq))) AN) ?_
 exact zH (zG (HE (bA (kn .leaf (aW sq (aW sq (aW sq (aW sq (aW sq (aW sq (aW sq (aW sq (aW sq (aO sq))))))))))) (EC S 1 h2))))
end TQ
namespace T
open PySem PySem.Spec L2
open PyProof.Rows hiding St
def Lm (X:Cx):Prop:=X.stack=X.env::X.outer/\X.env.frame=some X.env.locals
section
variable {p:Fg->(Str->Option Value)->Prop} {X Y:Cx} {P:Program} {w:World} {K:Fg} {mg:Str->Option Value} {base:Heap} {j k n:Nat} {y:Str} {s:Stmt} {ps:List Str} {g:FS} {den:List Mc->bz} {cl ds:List Str} {m:Str->bz}
abbrev KN (p:Fg->(Str->Option Value)->Prop) (P:Program) (w:World) (K:Fg) (mg:Str->Option Value) (base:Heap) (k:Nat) (N gl:List Str) (vs cs gs:List Nat) (s:Stmt) (g:FS):Prop:=∀X:Cx,Cp X N gl vs cs vs (nC vs cs) gs->In p X P w K mg base k->Lm X->PassesOwn (model X.prog X.w) X.A X.env X.xe->TQ.Q (PSs X (jv s) (tS X.K W0 g))
theorem FG {f:Addr} {fd:FuncData} (F:Fun K y y s f fd) (e:p K mg) (N gl:List Str) (vs cs gs:List Nat) (h:fB N gl ps vs cs gs s=true) (hb:KN p P w K mg base k N gl vs cs gs s g):cO P w K mg base ip (k+1) f fd ps (qf K ps.length (aC N.length g)):=by
 obtain ⟨h1,h2,h3⟩:=pL h;exact vI F h3 fun cdv A outer s H E hr=>(hb _ (Cp.fn h1 h2) ⟨rfl,rfl,rfl,rfl,rfl,hr,e⟩ ⟨rfl,rfl⟩ PassesOwn.never).p
theorem LA (F:Ft K mg y s) (e:p K mg) (ps:List Str) (b:wF y s ps) (rs gl:List Str) (vs cs gs:List Nat) (hb:KN p P w K mg base k (ps++rs) gl vs cs gs s g) (h:fB (ps++rs) gl ps vs cs gs s=true:=by kernel_rfl):DefOk P w K mg base (k+1) y ps.length (aC (ps++rs).length g):=by
 obtain ⟨f,fd,hm,F⟩:=F;exact ⟨f,fd,ps,FG F e _ gl vs cs gs h hb,hm,F.kp,AA F b⟩
theorem Kp {fa:Addr} (F:Ft K mg y s) (e:p K mg) (q:Str) (b:wF y s [q]) (hfa:mg y=some (.ref fa)) (rs gl:List Str) (vs cs gs:List Nat) (hb:∀base:Heap,(K.In base/\base.Ns mainGlobals mg)->KN p P w K mg base k ([q]++rs) gl vs cs gs s g) (h:fB ([q]++rs) gl [q] vs cs gs s=true:=by kernel_rfl) :
  ∃fd:FuncData,(∀(s:Shared) (v:Value),BindsTo s fd ⟨[v],[]⟩ [(q,v)])/\∀base:Heap,K.In base->base.Ns mainGlobals mg->cO P w K mg base ip (k+1) fa fd [q] (qf K 1 (aC ([q]++rs).length g)):=by
 obtain ⟨f,fd,hm,F⟩:=F;have e':=hfa.symm.trans hm
 cases e'
 refine ⟨fd,fun s v=>?_,fun base kb nb=>FG F e _ gl vs cs gs h (hb base ⟨kb,nb⟩)⟩
 obtain ⟨oc,od,kV,doc,pm,an,cdv,ct,osl,rfl,lk,hcd⟩:=F.ex;exact .of_eq (b [v] rfl kV doc pm an cdv ct)
theorem In.eE (I:In p X P w K mg base k) (h:D4 P w K mg base j y cl m):D4 X.prog X.w X.K X.mg X.base j y cl m:=by
 obtain ⟨rfl,rfl,rfl,rfl,rfl,r,_⟩:=I;exact h
theorem In.xt (I:In p X P w K mg base k) (h:ExT K mg cl ds):ExT X.K X.mg cl ds:=by rw [I.e3,I.e4];exact h
theorem InH.xt (I:InH p X P w K mg base k) (h:ExT K mg cl ds):ExT X.K X.mg cl ds:=by rw [I.e3,I.e4];exact h
theorem InH.gm {o:Option Value} (I:InH p X P w K mg base k) (h:mg y=o):X.mg y=o:=by rw [I.e4];exact h
end
end T
namespace TQ
open PySem PySem.Spec L2 T
open PyProof.Rows hiding St
theorem EF {X:Cx} {N gl:List Str} {vs cs ls lo gs:List Nat} (S:Cp X N gl vs cs ls lo gs) (st:Lm X) {body:List Stmt} {g:FS} {k:Str->FS} {cl ds:List Str} {en:Str} (ie j:Nat) {np hpos pos:Pos} {suite:Stmt} (E:ExT X.K X.mg cl ds)
  (hb:∀(pins:List (Addr×Obj)) (W:Addr->L2.St->Hp->Prop),Q (PSs (dS X pins W) body (tS X.K (wT X.mg W) g)))
  (hh:∀(pins:List (Addr×Obj)) (a C:Addr) (oe:Obj) (c:Str),c∈cl->X.mg c=some (.ref C)->oe.cls=.ref C->(∃vs,oe.data=.fields vs)->PSs (wZ X pins a oe) [suite] (JR (ki ie a) (tS X.K W0 (k c))))
  (hie:N[ie]?=some en:=by exact rfl) (hel:lo.contains ie=true:=by exact rfl) (hj:gl[j]?=some ("HallError":Str):=by exact rfl) (hg:gs.contains j=true:=by exact rfl) :
  Q (PS X (.Try body [.ExceptHandler (some (.Name "HallError" np)) (some en) [suite] hpos] [] [] pos) (tS X.K W0 (kR cl ie g k))):=by
 obtain ⟨D,h1,h2,h3⟩:=E.h;refine ⟨BR S st.1 st.2 hie hel hj hg h1 h2 (fun c hc C hC=>?_) (fun pins W=>(hb pins W).p) hh⟩
 obtain ⟨C',k'⟩:=h3 c hc;have:=k'.gm
 rw [hC] at this
 cases this;exact k'.sub
end TQ
namespace KQ.M
open PySem PySem.Spec L2 T
open PyProof.Rows hiding St
open KC
variable {cl:List Str} {ie n:Nat} {g:FS} {Γ Γ' Γ1:Ev} {c:Str} {fl:FL} {ps:List PV} {den:List D->bz}
noncomputable def cV:Str->bz:=fun c=>Dk 2 (Gb c)
noncomputable def mn:FS:=(aL (bI (ae (mT (ag (aa 0) (eK (.int 0)))) (ae (aq .leaf 1 (ax (ag (aa 0) (eK (.int 1)))) aG (mT (aa 1))) (ae (aq .leaf 1 (ax (ag (aa 0) (eK (.int 2)))) aG (mT (aa 1))) af)))))
noncomputable def dQ:List Mc->bz:=aC 2 mn
section
open PySem.SeqAt
theorem AV:cV "NoWay"=.ok ⟨.leaf,.str "way"⟩:=by with_unfolding_all rfl
theorem rq {w:Wd} (ok:w.Ok):dQ [w.enc]=.ok ⟨W3,w.enc⟩:=by
 have i0:ag (aa 0) (eK (.int 0)) [Md w.enc,none]=.ok ⟨.leaf,.list w.os⟩ [Md w.enc,none]:=iR (j:=0) (au rfl) bg rfl rfl rfl
 have i1:ag (aa 0) (eK (.int 1)) [Md w.enc,none]=.ok ⟨.leaf,.list (w.m.map bw)⟩ [Md w.enc,none]:=iR (j:=1) (au rfl) bg rfl rfl rfl
 have i2:ag (aa 0) (eK (.int 2)) [Md w.enc,none]=.ok ⟨.leaf,.list (w.s.map aw)⟩ [Md w.enc,none]:=iR (j:=2) (au rfl) bg rfl rfl rfl
 have h24:=ok.h24
 have c1:aq .leaf 1 (ax (ag (aa 0) (eK (.int 1)))) aG (mT (aa 1)) [Md w.enc,none]=.ok ⟨.lst .leaf,.list (w.m.map bw)⟩ [Md w.enc,none]:=
  oz bw w.m (fun x=>⟨.lst .leaf,bw x⟩) (st:=true) (br (s:=.leaf) i1 rfl) (by simp) rfl (by rw [ok.lm];omega) fun x hx=>⟨AH (au rfl) rfl,rfl⟩
 have c2:aq .leaf 1 (ax (ag (aa 0) (eK (.int 2)))) aG (mT (aa 1)) [Md w.enc,none]=.ok ⟨.lst .leaf,.list (w.s.map aw)⟩ [Md w.enc,none]:=
  oz aw w.s (fun x=>⟨.lst .leaf,aw x⟩) (st:=true) (br (s:=.leaf) i2 rfl) (by simp) rfl (by rw [ok.ls];omega) fun x hx=>⟨AH (au rfl) rfl,rfl⟩
 exact aQ (aZ (kA (az (AH i0 rfl) (az c1 (az c2 ak))) rfl rfl) rfl)
theorem yZ {w:Wd} (ok:w.Ok):PyData.canLay0 w.enc=true/\PyData.depth w.enc<=3:=by
 have h:=ok.g.wk (b:=24) ok.h24
 have o:=rR h.o
 have m:=IC fun r hr=>let ⟨xs,e,q,_⟩:=h.m r hr;⟨xs,e,Gg q⟩
 have s:=IC fun r hr=>let ⟨xs,e,q,_⟩:=h.s r hr;⟨xs,e,rR q⟩
 simp only [Wd.enc,de,PyData.canLay0,PyData.canLayAll0,PyData.depth,PyData.depthAll,o.1,m.1,s.1,o.2,Bool.and_self,Bool.true_and,true_and]
 have:=m.2
 have:=s.2
 omega
theorem AO {k:Str->FS} (h:g Γ=.nx Γ'):kR cl ie g k Γ=.nx Γ':=by unfold kR;rw [h]
theorem AQ {k:Str->FS} (h:g Γ=.er c Γ1) (hc:cl.contains c=true) (h1:Ad Γ1[ie]?=true) (hk:k c Γ1=.nx Γ') (h2:Ad Γ'[ie]?=true):kR cl ie g k Γ=.nx Γ':=by
 unfold kR;rw [h];unfold xl;simp only [hc,h1,Bool.and_self,if_true,hk,h2]
theorem Ef {i:Nat} {ss:List Sh} {d:D} (h:Γ[i]?=some (some ⟨.tup ss,d⟩)):aa i Γ=.ok ⟨.view,d⟩ Γ:=by unfold aa;rw [h]
theorem v_res {r:bz} {p:PV} (h:r=.ok p):qX r Γ=.ok p Γ:=by rw [h];rfl
theorem xi {p:PV} (hl:fl Γ=.ok ps Γ1) (hd:den (ps.map (·.d))=.ok p) (hn:ps.length=n) (hc:ps.all (T.coer .leaf)=true):wY n den fl Γ=.ok p Γ1:=by
 unfold wY;rw [hl];simp only [Out.bind,hn,hd,hc,if_true]
theorem tw (hl:fl Γ=.ok ps Γ1) (hd:den (ps.map (·.d))=.er c) (hn:ps.length=n):wY n den fl Γ=.er c Γ1:=by
 unfold wY;rw [hl];simp only [Out.bind,hn,hd,if_true]
theorem AS {own:Bool} {i:Nat} {fa:F1} (h:fa Γ=.er c Γ'):ay own i fa Γ=.er c Γ':=by unfold ay gj;rw [h]
theorem AU {g1 g2:FS} (h:g1 Γ=.er c Γ'):av g1 g2 Γ=.er c Γ':=by unfold av;rw [h]
theorem sX {i k:Nat} {a b:List D} {c:Int} (h:Γ[i]?=some (some ⟨.tup [.lst .leaf,.lst .leaf],.tuple [.list a,.list b]⟩)) (ha:a.length<=1000) (hb:b.length<=1000) (hk:k=0\/k=1):dO i k (eK (.int c)) Γ=.nx (Γ.set i (some ⟨.tup [.lst .leaf,.lst .leaf],.tuple [.list (if k=0 then a++[.int c] else a),.list (if k=0 then b else b++[.int c])]⟩)):=by
 have big:(1001:Nat)<=sizeLine:=by decide
 rcases hk with rfl | rfl
 ·unfold dO DR
  rw [h];dsimp only [getElem?_cons_zero]
  rw [if_pos rfl,nj,K8];dsimp only;unfold pP;rw [h];dsimp only [getElem?_cons_zero]
  rw [decide_eq_true (show a.length<sizeLine by omega)]
  rfl
 ·unfold dO DR
  rw [h];dsimp only [getElem?_cons_succ,getElem?_cons_zero]
  rw [if_pos rfl,nj,K8];dsimp only;unfold pP;rw [h];dsimp only [getElem?_cons_succ,getElem?_cons_zero]
  rw [decide_eq_true (show b.length<sizeLine by omega)]
  rfl
theorem FW {ds:List D} (h:g (aR n ds)=.er c Γ'):aC n g ds=.er c:=by unfold aC;rw [h]
end
end KQ.M
namespace T
open PySem PySem.Spec L2
open PyProof.Rows hiding St
variable {K:Fg} {vs:List V} {O':List Addr}
section
variable {K:Fg} {H:Hp} {O:List Addr} {U:St} {Γ Γ1:Ev} {W:XW} {f:F1} {fb:FB} {Q:VK} {QB:Bool->Hp->Prop}
theorem IS:∀n:Nat,(List.replicate n ([]:List Addr)).flatten=[]
 | 0=>rfl
 | n+1=>by rw [List.replicate_succ,flatten_cons,IS n];rfl
theorem Kx (nd:O.Nodup) (inH:∀a∈O,H a≠none) (hl:U.length=Γ.length) (hs:∀(i:Nat) p,Γ[i]?=some (some p)->p.s=.leaf/\∃v,U[i]?=some (some v)/\Rep K (bM H O) v p.d):EnvOk K H O (List.replicate Γ.length []) H U Γ:=by
 have e:=IS Γ.length
 refine ⟨hl,List.length_replicate,Same.refl H,by rw [e,append_nil];exact nd,by rw [e,append_nil];exact inH,by rw [e];exact fun _ z=>(nomatch z),fun i p h=>?_⟩
 obtain ⟨h1,v,h2,h3⟩:=hs i p h;have hi:i<Γ.length:=(L7 h).1
 refine ⟨by rw [h1];rfl,v,[],h2,by rw [getElem?_replicate,if_pos hi],?_⟩
 rw [h1,e,append_nil];exact .leaf h3
theorem kz {H:Hp} {xs:List Int} (hl:vs.length=(xs.map PySem.PyData.int).length) (hr:∀(i:Nat) v d,vs[i]?=some v->(xs.map PySem.PyData.int)[i]?=some d->Rep K H v d):vs=xs.map V.int:=by
 rw [length_map] at hl;apply ext_getElem?
 intro i;by_cases hi:i<vs.length
 ·have hi2:i<xs.length:=by omega
  have q:=hr i vs[i] (.int xs[i]) (L0 hi) (by rw [getElem?_map,L0 hi2];rfl)
  rw [L0 hi,getElem?_map,L0 hi2];generalize vs[i]=u at q
  cases q;rfl
 ·rw [getElem?_eq_none (by omega),getElem?_eq_none (by rw [length_map];omega)]
theorem LK {xs:List Int} (E:EnvOk K H O (List.replicate Γ.length []) H U Γ) (hf:f Γ=.ok ⟨.leaf,.list (xs.map .int)⟩ Γ1) (q:∀p H',Same H H'->SqL K H' p (xs.map V.int)->Q (.ref p) H'):tE K W f U H Q:=by
 refine ⟨_,_,_,_,E,?_⟩
 rw [hf];intro v H' G Fs' A
 cases A.own with
 | leaf r=>
  cases r with
  | @lst p vs _ hq hl hr=>
   rw [kz hl hr] at hq;exact q p H' A.same (hid_le.seq hq)
end
theorem yu {H:Hp} {O:List Addr} (s:∀a∈O,a∈O'):Same (bM H O') (bM H O):=fun b o hb=>by
 unfold bM at hb ⊢
 split at hb
 ·cases hb
 ·rename_i nb
  rw [if_neg fun z=>nb (s b z)]
  exact hb
theorem pA {O:List Addr} {H:Hp} {s:Sh} {F:List Addr} {v:V} {d:D} (o:Own K O' H s F v d):s.isView=false->(∀a∈F,a∉O)->(∀a∈O,a∈O')->Rep K (bM H O) v d:=by
 induction o with
 | view _=>intro h;cases h
 | leaf r=>intro _ _ h;exact r.mono (yu h)
 | @lst s p vs ds Fs hv hp hl _ _ hi ih=>
  intro _ hf hO;refine .lst (.inl (.inl (w6 hp (hf p mem_cons_self)))) hl fun i v d h1 h2=>?_
  have hF:i<Fs.length:=by have:=(L7 h2).1;omega
  exact ih i v d Fs[i] h1 h2 (L0 hF) hv (fun a ha=>hf a (L5 _ (List.mem_flatten.mpr ⟨_,getElem_mem hF,ha⟩))) hO
 | @tup ss p vs ds Fs hv hp np hl hl2 hl3 _ hi ih=>
  intro _ hf hO;refine .tup (.inl (.inl (w6 hp fun z=>np (hO p z)))) hl fun i v d h1 h2=>?_
  have hd:=(L7 h2).1
  have hF:i<Fs.length:=by omega
  have hS:i<ss.length:=by omega
  exact ih i v d Fs[i] ss[i] h1 h2 (L0 hF) (L0 hS) (hv _ (getElem_mem hS)) (fun a ha=>hf a (List.mem_flatten.mpr ⟨_,getElem_mem hF,ha⟩)) hO
theorem Lj {H:Hp} {O:List Addr} {U:St} {Γ Γ1:Ev} {W:XW} {f:F1} {Q:VK} {p:PV} (inH:∀a∈O,H a≠none) (E:EnvOk K H O (List.replicate Γ.length []) H U Γ) (hf:f Γ=.ok p Γ1) (hv:p.s.isView=false) (q:∀v H',Same H H'->Rep K (bM H' O) v p.d->Q v H'):tE K W f U H Q:=by
 refine ⟨_,_,_,_,E,?_⟩
 rw [hf];intro v H' G Fs' A
 refine q v H' A.same (pA A.own hv (fun a ha z=>?_) fun a ha=>LU _ (LR _ ha))
 rcases A.new a (LU _ ha) with y | y
 ·rw [IS] at y;cases y
 ·exact inH a z y
noncomputable abbrev fL:List Str:=["rooms", "places", "room"]
noncomputable abbrev mK:List Str:=["sorted"]
noncomputable def qe (K:Fg):Sp:=fun vs H Q _=>∃(p d:Addr) (xs:List Int) (kvs:List (bE×V)) (h:Int->Option Int),vs=[.ref p,.ref d]/\SqL K H p (xs.map V.int)/\H d=some (.dK kvs)/\(∀k:Int,cQ kvs (.inl k)=(h k).map V.int)/\xs.length<64 /\
 ∀l H',Same H H'->H l=none->H' l=some (.lst ((PySem.W.sortI (xs.filterMap h)).map V.int))->Q (.ref l) H'
noncomputable def JP (K:Fg):TS:=tJ (xo (uv K) (bS (eV [2] (g6 K (aS 0)) (gName 2) (tB (Be (aS 2) (aS 1))) (tQ (aS 1) (aS 2))) eL))
theorem yI {h:Int->Option Int} {xs:List Int} {i:Nat} (hi:i<xs.length):(xs.take (i+1)).filterMap h=(xs.take i).filterMap h++(h xs[i]).toList:=by
 rw [List.take_succ,L0 hi,List.filterMap_append]
 cases e:h xs[i]<;>simp [e]
theorem EY {H:Hp} {Q:VK} {E:XK} {Qn:St->Hp->Prop} (h:qe K vs H Q E):JP K { nx:=Qn,rt:=Q } (L2.start fL vs) H:=by
 obtain ⟨p,d,xs,kvs,f,rfl,hq,hd,hf,h64,q⟩:=h;refine ⟨.ref p,rfl,p,rfl,⟨_,hq⟩,fun L hL=>?_⟩
 have hbl:aX [2] (L2.start fL [V.ref p,.ref d])=[some (.ref p),some (.ref d),none]:=by
  show aX [2] [some (V.ref p),some (.ref d),none]=_
  simp [aX]
 refine ⟨fun i m ys H2=>m=xs.length-i/\i<=xs.length/\ys=((xs.take i).filterMap f).map V.int/\H2 L=some (.lst ys)/\Same H H2,⟨xs.length,by simp,Nat.zero_le _,by simp,da,gN hL⟩,?_⟩
 rintro i m ys H2 ⟨rfl,hi,rfl,hLs,sH⟩
 refine ⟨hLs,?_⟩
 have hq2:SqL K H2 p (xs.map V.int):=sH.seq hq
 by_cases hlt:i<xs.length
 case neg=>
  left
  have hie:i=xs.length:=by omega
  subst hie;refine ⟨⟨_,hq2,by rw [length_map];exact Mb _⟩,?_⟩
  rw [List.take_of_length_le (Mb _)] at hLs;refine ⟨L,xs.filterMap f,rfl,.inl (.inl hLs),Nat.lt_of_le_of_lt (List.length_filterMap_le f xs) h64,fun l hl=>q l _ (sH.trans (gN hl)) (sH.free hl) da⟩
 case pos=>
  right
  have e1:(xs.map V.int)[i]?=some (.int xs[i]):=by rw [getElem?_map,L0 hlt];rfl
  have hb:(1000:Nat)<=sizeLine:=by decide
  refine ⟨⟨_,_,hq2,e1⟩,by rw [length_map];have:=List.length_filterMap_le f (xs.take i);rw [length_take] at this;omega,?_⟩
  rintro v H3 ⟨rfl,hv⟩
  have ev:v=.int xs[i]:=Option.some.inj ((hv _ hq2).symm.trans e1)
  subst ev;rw [hbl];show Ib [some (.ref p),some (.ref d),none] [some (.ref p),some (.ref d),some (.int xs[i])]/\_
  refine ⟨⟨rfl,fun j u h=>?_⟩,?_⟩
  ·match j,h with
   | 0,h=>exact h
   | 1,h=>exact h
   | 2,h=>cases h
   | j+3,h=>cases h
  have g:=DGet.k (k:=Sum.inl xs[i]) (sH _ _ hd)
  rw [hf] at g;refine ⟨.int xs[i],rfl,.ref d,rfl,d,_,rfl,g,_,rfl,?_⟩
  have ft:=yI (h:=f) hlt
  cases e:f xs[i] with
  | none=>
   rw [e] at ft;refine fI ⟨xs.length-(i+1),by omega,rfl,hlt,by rw [ft];simp,hLs,sH⟩
  | some z=>
   rw [e] at ft g
   refine gY ⟨.ref d,rfl,.int xs[i],rfl,d,.int z,rfl,g,hLs,xs.length-(i+1),by omega,rfl,hlt,by rw [ft];simp,da,fun c o hc=>?_⟩
   rw [b9 (fun w=>by subst w;rw [hL] at hc;cases hc)]
   exact sH c o hc
end T
namespace KC
open PySem PySem.Spec L2 T PySem.SeqAt
open PyProof.Rows hiding St
variable {K:Fg} {vs cs ls lo gs:List Nat} {mg:Str->Option Value} {base:Heap} {fd:FuncData}
noncomputable def kh (i:Nat):List Nat->List (bE×V)
 | []=>[]
 | r::R=>(.inl (r:Int),.int (i:Int))::kh (i+1) R
noncomputable def CC (R:List Nat) (x:Int):Option Int:=(R.findIdx? fun r:Nat=>decide ((r:Int)=x)).map fun k:Nat=>(k:Int)
theorem IF {x:Int}:∀(R:List Nat) (i:Nat),cQ (kh i R) (.inl x)=(R.findIdx? fun r:Nat=>decide ((r:Int)=x)).map fun k=>V.int ((k+i:Nat):Int)
 | [],i=>rfl
 | r::R,i=>by
  rw [List.findIdx?_cons];by_cases e:(r:Int)=x
  ·rw [decide_eq_true e]
   unfold kh;rw [Eu (by rw [e])]
   simp
  ·rw [decide_eq_false e]
   unfold kh;rw [Et (fun z=>e (Sum.inl.inj z)),IF R (i+1)]
   simp only [Bool.false_eq_true,if_false,Option.map_map]
   congr 1
   funext k
   simp
   omega
theorem Cv {R:List Nat} (x:Int):cQ (kh 0 R) (.inl x)=(CC R x).map V.int:=by
 rw [IF,CC,Option.map_map];rfl
theorem lK:∀(l:List Nat) (i a:Nat),kh i (l++[a])=kh i l++[(.inl (a:Int),.int ((i+l.length:Nat):Int))]
 | [],i,a=>rfl
 | b::l,i,a=>by
  show (Sum.inl (b:Int),V.int (i:Int))::kh (i+1) (l++[a])=_
  rw [lK l (i+1) a];show _=(Sum.inl (b:Int),V.int (i:Int))::(kh (i+1) l++_)
  rw [length_cons,show i+1+l.length=i+(l.length+1) by omega]
theorem pG:∀(l:List Nat) (i:Nat),(kh i l).length=l.length
 | [],_=>rfl
 | a::l,i=>by show (kh (i+1) l).length+1=_;rw [pG l (i+1)];rfl
noncomputable def qv (R ts:List Nat):List Nat:=(List.range R.length).filter fun k=>ts.contains (R.getD k 0)
noncomputable def df (w:Wd) (R:List Nat):Wd:=⟨R.length,R.map fun r=>.int (B3 w r),R.map w.mks,R.map fun r=>qv R (w.stp r)⟩
theorem Hf {R:List Nat} (nd:R.Nodup) {t:Nat} {k:Int}:CC R (t:Int)=some k↔∃j:Nat,k=(j:Int)/\R[j]?=some t:=by
 unfold CC;constructor
 ·intro h
  obtain ⟨j,h1,rfl⟩:=Option.map_eq_some_iff.mp h;obtain ⟨hj,h2,_⟩:=List.findIdx?_eq_some_iff_getElem.mp h1
  refine ⟨j,rfl,?_⟩
  rw [L0 hj];have:((R[j]:Nat):Int)=(t:Int):=by simpa using h2
  rw [Int.ofNat_inj.mp this]
 ·rintro ⟨j,rfl,h⟩
  obtain ⟨hj,e⟩:=L7 h
  refine Option.map_eq_some_iff.mpr ⟨j,List.findIdx?_eq_some_iff_getElem.mpr ⟨hj,by rw [e];simp,fun i hi=>?_⟩,rfl⟩
  have:=(List.nodup_iff_pairwise_ne.mp nd)
  have hne:=List.pairwise_iff_getElem.mp this i j (by omega) hj hi
  rw [e] at hne;simp
  intro z;exact hne (Int.ofNat_inj.mp z)
theorem uK {R ts:List Nat} (nd:R.Nodup) (rs:ts.Nodup):PySem.W.sortI ((ts.map fun t:Nat=>(t:Int)).filterMap (CC R))=(qv R ts).map fun k:Nat=>(k:Int):=by
 symm
 refine PySem.W.eq_sortI ?_ ?_
 ·have n1:((qv R ts).map fun k:Nat=>(k:Int)).Nodup:=by
   refine List.pairwise_map.mpr (List.Pairwise.imp (R:=fun a b:Nat=>a≠b) (fun h z=>h (Int.ofNat_inj.mp z)) ?_)
   exact (nodup_range).sublist filter_sublist
  have n2:((ts.map fun t:Nat=>(t:Int)).filterMap (CC R)).Nodup:=by
   rw [List.filterMap_map];refine List.Pairwise.filterMap _ (fun a b hab x hx y hy=>?_) rs
   intro z;subst z;obtain ⟨j,e1,e2⟩:=(Hf nd).mp hx;obtain ⟨j',e3,e4⟩:=(Hf nd).mp hy;rw [e1] at e3;rw [<-Int.ofNat_inj.mp e3,e2] at e4;exact hab (Option.some.inj e4)
  refine (List.perm_ext_iff_of_nodup n1 n2).mpr fun x=>?_
  rw [List.filterMap_map,List.mem_filterMap,mem_map];constructor
  ·rintro ⟨k,hk,rfl⟩
   obtain ⟨h1,h2⟩:=List.mem_filter.mp hk;have h1:=List.mem_range.mp h1
   have e:R.getD k 0=R[k]:=by rw [L1,L0 h1];rfl
   rw [e] at h2;exact ⟨R[k],List.contains_iff_mem.mp h2,(Hf nd).mpr ⟨k,rfl,L0 h1⟩⟩
  ·rintro ⟨t,ht,h⟩
   obtain ⟨j,rfl,h2⟩:=(Hf nd).mp h;obtain ⟨hj,e⟩:=L7 h2
   refine ⟨j,List.mem_filter.mpr ⟨List.mem_range.mpr hj,List.contains_iff_mem.mpr ?_⟩,rfl⟩
   rw [L1,h2];exact ht
 ·rw [pairwise_map]
  exact ((List.pairwise_lt_range).sublist filter_sublist).imp fun h=>by omega
theorem Kn:∀{l m:List Nat},l.Nodup->(∀x∈l,x∈m)->l.length<=m.length
 | [],_,_,_=>Nat.zero_le _
 | a::l,m,h,hm=>by
  have ha:=hm a mem_cons_self
  obtain ⟨h1,h2⟩:=List.nodup_cons.mp h;have:=Kn (m:=m.erase a) h2 fun x hx=>(List.mem_erase_of_ne (fun z:x=a=>h1 (z▸hx))).mpr (hm x (L5 _ hx))
  rw [List.length_erase_of_mem ha] at this;have:=length_pos_of_mem ha
  rw [length_cons];omega
theorem Km {l:List Nat} {n:Nat} (h:l.Nodup) (hx:∀x∈l,x<n):l.length<=n:=by
 have:=Kn (m:=List.range n) h fun x hx'=>List.mem_range.mpr (hx x hx')
 rwa [length_range] at this
noncomputable abbrev fM:List Str:=["world", "rooms", "places", "place", "room", "owners", "marks", "steps"]
noncomputable abbrev oq:List Str:=["enumerate", "list", "places_of"]
noncomputable abbrev zY:F1:=aq .leaf 4 (ax (aa 1)) aG (ag (ag (aa 0) (eK (.int 0))) (aa 4))
noncomputable abbrev zZ:F1:=aq .leaf 4 (ax (aa 1)) aG (mT (ag (ag (aa 0) (eK (.int 1))) (aa 4)))
noncomputable abbrev uX:F1:=ag (ag (aa 0) (eK (.int 2))) (aa 4)
noncomputable def JQ (K:Fg):L2.TS:=
 d7 (fG tP (gName 2)) (d7 (xn (vw K (bS (aS 1) eL)) (C2 K 2 (lS (gName 3) (lS (gName 4) C3))) (oR (aS 2) (aS 4) (aS 3)))
 (d7 (fG (tE K W0 zY) (gName 5)) (d7 (fG (tE K W0 zZ) (gName 6))
 (d7 (fun D U H=>eV [4] (g6 K (aS 1)) (gName 4) oG (kF (qe K) [] L2.E0 (bS (tE K W0 uX) (bS (aS 2) eL))) U H fun v H'=>D.nx (U.set 7 (some v)) H')
 (tJ (A9 (bS (aS 5) (bS (aS 6) (bS (aS 7) eL)))))))))
structure kd (w:Wd) (R:List Nat):Prop where
 ok:w.Ok
 nd:R.Nodup
 lt:∀r∈R,r<w.n
 len:R.length<=60
 rs:∀r,r<w.n->(w.stp r).Nodup
noncomputable abbrev GP (w:Wd) (R:List Nat) (x4:Option PV):Ev:=[Md w.enc,Md (aw R),none,none,x4,none,none,none]
theorem Da {w:Wd} {R:List Nat} (h:kd w R):zY (GP w R none)=.ok ⟨.lst .leaf,.list (R.map fun r=>.int (B3 w r))⟩ (GP w R none):=
 oz rm R (fun r=>⟨.leaf,.int (B3 w r)⟩) (st:=true) (br (s:=.leaf) (au rfl) rfl) (by simp) rfl (by have:=h.len;omega) fun r hr=>⟨B2 h.ok rfl (au rfl) (h.lt r hr),rfl⟩
theorem Dc {w:Wd} {R:List Nat} (h:kd w R):zZ (GP w R none)=.ok ⟨.lst .leaf,.list ((R.map w.mks).map bw)⟩ (GP w R none):=by
 have e:=oz (Γ:=GP w R none) (s:=.leaf) (i:=4) (fi:=ax (aa 1)) (fe:=mT (ag (ag (aa 0) (eK (.int 1))) (aa 4))) rm R (fun r=>⟨.lst .leaf,bw (w.mks r)⟩) (st:=true) (br (s:=.leaf) (au rfl) rfl) (by simp) rfl (by have:=h.len;omega) fun r hr=>⟨AH (Cm h.ok rfl (au rfl) (h.lt r hr)) rfl,rfl⟩
 rw [map_map];exact e
theorem qm {H:Hp} {O:List Addr} {vs:List V} {w:Wd} {R:List Nat} {Q:VK} {Qn:St->Hp->Prop} (h:kd w R) (nd:O.Nodup) (inH:∀a∈O,H a≠none) (rs:Reps K (bM H O) vs [w.enc,aw R])
  (q:∀v H' G,RetOk K H O ⟨.leaf,(df w R).enc⟩ v H' G->Q v H'):JQ K { nx:=Qn,rt:=Q } (L2.start fM vs) H:=by
 have hvl:vs.length=2:=rs.1
 match vs,hvl,rs with
 | [v0,v1],_,rs=>
 have r0:=rs.2 0 v0 _ rfl rfl
 have r1:=rs.2 1 v1 _ rfl rfl
 have inS:∀{H'},Same H H'->∀a∈O,H' a≠none:=fun {H'} s a ha=>by
  cases e:H a with
  | none=>exact absurd e (inH a ha)
  | some o=>rw [s a o e];exact Option.some_ne_none _
 have mono:∀{H'},Same H H'->Same (bM H O) (bM H' O):=fun s=>sk s fun a ha=>.inl ha
 have EE:∀(H':Hp) (U:St),Same H H'->U.length=8->U[0]?=some (some v0)->U[1]?=some (some v1)->∀x4:Option Nat,(∀r,x4=some r->U[4]?=some (some (.int (r:Int))))->EnvOk K H' O (List.replicate (GP w R (x4.map fun r=>(⟨.leaf,rm r⟩:PV))).length []) H' U (GP w R (x4.map fun r=>(⟨.leaf,rm r⟩:PV))):=fun H' U s l s0 s1 x4 s4=>by
  refine Kx nd (inS s) l fun i x hx=>?_
  match i,hx with
  | 0,hx=>cases hx;exact ⟨rfl,_,s0,r0.mono (mono s)⟩
  | 1,hx=>cases hx;exact ⟨rfl,_,s1,r1.mono (mono s)⟩
  | 4,hx=>
   cases x4 with
   | none=>cases hx
   | some r=>cases hx;exact ⟨rfl,_,s4 r rfl,.int r⟩
  | 2,hx=>cases hx
  | 3,hx=>cases hx
  | 5,hx=>cases hx
  | 6,hx=>cases hx
  | 7,hx=>cases hx
  | i+8,hx=>cases hx
 cases r1 with
 | @lst pr ws _ hqr hl hr=>
 have ews:ws=R.map fun r:Nat=>V.int (r:Int):=by
  have:=kz (xs:=R.map fun r:Nat=>(r:Int)) (by rw [map_map];exact hl) (by rw [map_map];exact hr)
  rw [this,map_map];rfl
 subst ews;have sqR:∀{H'},Same H H'->SqL K H' pr (R.map fun r:Nat=>V.int (r:Int)):=fun s=>s.seq (hid_le.seq hqr)
 have hlen:=h.len
 have hbz:(1000:Nat)<=sizeLine:=by decide
 intro d hd;have sd:Same H (bo H d (.dK [])):=gN hd
 refine ⟨_,rfl,pr,rfl,⟨_,sqR sd⟩,fun k m U' H'=>m=R.length-k/\k<=R.length/\(∃x3 x4,U'=[some v0,some (.ref pr),some (.ref d),x3,x4,none,none,none])/\H' d=some (.dK (kh 0 (R.take k)))/\Same H H',⟨R.length,by simp,Nat.zero_le _,⟨none,none,rfl⟩,da,sd⟩,?_⟩
 rintro k m U' H' ⟨rfl,hk,⟨x3,x4,rfl⟩,hD,sH⟩
 by_cases hlt:k<R.length
 case pos=>
  right
  have e1:(R.map fun r:Nat=>V.int (r:Int))[k]?=some (.int (R[k]:Int)):=by rw [getElem?_map,L0 hlt];rfl
  refine ⟨⟨_,_,sqR sH,e1⟩,fun U2 H2=>(∃x3 x4,U2=[some v0,some (.ref pr),some (.ref d),x3,x4,none,none,none])/\H2 d=some (.dK (kh 0 (R.take (k+1))))/\Same H H2,fun U2 H2 q2=>⟨R.length-(k+1),by omega,rfl,hlt,q2⟩,?_⟩
  rintro x H2 ⟨T,v,rfl,hT,rfl,hv⟩
  have ev:v=.int (R[k]:Int):=Option.some.inj ((hv _ (sqR sH)).symm.trans e1)
  subst ev;have hdT:d≠T:=fun z=>by rw [<-z,hD] at hT;cases hT
  have sT:Same H (bo H' T (.tup [.int (k:Int),.int (R[k]:Int)])):=sH.trans (gN hT)
  refine ⟨T,_,rfl,.inl (.inl da),rfl,_,_,rfl,_,_,rfl,rfl,?_⟩
  have hD2:bo H' T (.tup [.int (k:Int),.int (R[k]:Int)]) d=some (.dK (kh 0 (R.take k))):=by rw [b9 hdT];exact hD
  have hnone:cQ (kh 0 (R.take k)) (.inl (R[k]:Int))=none:=by
   rw [IF,Option.map_eq_none_iff,List.findIdx?_eq_none_iff];intro x hx;have hx':x≠R[k]:=fun z=>by
    obtain ⟨i,hi,e⟩:=getElem_of_mem hx;rw [length_take] at hi;rw [List.getElem_take] at e;have:=List.pairwise_iff_getElem.mp (List.nodup_iff_pairwise_ne.mp h.nd) i k (by omega) hlt (by omega)
    exact this (e.trans z)
   simp
   omega
  refine ⟨_,rfl,_,rfl,_,rfl,d,_,rfl,DPut.k (k:=Sum.inl (R[k]:Int)) hD2 (by rw [pG,length_take];omega),⟨_,_,rfl⟩,?_,fun c o hc=>?_⟩
  ·rw [da,kY _ hnone,List.take_succ,L0 hlt]
   show _=some (HO.dK (kh 0 (R.take k++[R[k]])))
   rw [lK,length_take,Nat.min_eq_left (by omega),Nat.zero_add]
  ·rw [b9 (fun z=>by subst z;rw [hd] at hc;cases hc)]
   exact sT c o hc
 case neg=>
  left
  refine ⟨⟨_,sqR sH,by rw [length_map];omega⟩,?_⟩
  rw [List.take_of_length_le (by omega)] at hD
  clear hk hlt;refine Lj (inS sH) (EE H' _ sH rfl rfl rfl none (fun _ z=>nomatch z)) (Da h) rfl fun v5 H5 s5 p5=>?_
  refine Lj (inS (sH.trans s5)) (EE H5 _ (sH.trans s5) rfl rfl rfl none (fun _ z=>nomatch z)) (Dc h) rfl fun v6 H6 s6 p6=>?_
  have s06:Same H H6:=(sH.trans s5).trans s6
  have hD6:H6 d=some (.dK (kh 0 R)):=s6 _ _ (s5 _ _ hD)
  refine ⟨_,rfl,pr,rfl,⟨_,sqR s06⟩,fun L hL=>?_⟩
  have hbl:aX [4] [some v0,some (V.ref pr),some (.ref d),x3,x4,some v5,some v6,none]=[some v0,some (.ref pr),some (.ref d),x3,none,some v5,some v6,none]:=by simp [aX]
  refine ⟨fun i m ys H2=>m=R.length-i/\i<=R.length/\(∃ls:List Addr,ys=ls.map V.ref/\ls.length=i/\∀(j:Nat) l,ls[j]?=some l->l≠L/\H6 l=none/\H2 l=some (.lst ((qv R (w.stp (R.getD j 0))).map fun k:Nat=>V.int (k:Int))))/\H2 L=some (.lst ys)/\Same H6 H2,⟨R.length,by simp,Nat.zero_le _,⟨[],rfl,rfl,fun j l z=>by simp at z⟩,da,gN hL⟩,?_⟩
  rintro i m ys H2 ⟨rfl,hi,⟨ls,rfl,hll,hls⟩,hLs,s2⟩
  refine ⟨hLs,?_⟩
  have s02:Same H H2:=s06.trans s2
  by_cases hlt2:i<R.length
  case pos=>
   right
   have e1:(R.map fun r:Nat=>V.int (r:Int))[i]?=some (.int (R[i]:Int)):=by rw [getElem?_map,L0 hlt2];rfl
   refine ⟨⟨_,_,sqR s02,e1⟩,by rw [length_map];omega,?_⟩
   rintro v H3 ⟨rfl,hv⟩
   have ev:v=.int (R[i]:Int):=Option.some.inj ((hv _ (sqR s02)).symm.trans e1)
   subst ev;rw [show ([some v0,some (V.ref pr),some (V.ref d),x3,x4,none,none,none].set 5 (some v5)).set 6 (some v6)=[some v0,some (V.ref pr),some (.ref d),x3,x4,some v5,some v6,none] from rfl,hbl]
   show Ib [some v0,some (.ref pr),some (.ref d),x3,none,some v5,some v6,none] [some v0,some (.ref pr),some (.ref d),x3,some (.int (R[i]:Int)),some v5,some v6,none]/\_
   refine ⟨⟨rfl,fun j u hu=>?_⟩,?_⟩
   ·match j,hu with
    | 0,hu=>exact hu
    | 1,hu=>exact hu
    | 2,hu=>exact hu
    | 3,hu=>exact hu
    | 4,hu=>cases hu
    | 5,hu=>exact hu
    | 6,hu=>exact hu
    | 7,hu=>exact hu
    | j+8,hu=>cases hu
   refine FM ?_
   have hRi:R[i]<w.n:=h.lt _ (getElem_mem hlt2)
   have est:uX (GP w R (Md (rm R[i])))=.ok ⟨.leaf,.list ((((w.stp R[i]).map fun t:Nat=>(t:Int))).map .int)⟩ (GP w R (Md (rm R[i]))):=by
    rw [map_map];exact oM h.ok rfl (au rfl) hRi
   refine LK (EE _ _ s02 rfl rfl rfl (some R[i]) (fun r hr=>by cases hr;rfl)) est fun p3 H3 s3 q3=>?_
   have lst:(w.stp R[i]).length<64:=by
    have:=h.rs _ hRi
    have l1:(w.stp R[i]).length<=w.n:=by
     exact Km (h.rs _ hRi) fun x hx=>h.ok.stp_lt hx
    have:=h.ok.h24
    omega
   refine ⟨_,rfl,p3,d,(w.stp R[i]).map fun t:Nat=>(t:Int),kh 0 R,CC R,rfl,q3,s3 _ _ (s2 _ _ hD6),Cv,by rw [length_map];exact lst,fun l H4 s4 hl4 hl=>?_⟩
   rw [uK h.nd (h.rs _ hRi),map_map] at hl;have hL3:H3 L=some (.lst (ls.map V.ref)):=s3 _ _ hLs
   have hL4:H4 L=some (.lst (ls.map V.ref)):=s4 _ _ hL3
   have hlL:l≠L:=fun z=>by rw [z,hL3] at hl4;cases hl4
   have hl6:H6 l=none:=(s2.trans s3).free hl4
   refine ⟨hL4,R.length-(i+1),by omega,rfl,hlt2,⟨ls++[l],by simp,by rw [length_append,hll];rfl,fun j l' hj=>?_⟩,da,fun c o hc=>?_⟩
   ·by_cases hj2:j<ls.length
    ·rw [getElem?_append_left hj2] at hj
     obtain ⟨a1,a2,a3⟩:=hls j l' hj
     refine ⟨a1,a2,?_⟩
     rw [b9 a1];exact s4 _ _ (s3 _ _ a3)
    ·have hje:j=ls.length:=by
      have:=(L7 hj).1
      rw [length_append,length_singleton] at this;omega
     subst hje;rw [getElem?_append_right (Mb _),Nat.sub_self] at hj
     cases hj;refine ⟨hlL,hl6,?_⟩
     rw [b9 hlL,hll,L1,L0 hlt2];exact hl
   ·rw [b9 (fun z=>by subst z;rw [hL] at hc;cases hc)]
    exact s4 _ _ (s3 _ _ (s2 _ _ hc))
  case neg=>
   left
   have hie:i=R.length:=by omega
   subst hie;refine ⟨⟨_,sqR s02,by rw [length_map];omega⟩,?_⟩
   refine ⟨_,rfl,_,rfl,_,rfl,by show 3<=sizeLine;decide,fun t ht=>?_⟩
   have sT:Same H2 (bo H2 t (.tup [v5,v6,.ref L])):=gN ht
   have nO:∀{a},H6 a=none->a∉O:=fun {a} ha z=>inS s06 a z ha
   have tO:t∉O:=fun z=>inS s02 t z ht
   refine q _ _ [] ⟨s02.trans sT,(fun _ z=>nomatch z),(fun _ z=>nomatch z),nodup_nil,.leaf (.tup (vs:=[v5,v6,.ref L]) (.inl (.inl (w6 da tO))) rfl fun j v dd e1 e2=>?_),rfl⟩
   have m5:Same (bM H5 O) (bM (bo H2 t (.tup [v5,v6,.ref L])) O):=sk ((s6.trans s2).trans sT) fun a ha=>.inl ha
   have m6:Same (bM H6 O) (bM (bo H2 t (.tup [v5,v6,.ref L])) O):=sk (s2.trans sT) fun a ha=>.inl ha
   match j,e1,e2 with
   | 0,e1,e2=>cases e1;cases e2;exact p5.mono m5
   | 1,e1,e2=>cases e1;cases e2;exact p6.mono m6
   | 2,e1,e2=>
    cases e1
    cases e2;refine .lst (.inl (.inl (w6 (sT _ _ hLs) (nO hL)))) ?_ ?_
    ·simp [df,hll]
    ·intro i' v' d' f1 f2
     have hi':i'<ls.length:=by
      have:=(L7 f1).1
      rwa [length_map] at this
     rw [getElem?_map,L0 hi'] at f1
     cases f1;obtain ⟨a1,a2,a3⟩:=hls i' _ (L0 hi')
     have hR:i'<R.length:=by omega
     have ed:d'=aw (qv R (w.stp (R.getD i' 0))):=by
      simp only [df,map_map] at f2
      rw [getElem?_map,L0 hR] at f2
      cases f2;rw [L1,L0 hR];rfl
     rw [ed];refine .lst (.inl (.inl (w6 (sT _ _ a3) (nO a2)))) (by simp) fun i3 v3 d3 g1 g2=>?_
     rw [getElem?_map] at g1 g2
     cases e:(qv R (w.stp (R.getD i' 0)))[i3]? with
     | none=>rw [e] at g1;cases g1
     | some z=>rw [e] at g1 g2;cases g1;cases g2;exact .int _
   | j+3,e1,e2=>cases e1
theorem oU {R S:List Nat} (h:aw R=aw S):R=S:=(map_inj_right (f:=rm) fun a b e=>Int.ofNat_inj.mp (PyData.int.inj e)).mp (PyData.list.inj h)
theorem xj {R S:List Str} (h:bw R=bw S):R=S:=(map_inj_right (f:=PyData.str) fun a b e=>PyData.str.inj e).mp (PyData.list.inj h)
theorem yL {w v:Wd} (ok:w.Ok) (ov:v.Ok) (h:w.enc=v.enc):w=v:=by
 have h:=PyData.tuple.inj h
 injection h with h1 h
 injection h with h2 h
 injection h with h3 _
 have h1:=PyData.list.inj h1
 have h2:=(map_inj_right (f:=bw) fun a b e=>xj e).mp (PyData.list.inj h2)
 have h3:=(map_inj_right (f:=aw) fun a b e=>oU e).mp (PyData.list.inj h3)
 have hn:w.n=v.n:=by rw [<-ok.ls,<-ov.ls,h3]
 cases w
 cases v
 cases hn
 cases h1
 cases h2
 cases h3;rfl
noncomputable def Lo (ds:List Mc):Prop:=∃x:Wd×List Nat,ds=[x.1.enc,aw x.2]/\kd x.1 x.2
open Classical in
noncomputable def bU (ds:List Mc):bz:=if h:Lo ds then .ok ⟨.leaf,(df h.choose.1 h.choose.2).enc⟩ else .no
theorem nP {w:Wd} {R:List Nat} (h:kd w R):bU [w.enc,aw R]=.ok ⟨.leaf,(df w R).enc⟩:=by
 have H:Lo [w.enc,aw R]:=⟨(w,R),rfl,h⟩
 unfold bU;rw [dif_pos H];obtain ⟨e,o⟩:=H.choose_spec;injection e with e1 e
 injection e with e2 _
 rw [<-yL h.ok o.ok e1,<-oU e2]
theorem lJ {ds:List Mc} {p:PV} (h:bU ds=.ok p):∃w R,ds=[w.enc,aw R]/\kd w R/\p=⟨.leaf,(df w R).enc⟩:=by
 unfold bU at h;split at h
 ·rename_i H
  cases h;obtain ⟨e,o⟩:=H.choose_spec;exact ⟨_,_,e,o,rfl⟩
 ·cases h
noncomputable def wz (P:Program) (w:World) (K:Fg) (mg:Str->Option Value) (base:Heap) (j:Nat):Prop:=
 ∃(f:Addr) (fd:FuncData) (ps:List Str),cO P w K mg base ip j f fd ps (qe K)/\mg "places_of"=some (.ref f)/\PySem.W.keepIn K (.ref f)=true/\Binds K fd ps []
theorem Fz {P:Program} {w:World} {f:Addr} {st:Stmt} {k:Nat} (F:Fun K "places_of" "places_of" st f fd) (hm:mg "places_of"=some (.ref f)) (b:Binds K fd ["rooms", "places"] [])
  (sc:bK fL ["rooms", "places"] (dM st)) (cp:iO fL mK vs cs ls lo gs (dM st)=true) (nm:sA fL mK=true) (n_sorted:mg "sorted"=none)
  (bd:∀X:Cx,Cp X fL mK vs cs ls lo gs->Rm X->X.mg "sorted"=none->PSs X (jv st) (JP X.K)):wz P w K mg base (k+1):=by
 refine ⟨f,fd,["rooms", "places"],F.ok sc (fun vs H Q E h=>?_) (fun cdv A outer s H vs Q E hr h=>?_),hm,F.kp,b⟩
 ·obtain ⟨p,d,xs,kvs,g,rfl,_⟩:=h
  rfl
 ·exact ⟨_,bd _ (Cp.fn cp nm) hr.units n_sorted,EY h⟩
theorem FA {P:Program} {w:World} {f:Addr} {st:Stmt} {j k:Nat} (F:Fun K "placed" "placed" st f fd) (hm:mg "placed"=some (.ref f)) (b:Binds K fd ["world", "rooms"] [])
  (sc:bK fM ["world", "rooms"] (dM st)) (cp:iO fM oq vs cs ls lo gs (dM st)=true) (nm:sA fM oq=true) (n_enum:mg "enumerate"=none) (n_list:mg "list"=none)
  (c:wz P w K mg base j) (hj:decide (j<=k)=true)
  (bd:∀X:Cx,Cp X fM oq vs cs ls lo gs->Rm X->PassesOwn (model X.prog X.w) X.A X.env X.xe->X.mg "enumerate"=none->X.mg "list"=none->(∃(k:Nat) (f:Addr) (fd:FuncData) (ps:List Str),cO X.prog X.w X.K X.mg X.base ip k f fd ps (qe X.K)/\Room k X.A/\X.mg "places_of"=some (.ref f)/\PySem.W.keepIn X.K (.ref f)=true/\Binds X.K fd ps [])->PSs X (jv st) (JQ X.K)):DefOk P w K mg base (k+1) "placed" 2 bU:=by
 refine ⟨f,fd,["world", "rooms"],F.ok sc (fun vs H Q E h=>h.1) (fun cdv A outer s H vs Q E hr h=>?_),hm,F.kp,b⟩
 obtain ⟨hl,O,ds,nd,inH,rs,w'⟩:=h
 cases e:bU ds with
 | er c=>rw [e] at w';exact w'.elim
 | no=>rw [e] at w';exact w'.elim
 | ok p=>
  rw [e] at w';obtain ⟨wd,R,rfl,h1,rfl⟩:=lJ e;obtain ⟨f',fd',ps',F',a',b',c'⟩:=c;exact ⟨_,bd _ (Cp.fn cp nm) hr.units PassesOwn.never n_enum n_list ⟨j,f',fd',ps',F',hr.mono (of_decide_eq_true hj),a',b',c'⟩,qm h1 nd inH rs w'⟩
end KC
namespace T
open PySem PySem.Spec L2
open PyProof.Rows hiding St
theorem fY {X:Cx} {N gl:List Str} {vs cs ls lo gs:List Nat} {W:XW} {pos:Pos} {scope:Scope} {x y:Str} {px pos' spos:Pos} {iter elt:Expr} {ifs:List Expr} {fi:FI} {fe:F1} {fc:FB} {vs' cs' lo' gs':List Nat} (S:Cp X N gl vs cs ls lo gs) (j:Nat) (s:Sh) (i:Nat) (hy:N[j]?=some y) (hyl:lo.contains j=true) (hx:N[i]?=some x)
  (hsl:(pos'.line==pos.line)=true) (hsn:(scope.names.any fun (n,k)=>n==y&&(k==NameKind.local||k==NameKind.cell))=false) (h1:ia N i cs scope=true) (h2:iO N gl vs' cs' [i] lo' gs' scope=true)
  (hi':PI X (.Name x px) iter (tI X.K W fi)) (hc:sG X N gl vs' cs' [i] lo' gs' fun Y=>PF Y ifs (tT Y.K W0 fc)) (he:sG X N gl vs' cs' [i] lo' gs' fun Y=>PE Y elt (tE Y.K W0 fe)) (hs:∀x,foldedSetIterable iter X.env x=pure x) :
  PS X (.Assign [.Name y pos'] (.ListComp elt [⟨.Name x px,iter,ifs,0⟩] scope pos) spos) (fG (tE X.K W (aq s i fi fc fe)) (gName j)):=by
 have B:=fun cells C s₀ H₀ ex=>S.blk h2 cells C s₀ H₀ ex
 have L:=fun cells C s₀ H₀ ex=>(B cells C s₀ H₀ ex).loc i x hx (by simp)
 have hN:X.N.Nodup:=by rw [S.hN];exact S.nd
 have hx':X.N[i]?=some x:=by rw [S.hN];exact hx
 exact b8 (Jt hN (by rw [S.hN];exact hy) (S.loo j y hy hyl) (Jf S h1) S.calm hi' (fun cells C s₀ H₀ ex=>sN (X:=blk X scope cells C s₀ H₀ ex) (i:=i) hN hx' (L cells C s₀ H₀ ex).1 (L cells C s₀ H₀ ex).2) (fun cells C s₀ H₀ ex=>hc _ (B cells C s₀ H₀ ex) ⟨rfl,rfl,rfl,rfl,rfl,rfl⟩) (fun cells C s₀ H₀ ex=>he _ (B cells C s₀ H₀ ex) ⟨rfl,rfl,rfl,rfl,rfl,rfl⟩)
  (Ju S.kind (S.loo j y hy hyl) hsl hsn) hs) fun D U H h=>II h
end T
namespace KC
open PySem PySem.Spec L2 T
open PyProof.Rows hiding St
variable {X:Cx} {scope:Scope} {p1 p2 p3 p4 p5 p6 p7 p8 pos:Pos} {K:Fg} {mg:Str->Option Value} {base:Heap} {fd:FuncData} {ts:List Nat}
noncomputable def cy:Stmt:=JS 28
noncomputable def dN:Stmt:=JS 29
theorem ET:bK fL ["rooms", "places"] (dM cy):=⟨rfl,rfl,rfl,by decide +kernel,rfl,by decide +kernel,by decide +kernel⟩
theorem Gd:iO fL mK [0,1] [1] [0,1] [0] [0] (dM cy)=true:=by kernel_rfl
theorem FC:sA fL mK=true:=by kernel_rfl
theorem EU:bK fM ["world", "rooms"] (dM dN):=⟨rfl,rfl,rfl,by decide +kernel,rfl,by decide +kernel,by decide +kernel⟩
theorem Ge:iO fM oq [0,1,2,3,4,5,6,7] [0,2] [0,1,2,3,4,5,6,7] [1,3,4,5,6,7] [0] (dM dN)=true:=by kernel_rfl
theorem FD:sA fM oq=true:=by kernel_rfl
theorem pC {N gl:List Str} {vs cs ls lo gs:List Nat} (S:Cp X N gl vs cs ls lo gs) (i:Nat) (x:Str) (pos:Pos) (e:N[i]?=some x) (hi:vs.contains i=true):PE X (.Name x pos) (aS i):=by
 have m:=S.nm x (mem_of_getElem? e)
 exact km (by rw [S.hN];exact e) (S.vis i x e hi) m.1 m.2
theorem xU (S:Cp X fL mK [0,1] [1] [0,1] [0] [0]) (hu:X.A.units+1<cLine) (h1:D7 fL [2] [1] scope=true) (h2:iO fL mK [1,2] [1] [2] [] [] scope=true) (hs:∀x,foldedSetIterable (.Name "rooms" p5) X.env x=pure x) :
  PE X (.ListComp (.Subscript (.Name "places" p1) (.Name "room" p2) p3) [⟨.Name "room" p4,.Name "rooms" p5,[.Compare (.Name "room" p6) [.In] [.Name "places" p7] p8],0⟩] scope pos) (eV [2] (g6 X.K (aS 0)) (gName 2) (tB (Be (aS 2) (aS 1))) (tQ (aS 1) (aS 2))):=by
 have hN:X.N.Nodup:=by rw [S.hN];exact S.nd
 have B:=fun cells C s₀ H₀ ex=>S.blk h2 cells C s₀ H₀ ex
 exact IH (Jr S h1) S.calm (GX (pC S 0 _ _ rfl rfl))
  (fun cells C s₀ H₀ ex=>sN (X:=L2.blk X scope cells C s₀ H₀ ex) (i:=2) hN (by show X.N[2]?=_;rw [S.hN];rfl) ((B cells C s₀ H₀ ex).loc 2 _ rfl rfl).1 ((B cells C s₀ H₀ ex).loc 2 _ rfl rfl).2)
  (fun cells C s₀ H₀ ex=>uM (uD (B1 (X:=L2.blk X scope cells C s₀ H₀ ex) hu (pC (B cells C s₀ H₀ ex) 2 _ _ rfl rfl) (pC (B cells C s₀ H₀ ex) 1 _ _ rfl rfl)) (by with_unfolding_all rfl)))
  (fun cells C s₀ H₀ ex=>xZ (X:=L2.blk X scope cells C s₀ H₀ ex) hu (pC (B cells C s₀ H₀ ex) 1 _ _ rfl rfl) (pC (B cells C s₀ H₀ ex) 2 _ _ rfl rfl) (fun _ _=>rfl)) hs
theorem Gk (S:Cp X fL mK [0,1] [1] [0,1] [0] [0]) (R:Rm X) (n_sorted:X.mg "sorted"=none):PSs X (jv cy) (JP X.K):=by
 have hu:X.A.units+1<cLine:=Nat.lt_of_le_of_lt (by omega) R
 exact wK (Ec (AG oi (S.g (j:=0) rfl rfl).1 n_sorted mF (gM (xU S hu (by kernel_rfl) (by kernel_rfl) (fun _=>rfl)) mP (cF rfl)) (S.g (j:=0) rfl rfl).2.2 (S.g (j:=0) rfl rfl).2.1 (cF rfl) rfl))
theorem jK {P:Program} {w:World} {f:Addr} {k:Nat} (F:Fun K "places_of" "places_of" cy f fd) (hm:mg "places_of"=some (.ref f)) (b:Binds K fd ["rooms", "places"] []) (n_sorted:mg "sorted"=none):wz P w K mg base (k+1):=
 Fz F hm b ET Gd FC n_sorted fun X S R n=>Gk S R n
noncomputable abbrev Lr (X:Cx):Prop:=Cp X fM oq [0,1,2,3,4,5,6,7] [0,2] [0,1,2,3,4,5,6,7] [1,3,4,5,6,7] [0]
noncomputable abbrev Lu (X:Cx):Prop:=∃(k:Nat) (f:Addr) (fd:FuncData) (ps:List Str),cO X.prog X.w X.K X.mg X.base ip k f fd ps (qe X.K)/\Room k X.A/\X.mg "places_of"=some (.ref f)/\PySem.W.keepIn X.K (.ref f)=true/\Binds X.K fd ps []
theorem xV {p9 p10 pos' spos:Pos} (S:Lr X) (c:Lu X) (hsl:(pos'.line==pos.line)=true) (hsn:(scope.names.any fun (n,k)=>n==("steps":Str)&&(k==NameKind.local||k==NameKind.cell))=false)
  (h1:D7 fM [4] [0,2] scope=true) (h2:iO fM oq [0,2,4] [0,2] [4] [] [2] scope=true) (hs:∀x,foldedSetIterable (.Name "rooms" p9) X.env x=pure x) :
  PS X (.Assign [.Name "steps" pos'] (.ListComp (.Call (.Name "places_of" p1) [.Subscript (.Subscript (.Name "world" p2) (.Constant (.int 2) 0 p3) p4) (.Name "room" p5) p6,.Name "places" p7] [] p8) [⟨.Name "room" p10,.Name "rooms" p9,[],0⟩] scope pos) spos)
   (fun D U H=>eV [4] (g6 X.K (aS 1)) (gName 4) oG (kF (qe X.K) [] L2.E0 (bS (tE X.K W0 uX) (bS (aS 2) eL))) U H fun v H'=>D.nx (U.set 7 (some v)) H'):=by
 have hN:X.N.Nodup:=by rw [S.hN];exact S.nd
 have B:=fun cells C s₀ H₀ ex=>S.blk h2 cells C s₀ H₀ ex
 obtain ⟨k,f,fd,ps,F,hr,a1,a2,a3⟩:=c;exact Jt hN (by rw [S.hN];rfl) (S.loo 7 "steps" rfl rfl) (Jr S h1) S.calm (GX (pC S 1 _ _ rfl rfl))
  (fun cells C s₀ H₀ ex=>sN (X:=L2.blk X scope cells C s₀ H₀ ex) (i:=4) hN (by show X.N[4]?=_;rw [S.hN];rfl) ((B cells C s₀ H₀ ex).loc 4 _ rfl rfl).1 ((B cells C s₀ H₀ ex).loc 4 _ rfl rfl).2)
  (fun cells C s₀ H₀ ex=>uN)
  (fun cells C s₀ H₀ ex=>IG (X:=L2.blk X scope cells C s₀ H₀ ex) F hr ((B cells C s₀ H₀ ex).g (j:=2) rfl rfl).1 a1 a2 a3 .nil uW (gM (TQ.Q.p (TQ.w_de_idx (TQ.w_de_idx (TQ.w_cv (B cells C s₀ H₀ ex) 0 rfl rfl) TQ.w_de_int (fun _ _=>rfl)) (TQ.w_cv (B cells C s₀ H₀ ex) 4 rfl rfl) (fun _ _=>rfl))) (gM (pC (B cells C s₀ H₀ ex) 2 _ _ rfl rfl) mP (cF rfl)) (cF rfl)) (by decide) (cF rfl) rfl)
  (Ju S.kind (S.loo 7 "steps" rfl rfl) hsl hsn) hs
theorem Gm (S:Lr X) (R:Rm X) (hp:PassesOwn (model X.prog X.w) X.A X.env X.xe) (n_enum:X.mg "enumerate"=none) (n_list:X.mg "list"=none) (c:Lu X):PSs X (jv dN) (JQ X.K):=by
 have hN:X.N.Nodup:=by rw [S.hN];exact S.nd
 have hu:X.A.units+1<cLine:=Nat.lt_of_le_of_lt (by omega) R
 have g:∀(i:Nat) (x:Str),fM[i]?=some x->X.N[i]?=some x:=fun i x e=>by rw [S.hN];exact e
 have lc:∀(i:Nat) (x:Str),fM[i]?=some x->[0,1,2,3,4,5,6,7].contains i=true->Loc X.env.scope x/\(X.fn x=true\/X.env.scope.names.lookup x=some .local):=fun i x e hi=>S.loc i x e hi
 refine ox (Aw hN (g 2 _ rfl) (lc 2 _ rfl rfl).1 uS rfl (lc 2 _ rfl rfl).2) ?_
 refine ox (Io hp S.calm (pj (S.g (j:=0) rfl rfl).1 n_enum (gM (pC S 1 _ _ rfl rfl) mP (dm rfl)) (dm rfl)) (uL S.calm (Hi (sN hN (g 3 _ rfl) (lc 3 _ rfl rfl).1 (lc 3 _ rfl rfl).2) (Hi (sN hN (g 4 _ rfl) (lc 4 _ rfl rfl).1 (lc 4 _ rfl rfl).2) pq))) (wK (o9 hu (pC S 2 _ _ rfl rfl) (pC S 4 _ _ rfl rfl) (pC S 3 _ _ rfl rfl) rfl)) (fun _=>rfl)) ?_
 refine ox (fY (vs':=[0,4]) (cs':=[0]) (lo':=[]) (gs':=[]) S 5 .leaf 4 rfl rfl rfl rfl rfl (by kernel_rfl) (by kernel_rfl) (TQ.Q.p (TQ.w_di_seq (TQ.w_cv S 1 rfl rfl))) (fun _ _ _=>TQ.Q.p TQ.w_df_nil) (fun Y S1 _=>TQ.Q.p (TQ.w_de_idx (TQ.w_de_idx (TQ.w_cv S1 0 rfl rfl) TQ.w_de_int (fun _ _=>rfl)) (TQ.w_cv S1 4 rfl rfl) (fun _ _=>rfl))) (fun _=>rfl)) ?_
 refine ox (fY (vs':=[0,4]) (cs':=[0]) (lo':=[]) (gs':=[1]) S 6 .leaf 4 rfl rfl rfl rfl rfl (by kernel_rfl) (by kernel_rfl) (TQ.Q.p (TQ.w_di_seq (TQ.w_cv S 1 rfl rfl))) (fun _ _ _=>TQ.Q.p TQ.w_df_nil) (fun Y S1 F1=>TQ.Q.p (TQ.w_cb_list S1 1 rfl rfl (F1.n n_list) (TQ.w_de_idx (TQ.w_de_idx (TQ.w_cv S1 0 rfl rfl) TQ.w_de_int (fun _ _=>rfl)) (TQ.w_cv S1 4 rfl rfl) (fun _ _=>rfl)) (dm rfl))) (fun _=>rfl)) ?_
 refine ox (xV S c rfl rfl (by kernel_rfl) (by kernel_rfl) (fun _=>rfl)) ?_
 exact wK (Ec (uO (gM (pC S 5 _ _ rfl rfl) (gM (pC S 6 _ _ rfl rfl) (gM (pC S 7 _ _ rfl rfl) mP (cF rfl)) (cF rfl)) (cF rfl))))
theorem qC {P:Program} {w:World} {f:Addr} {j k:Nat} (F:Fun K "placed" "placed" dN f fd) (hm:mg "placed"=some (.ref f)) (b:Binds K fd ["world", "rooms"] []) (n_enum:mg "enumerate"=none) (n_list:mg "list"=none)
  (c:wz P w K mg base j) (hj:decide (j<=k)=true):DefOk P w K mg base (k+1) "placed" 2 bU:=
 FA F hm b EU Ge FD n_enum n_list c hj fun X S R hp n1 n2 ca=>Gm S R hp n1 n2 ca
open PySem.SeqAt
section
variable {w:Wd} {R:List Nat}
noncomputable abbrev d5 (R:List Nat) (k:Nat):Nat:=R.getD k 0
theorem Iz {k:Nat} (h:k<R.length):d5 R k∈R:=by
 rw [d5,L1,L0 h];exact getElem_mem h
theorem mem_plS {k:Nat}:k∈qv R ts↔k<R.length/\d5 R k∈ts:=by
 unfold qv;rw [mem_filter,mem_range,contains_iff_mem]
theorem uJ {k:Nat} (h:k<R.length):(df w R).mks k=w.mks (d5 R k):=by
 show (R.map w.mks).getD k []=_
 rw [d5,L1,L1,getElem?_map,L0 h];rfl
theorem uI {k:Nat} (h:k<R.length):(df w R).stp k=qv R (w.stp (d5 R k)):=by
 show (R.map fun r=>qv R (w.stp r)).getD k []=_
 rw [d5,L1,L1,getElem?_map,L0 h];rfl
theorem ph:(qv R ts).length<=R.length:=by
 have:=length_filter_le (fun k=>ts.contains (R.getD k 0)) (List.range R.length)
 rwa [length_range] at this
theorem js {t:Nat} (h:t∈R):∃k,k<R.length/\d5 R k=t:=by
 obtain ⟨k,hk,e⟩:=getElem_of_mem h;refine ⟨k,hk,?_⟩
 rw [d5,L1,L0 hk,e];rfl
theorem BV (h:kd w R) (h1:1<=R.length) (h24:R.length<=24) (cl:∀r∈R,∃t∈w.stp r,t∈R):(df w R).Ok:=by
 have ne:∀r∈R,qv R (w.stp r)≠[]:=fun r hr z=>by
  obtain ⟨t,ht,hR⟩:=cl r hr;obtain ⟨k,hk,rfl⟩:=js hR;have:=mem_plS.mpr ⟨hk,ht⟩
  rw [z] at this
  cases this
 have row:∀r∈R,w.mks r∈w.m:=fun r hr=>yk h.ok (h.lt r hr)
 refine ⟨⟨by simp [df],by simp [df],by simp [df],fun a ha=>?_,fun a ha=>?_,fun a ha=>?_⟩,h1,h24,by simp [df],by simp [df],fun a ha=>?_,fun a ha c hc=>?_⟩
 ·obtain ⟨x,_,rfl⟩:=List.mem_map.mp ha
  unfold B3;split
  ·exact .inl rfl
  ·exact .inr rfl
 ·obtain ⟨b,hb,rfl⟩:=List.mem_map.mp ha
  obtain ⟨x,hx,rfl⟩:=List.mem_map.mp hb;exact h.ok.g.m _ (List.mem_map.mpr ⟨_,row x hx,rfl⟩)
 ·obtain ⟨b,hb,rfl⟩:=List.mem_map.mp ha
  obtain ⟨x,hx,rfl⟩:=List.mem_map.mp hb;refine ⟨(qv R (w.stp x)).map fun t:Nat=>(t:Int),by rw [<-G4],by rw [length_map];exact Nat.le_trans ph (by omega),fun z=>ne x hx (List.map_eq_nil_iff.mp z),fun t ht=>?_,?_⟩
  ·obtain ⟨c,hc,rfl⟩:=List.mem_map.mp ht
   have:=(mem_plS.mp hc).1
   show 0<=(c:Int)/\(c:Int)<((R.length:Nat):Int)
   omega
  ·rw [pairwise_map]
   exact (List.pairwise_lt_range.filter _).imp fun h=>by omega
 ·obtain ⟨x,hx,rfl⟩:=List.mem_map.mp ha
  exact ⟨ne x hx,Nat.le_trans ph (by omega),fun t ht=>(mem_plS.mp ht).1⟩
 ·obtain ⟨x,hx,rfl⟩:=List.mem_map.mp ha
  exact h.ok.mc _ (row x hx) c hc
theorem tU (ok:w.Ok) {r:Nat} (hr:r<w.n):(w.stp r).Nodup:=by
 obtain ⟨ts,e,_,_,_,hp⟩:=ok.g.s (aw (w.stp r)) (List.mem_map.mpr ⟨w.stp r,by
  unfold Wd.stp;rw [L1,L0 (by rw [ok.ls];exact hr)]
  exact getElem_mem _,rfl⟩)
 have e:=PyData.list.inj e
 rw [G4] at e;have e:=(map_inj_right (f:=PyData.int) fun a b z=>PyData.int.inj z).mp e
 rw [<-e,pairwise_map] at hp;exact hp.imp fun h z=>by omega
end
theorem Bh {R:List Nat}:shaped (aw R)=true:=G6 (by
 intro a ha;obtain ⟨x,_,rfl⟩:=List.mem_map.mp ha;exact ⟨_,rfl⟩)
end KC
namespace T
open PySem PySem.Spec L2
open PyProof.Rows hiding St
noncomputable def nz (ks:List Nat):Option Nat:=(List.range ks.length).find? fun i=>ks.all fun b=>decide (ks.getD i 0<=b)
theorem yi {ks:List Nat} {i:Nat} (hi:i<ks.length) (h:∀j,j<ks.length->ks.getD i 0<=ks.getD j 0/\(j<i->ks.getD i 0<ks.getD j 0)):nz ks=some i:=by
 unfold nz;rw [List.find?_range_eq_some];refine ⟨List.all_eq_true.mpr fun b hb=>?_,List.mem_range.mpr hi,fun j hj=>?_⟩
 ·obtain ⟨k,hk,e⟩:=getElem_of_mem hb
  have:=(h k hk).1
  rw [L1 (i:=k),L0 hk,e] at this;exact decide_eq_true this
 ·have:=(h j (by omega)).2 hj
  cases e:(ks.all fun b=>decide (ks.getD j 0<=b)) with
  | false=>rfl
  | true=>
   have hm:ks[i]∈ks:=getElem_mem hi
   have z:=of_decide_eq_true (List.all_eq_true.mp e _ hm)
   rw [L1 (i:=i),L0 hi] at this;exact absurd (Nat.lt_of_lt_of_le this z) (Nat.lt_irrefl _)
noncomputable def nF:Mc->Nat
 | .list xs=>xs.length
 | _=>0
noncomputable def CF:Mc->Bool
 | .list _=>true
 | _=>false
noncomputable def eA (f:F1):F1:=fun Γ=>match f Γ with
 | .ok ⟨s,.list ds⟩ Γ1=>if !s.isView&&ds.all CF then (match nz (ds.map nF) with
  | some i=>.ok ⟨.leaf,ds.getD i .none⟩ Γ1
  | none=>.no) else .no
 | .er c Γ1=>.er c Γ1
 | _=>.no
section
variable {K:Fg} {W:XW} {U:St} {H:Hp} {Q:VK} {f:F1}
theorem vP {Γ Γ2:Ev} {q:PV} (h:eA f Γ=.ok q Γ2):∃s ds i,f Γ=.ok ⟨s,.list ds⟩ Γ2/\s.isView=false/\ds.all CF=true/\nz (ds.map nF)=some i/\q=⟨.leaf,ds.getD i .none⟩:=by
 unfold eA at h;split at h
 ·rename_i s ds Γ1 e
  split at h
  ·rename_i hc
   rw [Bool.and_eq_true] at hc;split at h
   ·rename_i i ei
    cases h;exact ⟨s,ds,i,e,by simpa using hc.1,hc.2,ei,rfl⟩
   ·cases h
  ·cases h
 ·cases h
 ·cases h
theorem xG (h:tE K W (eA f) U H Q):tE K W f U H (fun x H1=>zV K [x] H1 Q):=by
 obtain ⟨He,O,Fs,Γ,E,h⟩:=h;refine ⟨He,O,Fs,Γ,E,?_⟩
 cases em:eA f Γ with
 | no=>rw [em] at h;exact h.elim
 | er c Γ'=>
  rw [em] at h;unfold eA at em;split at em
  ·split at em
   ·split at em<;>cases em
   ·cases em
  ·rename_i ef
   cases em;rw [ef];exact h
  ·cases em
 | ok q Γ2=>
  rw [em] at h;obtain ⟨s,ds,i,ef,hv,hall,hi,rfl⟩:=vP em;rw [ef];intro v H' G Fs' A
  have own:Own K (G++O++Fs'.flatten) H' s G v (.list ds):=A.own
  have rep:=pA (O:=O++Fs'.flatten) own hv (fun a ha z=>A.disj a ha z) (fun a ha=>by
   rcases LX ha with z | z
   ·exact LU _ (LR _ z)
   ·exact LR _ z)
  cases rep with
  | @lst p vs _ hq hl hr=>
   have hil:i<ds.length:=by
    have:=List.mem_range.mp (List.mem_of_find?_eq_some hi)
    rwa [length_map] at this
   have ne:0<ds.length:=by omega
   refine ⟨p,vs,?_⟩
   have each:∀j:Nat,j<ds.length->∃(a:Addr) (l:List V),vs[j]?=some (.ref a)/\SqL K H' a l/\l.length=nF (ds.getD j .none):=fun j hj=>by
    have hjv:j<vs.length:=by omega
    have r:=hr j vs[j] ds[j] (L0 hjv) (L0 hj)
    have hd:=List.all_eq_true.mp hall _ (getElem_mem hj)
    rw [L1,L0 hj,L0 hjv];show ∃(a:Addr) (l:List V),some vs[j]=some (.ref a)/\SqL K H' a l/\l.length=nF ds[j]
    generalize vs[j]=u at r
    generalize ds[j]=d at r hd
    cases r with
    | @lst a ws es hq2 hl2 hr2=>exact ⟨a,ws,rfl,hid_le.seq hq2,hl2⟩
    | _=>cases hd
   refine ⟨(List.range ds.length).map fun j=>if hj:j<ds.length then (each j hj).choose_spec.choose else [],rfl,hid_le.seq hq,by rw [hl,length_map,length_range],fun j w l h1 h2=>?_,by omega,fun j w l h1 h2 hmin=>?_⟩
   ·have hj:j<ds.length:=by have:=(L7 h1).1;omega
    rw [getElem?_map,List.getElem?_range hj] at h2;have h2:some (if hj:j<ds.length then (each j hj).choose_spec.choose else [])=some l:=h2
    rw [dif_pos hj] at h2
    cases h2;obtain ⟨g1,g2,_⟩:=(each j hj).choose_spec.choose_spec;rw [g1] at h1
    cases h1;exact ⟨_,rfl,g2⟩
   ·have hj:j<ds.length:=by have:=(L7 h1).1;omega
    have lenAt:∀k,k<ds.length->∃l',((List.range ds.length).map fun j=>if hj:j<ds.length then (each j hj).choose_spec.choose else [])[k]?=some l'/\l'.length=(ds.map nF).getD k 0:=fun k hk=>by
     refine ⟨(each k hk).choose_spec.choose,?_,?_⟩
     ·rw [getElem?_map,List.getElem?_range hk]
      show some (if hj:k<ds.length then (each k hj).choose_spec.choose else [])=_
      rw [dif_pos hk]
     ·have:=(each k hk).choose_spec.choose_spec.2.2
      rw [this,L1,L1,getElem?_map,L0 hk];rfl
    have eij:i=j:=by
     have:nz (ds.map nF)=some j:=by
      refine yi (by rw [length_map];exact hj) fun k hk=>?_
      rw [length_map] at hk;obtain ⟨l1,e1,f1⟩:=lenAt j hj;obtain ⟨l2,e2,f2⟩:=lenAt k hk;rw [h2] at e1
      cases e1;have:=hmin k l2 e2
      rw [<-f1,<-f2];exact this
     rw [hi] at this;exact Option.some.inj this
    subst eij;have r:=hr i w (ds.getD i .none) h1 (by rw [L1,L0 hj];rfl)
    exact h w H' [] Fs' ⟨A.same,by rw [nil_append];exact A.go,fun a ha=>A.newF a (by simpa using ha),by rw [nil_append];exact .leaf r⟩
end
section
variable {X:Cx} {N gl:List Str} {vs cs ls lo gs:List Nat} {W:XW} {e:Expr} {pos p p2 kpos:Pos} {f:F1}
theorem cb_minL (S:Cp X N gl vs cs ls lo gs) (j k:Nat) (hj:gl[j]?=some ("min":Str)) (hg:gs.contains j=true) (hm:X.mg "min"=none) (hk:gl[k]?=some ("len":Str)) (hg2:gs.contains k=true) (hm2:X.mg "len"=none) (ha:PE X e (tE X.K W f)) (hs:starEach [e] X.env=[(false,eval e X.env)]) :
  PE X (.Call (.Name "min" p) [e] [⟨some "key",.Name "len" p2,kpos⟩] pos) (tE X.K W (eA f)):=
 aJ (xX S.calm (S.g hj hg).1 hm (S.g hk hg2).1 hm2 (gM ha mP hs) hs) fun _ _ _ h=>xG h
end
end T
namespace TQ
open PySem PySem.Spec L2 T
open PyProof.Rows hiding St
section
variable {X:Cx} {N gl:List Str} {vs cs ls lo gs:List Nat} {W:XW} {e:Expr} {pos p p2 kpos:Pos} {f:F1}
theorem pY (S:Cp X N gl vs cs ls lo gs) (j k:Nat) (hj:gl[j]?=some ("min":Str)) (hg:gs.contains j=true) (hm:X.mg "min"=none) (hk:gl[k]?=some ("len":Str)) (hg2:gs.contains k=true) (hm2:X.mg "len"=none) (ha:Q (PE X e (tE X.K W f))) (hs:starEach [e] X.env=[(false,eval e X.env)]) :
  Q (PE X (.Call (.Name "min" p) [e] [⟨some "key",.Name "len" p2,kpos⟩] pos) (tE X.K W (eA f))):=⟨T.cb_minL S j k hj hg hm hk hg2 hm2 ha.p hs⟩
end
end TQ
namespace KC
open PySem PySem.Spec L2 T PySem.SeqAt
open PyProof.Rows hiding St
variable {os ss:List D} {h:Int} {ts ks ws:List Int} {U:St} {n:Nat} {K:Fg}
noncomputable abbrev N_reached:List Str:=["world", "room", "found", "waiting", "here", "there"]
noncomputable abbrev cK:List Str:=["check_world", "check_room", "sorted"]
noncomputable def fH (ss:List D) (h:Int):Option (List Int):=if 0<=h/\h<ss.length then (match ss[h.toNat]? with
 | some (.list xs)=>sf xs
 | _=>none) else none
noncomputable def stp (t:Int) (p:List Int×List Int):Option (List Int×List Int):=if p.1.contains t then some p else if p.1.length<1000/\p.2.length<1000 then some (p.1++[t],p.2++[t]) else none
noncomputable def et:List Int->List Int×List Int->Option (List Int×List Int)
 | [],p=>some p
 | t::r,p=>(stp t p).bind (et r)
noncomputable def wR (sc:Int->Option (List Int)):Nat->List Int->List Int->Option (List Int)
 | 0,_,_=>none
 | n+1,ks,ws=>match ws.getLast? with
  | none=>some ks
  | some h=>(match sc h with
   | some ts=>(match et ts (ks,ws.dropLast) with
    | some p=>wR sc n p.1 p.2
    | none=>none)
   | none=>none)
noncomputable def B4 (o:Option (List Int)):bz:=match o with
 | some ks=>if ks.length<64 then .ok ⟨.lst .leaf,.list ((PySem.W.sortI ks).map .int)⟩ else .no
 | none=>.no
noncomputable def aP (ds:List Mc):bz:=match ds with
 | [.tuple [.list os,.list ms,.list ss],.int r]=>(match aB [.tuple [.list os,.list ms,.list ss]] with
  | .ok _=>(match aH [.tuple [.list os,.list ms,.list ss],.int r] with
   | .ok _=>B4 (wR (fH ss) 1000 [r] [r])
   | _=>.no)
  | _=>.no)
 | _=>.no
noncomputable def KP (K:Fg):TT:=fun U H Q=>aS 3 U H fun x H'=>∃k,zj K x H' k/\Q k H'
noncomputable def KR (K:Fg):L2.TS:=d7 (fG (EM K "list" Fd (aS 3)) (gName 4)) (xn (g6 K (tK (zW K) (tK (zW K) (aS 0) (tC (.int 2))) (aS 4))) (gName 5) (tL (tB (IL (aS 5) (aS 2))) (d7 (oR (aS 2) (aS 5) (tC (.bl true))) (gP (wQ K "list" En (aS 3) (bS (aS 5) eL)))) kE))
noncomputable def mZ (K:Fg):L2.TS:=d7 (tS K W0 (bG (aj 1 aB (ae (aa 0) af)))) (d7 (tS K W0 (bG (aj 2 aH (ae (aa 0) (ae (aa 1) af)))))
 (d7 (fG (zM [(aS 1,tC (.bl true))]) (gName 2)) (d7 (fG (Bc (bS (aS 1) eL)) (gName 3)) (d7 (GF (KP K) (KR K)) (tJ (xo uw (bS (aS 2) eL)))))))
structure IR (He Hb:Hp) (wv:V) (r:Int) (f l:Addr) (U:St) (H:Hp) (ks ws:List Int):Prop where
 st:∃x4 x5,U=[some wv,some (.int r),some (.ref f),some (.ref l),x4,x5]
 hf:H f=some (.dK (cB ks (.bl true)))
 hl:H l=some (.lst (ws.map V.int))
 ne:f≠l
 s1:Same He H
 s2:Same Hb H
theorem Jc {v:V} {t:Int}:∀{ks:List Int},(cQ (cB ks v) (Sum.inl t:bE)).isSome=ks.contains t
 | []=>rfl
 | k::ks=>by
  by_cases h:k=t
  ·subst h
   have:cQ (cB (k::ks) v) (Sum.inl k:bE)=some v:=Eu rfl
   rw [this];simp
  ·have e:cQ (cB (k::ks) v) (Sum.inl t:bE)=cQ (cB ks v) (Sum.inl t:bE):=Et fun z=>h (by injection z)
   rw [e,Jc,List.contains_cons];have:(t==k)=false:=by simpa using fun z=>h z.symm
   rw [this,Bool.false_or]
section
variable {K:Fg} {He Hb:Hp} {wv:V} {r:Int} {f l:Addr}
theorem Bm {H:Hp} {ms:List D} (rw_:Rep K Hb wv (.tuple [.list os,.list ms,.list ss])) (s2:Same Hb H) (hs:fH ss h=some ts) (h4:U[4]?=some (some (.int h))) {Q:VK} (q:∀a,SqL K H a (ts.map V.int)->(∀H',Same Hb H'->SqL K H' a (ts.map V.int))->Q (.ref a) H) :
  zW K wv (.int 2) H fun x H1=>∃v,U[4]?=some (some v)/\zW K x v H1 Q:=by
 cases rw_ with
 | @tup p vs _ hq hl hr=>
  match vs,hl with
  | [v0,v1,v2],_=>
   have r2:=hr 2 v2 (.list ss) rfl rfl
   refine .inr (.inl ⟨p,_,2,v2,rfl,rfl,pQ s2 hq,rfl,.int h,h4,?_⟩)
   cases r2 with
   | @lst p2 rows _ hq2 hl2 hr2=>
    unfold fH at hs;split at hs
    case isFalse=>cases hs
    rename_i hc;have hn:h.toNat<ss.length:=by omega
    rw [L0 hn] at hs;have hn2:h.toNat<rows.length:=by omega
    have r3:=hr2 h.toNat (rows[h.toNat]'hn2) (ss[h.toNat]'hn) (L0 _) (L0 _)
    refine .inl ⟨p2,rows,h,rows[h.toNat]'hn2,rfl,rfl,s2.seq hq2,?_,?_⟩
    ·unfold d6 dI
     rw [if_pos hc.1,if_pos (by omega)]
     exact L0 _
    ·generalize rows[h.toNat]'hn2=rv at r3
     generalize ss[h.toNat]'hn=d at r3 hs
     cases r3 with
     | @lst a vals xs hq3 hl3 hr3=>
      have hs:sf xs=some ts:=hs
      have hx:=Jk hs
      subst hx;have ev:vals=ts.map V.int:=by
       apply ext_getElem?
       intro i;by_cases hi:i<vals.length
       ·have hi2:i<ts.length:=by rw [length_map] at hl3;omega
        have q:=hr3 i (vals[i]'hi) (.int (ts[i]'hi2)) (L0 _) (by rw [getElem?_map,L0 hi2];rfl)
        rw [L0 hi,getElem?_map,L0 hi2];generalize vals[i]'hi=u at q
        cases q;rfl
       ·rw [getElem?_eq_none (by omega),getElem?_eq_none (by rw [length_map] at hl3 ⊢;omega)]
      rw [ev] at hq3;exact q a (s2.seq hq3) fun H' s=>s.seq hq3
     | _=>cases hs
theorem Bs {H:Hp} {a:Addr} {D:cW} {p:List Int×List Int} (hf1:He f=none) (hf2:Hb f=none) (hl1:He l=none) (hl2:Hb l=none) (I:IR He Hb wv r f l U H ks ws) (hp:et ts (ks,ws)=some p)
  (hS:∀H',Same Hb H'->SqL K H' a (ts.map V.int)) (hD:∀U H,IR He Hb wv r f l U H p.1 p.2->D.nx U H) :
  ∃W:Nat->Nat->St->Hp->Prop,(∃m,W 0 m U H)/\∀i m U H,W i m U H ->
   ((DA K a).stop i H/\D.nx U H)\/((DA K a).go i H/\∃N:St->Hp->Prop,(∀U' H',N U' H'->∃m',m'<m/\W (i+1) m' U' H')/\∀x H',(DA K a).yld i H x H'->gName 5 x U H' fun U2 H2=>
    tL (tB (IL (aS 5) (aS 2))) (d7 (oR (aS 2) (aS 5) (tC (.bl true))) (gP (wQ K "list" En (aS 3) (bS (aS 5) eL)))) kE { D with nx:=N,ct:=N,bk:=D.nx } U2 H2):=by
 refine ⟨fun i m U H=>m=ts.length-i/\i<=ts.length/\∃ks ws,IR He Hb wv r f l U H ks ws/\et (ts.drop i) (ks,ws)=some p,⟨ts.length,by simp,Nat.zero_le _,ks,ws,I,by simpa using hp⟩,?_⟩
 rintro i m U H ⟨rfl,hi,ks,ws,I,hp⟩
 have hq:=hS H I.s2
 by_cases hlt:i<ts.length
 case neg=>
  left
  have:ts.drop i=[]:=drop_eq_nil_of_le (by omega)
  rw [this] at hp
  cases hp;exact ⟨⟨_,hq,by rw [length_map];omega⟩,hD U H I⟩
 case pos=>
  right
  have hdr:ts.drop i=ts[i]::ts.drop (i+1):=drop_eq_getElem_cons hlt
  rw [hdr] at hp;have hget:(ts.map V.int)[i]?=some (.int ts[i]):=by rw [getElem?_map,L0 hlt];rfl
  generalize ts[i]=t at hp hget
  refine ⟨⟨_,_,hq,hget⟩,fun U' H'=>∃ks ws,IR He Hb wv r f l U' H' ks ws/\et (ts.drop (i+1)) (ks,ws)=some p,fun U' H' q=>⟨ts.length-(i+1),by omega,rfl,hlt,q⟩,?_⟩
  rintro x H' ⟨rfl,hx⟩
  have ex:x=.int t:=Option.some.inj ((hx _ hq).symm.trans hget)
  subst ex;obtain ⟨⟨x4,x5,rfl⟩,if_,il,ine,is1,is2⟩:=I;refine ⟨.int t,rfl,.ref f,rfl,f,_,rfl,DGet.k (k:=(Sum.inl t:bE)) if_,!(cQ (cB ks (.bl true)) (Sum.inl t:bE)).isSome,rfl,?_⟩
  rw [Jc];simp only [et] at hp
  cases hc:ks.contains t with
  | true=>
   have e:stp t (ks,ws)=some (ks,ws):=by unfold stp;rw [if_pos hc]
   rw [e] at hp;exact fI ⟨ks,ws,⟨⟨_,_,rfl⟩,if_,il,ine,is1,is2⟩,hp⟩
  | false=>
   by_cases hz:ks.length<1000/\ws.length<1000
   case neg=>
    have e:stp t (ks,ws)=none:=by unfold stp;rw [if_neg (by rw [hc];exact Bool.false_ne_true),if_neg hz]
    rw [e] at hp
    cases hp
   have e:stp t (ks,ws)=some (ks++[t],ws++[t]):=by unfold stp;rw [if_neg (by rw [hc];exact Bool.false_ne_true),if_pos hz]
   rw [e] at hp;have hb:(1000:Nat)<=sizeLine:=by decide
   have hkl:(cB ks (.bl true)).length<sizeLine:=by unfold cB;rw [length_map];omega
   have hnew:dH (cB ks (.bl true)) (Sum.inl t:bE) (.bl true)=cB (ks++[t]) (.bl true):=by
    rw [kY _ (by
     cases ev:cQ (cB ks (.bl true)) (Sum.inl t:bE) with
     | none=>rfl
     | some z=>have:=Jc (v:=.bl true) (t:=t) (ks:=ks);rw [ev,hc] at this;cases this)]
    unfold cB;rw [map_append];rfl
   refine gY ⟨.ref f,rfl,.int t,rfl,f,bo H' f (.dK (cB (ks++[t]) (.bl true))),rfl,?_,?_⟩
   ·have:=DPut.k (v:=.bl true) (k:=(Sum.inl t:bE)) if_ hkl
    rw [hnew] at this;exact this
   ·have hlu:bo H' f (.dK (cB (ks++[t]) (.bl true))) l=some (.lst (ws.map V.int)):=by rw [b9 (Ne.symm ine)];exact il
    refine ⟨.ref l,rfl,.inl ⟨rfl,_,.of hlu⟩,.int t,rfl,l,ws.map V.int,.int t,rfl,rfl,hlu,by rw [length_map];omega,ks++[t],ws++[t],⟨⟨_,_,rfl⟩,?_,?_,ine,?_,?_⟩,hp⟩
    ·rw [b9 ine,da]
    ·rw [da,map_append];rfl
    ·intro b o hb
     rw [b9 (iT hb hl1),b9 (iT hb hf1)];exact is1 b o hb
    ·intro b o hb
     rw [b9 (iT hb hl2),b9 (iT hb hf2)];exact is2 b o hb
theorem xH {H:Hp} {os ms ss:List D} {res:List Int} {D:cW} (rw_:Rep K Hb wv (.tuple [.list os,.list ms,.list ss])) (hf1:He f=none) (hf2:Hb f=none) (hl1:He l=none) (hl2:Hb l=none) (I:IR He Hb wv r f l U H ks ws) (hg:wR (fH ss) n ks ws=some res)
  (hD:∀U H ws,IR He Hb wv r f l U H res ws->D.nx U H):GF (KP K) (KR K) D U H:=by
 refine ⟨fun m U H=>∃ks ws,IR He Hb wv r f l U H ks ws/\wR (fH ss) m ks ws=some res,⟨n,ks,ws,I,hg⟩,?_⟩
 rintro m U H ⟨ks,ws,I,hg⟩
 cases m with
 | zero=>cases hg
 | succ m=>
  have I0:=I
  obtain ⟨⟨x4,x5,rfl⟩,if_,il,ine,is1,is2⟩:=I;refine ⟨.ref l,rfl,!(ws.map V.int).isEmpty,.inl ⟨_,.of il,rfl⟩,?_⟩
  rw [wR] at hg
  cases hw:ws.getLast? with
  | none=>
   rw [hw] at hg
   cases hg;have:ws=[]:=List.getLast?_eq_none_iff.mp hw
   subst this;exact fI (hD _ _ _ I0)
  | some h=>
   rw [hw] at hg;dsimp only at hg
   cases hs:fH ss h with
   | none=>rw [hs] at hg;cases hg
   | some ts=>
    rw [hs] at hg;dsimp only at hg
    cases hp:et ts (ks,ws.dropLast) with
    | none=>rw [hp] at hg;cases hg
    | some p=>
     rw [hp] at hg;dsimp only at hg;have hne:ws≠[]:=fun z=>by rw [z] at hw;cases hw
     have he:(!(ws.map V.int).isEmpty)=true:=by cases ws with | nil=>exact absurd rfl hne | cons a r=>rfl
     rw [he];refine gY ⟨fun U' H'=>∃ks ws,IR He Hb wv r f l U' H' ks ws/\wR (fH ss) m ks ws=some res,fun U' H' q=>⟨m,Nat.lt_succ_self _,q⟩,?_⟩
     have hlast:(ws.map V.int)[(ws.map V.int).length-1]?=some (.int h):=by
      rw [getElem?_map,length_map,<-List.getLast?_eq_getElem?,hw];rfl
     refine ⟨.ref l,rfl,.inl ⟨rfl,_,.of il⟩,l,_,.int h,rfl,rfl,il,hlast,?_⟩
     have I2:IR He Hb wv r f l [some wv,some (.int r),some (.ref f),some (.ref l),some (.int h),x5] (bo H l (.lst (ws.map V.int).dropLast)) ks ws.dropLast:=⟨⟨_,_,rfl⟩,by rw [b9 ine];exact if_,by rw [da,List.map_dropLast],ine,fun b o hb=>by rw [b9 (iT hb hl1)];exact is1 b o hb,fun b o hb=>by rw [b9 (iT hb hl2)];exact is2 b o hb⟩
     refine ⟨wv,rfl,Bm rw_ I2.s2 hs rfl fun a h1 hS=>⟨a,rfl,⟨_,h1⟩,Bs hf1 hf2 hl1 hl2 I2 hp hS fun U H I=>⟨_,_,I,hg⟩⟩⟩
end
theorem sW {Γ Γ1:Ev} {fa:F1} {p:PV} (h:fa Γ=.ok p Γ1):bG fa Γ=.nx Γ1:=by unfold bG gj;rw [h]
theorem ud {H:Hp} {O:List Addr} {vs:List V} {ms:List D} {r:Int} {p1 p2:PV} {Q:VK} {Qn:St->Hp->Prop} (nd:O.Nodup) (inH:∀a∈O,H a≠none) (rs:Reps K (bM H O) vs [.tuple [.list os,.list ms,.list ss],.int r])
  (h1:aB [.tuple [.list os,.list ms,.list ss]]=.ok p1) (h2:aH [.tuple [.list os,.list ms,.list ss],.int r]=.ok p2) (hg:wR (fH ss) 1000 [r] [r]=some ks) (h64:ks.length<64)
  (q:∀v H' G,RetOk K H O ⟨.lst .leaf,.list ((PySem.W.sortI ks).map .int)⟩ v H' G->Q v H'):mZ K { nx:=Qn,rt:=Q } (L2.start N_reached vs) H:=by
 have hvl:vs.length=2:=rs.1
 have E0:=Jh (K:=K) (N:=N_reached) (H:=H) (O:=O) (vs:=vs) (by rw [hvl];decide) nd inH rs
 have g1:bG (aj 1 aB (ae (aa 0) af)) (aR N_reached.length [.tuple [.list os,.list ms,.list ss],.int r])=.nx (aR N_reached.length [.tuple [.list os,.list ms,.list ss],.int r]):=sW (b7 (az (au rfl) ak) h1 rfl rfl)
 have g2:bG (aj 2 aH (ae (aa 0) (ae (aa 1) af))) (aR N_reached.length [.tuple [.list os,.list ms,.list ss],.int r])=.nx (aR N_reached.length [.tuple [.list os,.list ms,.list ss],.int r]):=sW (b7 (az (au rfl) (az (au rfl) ak)) h2 rfl rfl)
 refine ⟨H,O,_,_,E0,?_⟩
 rw [g1];intro U1 H1 Fs1 E1;refine ⟨H,O,_,_,E1,?_⟩
 rw [g2];intro U2 H2 Fs2 E2;have hl6:U2.length=6:=E2.len1
 obtain ⟨_,v0,F0,e0,_,o0⟩:=E2.slot 0 ⟨.leaf,.tuple [.list os,.list ms,.list ss]⟩ rfl
 obtain ⟨_,v1,F1',e1,_,o1⟩:=E2.slot 1 ⟨.leaf,.int r⟩ rfl
 cases o0 with
 | leaf r0=>
  cases o1 with
  | leaf r1=>
   cases r1;match U2,hl6,e0,e1 with
   | [a0,a1,a2,a3,a4,a5],_,e0,e1=>
    have ea0:a0=some v0:=by simpa using e0
    have ea1:a1=some (.int r):=by simpa using e1
    subst ea0 ea1;intro f hf;refine ⟨.int r,rfl,da,[((Sum.inl r:bE),.bl true)],rfl,(by show 1<=15;decide),?_⟩
    refine ⟨.int r,rfl,(by show 1<=sizeLine;decide),fun l hl=>?_⟩
    have hfl:f≠l:=fun z=>by
     rw [<-z,da] at hl
     cases hl
    have hl2:H2 l=none:=by rw [b9 (Ne.symm hfl),b9 (Ne.symm hfl)] at hl;exact hl
    have sH:Same H2 (bo (bo (bo H2 f (.dK [])) f (.dK (Av [] [((Sum.inl r:bE),.bl true)]))) l (.lst [.int r])):=fun b o hb=>by
     rw [b9 (iT hb hl2),b9 (iT hb hf),b9 (iT hb hf)];exact hb
    have hHf:H f=none:=E2.same.free hf
    have hHl:H l=none:=E2.same.free hl2
    have hbf:bM H2 (O++Fs2.flatten) f=none:=by unfold bM;split<;>first | rfl | exact hf
    have hbl:bM H2 (O++Fs2.flatten) l=none:=by unfold bM;split<;>first | rfl | exact hl2
    have I:IR H (bM H2 (O++Fs2.flatten)) v0 r f l [some v0,some (.int r),some (.ref f),some (.ref l),a4,a5] (bo (bo (bo H2 f (.dK [])) f (.dK (Av [] [((Sum.inl r:bE),.bl true)]))) l (.lst [.int r])) [r] [r]:=
     ⟨⟨_,_,rfl⟩,by rw [b9 hfl,da];rfl,da,hfl,E2.same.trans sH,hid_le.trans sH⟩
    refine xH (He:=H) (Hb:=bM H2 (O++Fs2.flatten)) r0 hHf hbf hHl hbl I hg fun U3 H3 ws I3=>?_
    obtain ⟨⟨x4,x5,rfl⟩,if_,il,ine,is1,is2⟩:=I3;refine ⟨.ref f,rfl,f,ks,.bl true,rfl,if_,h64,fun p hp=>q _ _ [p] ⟨is1.trans (gN hp),fun a ha=>by rw [List.mem_singleton.mp ha];exact is1.free hp,fun a ha=>by rw [List.mem_singleton.mp ha,da];exact Option.some_ne_none _,by simp,?_,rfl⟩⟩
    refine Own.mkLeaves da (by simp) fun j u d h1 h2=>?_
    rw [getElem?_map] at h1 h2
    cases e3:(PySem.W.sortI ks)[j]? with
    | none=>rw [e3] at h1;cases h1
    | some z=>
     rw [e3] at h1 h2
     cases h1
     cases h2;exact .int z
theorem jT {ds:List D} {p:PV} (h:aP ds=.ok p):∃os ms ss r ks p1 p2,ds=[.tuple [.list os,.list ms,.list ss],.int r]/\aB [.tuple [.list os,.list ms,.list ss]]=.ok p1/\aH [.tuple [.list os,.list ms,.list ss],.int r]=.ok p2/\wR (fH ss) 1000 [r] [r]=some ks/\ks.length<64/\p=⟨.lst .leaf,.list ((PySem.W.sortI ks).map .int)⟩:=by
 unfold aP at h;split at h
 ·rename_i os ms ss r
  split at h
  ·rename_i p1 e1
   split at h
   ·rename_i p2 e2
    unfold B4 at h;split at h
    ·rename_i ks e3
     split at h
     ·rename_i h64
      cases h;exact ⟨os,ms,ss,r,ks,p1,p2,rfl,e1,e2,e3,h64,rfl⟩
     ·cases h
    ·cases h
   ·cases h
  ·cases h
 ·cases h
theorem Im {α:Type} [DecidableEq α]:∀{ks L:List α},ks.Nodup->(∀x∈ks,x∈L)->ks.length<=L.length
 | [],_,_,_=>Nat.zero_le _
 | x::ks,L,nd,h=>by
  have hx:=h x mem_cons_self
  obtain ⟨n1,n2⟩:=List.nodup_cons.mp nd;have ih:=Im (ks:=ks) (L:=L.erase x) n2 fun y hy=>(List.mem_erase_of_ne (fun z:y=x=>n1 (by rw [<-z];exact hy))).mpr (h y (L5 _ hy))
  have hl:=List.length_erase_of_mem hx
  have:0<L.length:=length_pos_of_mem hx
  rw [length_cons];omega
theorem Ja (nd:ks.Nodup) (h:∀x∈ks,0<=x/\x<(n:Int)):ks.length<=n:=by
 have:=Im (L:=(List.range n).map fun i:Nat=>(i:Int)) nd fun x hx=>by
  obtain ⟨a,b⟩:=h x hx;exact List.mem_map.mpr ⟨x.toNat,List.mem_range.mpr (by omega),by omega⟩
 simpa using this
section
variable {n:Nat} {sc:Int->Option (List Int)}
inductive Rc (sc:Int->Option (List Int)) (r:Int):Int->Prop where
 | refl:Rc sc r r
 | step {x t:Int} {ts:List Int}:Rc sc r x->sc x=some ts->t∈ts->Rc sc r t
noncomputable def LP (sc:Int->Option (List Int)) (ks:List Int):Prop:=∀x∈ks,∀ts,sc x=some ts->∀t∈ts,t∈ks
theorem IK:∀(ts ks ws:List Int),ks.Nodup->ks.length+ts.length<1000->ws.length+ts.length<1000->∃ks' ws',et ts (ks,ws)=some (ks',ws')/\ks'.Nodup/\(∀x∈ks,x∈ks')/\(∀t∈ts,t∈ks')/\(∀x∈ks',x∈ks\/x∈ts)/\(∀x∈ks',x∈ks\/x∈ws')/\(∀x∈ws,x∈ws')/\(∀x∈ws',x∈ws\/x∈ks')/\ws'.length+ks.length=ws.length+ks'.length
 | [],ks,ws,nd,_,_=>⟨ks,ws,rfl,nd,fun _ h=>h,fun _ h=>(nomatch h),fun _ h=>.inl h,fun _ h=>.inl h,fun _ h=>h,fun _ h=>.inl h,rfl⟩
 | t::ts,ks,ws,nd,h1,h2=>by
  rw [length_cons] at h1 h2
  cases hc:ks.contains t with
  | true=>
   have e:stp t (ks,ws)=some (ks,ws):=by unfold stp;rw [if_pos hc]
   obtain ⟨ks',ws',a0,a1,a2,a3,a4,a5,a6,a7,a8⟩:=IK ts ks ws nd (by omega) (by omega)
   refine ⟨ks',ws',by rw [et,e];exact a0,a1,a2,fun x hx=>?_,fun x hx=>(a4 x hx).elim .inl fun z=>.inr (L5 _ z),a5,a6,a7,a8⟩
   rcases LZ hx with z | z
   ·rw [z];exact a2 t (by simpa using hc)
   ·exact a3 x z
  | false=>
   have hnt:t∉ks:=by simpa using hc
   have e:stp t (ks,ws)=some (ks++[t],ws++[t]):=by unfold stp;rw [if_neg (by rw [hc];exact Bool.false_ne_true),if_pos ⟨by show ks.length<1000;omega,by show ws.length<1000;omega⟩]
   have nd':(ks++[t]).Nodup:=List.nodup_append.mpr ⟨nd,by simp,fun a ha b hb z=>hnt (by rw [List.mem_singleton.mp hb] at z;rw [<-z];exact ha)⟩
   obtain ⟨ks',ws',a0,a1,a2,a3,a4,a5,a6,a7,a8⟩:=IK ts (ks++[t]) (ws++[t]) nd' (by simp;omega) (by simp;omega)
   refine ⟨ks',ws',by rw [et,e];exact a0,a1,fun x hx=>a2 x (LU _ hx),fun x hx=>?_,fun x hx=>?_,fun x hx=>?_,fun x hx=>a6 x (LU _ hx),fun x hx=>?_,by simp at a8;omega⟩
   ·rcases LZ hx with z | z
    ·rw [z];exact a2 t (LR _ (List.mem_singleton.mpr rfl))
    ·exact a3 x z
   ·rcases a4 x hx with z | z
    ·rcases LX z with z | z
     ·exact .inl z
     ·exact .inr (by rw [List.mem_singleton.mp z];exact mem_cons_self)
    ·exact .inr (L5 _ z)
   ·rcases a5 x hx with z | z
    ·rcases LX z with z | z
     ·exact .inl z
     ·exact .inr (a6 x (LR _ z))
    ·exact .inr z
   ·rcases a7 x hx with z | z
    ·rcases LX z with z | z
     ·exact .inl z
     ·exact .inr (a2 x (LR _ z))
    ·exact .inr z
theorem uz (hn:n<=100) (hsc:∀h:Int,0<=h->h<(n:Int)->∃ts,sc h=some ts/\ts.length<=100/\∀t∈ts,0<=t/\t<(n:Int)) {r:Int}:∀(m:Nat) (ks ws:List Int),ks.Nodup->(∀x∈ks,0<=x/\x<(n:Int))->(∀x∈ws,x∈ks)->ws.length<=ks.length ->
  (∀x∈ks,x∈ws\/∀ts,sc x=some ts->∀t∈ts,t∈ks)->(∀x∈ks,Rc sc r x)->ws.length+(n-ks.length)<m->∃res,wR sc m ks ws=some res/\res.Nodup/\(∀x∈res,0<=x/\x<(n:Int))/\(∀x∈ks,x∈res)/\LP sc res/\∀x∈res,Rc sc r x
 | 0,_,_,_,_,_,_,_,_,h=>by omega
 | m+1,ks,ws,nd,hr,hw,hl,hc,hR,h=>by
  rw [wR]
  cases hg:ws.getLast? with
  | none=>
   have:ws=[]:=List.getLast?_eq_none_iff.mp hg
   subst this;exact ⟨ks,rfl,nd,hr,fun _ h=>h,fun x hx ts e t ht=>(hc x hx).elim nofun fun z=>z ts e t ht,hR⟩
  | some a=>
   dsimp only;have ha:a∈ws:=mem_of_getLast? hg
   obtain ⟨ts,e,htl,ht⟩:=hsc a (hr a (hw a ha)).1 (hr a (hw a ha)).2;rw [e];dsimp only;have hkl:=Ja nd hr
   have hwne:ws≠[]:=fun z=>by rw [z] at ha;cases ha
   have hdl:ws.dropLast.length=ws.length-1:=List.length_dropLast
   have hwp:0<ws.length:=length_pos_of_mem ha
   obtain ⟨ks',ws',a0,a1,a2,a3,a4,a5,a6,a7,a8⟩:=IK ts ks ws.dropLast nd (by omega) (by omega)
   rw [a0];dsimp only;have hr':∀x∈ks',0<=x/\x<(n:Int):=fun x hx=>(a4 x hx).elim (hr x) (ht x)
   have hkl':=Ja a1 hr'
   have hsub:ks.length<=ks'.length:=Im nd a2
   have key:∀x∈ks,x∈ws.dropLast\/x=a\/∀ts,sc x=some ts->∀t∈ts,t∈ks:=fun x hx=>by
    rcases hc x hx with z | z
    ·have:ws=ws.dropLast++[a]:=by
      obtain ⟨ys,e⟩:=List.getLast?_eq_some_iff.mp hg
      rw [e];simp
     rw [this] at z;rcases LX z with z | z
     ·exact .inl z
     ·exact .inr (.inl (List.mem_singleton.mp z))
    ·exact .inr (.inr z)
   have g1:∀x∈ks',x∈ws'\/∀ts,sc x=some ts->∀t∈ts,t∈ks':=fun x hx=>by
    rcases a5 x hx with z | z
    ·rcases key x z with y | y | y
     ·exact .inl (a6 x y)
     ·refine .inr fun ts' e' t ht'=>?_
      rw [y,e] at e'
      cases e'
      exact a3 t ht'
     ·exact .inr fun ts' e' t ht'=>a2 t (y ts' e' t ht')
    ·exact .inl z
   have g2:∀x∈ks',Rc sc r x:=fun x hx=>by
    rcases a4 x hx with z | z
    ·exact hR x z
    ·exact .step (hR a (hw a ha)) e z
   obtain ⟨res,b0,b1,b2,b3,b4,b5⟩:=uz hn hsc m ks' ws' a1 hr' (fun x hx=>(a7 x hx).elim (fun z=>a2 x (hw x (List.dropLast_subset _ z))) fun z=>z) (by omega) g1 g2 (by omega)
   exact ⟨res,b0,b1,b2,fun x hx=>b3 x (a2 x hx),b4,b5⟩
end
theorem uZ {P:Program} {w:World} {mg:Str->Option Value} {base:Heap} {f:Addr} {fd:FuncData} {s_reached:Stmt} {j1 j2 k:Nat} (F:Fun K "reached" "reached" s_reached f fd) (hm:mg "reached"=some (.ref f)) (b:Binds K fd ["world", "room"] []) (n_sorted:mg "sorted"=none)
  (c1:DefOk P w K mg base j1 "check_world" 1 aB) (c2:DefOk P w K mg base j2 "check_room" 2 aH) (hj1:decide (j1<=k)=true) (hj2:decide (j2<=k)=true) {vs cs ls lo gs:List Nat} (sc:bK N_reached ["world", "room"] (dM s_reached)) (cp:iO N_reached cK vs cs ls lo gs (dM s_reached)=true) (nm:sA N_reached cK=true)
  (bd:∀X:Cx,Cp X N_reached cK vs cs ls lo gs->Rm X->PassesOwn (model X.prog X.w) X.A X.env X.xe->X.mg "sorted"=none->wW X "check_world" 1 aB->wW X "check_room" 2 aH->PSs X (jv s_reached) (mZ X.K)):DefOk P w K mg base (k+1) "reached" 2 aP:=by
 refine ⟨f,fd,["world", "room"],F.ok sc (fun vs H Q E h=>h.1) (fun cdv A outer s H vs Q E hr h=>⟨_,bd _ (Cp.fn cp nm) hr.units PassesOwn.never n_sorted (c1.cal hr hj1) (c2.cal hr hj2),?_⟩),hm,F.kp,b⟩
 obtain ⟨hl,O,ds,nd,inH,rs,w⟩:=h
 cases e:aP ds with
 | er c=>rw [e] at w;exact w.elim
 | no=>rw [e] at w;exact w.elim
 | ok p=>
  rw [e] at w;obtain ⟨os,ms,ss,r,ks,p1,p2,rfl,e1,e2,e3,h64,rfl⟩:=jT e;exact ud nd inH rs e1 e2 e3 h64 w
inductive mI (w:Wd) (r:Nat):Nat->Prop where
 | refl:mI w r r
 | step {x t:Nat}:mI w r x->t∈w.stp x->mI w r t
theorem t4 {w:Wd} (ok:w.Ok) (h0:0<=h) (h1:h<(w.n:Int)):fH (w.s.map aw) h=some ((w.stp h.toNat).map fun t:Nat=>(t:Int)):=by
 have hl:h.toNat<w.s.length:=by rw [ok.ls];omega
 unfold fH;rw [if_pos ⟨h0,by rw [length_map,ok.ls];exact h1⟩,getElem?_map,L0 hl]
 show sf _=_
 unfold Wd.stp;rw [L1,L0 hl,G4,g5];rfl
theorem fX {w:Wd} (ok:w.Ok) {r:Nat} (hr:r<w.n):∃S,aP [w.enc,rm r]=.ok ⟨.lst .leaf,aw S⟩/\Std w.n S/\r∈S/\(∀x∈S,∀t∈w.stp x,t∈S)/\∀x∈S,mI w r x:=by
 have h24:=ok.h24
 obtain ⟨res,e,nd,rg,hin,cl,rc⟩:=uz (n:=w.n) (sc:=fH (w.s.map aw)) (by omega) (fun h h0 h1=>⟨_,t4 ok h0 h1,by
  rw [length_map];have:=ok.z.len (r:=h.toNat)
  exact Nat.le_trans (Km (tU ok (by omega)) fun x hx=>ok.stp_lt hx) (by omega),fun t ht=>by
  obtain ⟨z,hz,rfl⟩:=List.mem_map.mp ht;have:=ok.stp_lt hz
  omega⟩) (r:=(r:Int)) 1000 [(r:Int)] [(r:Int)] (by simp) (fun x hx=>by rw [List.mem_singleton.mp hx];omega) (fun x hx=>hx) (by simp) (fun x hx=>.inl hx) (fun x hx=>by rw [List.mem_singleton.mp hx];exact .refl) (by simp;omega)
 have hlen:=Ja nd rg
 have hS:PySem.W.sortI res=((List.range w.n).filter fun x:Nat=>res.contains (x:Int)).map fun t:Nat=>(t:Int):=by
  symm
  refine PySem.W.eq_sortI ?_ ?_
  ·refine (List.perm_ext_iff_of_nodup (List.pairwise_map.mpr (List.Pairwise.imp (R:=fun a b:Nat=>a≠b) (fun h z=>h (Int.ofNat_inj.mp z)) ((nodup_range).sublist filter_sublist))) nd).mpr fun x=>?_
   rw [mem_map];constructor
   ·rintro ⟨t,ht,rfl⟩
    exact List.contains_iff_mem.mp (List.mem_filter.mp ht).2
   ·intro hx
    obtain ⟨a,b⟩:=rg x hx;have ex:((x.toNat:Nat):Int)=x:=by omega
    exact ⟨x.toNat,List.mem_filter.mpr ⟨List.mem_range.mpr (by omega),List.contains_iff_mem.mpr (by rw [ex];exact hx)⟩,ex⟩
  ·rw [pairwise_map]
   exact (List.pairwise_lt_range.filter _).imp fun h=>by omega
 have mem:∀{x:Nat},x∈(List.range w.n).filter (fun x:Nat=>res.contains (x:Int))↔(x:Int)∈res:=fun {x}=>by
  rw [mem_filter,mem_range,contains_iff_mem];exact ⟨fun h=>h.2,fun h=>⟨by have:=rg _ h;omega,h⟩⟩
 refine ⟨(List.range w.n).filter fun x:Nat=>res.contains (x:Int),?_,Std.of _,mem.mpr (hin _ (by simp)),fun x hx t ht=>?_,fun x hx=>?_⟩
 ·have c1:aB [.tuple [.list w.os,.list (w.m.map bw),.list (w.s.map aw)]]=.ok ⟨.leaf,.none⟩:=ok.check
  have c2:aH [.tuple [.list w.os,.list (w.m.map bw),.list (w.s.map aw)],.int (r:Int)]=.ok ⟨.leaf,.none⟩:=den_check_room ok hr
  show aP [.tuple [.list w.os,.list (w.m.map bw),.list (w.s.map aw)],.int (r:Int)]=_
  unfold aP;simp only [c1,c2,e,B4]
  rw [if_pos (by omega),hS,map_map]
  rfl
 ·have hx:=mem.mp hx
  have:=rg _ hx
  refine mem.mpr (cl _ hx _ (t4 ok this.1 this.2) _ ?_)
  rw [Int.toNat_natCast];exact List.mem_map.mpr ⟨t,ht,rfl⟩
 ·have go:∀y,Rc (fH (w.s.map aw)) (r:Int) y->0<=y/\y<(w.n:Int)/\mI w r y.toNat:=fun y h=>by
   induction h with
   | refl=>exact ⟨by omega,by omega,by rw [Int.toNat_natCast];exact .refl⟩
   | step _ e ht ih=>
    rw [t4 ok ih.1 ih.2.1] at e
    cases e;obtain ⟨z,hz,rfl⟩:=List.mem_map.mp ht;have:=ok.stp_lt hz
    exact ⟨by omega,by omega,by rw [Int.toNat_natCast];exact .step ih.2.2 hz⟩
  have:=(go _ (rc _ (mem.mp hx))).2.2
  rwa [Int.toNat_natCast] at this
end KC
namespace KC
open PySem PySem.Spec L2 T
open PyProof.Rows hiding St
variable {z x n y:Nat} {S G l:List Nat} {Γ:Ev}
noncomputable def s_reached:Stmt:=JS 25
theorem m4:bK N_reached ["world", "room"] (dM s_reached):=⟨rfl,rfl,rfl,by decide +kernel,rfl,by decide +kernel,by decide +kernel⟩
theorem nY:iO N_reached cK [0,1,2,3,4,5] [] [0,1,2,3,4,5] [0,1,2,3,4,5] [0,1,2] (dM s_reached)=true:=by kernel_rfl
theorem ny:sA N_reached cK=true:=by kernel_rfl
theorem oo {X:Cx} (S:Cp X N_reached cK [0,1,2,3,4,5] [] [0,1,2,3,4,5] [0,1,2,3,4,5] [0,1,2]) (R:Rm X) (hp:PassesOwn (model X.prog X.w) X.A X.env X.xe) (n_sorted:X.mg "sorted"=none) (c1:wW X "check_world" 1 aB) (c2:wW X "check_room" 2 aH) :
  PSs X (jv s_reached) (mZ X.K):=by
 have hN:X.N.Nodup:=by rw [S.hN];exact S.nd
 have v:∀(i:Nat) (x:Str) (pos:Pos),N_reached[i]?=some x->PE X (.Name x pos) (aS i):=fun i x pos e=>by
  have hi:[0,1,2,3,4,5].contains i=true:=by
   have:=(L7 e).1
   have h6:i<6:=this
   match i,h6 with
   | 0,_=>rfl
   | 1,_=>rfl
   | 2,_=>rfl
   | 3,_=>rfl
   | 4,_=>rfl
   | 5,_=>rfl
  have m:=S.nm x (mem_of_getElem? e)
  exact km (by rw [S.hN];exact e) (S.vis i x e hi) m.1 m.2
 have hu:X.A.units+1<cLine:=Nat.lt_of_le_of_lt (by omega) R
 have g:∀(i:Nat) (x:Str),N_reached[i]?=some x->X.N[i]?=some x:=fun i x e=>by rw [S.hN];exact e
 have lc:∀(i:Nat) (x:Str),N_reached[i]?=some x->[0,1,2,3,4,5].contains i=true->Loc X.env.scope x/\(X.fn x=true\/X.env.scope.names.lookup x=some .local):=fun i x e hi=>S.loc i x e hi
 refine ox (ds_drop (cc S 0 rfl rfl c1 (da_cons (cv S 0 rfl rfl) da_nil (cF rfl)) (cF rfl) rfl) rfl) ?_
 refine ox (ds_drop (cc S 1 rfl rfl c2 (da_cons (cv S 0 rfl rfl) (da_cons (cv S 1 rfl rfl) da_nil (cF rfl)) (cF rfl)) (cF rfl) rfl) rfl) ?_
 refine ox (Aw hN (g 2 _ rfl) (lc 2 _ rfl rfl).1 (xY (uH (v 1 _ _ rfl) lh xT) rfl rfl (by simp) (by decide)) rfl (lc 2 _ rfl rfl).2) ?_
 refine ox (Aw hN (g 3 _ rfl) (lc 3 _ rfl rfl).1 (Il (gM (v 1 _ _ rfl) mP (cF rfl))) rfl (lc 3 _ rfl rfl).2) ?_
 refine ox (kZ hp (IX (v 3 _ _ rfl) (fun _=>rfl)) ?_) ?_
 ·refine ox (Aw hN (g 4 _ rfl) (lc 4 _ rfl rfl).1 (BZ PySem.F.plainAttrs_list PySem.F.slot_list_pop PySem.F.type_list_pop Ci (v 3 _ _ rfl) rfl rfl) rfl (lc 4 _ rfl rfl).2) ?_
  refine wK (Io hp S.calm (GX (lg D9 (lg D9 (v 0 _ _ rfl) uQ (fun _ _=>rfl)) (v 4 _ _ rfl) (fun _ _=>rfl))) (sN hN (g 5 _ rfl) (lc 5 _ rfl rfl).1 (lc 5 _ rfl rfl).2) ?_ (fun _=>rfl))
  refine wK (uG (uD (qy hu (v 5 _ _ rfl) (v 2 _ _ rfl)) (by with_unfolding_all rfl)) ?_ GY)
  refine ox (o9 hu (v 2 _ _ rfl) (v 5 _ _ rfl) lh rfl) ?_
  exact wK (El (fT PySem.F.plainAttrs_list PySem.F.slot_list_append PySem.F.type_list_append Hm (v 3 _ _ rfl) (gM (v 5 _ _ rfl) mP (cF rfl)) rfl rfl rfl (cF rfl) rfl) rfl)
 ·exact wK (Ec (AG (oj S.calm) (S.g (j:=2) rfl rfl).1 n_sorted mF (gM (v 2 _ _ rfl) mP (cF rfl)) (S.g (j:=2) rfl rfl).2.2 (S.g (j:=2) rfl rfl).2.1 (cF rfl) rfl))
theorem nq {P:Program} {w:World} {K:Fg} {mg:Str->Option Value} {base:Heap} {f:Addr} {fd:FuncData} {j1 j2 k:Nat} (F:Fun K "reached" "reached" s_reached f fd) (hm:mg "reached"=some (.ref f)) (b:Binds K fd ["world", "room"] []) (n_sorted:mg "sorted"=none)
  (c1:DefOk P w K mg base j1 "check_world" 1 aB) (c2:DefOk P w K mg base j2 "check_room" 2 aH) (hj1:decide (j1<=k)=true) (hj2:decide (j2<=k)=true):DefOk P w K mg base (k+1) "reached" 2 aP:=
 uZ F hm b n_sorted c1 c2 hj1 hj2 m4 nY ny fun X S R hp n c1 c2=>oo S R hp n c1 c2
noncomputable def Dm:FS:=(av (bG (aj 1 aB (ae (aa 0) af)))
  (av (bG (aj 2 cw (ae (aa 0) (ae (aa 1) af))))
  (av (ay false 2 (aj 2 bU (ae (aa 0) (ae (aa 1) af))))
  (av (cg (fF (bT (aF bt (aa 1))) (aF ao (aA (bB false) (aV .leaf af) (ag (aa 2) (eK (.int 2)))))) xr aN)
  (aL (aa 2))))))
noncomputable def jU:List Mc->bz:=aC 3 Dm
noncomputable def rN:FS:=(av (ay false 3 (aj 3 cM (ae (aa 0) (ae (Df (ae (bh aM (ae (ag (aa 0) (eK (.int 0))) af)) af)) (ae (aa 2) af)))))
  (av (ay true 4 (aV .leaf (ae (aa 1) af)))
  (av (sL 100 (aF ao (aA eO (ag (aa 3) (bY 4 (eU cG (eK (.int 1))))) (eK (.int 0))))
  (fA 4 (ag (aj 3 bP (ae (aa 0) (ae (aa 3) (ae (bY 4 (eU cG (eK (.int 1)))) af)))) (eK (.int 0)))))
  (aL (cD 4)))))
noncomputable def bx:List Mc->bz:=aC 5 rN
noncomputable def hZ:FS:=(aL (eA (aq .leaf 2 (ax (aj 2 aP (ae (aa 0) (ae (aa 1) af)))) aG (aj 2 aP (ae (aa 0) (ae (aa 2) af))))))
noncomputable def bV:List Mc->bz:=aC 3 hZ
noncomputable def gF:FS:=(av (ay true 3 (aV .leaf (ae (aa 2) af)))
  (av (cR 4 (ax (aa 1))
  (iB 3 (eR (fun k=>(some k,none)) (aj 3 bx (ae (aa 0) (ae (bY 3 (eU cG (eK (.int 1)))) (ae (aj 2 dg (ae (aa 0) (ae (aa 4) af))) af)))) (eK (.int 1)))))
  (aL (dJ (aa 3) (eR (fun k=>(none,some k)) (aj 3 bx (ae (aa 0) (ae (ag (ag (ag (aa 0) (eK (.int 2))) (bY 3 (eU cG (eK (.int 1))))) (eK (.int 0))) (ae (aV .leaf (ae (aa 2) af)) af)))) (eU cG (eK (.int 1))))))))
noncomputable def bQ:List Mc->bz:=aC 5 gF
noncomputable def nW:FS:=(av (bG (aj 3 bW (ae (aa 0) (ae (aa 1) (ae (aa 2) af)))))
  (av (bG (aj 2 aH (ae (aa 0) (ae (aa 3) af))))
  (av (ay false 4 (ag (aj 3 bD (ae (aa 0) (ae (aa 1) (ae (aa 2) af)))) (eK (.int 1))))
  (av (cg (aF ao (aA (bB true) (aa 3) (aa 4))) xr aN)
  (av (ay false 5 (aj 2 jU (ae (aa 0) (ae (aa 4) af))))
  (av (ay false 6 (lU 4 (aa 3)))
  (av (ay false 7 (aj 3 bx (ae (aa 5) (ae (aa 6) (ae (aj 2 bV (ae (aa 5) (ae (aa 6) af))) af)))))
  (av (ay false 8 (aj 3 bQ (ae (aa 5) (ae (aa 2) (ae (ag (aa 7) (eU cG (eK (.int 1)))) af)))))
  (aL (bI (ae (aq .leaf 9 (ax (eR (fun k=>(none,some k)) (aa 7) (eU cG (eK (.int 1))))) aG (ag (aa 4) (aa 9))) (ae (aq .leaf 9 (ax (aa 8)) aG (ag (aa 4) (aa 9))) af))))))))))))
noncomputable def nB:List Mc->bz:=aC 10 nW
open PySem.SeqAt
section
variable {w:Wd}
theorem IB {x y:Nat} {q:List Nat} (hy:y∈w.stp x) (hq:mM w (y::q)):∀{p:List Nat},mM w p->p.getLast?=some x->mM w (p++y::q)
 | [],_,h=>by cases h
 | [a],_,h=>by cases h;exact ⟨hy,hq⟩
 | a::b::p,hp,h=>⟨hp.1,IB (p:=b::p) hy hq hp.2 (by rw [List.getLast?_cons_cons] at h;exact h)⟩
theorem pO {q:List Nat} (hq:mM w (z::q)) {p:List Nat} (hp:mM w p) (hz:p.getLast?=some z):mM w (p++q):=by
 cases q with
 | nil=>rw [append_nil];exact hp
 | cons y q=>exact IB hq.1 hq.2 hp hz
theorem Ii {S:List Nat} (cl:∀x∈S,∀t∈w.stp x,t∈S):∀{q:List Nat} {z:Nat},z∈S->mM w (z::q)->∀x∈z::q,x∈S
 | [],z,hz,_,x,hx=>by rw [List.mem_singleton.mp hx];exact hz
 | y::q,z,hz,h,x,hx=>by
  rcases LZ hx with rfl | hx
  ·exact hz
  ·exact Ii cl (cl z hz y h.1) h.2 x hx
theorem Ip (cl:∀x∈S,∀t∈w.stp x,t∈S) {r:Nat} (h:mI w r x) (hr:r∈S):x∈S:=by
 induction h with
 | refl=>exact hr
 | step _ ht ih=>exact cl _ ih _ ht
theorem ur (ok:w.Ok) {rk:List (Option Nat)} (R:RightG w.n w.stp (fun _=>true) (List.range w.n) G rk) {r:Nat} (hr:r<w.n) (h:mI w r x):x<w.n/\(bf rk x≠none->bf rk r≠none):=by
 induction h with
 | refl=>exact ⟨hr,fun h=>h⟩
 | step _ ht ih=>exact ⟨ok.stp_lt ht,fun h=>ih.2 (R.step_ok ih.1 (List.mem_range.mpr ih.1) (led_t.mpr ⟨_,ht,h⟩))⟩
structure WgF (w:Wd) (r:Nat) (l:List Nat):Prop where
 hd:l.head?=some r
 lt:∀x∈l,x<w.n
 ch:mM w l
theorem WgF.snoc (ok:w.Ok) {r t:Nat} (h:WgF w r l) (hz:l.getLast?=some z) (ht:t∈w.stp z):WgF w r (l++[t]):=by
 refine ⟨?_,fun x hx=>?_,mB ht h.ch hz⟩
 ·have:=h.hd
  cases l with
  | nil=>cases this
  | cons a s=>exact this
 ·rcases LX hx with q | q
  ·exact h.lt x q
  ·rw [List.mem_singleton.mp q]
   exact ok.stp_lt ht
theorem yP (ok:w.Ok) (hG:∀r∈G,r<w.n) (hgl:G.length<=1000):∃rk,cM [w.enc,aw (List.range w.n),aw G]=.ok ⟨.lst .leaf,fE rk⟩/\RightG w.n w.stp (fun _=>true) (List.range w.n) G rk:=by
 have lo:=ok.g.lo
 have h24:=ok.h24
 obtain ⟨rk,e,Rt,_⟩:=fo ok.z (cl:=w.os.map fun _=>true) (thr:=List.range w.n) (goal:=G) (by rw [length_map];exact lo) (fun r hr=>ok.stp_ne (List.mem_range.mp hr)) (fun r hr=>List.mem_range.mp hr) (by rw [length_range];omega) hG hgl
 have Rt:=Rt.congr (ch':=fun _=>true) fun r hr=>by
  unfold gG;rw [L1,getElem?_map,L0 (by omega)]
  rfl
 refine ⟨rk,?_,Rt⟩
 have c1:aq .leaf 3 (ax (ag (aa 0) (eK (.int 0)))) aG (eK (.bool true)) (aR 4 [w.enc,aw (List.range w.n),aw G])=.ok ⟨.lst .leaf,mR (w.os.map fun _=>true)⟩ (aR 4 [w.enc,aw (List.range w.n),aw G]):=by
  have:=oz (fun d:D=>d) w.os (fun d=>⟨.leaf,.bool true⟩) (s:=.leaf) (i:=3) (fi:=ax (ag (aa 0) (eK (.int 0)))) (fe:=eK (.bool true)) (st:=true) (Γ:=aR 4 [w.enc,aw (List.range w.n),aw G]) (by simp [aR,Wd.enc,de]) (by simp [aR]) rfl (by omega) (fun d hd=>by simp)
  rw [this];simp
 exact aQ (aZ (b7 (az (au rfl) (az c1 (az (au rfl) (az (au rfl) ak)))) e rfl rfl) rfl)
noncomputable abbrev Ie (w:Wd) (r:Nat) (G:List Nat) (rk:List (Option Nat)) (l:List Nat):Ev:=[Md w.enc,Md (rm r),Md (aw G),Md (fE rk),some ⟨.lst .leaf,aw l⟩]
noncomputable def Cr (rk:List (Option Nat)) (l:List Nat):Nat:=((l.getLast?).bind (bf rk)).getD 0
structure KE (w:Wd) (r:Nat) (rk:List (Option Nat)) (l:List Nat):Prop where
 wg:WgF w r l
 z:∃z k,l.getLast?=some z/\bf rk z=some k
 pw:l.Pairwise fun a b=>∃i j,bf rk a=some i/\bf rk b=some j/\j<i
theorem va (h:1<=n):dI n (-1)=some (n-1):=by
 unfold dI;rw [if_neg (by omega)]
 split
 ·congr 1
  omega
 ·omega
theorem pF (h:l.getLast?=some z):(l.map rm)[l.length-1]?=some (rm z):=by
 rw [getElem?_map,<-List.getLast?_eq_getElem?,h];rfl
theorem GU {i:Nat} (h:Γ[i]?=some (some ⟨.lst .leaf,aw l⟩)) (hz:l.getLast?=some z):bY i (eU cG (eK (.int 1))) Γ=.ok ⟨.leaf,rm z⟩ Γ:=by
 have hp:1<=l.length:=by
  cases l with
  | nil=>cases hz
  | cons a r=>simp
 exact AZ (j:=l.length-1) (ds:=l.map rm) h (HF bg rfl) (by rw [length_map];exact va hp) (pF hz)
theorem Jg (ok:w.Ok) (hG:∀r∈G,r<w.n) (hgl:G.length<=1000) {r:Nat} (hr:r<w.n) (hy:mI w r y) (hyG:y∈G):∃P z,bx [w.enc,rm r,aw G]=.ok ⟨.lst .leaf,aw P⟩/\WgF w r P/\P.getLast?=some z/\z∈G/\P.length<=w.n:=by
 have h24:=ok.h24
 obtain ⟨rk,e0,Rt⟩:=yP ok hG hgl;have rl:=Rt.len
 have hy2:=ur ok Rt hr hy
 have hrk:bf rk r≠none:=hy2.2 (Rt.goal_ok hy2.1 hyG)
 have atk:∀{x},x<w.n->(rk.map oD)[x]?=some (oD (bf rk x)):=fun {x} hx=>by
  rw [getElem?_map,L0 (by omega),bf,L1,L0 (by omega)]
  rfl
 have lenOk:∀l,KE w r rk l->l.length<=w.n:=fun l I=>Km (I.pw.imp fun {a b} ⟨i,j,h1,h2,h3⟩ z=>by subst z;rw [h1] at h2;cases h2;omega) I.wg.lt
 obtain ⟨k0,hk0⟩:=Option.ne_none_iff_exists'.mp hrk
 have i0:KE w r rk [r]:=⟨⟨rfl,fun x hx=>by rw [List.mem_singleton.mp hx];exact hr,trivial⟩,⟨r,k0,rfl,hk0⟩,by simp⟩
 obtain ⟨P,ew,I,hf⟩:=Ex (c:=aF ao (aA eO (ag (aa 3) (bY 4 (eU cG (eK (.int 1))))) (eK (.int 0)))) (g:=fA 4 (ag (aj 3 bP (ae (aa 0) (ae (aa 3) (ae (bY 4 (eU cG (eK (.int 1)))) af)))) (eK (.int 0)))) (G:=Ie w r G rk) (test:=fun l=>decide ((0:Int)<(Cr rk l:Int))) (Inv:=KE w r rk) (meas:=fun l=>w.n+1-l.length)
  (fun l I=>by
   obtain ⟨z,k,hz,hk⟩:=I.z;have hzn:=I.wg.lt z (mem_of_getLast? hz)
   have el:Cr rk l=k:=by unfold Cr;rw [hz];show (bf rk z).getD 0=k;rw [hk];rfl
   rw [el];have a:=atk hzn
   rw [hk] at a;exact cZ (s:=.leaf) (aE (g:=eO) (sI (j:=z) (au rfl) (GU rfl hz) (As (by rw [length_map];omega)) a rfl) bg rfl))
  (fun l I ht=>by
   obtain ⟨z,k,hz,hk⟩:=I.z;have hzn:=I.wg.lt z (mem_of_getLast? hz)
   have el:Cr rk l=k:=by unfold Cr;rw [hz];show (bf rk z).getD 0=k;rw [hk];rfl
   have hk1:0<k:=by
    have:=of_decide_eq_true ht
    rw [el] at this;omega
   have hzG:z∉G:=fun h=>by rw [Rt.g z hzn h] at hk;cases hk;omega
   obtain ⟨_,_,hl⟩:=Rt.p z k hzn hzG hk;obtain ⟨t,htz,j,hj,hjk⟩:=led_t.mp hl;have htl:t∈nE w rk z:=List.mem_filter.mpr ⟨htz,by rw [hj,hk];exact decide_eq_true hjk⟩
   obtain ⟨a,tl,ea⟩:∃a tl,nE w rk z=a::tl:=by
    cases h:nE w rk z with
    | nil=>rw [h] at htl;cases htl
    | cons a tl=>exact ⟨a,tl,rfl⟩
   have ha:a∈nE w rk z:=by rw [ea];exact mem_cons_self
   obtain ⟨ha1,ha2⟩:=List.mem_filter.mp ha;obtain ⟨j2,hj2,hjk2⟩:∃j2,bf rk a=some j2/\j2<k:=by
    rw [hk] at ha2
    cases h:bf rk a with
    | none=>rw [h] at ha2;cases ha2
    | some j2=>rw [h] at ha2;exact ⟨j2,rfl,of_decide_eq_true ha2⟩
   have hlen:=lenOk l I
   have dl:=gC ok rl hzn
   refine ⟨l++[a],?_,⟨I.wg.snoc ok hz ha1,⟨a,j2,by simp,hj2⟩,?_⟩,by rw [length_append,length_singleton];omega⟩
   ·have:=wm (i:=4) (ds:=l.map rm) (Γ:=Ie w r G rk l) (p:=⟨.leaf,rm a⟩) (fa:=ag (aj 3 bP (ae (aa 0) (ae (aa 3) (ae (bY 4 (eU cG (eK (.int 1)))) af)))) (eK (.int 0))) rfl (sI (j:=0) (ds:=(nE w rk z).map rm) (b7 (az (au rfl) (az (au rfl) (az (GU rfl hz) ak))) dl rfl rfl) bg (As (by rw [ea];simp)) (by rw [ea];rfl) rfl) rfl (by rw [length_map];omega)
    rw [this];simp [aw]
   ·rw [List.pairwise_append]
    refine ⟨I.pw,by simp,fun x hx b hb=>?_⟩
    rw [List.mem_singleton.mp hb];by_cases hxz:x=z
    ·exact ⟨k,j2,by rw [hxz];exact hk,hj2,hjk2⟩
    ·obtain ⟨init,rfl⟩:∃init,l=init++[z]:=List.getLast?_eq_some_iff.mp hz
     have hxi:x∈init:=by
      rcases LX hx with q | q
      ·exact q
      ·exact absurd (List.mem_singleton.mp q) hxz
     obtain ⟨i,j',e1,e2,e3⟩:=(List.pairwise_append.mp I.pw).2.2 x hxi z (by simp)
     rw [hk] at e2
     cases e2;exact ⟨i,j2,e1,hj2,by omega⟩) 100 [r] i0 (by show w.n+1-1<100;omega)
 obtain ⟨z,k,hz,hk⟩:=I.z;have hzn:=I.wg.lt z (mem_of_getLast? hz)
 have el:Cr rk P=k:=by unfold Cr;rw [hz];show (bf rk z).getD 0=k;rw [hk];rfl
 have hk0:k=0:=by
  have:=of_decide_eq_false hf
  rw [el] at this;omega
 have hzG:z∈G:=Classical.byContradiction fun h=>by
  have:=(Rt.p z k hzn h hk).1
  omega
 refine ⟨P,z,?_,I.wg,hz,hzG,lenOk P I⟩
 refine aQ (ar (cY (b7 (az (au rfl) (az (GC (n:=w.n) (s:=.leaf) (by omega) (az (G7 ok rfl) ak)) (az (au rfl) ak))) e0 rfl rfl) rfl (by simp [aR])) (ar (Γ1:=Ie w r G rk [r]) (sg (mU (s:=.leaf) (az (au rfl) ak) rfl rfl rfl) rfl (by simp [aR])) (ar (Γ1:=Ie w r G rk P) ?_ (aZ (zt (p:=⟨.lst .leaf,aw P⟩) rfl) rfl))))
 unfold sL;exact ew
end
theorem yj {ks:List Nat} (h:0<ks.length):∃i,nz ks=some i/\i<ks.length/\∀b∈ks,ks.getD i 0<=b:=by
 cases e:nz ks with
 | some i=>
  have h1:=List.mem_range.mp (List.mem_of_find?_eq_some e)
  have h2:=List.find?_some e
  exact ⟨i,rfl,h1,fun b hb=>of_decide_eq_true (List.all_eq_true.mp h2 b hb)⟩
 | none=>
  exfalso
  have no:∀i,i<ks.length->∃b∈ks,b<ks.getD i 0:=fun i hi=>by
   have:=List.find?_eq_none.mp e i (List.mem_range.mpr hi)
   have:=mt List.all_eq_true.mpr this
   obtain ⟨b,hb⟩:=Classical.not_forall.mp this;obtain ⟨hb1,hb2⟩:=Classical.not_imp.mp hb;refine ⟨b,hb1,?_⟩
   have:¬ks.getD i 0<=b:=fun z=>hb2 (decide_eq_true z)
   omega
  have go:∀v i,i<ks.length->ks.getD i 0=v->False:=fun v=>by
   induction v using Nat.strongRecOn with
   | _ v ih=>
    intro i hi hv;obtain ⟨b,hb,hlt⟩:=no i hi;obtain ⟨j,hj,ej⟩:=getElem_of_mem hb;refine ih b (by omega) j hj ?_
    rw [L1,L0 hj,ej];rfl
  exact go _ 0 h rfl
section
variable {w:Wd}
structure Ls (w:Wd) (S:List Nat):Prop where
 std:Std w.n S
 ne:S≠[]
 cl:∀x∈S,∀t∈w.stp x,t∈S
 bk:∀x∈S,∀y∈S,mI w x y
theorem Bg (h:Std n S):S.Nodup:=by
 obtain ⟨q,rfl⟩:=h;exact (nodup_range).sublist filter_sublist
theorem nT (ok:w.Ok) {s:Nat} (hs:s<w.n):∃S,bV [w.enc,rm s]=.ok ⟨.leaf,aw S⟩/\Ls w S/\∃x∈S,mI w s x:=by
 have h24:=ok.h24
 obtain ⟨S0,e0,s0,i0,c0,r0⟩:=fX ok hs;have ex:∀t,∃S,t<w.n->aP [w.enc,rm t]=.ok ⟨.lst .leaf,aw S⟩/\Std w.n S/\t∈S/\(∀x∈S,∀u∈w.stp x,u∈S)/\∀x∈S,mI w t x:=fun t=>by
  by_cases ht:t<w.n
  ·obtain ⟨S,h⟩:=fX ok ht
   exact ⟨S,fun _=>h⟩
  ·exact ⟨[],fun z=>absurd z ht⟩
 let rs:Nat->List Nat:=fun t=>(ex t).choose
 have hrs:∀t,t<w.n->aP [w.enc,rm t]=.ok ⟨.lst .leaf,aw (rs t)⟩/\Std w.n (rs t)/\t∈rs t/\(∀x∈rs t,∀u∈w.stp x,u∈rs t)/\∀x∈rs t,mI w t x:=fun t=>(ex t).choose_spec
 have lt0:∀x∈S0,x<w.n:=s0.lt
 have cm:aq .leaf 2 (ax (aj 2 aP (ae (aa 0) (ae (aa 1) af)))) aG (aj 2 aP (ae (aa 0) (ae (aa 2) af))) (aR 3 [w.enc,rm s])=.ok ⟨.lst .leaf,.list (S0.map fun t=>aw (rs t))⟩ (aR 3 [w.enc,rm s]):=
  oz rm S0 (fun t=>⟨.lst .leaf,aw (rs t)⟩) (st:=true) (br (s:=.lst .leaf) (b7 (az (au rfl) (az (au rfl) ak)) e0 rfl rfl) rfl) (by simp [aR]) rfl (by have:=s0.len;omega) fun t ht=>⟨b7 (az (au rfl) (az (au rfl) ak)) (hrs t (lt0 t ht)).1 rfl rfl,rfl⟩
 have hp:0<S0.length:=length_pos_of_mem i0
 have em:(S0.map fun t=>aw (rs t)).map nF=S0.map fun t=>(rs t).length:=by
  rw [map_map];refine List.map_congr_left fun t _=>?_
  show (List.map rm (rs t)).length=_
  rw [length_map]
 obtain ⟨i,ei,hi,hmin⟩:=yj (ks:=S0.map fun t=>(rs t).length) (by rw [length_map];exact hp)
 rw [length_map] at hi;have hall:(S0.map fun t=>aw (rs t)).all CF=true:=List.all_eq_true.mpr fun d hd=>by
  obtain ⟨t,_,rfl⟩:=List.mem_map.mp hd;rfl
 have eM:eA (aq .leaf 2 (ax (aj 2 aP (ae (aa 0) (ae (aa 1) af)))) aG (aj 2 aP (ae (aa 0) (ae (aa 2) af)))) (aR 3 [w.enc,rm s])=.ok ⟨.leaf,aw (rs S0[i])⟩ (aR 3 [w.enc,rm s]):=by
  unfold eA;rw [cm];simp only [Sh.isView,Bool.not_false,Bool.true_and,hall,if_true,em,ei]
  rw [L1,getElem?_map,L0 hi];rfl
 have hm0:S0[i]∈S0:=getElem_mem hi
 obtain ⟨_,q1,q2,q3,q4⟩:=hrs S0[i] (lt0 _ hm0)
 refine ⟨rs S0[i],aQ (aZ eM rfl),⟨q1,(fun z=>by rw [z] at q2;cases q2),q3,fun x hx y hy=>?_⟩,S0[i],q2,r0 _ hm0⟩
 have hx0:x∈S0:=Ip c0 (q4 x hx) hm0
 obtain ⟨_,p1,p2,p3,p4⟩:=hrs x (lt0 x hx0);refine p4 y (Classical.byContradiction fun hn=>?_)
 have l1:(y::rs x).length<=(rs S0[i]).length:=Kn (List.nodup_cons.mpr ⟨hn,Bg p1⟩) fun u hu=>by
  rcases LZ hu with rfl | hu
  ·exact hy
  ·exact Ip q3 (p4 u hu) hx
 have l2:=hmin (rs x).length (List.mem_map.mpr ⟨x,hx0,rfl⟩)
 rw [L1,getElem?_map,L0 hi] at l2;have l2:(rs S0[i]).length<=(rs x).length:=l2
 rw [length_cons] at l1;omega
theorem ye {R:List Nat}:dj ⟨.view,.list (R.map rm)⟩ (R.map rm)=true:=by
 unfold dj;simp [Sh.isView,ba]
noncomputable abbrev sE (w:Wd) (M:List Str) (p:Nat) (R:List Nat) (x4:Option PV):Ev:=[Md w.enc,Md (bw M),Md (rm p),some ⟨.lst .leaf,aw R⟩,x4]
structure RgI (w:Wd) (S:List Nat) (p:Nat) (R:List Nat):Prop where
 wg:WgF w p R
 inS:∀x∈R,x∈S
theorem RgI.last {p:Nat} {R:List Nat} (h:RgI w S p R):∃z,R.getLast?=some z/\z∈S:=by
 cases R with
 | nil=>exact absurd h.wg.hd (by simp)
 | cons a s=>exact ⟨_,List.getLast?_eq_some_getLast (by simp),h.inS _ (List.getLast_mem _)⟩
theorem kq {P:List Nat} (h:WgF w z P):∃q,P=z::q:=by
 have:=h.hd
 cases P with
 | nil=>cases this
 | cons a q=>cases this;exact ⟨q,rfl⟩
end
theorem rC {w:Wd} (ok:w.Ok) (sS:Std w.n S) (ne:S≠[]) (cl:∀x∈S,∃t∈w.stp x,t∈S):∃(h:kd w S),jU [w.enc,aw S]=.ok ⟨.leaf,(df w S).enc⟩/\(df w S).Ok:=by
 have h24:=ok.h24
 obtain ⟨q,hq⟩:=sS;have lt:∀r∈S,r<w.n:=fun r hr=>by rw [hq] at hr;exact List.mem_range.mp (List.mem_filter.mp hr).1
 have ln:S.length<=w.n:=by
  rw [hq];have:=length_filter_le q (List.range w.n)
  rwa [length_range] at this
 have nd:S.Nodup:=by rw [hq];exact (nodup_range).sublist filter_sublist
 have h:kd w S:=⟨ok,nd,lt,by omega,fun r hr=>tU ok hr⟩
 have hp:=List.length_pos_iff.mpr ne
 have okv:(df w S).Ok:=BV h hp (by omega) fun r hr=>by
  exact cl r hr
 refine ⟨h,?_,okv⟩
 have t1:bT (aF bt (aa 1)) [Md w.enc,Md (aw S),Md ((df w S).enc)]=.ok false [Md w.enc,Md (aw S),Md ((df w S).enc)]:=by
  cases S with
  | nil=>exact absurd rfl ne
  | cons a l=>rfl
 have t2:bB false (.list []) (.list ((df w S).s.map aw))=some (.bool false):=by
  have hk:=okv.g.wk (b:=24) okv.h24
  have sr:=IC fun r hr=>let ⟨xs,e,q,_⟩:=hk.s r hr;⟨xs,e,rR q⟩
  have sh:shaped (.list ((df w S).s.map aw))=true:=by
   have:=sr.2
   have e1:PyData.canLay0 (.list ((df w S).s.map aw))=true:=sr.1
   have e2:PyData.depth (.list ((df w S).s.map aw))<=64:=by
    show PyData.depthAll ((df w S).s.map aw)+1<=64
    omega
   unfold shaped;rw [e1,decide_eq_true e2];rfl
  have sn:shaped (.list [])=true:=rfl
  have an:(((df w S).s.map aw).any fun y=>PyData.eqv y (.list []))=false:=by
   rw [List.any_eq_false];intro y hy;obtain ⟨x,hx,rfl⟩:=List.mem_map.mp hy;have:=(okv.st x hx).1
   cases x with
   | nil=>exact absurd rfl this
   | cons a l=>simp [PyData.eqv,PyData.eqvAll]
  show (if shaped (.list [])&&shaped (.list ((df w S).s.map aw)) then some (PyData.bool (((df w S).s.map aw).any fun y=>PyData.eqv y (.list []))) else none)=_
  rw [sn,sh,an];rfl
 exact aQ (ar (zu (b7 (az (au rfl) ak) ok.check rfl rfl)) (ar (zu (b7 (az (au rfl) (az (au rfl) ak)) (dF ok ⟨q,hq⟩) rfl rfl)) (ar (Γ1:=[Md w.enc,Md (aw S),Md ((df w S).enc)]) (cY (b7 (az (au rfl) (az (au rfl) ak)) (nP h) rfl rfl) rfl (by simp [aR])) (ar (bN (t:=false) (ic (a:=false) (b:=false) t1 (cZ (s:=.leaf) (aE (g:=bB false) (mU (s:=.leaf) ak rfl rfl rfl) (iR (j:=2) (au rfl) bg rfl rfl rfl) t2))) nofun fun _=>rfl) (aZ (au rfl) rfl)))))
theorem jk {w:Wd} (ok:w.Ok) {R:List Nat} (hR:Std w.n R) {M:List Str} (hM:∀c∈M,c∈aY) (hr:aT [bw M]=.ok ⟨.leaf,.bool true⟩) :
  ∃rows K,bD [w.enc,aw R,bw M]=.ok ⟨.tup [.lst .leaf,.leaf],.tuple [.list rows,aw K]⟩/\bW [w.enc,aw R,bw M]=.ok ⟨.leaf,.none⟩/\Std w.n K/\Fr w.n w.stp (·∈R) M (pD w) (·∈K)/\∀X,Fr w.n w.stp (·∈R) M (pD w) X->∀r,X r->r∈K:=by
 have h24:=ok.h24
 have hl:=hR.len
 obtain ⟨p,e0,hp,hro⟩:=vH ok hM hR;have i0:FI w R M ⟨[],R,p.d⟩:=⟨hR,fun r h=>h,by simpa using hl,fun X hX=>hX.sub,hro⟩
 obtain ⟨b,e,I,hf⟩:=Ex (c:=aF ao (aA (cS true) (aa 5) (eK .none))) (g:=nI) (G:=DB w R M) (test:=fun b=>!si b.row) (Inv:=FI w R M) (meas:=fun b=>b.L.length) (fun b I=>by simp) (fun b I hb=>yG ok hM I hb) 1000 _ i0 (by show R.length<1000;omega)
 have hend:pT w M b.L:=by
  rcases I.row with ⟨_,h⟩ | ⟨off,o,h,_⟩
  ·exact h
  ·rw [h] at hf;cases hf
 have wh:sL 1000 (aF ao (aA (cS true) (aa 5) (eK .none))) nI (DB w R M ⟨[],R,p.d⟩)=.nx (DB w R M b):=by
  unfold sL;rw [e]
 have rk:bD [w.enc,aw R,bw M]=.ok ⟨.tup [.lst .leaf,.leaf],.tuple [.list b.rows,aw b.L]⟩:=
  aQ (ar (sg (mU (s:=.leaf) ak rfl rfl rfl) rfl (by simp [aR])) (ar (cY (AH (ds:=R.map rm) (au rfl) rfl) rfl (by simp [aR])) (ar (cY (b7 (az (au rfl) (az (au rfl) (az (au rfl) ak))) e0 rfl rfl) hp (by simp [aR])) (ar wh (aZ (kA (az (zt (p:=⟨.lst .leaf,.list b.rows⟩) rfl) (az (au rfl) ak)) rfl rfl) rfl)))))
 have c1:=ok.check
 have c2:=dF ok hR
 have cf:bW [w.enc,aw R,bw M]=.ok ⟨.leaf,.none⟩:=by
  refine lC (Γ:=aR 3 [w.enc,aw R,bw M]) ?_
  simp [fu,aR,c1,c2,hr]
 exact ⟨b.rows,b.L,rk,cf,I.std,⟨I.std.lt,I.sub,hend.c,hend.a⟩,I.big⟩
theorem qT {p:List Nat}:sf (p.map rm)=some (p.map fun t:Nat=>(t:Int)):=by
 have:=g5 (p.map fun t:Nat=>(t:Int))
 rw [map_map] at this;exact this
theorem lM {k:Int}:∀{ns:List Int},k∈ns->∃j,Ac k ns=some j
 | n::r,h=>by
  unfold Ac;by_cases e:n=k
  ·rw [if_pos e];exact ⟨0,rfl⟩
  ·rw [if_neg e]
   rcases LZ h with z | z
   ·exact absurd z.symm e
   ·obtain ⟨j,hj⟩:=lM z
    exact ⟨j+1,by rw [hj];rfl⟩
theorem AY {i:Nat} {fb:F1} {s:Sh} {p:List Nat} {t:Nat} (h:Γ[i]?=some (Md (aw p))) (hb:fb Γ=.ok ⟨s,rm t⟩ Γ) (ht:t∈p):∃j:Nat,lU i fb Γ=.ok ⟨.leaf,rm j⟩ Γ/\j<p.length/\d5 p j=t:=by
 obtain ⟨j,hj⟩:=lM (k:=(t:Int)) (ns:=p.map fun t:Nat=>(t:Int)) (List.mem_map.mpr ⟨t,ht,rfl⟩)
 have h1:=(Ij hj).1
 rw [getElem?_map] at h1;obtain ⟨u,hu,e⟩:=Option.map_eq_some_iff.mp h1;have hlt:=(L7 hu).1
 refine ⟨j,?_,hlt,?_⟩
 ·unfold lU
  rw [h];simp only [lN,if_true]
  rw [hb];simp only [zq,ym,h]
  rw [qT];simp only
  rw [hj]
 ·rw [d5,L1,hu]
  exact Int.ofNat_inj.mp e
theorem uu {v:Wd} {t:Nat} (ht:t∈v.stp x) (h:mI v t y):mI v x y:=by
 induction h with
 | refl=>exact .step .refl ht
 | step _ hu ih=>exact .step ih hu
theorem wb {w:Wd} {K:List Nat}:∀{l:List Nat},(∀x∈l,x<K.length)->mM (df w K) l->mM w (l.map (d5 K))
 | [],_,_=>trivial
 | [a],_,_=>trivial
 | a::b::r,hl,h=>by
  refine ⟨?_,wb (l:=b::r) (fun x hx=>hl x (L5 _ hx)) h.2⟩
  have:=h.1
  rw [uI (hl a mem_cons_self)] at this;exact (mem_plS.mp this).2
end KC
namespace KQ.M.B
open PySem PySem.Spec L2 T
open PyProof.Rows hiding St
open KC
variable {a b n:Nat} {Γ:Ev} {fb:F1} {ds:List D} {x5 x6 x3:Option PV} {A:List (Nat×Nat)} {o:Nat×Nat} {c:Int} {M:List Str} {F:List Nat} {X:Nat->Prop}
noncomputable abbrev JE:List Str:=["NoWay"]
noncomputable def lV:FS:=(av (bG (aj 3 bW (ae (aa 0) (ae (aa 1) (ae (aa 2) af)))))
  (av (bG (aj 2 aH (ae (aa 0) (ae (aa 3) af))))
  (av (ay false 4 (ag (aj 3 bD (ae (aa 0) (ae (aa 1) (ae (aa 2) af)))) (eK (.int 1))))
  (av (cg (aF ao (aA (bB true) (aa 3) (aa 4))) (Iq "NoWay") aN)
  (av (ay false 5 (aj 2 jU (ae (aa 0) (ae (aa 4) af))))
  (av (ay false 6 (lU 4 (aa 3)))
  (av (ay false 7 (aj 3 bx (ae (aa 5) (ae (aa 6) (ae (aj 2 bV (ae (aa 5) (ae (aa 6) af))) af)))))
  (av (ay false 8 (aj 3 bQ (ae (aa 5) (ae (aa 2) (ae (ag (aa 7) (eU cG (eK (.int 1)))) af)))))
  (aL (bI (ae (aq .leaf 9 (ax (eR (fun k=>(none,some k)) (aa 7) (eU cG (eK (.int 1))))) aG (ag (aa 4) (aa 9))) (ae (aq .leaf 9 (ax (aa 8)) aG (ag (aa 4) (aa 9))) af))))))))))))
noncomputable def cb:List Mc->bz:=aC 10 lV
noncomputable def j4:FS:=(aL (fm (iK "int" (aa 0)) (vO (iK "bool" (aa 0)))))
noncomputable def cI:List Mc->bz:=aC 1 j4
noncomputable def j5:FS:=(aL (aq .leaf 2 (lR (ae (aa 1) af)) (aF ao (aA eO (aj 3 aD (ae (aa 0) (ae (aa 2) (ae (eK (.int 3)) af)))) (eK (.int 0)))) (aa 2)))
noncomputable def dw:List Mc->bz:=aC 3 j5
noncomputable def j7:FS:=(av (ay true 2 (aV .leaf af))
  (av (cR 3 (ax (aa 1))
  (iB 2 (aq .leaf 6 (ax (ag (ag (aa 0) (eK (.int 2))) (aa 3))) (aF ao (aA (bB false) (aa 6) (aa 1))) (bI (ae (aa 3) (ae (aa 6) af))))))
  (av (ay false 4 (eK (.bool true)))
  (av (sL 1000 (aF bt (aa 4))
  (av (ay false 4 (eK (.bool false)))
  (cR 5 (ax (AD 2))
  (cR 6 (ax (aa 1))
  (cg (fy (aF ao (aA (bB false) (bI (ae (ag (aa 5) (eK (.int 1))) (ae (aa 6) af))) (aa 2))) (aF ao (aA (bB true) (bI (ae (ag (aa 5) (eK (.int 0))) (ae (aa 6) af))) (aa 2)))) (av (fA 2 (bI (ae (ag (aa 5) (eK (.int 0))) (ae (aa 6) af))))
  (ay false 4 (eK (.bool true)))) aN)))))
  (aL (cD 2))))))
noncomputable def cJ:List Mc->bz:=aC 7 j7
noncomputable def mr:FS:=(av (ay false 3 (aj 2 cJ (ae (aa 0) (ae (aa 1) af))))
  (av (ay true 4 (aV .leaf af))
  (av (cR 5 (ax (aa 1))
  (av (ay false 6 (aq .leaf 8 (ax (aa 1)) (fy (aF ao (aA (bB false) (bI (ae (aa 5) (ae (aa 8) af))) (aa 3))) (aF ao (aA (bB false) (bI (ae (aa 8) (ae (aa 5) af))) (aa 3)))) (aa 8)))
  (av (ay false 7 (aq .leaf 9 (ax (aa 2)) (aF ao (aA eO (bh aM (ae (aq .leaf 8 (ax (aa 6)) (aF ao (aA (bB false) (aa 9) (ag (ag (aa 0) (eK (.int 1))) (aa 8)))) (aa 8)) af)) (eK (.int 0)))) (aa 9)))
  (cg (fy (aF ao (aA eO (bh aM (ae (aa 6) af)) (eK (.int 0)))) (aF ao (aA gz (aa 7) (aa 2)))) (fA 4 (aa 5)) aN))))
  (aL (aq .leaf 8 (ax (aa 1)) (fF (aF ao (aA (bB false) (aa 8) (aa 4))) (aF ao (aA eO (bh aM (ae (aq .leaf 5 (ax (aa 4)) (aF ao (aA (bB false) (bI (ae (aa 8) (ae (aa 5) af))) (aa 3))) (aa 5)) af)) (eK (.int 0))))) (aa 8))))))
noncomputable def dR:List Mc->bz:=aC 10 mr
noncomputable def j8:FS:=(aL (aq .leaf 1 (fh "abc") (aF ao (aA gz (aj 3 aD (ae (aa 0) (ae (bh (dU "abc") (ae (aa 1) af)) (ae (eK (.int 3)) af)))) (eK (.int 1)))) (aa 1)))
noncomputable def dy:List Mc->bz:=aC 2 j8
noncomputable def iN:FS:=(av (cg (fF (bT (aF bt (iK "tuple" (aa 1)))) (fF (aF ao (aA gL (bh aM (ae (aa 1) af)) (eK (.int 2)))) (bT (aF bt (iK "list" (ag (aa 1) (eK (.int 0)))))))) (aL (eK (.bool false))) aN)
  (av (cg (fF (bT (aF bt (iK "list" (ag (aa 1) (eK (.int 1)))))) (aF ao (aA gz (bh aM (ae (ag (aa 1) (eK (.int 1))) af)) (eK (.int 0))))) (aL (eK (.bool false))) aN)
  (av (ay false 2 (dJ (ag (aa 1) (eK (.int 0))) (ag (aa 1) (eK (.int 1)))))
  (av (cg (bT (aF bt (bh (cC false) (ae (aq .leaf 5 (ax (aa 2)) aG (fm (aj 1 cI (ae (aa 5) af)) (se yF gy (eK (.int 0)) (aa 5) (bh aM (ae (ag (aa 0) (eK (.int 0))) af))))) af)))) (aL (eK (.bool false))) aN)
  (av (ay false 3 (dJ (eR (fun k=>(some k,none)) (aa 2) (eK (.int 1))) (aV .leaf (ae (ag (ag (aa 1) (eK (.int 1))) (eK (.int 0))) af))))
  (aL (bh (cC false) (ae (aq .leaf 4 (lR (ae (bh aM (ae (aa 2) af)) af)) aG (aA (bB false) (ag (aa 3) (aa 4)) (ag (ag (aa 0) (eK (.int 2))) (ag (aa 2) (aa 4))))) af))))))))
noncomputable def cx:List Mc->bz:=aC 6 iN
noncomputable def j6:FS:=(av (cg (aF ao (aA gy (aa 1) (bh aM (ae (ag (aa 0) (eK (.int 0))) af)))) (aL (ag (ag (aa 0) (eK (.int 0))) (aa 1))) aN)
  (aL (ag (ag (aa 0) (eK (.int 1))) (aA gw (aA gSub (aa 1) (bh aM (ae (ag (aa 0) (eK (.int 0))) af))) (bh aM (ae (ag (aa 0) (eK (.int 1))) af))))))
noncomputable def bX:List Mc->bz:=aC 2 j6
noncomputable def nX:FS:=(av (ay true 4 (eK .none))
  (av (kR JE 5 (ay true 4 (wY 4 cb (ae (aa 0) (ae (aa 1) (ae (aa 2) (ae (aa 3) af)))))) fun c=>ay false 4 (qX (cV c)))
  (aL (cD 4))))
noncomputable def bR:List Mc->bz:=aC 6 nX
noncomputable def mq:FS:=(av (cg (fF (bT (aF bt (aj 2 cx (ae (aa 0) (ae (aa 3) af))))) (bT (aF bt (bh (cC false) (ae (aq .leaf 6 (ax (dJ (ag (aa 3) (eK (.int 0))) (ag (aa 3) (eK (.int 1))))) aG (aA (bB false) (aa 6) (aa 1))) af))))) (aL (eK (.bool false))) aN)
  (av (ay false 4 (aq .leaf 5 (ax (aa 2)) (aF ao (aA eO (bh aM (ae (aq .leaf 6 (ax (ag (aa 3) (eK (.int 1)))) (aF ao (aA (bB false) (aa 5) (ag (ag (aa 0) (eK (.int 1))) (aa 6)))) (aa 6)) af)) (eK (.int 0)))) (aa 5)))
  (aL (aA gz (aa 4) (aa 2)))))
noncomputable def cA:List Mc->bz:=aC 7 mq
noncomputable def Ga:FS:=(av (ay false 1 (aj 3 dv (ae (aa 0) (ae (eK (.int 0)) (ae (eK (.int 6)) af)))))
  (av (ay false 2 (bh aM (ae (ag (aa 1) (eK (.int 0))) af)))
  (av (ay false 3 (aj 2 dw (ae (aj 2 bc (ae (aa 0) (ae (eK (.int 7)) af))) (ae (aa 2) af))))
  (av (ay false 4 (aj 1 dy (ae (aj 2 bc (ae (aa 0) (ae (eK (.int 8)) af))) af)))
  (av (ay false 5 (aj 3 dR (ae (aa 1) (ae (aa 3) (ae (aa 4) af)))))
  (av (ay false 6 (aV .leaf (ae (aj 1 dQ (ae (aa 1) af)) (ae (mT (aa 3)) (ae (mT (aa 4)) af)))))
  (av (cR 7 (lR (ae (aa 2) af))
  (av (ay true 8 (aj 4 bR (ae (ag (aa 6) (eK (.int 0))) (ae (ag (aa 6) (eK (.int 1))) (ae (ag (aa 6) (eK (.int 2))) (ae (aa 7) af))))))
  (av (cg (aF ao (aA gL (aa 6) (aV .leaf (ae (aa 1) (ae (aa 3) (ae (aa 4) af)))))) (aL (eK (.bool false))) aN)
  (cg (aF ao (aA (bB true) (aa 7) (aa 5))) (cg (aF ao (aA gL (aa 8) (eK (.str "way")))) (aL (eK (.bool false))) aN) (cg (fF (bT (aF bt (aj 4 cA (ae (aa 1) (ae (aa 3) (ae (aa 4) (ae (aa 8) af))))))) (aF ao (aA gL (aj 2 bX (ae (aa 8) (ae (eK (.int 0)) af))) (aa 7)))) (aL (eK (.bool false))) (cg (fF (aF ao (aA g9 (bh aM (ae (ag (aa 8) (eK (.int 0))) af)) (aa 2))) (aF ao (aA eO (bh aM (ae (ag (aa 8) (eK (.int 1))) af)) (aA gv (aa 2) (aA bu (eK (.int 1)) (bh aM (ae (aa 4) af))))))) (aL (eK (.bool false))) (av (ay false 9 (bh dD (ae (aa 8) af)))
  (av (dO 8 0 (eK (.int 0)))
  (av (dO 8 1 (eK (.int 0)))
  (cg (aF ao (aA gL (bh dD (ae (aj 4 bR (ae (ag (aa 6) (eK (.int 0))) (ae (ag (aa 6) (eK (.int 1))) (ae (ag (aa 6) (eK (.int 2))) (ae (aa 7) af))))) af)) (aa 9))) (aL (eK (.bool false))) aN))))))))))
  (aL (eK (.bool true))))))))))
noncomputable def u6:List Mc->bz:=aC 10 Ga
open PySem.SeqAt
noncomputable abbrev pr (x:Nat×Nat):D:=.tuple [rm x.1,rm x.2]
noncomputable abbrev wU (P:List (Nat×Nat)):D:=.list (P.map pr)
theorem Dn {P:List (Nat×Nat)}:PyData.canLayAll0 (P.map pr)=true/\PyData.depthAll (P.map pr)<=1:=by
 induction P with
 | nil=>exact ⟨rfl,by simp [PyData.depthAll]⟩
 | cons a r ih=>
  have:=ih.2
  refine ⟨?_,?_⟩
  ·simp [PyData.canLayAll0,PyData.canLay0,ih.1]
  ·simp [PyData.depthAll,PyData.depth]
   omega
theorem tW {P:List (Nat×Nat)}:shaped (wU P)=true:=by
 have h:=Dn (P:=P)
 have h2:=h.2
 show (PyData.canLay0 (.list (P.map pr))&&decide (PyData.depth (.list (P.map pr))<=64))=true
 rw [PyData.canLay0,PyData.depth,h.1,Bool.true_and,decide_eq_true_eq];omega
theorem zO:shaped (.tuple [rm a,rm b])=true:=by
 simp [shaped,PyData.canLay0,PyData.canLayAll0,PyData.depth,PyData.depthAll]
theorem Dd {x:Nat×Nat}:PyData.eqv (pr x) (.tuple [rm a,rm b])=(x==(a,b)):=by
 obtain ⟨c,d⟩:=x;have ei:∀i j:Nat,PyData.eqv (rm i) (rm j)=(i==j):=fun i j=>by
  rw [PyData.eqv,Bool.eq_iff_iff];simp only [beq_iff_eq]
  omega
 show PyData.eqv (.tuple [rm c,rm d]) (.tuple [rm a,rm b])=_
 rw [PyData.eqv,PyData.eqvAll,PyData.eqvAll,PyData.eqvAll,ei,ei,Bool.and_true];rfl
theorem wo {P:List (Nat×Nat)}:((P.map pr).any fun y=>PyData.eqv y (.tuple [rm a,rm b]))=P.contains (a,b):=by
 rw [List.any_map,Bool.eq_iff_iff];simp only [any_eq_true,Function.comp,Dd,beq_iff_eq,contains_iff_mem]
 exact ⟨fun ⟨x,h,e⟩=>e▸h,fun h=>⟨_,h,rfl⟩⟩
theorem GL {P:List (Nat×Nat)}:bB false (.tuple [rm a,rm b]) (wU P)=some (.bool (P.contains (a,b))):=by
 show (if shaped (.tuple [rm a,rm b])&&shaped (wU P) then some (PyData.bool ((P.map pr).any fun y=>PyData.eqv y (.tuple [rm a,rm b]))) else none)=_
 rw [zO,tW,Bool.and_self,if_pos rfl,wo]
theorem qG {P:List (Nat×Nat)}:bB true (.tuple [rm a,rm b]) (wU P)=some (.bool (!P.contains (a,b))):=by
 show (if shaped (.tuple [rm a,rm b])&&shaped (wU P) then some (PyData.bool (!(P.map pr).any fun y=>PyData.eqv y (.tuple [rm a,rm b]))) else none)=_
 rw [zO,tW,Bool.and_self,if_pos rfl,wo]
theorem mX {fa:F1} (ha:fa Γ=.ok ⟨.leaf,rm a⟩ Γ) (hb:fb Γ=.ok ⟨.leaf,rm b⟩ Γ):bI (ae fa (ae fb af)) Γ=.ok ⟨.tup [.leaf,.leaf],.tuple [rm a,rm b]⟩ Γ:=kA (az ha (az hb ak)) rfl rfl
theorem sV {i:Nat} {f:F1} {s:Sh} {es:List D} (h:Γ[i]?=some (some ⟨.lst .leaf,.list ds⟩)) (hf:f Γ=.ok ⟨s,.list es⟩ Γ) (ho:s.isView=false) (hn:ds.length+es.length<=10000):iB i f Γ=.nx (Γ.set i (some ⟨.lst .leaf,.list (ds++es)⟩)):=by
 have hb:(10000:Nat)<=sizeLine:=by decide
 unfold iB pV;rw [h];simp only [if_true,nj,hf]
 unfold C9 dj;rw [h];have:ds.length+es.length<=sizeLine:=by omega
 simp only [ho,Bool.not_false,Bool.true_or,decide_eq_true this,Bool.and_self,if_true]
noncomputable abbrev fz (w:Wd) (R:List Nat) (P:List (Nat×Nat)) (x3:Option PV) (x4 x5 x6:Option PV):Ev:=[Md w.enc,Md (aw R),some ⟨.lst .leaf,wU P⟩,x3,x4,x5,x6]
structure DW (w:Wd) (R:List Nat) (A P:List (Nat×Nat)):Prop where
 so:∀x∈P,Rc (Eg w.stp R) x.1 x.2
 ed:∀a b,Eg w.stp R a b->(a,b)∈P
 bd:P.length+ms A P<=700
theorem oK {w:Wd} (ok:w.Ok) {r:Nat} (hr:r<w.n):(w.stp r).length<=30:=by
 have:w.stp r∈w.s:=by
  unfold Wd.stp;rw [L1,L0 (by rw [ok.ls];exact hr)]
  exact getElem_mem _
 exact (ok.st _ this).2.1
noncomputable abbrev vL:FS:=iB 2 (aq .leaf 6 (ax (ag (ag (aa 0) (eK (.int 2))) (aa 3))) (aF ao (aA (bB false) (aa 6) (aa 1))) (bI (ae (aa 3) (ae (aa 6) af))))
theorem yK {w:Wd} (ok:w.Ok) {R:List Nat} {P:List (Nat×Nat)} (ha:a<w.n) (hP:P.length<=900) {x4:Option PV}:vL (fz w R P (Md (rm a)) x4 x5 x6)=.nx (fz w R (P++((w.stp a).filter fun t=>R.contains t).map fun t=>(a,t)) (Md (rm a)) x4 x5 x6):=by
 have hl:=oK ok ha
 have e:aq .leaf 6 (ax (ag (ag (aa 0) (eK (.int 2))) (aa 3))) (aF ao (aA (bB false) (aa 6) (aa 1))) (bI (ae (aa 3) (ae (aa 6) af))) (fz w R P (Md (rm a)) x4 x5 x6)=.ok ⟨.lst .leaf,.list (((w.stp a).filter fun t=>R.contains t).map fun t=>pr (a,t))⟩ (fz w R P (Md (rm a)) x4 x5 x6):=
  ko rm (w.stp a) (fun t=>R.contains t) (fun t=>⟨.tup [.leaf,.leaf],pr (a,t)⟩) (st:=true) (br (s:=.leaf) (kH ok rfl (au rfl) ha) rfl) (by simp) rfl (by omega) (fun t ht=>cZ (s:=.leaf) (aE (au rfl) (au (i:=1) rfl) DE)) (fun t ht _=>⟨mX (au rfl) (au rfl),rfl⟩)
 refine (sV (ds:=P.map pr) rfl e rfl ?_).trans ?_
 ·have:=length_filter_le (fun t=>R.contains t) (w.stp a)
  simp only [length_map]
  omega
 ·simp [map_append,map_map,Function.comp_def]
noncomputable abbrev CL:FS:=cg (fy (aF ao (aA (bB false) (bI (ae (ag (aa 5) (eK (.int 1))) (ae (aa 6) af))) (aa 2))) (aF ao (aA (bB true) (bI (ae (ag (aa 5) (eK (.int 0))) (ae (aa 6) af))) (aa 2)))) (av (fA 2 (bI (ae (ag (aa 5) (eK (.int 0))) (ae (aa 6) af))))
  (ay false 4 (eK (.bool true)))) aN
theorem yq {w:Wd} {R:List Nat} {P:List (Nat×Nat)} (I:DW w R A P) (hA:∀a∈R,∀b∈R,(a,b)∈A) (ho:o∈P) {t:Nat} (ht:t∈R) {m:Bool} :
  (CL (fz w R P x3 (Md (.bool m)) (Md (pr o)) (Md (rm t)))=.nx (fz w R P x3 (Md (.bool m)) (Md (pr o)) (Md (rm t)))/\((o.2,t)∈P->(o.1,t)∈P)) \/
  (∃P',CL (fz w R P x3 (Md (.bool m)) (Md (pr o)) (Md (rm t)))=.nx (fz w R P' x3 (Md (.bool true)) (Md (pr o)) (Md (rm t)))/\DW w R A P'/\ms A P'<ms A P/\∀x∈P,x∈P'):=by
 have i0:∀Γ:Ev,Γ[5]?=some (Md (pr o))->ag (aa 5) (eK (.int 0)) Γ=.ok ⟨.leaf,rm o.1⟩ Γ:=fun Γ h=>iR (j:=0) (au h) bg rfl rfl rfl
 have i1:∀Γ:Ev,Γ[5]?=some (Md (pr o))->ag (aa 5) (eK (.int 1)) Γ=.ok ⟨.leaf,rm o.2⟩ Γ:=fun Γ h=>iR (j:=1) (au h) bg rfl rfl rfl
 have tt:=we (Γ:=fz w R P x3 (Md (.bool m)) (Md (pr o)) (Md (rm t))) (cZ (s:=.leaf) (aE (g:=bB false) (mX (i1 _ rfl) (au (i:=6) rfl)) (kB (i:=2) rfl) GL)) (cZ (s:=.leaf) (aE (g:=bB true) (mX (i0 _ rfl) (au (i:=6) rfl)) (kB (i:=2) rfl) qG))
 cases hc:(P.contains (o.2,t)&&!P.contains (o.1,t)) with
 | false=>
  rw [hc] at tt;refine .inl ⟨bN tt nofun fun _=>rfl,fun h=>?_⟩
  have:P.contains (o.2,t)=true:=List.contains_iff_mem.mpr h
  rw [this,Bool.true_and] at hc;simpa using hc
 | true=>
  rw [hc] at tt;simp only [Bool.and_eq_true,Bool.not_eq_true',contains_iff_mem] at hc
  obtain ⟨h1,h2⟩:=hc;have h2:(o.1,t)∉P:=fun z=>by
   rw [List.contains_iff_mem.mpr z] at h2
   cases h2
  have rc:Rc (Eg w.stp R) o.1 t:=(I.so o ho).trans (I.so _ h1)
  have hin:=vN rc
  have lt:=FF (hA _ hin.1 _ hin.2) h2
  have bd:=I.bd
  have ap:=DM (i:=2) (s:=.leaf) (ds:=P.map pr) (fa:=bI (ae (ag (aa 5) (eK (.int 0))) (ae (aa 6) af))) (p:=⟨.tup [.leaf,.leaf],pr (o.1,t)⟩) (Γ:=fz w R P x3 (Md (.bool m)) (Md (pr o)) (Md (rm t))) rfl (mX (i0 _ rfl) (au (i:=6) rfl)) rfl (by simp;omega)
  refine .inr ⟨P++[(o.1,t)],bN tt (fun _=>ar (Γ1:=fz w R (P++[(o.1,t)]) x3 (Md (.bool m)) (Md (pr o)) (Md (rm t))) (ap.trans ?_) (cY bg rfl (by simp))) nofun,⟨fun x hx=>?_,fun a b e=>?_,?_⟩,lt,fun x hx=>by simp [hx]⟩
  ·simp
  ·rcases LX hx with z | z
   ·exact I.so x z
   ·rw [List.mem_singleton.mp z];exact rc
  ·simp [I.ed a b e]
  ·simp only [length_append,length_singleton]
   omega
structure Gx (w:Wd) (R:List Nat) (A L P:List (Nat×Nat)) (m:Bool) (cl:Prop):Prop where
 p:DW w R A P
 sub:∀x∈L,x∈P
 q:(m=false/\P=L/\cl)\/(m=true/\ms A P<ms A L)
theorem CK {w:Wd} {R:List Nat} {L:List (Nat×Nat)} (hA:∀a∈R,∀b∈R,(a,b)∈A) (ho:o∈L) {C:Prop} {P:List (Nat×Nat)} {m:Bool} (I:Gx w R A L P m C) :
  ∃P' m' y6,bH 6 CL (R.map rm) (fz w R P x3 (Md (.bool m)) (Md (pr o)) x6)=.nx (fz w R P' x3 (Md (.bool m')) (Md (pr o)) y6)/\Gx w R A L P' m' (C/\∀t∈R,(o.2,t)∈L->(o.1,t)∈L):=by
 obtain ⟨Γ',e,_,P',m',y6,rfl,I'⟩:=AK rm (i:=6) (body:=CL) (Inv:=fun rest Γ=>(∀t∈rest,t∈R)/\∃P m x6,Γ=fz w R P x3 (Md (.bool m)) (Md (pr o)) x6/\Gx w R A L P m (C/\∀t∈R,t∉rest->(o.2,t)∈L->(o.1,t)∈L))
  (fun t rest Γ ⟨hr,P,m,x6,e,I⟩=>by
   subst e;refine ⟨by simp,?_⟩
   have hr':∀u∈rest,u∈R:=fun u hu=>hr u (by simp [hu])
   rcases yq I.p hA (I.sub o ho) (hr t (by simp)) (x3:=x3) (m:=m) with ⟨e,cl⟩ | ⟨P',e,I',lt,sb⟩
   ·refine ⟨_,e,hr',P,m,_,rfl,I.p,I.sub,?_⟩
    rcases I.q with ⟨h1,h2,h3,h4⟩ | h
    ·refine .inl ⟨h1,h2,h3,fun u hu hn=>?_⟩
     by_cases q:u=t
     ·subst q
      rw [<-h2];exact cl
     ·exact h4 u hu (by simp [q,hn])
    ·exact .inr h
   ·refine ⟨_,e,hr',P',true,_,rfl,I',fun x hx=>sb x (I.sub x hx),.inr ⟨rfl,?_⟩⟩
    rcases I.q with ⟨_,h2,_⟩ | ⟨_,h⟩
    ·rw [<-h2];exact lt
    ·omega) R (fz w R P x3 (Md (.bool m)) (Md (pr o)) x6) ⟨fun t h=>h,P,m,x6,rfl,I.p,I.sub,I.q.imp (fun ⟨a,b,c⟩=>⟨a,b,c,fun t h n=>absurd h n⟩) id⟩
 exact ⟨P',m',y6,e,I'.p,I'.sub,I'.q.imp (fun ⟨a,b,c,d⟩=>⟨a,b,c,fun t h=>d t h (by simp)⟩) id⟩
theorem uV {w:Wd} {R:List Nat} {P:List (Nat×Nat)} (hA:∀a∈R,∀b∈R,(a,b)∈A) (I:DW w R A P) :
  ∃P' m' y5 y6,bH 5 (cR 6 (ax (aa 1)) CL) (P.map pr) (fz w R P x3 (Md (.bool false)) x5 x6)=.nx (fz w R P' x3 (Md (.bool m')) y5 y6)/\Gx w R A P P' m' (∀o∈P,∀t∈R,(o.2,t)∈P->(o.1,t)∈P):=by
 obtain ⟨Γ',e,_,P',m',y5,y6,rfl,I'⟩:=AK pr (i:=5) (body:=cR 6 (ax (aa 1)) CL) (Inv:=fun rest Γ=>(∀o∈rest,o∈P)/\∃P' m x5 x6,Γ=fz w R P' x3 (Md (.bool m)) x5 x6/\Gx w R A P P' m (∀o∈P,o∉rest->∀t∈R,(o.2,t)∈P->(o.1,t)∈P))
  (fun o rest Γ ⟨hr,P',m,x5,x6,e,I⟩=>by
   subst e;refine ⟨by simp,?_⟩
   obtain ⟨P2,m2,y6,e,I2⟩:=CK hA (hr o (by simp)) (x3:=x3) (x6:=x6) I
   have wr:ax (aa 1) (fz w R P' x3 (Md (.bool m)) (Md (pr o)) x6)=.ok ⟨R.map rm,true⟩ (fz w R P' x3 (Md (.bool m)) (Md (pr o)) x6):=br (s:=.leaf) (au rfl) rfl
   refine ⟨_,dB wr e,fun u hu=>hr u (by simp [hu]),P2,m2,_,_,rfl,I2.p,I2.sub,I2.q.imp (fun ⟨a,b,c,d⟩=>⟨a,b,fun u hu hn=>?_⟩) id⟩
   by_cases q:u=o
   ·subst q;exact d
   ·exact c u hu (by simp [q,hn])) P (fz w R P x3 (Md (.bool false)) x5 x6) ⟨fun o h=>h,P,false,x5,x6,rfl,I,fun x h=>h,.inl ⟨rfl,rfl,fun o h n=>absurd h n⟩⟩
 exact ⟨P',m',y5,y6,e,I'.p,I'.sub,I'.q.imp (fun ⟨a,b,c⟩=>⟨a,b,fun o h=>c o h (by simp)⟩) id⟩
theorem rD {w:Wd} (ok:w.Ok) (h6:w.n<=6) {R:List Nat} (hR:Std w.n R):∃P,cJ [w.enc,aw R]=.ok ⟨.lst .leaf,wU P⟩/\∀a b,(a,b)∈P↔Rc (Eg w.stp R) a b:=by
 have hl:=hR.len
 let A:List (Nat×Nat):=R.flatMap fun a=>R.map fun b=>(a,b)
 have hA:∀a∈R,∀b∈R,(a,b)∈A:=fun a ha b hb=>List.mem_flatMap.mpr ⟨a,ha,List.mem_map.mpr ⟨b,hb,rfl⟩⟩
 have lA:A.length<=36:=by
  have:A.length=R.length*R.length:=by
   show (R.flatMap fun a=>R.map fun b=>(a,b)).length=_
   have g:∀L:List Nat,(L.flatMap fun a=>R.map fun b=>(a,b)).length=L.length*R.length:=fun L=>by
    induction L with
    | nil=>simp
    | cons a r ih=>rw [List.flatMap_cons,length_append,ih,length_map,length_cons,Nat.succ_mul,Nat.add_comm]
   exact g R
  have:=Nat.mul_le_mul (Nat.le_trans hl h6) (Nat.le_trans hl h6)
  omega
 obtain ⟨Γ1,e1,_,P,x3,hΓ,so,ed,bd⟩:=AK rm (i:=3) (body:=vL) (Inv:=fun rest Γ=>(∀a∈rest,a∈R)/\∃P x3,Γ=fz w R P x3 none none none/\(∀x∈P,Eg w.stp R x.1 x.2)/\(∀a b,Eg w.stp R a b->a∉rest->(a,b)∈P)/\P.length+30*rest.length<=180)
  (fun a rest Γ ⟨hr,P,x3,e,so,ed,bd⟩=>by
   subst e;have ha:=hr a (by simp)
   have han:=hR.lt a ha
   have hst:=oK ok han
   have hf:=length_filter_le (fun t=>R.contains t) (w.stp a)
   simp only [length_cons] at bd
   refine ⟨by simp,_,yK ok han (by omega),fun u hu=>hr u (by simp [hu]),_,_,rfl,fun x hx=>?_,fun u b e hn=>?_,?_⟩
   ·rcases LX hx with z | z
    ·exact so x z
    ·obtain ⟨t,ht,rfl⟩:=List.mem_map.mp z
     obtain ⟨h1,h2⟩:=List.mem_filter.mp ht;exact ⟨ha,by simpa using h2,h1⟩
   ·by_cases q:u=a
    ·subst q
     exact LR _ (List.mem_map.mpr ⟨b,List.mem_filter.mpr ⟨e.2.2,by simpa using e.2.1⟩,rfl⟩)
    ·exact LU _ (ed u b e (by simp [q,hn]))
   ·simp only [length_append,length_map]
    omega) R (fz w R [] none none none none) ⟨fun a h=>h,[],none,rfl,fun x h=>by simp at h,fun a b e n=>absurd e.1 n,by simp;omega⟩
 subst hΓ;have bd:P.length<=180:=by simpa using bd
 have msb:ms A P<=36:=Nat.le_trans (length_filter_le _ _) lA
 have I0:DW w R A P:=⟨fun x hx=>.one (so x hx),fun a b e=>ed a b e (by simp),by omega⟩
 obtain ⟨b',e2,I2,hf⟩:=Ex (β:=List (Nat×Nat)×Bool×Option PV×Option PV) (c:=aF bt (aa 4)) (g:=av (ay false 4 (eK (.bool false))) (cR 5 (ax (AD 2)) (cR 6 (ax (aa 1)) CL))) (G:=fun b=>fz w R b.1 x3 (Md (.bool b.2.1)) b.2.2.1 b.2.2.2) (test:=fun b=>b.2.1) (Inv:=fun b=>DW w R A b.1/\(b.2.1=false->∀o∈b.1,∀t∈R,(o.2,t)∈b.1->(o.1,t)∈b.1)) (meas:=fun b=>2*ms A b.1+(if b.2.1 then 1 else 0))
  (fun b I=>dW (s:=.leaf) (au rfl))
  (fun b I ht=>by
   obtain ⟨P,m,x5,x6⟩:=b;simp only at ht I
   subst ht;obtain ⟨P',m',y5,y6,e,I'⟩:=uV hA I.1 (x3:=x3) (x5:=x5) (x6:=x6)
   have wl:ax (AD 2) (fz w R P x3 (Md (.bool false)) x5 x6)=.ok ⟨P.map pr,true⟩ (fz w R P x3 (Md (.bool false)) x5 x6):=br (s:=.lst .leaf) (ds:=P.map pr) rfl rfl
   refine ⟨(P',m',y5,y6),ar (Γ1:=fz w R P x3 (Md (.bool false)) x5 x6) (cY bg rfl (by simp)) (dB wl e),⟨I'.p,fun hm=>?_⟩,?_⟩
   ·rcases I'.q with ⟨_,h2,h3⟩ | ⟨h1,_⟩
    ·simp only at hm ⊢
     rw [h2];exact h3
    ·simp only at hm
     rw [h1] at hm
     cases hm
   ·rcases I'.q with ⟨h1,h2,_⟩ | ⟨h1,h2⟩
    ·simp only
     rw [h1,h2];simp
    ·simp only
     rw [h1];simp
     omega) 1000 (P,true,none,none) ⟨I0,nofun⟩ (by simp;omega)
 obtain ⟨P',m,y5,y6⟩:=b'
 simp only at e2 I2 hf
 subst hf;refine ⟨P',?_,fun a b=>oh (R:=R) I2.1.so I2.1.ed (fun a b e=>⟨e.1,e.2.1⟩) (I2.2 rfl)⟩
 refine aQ (ar (Γ1:=fz w R [] none none none none) (sg (mU (s:=.leaf) ak rfl rfl rfl) rfl (by simp [aR])) ?_)
 refine ar (dB (br (s:=.leaf) (ds:=R.map rm) (au rfl) rfl) e1) ?_
 refine ar (cY bg rfl (by simp)) ?_
 refine ar (Γ1:=fz w R P' x3 (Md (.bool false)) y5 y6) ?_ (aZ (zt (p:=⟨.lst .leaf,wU P'⟩) rfl) rfl)
 unfold sL;exact e2
theorem rA (hn:n<=24):∃R,dw [.int c,.int (n:Int)]=.ok ⟨.lst .leaf,aw R⟩/\Std n R:=by
 refine ⟨(List.range n).filter fun r:Nat=>decide (0<dE c (r:Int) 3),?_,Std.of _⟩
 have e:aq .leaf 2 (lR (ae (aa 1) af)) (aF ao (aA eO (aj 3 aD (ae (aa 0) (ae (aa 2) (ae (eK (.int 3)) af)))) (eK (.int 0)))) (aa 2) (aR 3 [.int c,.int (n:Int)])=.ok ⟨.lst .leaf,.list (((List.range n).filter fun r:Nat=>decide (0<dE c (r:Int) 3)).map fun r=>rm r)⟩ (aR 3 [.int c,.int (n:Int)]):=by
  refine ko rm (List.range n) (fun r:Nat=>decide (0<dE c (r:Int) 3)) (fun r=>⟨.leaf,rm r⟩) (st:=true) ?_ (by simp [aR]) rfl (by simp;omega) (fun r hr=>?_) (fun r hr _=>?_)
  ·exact wx (s:=.leaf) (n:=n) (by omega) (by simp [aR])
  ·have:=List.mem_range.mp hr
   have d:=DG (c:=c) (k:=(r:Int)) (b:=3) (by omega) (by omega) (by omega) (by omega)
   simp [aR,d]
  ·simp [aR]
 exact aQ (aZ e rfl)
theorem oE {Γ1:Ev} {fl:FL} {ps:List PV} {d:D} {den:List D->bz} (hl:fl Γ=.ok ps Γ1) (hd:den (ps.map (·.d))=.ok ⟨.leaf,d⟩) (hn:ps.length=n) (hs:ba d=true):aj n den fl Γ=.ok ⟨.leaf,d⟩ Γ1:=by
 unfold aj;rw [hl];simp only [Out.bind,hn,hd,hs,if_true]
 split<;>rfl
theorem rj {z:Int}:cI [.int z]=.ok ⟨.leaf,.bool true⟩:=aQ (aZ (v_and (s:=.leaf) (a:=true) (b:=true) (kC (au rfl) rfl) (v_not (b:=false) (s:=.leaf) (kC (au rfl) rfl))) rfl)
theorem nS:∃M,dy [.int c]=.ok ⟨.lst .leaf,bw M⟩/\(∀c∈M,c∈aY)/\aT [bw M]=.ok ⟨.leaf,.bool true⟩/\M.length<=3:=by
 have e:aq .leaf 1 (fh "abc") (aF ao (aA gz (aj 3 aD (ae (aa 0) (ae (bh (dU "abc") (ae (aa 1) af)) (ae (eK (.int 3)) af)))) (eK (.int 1)))) (aa 1) (aR 2 [.int c])=.ok ⟨.lst .leaf,.list (([0,1,2].filter fun k:Nat=>dE c (k:Int) 3==1).map pE)⟩ (aR 2 [.int c]):=by
  refine ko pE [0,1,2] (fun k:Nat=>dE c (k:Int) 3==1) (fun k=>⟨.leaf,pE k⟩) (st:=true) mH (by simp [aR]) rfl (by simp) (fun k hk=>?_) fun k hk _=>⟨au rfl,rfl⟩
  exact cZ (aE (b7 (az (au rfl) (az (bF (az (au rfl) ak) (vb hk)) (az bg ak))) (DG (by omega) (by have:=Ik hk;omega) (by omega) (by omega)) rfl rfl) bg KC.eq_int)
 let l:Nat->Str:=fun k=>⟨#[97+k]⟩
 have el:∀L:List Nat,.list (L.map pE)=bw (L.map l):=fun L=>by
  show PyData.list _=PyData.list _
  rw [map_map];rfl
 refine ⟨([0,1,2].filter fun k:Nat=>dE c (k:Int) 3==1).map l,?_,?_,?_,?_⟩
 ·rw [<-el]
  exact aQ (aZ e rfl)
 ·intro x hx
  obtain ⟨k,hk,rfl⟩:=List.mem_map.mp hx;have:=(List.mem_filter.mp hk).1
  simp at this
  rcases this with rfl | rfl | rfl<;>decide
 ·have key:∀a b d:Bool,aT [bw (((if a then [0] else [])++(if b then [1] else [])++(if d then [2] else [])).map l)]=.ok ⟨.leaf,.bool true⟩:=fun a b d=>by
   have:=eD (ds:=(((if a then [0] else [])++(if b then [1] else [])++(if d then [2] else [])).map l).map PyData.str) (fun x hx=>by
    obtain ⟨y,hy,rfl⟩:=List.mem_map.mp hx;obtain ⟨k,hk,rfl⟩:=List.mem_map.mp hy;refine ⟨_,rfl,ll ?_⟩
    cases a<;>cases b<;>cases d<;>simp at hk<;>omega) (by cases a<;>cases b<;>cases d<;>simp)
   refine this.trans ?_
   cases a<;>cases b<;>cases d<;>kernel_rfl
  have e3:([0,1,2].filter fun k:Nat=>dE c (k:Int) 3==1)=(if dE c ((0:Nat):Int) 3==1 then [0] else [])++(if dE c ((1:Nat):Int) 3==1 then [1] else [])++(if dE c ((2:Nat):Int) 3==1 then [2] else []):=by
   simp only [filter_cons,List.filter_nil]
   cases dE c ((0:Nat):Int) 3==1<;>cases dE c ((1:Nat):Int) 3==1<;>cases dE c ((2:Nat):Int) 3==1<;>rfl
  rw [e3];exact key _ _ _
 ·rw [length_map]
  exact Nat.le_trans (length_filter_le _ _) (by simp)
noncomputable def xA (P:List (Nat×Nat)) (h r:Nat):Bool:=P.contains (h,r)&&P.contains (r,h)
noncomputable def wV (w:Wd) (rg:List Nat) (m:Str):Bool:=decide (0<(rg.filter fun r=>(w.mks r).contains m).length)
noncomputable def sC (w:Wd) (R:List Nat) (M:List Str) (P:List (Nat×Nat)) (h:Nat):Bool:=decide (0<(R.filter (xA P h)).length)&&(M.filter (wV w (R.filter (xA P h)))==M)
theorem vM {a b:List Str} (ha:∀x∈a,PyData.strOk x=true) (hb:∀x∈b,PyData.strOk x=true):gz (bw a) (bw b)=some (.bool (a==b)):=by
 have sh:∀l:List Str,(∀x∈l,PyData.strOk x=true)->shaped (bw l)=true:=fun l h=>oQ fun d hd=>by
  obtain ⟨x,hx,rfl⟩:=List.mem_map.mp hd;exact ⟨x,rfl,h x hx⟩
 have eq:∀a b:List Str,PyData.eqvAll (a.map .str) (b.map .str)=(a==b):=fun a=>by
  induction a with
  | nil=>intro b;cases b<;>rw [map_nil]<;>simp [PyData.eqvAll]
  | cons x a ih=>
   intro b
   cases b with
   | nil=>simp [PyData.eqvAll]
   | cons y b=>
    rw [map_cons,map_cons,PyData.eqvAll,ih,PyData.eqv];rfl
 show (if shaped (bw a)&&shaped (bw b) then some (PyData.bool (PyData.eqv (bw a) (bw b))) else none)=_
 rw [sh a ha,sh b hb,Bool.and_self,if_pos rfl];show some (PyData.bool (PyData.eqv (.list (a.map .str)) (.list (b.map .str))))=_
 rw [PyData.eqv,eq]
noncomputable abbrev mL (w:Wd) (R:List Nat) (M:List Str) (P:List (Nat×Nat)) (H:List Nat) (x5 x6 x7:Option PV):Ev:=[Md w.enc,Md (aw R),Md (bw M),Md (wU P),some ⟨.lst .leaf,aw H⟩,x5,x6,x7,none,none]
noncomputable abbrev vx:FS:=(av (ay false 6 (aq .leaf 8 (ax (aa 1)) (fy (aF ao (aA (bB false) (bI (ae (aa 5) (ae (aa 8) af))) (aa 3))) (aF ao (aA (bB false) (bI (ae (aa 8) (ae (aa 5) af))) (aa 3)))) (aa 8)))
  (av (ay false 7 (aq .leaf 9 (ax (aa 2)) (aF ao (aA eO (bh aM (ae (aq .leaf 8 (ax (aa 6)) (aF ao (aA (bB false) (aa 9) (ag (ag (aa 0) (eK (.int 1))) (aa 8)))) (aa 8)) af)) (eK (.int 0)))) (aa 9)))
  (cg (fy (aF ao (aA eO (bh aM (ae (aa 6) af)) (eK (.int 0)))) (aF ao (aA gz (aa 7) (aa 2)))) (fA 4 (aa 5)) aN)))
theorem lI {w:Wd} (ok:w.Ok) {i:Nat} {s:Sh} {r:Nat} (h0:Γ[i]?=some (Md w.enc)) (hb:fb Γ=.ok ⟨s,rm r⟩ Γ) (hr:r<w.n):ag (ag (aa i) (eK (.int 1))) fb Γ=.ok ⟨.leaf,bw (w.mks r)⟩ Γ:=by
 rw [dC,dC,au h0];simp only [Out.bind,bg,Wd.enc,de,i9,zS]
 rw [hb];simp only [ja]
 rw [ok.at1 hr]
theorem yt {w:Wd} (ok:w.Ok) {R:List Nat} (hR:Std w.n R) (hM:∀c∈M,c∈aY) (hm3:M.length<=3) {P:List (Nat×Nat)} {H:List Nat} (hH:H.length<=900) {h:Nat} {x7:Option PV}:∃y6 y7,vx (mL w R M P H (Md (rm h)) x6 x7)=.nx (mL w R M P (if sC w R M P h then H++[h] else H) (Md (rm h)) y6 y7):=by
 have h24:=ok.h24
 have hl:=hR.len
 have e6:aq .leaf 8 (ax (aa 1)) (fy (aF ao (aA (bB false) (bI (ae (aa 5) (ae (aa 8) af))) (aa 3))) (aF ao (aA (bB false) (bI (ae (aa 8) (ae (aa 5) af))) (aa 3)))) (aa 8) (mL w R M P H (Md (rm h)) x6 x7)=.ok ⟨.lst .leaf,aw (R.filter (xA P h))⟩ (mL w R M P H (Md (rm h)) x6 x7):=
  ko rm R (xA P h) (fun t=>⟨.leaf,rm t⟩) (st:=true) (br (s:=.leaf) (au rfl) rfl) (by simp) rfl (by omega) (fun t ht=>we (cZ (s:=.leaf) (aE (mX (au rfl) (au rfl)) (au (i:=3) rfl) GL)) (cZ (s:=.leaf) (aE (mX (au rfl) (au rfl)) (au (i:=3) rfl) GL))) (fun t ht _=>⟨au rfl,rfl⟩)
 have rl:∀r∈R.filter (xA P h),r<w.n:=fun r hr=>hR.lt r (List.mem_filter.mp hr).1
 have rn:(R.filter (xA P h)).length<=24:=Nat.le_trans (length_filter_le _ _) (by omega)
 generalize hrg:R.filter (xA P h)=rg at e6 rl rn
 have e7:aq .leaf 9 (ax (aa 2)) (aF ao (aA eO (bh aM (ae (aq .leaf 8 (ax (aa 6)) (aF ao (aA (bB false) (aa 9) (ag (ag (aa 0) (eK (.int 1))) (aa 8)))) (aa 8)) af)) (eK (.int 0)))) (aa 9) (mL w R M P H (Md (rm h)) (Md (aw rg)) x7)=.ok ⟨.lst .leaf,bw (M.filter (wV w rg))⟩ (mL w R M P H (Md (rm h)) (Md (aw rg)) x7):=by
  refine ko PyData.str M (wV w rg) (fun t=>⟨.leaf,.str t⟩) (st:=true) (br (s:=.leaf) (au rfl) rfl) (by simp) rfl (by omega) (fun m hm=>?_) (fun t ht _=>⟨au rfl,rfl⟩)
  have hs:=(Au (hM m hm)).1
  have c:aq .leaf 8 (ax (aa 6)) (aF ao (aA (bB false) (aa 9) (ag (ag (aa 0) (eK (.int 1))) (aa 8)))) (aa 8) ((mL w R M P H (Md (rm h)) (Md (aw rg)) x7).set 9 (Md (.str m)))=.ok ⟨.lst .leaf,.list ((rg.filter fun r=>(w.mks r).contains m).map fun r=>rm r)⟩ ((mL w R M P H (Md (rm h)) (Md (aw rg)) x7).set 9 (Md (.str m))):=
   ko rm rg (fun r=>(w.mks r).contains m) (fun t=>⟨.leaf,rm t⟩) (st:=true) (br (s:=.leaf) (au rfl) rfl) (by simp) rfl (by omega) (fun r hr=>cZ (s:=.leaf) (aE (au rfl) (lI ok rfl (au rfl) (rl r hr)) (GM hs (GN ok r)))) (fun t ht _=>⟨au rfl,rfl⟩)
  have g:=cZ (s:=.leaf) (aE (g:=eO) (bF (g:=aM) (d:=.int ((rg.filter fun r=>(w.mks r).contains m).length:Int)) (az c ak) (by simp)) (bg (d:=.int 0)) (show _=some (PyData.bool (decide ((0:Int)<((rg.filter fun r=>(w.mks r).contains m).length:Int)))) from rfl))
  have:wV w rg m=decide ((0:Int)<((rg.filter fun r=>(w.mks r).contains m).length:Int)):=decide_eq_decide.mpr (by omega)
  rw [this];exact g
 have hMs:∀x∈M,PyData.strOk x=true:=fun x hx=>(Au (hM x hx)).1
 have t:=we (Γ:=mL w R M P H (Md (rm h)) (Md (aw rg)) (Md (bw (M.filter (wV w rg))))) (cZ (s:=.leaf) (aE (g:=eO) (bF (g:=aM) (d:=.int (rg.length:Int)) (az (au (i:=6) rfl) ak) (by simp)) (bg (d:=.int 0)) (show _=some (PyData.bool (decide ((0:Int)<(rg.length:Int)))) from rfl))) (cZ (s:=.leaf) (aE (g:=gz) (au (i:=7) rfl) (au (i:=2) rfl) (vM (fun x hx=>hMs x (List.mem_filter.mp hx).1) hMs)))
 have hv:sC w R M P h=(decide ((0:Int)<(rg.length:Int))&&(M.filter (wV w rg)==M)):=by
  unfold sC;rw [hrg,show decide (0<rg.length)=decide ((0:Int)<(rg.length:Int)) from decide_eq_decide.mpr (by omega)]
 rw [<-hv] at t;refine ⟨some ⟨.leaf,aw rg⟩,Md (bw (M.filter (wV w rg))),ar (cY e6 rfl (by simp)) (ar (cY e7 rfl (by simp)) (bN t (fun ht=>?_) fun ht=>?_))⟩
 ·rw [ht]
  refine (DM (i:=4) (s:=.leaf) (ds:=H.map rm) (fa:=aa 5) (p:=⟨.leaf,rm h⟩) (Γ:=mL w R M P H (Md (rm h)) (Md (aw rg)) (Md (bw (M.filter (wV w rg))))) rfl (au rfl) rfl (by simpa using hH)).trans ?_
  simp [aw]
 ·rw [ht]
  rfl
noncomputable def nM (w:Wd) (R:List Nat) (M:List Str) (P:List (Nat×Nat)):List Nat:=R.filter fun r=>(R.filter (sC w R M P)).contains r||decide (0<((R.filter (sC w R M P)).filter fun h=>P.contains (r,h)).length)
theorem rF {w:Wd} (ok:w.Ok) {R:List Nat} (hR:Std w.n R) (hM:∀c∈M,c∈aY) (hm3:M.length<=3) {P:List (Nat×Nat)} (ep:cJ [w.enc,aw R]=.ok ⟨.lst .leaf,wU P⟩):dR [w.enc,aw R,bw M]=.ok ⟨.lst .leaf,aw (nM w R M P)⟩:=by
 have h24:=ok.h24
 have hl:=hR.len
 obtain ⟨Γ1,e1,D,hD,hlD,x5,x6,x7,hΓ⟩:=AK rm (i:=5) (body:=vx) (Inv:=fun rest Γ=>∃D,D++rest=R/\D.length+rest.length=R.length/\∃x5 x6 x7,Γ=mL w R M P (D.filter (sC w R M P)) x5 x6 x7)
  (fun a rest Γ ⟨D,hD,hlD,x5,x6,x7,e⟩=>by
   subst e;simp only [length_cons] at hlD
   have:=length_filter_le (sC w R M P) D
   obtain ⟨y6,y7,e⟩:=yt ok hR hM hm3 (P:=P) (H:=D.filter (sC w R M P)) (by omega) (h:=a) (x6:=x6) (x7:=x7)
   refine ⟨by simp,_,e,D++[a],by simp [hD],by simp;omega,Md (rm a),y6,y7,?_⟩
   rw [List.filter_append,filter_cons,List.filter_nil]
   cases sC w R M P a<;>simp) R (mL w R M P [] none none none) ⟨[],rfl,by simp,none,none,none,rfl⟩
 have hD:D=R:=by simpa using hD
 subst hD;subst hΓ;generalize hH:D.filter (sC w D M P)=H at e1
 have lH:H.length<=24:=by
  rw [<-hH];exact Nat.le_trans (length_filter_le _ _) (by omega)
 have e2:aq .leaf 8 (ax (aa 1)) (fF (aF ao (aA (bB false) (aa 8) (aa 4))) (aF ao (aA eO (bh aM (ae (aq .leaf 5 (ax (aa 4)) (aF ao (aA (bB false) (bI (ae (aa 8) (ae (aa 5) af))) (aa 3))) (aa 5)) af)) (eK (.int 0))))) (aa 8) (mL w D M P H x5 x6 x7)=.ok ⟨.lst .leaf,.list ((D.filter fun r=>H.contains r||decide (0<(H.filter fun h=>P.contains (r,h)).length)).map fun r=>rm r)⟩ (mL w D M P H x5 x6 x7):=by
  refine ko rm D (fun r=>H.contains r||decide (0<(H.filter fun h=>P.contains (r,h)).length)) (fun t=>⟨.leaf,rm t⟩) (st:=true) (br (s:=.leaf) (au rfl) rfl) (by simp) rfl (by omega) (fun r hr=>?_) (fun t ht _=>⟨au rfl,rfl⟩)
  have c:aq .leaf 5 (ax (aa 4)) (aF ao (aA (bB false) (bI (ae (aa 8) (ae (aa 5) af))) (aa 3))) (aa 5) ((mL w D M P H x5 x6 x7).set 8 (Md (rm r)))=.ok ⟨.lst .leaf,.list ((H.filter fun h=>P.contains (r,h)).map fun r=>rm r)⟩ ((mL w D M P H x5 x6 x7).set 8 (Md (rm r))):=
   ko rm H (fun h=>P.contains (r,h)) (fun t=>⟨.leaf,rm t⟩) (st:=false) (br (s:=.view) (kB rfl) uY) (by simp) rfl (by omega) (fun h hh=>cZ (s:=.leaf) (aE (mX (au rfl) (au rfl)) (au (i:=3) rfl) GL)) (fun t ht _=>⟨au rfl,rfl⟩)
  rw [show decide (0<(H.filter fun h=>P.contains (r,h)).length)=decide ((0:Int)<((H.filter fun h=>P.contains (r,h)).length:Int)) from decide_eq_decide.mpr (by omega)]
  exact ic (cZ (s:=.leaf) (aE (au rfl) (kB (i:=4) rfl) DE)) (cZ (s:=.leaf) (aE (g:=eO) (bF (g:=aM) (d:=.int ((H.filter fun h=>P.contains (r,h)).length:Int)) (az c ak) (by simp)) (bg (d:=.int 0)) rfl))
 have ed:nM w D M P=D.filter fun r=>H.contains r||decide (0<(H.filter fun h=>P.contains (r,h)).length):=by
  unfold nM;rw [hH]
 rw [ed];refine aQ (ar (cY (b7 (az (au rfl) (az (au rfl) ak)) ep rfl rfl) rfl (by simp [aR])) ?_)
 refine ar (Γ1:=mL w D M P [] none none none) (sg (mU (s:=.leaf) ak rfl rfl rfl) rfl (by simp [aR])) ?_
 exact ar (dB (br (s:=.leaf) (ds:=D.map rm) (au rfl) rfl) e1) (aZ e2 rfl)
theorem yM {w:Wd} {R:List Nat} {P:List (Nat×Nat)} (hP:∀a b,(a,b)∈P↔Rc (Eg w.stp R) a b) {r:Nat}:r∈nM w R M P↔Due w.stp R M (pD w) r:=by
 have hm:∀h,h∈R.filter (sC w R M P)↔wD w.stp R M (pD w) h:=fun h=>by
  have rg:∀x,x∈R.filter (xA P h)↔Rc (Eg w.stp R) h x/\Rc (Eg w.stp R) x h:=fun x=>by
   rw [mem_filter];unfold xA;rw [Bool.and_eq_true,contains_iff_mem,contains_iff_mem,hP,hP];exact ⟨fun z=>z.2,fun z=>⟨(vN z.1).2,z⟩⟩
  rw [mem_filter];unfold sC;rw [Bool.and_eq_true,decide_eq_true_eq,beq_iff_eq,List.filter_eq_self];constructor
  ·rintro ⟨h1,h2,h3⟩
   obtain ⟨x,hx⟩:=List.exists_mem_of_length_pos h2;obtain ⟨q1,q2⟩:=(rg x).mp hx;refine ⟨h1,q1.trans q2,fun m hm=>?_⟩
   have:=h3 m hm
   unfold wV at this;rw [decide_eq_true_eq] at this;obtain ⟨y,hy⟩:=List.exists_mem_of_length_pos this;obtain ⟨a,b⟩:=List.mem_filter.mp hy;obtain ⟨q1,q2⟩:=(rg y).mp a;exact ⟨y,q1,q2,by simpa using b⟩
  ·intro z
   refine ⟨z.m,length_pos_of_mem ((rg h).mpr ⟨z.r,z.r⟩),fun m hm=>?_⟩
   obtain ⟨x,q1,q2,k⟩:=z.k m hm;unfold wV;rw [decide_eq_true_eq];exact length_pos_of_mem (List.mem_filter.mpr ⟨(rg x).mpr ⟨q1,q2⟩,by simpa using k⟩)
 unfold nM;rw [mem_filter,Bool.or_eq_true,contains_iff_mem,decide_eq_true_eq,hm];constructor
 ·rintro ⟨h1,h2 | h2⟩
  ·exact ⟨h1,.inl h2⟩
  ·obtain ⟨y,hy⟩:=List.exists_mem_of_length_pos h2
   obtain ⟨a,b⟩:=List.mem_filter.mp hy;exact ⟨h1,.inr ⟨y,(hm y).mp a,(hP r y).mp (by simpa using b)⟩⟩
 ·rintro ⟨h1,h2 | ⟨h,h2,h3⟩⟩
  ·exact ⟨h1,.inl h2⟩
  ·exact ⟨h1,.inr (length_pos_of_mem (List.mem_filter.mpr ⟨(hm h).mpr h2,by simpa using (hP r h).mpr h3⟩))⟩
theorem qg {w:Wd} (ok:w.Ok) {R:List Nat} (hM:∀x∈M,PyData.strOk x=true):shaped (.list [w.enc,aw R,bw M])=true:=by
 have h1:=yZ ok
 have a:=rR (xs:=R.map rm) fun a ha=>by
  obtain ⟨t,_,e⟩:=List.mem_map.mp ha;exact ⟨(t:Int),e.symm⟩
 have b:=Gg (xs:=M.map .str) fun a ha=>by
  obtain ⟨t,ht,e⟩:=List.mem_map.mp ha;exact ⟨t,e.symm,hM t ht⟩
 simp only [aw,bw,shaped,PyData.canLay0,PyData.canLayAll0,PyData.depth,PyData.depthAll,a.1,b.1,a.2,b.2,h1.1,Bool.and_self,Bool.true_and,decide_eq_true_eq]
 have:=h1.2
 omega
noncomputable abbrev LW (w:Wd) (F R:List Nat) (l:Ev):Ev:=some ⟨.leaf,w.enc⟩::some ⟨.leaf,wy F R⟩::l
theorem vW {w:Wd} (ok:w.Ok) {R:List Nat} (h:mJ w F R) (hl:F.length+R.length<=900):cx [w.enc,wy F R]=.ok ⟨.leaf,.bool true⟩:=by
 have hp:0<R.length:=List.length_pos_iff.mpr h.ne
 obtain ⟨a,R',rfl⟩:∃a R',R=a::R':=by
  cases R with
  | nil=>exact absurd rfl h.ne
  | cons a r=>exact ⟨a,r,rfl⟩
 generalize hR:a::R'=R at *
 have i0:∀x2 x3 x4 x5,ag (aa 1) (eK (.int 0)) (LW w F R [x2,x3,x4,x5])=.ok ⟨.leaf,aw F⟩ (LW w F R [x2,x3,x4,x5]):=fun _ _ _ _=>iR (j:=0) (au rfl) bg rfl rfl rfl
 have i1:∀x2 x3 x4 x5,ag (aa 1) (eK (.int 1)) (LW w F R [x2,x3,x4,x5])=.ok ⟨.leaf,aw R⟩ (LW w F R [x2,x3,x4,x5]):=fun _ _ _ _=>iR (j:=1) (au rfl) bg rfl rfl rfl
 have t1:=ic (Γ:=aR 6 [w.enc,wy F R]) (dX (b:=true) (dW (s:=.leaf) (kC (c := "tuple") (fa:=aa 1) (au rfl) rfl))) (ic (cZ (s:=.leaf) (aE (g:=gL) (fa:=bh aM (ae (aa 1) af)) (fb:=eK (.int 2)) (d:=.bool false) (bF (g:=aM) (d:=.int 2) (az (au rfl) ak) rfl) bg rfl)) (dX (b:=true) (dW (s:=.leaf) (kC (c := "list") (i0 none none none none) rfl))))
 have e0:((R.length:Int)==0)=false:=beq_eq_false_iff_ne.mpr (by omega)
 have t2:=ic (Γ:=aR 6 [w.enc,wy F R]) (dX (b:=true) (dW (s:=.leaf) (kC (c := "list") (i1 none none none none) rfl))) (cZ (s:=.leaf) (aE (g:=gz) (fb:=eK (.int 0)) (bF (g:=aM) (d:=.int (R.length:Int)) (az (i1 none none none none) ak) (by simp)) bg KC.eq_int))
 simp only [e0] at t2
 have cat:dJ (ag (aa 1) (eK (.int 0))) (ag (aa 1) (eK (.int 1))) (aR 6 [w.enc,wy F R])=.ok ⟨.lst .leaf,aw (F++R)⟩ (aR 6 [w.enc,wy F R]):=by
  have:=oC (i0 none none none none) (i1 none none none none) rfl rfl (by simp;omega)
  rw [show aR 6 [w.enc,wy F R]=(LW w F R [none,none,none,none]) from rfl,this]
  simp [aw]
 have t3:bT (aF bt (bh (cC false) (ae (aq .leaf 5 (ax (aa 2)) aG (fm (aj 1 cI (ae (aa 5) af)) (se yF gy (eK (.int 0)) (aa 5) (bh aM (ae (ag (aa 0) (eK (.int 0))) af))))) af))) (LW w F R [Md (aw (F++R)),none,none,none])=.ok (!true) (LW w F R [Md (aw (F++R)),none,none,none]):=by
  refine dX (dW (s:=.leaf) (bF (ps:=[⟨.lst .leaf,.list ((F++R).map fun _=>.bool true)⟩]) (az (oz rm (F++R) (fun x=>⟨.leaf,.bool true⟩) (st:=true) (br (au rfl) rfl) (by simp) rfl (by simp;omega) fun x hx=>⟨?_,rfl⟩) ak) wq))
  have lt:=h.lt x hx
  have e:=IP (b:=decide ((0:Int)<=(x:Int))) (b':=decide ((x:Int)<(w.n:Int))) (g:=yF) (g':=gy) (fa:=eK (.int 0)) (fb:=aa 5) (Γ:=(LW w F R [Md (aw (F++R)),none,none,Md (rm x)])) bg (au rfl) rfl rfl (G7 ok (i:=0) rfl) rfl
  rw [show (decide ((0:Int)<=(x:Int))&&decide ((x:Int)<(w.n:Int)))=true by simp;omega] at e
  exact v_and (s:=.leaf) (a:=true) (b:=true) (b7 (az (au rfl) ak) (rj (z:=(x:Int))) rfl rfl) e
 have ah:dJ (eR (fun k=>(some k,none)) (aa 2) (eK (.int 1))) (aV .leaf (ae (ag (ag (aa 1) (eK (.int 1))) (eK (.int 0))) af)) (LW w F R [Md (aw (F++R)),none,none,none])=.ok ⟨.lst .leaf,aw ((F++R).drop 1++[R.getD 0 0])⟩ (LW w F R [Md (aw (F++R)),none,none,none]):=by
  have s1:=oB (Γ:=(LW w F R [Md (aw (F++R)),none,none,none])) (g:=fun k=>(some k,none)) (fa:=aa 2) (fb:=eK (.int 1)) (s:=.leaf) (xs:=(F++R).map rm) (k:=(1:Int)) (s':=.leaf) (au rfl) bg uY
  simp only at s1
  rw [show T.cutD ((F++R).map rm) (some (1:Int)) none=((F++R).drop 1).map rm from oP (k:=1)] at s1;have s2:=mU (s:=.leaf) (az (kD (i1 (Md (aw (F++R))) none none none) (s:=.leaf) (k:=0) (fb:=eK (.int 0)) bg hp) ak) rfl rfl rfl
  have:=oC s1 s2 rfl rfl (by simp;omega)
  rw [this];simp [aw]
 have gA:∀k,k<F.length+R.length->(F++R).getD k 0=sy F R k:=fun k hk=>by
  rw [<-GS hp (by omega),L1,L1,getElem?_append_left (l₁:=F++R) (by rw [length_append];exact hk)]
 have gB:∀k,k<F.length+R.length->((F++R).drop 1++[R.getD 0 0]).getD k 0=sy F R (k+1):=fun k hk=>by
  have e:(F++R).drop 1++[R.getD 0 0]=(F++R++R.take 1).drop 1:=by
   rw [List.drop_append_of_le_length (l₁:=F++R) (by rw [length_append];omega),<-hR]
   rfl
  rw [e,<-GS hp (by omega),L1,L1,List.getElem?_drop,Nat.add_comm 1 k]
 have fin:bh (cC false) (ae (aq .leaf 4 (lR (ae (bh aM (ae (aa 2) af)) af)) aG (aA (bB false) (ag (aa 3) (aa 4)) (ag (ag (aa 0) (eK (.int 2))) (ag (aa 2) (aa 4))))) af) (LW w F R [Md (aw (F++R)),Md (aw ((F++R).drop 1++[R.getD 0 0])),none,none])=.ok ⟨.leaf,.bool true⟩ (LW w F R [Md (aw (F++R)),Md (aw ((F++R).drop 1++[R.getD 0 0])),none,none]):=by
  refine bF (ps:=[⟨.lst .leaf,.list ((List.range (F++R).length).map fun _=>.bool true)⟩]) (az (oz rm (List.range (F++R).length) (fun x=>⟨.leaf,.bool true⟩) (st:=true) (wx (s:=.leaf) (n:=(F++R).length) (by simp;omega) (az (bF (g:=aM) (d:=.int ((F++R).length:Int)) (az (au rfl) ak) (by simp)) ak)) (by simp) rfl (by simp;omega) fun k hk=>⟨?_,rfl⟩) ak) wq
  have hk:=List.mem_range.mp hk
  rw [length_append] at hk;have lt:sy F R k<w.n:=by
   rw [<-gA k hk];refine h.lt _ ?_
   rw [L1,L0 (by simp;omega)]
   exact getElem_mem _
  have a1:=kD (Γ:=(LW w F R [Md (aw (F++R)),Md (aw ((F++R).drop 1++[R.getD 0 0])),Md (rm k),none])) (fa:=aa 3) (fb:=aa 4) (s:=.leaf) (l:=(F++R).drop 1++[R.getD 0 0]) (k:=k) (au rfl) (au rfl) (by simp;omega)
  have a2:=kD (Γ:=(LW w F R [Md (aw (F++R)),Md (aw ((F++R).drop 1++[R.getD 0 0])),Md (rm k),none])) (fa:=aa 2) (fb:=aa 4) (s:=.leaf) (l:=F++R) (k:=k) (au rfl) (au rfl) (by simp;omega)
  rw [gA k hk] at a2;rw [gB k hk] at a1;refine aE a1 (kH ok rfl a2 lt) ?_
  rw [DE,List.contains_iff_mem.mpr (xb h k)]
 refine aQ (ar (bN t1 nofun fun _=>rfl) (ar (bN t2 nofun fun _=>rfl) (ar (cY cat rfl (by simp [aR])) (ar (bN t3 nofun fun _=>rfl) (ar (cY ah rfl (by simp)) (aZ fin rfl))))))
theorem nQ {R:List Nat} {r:Nat} (hh:(F++R).head?=some r):bX [wy F R,.int 0]=.ok ⟨.leaf,rm r⟩:=by
 have f0:∀{A:List Nat},ag (aa 0) (eK (.int 0)) (aR 2 [wy A R,.int 0])=.ok ⟨.leaf,aw A⟩ (aR 2 [wy A R,.int 0]):=iR (j:=0) (au rfl) bg rfl rfl rfl
 cases F with
 | cons a F=>
  have:a=r:=by simpa using hh
  subst this;exact aQ (Ay (bN (t:=true) (cZ (s:=.leaf) (aE (g:=gy) (au rfl) (bF (g:=aM) (d:=.int (((a::F).length:Nat):Int)) (az f0 ak) (by simp)) (by rw [KC.lt_int,decide_eq_true (by simp)]))) (fun _=>aZ (kD (k:=0) (s:=.leaf) f0 (au rfl) (by simp)) rfl) nofun))
 | nil=>
  cases R with
  | nil=>cases hh
  | cons a R=>
   have:a=r:=by simpa using hh
   subst this;have f1:ag (aa 0) (eK (.int 1)) (aR 2 [wy [] (a::R),.int 0])=.ok ⟨.leaf,aw (a::R)⟩ (aR 2 [wy [] (a::R),.int 0]):=iR (j:=1) (au rfl) bg rfl rfl rfl
   have l0:bh aM (ae (ag (aa 0) (eK (.int 0))) af) (aR 2 [wy [] (a::R),.int 0])=.ok ⟨.leaf,.int 0⟩ (aR 2 [wy [] (a::R),.int 0]):=bF (g:=aM) (az f0 ak) (by simp)
   exact aQ (ar (bN (t:=false) (cZ (s:=.leaf) (aE (g:=gy) (au rfl) l0 rfl)) nofun fun _=>rfl) (aZ (kD (k:=0) (s:=.leaf) f1 (aE (g:=gw) (d:=.int ((0:Nat):Int)) (aE (g:=gSub) (d:=.int 0) (au rfl) l0 rfl) (bF (g:=aM) (d:=.int (((a::R).length:Nat):Int)) (az f1 ak) (by simp)) (by rw [KC.mod_i (by simp)];rfl)) (by simp)) rfl))
theorem rB {w:Wd} (ok:w.Ok) {S:List Nat} (C:Ls w S) (hM:∀c∈M,c∈aY) (hl:M.length<=10) (hm:∀c∈M,∀x∈S,∃y,mI w x y/\c∈w.mks y) {p:Nat} (hp:p∈S) :
  ∃R,bQ [w.enc,bw M,rm p]=.ok ⟨.lst .leaf,aw R⟩/\R.head?=some p/\mM w (R++[p])/\(∀x∈R,x∈S)/\(∀c∈M,∃x∈R,c∈w.mks x)/\R.length<=300/\R.length<=1+(w.n-1)*(M.length+1):=by
 have h24:=ok.h24
 have lt:∀x∈S,x<w.n:=C.std.lt
 obtain ⟨Γ2,e,_,R,x4,eΓ,I,hlen,hlen2,hmet⟩:=AK PyData.str (i:=4) (body:=iB 3 (eR (fun k=>(some k,none)) (aj 3 bx (ae (aa 0) (ae (bY 3 (eU cG (eK (.int 1)))) (ae (aj 2 dg (ae (aa 0) (ae (aa 4) af))) af)))) (eK (.int 1)))) (Inv:=fun rest Γ=>(∀c∈rest,c∈M)/\∃R x4,Γ=sE w M p R x4/\RgI w S p R/\R.length+24*rest.length<=1+24*M.length/\R.length+(w.n-1)*rest.length<=1+(w.n-1)*M.length/\∀c∈M,c∈rest\/∃x∈R,c∈w.mks x)
  (fun c rest Γ ⟨hsub,R,x4,e,I,hlen,hlen2,hmet⟩=>by
   subst e;refine ⟨by simp,?_⟩
   have hcM:=hsub c mem_cons_self
   obtain ⟨z,hz,hzS⟩:=I.last;obtain ⟨y,hy,hyc⟩:=hm c hcM z hzS;have hyS:=Ip C.cl hy hzS
   obtain ⟨P,u,ep,Wp,hu,hug,hPl⟩:=Jg ok (G:=DS w c) (fun r hr=>(mem_mkd.mp hr).1) (by unfold DS;have:=length_filter_le (fun r=>(w.mks r).contains c) (List.range w.n);rw [length_range] at this;omega) (lt z hzS) hy (mem_mkd.mpr ⟨lt y hyS,hyc⟩)
   obtain ⟨q,rfl⟩:=kq Wp;have hS:∀x∈z::q,x∈S:=Ii C.cl hzS Wp.ch
   rw [length_cons] at hPl hlen hlen2
   rw [Nat.mul_succ] at hlen2;have sl:T.cutD ((z::q).map rm) (some (((1:Nat):Int))) none=q.map rm:=by
    rw [oP];rfl
   have hf:eR (fun k=>(some k,none)) (aj 3 bx (ae (aa 0) (ae (bY 3 (eU cG (eK (.int 1)))) (ae (aj 2 dg (ae (aa 0) (ae (aa 4) af))) af)))) (eK (.int 1)) (sE w M p R (Md (.str c)))=.ok ⟨.lst .leaf,.list (q.map rm)⟩ (sE w M p R (Md (.str c))):=by
    have:=oB (g:=fun k=>(some k,none)) (fa:=aj 3 bx (ae (aa 0) (ae (bY 3 (eU cG (eK (.int 1)))) (ae (aj 2 dg (ae (aa 0) (ae (aa 4) af))) af)))) (fb:=eK (.int 1)) (xs:=(z::q).map rm) (b7 (Γ:=sE w M p R (Md (.str c))) (az (au rfl) (az (GU rfl hz) (az (b7 (az (au rfl) (az (au rfl) ak)) (nR ok (hM c hcM)) rfl rfl) ak))) ep rfl rfl) bg rfl
    rw [this];exact congrArg (fun l=>Out.ok (⟨.lst .leaf,.list l⟩:PV) _) sl
   refine ⟨_,sV (i:=3) (ds:=R.map rm) rfl hf rfl (by rw [length_map,length_map];omega),fun d hd=>hsub d (L5 _ hd),R++q,Md (.str c),by rw [<-map_append];rfl,⟨⟨?_,fun x hx=>?_,pO Wp.ch I.wg.ch hz⟩,fun x hx=>?_⟩,by rw [length_append];omega,by rw [length_append];omega,fun d hd=>?_⟩
   ·have:=I.wg.hd
    cases R with
    | nil=>cases this
    | cons a s=>exact this
   ·rcases LX hx with h | h
    ·exact I.wg.lt x h
    ·exact Wp.lt x (L5 _ h)
   ·rcases LX hx with h | h
    ·exact I.inS x h
    ·exact hS x (L5 _ h)
   ·rcases hmet d hd with h | ⟨x,hx,hxd⟩
    ·rcases LZ h with rfl | h
     ·refine .inr ⟨u,?_,(mem_mkd.mp hug).2⟩
      have:=mem_of_getLast? hu
      rcases LZ this with rfl | h'
      ·exact LU _ (mem_of_getLast? hz)
      ·exact LR _ h'
     ·exact .inl h
    ·exact .inr ⟨x,LU _ hx,hxd⟩) M (sE w M p [p] none) ⟨fun c hc=>hc,[p],none,rfl,⟨⟨rfl,fun x hx=>by rw [List.mem_singleton.mp hx];exact lt p hp,trivial⟩,fun x hx=>by rw [List.mem_singleton.mp hx];exact hp⟩,by simp,by simp,fun c hc=>.inl hc⟩
 subst eΓ;obtain ⟨x,hx,hxS⟩:=I.last;have hxn:=lt x hxS
 obtain ⟨y,ys,ey⟩:∃y ys,w.stp x=y::ys:=by
  cases h:w.stp x with
  | nil=>exact absurd h (ok.stp_ne hxn)
  | cons y ys=>exact ⟨y,ys,rfl⟩
 have hyx:y∈w.stp x:=by rw [ey];exact mem_cons_self
 have hyS:=C.cl x hxS y hyx
 obtain ⟨P,u,ep,Wp,hu,hug,hPl⟩:=Jg ok (G:=[p]) (fun r hr=>by rw [List.mem_singleton.mp hr];exact lt p hp) (by simp) (lt y hyS) (C.bk y hyS p hp) mem_cons_self
 have hup:u=p:=List.mem_singleton.mp hug
 subst hup;obtain ⟨init,hP⟩:=List.getLast?_eq_some_iff.mp hu
 obtain ⟨q,hPq⟩:=kq Wp;have hS:∀v∈P,v∈S:=by rw [hPq];rw [hPq] at Wp;exact Ii C.cl hyS Wp.ch
 have dl:P.dropLast=init:=by rw [hP];simp
 rw [length_nil] at hlen hlen2
 have a1:ag (ag (ag (aa 0) (eK (.int 2))) (bY 3 (eU cG (eK (.int 1))))) (eK (.int 0)) (sE w M u R x4)=.ok ⟨.leaf,rm y⟩ (sE w M u R x4):=
  sI (j:=0) (ds:=(w.stp x).map rm) (oM ok rfl (GU rfl hx) hxn) bg (As (by rw [ey];simp)) (by rw [ey];rfl) rfl
 have sl:eR (fun k=>(none,some k)) (aj 3 bx (ae (aa 0) (ae (ag (ag (ag (aa 0) (eK (.int 2))) (bY 3 (eU cG (eK (.int 1))))) (eK (.int 0))) (ae (aV .leaf (ae (aa 2) af)) af)))) (eU cG (eK (.int 1))) (sE w M u R x4)=.ok ⟨.lst .leaf,.list (init.map rm)⟩ (sE w M u R x4):=by
  have:=oB (g:=fun k=>(none,some k)) (fa:=aj 3 bx (ae (aa 0) (ae (ag (ag (ag (aa 0) (eK (.int 2))) (bY 3 (eU cG (eK (.int 1))))) (eK (.int 0))) (ae (aV .leaf (ae (aa 2) af)) af)))) (fb:=eU cG (eK (.int 1))) (xs:=P.map rm) (k:=-1) (b7 (Γ:=sE w M u R x4) (az (au rfl) (az a1 (az (mU (s:=.leaf) (az (au rfl) ak) rfl rfl rfl) ak))) ep rfl rfl) (HF bg rfl) rfl
  rw [this];exact congrArg (fun l=>Out.ok (⟨.lst .leaf,.list l⟩:PV) _) (by rw [<-dl];exact oO)
 have il2:init.length<=w.n-1:=by
  have:=congrArg List.length hP
  rw [length_append,length_singleton] at this;omega
 have il:init.length<=24:=by omega
 have vc:=oC (fa:=aa 3) (s:=.view) (xs:=R.map rm) (Γ:=sE w M u R x4) (kB rfl) sl ye rfl (by rw [length_map,length_map];omega)
 rw [<-map_append] at vc;refine ⟨R++init,aQ (ar (Γ1:=sE w M u [u] none) (sg (mU (s:=.leaf) (az (au rfl) ak) rfl rfl rfl) rfl (by simp [aR])) (ar (dB (br (s:=.leaf) (ds:=M.map .str) (au rfl) rfl) e) (aZ vc rfl))),?_,?_,fun v hv=>?_,fun c hc=>?_,by rw [length_append];omega,by rw [length_append,Nat.mul_succ];omega⟩
 ·have:=I.wg.hd
  cases R with
  | nil=>cases this
  | cons a s=>exact this
 ·rw [append_assoc,<-hP,hPq]
  rw [hPq] at Wp;exact IB hyx Wp.ch I.wg.ch hx
 ·rcases LX hv with h | h
  ·exact I.inS v h
  ·exact hS v (by rw [hP];exact LU _ h)
 ·rcases hmet c hc with h | ⟨v,hv,hvc⟩
  ·cases h
  ·exact ⟨v,LU _ hv,hvc⟩
noncomputable abbrev LV (w:Wd) (R:List Nat) (M:List Str) (r:Nat) (l:Ev):Ev:=some ⟨.leaf,w.enc⟩::some ⟨.leaf,aw R⟩::some ⟨.leaf,bw M⟩::some ⟨.leaf,rm r⟩::l
theorem rG {w:Wd} (ok:w.Ok) {R:List Nat} (hR:Std w.n R) (hM:∀c∈M,c∈aY) (hml:M.length<=10) (hr:aT [bw M]=.ok ⟨.leaf,.bool true⟩) (hX:Fr w.n w.stp (·∈R) M (pD w) X) {r:Nat} (hrX:X r) :
  ∃F Q,nB [w.enc,aw R,bw M,rm r]=.ok ⟨.tup [.lst .leaf,.lst .leaf],wy F Q⟩/\mJ w F Q/\(∀x∈F++Q,x∈R)/\(∀c∈M,∃x∈Q,c∈w.mks x)/\F.length+Q.length<=400/\(F++Q).head?=some r/\F.length<w.n/\Q.length<=w.n*(M.length+1):=by
 have h24:=ok.h24
 obtain ⟨rows,K,er,cf,sK,fK,big⟩:=jk ok hR hM hr;have hrK:r∈K:=big X hX r hrX
 have hrn:=sK.lt r hrK
 obtain ⟨h,ep,okv⟩:=rC ok sK (fun z=>by rw [z] at hrK;cases hrK) fun x hx=>fK.c x hx
 have aK:∀k,k<K.length->(K.map rm)[k]?=some (rm (d5 K k)):=fun k hk=>by
  rw [getElem?_map,d5,L1,L0 hk];rfl
 have kl:=h.len
 obtain ⟨s,es,hs,ats⟩:=AY (Γ:=(LV w R M r [Md (aw K),Md ((df w K).enc),none,none,none,none])) (i:=4) (fb:=aa 3) (s:=.leaf) (p:=K) (t:=r) rfl (au rfl) hrK
 obtain ⟨S,eS,C,y,hyS,hy⟩:=nT okv (s:=s) hs
 obtain ⟨P,u,eP,WP,hu,huS,hPl⟩:=Jg okv (G:=S) C.std.lt (by have:=C.std.len;have:=okv.h24;omega) hs hy hyS
 have hm:∀c∈M,∀x∈S,∃y,mI (df w K) x y/\c∈(df w K).mks y:=fun c hc x hx=>by
  have hx':x<K.length:=C.std.lt x hx
  refine fK.a c hc (fun room=>∀k,k<K.length->d5 K k=room->∃y,mI (df w K) k y/\c∈(df w K).mks y) (fun q _ hq k hk e=>⟨k,.refl,by rw [uJ hk,e];exact hq⟩) (fun q _ ⟨t,ht,htK,hS⟩ k hk e=>?_) _ (Iz hx') x hx' rfl
  obtain ⟨j,hj,ej⟩:=js htK;obtain ⟨y,h1,h2⟩:=hS j hj ej;exact ⟨y,uu (by rw [uI hk];exact mem_plS.mpr ⟨hj,by rw [ej,e];exact ht⟩) h1,h2⟩
 obtain ⟨Q,eQ,hQh,hQc,hQS,hQm,hQl,hQl2⟩:=rB okv C hM hml hm huS;obtain ⟨init,hP⟩:=List.getLast?_eq_some_iff.mp hu
 have dl:P.dropLast=init:=by rw [hP];simp
 have ltQ:∀x∈Q,x<K.length:=fun x hx=>C.std.lt x (hQS x hx)
 have ltI:∀x∈init,x<K.length:=fun x hx=>WP.lt x (by rw [hP];exact LU _ hx)
 have il:init.length<=24:=by
  have e:=congrArg List.length hP
  rw [length_append] at e;have:=okv.h24
  omega
 obtain ⟨q,hQq⟩:∃q,Q=u::q:=by
  cases Q with
  | nil=>cases hQh
  | cons a q=>cases hQh;exact ⟨q,rfl⟩
 have hall:∀x∈init.map (d5 K)++Q.map (d5 K),x∈K:=fun x hx=>by
  rcases LX hx with z | z
  ·obtain ⟨k,hk,rfl⟩:=List.mem_map.mp z
   exact Iz (ltI k hk)
  ·obtain ⟨k,hk,rfl⟩:=List.mem_map.mp z
   exact Iz (ltQ k hk)
 have nK:(df w K).n=K.length:=rfl
 have hF:init.length<w.n:=by
  have e:=congrArg List.length hP
  rw [length_append,length_singleton] at e;have:=sK.len
  omega
 have hQb:Q.length<=w.n*(M.length+1):=by
  have hk:K.length<=w.n:=sK.len
  have h1:1<=K.length:=Nat.lt_of_le_of_lt (Nat.zero_le _) hs
  have h2:(K.length-1)*(M.length+1)+(M.length+1)=K.length*(M.length+1):=by
   obtain ⟨k,hk⟩:∃k,K.length=k+1:=⟨K.length-1,by omega⟩
   rw [hk,Nat.add_sub_cancel,Nat.succ_mul]
  have h3:K.length*(M.length+1)<=w.n*(M.length+1):=Nat.mul_le_mul_right _ hk
  rw [nK] at hQl2;omega
 have hhd:(init.map (d5 K)++Q.map (d5 K)).head?=some r:=by
  have hp:=WP.hd
  rw [hP] at hp
  cases init with
  | nil=>
   have:u=s:=by simpa using hp
   rw [hQq,this];show some (d5 K s)=some r
   rw [ats]
  | cons a b=>
   have:a=s:=by simpa using hp
   rw [this];show some (d5 K s)=some r
   rw [ats]
 refine ⟨init.map (d5 K),Q.map (d5 K),?_,⟨by rw [hQq];simp,fun x hx=>sK.lt x (hall x hx),?_,by rw [length_map,length_map];omega⟩,fun x hx=>fK.sub x (hall x hx),fun c hc=>?_,by rw [length_map,length_map];omega,hhd,by rw [length_map];exact hF,by rw [length_map];exact hQb⟩
 ·refine aQ (ar (zu (b7 (az (au rfl) (az (au rfl) (az (au rfl) ak))) cf rfl rfl)) (ar (zu (b7 (az (au rfl) (az (au rfl) ak)) (den_check_room ok hrn) rfl rfl)) ?_))
  refine ar (Γ1:=(LV w R M r [Md (aw K),none,none,none,none,none])) (cY (iR (j:=1) (b7 (az (au rfl) (az (au rfl) (az (au rfl) ak))) er rfl rfl) bg rfl rfl rfl) rfl (by simp [aR])) ?_
  refine ar (bN (t:=false) (cZ (s:=.leaf) (aE (g:=bB true) (au rfl) (au rfl) ?_)) nofun fun _=>rfl) ?_
  ·have e:=DE (t:=r) (r:=K)
   have sh:(shaped (rm r)&&shaped (aw K))=true:=by
    rw [Bh];rfl
   have hc:((K.map rm).any fun y=>PyData.eqv y (rm r))=true:=by
    have e2:(if shaped (rm r)&&shaped (aw K) then some (PyData.bool ((K.map rm).any fun y=>PyData.eqv y (rm r))) else none)=some (.bool (K.contains r)):=e
    rw [sh,if_pos rfl] at e2;have e3:=PyData.bool.inj (Option.some.inj e2)
    rw [e3];exact List.contains_iff_mem.mpr hrK
   show (if shaped (rm r)&&shaped (aw K) then some (PyData.bool (!(K.map rm).any fun y=>PyData.eqv y (rm r))) else none)=_
   rw [sh,hc];rfl
  refine ar (Γ1:=(LV w R M r [Md (aw K),Md ((df w K).enc),none,none,none,none])) (cY (b7 (az (au rfl) (az (au rfl) ak)) ep rfl rfl) rfl (by simp)) ?_
  refine ar (Γ1:=(LV w R M r [Md (aw K),Md ((df w K).enc),Md (rm s),none,none,none])) (cY es rfl (by simp)) ?_
  refine ar (Γ1:=(LV w R M r [Md (aw K),Md ((df w K).enc),Md (rm s),Md (aw P),none,none])) (cY (b7 (az (au rfl) (az (au rfl) (az (b7 (az (au rfl) (az (au rfl) ak)) eS rfl rfl) ak))) eP rfl rfl) rfl (by simp)) ?_
  have lp:1<=P.length:=by
   rw [hP];simp
  refine ar (Γ1:=(LV w R M r [Md (aw K),Md ((df w K).enc),Md (rm s),Md (aw P),Md (aw Q),none])) (cY (b7 (az (au rfl) (az (au rfl) (az (sI (j:=P.length-1) (ds:=P.map rm) (au (i:=7) rfl) (HF bg rfl) (by rw [length_map];exact va lp) (pF hu) rfl) ak))) eQ rfl rfl) rfl (by simp)) ?_
  generalize hΓ:((LV w R M r [Md (aw K),Md ((df w K).enc),Md (rm s),Md (aw P),Md (aw Q),none]):Ev)=Γ
  have g4:Γ[4]?=some (Md (aw K)):=by rw [<-hΓ];rfl
  have g7:Γ[7]?=some (Md (aw P)):=by rw [<-hΓ];rfl
  have g8:Γ[8]?=some (Md (aw Q)):=by rw [<-hΓ];rfl
  have gl:Γ.length=10:=by rw [<-hΓ];rfl
  have comp:∀(fi:F1) (L:List Nat),(∃sh:Sh,sh.isView=false/\fi Γ=.ok ⟨sh,aw L⟩ Γ)->L.length<=1000->(∀x∈L,x<K.length)->aq .leaf 9 (ax fi) aG (ag (aa 4) (aa 9)) Γ=.ok ⟨.lst .leaf,aw (L.map (d5 K))⟩ Γ:=fun fi L ⟨sh,hv,hf⟩ hL hlt=>by
   have:=oz (s:=.leaf) (i:=9) (fi:=ax fi) (fe:=ag (aa 4) (aa 9)) rm L (fun k=>⟨.leaf,rm (d5 K k)⟩) (st:=!sh.isView) (Γ:=Γ) (br (s:=sh) hf (by unfold dj;rw [hv];rfl)) (by omega) rfl (by omega) (fun k hk=>And.intro (sI (j:=k) (ds:=K.map rm) (au (by rw [getElem?_set_ne (by decide)];exact g4)) (au (getElem?_set_self (by omega))) (As (by rw [length_map];exact hlt k hk)) (aK k (hlt k hk)) rfl) rfl)
   rw [this];have e:(L.map (d5 K)).map rm=L.map fun k=>rm (d5 K k):=by rw [map_map];rfl
   show Out.ok (⟨.lst .leaf,.list (L.map fun k=>rm (d5 K k))⟩:PV) Γ=Out.ok (⟨.lst .leaf,.list ((L.map (d5 K)).map rm)⟩:PV) Γ
   rw [e]
  have sl:=oB (g:=fun k=>(none,some k)) (fa:=aa 7) (fb:=eU cG (eK (.int 1))) (xs:=P.map rm) (k:=-1) (Γ:=Γ) (au g7) (HF bg rfl) rfl
  have sl2:eR (fun k=>(none,some k)) (aa 7) (eU cG (eK (.int 1))) Γ=.ok ⟨.lst .leaf,aw init⟩ Γ:=by
   rw [sl];exact congrArg (fun l=>Out.ok (⟨.lst .leaf,.list l⟩:PV) Γ) (by rw [<-dl];exact oO)
  exact aZ (kA (az (comp _ init ⟨.lst .leaf,rfl,sl2⟩ (by omega) ltI) (az (comp _ Q ⟨.leaf,rfl,au g8⟩ (by omega) ltQ) ak)) rfl rfl) rfl
 ·have c1:mM (df w K) (init++(Q++[u])):=by
   rw [hQq];have hWP:=WP.ch
   rw [hP] at hWP;rw [hQq] at hQc;have:=pO (z:=u) (q:=q++[u]) hQc hWP (by simp)
   simpa [append_assoc] using this
  have c2:=wb (K:=K) (fun x hx=>by
   rcases LX hx with z | z
   ·exact ltI x z
   ·rcases LX z with z | z
    ·exact ltQ x z
    ·rw [List.mem_singleton.mp z]
     exact ltQ u (by rw [hQq];exact mem_cons_self)) c1
  have e:init.map (d5 K)++Q.map (d5 K)++(Q.map (d5 K)).take 1=(init++(Q++[u])).map (d5 K):=by
   rw [hQq];simp
  rw [e];exact c2
 ·obtain ⟨x,hx,hxc⟩:=hQm c hc
  exact ⟨d5 K x,List.mem_map.mpr ⟨x,hx,rfl⟩,by rw [<-uJ (ltQ x hx)];exact hxc⟩
noncomputable def LE (f g:FS):Prop:=∀Γ,f Γ=g Γ\/f Γ=.no
theorem Cs {a r r':FS} (h:LE r r'):LE (av a r) (av a r'):=fun Γ=>by
 unfold av
 cases a Γ with
 | nx Γ1=>exact h Γ1
 | _=>exact .inl rfl
theorem Kr {a a' r:FS} (h:LE a a'):LE (av a r) (av a' r):=fun Γ=>by
 unfold av;rcases h Γ with e | e
 ·rw [e];exact .inl rfl
 ·rw [e];exact .inr rfl
theorem le_if {c:FB} {a b:FS}:LE (cg c xr b) (cg c a b):=fun Γ=>by
 unfold cg
 cases c Γ with
 | ok t Γ1=>
  cases t with
  | true=>exact .inr rfl
  | false=>exact .inl rfl
 | er c Γ1=>exact .inl rfl
 | no=>exact .inl rfl
theorem Ct {f g:FS} {p:PV} (h:LE f g) (e:aC n f ds=.ok p):aC n g ds=.ok p:=by
 unfold aC at *
 rcases h (aR n ds) with z | z
 ·rw [<-z];exact e
 ·rw [z] at e;cases e
theorem Am {R:List Nat}:PyData.canLay0 (wy F R)=true/\PyData.depth (wy F R)<=2:=by
 have a:=rR (zw (ts:=F.map fun x:Nat=>(x:Int)))
 have b:=rR (zw (ts:=R.map fun x:Nat=>(x:Int)))
 rw [map_map] at a b
 have e:wy F R=.tuple [.list (F.map (PyData.int∘fun x:Nat=>(x:Int))),.list (R.map (PyData.int∘fun x:Nat=>(x:Int)))]:=rfl
 rw [e];simp only [PyData.canLay0,PyData.canLayAll0,PyData.depth,PyData.depthAll,a.1,b.1,a.2,b.2,Bool.and_self,true_and]
 omega
theorem IJ:∀(l:List Nat),(∀x∈l,x<24)->PyData.showableAll (l.map rm)=true/\rzL (l.map rm)=1923*l.length
 | [],_=>⟨by simp [PyData.showableAll],by simp [rzL]⟩
 | a::r,h=>by
  obtain ⟨i1,i2⟩:=IJ r fun x hx=>h x (L5 _ hx)
  have ha:=h a (by simp)
  refine ⟨?_,?_⟩
  ·have:Nat.log2 a<1920:=by
    have:=Nat.log2_le_self a
    omega
   simp only [map_cons,PyData.showableAll,i1,Bool.and_true,rm,PyData.showable,decide_eq_true_eq,Int.natAbs_natCast]
   exact this
  ·show (1921+2)+rzL (r.map rm)=1923*(r.length+1)
   rw [i2];omega
theorem Bp {R:List Nat} (h:∀x∈F++R,x<24) (hl:F.length+R.length<=400):dD [wy F R]=some (.str (wy F R).shown)/\rz (wy F R)<17000000:=by
 obtain ⟨a1,a2⟩:=IJ F fun x hx=>h x (LU _ hx)
 obtain ⟨b1,b2⟩:=IJ R fun x hx=>h x (LR _ hx)
 have c1:=(Am (F:=F) (R:=R)).1
 have c2:PyData.showable (wy F R)=true:=by
  show PyData.showable (.tuple [.list (F.map rm),.list (R.map rm)])=true
  simp only [PyData.showable,PyData.showableAll,a1,b1,Bool.and_self]
 have c3:PyData.depth (wy F R)<=50:=Nat.le_trans (Am (F:=F) (R:=R)).2 (by omega)
 have c4:rz (wy F R)<=16000000:=by
  show 3+(((2+rzL (F.map rm))+2)+(((2+rzL (R.map rm))+2)+0))<=_
  omega
 refine ⟨?_,by omega⟩
 show (if CD (wy F R)&&(wy F R).canLay0&&(wy F R).showable&&decide ((wy F R).depth<=50)&&decide (rz (wy F R)<=16000000) then some (PyData.str (wy F R).shown) else none)=_
 rw [c1,c2,decide_eq_true c3,decide_eq_true c4];rfl
theorem sh_str {t:Str} (h:PyData.strOk t=true):shaped (.str t)=true:=by
 unfold shaped;simp [PyData.canLay0,PyData.depth,h]
section
variable {w:Wd} {R:List Nat} {M:List Str} {r:Nat}
theorem yO (ok:w.Ok) (hR:Std w.n R) (hM:∀c∈M,c∈aY) (hml:M.length<=10) (hr:aT [bw M]=.ok ⟨.leaf,.bool true⟩) (hX:KC.Fr w.n w.stp (·∈R) M (pD w) X) (hrX:X r) :
  ∃F Q,cb [w.enc,aw R,bw M,rm r]=.ok ⟨.tup [.lst .leaf,.lst .leaf],wy F Q⟩/\mJ w F Q/\(∀x∈F++Q,x∈R)/\(∀c∈M,∃x∈Q,c∈w.mks x)/\F.length+Q.length<=400/\(F++Q).head?=some r/\F.length<w.n/\Q.length<=w.n*(M.length+1):=by
 obtain ⟨F,Q,e,h⟩:=rG ok hR hM hml hr hX hrX;exact ⟨F,Q,Ct (Cs (Cs (Cs (Kr le_if)))) e,h⟩
theorem vU (ok:w.Ok) (hR:Std w.n R) (hM:∀c∈M,c∈aY) (hr:aT [bw M]=.ok ⟨.leaf,.bool true⟩) (hrn:r<w.n) (no:∀X,KC.Fr w.n w.stp (·∈R) M (pD w) X->¬X r):cb [w.enc,aw R,bw M,rm r]=.er "NoWay":=by
 obtain ⟨rows,K,er,cf,sK,fK,big⟩:=jk ok hR hM hr;have hrK:K.contains r=false:=by
  cases h:K.contains r with
  | false=>rfl
  | true=>exact absurd (List.contains_iff_mem.mp h) (no _ fK)
 have t:=cZ (s:=.leaf) (aE (g:=bB true) (fa:=aa 3) (fb:=aa 4) (Γ:=(LV w R M r [Md (aw K),none,none,none,none,none])) (au (d:=rm r) rfl) (au rfl) Jm)
 rw [hrK] at t;refine FW (Γ':=(LV w R M r [Md (aw K),none,none,none,none,none])) (ar (zu (b7 (az (au rfl) (az (au rfl) (az (au rfl) ak))) cf rfl rfl)) (ar (zu (b7 (az (au rfl) (az (au rfl) ak)) (KC.den_check_room ok hrn) rfl rfl)) ?_))
 refine ar (Γ1:=(LV w R M r [Md (aw K),none,none,none,none,none])) (cY (iR (j:=1) (b7 (az (au rfl) (az (au rfl) (az (au rfl) ak))) er rfl rfl) bg rfl rfl rfl) rfl (by simp [aR])) ?_
 exact AU (bN t (fun _=>rfl) nofun)
theorem FH:ay true 4 (eK .none) (aR 6 [w.enc,aw R,bw M,rm r])=.nx (LV w R M r [Md (.none),none]):=sg bg rfl (by simp [aR])
theorem Cn {Q:List Nat} (e:cb [w.enc,aw R,bw M,rm r]=.ok ⟨.tup [.lst .leaf,.lst .leaf],wy F Q⟩):bR [w.enc,aw R,bw M,rm r]=.ok ⟨.tup [.lst .leaf,.lst .leaf],wy F Q⟩:=
 aQ (ar FH (ar (AO (sg (xi (az (au rfl) (az (au rfl) (az (au rfl) (az (au rfl) ak)))) e rfl rfl) rfl (by simp))) (aZ (zt rfl) rfl)))
theorem Co (e:cb [w.enc,aw R,bw M,rm r]=.er "NoWay"):bR [w.enc,aw R,bw M,rm r]=.ok ⟨.leaf,.str "way"⟩:=
 aQ (ar FH (ar (AQ (AS (tw (az (au rfl) (az (au rfl) (az (au rfl) (az (au rfl) ak)))) e rfl)) rfl rfl (cY (v_res AV) rfl (by simp)) rfl) (aZ (zt rfl) rfl)))
theorem vX (ok:w.Ok) (hR:Std w.n R) (hM:∀c∈M,c∈aY) (hml:M.length<=10) {Q:List Nat} (iw:mJ w F Q) (hin:∀x∈F++Q,x∈R) (hm:∀c∈M,∃x∈Q,c∈w.mks x) (hl:F.length+Q.length<=400):cA [w.enc,aw R,bw M,wy F Q]=.ok ⟨.leaf,.bool true⟩:=by
 have ew:=vW ok iw (by omega)
 have i0:∀x4 x5 x6,ag (aa 3) (eK (.int 0)) [Md w.enc,Md (aw R),Md (bw M),Md (wy F Q),x4,x5,x6]=.ok ⟨.leaf,aw F⟩ [Md w.enc,Md (aw R),Md (bw M),Md (wy F Q),x4,x5,x6]:=fun _ _ _=>iR (j:=0) (au rfl) bg rfl rfl rfl
 have i1:∀x4 x5 x6,ag (aa 3) (eK (.int 1)) [Md w.enc,Md (aw R),Md (bw M),Md (wy F Q),x4,x5,x6]=.ok ⟨.leaf,aw Q⟩ [Md w.enc,Md (aw R),Md (bw M),Md (wy F Q),x4,x5,x6]:=fun _ _ _=>iR (j:=1) (au rfl) bg rfl rfl rfl
 let G0:Ev:=[Md w.enc,Md (aw R),Md (bw M),Md (wy F Q),none,none,none]
 have cat:dJ (ag (aa 3) (eK (.int 0))) (ag (aa 3) (eK (.int 1))) G0=.ok ⟨.lst .leaf,aw (F++Q)⟩ G0:=by
  have:=oC (i0 none none none) (i1 none none none) rfl rfl (by simp;omega)
  rw [this];simp [aw,G0]
 have c1:aq .leaf 6 (ax (dJ (ag (aa 3) (eK (.int 0))) (ag (aa 3) (eK (.int 1))))) aG (aA (bB false) (aa 6) (aa 1)) G0=.ok ⟨.lst .leaf,.list ((F++Q).map fun t=>.bool (R.contains t))⟩ G0:=
  oz rm (F++Q) (fun t=>⟨.leaf,.bool (R.contains t)⟩) (st:=true) (br (s:=.lst .leaf) cat rfl) (by simp [G0]) rfl (by simp;omega) fun t ht=>⟨aE (au rfl) (au rfl) DE,rfl⟩
 have al:((F++Q).all fun t=>R.contains t)=true:=List.all_eq_true.mpr fun x hx=>List.contains_iff_mem.mpr (hin x hx)
 have ca:bh (cC false) (ae (aq .leaf 6 (ax (dJ (ag (aa 3) (eK (.int 0))) (ag (aa 3) (eK (.int 1))))) aG (aA (bB false) (aa 6) (aa 1))) af) G0=.ok ⟨.leaf,.bool true⟩ G0:=by
  rw [<-al];exact bF (az c1 ak) zB
 have t1:fF (bT (aF bt (aj 2 cx (ae (aa 0) (ae (aa 3) af))))) (bT (aF bt (bh (cC false) (ae (aq .leaf 6 (ax (dJ (ag (aa 3) (eK (.int 0))) (ag (aa 3) (eK (.int 1))))) aG (aA (bB false) (aa 6) (aa 1))) af)))) G0=.ok false G0:=
  ic (a:=false) (b:=false) (dX (b:=true) (dW (s:=.leaf) (b7 (az (au rfl) (az (au rfl) ak)) ew rfl rfl))) (dX (b:=true) (dW (s:=.leaf) ca))
 have hMs:∀x∈M,PyData.strOk x=true:=fun x hx=>(Au (hM x hx)).1
 have c2:aq .leaf 5 (ax (aa 2)) (aF ao (aA eO (bh aM (ae (aq .leaf 6 (ax (ag (aa 3) (eK (.int 1)))) (aF ao (aA (bB false) (aa 5) (ag (ag (aa 0) (eK (.int 1))) (aa 6)))) (aa 6)) af)) (eK (.int 0)))) (aa 5) G0=.ok ⟨.lst .leaf,bw (M.filter fun _=>true)⟩ G0:=by
  refine ko PyData.str M (fun _=>true) (fun t=>⟨.leaf,.str t⟩) (st:=true) (br (s:=.leaf) (au rfl) rfl) (by simp [G0]) rfl (by omega) (fun m hm'=>?_) (fun t ht _=>⟨au rfl,rfl⟩)
  have hs:=(Au (hM m hm')).1
  have c:aq .leaf 6 (ax (ag (aa 3) (eK (.int 1)))) (aF ao (aA (bB false) (aa 5) (ag (ag (aa 0) (eK (.int 1))) (aa 6)))) (aa 6) (G0.set 5 (Md (.str m)))=.ok ⟨.lst .leaf,.list ((Q.filter fun r=>(w.mks r).contains m).map fun r=>rm r)⟩ (G0.set 5 (Md (.str m))):=
   ko rm Q (fun r=>(w.mks r).contains m) (fun t=>⟨.leaf,rm t⟩) (st:=true) (br (s:=.leaf) (i1 none (Md (.str m)) none) rfl) (by simp [G0]) rfl (by omega) (fun r hr=>cZ (s:=.leaf) (aE (au rfl) (lI ok rfl (au rfl) (iw.lt r (LR _ hr))) (GM hs (GN ok r)))) (fun t ht _=>⟨au rfl,rfl⟩)
  have g:=cZ (s:=.leaf) (aE (g:=eO) (bF (g:=aM) (d:=.int ((Q.filter fun r=>(w.mks r).contains m).length:Int)) (az c ak) (by simp)) (bg (d:=.int 0)) (show _=some (PyData.bool (decide ((0:Int)<((Q.filter fun r=>(w.mks r).contains m).length:Int)))) from rfl))
  obtain ⟨x,hx1,hx2⟩:=hm m hm'
  have:0<(Q.filter fun r=>(w.mks r).contains m).length:=length_pos_of_mem (List.mem_filter.mpr ⟨hx1,List.contains_iff_mem.mpr hx2⟩)
  rw [decide_eq_true (by omega)] at g
  exact g
 rw [List.filter_eq_self.mpr (fun _ _=>rfl)] at c2
 have eq:=vM hMs hMs
 rw [beq_self_eq_true] at eq;exact aQ (ar (bN t1 nofun fun _=>rfl) (ar (Γ1:=[Md w.enc,Md (aw R),Md (bw M),Md (wy F Q),Md (bw M),none,none]) (cY c2 rfl (by simp [G0])) (aZ (aE (au rfl) (au rfl) eq) rfl)))
end
noncomputable abbrev ot (xs:List D) (w:Wd) (R:List Nat) (M:List Str) (K:List Nat) (x7 x8 x9:Option PV):Ev:=[Md (.list xs),Md w.enc,Md (rm w.n),Md (aw R),Md (bw M),Md (aw K),Md (.list [w.enc,aw R,bw M]),x7,x8,x9]
noncomputable abbrev EN:FS:=(av (ay true 8 (aj 4 bR (ae (ag (aa 6) (eK (.int 0))) (ae (ag (aa 6) (eK (.int 1))) (ae (ag (aa 6) (eK (.int 2))) (ae (aa 7) af))))))
  (av (cg (aF ao (aA gL (aa 6) (aV .leaf (ae (aa 1) (ae (aa 3) (ae (aa 4) af)))))) (aL (eK (.bool false))) aN)
  (cg (aF ao (aA (bB true) (aa 7) (aa 5))) (cg (aF ao (aA gL (aa 8) (eK (.str "way")))) (aL (eK (.bool false))) aN) (cg (fF (bT (aF bt (aj 4 cA (ae (aa 1) (ae (aa 3) (ae (aa 4) (ae (aa 8) af))))))) (aF ao (aA gL (aj 2 bX (ae (aa 8) (ae (eK (.int 0)) af))) (aa 7)))) (aL (eK (.bool false))) (cg (fF (aF ao (aA g9 (bh aM (ae (ag (aa 8) (eK (.int 0))) af)) (aa 2))) (aF ao (aA eO (bh aM (ae (ag (aa 8) (eK (.int 1))) af)) (aA gv (aa 2) (aA bu (eK (.int 1)) (bh aM (ae (aa 4) af))))))) (aL (eK (.bool false))) (av (ay false 9 (bh dD (ae (aa 8) af)))
  (av (dO 8 0 (eK (.int 0)))
  (av (dO 8 1 (eK (.int 0)))
  (cg (aF ao (aA gL (bh dD (ae (aj 4 bR (ae (ag (aa 6) (eK (.int 0))) (ae (ag (aa 6) (eK (.int 1))) (ae (ag (aa 6) (eK (.int 2))) (ae (aa 7) af))))) af)) (aa 9))) (aL (eK (.bool false))) aN)))))))))
theorem A7 {xs:List D} {w:Wd} (ok:w.Ok) {R:List Nat} (hR:Std w.n R) (hM:∀c∈M,c∈aY) (hm3:M.length<=3) (hra:aT [bw M]=.ok ⟨.leaf,.bool true⟩) {K:List Nat} (hK:∀r,r∈K↔Due w.stp R M (pD w) r) {r:Nat} (hr:r<w.n) {x8 x9:Option PV}:∃y8 y9,EN (ot xs w R M K (Md (rm r)) x8 x9)=.nx (ot xs w R M K (Md (rm r)) y8 y9):=by
 have h24:=ok.h24
 have hMs:∀x∈M,PyData.strOk x=true:=fun x hx=>(Au (hM x hx)).1
 have tH:∀y8 y9,aF ao (aA gL (aa 6) (aV .leaf (ae (aa 1) (ae (aa 3) (ae (aa 4) af))))) (ot xs w R M K (Md (rm r)) y8 y9)=.ok false (ot xs w R M K (Md (rm r)) y8 y9):=fun y8 y9=>cZ (s:=.leaf) (aE (au rfl) (mU (s:=.leaf) (az (au rfl) (az (au rfl) (az (au rfl) ak))) rfl rfl rfl) (Hh (qg ok hMs)))
 have tS:∀y8 y9,aF ao (aA (bB true) (aa 7) (aa 5)) (ot xs w R M K (Md (rm r)) y8 y9)=.ok (!K.contains r) (ot xs w R M K (Md (rm r)) y8 y9):=fun y8 y9=>cZ (s:=.leaf) (aE (au (d:=rm r) rfl) (au rfl) Jm)
 have fl:∀y8 y9,ae (ag (aa 6) (eK (.int 0))) (ae (ag (aa 6) (eK (.int 1))) (ae (ag (aa 6) (eK (.int 2))) (ae (aa 7) af))) (ot xs w R M K (Md (rm r)) y8 y9)=.ok [⟨.leaf,w.enc⟩,⟨.leaf,aw R⟩,⟨.leaf,bw M⟩,⟨.leaf,rm r⟩] (ot xs w R M K (Md (rm r)) y8 y9):=fun y8 y9=>az (sI (j:=0) (au rfl) bg rfl rfl rfl) (az (sI (j:=1) (au rfl) bg rfl rfl rfl) (az (sI (j:=2) (au rfl) bg rfl rfl rfl) (az (au rfl) ak)))
 cases hc:K.contains r with
 | false=>
  have nd:¬Due w.stp R M (pD w) r:=fun z=>by
   rw [List.contains_iff_mem.mpr ((hK r).mpr z)] at hc
   cases hc
  have em:=Co (vU ok hR hM hra hr fun X hX z=>nd (yN hX r z))
  refine ⟨some ⟨.leaf,.str "way"⟩,x9,?_⟩
  have q:=tS (Md (.str "way")) x9
  rw [hc] at q;refine ar (Γ1:=ot xs w R M K (Md (rm r)) (Md (.str "way")) x9) (sg (b7 (fl _ _) em rfl rfl) rfl (by simp)) ?_
  refine ar (bN (tH _ _) nofun fun _=>rfl) ?_
  exact bN q (fun _=>bN (t:=false) (cZ (s:=.leaf) (aE (au rfl) bg (Hh (by decide +kernel)))) nofun fun _=>rfl) nofun
 | true=>
  have du:Due w.stp R M (pD w) r:=(hK r).mp (List.contains_iff_mem.mp hc)
  obtain ⟨F,Q,ex,iw,hin,hmk,hlen,hhd,hF,hQ⟩:=yO ok hR hM (by omega) hra (Dg hR.lt) du
  have em:=Cn ex
  have lt24:∀x∈F++Q,x<24:=fun x hx=>by have:=iw.lt x hx;omega
  obtain ⟨rep,rz'⟩:=Bp lt24 hlen;have okt:=jb (wy F Q) rz'
  generalize (wy F Q).shown=tx at rep okt
  have eg:=vX ok hR hM (by omega) iw hin hmk hlen
  have ep:=nQ hhd
  have l1:(F.map rm).length<=900:=by simp;omega
  have l2:(Q.map rm).length<=1000:=by simp;omega
  have q:=tS (some ⟨.tup [.lst .leaf,.lst .leaf],wy F Q⟩) x9
  rw [hc] at q;let G1:=ot xs w R M K (Md (rm r)) (some ⟨.tup [.lst .leaf,.lst .leaf],wy F Q⟩) x9
  have v0:bh aM (ae (ag (aa 8) (eK (.int 0))) af) G1=.ok ⟨.leaf,.int (F.length:Nat)⟩ G1:=bF (g:=aM) (az (iR (j:=0) (Ef rfl) bg rfl rfl rfl) ak) (by simp)
  have v1:bh aM (ae (ag (aa 8) (eK (.int 1))) af) G1=.ok ⟨.leaf,.int (Q.length:Nat)⟩ G1:=bF (g:=aM) (az (iR (j:=1) (Ef rfl) bg rfl rfl rfl) ak) (by simp)
  have vm:bh aM (ae (aa 4) af) G1=.ok ⟨.leaf,.int (M.length:Nat)⟩ G1:=bF (g:=aM) (az (au rfl) ak) (by simp [bw])
  have g1:g9 (.int ((F.length:Nat):Int)) (.int ((w.n:Nat):Int))=some (.bool false):=by
   show some (PyData.bool (decide (((w.n:Nat):Int)<=((F.length:Nat):Int))))=_
   rw [decide_eq_false (by omega)]
  have g2:eO (.int ((Q.length:Nat):Int)) (.int ((w.n:Int)*(1+(M.length:Nat))))=some (.bool false):=by
   rw [Fc,decide_eq_false];have:((w.n*(M.length+1):Nat):Int)=(w.n:Int)*(1+(M.length:Nat)):=by
    rw [Int.natCast_mul];congr 1
    omega
   rw [<-this];omega
  have tA:fF (bT (aF bt (aj 4 cA (ae (aa 1) (ae (aa 3) (ae (aa 4) (ae (aa 8) af))))))) (aF ao (aA gL (aj 2 bX (ae (aa 8) (ae (eK (.int 0)) af))) (aa 7))) G1=.ok false G1:=
   ic (a:=false) (b:=false) (dX (b:=true) (dW (s:=.leaf) (oE (az (au rfl) (az (au rfl) (az (au rfl) (az (Ef rfl) ak)))) eg rfl rfl))) (cZ (s:=.leaf) (aE (oE (az (Ef rfl) (az bg ak)) ep rfl rfl) (au rfl) (Hh (by show shaped (.int (r:Int))=true;rfl))))
  have tB:fF (aF ao (aA g9 (bh aM (ae (ag (aa 8) (eK (.int 0))) af)) (aa 2))) (aF ao (aA eO (bh aM (ae (ag (aa 8) (eK (.int 1))) af)) (aA gv (aa 2) (aA bu (eK (.int 1)) (bh aM (ae (aa 4) af)))))) G1=.ok false G1:=
   ic (a:=false) (b:=false) (cZ (s:=.leaf) (aE v0 (au rfl) g1)) (cZ (s:=.leaf) (aE v1 (aE (g:=gv) (d:=.int ((w.n:Int)*(1+(M.length:Nat)))) (au rfl) (aE bg vm KC.add_int') (KC.mul_l (by omega) (by omega))) g2))
  let G2:=ot xs w R M K (Md (rm r)) (some ⟨.tup [.lst .leaf,.lst .leaf],wy F Q⟩) (Md (.str tx))
  have s12:ay false 9 (bh dD (ae (aa 8) af)) G1=.nx G2:=cY (bF (g:=dD) (az (Ef rfl) ak) rep) rfl (by simp [G1])
  have s3:=sX (Γ:=G2) (i:=8) (k:=0) (a:=F.map rm) (b:=Q.map rm) (c:=0) rfl (Nat.le_trans l1 (by omega)) l2 (.inl rfl)
  have s4:=sX (Γ:=ot xs w R M K (Md (rm r)) (some ⟨.tup [.lst .leaf,.lst .leaf],.tuple [.list (F.map rm++[.int 0]),.list (Q.map rm)]⟩) (Md (.str tx))) (i:=8) (k:=1) (a:=F.map rm++[.int 0]) (b:=Q.map rm) (c:=0) rfl (by rw [length_append];exact Nat.le_trans (Nat.add_le_add_right l1 1) (by omega)) l2 (.inr rfl)
  let y8:Option PV:=some ⟨.tup [.lst .leaf,.lst .leaf],.tuple [.list (F.map rm++[.int 0]),.list (Q.map rm++[.int 0])]⟩
  refine ⟨y8,Md (.str tx),?_⟩
  refine ar (Γ1:=G1) (sg (b7 (fl _ _) em rfl rfl) rfl (by simp)) ?_
  refine ar (bN (tH _ _) nofun fun _=>rfl) ?_
  refine bN q nofun fun _=>?_
  refine bN tA nofun fun _=>?_
  refine bN tB nofun fun _=>?_
  refine ar s12 (ar s3 (ar s4 ?_))
  exact bN (t:=false) (cZ (s:=.leaf) (aE (bF (g:=dD) (az (b7 (fl _ _) em rfl rfl) ak) rep) (au rfl) (Hh (sh_str okt)))) nofun fun _=>rfl
theorem yR {xs:List D} (hx:gJ xs):u6 [.list xs]=.ok ⟨.leaf,.bool true⟩:=by
 obtain ⟨n,os,ms,ss,e0,g,h1,h6⟩:=rh hx (at':=0) (lim:=6) (by omega) (by omega) (by omega)
 obtain ⟨w,ok,ew,en⟩:=EJ g h1 (by omega)
 rw [<-ew] at e0;have h24:=ok.h24
 have hn6:w.n<=6:=by omega
 obtain ⟨c7,hc7⟩:=Hd hx (k:=7) (by omega)
 obtain ⟨c8,hc8⟩:=Hd hx (k:=8) (by omega)
 obtain ⟨R,er,sR⟩:=rA (c:=c7) (n:=w.n) h24
 obtain ⟨M,em,hM,ea,hm3⟩:=nS (c:=c8)
 obtain ⟨P,ep,hP⟩:=rD ok hn6 sR;have ef:=rF ok sR hM hm3 ep
 have hK:∀r,r∈nM w R M P↔Due w.stp R M (pD w) r:=fun r=>yM hP
 generalize nM w R M P=K at ef hK
 obtain ⟨Γ',e9,_,y7,y8,y9,hΓ⟩:=AK rm (i:=7) (body:=EN) (Inv:=fun l' Γ=>(∀y∈l',y<w.n)/\∃x7 x8 x9,Γ=ot xs w R M K x7 x8 x9) (fun r rest Γ ⟨hr,x7,x8,x9,e⟩=>by
  subst e;obtain ⟨y8,y9,e⟩:=A7 (xs:=xs) ok sR hM hm3 ea hK (hr r (by simp)) (x8:=x8) (x9:=x9)
  exact ⟨by simp,_,e,fun z hz=>hr z (by simp [hz]),_,_,_,rfl⟩) (List.range w.n) (ot xs w R M K none none none) ⟨fun y hy=>List.mem_range.mp hy,none,none,none,rfl⟩
 refine aQ ?_
 refine ar (cY (b7 (az (au rfl) (az bg (az bg ak))) e0 rfl rfl) rfl (by simp [aR])) ?_
 refine ar (cY (G7 ok rfl) rfl (by simp [aR])) ?_
 refine ar (cY (b7 (az (b7 (az (au rfl) (az bg ak)) hc7 rfl rfl) (az (au rfl) ak)) er rfl rfl) rfl (by simp [aR])) ?_
 refine ar (cY (b7 (az (b7 (az (au rfl) (az bg ak)) hc8 rfl rfl) ak) em rfl rfl) rfl (by simp [aR])) ?_
 refine ar (cY (b7 (az (au rfl) (az (au rfl) (az (au rfl) ak))) ef rfl rfl) rfl (by simp [aR])) ?_
 refine ar (Γ1:=ot xs w R M K none none none) (cY (mU (s:=.leaf) (az (b7 (az (au rfl) ak) (rq ok) rfl rfl) (az (AH (au rfl) rfl) (az (AH (au rfl) rfl) ak))) rfl rfl rfl) rfl (by simp [aR])) ?_
 exact ar (dB (wx (s:=.leaf) (n:=w.n) (by omega) (az (au rfl) ak)) e9) rfl
theorem law_true (ns:List Int) (hl:ns.length<=63):u6 [.list (ns.map .int)]=.ok ⟨.leaf,.bool true⟩:=yR zw
end KQ.M.B
namespace KQ.M.B
open PySem PySem.Spec L2 T TQ
open PyProof.Rows hiding St
open KC
noncomputable def dk (n:Nat):Stmt:=(PySem.Challenge.pw_foreseehall_k52_whole_fair_ways.main.body)[n]!
noncomputable def kJ:Stmt:=dk 16
noncomputable def kM:Stmt:=dk 17
noncomputable def kL:Stmt:=dk 18
noncomputable def kK:Stmt:=dk 19
noncomputable def m9:Stmt:=dk 20
noncomputable def iy:Stmt:=dk 21
noncomputable def jz:Stmt:=dk 22
noncomputable def jy:Stmt:=dk 23
noncomputable def iz:Stmt:=dk 24
noncomputable def t5:Stmt:=dk 26
noncomputable def Bk:Stmt:=dk 30
noncomputable def t6:Stmt:=dk 32
noncomputable def nc:Stmt:=dk 33
noncomputable def ix:Stmt:=dk 34
noncomputable def iu:Stmt:=dk 35
noncomputable def m8:Stmt:=dk 36
noncomputable def m7:Stmt:=dk 37
noncomputable def jA:Stmt:=dk 39
noncomputable def gf:Stmt:=dk 40
noncomputable def qi:Stmt:=dk 41
noncomputable def gg:Stmt:=dk 42
noncomputable def qj:Stmt:=dk 43
noncomputable def gQ:Stmt:=dk 44
noncomputable def gh:Stmt:=dk 45
noncomputable def nh:Stmt:=dk 46
noncomputable def gR:Stmt:=dk 48
noncomputable def kQ:Stmt:=dk 49
noncomputable def jB:Stmt:=dk 50
noncomputable def kN:Stmt:=dk 51
noncomputable def jC:Stmt:=dk 52
noncomputable def jE:Stmt:=dk 53
noncomputable def jG:Stmt:=dk 54
noncomputable def kP:Stmt:=dk 55
noncomputable def jH:Stmt:=dk 56
noncomputable def iA:Stmt:=dk 57
noncomputable def jF:Stmt:=dk 58
noncomputable def ni:Stmt:=dk 60
noncomputable def kO:Stmt:=dk 61
noncomputable def EV:Stmt:=dk 62
noncomputable def jD:Stmt:=dk 59
structure Gl (K:Fg) (mg:Str->Option Value):Prop where
 n0:mg "len"=none
 n1:mg "range"=none
 n2:mg "all"=none
 n3:mg "sorted"=none
 n4:mg "enumerate"=none
 n5:mg "list"=none
 n6:mg "any"=none
 n7:mg "min"=none
 n8:mg "int"=none
 n9:mg "isinstance"=none
 n10:mg "bool"=none
 n11:mg "tuple"=none
 n12:mg "repr"=none
 n13:mg "ValueError"=none
 h0:ou K mg "LETTERS" bJ
 h1:ou K mg "MOST_ROOMS" dz
 h2:ou K mg "PLAYERS" cn
 xt:ExT K mg JE KO
structure Al (K:Fg) (mg:Str->Option Value):Prop where
 g:Gl K mg
 f0:Ft K mg "is_rising" kJ
 f1:Ft K mg "are_marks" kM
 f2:Ft K mg "are_rooms" kL
 f3:Ft K mg "are_steps" kK
 f4:Ft K mg "is_world" m9
 f5:Ft K mg "check_world" iy
 f6:Ft K mg "check_mark" jz
 f7:Ft K mg "check_room" jy
 f8:Ft K mg "check_rooms" iz
 f9:Ft K mg "reached" s_reached
 f10:Ft K mg "marked" t5
 f11:Ft K mg "places_of" cy
 f12:Ft K mg "placed" dN
 f13:Ft K mg "part" Bk
 f14:Ft K mg "is_led" t6
 f15:Ft K mg "is_lower" nc
 f16:Ft K mg "lower_steps" ix
 f17:Ft K mg "ranked_next" iu
 f18:Ft K mg "ranks_to" m8
 f19:Ft K mg "steps_to" m7
 f20:Ft K mg "check_fair" jA
 f21:Ft K mg "steps_to_mark" gf
 f22:Ft K mg "row_off" qi
 f23:Ft K mg "rows_and_kept" gg
 f24:Ft K mg "path_to" qj
 f25:Ft K mg "closed_rooms" gQ
 f26:Ft K mg "ring_by_marks" gh
 f27:Ft K mg "fair_way" nh
 f28:Ft K mg "_law_cell_at" gR
 f29:Ft K mg "_law_draw" kQ
 f30:Ft K mg "_law_world" jB
 f31:Ft K mg "_law_twin" kN
 f32:Ft K mg "_law_whole" jC
 f33:Ft K mg "_law_rooms" jE
 f34:Ft K mg "_law_pairs" jG
 f35:Ft K mg "_law_fair" kP
 f36:Ft K mg "_law_marks" jH
 f37:Ft K mg "_law_is_way" iA
 f38:Ft K mg "_law_place" jF
 f39:Ft K mg "_law_met" ni
 f40:Ft K mg "_law_good" kO
 f41:Ft K mg "law" EV
 f42:Ft K mg "_law_which" jD
section
variable {P:Program} {w:World} {K:Fg} {mg:Str->Option Value} {base:Heap} (A:Al K mg) (B:K.In base/\base.Ns mainGlobals mg)
include A B
theorem iE:D4 P w K mg base 1 "_law_which" JE cV:=LC (p:=Gl) A.f42 A.g "e" zd ["some"] Li [0,1] [] [0,1,2,3,4,5,6,7,8,9,10,11] fun X a C c hc hC S I hx=>
 TQ.Q.p (xa S I.r (I.xt A.g.xt) hx hc (I.gm hC) (I.gm A.g.n9) (I.gm A.g.n13))
theorem fU:DefOk P w K mg base 2 "is_rising" 1 cT:=mk A.f0 A.g ["entries"] zd ["k"] ["len", "range", "all"] [0] [0] [0,1,2] fun X S I hp=>
 (cH (wL S 2 rfl rfl I.e.n2 (aO (fD [0,1] [0] [] S 1 (EH S 1 rfl rfl I.e.n1 (aW w_de_int (aO (gK S 0 I.e.n0 (aO (ai S 0))))) (tV rfl rfl) (dm rfl)) (fun _ _ _=>w_df_nil) (fun Y1 S1 F1=>have I:=F1.i I;(pZ (kX I.r) (bA (ai S1 0) (kr (ai S1 1) w_de_int)) (bA (ai S1 0) (ai S1 1)))))) (cF rfl) rfl))
theorem fW:DefOk P w K mg base 3 "are_marks" 1 aT:=mk A.f1 A.g ["entries"] zd ["entry"] ["LETTERS", "all", "is_rising"] [0] [] [1,2] fun X S I hp=>
 (cH (zy (wL S 1 rfl rfl I.e.n2 (aO (fD [1] [] [0] S 1 (w_di_seq (ai S 0)) (fun _ _ _=>w_df_nil) (fun Y1 S1 F1=>have I:=F1.i I;(pZ (d9 I.r) (ai S1 1) (xg S1 0 rfl rfl I.e.h0))))) (cF rfl) rfl) (AJ (bZ S 2 (I.c (fU A B)) (aO (ai S 0))))))
theorem fV:DefOk P w K mg base 3 "are_rooms" 2 cz:=mk A.f2 A.g ["entries", "size"] mE ["entry"] ["all", "is_rising"] [0,1] [1] [0,1] fun X S I hp=>
 (cH (zy (wL S 0 rfl rfl I.e.n2 (aO (fD [1,2] [1] [] S 2 (w_di_seq (ai S 0)) (fun _ _ _=>w_df_nil) (fun Y1 S1 F1=>have I:=F1.i I;(zJ (BP I.r) (kX I.r) w_de_int (ai S1 2) (ai S1 1) (by with_unfolding_all rfl))))) (cF rfl) rfl) (AJ (bZ S 1 (I.c (fU A B)) (aO (ai S 0))))))
theorem lx:DefOk P w K mg base 4 "are_steps" 2 cU:=mk A.f3 A.g ["entries", "size"] mE [] ["len", "are_rooms"] [0,1] [] [0,1] fun X S I hp=>
 (cH (zy (pZ (iD I.r) (gK S 0 I.e.n0 (aO (ai S 0))) w_de_int) (AJ (bZ S 1 (I.c (fV A B)) (aW (ai S 0) (aO (ai S 1)))))))
theorem nt:DefOk P w K mg base 5 "is_world" 3 dq:=mk A.f4 A.g ["owners", "marks", "steps"] sD ["size", "owner", "row"] ["len", "MOST_ROOMS", "PLAYERS", "all", "are_marks", "are_steps"] [0,1,2,3] [3] [0,1,3] fun X S I hp=>
 (bq (cL S false 3 (gK S 0 I.e.n0 (aO (ai S 0)))) (bq (fC (sj (sO (cP (kX I.r) (ai S 3) w_de_int) (sO (cP (iD I.r) (ai S 3) (xg S 1 rfl rfl I.e.h1)) (sO (cP (kW I.r) (gK S 0 I.e.n0 (aO (ai S 1))) (ai S 3)) (zA (cP (kW I.r) (gK S 0 I.e.n0 (aO (ai S 2))) (ai S 3))))))) (cH mQ) fZ) (bq (fC (oy (iS (wL S 3 rfl rfl I.e.n2 (aO (fD [4] [] [2] S 4 (w_di_seq (ai S 0)) (fun _ _ _=>w_df_nil) (fun Y1 S1 F1=>have I:=F1.i I;(pZ (d9 I.r) (ai S1 4) (xg S1 2 rfl rfl I.e.h2))))) (cF rfl) rfl) (fun _=>rfl))) (cH mQ) fZ) (cH (zy (wL S 3 rfl rfl I.e.n2 (aO (fD [5] [] [4] S 5 (w_di_seq (ai S 1)) (fun _ _ _=>w_df_nil) (fun Y2 S2 F2=>have I:=F2.i I;(bZ S2 4 (I.c (fW A B)) (aO (ai S2 5)))))) (cF rfl) rfl) (AJ (wL S 3 rfl rfl I.e.n2 (aO (fD [3,5] [3] [5] S 5 (w_di_seq (ai S 2)) (fun _ _ _=>w_df_nil) (fun Y3 S3 F3=>have I:=F3.i I;(bZ S3 5 (I.c (lx A B)) (aW (ai S3 5) (aO (ai S3 3))))))) (cF rfl) rfl)))))))
theorem HD:DefOk P w K mg base 6 "check_world" 1 aB:=mk A.f5 A.g ["world"] zd [] ["is_world"] [0] [] [0] fun X S I hp=>
 (dG (fC (oy (iS (bZ S 0 (I.c (nt A B)) (aW (bA (ai S 0) w_de_int) (aW (bA (ai S 0) w_de_int) (aO (bA (ai S 0) w_de_int))))) (fun _=>rfl))) (dG DH) fZ))
theorem jL:DefOk P w K mg base 2 "check_mark" 1 dt:=mk A.f6 A.g ["mark"] zd [] ["LETTERS"] [0] [] [0] fun X S I hp=>
 (dG (fC (cP (Em I.r) (ai S 0) (xg S 0 rfl rfl I.e.h0)) (dG DH) fZ))
theorem eZ:DefOk P w K mg base 2 "check_room" 2 aH:=mk A.f7 A.g ["world", "room"] mE [] ["len"] [0,1] [] [0] fun X S I hp=>
 (dG (fC (oy (EG (BP I.r) (kX I.r) w_de_int (ai S 1) (gK S 0 I.e.n0 (aO (bA (ai S 0) w_de_int))) (by with_unfolding_all rfl))) (dG DH) fZ))
theorem eu:DefOk P w K mg base 4 "check_rooms" 2 cw:=mk A.f8 A.g ["world", "rooms"] mE [] ["len", "are_rooms"] [0,1] [] [0,1] fun X S I hp=>
 (dG (fC (oy (iS (bZ S 1 (I.c (fV A B)) (aW (ai S 1) (aO (gK S 0 I.e.n0 (aO (bA (ai S 0) w_de_int)))))) (fun _=>rfl))) (dG DH) fZ))
theorem jd:DefOk P w K mg base 7 "reached" 2 aP:=match A.f9 with | ⟨_,_,hm,F⟩=>nq F hm (AA F mE) A.g.n3 (HD A B) (eZ A B) rfl rfl
theorem u1:DefOk P w K mg base 7 "marked" 2 dg:=mk A.f10 A.g ["world", "mark"] mE ["room", "row"] ["check_world", "check_mark", "enumerate"] [0,1] [1] [0,1,2] fun X S I hp=>
 (bq (zD (bZ S 0 (I.c (HD A B)) (aO (ai S 0))) rfl) (bq (zD (bZ S 1 (I.c (jL A B)) (aO (ai S 1))) rfl) (cH (EI (vs':=[1,2,3]) (cs':=[1]) (lo':=[]) (gs':=[]) S .leaf 2 3 2 rfl rfl rfl rfl rfl I.e.n4 (by kernel_rfl) (by kernel_rfl) (bA (ai S 0) w_de_int) (dm rfl) (fun Y1 S1 F1=>have I:=F1.i I;kf (cP (d9 I.r) (ai S1 1) (ai S1 3))) (fun Y1 S1 F1=>have I:=F1.i I;(ai S1 2)) (fun _=>rfl)))))
theorem lu:wz P w K mg base 2:=match A.f11 with | ⟨_,_,hm,F⟩=>jK F hm (AA F mE) A.g.n3
theorem u0:DefOk P w K mg base 3 "placed" 2 bU:=match A.f12 with | ⟨_,_,hm,F⟩=>qC F hm (AA F mE) A.g.n4 A.g.n5 (lu A B) rfl
theorem Cf:DefOk P w K mg base 7 "part" 2 jU:=mk A.f13 A.g ["world", "rooms"] mE ["told"] ["check_world", "check_rooms", "placed"] [0,1,2] [] [0,1,2] fun X S I hp=>
 (bq (zD (bZ S 0 (I.c (HD A B)) (aO (ai S 0))) rfl) (bq (zD (bZ S 1 (I.c (eu A B)) (aW (ai S 0) (aO (ai S 1)))) rfl) (bq (cL S false 2 (bZ S 2 (I.c (u0 A B)) (aW (ai S 0) (aO (ai S 1))))) (bq (fC (sj (sO (oy (iS (ai S 1) (fun _=>rfl))) (zA (cP (d9 I.r) (kn .leaf wM) (bA (ai S 2) w_de_int))))) (dG DH) fZ) (cH (ai S 2))))))
theorem u2:DefOk P w K mg base 2 "is_led" 2 di:=mk A.f14 A.g ["is_chosen", "by_steps"] mE [] ["any", "all"] [0,1] [] [0,1] fun X S I hp=>
 (cH (xf (iS (ai S 0) (fun _=>rfl)) (ky S 0 rfl rfl I.e.n6 (aO (ai S 1)) (cF rfl) rfl) (wL S 1 rfl rfl I.e.n2 (aO (ai S 1)) (cF rfl) rfl)))
theorem nu:DefOk P w K mg base 2 "is_lower" 2 dr:=mk A.f15 A.g ["rank", "other"] mE [] [] [0,1] [] [] fun X S I hp=>
 (cH (zy (pZ (GZ I.r) (ai S 0) wN) (zy (pZ (GZ I.r) (ai S 1) wN) (AJ (pZ (kX I.r) (ai S 0) (ai S 1))))))
theorem iG:DefOk P w K mg base 3 "lower_steps" 3 bP:=mk A.f16 A.g ["world", "ranks", "room"] sD ["there"] ["is_lower"] [0,1,2] [1,2] [] fun X S I hp=>
 (cH (fD [1,2,3] [1,2] [0] S 3 (w_di_seq (bA (bA (ai S 0) w_de_int) (ai S 2))) (fun Y1 S1 F1=>have I:=F1.i I;kf (iS (bZ S1 0 (I.c (nu A B)) (aW (bA (ai S1 1) (ai S1 3)) (aO (bA (ai S1 1) (ai S1 2))))) (fun _=>rfl))) (fun Y1 S1 F1=>have I:=F1.i I;(ai S1 3))))
theorem iF:DefOk P w K mg base 3 "ranked_next" 4 bO:=mk A.f17 A.g ["world", "chosen", "through", "ranks"] Gi ["found", "room", "there"] ["is_led"] [0,1,2,3,4,5] [3] [0] fun X S I hp=>
 (bq (cL S true 4 (kn .leaf wM)) (bq (sM S 5 rfl rfl hp (w_di_seq (ai S 2)) (dG (fC (sj (Hq (cP (Fj I.r) (bA (ai S 3) (ai S 5)) wN) (Ho (iS (bZ S 0 (I.c (u2 A B)) (aW (bA (ai S 1) (ai S 5)) (aO (fD [3,6] [3] [] S 6 (w_di_seq (bA (bA (ai S 0) w_de_int) (ai S 5))) (fun _ _ _=>w_df_nil) (fun Y1 S1 F1=>have I:=F1.i I;(pZ (GZ I.r) (bA (ai S1 3) (ai S1 6)) wN)))))) (fun _=>rfl))))) (dG (zE S 4 rfl rfl (ai S 5) (dm rfl) rfl rfl rfl rfl)) fZ)) (fun _=>rfl)) (cH (jw S 4 rfl rfl))))
theorem nr:DefOk P w K mg base 4 "ranks_to" 4 eN:=mk A.f18 A.g ["world", "chosen", "through", "goal"] Gi ["ranks", "rank", "fresh", "room", "owner"] ["ranked_next"] [0,1,2,3,4,5,6,7] [] [0] fun X S I hp=>
 (bq (AL (vs':=[8]) (cs':=[]) (lo':=[]) (gs':=[]) S true 4 .leaf 8 rfl rfl rfl rfl (by kernel_rfl) (by kernel_rfl) (by kernel_rfl) (w_di_seq (bA (ai S 0) w_de_int)) (fun _ _ _=>w_df_nil) (fun Y1 S1 F1=>wN) (fun _=>rfl)) (bq (cL S false 5 w_de_int) (bq (cL S false 6 (ai S 3)) (bq (Hy 1000 hp (iS (ai S 6) (fun _=>rfl)) (bq (sM S 7 rfl rfl hp (w_di_seq (ai S 6)) (dG (pX S 4 rfl rfl (ai S 5) (ai S 7) rfl rfl rfl (fun _=>rfl))) (fun _=>rfl)) (bq (tj S 5 rfl rfl w_de_int) (dG (cL S false 6 (AX S 0 rfl rfl (I.c (iF A B)) (aW (ai S 0) (aW (ai S 1) (aW (ai S 2) (aO (ai S 4))))) (cF rfl) rfl)))))) (cH (jw S 4 rfl rfl))))))
theorem gS:DefOk P w K mg base 5 "steps_to" 3 cM:=mk A.f19 A.g ["world", "through", "goal"] sD ["owner"] ["ranks_to"] [0,1,2] [] [0] fun X S I hp=>
 (cH (bZ S 0 (I.c (nr A B)) (aW (ai S 0) (aW (fD [3] [] [] S 3 (w_di_seq (bA (ai S 0) w_de_int)) (fun _ _ _=>w_df_nil) (fun Y1 S1 F1=>mQ)) (aW (ai S 1) (aO (ai S 2)))))))
theorem jM:DefOk P w K mg base 7 "check_fair" 3 bW:=mk A.f20 A.g ["world", "rooms", "marks"] sD [] ["check_world", "are_marks", "check_rooms"] [0,1,2] [] [0,1,2] fun X S I hp=>
 (bq (zD (bZ S 0 (I.c (HD A B)) (aO (ai S 0))) rfl) (bq (fC (oy (iS (bZ S 1 (I.c (fW A B)) (aO (ai S 2))) (fun _=>rfl))) (dG DH) fZ) (dG (zD (bZ S 2 (I.c (eu A B)) (aW (ai S 0) (aO (ai S 1)))) rfl))))
theorem gk:DefOk P w K mg base 6 "steps_to_mark" 3 bC:=mk A.f21 A.g ["world", "rooms", "mark"] sD ["room"] ["steps_to"] [0,1,2] [0,2] [0] fun X S I hp=>
 (cH (bZ S 0 (I.c (gS A B)) (aW (ai S 0) (aW (ai S 1) (aO (fD [0,2,3] [0,2] [] S 3 (w_di_seq (ai S 1)) (fun Y1 S1 F1=>have I:=F1.i I;kf (cP (d9 I.r) (ai S1 2) (bA (bA (ai S1 0) w_de_int) (ai S1 3)))) (fun Y1 S1 F1=>have I:=F1.i I;(ai S1 3))))))))
theorem jc:DefOk P w K mg base 7 "row_off" 3 ck:=mk A.f22 A.g ["world", "left", "marks"] sD ["ended", "mark", "ranks", "lost", "room", "there"] ["any", "steps_to_mark"] [0,1,2,3,4,5,6] [0,1,5] [1] fun X S I hp=>
 (bq (AL (vs':=[0,1,7]) (cs':=[0,1]) (lo':=[]) (gs':=[0]) S false 3 .leaf 7 rfl rfl rfl rfl (by kernel_rfl) (by kernel_rfl) (by kernel_rfl) (w_di_seq (ai S 1)) (fun Y1 S1 F1=>have I:=F1.i I;kf (oy (iS (ky S1 0 rfl rfl I.e.n6 (aO (fD [1,8] [1] [] S1 8 (w_di_seq (bA (bA (ai S1 0) w_de_int) (ai S1 7))) (fun _ _ _=>w_df_nil) (fun Y2 S2 F2=>have I:=F2.i I;(pZ (d9 I.r) (ai S2 8) (ai S2 1))))) (cF rfl) rfl) (fun _=>rfl)))) (fun Y1 S1 F1=>have I:=F1.i I;(ai S1 7)) (fun _=>rfl)) (bq (fC (iS (ai S 3) (fun _=>rfl)) (cH (pW (aW (ai S 3) (aO wN)))) fZ) (bq (sM S 4 rfl rfl hp (w_di_seq (ai S 2)) (bq (cL S false 5 (bZ S 1 (I.c (gk A B)) (aW (ai S 0) (aW (ai S 1) (aO (ai S 4)))))) (bq (AL (vs':=[5,7]) (cs':=[5]) (lo':=[]) (gs':=[]) S false 6 .leaf 7 rfl rfl rfl rfl (by kernel_rfl) (by kernel_rfl) (by kernel_rfl) (w_di_seq (ai S 1)) (fun Y3 S3 F3=>have I:=F3.i I;kf (cP (Fj I.r) (bA (ai S3 5) (ai S3 7)) wN)) (fun Y3 S3 F3=>have I:=F3.i I;(ai S3 7)) (fun _=>rfl)) (dG (fC (iS (ai S 6) (fun _=>rfl)) (cH (pW (aW (ai S 6) (aO (ai S 4))))) fZ)))) (fun _=>rfl)) (cH wN))))
theorem gp:DefOk P w K mg base 8 "rows_and_kept" 3 bD:=mk A.f23 A.g ["world", "rooms", "marks"] sD ["rows", "left", "row", "room"] ["list", "row_off"] [0,1,2,3,4,5] [5] [0,1] fun X S I hp=>
 (bq (cL S true 3 (kn .leaf wM)) (bq (cL S false 4 (w_cb_list S 0 rfl rfl I.e.n5 (ai S 1) (dm rfl))) (bq (cL S false 5 (bZ S 1 (I.c (jc A B)) (aW (ai S 0) (aW (ai S 4) (aO (ai S 2)))))) (bq (Hy 1000 hp (cP (GZ I.r) (ai S 5) wN) (bq (zE S 3 rfl rfl (ai S 5) (dm rfl) rfl rfl rfl rfl) (bq (AL (vs':=[5,6]) (cs':=[5]) (lo':=[]) (gs':=[]) S false 4 .leaf 6 rfl rfl rfl rfl (by kernel_rfl) (by kernel_rfl) (by kernel_rfl) (w_di_seq (ai S 4)) (fun Y1 S1 F1=>have I:=F1.i I;kf (cP (Em I.r) (ai S1 6) (bA (ai S1 5) w_de_int))) (fun Y1 S1 F1=>have I:=F1.i I;(ai S1 6)) (fun _=>rfl)) (dG (cL S false 5 (bZ S 1 (I.c (jc A B)) (aW (ai S 0) (aW (ai S 4) (aO (ai S 2)))))))))) (cH (pW (aW (jw S 3 rfl rfl) (aO (ai S 4)))))))))
theorem Jn:DefOk P w K mg base 6 "path_to" 3 bx:=mk A.f24 A.g ["world", "room", "goal"] sD ["ranks", "path"] ["len", "list", "range", "steps_to", "lower_steps"] [0,1,2,3,4] [] [0,1,2,3,4] fun X S I hp=>
 (bq (cL S false 3 (bZ S 3 (I.c (gS A B)) (aW (ai S 0) (aW (gO S 1 2 rfl rfl I.e.n5 rfl rfl I.e.n1 (aO (gK S 0 I.e.n0 (aO (bA (ai S 0) w_de_int)))) (dm rfl) (dm rfl)) (aO (ai S 2)))))) (bq (cL S true 4 (kn .leaf (aO (ai S 1)))) (bq (Hy 100 hp (cP (iD I.r) (bA (ai S 3) (Hn S 4 rfl rfl (AI w_de_int) (fun _ _=>rfl))) w_de_int) (dG (zE S 4 rfl rfl (bA (bZ S 4 (I.c (iG A B)) (aW (ai S 0) (aW (ai S 3) (aO (Hn S 4 rfl rfl (AI w_de_int) (fun _ _=>rfl)))))) w_de_int) (dm rfl) rfl rfl rfl rfl))) (cH (jw S 4 rfl rfl)))))
theorem gT:DefOk P w K mg base 8 "closed_rooms" 2 bV:=mk A.f25 A.g ["world", "room"] mE ["there"] ["reached", "min", "len"] [0,1] [0] [0,1,2] fun X S I hp=>
 (cH (pY S 1 2 rfl rfl I.e.n7 rfl rfl I.e.n0 (fD [0,2] [0] [0] S 2 (w_di_seq (bZ S 0 (I.c (jd A B)) (aW (ai S 0) (aO (ai S 1))))) (fun _ _ _=>w_df_nil) (fun Y1 S1 F1=>have I:=F1.i I;(bZ S1 0 (I.c (jd A B)) (aW (ai S1 0) (aO (ai S1 2)))))) (dm rfl)))
theorem gq:DefOk P w K mg base 8 "ring_by_marks" 3 bQ:=mk A.f26 A.g ["world", "marks", "room"] sD ["ring", "mark"] ["marked", "path_to"] [0,1,2,3,4] [] [0,1] fun X S I hp=>
 (bq (cL S true 3 (kn .leaf (aO (ai S 2)))) (bq (sM S 4 rfl rfl hp (w_di_seq (ai S 1)) (dG (fN S 3 rfl rfl (fO (bZ S 1 (I.c (Jn A B)) (aW (ai S 0) (aW (Hn S 3 rfl rfl (AI w_de_int) (fun _ _=>rfl)) (aO (bZ S 0 (I.c (u1 A B)) (aW (ai S 0) (aO (ai S 4)))))))) w_de_int) (dm rfl) rfl rfl rfl rfl)) (fun _=>rfl)) (cH (Hk (ai S 3) (iY (bZ S 1 (I.c (Jn A B)) (aW (ai S 0) (aW (bA (bA (bA (ai S 0) w_de_int) (Hn S 3 rfl rfl (AI w_de_int) (fun _ _=>rfl))) w_de_int) (aO (kn .leaf (aO (ai S 2))))))) (AI w_de_int))))))
theorem lj:DefOkX P w K mg base 9 "fair_way" 4 cb:=Lz (p:=Gl) A.f27 A.g ["world", "rooms", "marks", "room"] Gi ["kept", "inner", "start", "path", "ring", "number"] ["check_fair", "check_room", "rows_and_kept", "NoWay", "part", "closed_rooms", "path_to", "ring_by_marks"] [0,1,2,3,4,5,6,7,8] [4] [0,1,2,3,4,5,6,7] fun X W S I th mk=>
 (bq (zD (bZ S 0 (I.c (jM A B)) (aW (ai S 0) (aW (ai S 1) (aO (ai S 2))))) rfl) (bq (zD (bZ S 1 (I.c (eZ A B)) (aW (ai S 0) (aO (ai S 3)))) rfl) (bq (cL S false 4 (bA (bZ S 2 (I.c (gp A B)) (aW (ai S 0) (aW (ai S 1) (aO (ai S 2))))) w_de_int)) (bq (fC (cP (Em I.r) (ai S 3) (ai S 4)) (dG (mV S mk 3 (I.ra (A.g.xt.rais B.1 B.2)))) fZ) (bq (cL S false 5 (bZ S 4 (I.c (Cf A B)) (aW (ai S 0) (aO (ai S 4))))) (bq (cL S false 6 (tm S 4 rfl rfl (ai S 3) rfl (dm rfl) rfl)) (bq (cL S false 7 (bZ S 6 (I.c (Jn A B)) (aW (ai S 5) (aW (ai S 6) (aO (bZ S 5 (I.c (gT A B)) (aW (ai S 5) (aO (ai S 6))))))))) (bq (cL S false 8 (bZ S 7 (I.c (gq A B)) (aW (ai S 5) (aW (ai S 2) (aO (bA (ai S 7) (AI w_de_int))))))) (cH (pW (aW (fD [4,9] [4] [] S 9 (w_di_seq (iY (ai S 7) (AI w_de_int))) (fun _ _ _=>w_df_nil) (fun Y1 S1 F1=>(bA (ai S1 4) (ai S1 9)))) (aO (fD [4,9] [4] [] S 9 (w_di_seq (ai S 8)) (fun _ _ _=>w_df_nil) (fun Y2 S2 F2=>(bA (ai S2 4) (ai S2 9))))))))))))))))
theorem Hz:DefOk P w K mg base 2 "_law_cell_at" 2 bc:=mk A.f28 A.g ["script", "k"] mE [] ["len"] [0,1] [] [0] fun X S I hp=>
 (bq (fC (cP (kX I.r) (ai S 1) (gK S 0 I.e.n0 (aO (ai S 0)))) (cH (bA (ai S 0) (ai S 1))) fZ) (cH w_de_int))
theorem DO:DefOk P w K mg base 2 "_law_draw" 3 aD:=mk A.f29 A.g ["cell", "k", "bound"] sD ["stir", "left", "j"] ["range"] [0,1,2,3,4,5] [] [0] fun X S I hp=>
 (bq (fC (cP (Fl I.r) (ai S 0) (sZ w_de_int w_de_int)) (bq (cL S false 4 (ai S 0)) (bq (sM S 5 rfl rfl hp (iX S 0 rfl rfl I.e.n1 (aO (ai S 1)) (dm rfl)) (dG (cL S false 4 (ku (ai S 4) (ai S 2)))) (fun _=>rfl)) (cH (zz (ai S 4) (ai S 2))))) fZ) (bq (cL S false 3 (zz (DL (sv (sv (zz (ai S 0) w_de_int) (DL w_de_int (ai S 1))) w_de_int) w_de_int) w_de_int)) (bq (cL S false 3 (zz (sv (sv (DL (ai S 3) (ai S 3)) (DL w_de_int (ai S 1))) w_de_int) w_de_int)) (cH (zz (ku (zz (DL (ai S 3) w_de_int) w_de_int) w_de_int) (ai S 2))))))
theorem jN:DefOk P w K mg base 3 "_law_world" 3 dv:=mk A.f30 A.g ["script", "at", "most"] sD ["many", "owners", "marks", "steps", "room", "cell", "row", "there", "mark"] ["_law_cell_at", "range", "_law_draw", "int"] [0,1,2,3,4,5,6,7,8,9] [3,8] [0,1,2] fun X S I hp=>
 (bq (cL S false 3 (sv w_de_int (zz (bZ S 0 (I.c (Hz A B)) (aW (ai S 0) (aO (ai S 1)))) (ai S 2)))) (bq (cL S true 4 (kn .leaf wM)) (bq (cL S true 5 (kn .leaf wM)) (bq (cL S true 6 (kn .leaf wM)) (bq (sM S 7 rfl rfl hp (iX S 1 rfl rfl I.e.n1 (aO (ai S 3)) (dm rfl)) (bq (cL S false 8 (bZ S 0 (I.c (Hz A B)) (aW (ai S 0) (aO (sv (sv (ai S 1) w_de_int) (ai S 7)))))) (bq (zE S 4 rfl rfl (bZ S 2 (I.c (DO A B)) (aW (ai S 8) (aW w_de_int (aO w_de_int)))) (dm rfl) rfl rfl rfl rfl) (bq (zE S 5 rfl rfl (fD [8,11] [8] [2] S 11 (iU (by kernel_rfl)) (fun Y1 S1 F1=>have I:=F1.i I;kf (cP (nk I.r) (bZ S1 2 (I.c (DO A B)) (aW (ai S1 8) (aW (sv w_de_int (iZ (ai S1 11) (dm rfl) rfl)) (aO w_de_int)))) w_de_int)) (fun Y1 S1 F1=>have I:=F1.i I;(ai S1 11))) (dm rfl) rfl rfl rfl rfl) (bq (AL (vs':=[3,8,10]) (cs':=[3,8]) (lo':=[]) (gs':=[2,3]) S false 9 .leaf 10 rfl rfl rfl rfl (by kernel_rfl) (by kernel_rfl) (by kernel_rfl) (iX S 1 rfl rfl I.e.n1 (aO (ai S 3)) (dm rfl)) (fun Y2 S2 F2=>have I:=F2.i I;kf (cP (nk I.r) (bZ S2 2 (I.c (DO A B)) (aW (ai S2 8) (aW (sv w_de_int (ai S2 10)) (aO (sv w_de_int (tu S2 3 rfl rfl I.e.n8 (aO (pZ (iD I.r) (ai S2 3) w_de_int)) (cF rfl) rfl)))))) w_de_int)) (fun Y2 S2 F2=>have I:=F2.i I;(ai S2 10)) (fun _=>rfl)) (bq (fC (cP (nk I.r) (ai S 9) (kn .leaf wM)) (dG (cL S false 9 (kn .leaf (aO (bZ S 2 (I.c (DO A B)) (aW (ai S 8) (aW (sv w_de_int (ai S 3)) (aO (ai S 3))))))))) fZ) (dG (zE S 6 rfl rfl (ai S 9) (dm rfl) rfl rfl rfl rfl))))))) (fun _=>rfl)) (cH (pW (aW (jw S 4 rfl rfl) (aW (jw S 5 rfl rfl) (aO (jw S 6 rfl rfl)))))))))))
theorem ly:DefOk P w K mg base 2 "_law_twin" 1 dQ:=mk A.f31 A.g ["world"] zd ["row"] ["list"] [0] [] [0] fun X S I hp=>
 (cH (pW (aW (w_cb_list S 0 rfl rfl I.e.n5 (bA (ai S 0) w_de_int) (dm rfl)) (aW (fD [1] [] [0] S 1 (w_di_seq (bA (ai S 0) w_de_int)) (fun _ _ _=>w_df_nil) (fun Y1 S1 F1=>have I:=F1.i I;(w_cb_list S1 0 rfl rfl I.e.n5 (ai S1 1) (dm rfl)))) (aO (fD [1] [] [0] S 1 (w_di_seq (bA (ai S 0) w_de_int)) (fun _ _ _=>w_df_nil) (fun Y2 S2 F2=>have I:=F2.i I;(w_cb_list S2 0 rfl rfl I.e.n5 (ai S2 1) (dm rfl)))))))))
theorem jO:DefOk P w K mg base 2 "_law_whole" 1 cI:=mk A.f32 A.g ["found"] zd [] ["isinstance", "int", "bool"] [0] [] [0,1,2] fun X S I hp=>
 (cH (zy (Ew S 0 1 rfl rfl rfl rfl rfl Ap I.e.n9 I.e.n8 (ai S 0) (cF rfl) (cF rfl) rfl) (AJ (tf (Ew S 0 2 rfl rfl rfl rfl rfl Dt I.e.n9 I.e.n10 (ai S 0) (cF rfl) (cF rfl) rfl)))))
theorem jP:DefOk P w K mg base 3 "_law_rooms" 2 dw:=mk A.f33 A.g ["cell", "many"] mE ["room"] ["range", "_law_draw"] [0,1] [0] [0] fun X S I hp=>
 (cH (fD [0,2] [0] [1] S 2 (iX S 0 rfl rfl I.e.n1 (aO (ai S 1)) (dm rfl)) (fun Y1 S1 F1=>have I:=F1.i I;kf (cP (iD I.r) (bZ S1 1 (I.c (DO A B)) (aW (ai S1 0) (aW (ai S1 2) (aO w_de_int)))) w_de_int)) (fun Y1 S1 F1=>have I:=F1.i I;(ai S1 2))))
theorem jR:DefOk P w K mg base 2 "_law_pairs" 2 cJ:=mk A.f34 A.g ["world", "rooms"] mE ["pairs", "room", "more", "one", "there"] ["list"] [0,1,2,3,4,5,6] [1,3] [0] fun X S I hp=>
 (bq (cL S true 2 (kn .leaf wM)) (bq (sM S 3 rfl rfl hp (w_di_seq (ai S 1)) (dG (fN S 2 rfl rfl (fD [1,3,6] [1,3] [] S 6 (w_di_seq (bA (bA (ai S 0) w_de_int) (ai S 3))) (fun Y1 S1 F1=>have I:=F1.i I;kf (cP (d9 I.r) (ai S1 6) (ai S1 1))) (fun Y1 S1 F1=>have I:=F1.i I;(pW (aW (ai S1 3) (aO (ai S1 6)))))) (dm rfl) rfl rfl rfl rfl)) (fun _=>rfl)) (bq (cL S false 4 mQ) (bq (Hy 1000 hp (iS (ai S 4) (fun _=>rfl)) (bq (cL S false 4 mQ) (dG (sM S 5 rfl rfl hp (w_di_seq (mW S 0 rfl rfl I.e.n5 2 rfl rfl (dm rfl))) (dG (sM S 6 rfl rfl hp (w_di_seq (ai S 1)) (dG (fC (sj (Hq (cP (d9 I.r) (pW (aW (bA (ai S 5) w_de_int) (aO (ai S 6)))) (ai S 2)) (Ho (cP (Em I.r) (pW (aW (bA (ai S 5) w_de_int) (aO (ai S 6)))) (ai S 2))))) (bq (zE S 2 rfl rfl (pW (aW (bA (ai S 5) w_de_int) (aO (ai S 6)))) (dm rfl) rfl rfl rfl rfl) (dG (cL S false 4 mQ))) fZ)) (fun _=>rfl))) (fun _=>rfl))))) (cH (jw S 2 rfl rfl))))))
theorem lB:DefOk P w K mg base 3 "_law_fair" 3 dR:=mk A.f35 A.g ["world", "rooms", "marks"] sD ["pairs", "homes", "home", "ring", "met", "room", "mark"] ["_law_pairs", "len"] [0,1,2,3,4,5,6,7] [0,3,4,5,6] [0,1] fun X S I hp=>
 (bq (cL S false 3 (bZ S 0 (I.c (jR A B)) (aW (ai S 0) (aO (ai S 1))))) (bq (cL S true 4 (kn .leaf wM)) (bq (sM S 5 rfl rfl hp (w_di_seq (ai S 1)) (bq (kx S false 6 rfl rfl (kG (S.cel 6 _ rfl rfl)) (fD [3,5,8] [3,5] [] S 8 (w_di_seq (ai S 1)) (fun Y1 S1 F1=>have I:=F1.i I;kf (sj (Hq (cP (d9 I.r) (pW (aW (ai S1 5) (aO (ai S1 8)))) (ai S1 3)) (Ho (cP (d9 I.r) (pW (aW (ai S1 8) (aO (ai S1 5)))) (ai S1 3)))))) (fun Y1 S1 F1=>have I:=F1.i I;(ai S1 8)))) (bq (AL (vs':=[0,6,9]) (cs':=[0,6,9]) (lo':=[]) (gs':=[1]) S false 7 .leaf 9 rfl rfl rfl rfl (by kernel_rfl) (by kernel_rfl) (by kernel_rfl) (w_di_seq (ai S 2)) (fun Y2 S2 F2=>have I:=F2.i I;kf (cP (iD I.r) (gK S2 1 I.e.n0 (aO (fD [0,8,9] [0,9] [] S2 8 (w_di_seq (ai S2 6)) (fun Y3 S3 F3=>have I:=F3.i I;kf (cP (d9 I.r) (ai S3 9) (bA (bA (ai S3 0) w_de_int) (ai S3 8)))) (fun Y3 S3 F3=>have I:=F3.i I;(ai S3 8))))) w_de_int)) (fun Y2 S2 F2=>have I:=F2.i I;(ai S2 9)) (fun _=>rfl)) (dG (fC (sj (Hq (cP (iD I.r) (gK S 1 I.e.n0 (aO (ai S 6))) w_de_int) (Ho (cP (nk I.r) (ai S 7) (ai S 2))))) (dG (zE S 4 rfl rfl (ai S 5) (dm rfl) rfl rfl rfl rfl)) fZ)))) (fun _=>rfl)) (cH (fD [3,4,8] [3,4,8] [1] S 8 (w_di_seq (ai S 1)) (fun Y4 S4 F4=>have I:=F4.i I;kf (sj (sO (cP (d9 I.r) (ai S4 8) (ai S4 4)) (zA (cP (iD I.r) (gK S4 1 I.e.n0 (aO (fD [3,5,8] [3,8] [] S4 5 (w_di_seq (ai S4 4)) (fun Y5 S5 F5=>have I:=F5.i I;kf (cP (d9 I.r) (pW (aW (ai S5 8) (aO (ai S5 5)))) (ai S5 3))) (fun Y5 S5 F5=>have I:=F5.i I;(ai S5 5))))) w_de_int))))) (fun Y4 S4 F4=>have I:=F4.i I;(ai S4 8)))))))
theorem jS:DefOk P w K mg base 3 "_law_marks" 1 dy:=mk A.f36 A.g ["cell"] zd ["mark"] ["_law_draw"] [0] [0] [] fun X S I hp=>
 (cH (fD [0,1] [0] [0] S 1 (iU (by kernel_rfl)) (fun Y1 S1 F1=>have I:=F1.i I;kf (cP (nk I.r) (bZ S1 0 (I.c (DO A B)) (aW (ai S1 0) (aW (iZ (ai S1 1) (dm rfl) rfl) (aO w_de_int)))) w_de_int)) (fun Y1 S1 F1=>have I:=F1.i I;(ai S1 1))))
theorem iH:DefOk P w K mg base 3 "_law_is_way" 2 cx:=mk A.f37 A.g ["world", "found"] mE ["rooms", "ahead", "k", "room"] ["isinstance", "tuple", "len", "list", "_law_whole", "all", "range"] [0,1,2,3] [0,2,3] [0,1,2,3,5,6] fun X S I hp=>
 (bq (fC (sj (sO (oy (iS (Ew S 0 1 rfl rfl rfl rfl rfl ze I.e.n9 I.e.n11 (ai S 1) (cF rfl) (cF rfl) rfl) (fun _=>rfl))) (sO (cP (kW I.r) (gK S 2 I.e.n0 (aO (ai S 1))) w_de_int) (zA (oy (iS (Ew S 0 3 rfl rfl rfl rfl rfl D6 I.e.n9 I.e.n5 (bA (ai S 1) w_de_int) (cF rfl) (cF rfl) rfl) (fun _=>rfl))))))) (cH mQ) fZ) (bq (fC (sj (sO (oy (iS (Ew S 0 3 rfl rfl rfl rfl rfl D6 I.e.n9 I.e.n5 (bA (ai S 1) w_de_int) (cF rfl) (cF rfl) rfl) (fun _=>rfl))) (zA (cP (nk I.r) (gK S 2 I.e.n0 (aO (bA (ai S 1) w_de_int))) w_de_int)))) (cH mQ) fZ) (bq (cL S false 2 (Hk (bA (ai S 1) w_de_int) (bA (ai S 1) w_de_int))) (bq (fC (oy (iS (wL S 5 rfl rfl I.e.n2 (aO (fD [0,5] [0] [2,4] S 5 (w_di_seq (ai S 2)) (fun _ _ _=>w_df_nil) (fun Y1 S1 F1=>have I:=F1.i I;(zy (bZ S1 4 (I.c (jO A B)) (aO (ai S1 5))) (AJ (zJ (BP I.r) (kX I.r) w_de_int (ai S1 5) (gK S1 2 I.e.n0 (aO (bA (ai S1 0) w_de_int))) (by with_unfolding_all rfl))))))) (cF rfl) rfl) (fun _=>rfl))) (cH mQ) fZ) (bq (cL S false 3 (Hk (fO (ai S 2) w_de_int) (kn .leaf (aO (bA (bA (ai S 1) w_de_int) w_de_int))))) (cH (wL S 5 rfl rfl I.e.n2 (aO (fD [0,2,3,4] [0,2,3] [] S 4 (iX S 6 rfl rfl I.e.n1 (aO (gK S 2 I.e.n0 (aO (ai S 2)))) (dm rfl)) (fun _ _ _=>w_df_nil) (fun Y2 S2 F2=>have I:=F2.i I;(pZ (d9 I.r) (bA (ai S2 3) (ai S2 4)) (bA (bA (ai S2 0) w_de_int) (bA (ai S2 2) (ai S2 4))))))) (cF rfl) rfl)))))))
theorem jQ:DefOk P w K mg base 2 "_law_place" 2 bX:=mk A.f38 A.g ["way", "place"] mE [] ["len"] [0,1] [] [0] fun X S I hp=>
 (bq (fC (cP (kX I.r) (ai S 1) (gK S 0 I.e.n0 (aO (bA (ai S 0) w_de_int)))) (cH (bA (bA (ai S 0) w_de_int) (ai S 1))) fZ) (cH (bA (bA (ai S 0) w_de_int) (zz (kr (ai S 1) (gK S 0 I.e.n0 (aO (bA (ai S 0) w_de_int)))) (gK S 0 I.e.n0 (aO (bA (ai S 0) w_de_int)))))))
theorem gU:DefOk P w K mg base 10 "_law_met" 4 bR:=LA (p:=Gl) A.f39 A.g ["world", "rooms", "marks", "room"] Gi ["told", "e"] ["fair_way", "HallError", "_law_which"] [0,1,2,3,4,5] [] [0,1,2] fun X S I st hp=>
 (bq (cL S true 4 wN) (bq (EF S st 5 1 (I.xt A.g.xt) (fun pins W=>have th:=JN (X:=X) (pins:=pins) (W:=W) ;have S:=S.try;have I:=I.try;(dG (cL S true 4 (AW S th 0 (I.x (lj A B)) (aW (ai S 0) (aW (ai S 1) (aW (ai S 2) (aO (ai S 3))))))))) fun pins a C oe c hc hC hcl hd=>CP S.hand rfl rfl (C1 S st.1 st.2 (I.eE (iE A B)) I.rm rfl hc hC hcl hd rfl rfl 2 rfl rfl)) (cH (jw S 4 rfl rfl))))
theorem lz:DefOk P w K mg base 4 "_law_good" 4 cA:=mk A.f40 A.g ["world", "rooms", "marks", "found"] Gi ["met", "mark", "room"] ["_law_is_way", "all", "len"] [0,1,2,3,4] [0,1,3] [0,1] fun X S I hp=>
 (bq (fC (sj (sO (oy (iS (bZ S 0 (I.c (iH A B)) (aW (ai S 0) (aO (ai S 3)))) (fun _=>rfl))) (zA (oy (iS (wL S 1 rfl rfl I.e.n2 (aO (fD [1,6] [1] [] S 6 (w_di_seq (Hk (bA (ai S 3) w_de_int) (bA (ai S 3) w_de_int))) (fun _ _ _=>w_df_nil) (fun Y1 S1 F1=>have I:=F1.i I;(pZ (d9 I.r) (ai S1 6) (ai S1 1))))) (cF rfl) rfl) (fun _=>rfl)))))) (cH mQ) fZ) (bq (AL (vs':=[0,3,5]) (cs':=[0,3,5]) (lo':=[]) (gs':=[2]) S false 4 .leaf 5 rfl rfl rfl rfl (by kernel_rfl) (by kernel_rfl) (by kernel_rfl) (w_di_seq (ai S 2)) (fun Y2 S2 F2=>have I:=F2.i I;kf (cP (iD I.r) (gK S2 2 I.e.n0 (aO (fD [0,5,6] [0,5] [] S2 6 (w_di_seq (bA (ai S2 3) w_de_int)) (fun Y3 S3 F3=>have I:=F3.i I;kf (cP (d9 I.r) (ai S3 5) (bA (bA (ai S3 0) w_de_int) (ai S3 6)))) (fun Y3 S3 F3=>have I:=F3.i I;(ai S3 6))))) w_de_int)) (fun Y2 S2 F2=>have I:=F2.i I;(ai S2 5)) (fun _=>rfl)) (cH (pZ (nk I.r) (ai S 4) (ai S 2)))))
end
section
variable {P:Program} {w:World} {K:Fg} {mg:Str->Option Value} (A:Al K mg)
include A
theorem o_law {fa:Addr} (hfa:mg "law"=some (.ref fa)):∃fd:FuncData,(∀(s:Shared) (v:Value),BindsTo s fd ⟨[v],[]⟩ [("script",v)])/\∀base:Heap,K.In base->base.Ns mainGlobals mg->cO P w K mg base ip 11 fa fd ["script"] (qf K 1 u6):=Kp (p:=Gl) A.f41 A.g "script" zd hfa ["world", "many", "rooms", "marks", "fair", "handed", "room", "found", "kept"] ["_law_world", "len", "_law_cell_at", "_law_rooms", "_law_marks", "_law_fair", "_law_twin", "list", "range", "_law_met", "_law_good", "_law_place", "repr"] [0,1,2,3,4,5,6,7,8,9] [] [0,1,2,3,4,5,6,7,8,9,10,11,12] fun base B X S I st hp=>
 (bq (cL S false 1 (bZ S 0 (I.c (jN A B)) (aW (ai S 0) (aW w_de_int (aO w_de_int))))) (bq (cL S false 2 (gK S 1 I.e.n0 (aO (bA (ai S 1) w_de_int)))) (bq (cL S false 3 (bZ S 3 (I.c (jP A B)) (aW (bZ S 2 (I.c (Hz A B)) (aW (ai S 0) (aO w_de_int))) (aO (ai S 2))))) (bq (cL S false 4 (bZ S 4 (I.c (jS A B)) (aO (bZ S 2 (I.c (Hz A B)) (aW (ai S 0) (aO w_de_int)))))) (bq (cL S false 5 (bZ S 5 (I.c (lB A B)) (aW (ai S 1) (aW (ai S 3) (aO (ai S 4)))))) (bq (cL S false 6 (kn .leaf (aW (bZ S 6 (I.c (ly A B)) (aO (ai S 1))) (aW (w_cb_list S 7 rfl rfl I.e.n5 (ai S 3) (dm rfl)) (aO (w_cb_list S 7 rfl rfl I.e.n5 (ai S 4) (dm rfl))))))) (bq (sM S 7 rfl rfl hp (iX S 8 rfl rfl I.e.n1 (aO (ai S 2)) (dm rfl)) (bq (cL S true 8 (bZ S 9 (I.c (gU A B)) (aW (bA (ai S 6) w_de_int) (aW (bA (ai S 6) w_de_int) (aW (bA (ai S 6) w_de_int) (aO (ai S 7))))))) (bq (fC (cP (kW I.r) (ai S 6) (kn .leaf (aW (ai S 1) (aW (ai S 3) (aO (ai S 4)))))) (cH mQ) fZ) (dG (fC (cP (Em I.r) (ai S 7) (ai S 5)) (dG (fC (cP (kW I.r) (ai S 8) sq) (cH mQ) fZ)) (dG (fC (sj (sO (oy (iS (bZ S 10 (I.c (lz A B)) (aW (ai S 1) (aW (ai S 3) (aW (ai S 4) (aO (ai S 8)))))) (fun _=>rfl))) (zA (cP (kW I.r) (bZ S 11 (I.c (jQ A B)) (aW (ai S 8) (aO w_de_int))) (ai S 7))))) (cH mQ) (dG (fC (sj (sO (cP (Fl I.r) (gK S 1 I.e.n0 (aO (bA (ai S 8) w_de_int))) (ai S 2)) (zA (cP (iD I.r) (gK S 1 I.e.n0 (aO (bA (ai S 8) w_de_int))) (DL (ai S 2) (sv w_de_int (gK S 1 I.e.n0 (aO (ai S 4))))))))) (cH mQ) (bq (cL S false 9 (i4 S I.r I.rm.gd 12 rfl rfl I.e.n12 (ai S 8) (dm rfl) rfl)) (bq (iW S 8 0 rfl rfl rfl w_de_int (fun _ _=>rfl) (dm rfl) rfl rfl rfl rfl) (bq (iW S 8 1 rfl rfl rfl w_de_int (fun _ _=>rfl) (dm rfl) rfl rfl rfl rfl) (dG (fC (cP (kW I.r) (i4 S I.r I.rm.gd 12 rfl rfl I.e.n12 (bZ S 9 (I.c (gU A B)) (aW (bA (ai S 6) w_de_int) (aW (bA (ai S 6) w_de_int) (aW (bA (ai S 6) w_de_int) (aO (ai S 7)))))) (dm rfl) rfl) (ai S 9)) (cH mQ) fZ))))))))))))) (fun _=>rfl)) (cH mQ))))))))
end
end KQ.M.B
open PySem PySem.W PyProof.Rows
def PySem.W.Fast.tw16062489567101930208:=0
def PySem.W.Fast.tw16982819495870177120:=0
def PySem.W.Fast.tw14121616073504450625:=0
def PySem.W.Fast.tw977678426236938915:=0
def PySem.W.Fast.tw5045405883140012197:=0
def PySem.W.Fast.tw7178581614125723657:=0
def PySem.W.Fast.tw13392350708138546218:=0
def PySem.W.Fast.tw9662700661388846346:=0
def PySem.W.Fast.tw5180386703554202508:=0
def PySem.W.Fast.tw9152895224647680846:=0
def PySem.W.Fast.tw10933590937745048655:=0
def PySem.W.Fast.tw14585657381276535343:=0
def PySem.W.Fast.tw2780112738227961687:=0
def PySem.W.Fast.tw17818494875153822936:=0
def PySem.W.Fast.tw15026026731280938520:=0
def PySem.W.Fast.tw13876763576321619162:=0
def PySem.W.Fast.tw4039831209301290235:=0
def PySem.W.Fast.tw14635741623630755582:=0
def PySem.W.Fast.tw4246987774478412895:=0
set_option maxRecDepth 100000 in
set_option maxHeartbeats 0 in
theorem PySem.Challenge.cw_foreseehall_k52_whole_fair_ways_holds : PySem.Challenge.rw_foreseehall_k52_whole_fair_ways.Holds := by
 w_on;o_law;k_head;(case hw=>w_witness2)
 k_fill
 refine T.walkG (j:=11) (l:=PySem.Challenge.rw_foreseehall_k52_whole_fair_ways) KQ.M.B.law_true ⟨rfl,by decide,by decide,rfl⟩ rfl rfl (fun w h Y=>PySem.W.kIn_of Y) ?F
 case F=>
  intro w mg fa h KX G hmg;refine' KQ.M.B.o_law (.mk (.mk (T.gn KX G ?z0) (T.gn KX G ?z1) (T.gn KX G ?z2) (T.gn KX G ?z3) (T.gn KX G ?z4) (T.gn KX G ?z5) (T.gn KX G ?z6) (T.gn KX G ?z7) (T.gn KX G ?z8) (T.gn KX G ?z9) (T.gn KX G ?z10) (T.gn KX G ?z11) (T.gn KX G ?z12) (T.gn KX G ?z13) (T.gt KX G ?e0 ?q0 ?v0) (T.gi KX G ?e1) (T.gt KX G ?e2 ?q2 ?v2) (T.gx KX G ?xt)) (T.ft KX G ?a0 ?l0 ?c0 ?k0) (T.ft KX G ?a1 ?l1 ?c1 ?k1) (T.ft KX G ?a2 ?l2 ?c2 ?k2) (T.ft KX G ?a3 ?l3 ?c3 ?k3) (T.ft KX G ?a4 ?l4 ?c4 ?k4) (T.ft KX G ?a5 ?l5 ?c5 ?k5) (T.ft KX G ?a6 ?l6 ?c6 ?k6) (T.ft KX G ?a7 ?l7 ?c7 ?k7) (T.ft KX G ?a8 ?l8 ?c8 ?k8) (T.ft KX G ?a9 ?l9 ?c9 ?k9) (T.ft KX G ?a10 ?l10 ?c10 ?k10) (T.ft KX G ?a11 ?l11 ?c11 ?k11) (T.ft KX G ?a12 ?l12 ?c12 ?k12) (T.ft KX G ?a13 ?l13 ?c13 ?k13) (T.ft KX G ?a14 ?l14 ?c14 ?k14) (T.ft KX G ?a15 ?l15 ?c15 ?k15) (T.ft KX G ?a16 ?l16 ?c16 ?k16) (T.ft KX G ?a17 ?l17 ?c17 ?k17) (T.ft KX G ?a18 ?l18 ?c18 ?k18) (T.ft KX G ?a19 ?l19 ?c19 ?k19) (T.ft KX G ?a20 ?l20 ?c20 ?k20) (T.ft KX G ?a21 ?l21 ?c21 ?k21) (T.ft KX G ?a22 ?l22 ?c22 ?k22) (T.ft KX G ?a23 ?l23 ?c23 ?k23) (T.ft KX G ?a24 ?l24 ?c24 ?k24) (T.ft KX G ?a25 ?l25 ?c25 ?k25) (T.ft KX G ?a26 ?l26 ?c26 ?k26) (T.ft KX G ?a27 ?l27 ?c27 ?k27) (T.ft KX G ?a28 ?l28 ?c28 ?k28) (T.ft KX G ?a29 ?l29 ?c29 ?k29) (T.ft KX G ?a30 ?l30 ?c30 ?k30) (T.ft KX G ?a31 ?l31 ?c31 ?k31) (T.ft KX G ?a32 ?l32 ?c32 ?k32) (T.ft KX G ?a33 ?l33 ?c33 ?k33) (T.ft KX G ?a34 ?l34 ?c34 ?k34) (T.ft KX G ?a35 ?l35 ?c35 ?k35) (T.ft KX G ?a36 ?l36 ?c36 ?k36) (T.ft KX G ?a37 ?l37 ?c37 ?k37) (T.ft KX G ?a38 ?l38 ?c38 ?k38) (T.ft KX G ?a39 ?l39 ?c39 ?k39) (T.ft KX G ?a40 ?l40 ?c40 ?k40) (T.ft KX G ?a41 ?l41 ?c41 ?k41) (T.ft KX G ?a42 ?l42 ?c42 ?k42)) hmg
  case a0|l0|c0|k0|a1|l1|c1|k1|a2|l2|c2|k2|a3|l3|c3|k3|a4|l4|c4|k4|a5|l5|c5|k5|a6|l6|c6|k6|a7|l7|c7|k7|a8|l8|c8|k8|a9|l9|c9|k9|a10|l10|c10|k10|a11|l11|c11|k11|a12|l12|c12|k12|a13|l13|c13|k13|a14|l14|c14|k14|a15|l15|c15|k15|a16|l16|c16|k16|a17|l17|c17|k17|a18|l18|c18|k18|a19|l19|c19|k19|a20|l20|c20|k20|a21|l21|c21|k21|a22|l22|c22|k22|a23|l23|c23|k23|a24|l24|c24|k24|a25|l25|c25|k25|a26|l26|c26|k26|a27|l27|c27|k27|a28|l28|c28|k28|a29|l29|c29|k29|a30|l30|c30|k30|a31|l31|c31|k31|a32|l32|c32|k32|a33|l33|c33|k33|a34|l34|c34|k34|a35|l35|c35|k35|a36|l36|c36|k36|a37|l37|c37|k37|a38|l38|c38|k38|a39|l39|c39|k39|a40|l40|c40|k40|a41|l41|c41|k41|a42|l42|c42|k42|z0|z1|z2|z3|z4|z5|z6|z7|z8|z9|z10|z11|z12|z13|e0|q0=>k_is
  case v0=>kernel_rfl
  case e1|e2|q2=>k_is
  case v2|xt=>kernel_rfl
