import PyProof.Rows.All
import Wide.All
import OpenK.AllK
import Wide.FinOn
import PyProof.EqAt
import PyProof.EqKinds
import PyProof.TupleCall
import PyProof.StrBlockH
import PyProof.StrWalks
import PyProof.StrCalls
import PyProof.StrCalls2
import PyProof.PureStr
import PyProof.FString
import PyProof.StrLawsIdx
import PyProof.SetRoads
import PyProof.DictRoadsH
import PyProof.ListStr
import PyProof.CallStr
import PyProof.StrLawsOcc
import KE.KIntText
import Lean
import PySem.Challenge.RW_foreseehall_k46_sentences_that_tell_apar
open List (mem_append_right getElem?_eq_getElem length_map mem_append_left mem_cons_of_mem mem_cons_self getElem?_map append_assoc mem_of_getElem? map_cons getD_eq_getElem?_getD length_set map_append length_append size_toArray getElem_mem contains_iff_mem length_cons map_map getElem?_set_self getElem?_set_ne nodup_nil length_take all_eq_true mem_cons getElem?_append_right getElem?_append_left append_nil lookup_cons not_mem_nil nil_append set_set getElem?_eq_none length_filter_le length_drop length_range any_eq_true take_of_length_le filter_cons mem_filter flatten_cons getElem_of_mem take_append_drop take_succ length_singleton ext_getElem? mem_range mem_map map_nil perm_append_comm drop_eq_getElem_cons filter_append getElem?_replicate find?_cons pairwise_map filter_congr exists_mem_of_ne_nil mem_append map_inj_right find?_some find?_append take_length filterMap_cons length_dropLast getElem?_toArray filter_cons_of_neg length_nil any_cons length_pos_of_mem range_succ filter_sublist)
set_option Elab.async false
set_option linter.all false
set_option maxRecDepth 100000
set_option maxHeartbeats 4000000
set_option maxRecDepth 10000
set_option maxHeartbeats 400000
set_option maxHeartbeats 1000000
abbrev Fg:=PySem.W.Frag
abbrev Bs (i:Nat):PySem.Stmt:=(PySem.Challenge.pw_foreseehall_k46_sentences_that_tell_apar.main.body)[i]!
theorem Nh {u:Type _} {a:u} (s:List u) {t:List u} (h:a∈t):a∈s++t:=List.mem_append_right s h
theorem Ni {u:Type _} {a:u} {s:List u} (t:List u) (h:a∈s):a∈s++t:=List.mem_append_left t h
theorem Nj {u:Type _} {a:u} {s t:List u} (h:a∈s++t):a∈s\/a∈t:=List.mem_append.mp h
theorem Nk {u:Type _} {a b:u} {t:List u} (h:a∈b::t):a=b\/a∈t:=List.mem_cons.mp h
theorem Nl {u:Type _} {l:List u} {i:Nat} (h:i<l.length):l[i]?=some l[i]:=List.getElem?_eq_getElem h
theorem Nm {u:Type _} {l:List u} {i:Nat} {a:u}:l.getD i a=l[i]?.getD a:=List.getD_eq_getElem?_getD
theorem Nn {u:Type _} (y:u) {a:u} {l:List u} (h:a∈l):a∈y::l:=List.mem_cons_of_mem y h
abbrev Np {u:Type _} {a b:List u}:=(List.nodup_append (l₁:=a) (l₂:=b)).mp
abbrev Nq {u:Type _} {a:u} {l:List u} {i:Nat}:=(List.getElem?_eq_some_iff (l:=l) (i:=i) (a:=a)).mp
abbrev Nr:=@PySem.wpAny_bind
abbrev Nt:=@PySem.wpAny_pure
abbrev Nu:=@PySem.Heap.get?_push_of_some
abbrev Nv:=@Nat.le_refl
abbrev Nw:=PySem.PyData
namespace L2
open PySem PySem.Spec PyProof.Rows
abbrev gx:=Sum Int Str
noncomputable def kl:gx->Value->Bool
 | .inl k,v=>Value.isInt k v
 | .inr x,v=>Value.isStrOf x v
noncomputable def CJ (w:World):gx->Int
 | .inl k=>hashInt k
 | .inr x=>hashStr w x
theorem xk:∀{k:gx} {v:Value},kl k v=true->(∃i t,k=Sum.inl i/\v=Value.int i t)\/(∃x t,k=Sum.inr x/\v=Value.str x t)
 | .inl i,v,h=>by
  obtain ⟨t,e⟩:=Value.isInt_shape (k:=i) (v:=v) h
  exact .inl ⟨i,t,rfl,e⟩
 | .inr x,v,h=>by
  obtain ⟨t,e⟩:=Value.isStrOf_shape (x:=x) (v:=v) h
  exact .inr ⟨x,t,rfl,e⟩
theorem tO (i:Int) (t:Tok):kl (.inl i) (.int i t)=true:=by simp [kl,Value.isInt]
theorem tN (x:Str) (t:Tok):kl (.inr x) (.str x t)=true:=by simp [kl,Value.isStrOf]
theorem CI (a b:Int):decide ((Sum.inl a:gx)=Sum.inl b)=(a==b):=by
 by_cases e:a=b
 ·subst e;simp
 ·have h:¬(Sum.inl a:gx)=Sum.inl b:=λq=>e (Sum.inl.inj q)
  rw [decide_eq_false h];exact (beq_eq_false_iff_ne.mpr e).symm
theorem CF (a b:Str):decide ((Sum.inr a:gx)=Sum.inr b)=decide (a=b):=by
 by_cases e:a=b
 ·subst e;simp
 ·have h:¬(Sum.inr a:gx)=Sum.inr b:=λq=>e (Sum.inr.inj q)
  rw [decide_eq_false h,decide_eq_false e]
theorem CH (a:Int) (b:Str):decide ((Sum.inl a:gx)=Sum.inr b)=false:=decide_eq_false (λq=>nomatch q)
theorem CG (a:Str) (b:Int):decide ((Sum.inr a:gx)=Sum.inl b)=false:=decide_eq_false (λq=>nomatch q)
noncomputable def br (c:Program) (w:World):PySem.KeyKind c w gx where
 is:=kl
 hash:=CJ w
 inj:=λv a b U Z=>by
  rcases xk U with ⟨i,t,rfl,rfl⟩ | ⟨x,t,rfl,rfl⟩
  ·rcases xk Z with ⟨j,u,rfl,e⟩ | ⟨y,u,rfl,e⟩
   ·injection e with e1 _;rw [e1]
   ·exact nomatch e
  ·rcases xk Z with ⟨j,u,rfl,e⟩ | ⟨y,u,rfl,e⟩
   ·exact nomatch e
   ·injection e with e1 _;rw [e1]
 byValue:=λk v h=>by
  rcases xk h with ⟨i,t,rfl,rfl⟩ | ⟨x,t,rfl,rfl⟩<;>rfl
 pyHash:=λP h=>by
  rcases xk P with ⟨i,t,rfl,rfl⟩ | ⟨x,t,rfl,rfl⟩
  ·exact wpAny_pyHash_int h
  ·exact wpAny_pyHash_str h
 eqBool:=λJ P h=>by
  rcases xk J with ⟨i,t,rfl,rfl⟩ | ⟨x,t,rfl,rfl⟩
  ·rcases xk P with ⟨j,u,rfl,rfl⟩ | ⟨y,u,rfl,rfl⟩
   ·rw [CI] at h;exact wpAny_eqBool_int h
   ·rw [CH] at h;exact SeqAt.EqAt.int_str i t y u _ _ _ _ h
  ·rcases xk P with ⟨j,u,rfl,rfl⟩ | ⟨y,u,rfl,rfl⟩
   ·rw [CG] at h;exact SeqAt.EqAt.str_int x t j u _ _ _ _ h
   ·rw [CF] at h;exact wpAny_eqBool_str h
 «strs»:=λk x t v h=>by
  rcases xk h with ⟨i,u,rfl,e⟩ | ⟨y,u,rfl,e⟩
  ·exact nomatch e
  ·injection e with e1 _
   subst e1
   cases v<;>rfl
theorem nC (c:Program) (w:World) (i:Int) (t:Tok):(br c w).is (.inl i) (.int i t)=true:=tO i t
theorem nB (c:Program) (w:World) (x:Str) (t:Tok):(br c w).is (.inr x) (.str x t)=true:=tN x t
inductive V where
 | non | bl (b:Bool) | int (i:Int) | str (x:Str) | byt (b:Array UInt8) | flt (b:UInt64) | ref (a:Addr) | ty (n:String)
 deriving DecidableEq
noncomputable def RelV:V->Value->Prop
 | .non,u=>u=Value.none
 | .bl b,u=>u=Value.bool b
 | .int i,u=>∃t,u=Value.int i t
 | .str x,u=>∃t,u=Value.str x t
 | .byt b,u=>∃t,u=Value.bytes b t
 | .flt b,u=>∃t,u=Value.float b t
 | .ref a,u=>u=Value.ref a
 | .ty n,u=>u=Value.type n
noncomputable abbrev Vals:List V->List Value->Prop:=Paired RelV
theorem Vals.length {Y:List V} {z:List Value} (r:Vals Y z):Y.length=z.length:=Paired.length r
theorem Vals.get:∀{Y:List V} {us:List Value} {i:Nat} {x:V},Vals Y us->Y[i]?=some x->∃u,us[i]?=some u/\RelV x u
 | _,_,_,_,.nil,e=>by simp at e
 | _,_,0,_,.cons r _,e=>by simp at e;subst e;exact ⟨_,rfl,r⟩
 | _,_,i+1,x,.cons _ t,e=>by
  obtain ⟨u,R,C⟩:=Vals.get (i:=i) (x:=x) t (by simpa using e)
  exact ⟨u,by simpa using R,C⟩
theorem Vals.append:∀{Y G:List V} {us ws:List Value},Vals Y us->Vals G ws->Vals (Y++G) (us++ws)
 | _,_,_,_,.nil,s=>s
 | _,_,_,_,.cons r t,s=>.cons r (Vals.append t s)
theorem Vals.take:∀{Y:List V} {us:List Value} (n:Nat),Vals Y us->Vals (Y.take n) (us.take n)
 | _,_,0,_=>.nil
 | _,_,_+1,.nil=>.nil
 | _,_,n+1,.cons r t=>.cons r (Vals.take n t)
theorem Vals.drop:∀{Y:List V} {us:List Value} (n:Nat),Vals Y us->Vals (Y.drop n) (us.drop n)
 | _,_,0,r=>r
 | _,_,_+1,.nil=>.nil
 | _,_,n+1,.cons _ t=>Vals.drop n t
noncomputable def RelO:Option V->Option Value->Prop
 | some v,some u=>RelV v u
 | none,none=>True
 | _,_=>False
noncomputable def KV {d:Type}:List (d×V)->List (d×Value)->Prop:=Paired λ(p:d×V) (q:d×Value)=>p.1=q.1/\RelV p.2 q.2
noncomputable def kV:gx->V
 | .inl i=>.int i
 | .inr x=>.str x
inductive HO where
 | lst (xs:List V)
 | tup (xs:List V)
 | dK (kvs:List (gx×V)) | dT (kvs:List (List gx×V))
 | set (S:Int->Bool) (n:Nat)
 | ins (C dx:Addr) (fs:List (Str×V))
 | own (x:Addr)
 | xd (fs:List (Str×V))
 | met (f x:Addr)
 | rng (lo hi:Int)
 | frz (o:Obj) (u:HO)
 | tbl (ps:Array Value)
 | ext (φ:Heap->Prop)
abbrev Hp:=Addr->Option HO
noncomputable def aR (H:Hp) (a:Addr) (o:HO):Hp:=λb=>if b=a then some o else H b
theorem cL {H:Hp} {a:Addr} {o:HO}:aR H a o a=some o:=by unfold aR;rw [if_pos rfl]
theorem cb {H:Hp} {a b:Addr} {o:HO} (h:b≠a):aR H a o b=H b:=by unfold aR;rw [if_neg h]
theorem xD {H:Hp} {a b:Addr} {o:HO} (h:H a=some o) (U:H b=none):a≠b:=by
 intro e;subst e;rw [h] at U;cases U
section
variable (P:Program) (w:World)
noncomputable def ObjOk (H:Hp) (h:Heap) (a:Addr):HO->Prop
 | .lst Y=>Y.length<=sizeLine/\∃(g:List Value) (n:Nat),Vals Y g/\h.get? a=some { cls:=.type "list",data:=.seq g.toArray n }
 | .tup Y=>Y.length<=sizeLine/\∃g:List Value,Vals Y g/\IsTup h a g.toArray
 | .dK E=>E.length<=sizeLine/\(a==sysModules)=false/\∃L,KV E L/\h.DictOf (br P w) a L
 | .dT E=>E.length<=sizeLine/\(a==sysModules)=false/\∃Y:List (List gx×Addr×Value),
   Paired (λ(p:List gx×V) (q:List gx×Addr×Value)=>p.1=q.1/\H q.2.1=some (.tup (p.1.map kV))/\RelV p.2 q.2.2) E Y /\
   ∃o j N,h.get? a=some o/\o.ExactDict/\o.data=.dict j N/\j.toList=Y.map (entryOfKey (tupleKind (br P w)))/\(Y.map (·.1)).Nodup
 | .set S n=>h.SetOf (intKind P w) a S n
 | .ins C i fs=>H i=some (.own a)/\fs.length<=1000/\i≠a/\h.get? a=some (PySem.W.instObj C i) /\
   ∃B,h.Ns1 i B/\(∀f,RelO (fs.lookup f) (B f))/\PySem.Within B (fs.map (·.1))
 | .own _=>∃o,h.get? a=some o
 | .xd fs=>∃B,h.Ns1 a B/\∀f,RelO (fs.lookup f) (B f)
 | .rng r l=>∃t u v,h.get? a=some { cls:=.type "range",data:=.fields #[.int r t,.int l u,.int 1 v] }
 | .frz o u=>h.get? a=some o/\ObjOk H h a u
 | .tbl J=>h.get? a=some { cls:=.none,data:=.fields J }
 | .met f x=>h.get? a=some (PySem.W.methodObj (.ref f) (.ref x))
 | .ext A=>A h/\(∃o,h.get? a=some o)/\∀R b:Heap,A R->(∀o,R.get? a=some o->b.get? a=some o)->A b
noncomputable def HOk (H:Hp) (h:Heap):Prop:=∀a o,H a=some o->ObjOk P w H h a o
end
section
variable {P:Program} {w:World} {H H':Hp} {h h':Heap} {a:Addr} {o:HO}
theorem ObjOk.lt (x:ObjOk P w H h a o):a<h.objs.size:=by
 cases o with
 | lst Y=>obtain ⟨_,_,_,_,e⟩:=x;exact Heap.lt_size e
 | tup Y=>obtain ⟨_,_,_,p⟩:=x;exact p.lt
 | dK E=>obtain ⟨_,_,_,_,o,_,_,e,_⟩:=x;exact Heap.lt_size e
 | dT E=>obtain ⟨_,_,_,_,o,_,_,e,_⟩:=x;exact Heap.lt_size e
 | set S n=>obtain ⟨o,_,_,_,e,_⟩:=x;exact Heap.lt_size e
 | ins C i fs=>obtain ⟨_,_,_,e,_⟩:=x;exact Heap.lt_size e
 | own y=>obtain ⟨_,e⟩:=x;exact Heap.lt_size e
 | xd fs=>obtain ⟨_,⟨_,_,_,e,_⟩,_⟩:=x;exact Heap.lt_size e
 | rng r l=>obtain ⟨_,_,_,e⟩:=x;exact Heap.lt_size e
 | frz I u=>obtain ⟨e,_⟩:=x;exact Heap.lt_size e
 | tbl J=>exact Heap.lt_size (show h.get? a=some _ from x)
 | met f y=>exact Heap.lt_size (show h.get? a=some _ from x)
 | ext A=>obtain ⟨_,⟨_,e⟩,_⟩:=x;exact Heap.lt_size e
theorem Paired.mapP {u d:Type} {F G:u->d->Prop}:∀{c:List u} {l₂:List d},Paired F c l₂->(∀a b,F a b->G a b)->Paired G c l₂
 | _,_,.nil,_=>.nil
 | _,_,.cons r t,f=>.cons (f _ _ r) (Paired.mapP t f)
theorem ObjOk.stay (x:ObjOk P w H h a o) (k:∀b u,(b=a\/H b=some (.own a))->h.get? b=some u->h'.get? b=some u)
  (K:∀b,H b=some (.own a)->H' b=some (.own a)) (G:∀b Y,H b=some (.tup Y)->H' b=some (.tup Y)):ObjOk P w H' h' a o:=by
 induction o with
 | lst Y=>obtain ⟨z,g,n,r,e⟩:=x;exact ⟨z,g,n,r,k _ _ (.inl rfl) e⟩
 | tup Y=>obtain ⟨z,g,r,I,e,c⟩:=x;exact ⟨z,g,r,I,k _ _ (.inl rfl) e,c⟩
 | dK E=>obtain ⟨z,y,L,r,I,j,N,e,c⟩:=x;exact ⟨z,y,L,r,I,j,N,k _ _ (.inl rfl) e,c⟩
 | dT E=>
  obtain ⟨z,y,Y,r,I,j,N,e,c⟩:=x;exact ⟨z,y,Y,Paired.mapP r λp q z=>⟨z.1,G _ _ z.2.1,z.2.2⟩,I,j,N,k _ _ (.inl rfl) e,c⟩
 | set S n=>obtain ⟨I,j,N,t,e,c⟩:=x;exact ⟨I,j,N,t,k _ _ (.inl rfl) e,c⟩
 | ins C i fs=>
  obtain ⟨d,z,F,e,B,⟨U,j,N,m,c⟩,r⟩:=x;exact ⟨K _ d,z,F,k _ _ (.inl rfl) e,B,⟨U,j,N,k _ _ (.inr d) m,c⟩,r⟩
 | own y=>obtain ⟨I,e⟩:=x;exact ⟨I,k _ _ (.inl rfl) e⟩
 | xd fs=>obtain ⟨B,⟨U,j,N,e,c⟩,r⟩:=x;exact ⟨B,⟨U,j,N,k _ _ (.inl rfl) e,c⟩,r⟩
 | rng M l=>obtain ⟨t,u,v,e⟩:=x;exact ⟨t,u,v,k _ _ (.inl rfl) e⟩
 | frz I u s=>obtain ⟨e,q⟩:=x;exact ⟨k _ _ (.inl rfl) e,s q⟩
 | tbl J=>
  have e:h.get? a=some { cls:=.none,data:=.fields J }:=x
  show h'.get? a=some { cls:=.none,data:=.fields J }
  exact k a _ (.inl rfl) e
 | met f y=>
  have e:h.get? a=some (PySem.W.methodObj (.ref f) (.ref y)):=x
  show h'.get? a=some (PySem.W.methodObj (.ref f) (.ref y))
  exact k a _ (.inl rfl) e
 | ext A=>obtain ⟨p,⟨o,e⟩,st⟩:=x;exact ⟨st _ _ p λo q=>k _ _ (.inl rfl) q,⟨o,k _ _ (.inl rfl) e⟩,st⟩
theorem HOk.lt (x:HOk P w H h) (e:H a=some o):a<h.objs.size:=(x a o e).lt
theorem HOk.fresh (x:HOk P w H h) (e:h.objs.size<=a):H a=none:=by
 cases q:H a with
 | none=>rfl
 | some u=>exact absurd (Nat.lt_of_lt_of_le (x.lt q) e) (Nat.lt_irrefl _)
theorem HOk.kept (x:HOk P w H h) (k:∀b u,h.get? b=some u->h'.get? b=some u):HOk P w H h':=λa o e=>
 (x a o e).stay (λb u _ q=>k b u q) (λ_ q=>q) λ_ _ q=>q
theorem HOk.laid (x:HOk P w H h) (k:∀b u,h.get? b=some u->h'.get? b=some u) (g:h.objs.size<=a) (L:ObjOk P w (aR H a o) h' a o):HOk P w (aR H a o) h':=λb u e=>by
 have y:=x.fresh g
 by_cases Z:b=a
 ·subst Z;rw [cL] at e;cases e;exact L
 ·rw [cb Z] at e
  exact (x b u e).stay (λc v _ q=>k c v q) (λc q=>by rw [cb (xD q y)];exact q) λc Y q=>by rw [cb (xD q y)];exact q
end
noncomputable def Rd (H:Hp) (a:Addr) (u:HO):Prop:=H a=some u\/∃o,H a=some (.frz o u)
theorem Rd.ok {P:Program} {w:World} {H:Hp} {h:Heap} {a:Addr} {u:HO} (r:Rd H a u) (x:HOk P w H h):ObjOk P w H h a u:=by
 rcases r with r | ⟨o,r⟩
 ·exact x a u r
 ·obtain ⟨_,q⟩:=x a _ r
  exact q
noncomputable def HP:Option HO->Prop
 | some (.lst _)=>True
 | some (.dK _)=>True
 | some (.dT _)=>True
 | some (.set _ _)=>True
 | some (.ins _ _ _)=>True
 | some (.ext _)=>True
 | _=>False
section
variable {P:Program} {w:World} {H:Hp} {h h':Heap} {x e:Addr} {o':HO}
theorem HOk.write (ok:HOk P w H h) (f:HP (H x)) (R:e=x\/H e=some (.own x)) (k:∀b u,b≠e->h.get? b=some u->h'.get? b=some u) (g:∃u,h'.get? e=some u)
  (L:ObjOk P w (aR H x o') h' x o'):HOk P w (aR H x o') h':=λb u q=>by
 have a:∀c y,H c=some (.own y)->c≠x:=λc y r z=>by subst z;rw [r] at f;exact f
 have i:∀c Y,H c=some (.tup Y)->c≠x:=λc Y r z=>by subst z;rw [r] at f;exact f
 by_cases Z:b=x
 ·subst Z;rw [cL] at q;cases q;exact L
 ·rw [cb Z] at q
  by_cases d:b=e
  ·have E:H b=some (.own x):=by
    rcases R with z | z
    ·exact absurd (d.trans z) Z
    ·rw [d];exact z
   rw [q] at E;cases E
   obtain ⟨v,j⟩:=g;exact ⟨v,by rw [d];exact j⟩
  ·refine (ok b u q).stay (λc v J r=>k c v ?_ r) (λc r=>by rw [cb (a c b r)];exact r) λc Y r=>by rw [cb (i c Y r)];exact r
   rcases J with rfl | J
   ·exact d
   ·rintro rfl
    rcases R with z | z
    ·exact a c b J z
    ·rw [J] at z;cases z;exact Z rfl
end
structure Un (fs ex:List Addr) (H H':Hp) (h h':Heap):Prop where
 keep:∀b o,h.get? b=some o->H b=none->b∉fs->b∉ex->h'.get? b=some o
 slot:∀b o,h.get? b=some o->H b=none->b∈fs->b∉ex->∃sl,h'.get? b=some { o with slots:=sl }
 free:∀b o,h.get? b=some o->H b=none->b∉ex->H' b=none
 there:∀b o,h.get? b=some o->b∉ex->∃o',h'.get? b=some o'
 tups:∀b xs,H b=some (.tup xs)->H' b=some (.tup xs)
 frzs:∀b o u,H b=some (.frz o u)->H' b=some (.frz o u)
 tbls:∀b ps,H b=some (.tbl ps)->∃more,H' b=some (.tbl (ps++more))
section
variable {fs fs' ex ex':List Addr} {H H1 H2:Hp} {h h1 h2 h':Heap} {a x e:Addr} {o:HO}
theorem Un.any (u:Un fs ex H H1 h h1) {b:Addr} {I:Obj} (q:h.get? b=some I) (n:H b=none) (G:b∉ex):∃R,h1.get? b=some { I with slots:=R }:=by
 by_cases Z:b∈fs
 ·exact u.slot b I q n Z G
 ·exact ⟨I.slots,u.keep b I q n Z G⟩
theorem Un.kept (k:∀b u,h.get? b=some u->h'.get? b=some u):Un fs ex H H h h':=
 ⟨λb I q _ _ _=>k b I q,λb I q _ _ _=>⟨I.slots,k b I q⟩,λ_ _ _ n _=>n,λb I q _=>⟨I,k b I q⟩,λ_ _ q=>q,λ_ _ _ q=>q,λ_ J q=>⟨#[],by rw [q];simp⟩⟩
theorem Un.refl:Un fs ex H H h h:=Un.kept λ_ _ q=>q
theorem Un.laid (k:∀b u,h.get? b=some u->h'.get? b=some u) (g:h.objs.size<=a) (y:H a=none):Un fs ex H (aR H a o) h h' where
 keep:=λb u q _ _ _=>k b u q
 slot:=λb u q _ _ _=>⟨u.slots,k b u q⟩
 free:=λb u q n _=>by rw [cb (Nat.ne_of_lt (Nat.lt_of_lt_of_le (Heap.lt_size q) g))];exact n
 there:=λb u q _=>⟨u,k b u q⟩
 tups:=λb Y q=>by rw [cb (xD q y)];exact q
 frzs:=λb u Y q=>by rw [cb (xD q y)];exact q
 tbls:=λb J q=>⟨#[],by rw [cb (xD q y),q];simp⟩
theorem Un.write (f:HP (H x)) (R:e=x\/H e=some (.own x)) (k:∀b u,b≠e->h.get? b=some u->h'.get? b=some u) (g:∃u,h'.get? e=some u):Un fs ex H (aR H x o) h h':=by
 have G:∀b,H b=none->b≠x:=λb n z=>by subst z;rw [n] at f;exact f
 have Z:∀b,H b=none->b≠e:=λb n z=>by
  subst z;rcases R with r | r
  ·exact G b n r
  ·rw [n] at r;cases r
 have c:∀b u,H b=some u->¬HP (some u)->b≠x:=λb u q m z=>by subst z;rw [q] at f;exact m f
 refine ⟨λb u q n _ _=>k b u (Z b n) q,λb u q n _ _=>⟨u.slots,k b u (Z b n) q⟩,λb u q n _=>by rw [cb (G b n)];exact n,λb u q _=>?_,
  λb Y q=>by rw [cb (c b _ q λz=>z)];exact q,λb u Y q=>by rw [cb (c b _ q λz=>z)];exact q,λb J q=>⟨#[],by rw [cb (c b _ q λz=>z),q];simp⟩⟩
 by_cases d:b=e
 ·subst d;exact g
 ·exact ⟨u,k b u d q⟩
end
noncomputable def IT (h:Heap) (H:Hp):List Addr:=(List.range h.objs.size).filter λa=>(H a).isSome
noncomputable def lG (h:Heap) (H:Hp):Heap:=PySem.W.hideAll h (IT h H)
theorem tR (h:Heap) (H:Hp):(lG h H).objs.size=h.objs.size:=PySem.W.hideAll_size _ _
theorem wo {h:Heap} {H:Hp} {b:Addr} {o:Obj} (e:h.get? b=some o) (n:H b=none):(lG h H).get? b=some o:=
 PySem.W.hideAll_get _ e λG=>by
  have q:(H b).isSome=true:=(List.mem_filter.mp G).2
  rw [n] at q;simp at q
theorem yC {h:Heap} {H:Hp} {b:Addr} {o:Obj} (e:(lG h H).get? b=some o):h.get? b=some o/\H b=none:=by
 have J:h.get? b=some o:=PySem.W.of_hideAll (IT h H) e
 refine ⟨J,?_⟩
 cases q:H b with
 | none=>rfl
 | some x=>
  have G:b∈IT h H:=List.mem_filter.mpr ⟨List.mem_range.mpr (Heap.lt_size J),by simp [q]⟩
  have z:(lG h H).get? b=none:=PySem.W.hideAll_none (IT h H) G
  rw [z] at e;cases e
noncomputable def zH (g h:Heap) (L:Addr):List (Addr×Obj):=(List.range h.objs.size).filterMap λa=>if a=L\/(g.get? a).isSome=true then none else (h.get? a).map λo=>(a,o)
noncomputable def rest (g h:Heap) (L d:Addr):List (Addr×Obj):=(zH g h L).filter λp=>decide (p.1≠d)
structure Mod (K:Fg) (mg:Str->Option Value) (base:Heap):Prop where
 kin:K.In base
 glob:base.Ns mainGlobals mg
 blt:∃mb,base.Ns builtinsNs mb/\∀x:Str,x ≠ "__name__"->mb x=bootBuiltins x
 nolimit:base.NoLimit
structure Cx where
 prog:Program
 w:World
 K:Fg
 mg:Str->Option Value
 base:Heap
 A:Around
 N:List Str
 s₀:Shared
 H₀:Hp
 env:Env
 outer:List Env
 stack:List Env
 ex:List Addr
 fn:Str->Bool
 calm:Bool
 pn:List (Addr×Obj)
 xe:Value->Shared->Prop
noncomputable def wA (l:List Env):List Addr:=l.filterMap (·.frame)
noncomputable abbrev Cx.fs (X:Cx):List Addr:=wA X.outer
noncomputable def Em (sc:Scope) (x:Str):Prop:=sc.names.lookup x=some .local\/sc.names.lookup x=some .cell\/sc.names.lookup x=some .free
noncomputable def Loc (sc:Scope) (x:Str):Prop:=sc.names.lookup x=some .local\/sc.names.lookup x=some .cell
noncomputable def Look (p:Env) (h:Heap) (m:Str->Option Value) (x:Str) (u:Value):Prop:=
 (p.kindOf x=some .local/\m x=some u)\/((p.kindOf x=some .cell\/p.kindOf x=some .free)/\∃c,p.cells.lookup x=some c/\h.IsCell c (some u))
structure Cx.Ok (X:Cx):Prop where
 mod:Mod X.K X.mg X.base
 kind:X.env.scope.kind=.function
 glob:X.env.globals=mainGlobals
 blt:X.env.builtins=builtinsNs
 above:X.s₀.heap.objs.size<=X.env.locals
 inj:∀x y c,X.env.cells.lookup x=some c->X.env.cells.lookup y=some c->x=y
 has:∀x,(X.env.kindOf x=some .cell\/X.env.kindOf x=some .free)->∃c,X.env.cells.lookup x=some c
 cab:∀x c,X.fn x=true->X.env.cells.lookup x=some c->X.s₀.heap.objs.size<=c
 hd:X.calm=true->X.A.handled=none
 frames:X.A.frames=some X.stack
 stk:X.stack=X.outer\/(X.stack=X.env::X.outer/\X.env.frame=some X.env.locals)
 exf:∀b∈X.ex,b≠X.env.locals/\∀x c,X.env.cells.lookup x=some c->c≠b
 bs:∀b o,X.base.get? b=some o->X.s₀.heap.get? b=some o/\X.H₀ b=none
 bsz:X.base.objs.size<=X.s₀.heap.objs.size
 noex:∀b o,X.base.get? b=some o->b∉X.ex
 exfs:∀b∈X.ex,b∉X.fs
 funs:X.s₀.heap.FunFrames X.base X.outer
 frf:∀b∈X.fs,X.H₀ b=none
structure Inv (X:Cx) (pins:List (Addr×Obj)) (σ:List (Option V)) (H:Hp) (s:Shared):Prop where
 ok:X.Ok
 os:s.os=X.s₀.os
 bare:AllBare s.gens
 base:Un X.fs X.ex X.H₀ H X.s₀.heap s.heap
 loc:∃m,s.heap.Ns X.env.locals m/\∀(i:Nat) (x:Str) (v:V),X.N[i]?=some x->σ[i]?=some (some v)->Em X.env.scope x->∃u,RelV v u/\Look X.env s.heap m x u
 cell:∀x c,X.env.cells.lookup x=some c->∃v,s.heap.IsCell c v
 free:H X.env.locals=none
 freeC:∀x c,X.env.cells.lookup x=some c->H c=none
 pin:∀p∈X.pn++pins,s.heap.get? p.1=some p.2/\H p.1=none/\p.1≠X.env.locals/\p.1∉X.fs/\∀v,p.2.data≠.cell v
 hok:HOk X.prog X.w H s.heap
 len:σ.length=X.N.length
section
variable {X:Cx} {pins:List (Addr×Obj)} {σ:List (Option V)} {H H':Hp} {s:Shared} {h':Heap}
theorem Cx.Ok.nofr (ok:X.Ok) {b:Addr} {o:Obj} (e:X.base.get? b=some o):b∉X.fs:=λZ=>by
 have:=(ok.funs.mem Z).1
 rw [e] at this;cases this
theorem Inv.bs (I:Inv X pins σ H s):∀b o,X.base.get? b=some o->s.heap.get? b=some o/\H b=none:=λb o e=>
 ⟨I.base.keep b o (I.ok.bs b o e).1 (I.ok.bs b o e).2 (I.ok.nofr e) (I.ok.noex b o e),I.base.free b o (I.ok.bs b o e).1 (I.ok.bs b o e).2 (I.ok.noex b o e)⟩
theorem Inv.bk (I:Inv X pins σ H s):∀b o,X.base.get? b=some o->s.heap.get? b=some o:=λb o e=>(I.bs b o e).1
theorem Inv.mod (I:Inv X pins σ H s):Mod X.K X.mg X.base:=I.ok.mod
theorem Inv.kIn (I:Inv X pins σ H s):X.K.In s.heap:=I.ok.mod.kin.keeps I.bk
theorem Inv.lt (I:Inv X pins σ H s):X.env.locals<s.heap.objs.size:=let ⟨_,y,_⟩:=I.loc;y.lt
theorem Inv.sz (I:Inv X pins σ H s):X.s₀.heap.objs.size<=s.heap.objs.size:=Nat.le_trans I.ok.above (Nat.le_of_lt I.lt)
theorem Inv.nofs (I:Inv X pins σ H s) {a:Addr} (h:s.heap.objs.size<=a):a∉X.fs:=λZ=>by
 obtain ⟨_,o,K,_⟩:=I.ok.funs.mem Z;exact absurd (Nat.lt_of_lt_of_le (Heap.lt_size K) (Nat.le_trans I.sz h)) (Nat.lt_irrefl _)
theorem Inv.cne (I:Inv X pins σ H s):∀x c,X.env.cells.lookup x=some c->c≠X.env.locals:=λx c e z=>by
 obtain ⟨v,o,K,F⟩:=I.cell x c e;obtain ⟨m,⟨L,j,N,C,b,_⟩,_⟩:=I.loc;rw [z,C] at K;cases K;rw [b] at F;cases F
theorem Inv.funs (I:Inv X pins σ H s):s.heap.FunFrames X.base X.outer:=by
 have all:∀(l:List Env),(∀b∈wA l,b∈X.fs)->X.s₀.heap.FunFrames X.base l->s.heap.FunFrames X.base l:=by
  intro l;induction l with
  | nil=>intro _ _;trivial
  | cons p r f=>
   intro Y N;obtain ⟨O,⟨L,o,m,y,K,F⟩,M⟩:=N;have P:L∈X.fs:=Y L (by unfold wA;rw [filterMap_cons,m];exact mem_cons_self)
   obtain ⟨R,e⟩:=I.base.slot L o K (I.ok.frf L P) P λz=>I.ok.exfs L z P
   exact ⟨O,⟨L,_,m,y,e,F⟩,f (λb Z=>Y b (by unfold wA;rw [filterMap_cons,m];exact Nn _ Z)) M⟩
 exact all X.outer (λ_ Z=>Z) I.ok.funs
theorem Inv.stack (I:Inv X pins σ H s):s.heap.FunFrames X.base X.stack:=by
 rcases I.ok.stk with e | ⟨e,hf⟩
 ·rw [e];exact I.funs
 ·rw [e]
  obtain ⟨m,y,_⟩:=I.loc;refine .cons (by rw [I.ok.kind];decide) hf y ?_ I.funs
  exact Heap.get?_none_of_le (Nat.le_trans I.ok.bsz I.ok.above)
theorem Inv.stkSub (I:Inv X pins σ H s):∀b∈wA X.stack,b∈X.env.locals::X.fs:=λb Z=>by
 rcases I.ok.stk with e | ⟨e,hf⟩
 ·rw [e] at Z;exact Nn _ Z
 ·rw [e] at Z
  unfold wA at Z;rw [filterMap_cons,hf] at Z;exact Z
theorem Inv.stkFree (I:Inv X pins σ H s):∀b∈wA X.stack,H b=none:=λb Z=>by
 rcases Nk (I.stkSub b Z) with e | Z
 ·rw [e];exact I.free
 ·obtain ⟨_,o,K,_⟩:=I.ok.funs.mem Z
  exact I.base.free b o K (I.ok.frf b Z) λz=>I.ok.exfs b z Z
theorem Inv.step {g':Array GenState} {O:Nat} {d':Drawn} {ch:List Addr} (I:Inv X pins σ H s)
  (a:∀b∈ch,(b∈X.ex\/X.s₀.heap.objs.size<=b)/\b≠X.env.locals/\(∀x c,X.env.cells.lookup x=some c->c≠b)/\∀p∈X.pn++pins,p.1≠b)
  (f:∀b o,b≠X.env.locals->b∉X.fs->b∉ch->s.heap.get? b=some o->H b=none->h'.get? b=some o)
  (j:∀b o,b≠X.env.locals->b∈X.fs->b∉ch->s.heap.get? b=some o->H b=none->∃R,h'.get? b=some { o with slots:=R }) (free:∀b o,b∉ch->s.heap.get? b=some o->H b=none->H' b=none)
  (C:∀b o,b∉ch->s.heap.get? b=some o->∃L,h'.get? b=some L)
  (tups:∀b Y,H b=some (.tup Y)->H' b=some (.tup Y)) (frzs:∀b o u,H b=some (.frz o u)->H' b=some (.frz o u)) (tbls:∀b ps,H b=some (.tbl ps)->∃more,H' b=some (.tbl (ps++more)))
  (U:∀m,s.heap.Ns X.env.locals m->h'.Ns X.env.locals m) (A:HOk X.prog X.w H' h') (E:AllBare g') :
  Inv X pins σ H' { s with heap:=h',gens:=g',drawn:=d',toks:=O }:=by
 have neL:∀b o,X.s₀.heap.get? b=some o->b≠X.env.locals:=λb o e=>Nat.ne_of_lt (Nat.lt_of_lt_of_le (Heap.lt_size e) I.ok.above)
 have w:∀b o,X.s₀.heap.get? b=some o->b∉X.ex->b∉ch:=λb o e G Z=>by
  rcases (a b Z).1 with z | z
  ·exact G z
  ·exact absurd (Nat.lt_of_lt_of_le (Heap.lt_size e) z) (Nat.lt_irrefl _)
 have h:∀x c,X.env.cells.lookup x=some c->∀v,s.heap.IsCell c v->h'.IsCell c v:=λx c e v ⟨o,K,F⟩=>by
  have t:c∉ch:=λz=>(a c z).2.2.1 x c e rfl
  by_cases J:c∈X.fs
  ·obtain ⟨R,q⟩:=j c o (I.cne x c e) J t K (I.freeC x c e)
   exact ⟨_,q,F⟩
  ·exact ⟨o,f c o (I.cne x c e) J t K (I.freeC x c e),F⟩
 refine ⟨I.ok,I.os,E,⟨λb o e n Z G=>?_,λb o e n Z G=>?_,λb o e n G=>?_,λb o e G=>?_,λb Y e=>tups b Y (I.base.tups b Y e),λb o Y e=>frzs b o Y (I.base.frzs b o Y e),λb ps e=>?_⟩,?_,λx c e=>?_,?_,λx c e=>?_,λp g=>?_,A,I.len⟩
 ·exact f b o (neL b o e) Z (w b o e G) (I.base.keep b o e n Z G) (I.base.free b o e n G)
 ·obtain ⟨R,B⟩:=I.base.slot b o e n Z G
  obtain ⟨sl',e2⟩:=j b _ (neL b o e) Z (w b o e G) B (I.base.free b o e n G);exact ⟨sl',e2⟩
 ·obtain ⟨L,B⟩:=I.base.there b o e G
  exact free b L (w b o e G) B (I.base.free b o e n G)
 ·obtain ⟨L,B⟩:=I.base.there b o e G
  exact C b L (w b o e G) B
 ·obtain ⟨m1,B⟩:=I.base.tbls b ps e
  obtain ⟨m2,e2⟩:=tbls b _ B;exact ⟨m1++m2,by rw [e2,Array.append_assoc]⟩
 ·obtain ⟨m,y,N⟩:=I.loc
  refine ⟨m,U m y,λi x v B e2 M=>?_⟩
  obtain ⟨u,r,l⟩:=N i x v B e2 M;refine ⟨u,r,?_⟩
  rcases l with l | ⟨k,c,e,z⟩
  ·exact .inl l
  ·exact .inr ⟨k,c,e,h x c e _ z⟩
 ·obtain ⟨v,z⟩:=I.cell x c e
  exact ⟨v,h x c e v z⟩
 ·obtain ⟨m,⟨o,_,_,K,_⟩,_⟩:=I.loc
  exact free _ o (λz=>(a _ z).2.1 rfl) K I.free
 ·obtain ⟨v,o,K,F⟩:=I.cell x c e
  exact free c o (λz=>(a c z).2.2.1 x c e rfl) K (I.freeC x c e)
 ·obtain ⟨e,n,P,nf,d⟩:=I.pin p g
  have t:p.1∉ch:=λz=>(a p.1 z).2.2.2 p g rfl
  exact ⟨f p.1 p.2 P nf t e n,free p.1 p.2 t e n,P,nf,d⟩
theorem Inv.un {t':Nat} (I:Inv X pins σ H s) (u:Un X.fs [] H H' s.heap h') (A:HOk X.prog X.w H' h'):Inv X pins σ H' { s with heap:=h',toks:=t' }:=by
 obtain ⟨m,⟨o,j,N,K,r⟩,_⟩:=id I.loc;obtain ⟨R,P⟩:=u.any K I.free (by simp)
 exact I.step (g':=s.gens) (d':=s.drawn) (ch:=[]) (λ_ z=>nomatch z) (λb o _ Z _ e n=>u.keep b o e n Z (by simp)) (λb o _ Z _ e n=>u.slot b o e n Z (by simp)) (λb o _ e n=>u.free b o e n (by simp)) (λb o _ e=>u.there b o e (by simp)) u.tups u.frzs u.tbls (λE G=>by
  obtain ⟨L,f,d,C,t⟩:=G;rw [K] at C;cases C
  exact ⟨_,f,d,P,t⟩) A I.bare
theorem Inv.call {g':Array GenState} {t':Nat} {d':Drawn} {ch:List Addr} (I:Inv X pins σ H s) (u:Un (wA X.stack) ch H H' s.heap h') (A:HOk X.prog X.w H' h') (E:AllBare g')
  (a:∀b∈ch,(b∈X.ex\/X.s₀.heap.objs.size<=b)/\b≠X.env.locals/\(∀x c,X.env.cells.lookup x=some c->c≠b)/\∀p∈X.pn++pins,p.1≠b) :
  Inv X pins σ H' { s with heap:=h',gens:=g',drawn:=d',toks:=t' }:=by
 obtain ⟨m,⟨o,j,N,K,r⟩,_⟩:=id I.loc;obtain ⟨R,P⟩:=u.any K I.free λz=>(a _ z).2.1 rfl
 exact I.step (ch:=ch) a (λb o P Z J e n=>u.keep b o e n (λz=>(Nk (I.stkSub b z)).elim P Z) J) (λb o _ _ J e n=>u.any e n J) (λb o J e n=>u.free b o e n J) (λb o J e=>u.there b o e J) u.tups u.frzs u.tbls (λg G=>by
  obtain ⟨L,f,d,C,t⟩:=G;rw [K] at C;cases C
  exact ⟨_,f,d,P,t⟩) A E
theorem Inv.turned {t':Nat} {L:Addr} (I:Inv X pins σ H s) (k:∀b o,b≠L->s.heap.get? b=some o->h'.get? b=some o) (y:H L=none) (P:L≠X.env.locals)
  (R:L∈X.ex\/X.s₀.heap.objs.size<=L) (C:∀x c,X.env.cells.lookup x=some c->c≠L) (a:∀p∈X.pn++pins,p.1≠L):Inv X pins σ H { s with heap:=h',toks:=t' }:=by
 have d:∀b u,H b=some u->b≠L:=λb u e z=>by rw [z,y] at e;cases e
 refine I.step (g':=s.gens) (d':=s.drawn) (ch:=[L]) (λb Z=>?_) (λb o _ _ J e _=>k b o (λz=>J (by simp [z])) e) (λb o _ _ J e _=>⟨o.slots,k b o (λz=>J (by simp [z])) e⟩) (λ_ _ _ _ n=>n)
  (λb o J e=>⟨o,k b o (λz=>J (by simp [z])) e⟩) (λ_ _ e=>e) (λ_ _ _ e=>e) (λb f e=>⟨#[],by rw [e];simp⟩) (λm G=>?_) (λb u e=>?_) I.bare
 ·have e:b=L:=by simpa using Z
  subst e;exact ⟨R,P,C,a⟩
 ·obtain ⟨o,j,N,K,r⟩:=G
  exact ⟨o,j,N,k _ o (Ne.symm P) K,r⟩
 ·refine (I.hok b u e).stay (λc v J q=>k c v ?_ q) (λ_ q=>q) λ_ _ q=>q
  rcases J with z | z
  ·rw [z];exact d b u e
  ·exact d c _ z
theorem Inv.tok (I:Inv X pins σ H s) (t:Nat):Inv X pins σ H { s with toks:=t }:=I.un (h':=s.heap) (t':=t) Un.refl I.hok
theorem Inv.kept {t':Nat} (I:Inv X pins σ H s) (k:∀b u,s.heap.get? b=some u->h'.get? b=some u):Inv X pins σ H { s with heap:=h',toks:=t' }:=I.un (Un.kept k) (I.hok.kept k)
theorem Inv.laid {a:Addr} {o:HO} {t':Nat} (I:Inv X pins σ H s) (k:∀b u,s.heap.get? b=some u->h'.get? b=some u) (g:s.heap.objs.size<=a) (L:ObjOk X.prog X.w (aR H a o) h' a o) :
  Inv X pins σ (aR H a o) { s with heap:=h',toks:=t' }:=I.un (Un.laid k g (I.hok.fresh g)) (I.hok.laid k g L)
theorem Inv.write {x e:Addr} {o:HO} {t':Nat} (I:Inv X pins σ H s) (f:HP (H x)) (R:e=x\/H e=some (.own x)) (k:∀b u,b≠e->s.heap.get? b=some u->h'.get? b=some u) (g:∃u,h'.get? e=some u)
  (L:ObjOk X.prog X.w (aR H x o) h' x o):Inv X pins σ (aR H x o) { s with heap:=h',toks:=t' }:=I.un (Un.write f R k g) (I.hok.write f R k g L)
theorem Inv.weak {A:List (Option V)} (I:Inv X pins σ H s) (N:A.length=σ.length) (w:∀(i:Nat) v,A[i]?=some (some v)->σ[i]?=some (some v)):Inv X pins A H s:=
 ⟨I.ok,I.os,I.bare,I.base,let ⟨m,y,a⟩:=I.loc;⟨m,y,λi x v B b M=>a i x v B (w i v b) M⟩,I.cell,I.free,I.freeC,I.pin,I.hok,N.trans I.len⟩
theorem Inv.pins_of {a:List (Addr×Obj)} (I:Inv X pins σ H s) (h:∀p∈a,s.heap.get? p.1=some p.2/\H p.1=none/\p.1≠X.env.locals/\p.1∉X.fs/\∀v,p.2.data≠.cell v):Inv X a σ H s:=
 ⟨I.ok,I.os,I.bare,I.base,I.loc,I.cell,I.free,I.freeC,λp g=>(Nj g).elim (λz=>I.pin p (Ni _ z)) (h p),I.hok,I.len⟩
theorem nt {N:List Str} (O:N.Nodup) {i j:Nat} {x:Str} (a:N[i]?=some x) (b:N[j]?=some x):i=j:=by
 obtain ⟨R,B⟩:=Nq a
 obtain ⟨C,m⟩:=Nq b
 exact (List.getElem_inj O).mp (B.trans m.symm)
theorem j7 {M:Model} {A:Around} {E:Value->Shared->Prop} {i:Nat} {x:Str} {v:V} {u:Value} {Q:Unit->Shared->Prop} (I:Inv X pins σ H s) (O:X.N.Nodup) (l:X.N[i]?=some x) (G:Loc X.env.scope x) (r:RelV v u)
  (h:∀s',Inv X pins (σ.set i (some v)) H s'->(∃a,Heap.SameBut a s.heap s'.heap/\(a=X.env.locals\/X.env.cells.lookup x=some a))->Q () s') (hf:X.fn x=true\/X.env.scope.names.lookup x=some .local:=by first | exact .inl rfl | exact .inr rfl | assumption):wpAny M A (storeName X.env x u) Q E s:=by
 obtain ⟨m,hn,N⟩:=id I.loc;have hcls:(X.env.scope.kind==.class||(X.env.scope.kind==.module&&X.env.locals != X.env.globals))=false:=by rw [I.ok.kind];rfl
 have hiσ:i<σ.length:=by rw [I.len];exact (Nq l).1
 have cne:=I.cne
 have w:∀{a:Addr} {h':Heap},(∃o,s.heap.get? a=some o/\H a=none)->Heap.SameBut a s.heap h'->HOk X.prog X.w H h':=λ{a h'} ha Y b ob e=>by
  obtain ⟨_,_,K⟩:=ha;refine (I.hok b ob e).stay (λc w' J q=>(Y.2 c ?_).trans q) (λ_ q=>q) λ_ _ q=>q
  rintro rfl
  rcases J with rfl | J
  ·rw [K] at e;cases e
  ·rw [K] at J;cases J
 rcases G with hk | hk
 ·refine wpAny_storeName_local hk hn (λh' hn' Y=>?_) hcls
  obtain ⟨oL,_,_,F,_⟩:=id hn;refine h _ ⟨I.ok,I.os,I.bare,⟨λb o e n Z G=>?_,λb o e n Z G=>?_,I.base.free,λb o e G=>?_,I.base.tups,I.base.frzs,I.base.tbls⟩,⟨_,hn',λj y v' B e2 e3=>?_⟩,λy c e=>?_,I.free,I.freeC,λp g=>?_,w ⟨oL,F,I.free⟩ Y,by simpa using I.len⟩ ⟨_,Y,.inl rfl⟩
  ·exact (Y.2 b (Nat.ne_of_lt (Nat.lt_of_lt_of_le (Heap.lt_size e) I.ok.above))).trans (I.base.keep b o e n Z G)
  ·obtain ⟨R,B⟩:=I.base.slot b o e n Z G
   exact ⟨R,(Y.2 b (Nat.ne_of_lt (Nat.lt_of_lt_of_le (Heap.lt_size e) I.ok.above))).trans B⟩
  ·obtain ⟨L,B⟩:=I.base.there b o e G
   exact ⟨L,(Y.2 b (Nat.ne_of_lt (Nat.lt_of_lt_of_le (Heap.lt_size e) I.ok.above))).trans B⟩
  ·by_cases hj:j=i
   ·subst hj
    rw [l] at B;cases B;rw [getElem?_set_self hiσ] at e2
    cases e2;exact ⟨u,r,.inl ⟨hk,by simp⟩⟩
   ·rw [getElem?_set_ne (Ne.symm hj)] at e2
    obtain ⟨u',t,q⟩:=N j y v' B e2 e3
    refine ⟨u',t,?_⟩
    rcases q with ⟨k,e⟩ | ⟨k,c,e,z⟩
    ·refine .inl ⟨k,?_⟩
     have:y≠x:=λe=>hj (nt O B (e▸l))
     simp [this,e]
    ·exact .inr ⟨k,c,e,z.sameBut Y (cne y c e)⟩
  ·obtain ⟨w',z⟩:=I.cell y c e
   exact ⟨w',z.sameBut Y (cne y c e)⟩
  ·obtain ⟨e,n,P,U,d⟩:=I.pin p g
   exact ⟨(Y.2 p.1 P).trans e,n,P,U,d⟩
 ·have hfn:X.fn x=true:=by
   rcases hf with z | z
   ·exact z
   ·rw [z] at hk;cases hk
  obtain ⟨c,J⟩:=I.ok.has x (.inl hk);obtain ⟨w',z⟩:=I.cell x c J;refine wpAny_storeName_cell I.ok.kind hk J z (λh' f Y=>?_)
  obtain ⟨C,hoc,hocd⟩:=id z;refine h { s with heap:=h' } ⟨I.ok,I.os,I.bare,⟨λb o e n Z G=>?_,λb o e n Z G=>?_,I.base.free,λb o e G=>?_,I.base.tups,I.base.frzs,I.base.tbls⟩,⟨m,hn.sameBut Y (Ne.symm (cne x c J)),λj y v' B e2 e3=>?_⟩,λy c' e=>?_,I.free,I.freeC,λp g=>?_,w ⟨C,hoc,I.freeC x c J⟩ Y,by simpa using I.len⟩ ⟨c,Y,.inr J⟩
  ·exact (Y.2 b (Nat.ne_of_lt (Nat.lt_of_lt_of_le (Heap.lt_size e) (I.ok.cab x c hfn J)))).trans (I.base.keep b o e n Z G)
  ·obtain ⟨R,B⟩:=I.base.slot b o e n Z G
   exact ⟨R,(Y.2 b (Nat.ne_of_lt (Nat.lt_of_lt_of_le (Heap.lt_size e) (I.ok.cab x c hfn J)))).trans B⟩
  ·obtain ⟨L,B⟩:=I.base.there b o e G
   exact ⟨L,(Y.2 b (Nat.ne_of_lt (Nat.lt_of_lt_of_le (Heap.lt_size e) (I.ok.cab x c hfn J)))).trans B⟩
  ·by_cases hj:j=i
   ·subst hj
    rw [l] at B;cases B;rw [getElem?_set_self hiσ] at e2
    cases e2;exact ⟨u,r,.inr ⟨.inl hk,c,J,f⟩⟩
   ·rw [getElem?_set_ne (Ne.symm hj)] at e2
    obtain ⟨u',t,q⟩:=N j y v' B e2 e3
    refine ⟨u',t,?_⟩
    rcases q with q | ⟨k,c',e,z'⟩
    ·exact .inl q
    ·refine .inr ⟨k,c',e,z'.sameBut Y ?_⟩
     rintro rfl
     exact hj (nt O B (I.ok.inj _ _ _ e J▸l))
  ·by_cases hcc:c'=c
   ·subst hcc;exact ⟨_,f⟩
   ·obtain ⟨w2,z2⟩:=I.cell y c' e
    exact ⟨w2,z2.sameBut Y hcc⟩
  ·obtain ⟨e,n,P,U,d⟩:=I.pin p g
   refine ⟨(Y.2 p.1 ?_).trans e,n,P,U,d⟩
   intro q;rw [q,hoc] at e;have q':C=p.2:=Option.some.inj e
   exact d w' (by rw [<-q'];exact hocd)
theorem mF {M:Model} {A:Around} {E:Value->Shared->Prop} {i:Nat} {x:Str} {v:V} {u:Value} {Q:Unit->Shared->Prop} (I:Inv X pins σ H s) (O:X.N.Nodup) (l:X.N[i]?=some x) (G:Loc X.env.scope x) (r:RelV v u)
  (h:∀j,Inv X pins (σ.set i (some v)) H j->Q () j) (m:X.fn x=true\/X.env.scope.names.lookup x=some .local:=by first | exact .inl rfl | exact .inr rfl | assumption):wpAny M A (storeName X.env x u) Q E s:=
 j7 I O l G r (λj z _=>h j z) m
theorem Inv.call' {j:Shared} {ch:List Addr} (I:Inv X pins σ H s) (K:j.os=s.os) (u:Un (wA X.stack) ch H H' s.heap j.heap) (A:HOk X.prog X.w H' j.heap) (E:AllBare j.gens)
  (a:∀b∈ch,(b∈X.ex\/X.s₀.heap.objs.size<=b)/\b≠X.env.locals/\(∀x c,X.env.cells.lookup x=some c->c≠b)/\∀p∈X.pn++pins,p.1≠b):Inv X pins σ H' j:=by
 obtain ⟨h',g',d',t',L⟩:=j
 have e:L=s.os:=K
 subst e;exact I.call (g':=g') (t':=t') (d':=d') u A E a
end
abbrev XK:=Value->Option Addr->Hp->Prop
abbrev St:=List (Option V)
abbrev VK:=V->Hp->Prop
abbrev TE:=St->Hp->VK->Prop
abbrev TT:=St->Hp->(Bool->Hp->Prop)->Prop
abbrev TA:=St->Hp->(List V->Hp->Prop)->Prop
structure dW where
 nx:St->Hp->Prop
 rt:VK
 bk:St->Hp->Prop:=λ_ _=>False
 ct:St->Hp->Prop:=λ_ _=>False
abbrev TS:=dW->St->Hp->Prop
noncomputable def EP (X:Cx) (B:List (Addr×Obj)) (M:St) (Q:VK) (u:Value) (j:Shared):Prop:=∃v F,Inv X B M F j/\RelV v u/\Q v F
noncomputable def TP (X:Cx) (B:List (Addr×Obj)) (M:St) (Q:Bool->Hp->Prop) (b:Bool) (j:Shared):Prop:=∃F,Inv X B M F j/\Q b F
noncomputable def AP (X:Cx) (B:List (Addr×Obj)) (M:St) (Q:List V->Hp->Prop) (z:List Value) (j:Shared):Prop:=∃L F,Inv X B M F j/\Vals L z/\Q L F
noncomputable def SP (X:Cx) (B:List (Addr×Obj)) (D:dW) (f:Flow) (j:Shared):Prop:=
 match f with
 | .next=>∃A F,Inv X B A F j/\D.nx A F
 | .brk=>∃A F,Inv X B A F j/\D.bk A F
 | .cont=>∃A F,Inv X B A F j/\D.ct A F
 | .ret u=>∃v A F,Inv X B A F j/\RelV v u/\D.rt v F
noncomputable def PE (X:Cx) (e:Expr) (t:TE):Prop:=
 ∀(B:List (Addr×Obj)) (s:Shared) (σ:St) (H:Hp) (Q:VK),Inv X B σ H s->t σ H Q->wpAny (model X.prog X.w) X.A (eval e X.env) (EP X B σ Q) X.xe s
noncomputable def PT (X:Cx) (e:Expr) (t:TT):Prop:=
 ∀(B:List (Addr×Obj)) (s:Shared) (σ:St) (H:Hp) (Q:Bool->Hp->Prop),Inv X B σ H s->t σ H Q->wpAny (model X.prog X.w) X.A (isTrue e X.env (eval e X.env)) (TP X B σ Q) X.xe s
noncomputable def PW (X:Cx) (e:Expr) (t:TT):Prop:=
 ∀(f:Sem Value) (pins:List (Addr×Obj)) (s:Shared) (σ:St) (H:Hp) (Q:Bool->Hp->Prop),Inv X pins σ H s->t σ H Q->wpAny (model X.prog X.w) X.A (isTrue e X.env f) (TP X pins σ Q) X.xe s
theorem PW.pt {X:Cx} {e:Expr} {t:TT} (h:PW X e t):PT X e t:=h _
noncomputable def PA (X:Cx) (j:List Expr) (t:TA):Prop:=
 ∀(K:Pos) (pins:List (Addr×Obj)) (s:Shared) (σ:St) (H:Hp) (Q:List V->Hp->Prop),Inv X pins σ H s->t σ H Q->wpAny (model X.prog X.w) X.A (spliced (backTo K (starEach j X.env))) (AP X pins σ Q) X.xe s
noncomputable def PS (X:Cx) (st:Stmt) (t:TS):Prop:=
 ∀(B:List (Addr×Obj)) (s:Shared) (σ:St) (H:Hp) (D:dW),Inv X B σ H s->t D σ H->wpAny (model X.prog X.w) X.A (exec st X.env) (SP X B D) X.xe s
noncomputable def PSs (X:Cx) (st:List Stmt) (t:TS):Prop:=
 ∀(B:List (Addr×Obj)) (s:Shared) (σ:St) (H:Hp) (D:dW),Inv X B σ H s->t D σ H->wpAny (model X.prog X.w) X.A (execs st X.env) (SP X B D) X.xe s
theorem bt {u:Type} {t:Sem u} {Q C:u->Shared->Prop} {M:Model} {A:Around} {E:Value->Shared->Prop} {s:Shared} (h:wpAny M A t Q E s) (k:∀a s,Q a s->C a s):wpAny M A t C E s:=wpAny_mono h k λ_ _ x=>x
section
variable {X:Cx}
noncomputable def aG (i:Nat):TE:=λM H Q=>∃v,M[i]?=some (some v)/\Q v H
noncomputable def tC (v:V):TE:=λ_ H Q=>Q v H
theorem Ew {i:Nat} {x:Str} {K:Pos} (a:X.N[i]?=some x) (P:Em X.env.scope x) (F:(x==("__debug__":Str))=false:=by decide) (g:(x==("__classdict__":Str))=false:=by decide):PE X (.Name x K) (aG i):=by
 intro B s M H Q I h;obtain ⟨v,e,h⟩:=h;obtain ⟨m,y,N⟩:=I.loc;obtain ⟨u,r,l⟩:=N i x v a e P;have d:EP X B M Q u s:=⟨v,H,I,r,h⟩
 rcases l with ⟨O,G⟩ | ⟨O,c,hc,hcell⟩
 ·exact wpAny_Name (wpAny_loadName_local I.ok.kind O y G d) F
 ·rcases O with O | O
  ·exact wpAny_Name (wpAny_loadName_cell I.ok.kind O hc hcell d) F
  ·exact wpAny_Name (wpAny_loadName_free I.ok.kind O hc hcell d g) F
theorem JK {i j pos}:PE X (.Constant (.int i) j pos) (tC (.int i)):=λ_ _ _ H _ I h=>wpAny_Constant_int ⟨.int i,H,I.tok _,⟨_,rfl⟩,h⟩
theorem vC {b j pos}:PE X (.Constant (.bool b) j pos) (tC (.bl b)):=λ_ _ _ H _ I h=>Constant_bool ⟨.bl b,H,I,rfl,h⟩
theorem DY {j pos}:PE X (.Constant .none j pos) (tC .non):=λ_ _ _ H _ I h=>Constant_none ⟨.non,H,I,rfl,h⟩
theorem JL {x j pos}:PE X (.Constant (.str x) j pos) (tC (.str x)):=λ_ _ _ H _ I h=>Calls.Constant_str ⟨.str x,H,I.tok _,⟨_,rfl⟩,h⟩
noncomputable def Gl (X:Cx) (x:Str):Prop:=X.env.kindOf x=some .globalImplicit
theorem qY {E:Value->Shared->Prop} {B:List (Addr×Obj)} {s:Shared} {M:St} {H:Hp} {x:Str} {u:Value} {K:Pos} {Q:Value->Shared->Prop} (I:Inv X B M H s) (a:Gl X x) (G:X.mg x=some u) (h:Q u s)
  (F:(x==("__debug__":Str))=false:=by decide):wpAny (model X.prog X.w) X.A (eval (.Name x K) X.env) Q E s:=
 Calls.Name_function_global I.ok.kind a (Calls.loadGlobal_global (by rw [I.ok.glob];exact I.mod.glob.keeps I.bk) G h) F
theorem xj {E:Value->Shared->Prop} {B:List (Addr×Obj)} {s:Shared} {M:St} {H:Hp} {x:Str} {u:Value} {K:Pos} {Q:Value->Shared->Prop} (I:Inv X B M H s) (a:Gl X x) (G:X.mg x=none) (P:bootBuiltins x=some u) (h:Q u s)
  (y:x ≠ "__name__":=by decide) (F:(x==("__debug__":Str))=false:=by decide):wpAny (model X.prog X.w) X.A (eval (.Name x K) X.env) Q E s:=by
 obtain ⟨N,R,C⟩:=I.mod.blt;exact Calls.Name_function_global I.ok.kind a (Calls.loadGlobal_builtin (by rw [I.ok.glob];exact I.mod.glob.keeps I.bk) G (by rw [I.ok.blt];exact R.keeps I.bk) ((C x y).trans P) h) F
theorem yv {x:Str} {v:V} {u:Value} {K:Pos} (E:Gl X x) (G:X.mg x=some u) (r:RelV v u) (F:(x==("__debug__":Str))=false:=by decide):PE X (.Name x K) (tC v):=
 λ_ _ _ H _ I h=>qY I E G ⟨v,H,I,r,h⟩ F
theorem yx {x:Str} {v:V} {u:Value} {K:Pos} (E:Gl X x) (G:X.mg x=none) (P:bootBuiltins x=some u) (r:RelV v u) (y:x ≠ "__name__":=by decide) (F:(x==("__debug__":Str))=false:=by decide):PE X (.Name x K) (tC v):=
 λ_ _ _ H _ I h=>xj I E G P ⟨v,H,I,r,h⟩ y F
variable {a b:Expr} {ta tb:TE} {pos:Pos}
noncomputable def PC (X:Cx) (f:CmpOp) (a b:Expr) (t:TE):Prop:=
 ∀(B:List (Addr×Obj)) (s:Shared) (σ:St) (H:Hp) (Q:VK),Inv X B σ H s->t σ H Q ->
  wpAny (model X.prog X.w) X.A (eval a X.env) (λv g=>wpAny (model X.prog X.w) X.A (eval b X.env) (λu O=>wpAny (model X.prog X.w) X.A (compareOp f v u) (EP X B σ Q) X.xe O) X.xe g) X.xe s
noncomputable def tB (t:TE):TT:=λM H Q=>t M H λx Z=>∃c,x=.bl c/\Q c Z
theorem B8 {f:CmpOp} {t:TE} (h:PC X f a b t) (R:behindInMarks f b=false:=by first | exact nobehind _ (by decide) (by decide) | rfl):PE X (.Compare a [f] [b] pos) t:=λB s M H Q I O=>wpAny_Compare1 (h B s M H Q I O) R
theorem Ie {f:CmpOp} {t:TE} (h:PC X f a b t) (R:behindInMarks f b=false:=by first | exact nobehind _ (by decide) (by decide) | rfl):PT X (.Compare a [f] [b] pos) (tB t):=by
 intro B s M H Q I O;refine wpAny_isTrue_Compare1 (bt (h B s M H _ I O) λv A R=>bt R λu N C=>bt C λc Y ⟨x,H1,I1,r1,q1⟩=>?_) R
 obtain ⟨d,rfl,q⟩:=q1
 cases r1;exact wpAny_truthy_bool ⟨H1,I1,q⟩
theorem B3 {e:Expr} {t:TE} (h:PE X e t) (R:∀f,isTrue e X.env f=(do let v <-f;standAt e.pos;holding [v] (truthy v)):=by intro _;rfl):PT X e (tB t):=by
 intro B s M H Q I O;refine isTrue_plain (bt (h B s M H _ I O) λv A ⟨x,H1,I1,r1,q1⟩=>?_) (R _)
 obtain ⟨d,rfl,q⟩:=q1
 cases r1;exact wpAny_truthy_bool ⟨H1,I1,q⟩
variable {tA tB':TT} {rest:List Expr}
noncomputable def Fo (t u:TT):TT:=λM H Q=>t M H λc Z=>if c=true then u M Z Q else Q false Z
noncomputable def Mf (t u:TT):TT:=λM H Q=>t M H λc Z=>if c=true then Q true Z else u M Z Q
noncomputable def Fl (t:TT):TT:=λM H Q=>t M H λc Z=>Q (!c) Z
theorem yq (U:PT X a tA):PW X (.BoolOp .And [a] pos) tA:=by
 intro d B s M H Q I h;refine isTrue_and (bt (U B s M H Q I h) λc A e=>?_)
 cases c with
 | true=>exact isTrue_and_nil e
 | false=>exact e
theorem B1 (U:PT X a tA):PW X (.BoolOp .Or [a] pos) tA:=by
 intro d B s M H Q I h;refine isTrue_or (bt (U B s M H Q I h) λc A e=>?_)
 cases c with
 | false=>exact isTrue_or_nil e
 | true=>exact e
theorem B2 (U:PT X a tA) (Z:PW X (.BoolOp .And (b::rest) pos) tB'):PW X (.BoolOp .And (a::b::rest) pos) (Fo tA tB'):=by
 intro d B s M H Q I h;refine isTrue_and (bt (U B s M H _ I h) λc A ⟨H1,I1,q1⟩=>?_)
 cases c with
 | true=>exact Z d B A M H1 Q I1 q1
 | false=>exact ⟨H1,I1,q1⟩
theorem Gk (U:PT X a tA) (Z:PW X (.BoolOp .Or (b::rest) pos) tB'):PW X (.BoolOp .Or (a::b::rest) pos) (Mf tA tB'):=by
 intro d B s M H Q I h;refine isTrue_or (bt (U B s M H _ I h) λc A ⟨H1,I1,q1⟩=>?_)
 cases c with
 | true=>exact ⟨H1,I1,q1⟩
 | false=>exact Z d B A M H1 Q I1 q1
theorem B5 (U:PT X a tA):PT X (.UnaryOp .Not a pos) (Fl tA):=by
 intro B s M H Q I h;exact isTrue_not (U B s M H (λc Z=>Q (!c) Z) I h)
noncomputable def Aa (d u:TE):TE:=λM H Q=>d M H λx Z=>∃c,x=.bl c/\if c=true then u M Z Q else Q (.bl false) Z
theorem pe_one {op} {t:TE} (h:PE X a t):PE X (.BoolOp op [a] pos) t:=λB s M H Q I O=>BoolOp_one (h B s M H Q I O)
theorem Ca (U:PE X a ta) (Z:PE X (.BoolOp .And (b::rest) pos) tb):PE X (.BoolOp .And (a::b::rest) pos) (Aa ta tb):=by
 intro B s M H Q I h;refine BoolOp_and (bt (U B s M H _ I h) λv A ⟨x,H1,I1,r1,F⟩=>?_)
 obtain ⟨c,rfl,F⟩:=F
 cases r1;refine wpAny_truthy_bool ?_
 cases c with
 | true=>exact Z B A M H1 Q I1 F
 | false=>exact ⟨.bl false,H1,I1,rfl,F⟩
noncomputable def KG (t:TT) (d u:TE):TE:=λM H Q=>t M H λc Z=>if c=true then d M Z Q else u M Z Q
theorem m6 {c:Expr} (J:PT X c tA) (U:PE X a ta) (Z:PE X b tb):PE X (.IfExp c a b pos) (KG tA ta tb):=by
 intro B s M H Q I h;refine wpAny_IfExp (bt (J B s M H _ I h) λd A ⟨H1,I1,q1⟩=>?_)
 cases d with
 | true=>exact U B A M H1 Q I1 q1
 | false=>exact Z B A M H1 Q I1 q1
end
noncomputable def SqL (K:Fg) (H:Hp) (a:Addr) (Y:List V):Prop:=
 Rd H a (.lst Y) \/
  ∃(o:Obj) (its:Array Value) (n:Nat),K.lookup a=some o/\o.cls=.type "list"/\o.dict=none/\o.data=.seq its n/\its.size<=sizeLine/\Vals Y its.toList
noncomputable def SqT (K:Fg) (H:Hp) (a:Addr) (Y:List V):Prop:=
 Rd H a (.tup Y) \/
  ∃(o:Obj) (its:Array Value) (n:Nat),K.lookup a=some o/\o.cls=.type "tuple"/\o.data=.seq its n/\its.size<=sizeLine/\Vals Y its.toList
noncomputable def LP:Value->Option V
 | .none=>some .non
 | .bool b=>some (.bl b)
 | .int i _=>some (.int i)
 | .str x _=>some (.str x)
 | .bytes b _=>some (.byt b)
 | .float b _=>some (.flt b)
 | .ref a=>some (.ref a)
 | .type n=>some (.ty n)
 | _=>none
theorem RelV.abs {x:V} {u:Value} (r:RelV x u):LP u=some x:=by
 cases x with
 | non=>cases r;rfl
 | bl _=>cases r;rfl
 | int _=>obtain ⟨t,rfl⟩:=r;rfl
 | str _=>obtain ⟨t,rfl⟩:=r;rfl
 | byt _=>obtain ⟨t,rfl⟩:=r;rfl
 | flt _=>obtain ⟨t,rfl⟩:=r;rfl
 | ref _=>cases r;rfl
 | ty _=>cases r;rfl
theorem RelV.inj {x y:V} {u:Value} (r:RelV x u) (q:RelV y u):x=y:=Option.some.inj (r.abs.symm.trans q.abs)
theorem Vals.inj:∀{Y G:List V} {us:List Value},Vals Y us->Vals G us->Y=G
 | _,_,_,.nil,.nil=>rfl
 | _,_,_,.cons r t,.cons r' t'=>by rw [r.inj r',Vals.inj t t']
section
variable {X:Cx} {pins:List (Addr×Obj)} {σ:St} {H:Hp} {s:Shared} {a:Addr} {xs ys:List V}
theorem SqL.of {K:Fg} (h:H a=some (.lst xs)):SqL K H a xs:=.inl (.inl h)
theorem SqT.of {K:Fg} (h:H a=some (.tup xs)):SqT K H a xs:=.inl (.inl h)
theorem Inv.list (I:Inv X pins σ H s) (h:SqL X.K H a xs):∃g:List Value,Vals xs g/\PlainL s.heap a g.toArray/\xs.length<=sizeLine:=by
 rcases h with h | ⟨o,g,n,hk,hc,hd,hs,hz,r⟩
 ·obtain ⟨z,g,n,r,e⟩:=h.ok I.hok
  exact ⟨g,r,⟨_,n,e,rfl,rfl,rfl⟩,z⟩
 ·refine ⟨g.toList,r,⟨o,n,I.kIn a o hk,hc,hd,by simpa using hs⟩,?_⟩
  have e:=r.length
  simp only [Array.length_toList] at e
  omega
theorem Inv.tuple (I:Inv X pins σ H s) (h:SqT X.K H a xs):∃g:List Value,Vals xs g/\IsTup s.heap a g.toArray/\xs.length<=sizeLine:=by
 rcases h with h | ⟨o,g,n,hk,hc,hs,hz,r⟩
 ·obtain ⟨z,g,r,p⟩:=h.ok I.hok
  exact ⟨g,r,p,z⟩
 ·refine ⟨g.toList,r,⟨o,I.kIn a o hk,hc,n,by simpa using hs⟩,?_⟩
  have e:=r.length
  simp only [Array.length_toList] at e
  omega
theorem Inv.list_inj (I:Inv X pins σ H s) (h:SqL X.K H a xs) (U:SqL X.K H a ys):xs=ys:=by
 obtain ⟨g,r,⟨o,n,e,_,_,d⟩,_⟩:=I.list h;obtain ⟨b,t,⟨L,f,J,_,_,Y⟩,_⟩:=I.list U
 rw [e] at J;cases J
 rw [d] at Y;injection Y with d1 _
 have:g=b:=by simpa using congrArg Array.toList d1
 subst this;exact r.inj t
theorem Inv.tuple_inj (I:Inv X pins σ H s) (h:SqT X.K H a xs) (U:SqT X.K H a ys):xs=ys:=by
 obtain ⟨g,r,⟨o,e,_,n,d⟩,_⟩:=I.tuple h;obtain ⟨b,t,⟨L,J,_,f,Y⟩,_⟩:=I.tuple U
 rw [e] at J;cases J
 rw [d] at Y;injection Y with d1 _
 have:g=b:=by simpa using congrArg Array.toList d1
 subst this;exact r.inj t
end
noncomputable abbrev Cx.wish (X:Cx) (E:Value->Shared->Prop):Cx:={ X with xe:=E }
noncomputable abbrev Cx.nox (X:Cx):Cx:=X.wish λ_ _=>False
theorem Cx.Ok.wish {X:Cx} (ok:X.Ok) (E:Value->Shared->Prop):(X.wish E).Ok:=
 ⟨ok.mod,ok.kind,ok.glob,ok.blt,ok.above,ok.inj,ok.has,ok.cab,ok.hd,ok.frames,ok.stk,ok.exf,ok.bs,ok.bsz,ok.noex,ok.exfs,ok.funs,ok.frf⟩
theorem Cx.Ok.unwish {X:Cx} {E:Value->Shared->Prop} (ok:(X.wish E).Ok):X.Ok:=
 ⟨ok.mod,ok.kind,ok.glob,ok.blt,ok.above,ok.inj,ok.has,ok.cab,ok.hd,ok.frames,ok.stk,ok.exf,ok.bs,ok.bsz,ok.noex,ok.exfs,ok.funs,ok.frf⟩
section
variable {X:Cx} {pins:List (Addr×Obj)} {σ:St} {H:Hp} {s:Shared} {E:Value->Shared->Prop}
theorem Inv.wish (I:Inv X pins σ H s) (E:Value->Shared->Prop):Inv (X.wish E) pins σ H s:=⟨I.ok.wish E,I.os,I.bare,I.base,I.loc,I.cell,I.free,I.freeC,I.pin,I.hok,I.len⟩
theorem Inv.unwish (I:Inv (X.wish E) pins σ H s):Inv X pins σ H s:=⟨I.ok.unwish,I.os,I.bare,I.base,I.loc,I.cell,I.free,I.freeC,I.pin,I.hok,I.len⟩
theorem SP.unwish {D:dW} {f:Flow} {j:Shared} (h:SP (X.wish E) pins D f j):SP X pins D f j:=by
 cases f with
 | next=>obtain ⟨A,F,I,q⟩:=h;exact ⟨A,F,I.unwish,q⟩
 | brk=>obtain ⟨A,F,I,q⟩:=h;exact ⟨A,F,I.unwish,q⟩
 | cont=>obtain ⟨A,F,I,q⟩:=h;exact ⟨A,F,I.unwish,q⟩
 | ret u=>obtain ⟨v,A,F,I,r,q⟩:=h;exact ⟨v,A,F,I.unwish,r,q⟩
theorem PSs.nox {st:List Stmt} {t:TS} (h:PSs X.nox st t):PSs X st t:=λpins s σ H D I O=>
 wpAny_mono (h pins s σ H D (I.wish _) O) (λ_ _ q=>q.unwish) λ_ _ z=>False.elim z
end
section
variable {X:Cx} {st:Stmt} {rest:List Stmt} {t u:TS} {e:Expr} {te:TE} {pos:Pos}
noncomputable def cU:TS:=λD M H=>D.nx M H
noncomputable def bL (t u:TS):TS:=λD M H=>t { D with nx:=u D } M H
theorem xh:PSs X [] cU:=λ_ _ M H _ I h=>wpAny_execs_nil ⟨M,H,I,h⟩
theorem fH (R:PS X st t) (C:PSs X rest u):PSs X (st::rest) (bL t u):=by
 intro B s M H D I h;refine wpAny_execs_cons (bt (R B s M H { D with nx:=u D } I h) λf a q=>?_)
 cases f with
 | next=>
  obtain ⟨A,F,z,q⟩:=q;exact C B a A F D z q
 | ret v=>exact q
 | brk=>exact q
 | cont=>exact q
theorem gK (R:PS X st t):PSs X [st] t:=by
 intro B s M H D I h;refine wpAny_execs_cons (bt (R B s M H D I h) λf A q=>?_)
 cases f with
 | next=>exact wpAny_execs_nil q
 | ret v=>exact q
 | brk=>exact q
 | cont=>exact q
theorem Inv.quiet {B:List (Addr×Obj)} {M:St} {H:Hp} {s:Shared} (I:Inv X B M H s):interactive X.env=false:=by simp [interactive,I.ok.kind]
noncomputable def iA (z:TE):TS:=λD M H=>z M H λ_ Z=>D.nx M Z
theorem D7 (R:PE X e te) (Y:swapsWith e none pos.line X.env=pure false:=by rfl):PS X (.Expr e pos) (iA te):=by
 intro B s M H D I h;exact wpAny_Expr_any (bt (R B s M H _ I h) λv A ⟨x,H1,I1,r1,q1⟩=>⟨M,H1,I1,q1⟩) I.quiet Y
noncomputable def dC (z:TE):TS:=λD M H=>z M H D.rt
theorem pX (R:PE X e te):PS X (.Return (some e) pos) (dC te):=by
 intro B s M H D I h;exact wpAny_Return_some (bt (R B s M H _ I h) λv A ⟨x,H1,I1,r1,q1⟩=>⟨x,M,H1,I1,r1,q1⟩)
noncomputable def fK (c:TT) (t u:TS):TS:=λD M H=>c M H λb Z=>if b=true then t D M Z else u D M Z
theorem fj {c:Expr} {a b:List Stmt} {i:TT} (J:PT X c i) (U:PSs X a t) (Z:PSs X b u):PS X (.If c a b pos) (fK i t u):=by
 intro B s M H D I h;refine wpAny_If (bt (J B s M H _ I h) λd A ⟨H1,I1,q1⟩=>?_)
 cases d with
 | true=>exact U B A M H1 D I1 q1
 | false=>exact Z B A M H1 D I1 q1
end
abbrev TG:=V->St->Hp->(St->Hp->Prop)->Prop
abbrev DB:=List V->St->Hp->(St->Hp->Prop)->Prop
noncomputable def PG (X:Cx) (a:Expr) (t:TG):Prop:=
 ∀(B:List (Addr×Obj)) (s:Shared) (σ:St) (H:Hp) (v:V) (u:Value) (Q:St->Hp->Prop),Inv X B σ H s->RelV v u->t v σ H Q ->
  wpAny (model X.prog X.w) X.A (assign a X.env u) (λ_ j=>∃A F,Inv X B A F j/\Q A F) X.xe s
noncomputable def Jm (X:Cx) (q:List Expr) (t:DB):Prop:=
 ∀(B:List (Addr×Obj)) (s:Shared) (σ:St) (H:Hp) (vs:List V) (us:List Value) (Q:St->Hp->Prop),Inv X B σ H s->Vals vs us->t vs σ H Q ->
  wpAny (model X.prog X.w) X.A (assignInOrder ((assignEach q X.env).map (·.2)) us) (λ_ j=>∃A F,Inv X B A F j/\Q A F) X.xe s
abbrev LS:=V->V->V->Hp->(Hp->Prop)->Prop
section
variable {X:Cx} {pos:Pos}
noncomputable def aP (i:Nat):TG:=λv M H Q=>Q (M.set i (some v)) H
theorem Ip {i:Nat} {x:Str} (O:X.N.Nodup) (l:X.N[i]?=some x) (G:Loc X.env.scope x) (m:X.fn x=true\/X.env.scope.names.lookup x=some .local:=by first | exact .inl rfl | exact .inr rfl | assumption):PG X (.Name x pos) (aP i):=by
 intro B s M H v u Q I r h;exact wpAny_assign_Name (mF I O l G r (λj z=>⟨_,H,z,h⟩) m)
noncomputable def G5:DB:=λL M H Q=>L=[]/\Q M H
noncomputable def wx (t:TG) (u:DB):DB:=λL M H Q=>∃v r,L=v::r/\t v M H λA F=>u r A F Q
theorem yu:Jm X [] G5:=by
 intro B s M H L z Q I r h;obtain ⟨e,h⟩:=h;subst e
 cases r;exact assignInOrder_nil ⟨M,H,I,h⟩
theorem m5 {e:Expr} {j:List Expr} {t:TG} {u:DB} (R:PG X e t) (C:Jm X j u)
  (Y:(assignEach (e::j) X.env).map (·.2)=assign e X.env::(assignEach j X.env).map (·.2):=by rfl):Jm X (e::j) (wx t u):=by
 intro B s M H L z Q I r h;obtain ⟨v,a,b,h⟩:=h;subst b
 cases r with
 | cons r c=>
  rw [Y];refine assignInOrder_cons (bt (R B s M H _ _ _ I r h) λ_ A ⟨σ1,H1,I1,q1⟩=>?_)
  exact C B A σ1 H1 _ _ Q I1 c q1
noncomputable def G4 (K:Fg) (n:Nat) (t:DB):TG:=λv M H Q=>∃a Y,v=.ref a/\SqT K H a Y/\Y.length=n/\t Y M H Q
theorem B7 {j:List Expr} {k:Nat} {t:DB} {n:Nat} (J:X.calm=true) (h:Jm X j t)
  (y:(assignEach j X.env).length=n:=by rfl) (q:(assignEach j X.env).findIdx? (·.1)=none:=by rfl):PG X (.Tuple j k pos) (G4 X.K n t):=by
 intro B s M H v u Q I r O;obtain ⟨a,Y,c,d,N,O⟩:=O;subst c
 cases r;obtain ⟨g,f,L,w⟩:=I.tuple d;refine assign_Tuple_tuple (I.ok.hd J) L (by simp [y,<-N,f.length]) q λU G=>?_
 have x:Inv X B M H { s with heap:=U }:=I.kept (t':=s.toks) λb o e=>G b o (Nat.ne_of_lt (Heap.lt_size e)) e
 exact h B _ M H Y _ Q x (by simpa using f) O
noncomputable def gSub (c a:TE) (t:LS):TG:=λv M H Q=>c M H λo Z=>a M Z λi j=>t o i v j λd=>Q M d
noncomputable def dm (z:TE) (g:TG):TS:=λD M H=>z M H λx Z=>g x M Z D.nx
theorem vo {i:Nat} {x:Str} {e:Expr} {z:TE} {r:Pos} (O:X.N.Nodup) (l:X.N[i]?=some x) (G:Loc X.env.scope x) (R:PE X e z) (Y:swapsWith e (some (.Name x r)) pos.line X.env=pure false:=by rfl) (m:X.fn x=true\/X.env.scope.names.lookup x=some .local:=by first | exact .inl rfl | exact .inr rfl | assumption) :
  PS X (.Assign [.Name x r] e pos) (dm z (aP i)):=by
 intro B s M H D I h;refine wpAny_Assign_Name (bt (R B s M H _ I h) λv A ⟨y,H1,I1,r1,q1⟩=>?_) Y
 exact mF I1 O l G r1 (λN a=>⟨_,H1,a,q1⟩) m
end
section
variable {X:Cx} {pos:Pos}
noncomputable def iz (c:TT) (u:TS):TS:=λD M H=>∃W:Nat->St->Hp->Prop,(∃m,W m M H)/\∀m M H,W m M H ->
 c M H λb Z=>if b=true then ∃N:St->Hp->Prop,(∀A F,N A F->∃E,E<m/\W E A F)/\u { D with nx:=N,ct:=N,bk:=D.nx } M Z else D.nx M Z
theorem mW {c:Expr} {C:List Stmt} {i:TT} {u:TS} (g:PassesOwn (model X.prog X.w) X.A X.env X.xe) (J:PT X c i) (Z:PSs X C u):PS X (.While c C [] pos) (iz i u):=by
 intro B s M H D I h;obtain ⟨W,⟨e,l⟩,k⟩:=h;refine wpAny_While (codeAny_whileLoop (λn j=>∃A F,Inv X B A F j/\W n A F) ?_ e ⟨M,H,I,l⟩)
 rintro n s1 ⟨σ1,H1,I1,w1⟩
 refine wpAny_passesOwn g (bt (J B s1 σ1 H1 _ I1 (k n σ1 H1 w1)) λb p ⟨H2,I2,P⟩=>?_)
 cases b with
 | true=>
  obtain ⟨N,O,P⟩:=P;rw [if_pos rfl];refine wpAny_passesOwn g (bt (Z B p σ1 H2 _ I2 P) λf Y o=>?_)
  cases f with
  | next=>
   obtain ⟨a,d,L,w⟩:=o;obtain ⟨E,G,m⟩:=O a d w;exact ⟨E,G,a,d,L,m⟩
  | cont=>
   obtain ⟨a,d,L,w⟩:=o;obtain ⟨E,G,m⟩:=O a d w;exact ⟨E,G,a,d,L,m⟩
  | brk=>exact o
  | ret v=>exact o
 | false=>
  rw [if_neg Bool.false_ne_true];exact wpAny_execs_nil ⟨σ1,H2,I2,P⟩
end
structure It where
 go:Nat->Hp->Prop
 yld:Nat->Hp->V->Hp->Prop
 stop:Nat->Hp->Prop
noncomputable def jS (X:Cx) (B:List (Addr×Obj)) (H:Hp) (b:Addr):Prop:=
 H b=none/\b≠X.env.locals/\b∉X.fs/\(b∈X.ex\/X.s₀.heap.objs.size<=b)/\(∀x c,X.env.cells.lookup x=some c->c≠b)/\∀p∈X.pn++B,p.1≠b
theorem Inv.fpOk {X:Cx} {B:List (Addr×Obj)} {M:St} {H F:Hp} {s:Shared} {b:Addr} (I:Inv X B M H s) (Z:s.heap.objs.size<=b) (y:F b=none):jS X B F b:=by
 refine ⟨y,Nat.ne_of_gt (Nat.lt_of_lt_of_le I.lt Z),I.nofs Z,.inr (Nat.le_trans I.sz Z),λx c e z=>?_,λp g z=>?_⟩
 ·obtain ⟨v,q⟩:=I.cell x c e
  exact absurd (Nat.lt_of_lt_of_le q.lt (by rw [z];exact Z)) (Nat.lt_irrefl _)
 ·exact absurd (Nat.lt_of_lt_of_le (Heap.lt_size (I.pin p g).1) (by rw [z];exact Z)) (Nat.lt_irrefl _)
structure uo (P:Program) (w:World) (K:Fg) (tg:Expr) (J:It) (fp:List Addr) (it:Addr) (tn:Nat->Heap->Prop):Prop where
 mem:it∈fp
 obj:∀i h,tn i h->∀b∈fp,∃o,h.get? b=some o/\∀v,o.data≠.cell v
 keep:∀i h h',tn i h->(∀b∈fp,∀o,h.get? b=some o->h'.get? b=some o)->tn i h'
 item:∀(X:Cx),X.prog=P->X.w=w->X.K=K->X.calm=true->∀(i:Nat) (pins:List (Addr×Obj)) (s:Shared) (σ:St) (H:Hp) (E:Value->Shared->Prop),Inv X pins σ H s->(∀b∈fp,jS X pins H b)->tn i s.heap->J.go i H ->
  wpAny (model P w) X.A (pyNext (.ref it)) (λr s1=>∃u,r=some u /\
   wpAny (model P w) X.A (letOwnedTupleGo tg (.ref it) u) (λ_ s2=>∃x H',Inv X pins σ H' s2/\RelV x u/\J.yld i H x H'/\tn (i+1) s2.heap/\∀b∈fp,H' b=none) E s1) E s
 done:∀(X:Cx),X.prog=P->X.w=w->X.K=K->X.calm=true->∀(i:Nat) (pins:List (Addr×Obj)) (s:Shared) (σ:St) (H:Hp) (E:Value->Shared->Prop),Inv X pins σ H s->(∀b∈fp,jS X pins H b)->tn i s.heap->J.stop i H ->
  wpAny (model P w) X.A (pyNext (.ref it)) (λr s1=>r=none/\Inv X pins σ H s1) E s
 self:∀(A:Around) (i:Nat) (s:Shared) (Q:Value->Shared->Prop) (E:Value->Shared->Prop),tn i s.heap->Q (.ref it) s->wpAny (model P w) A (pyIter (.ref it)) Q E s
abbrev TI:=St->Hp->(It->Hp->Prop)->Prop
noncomputable def MI (X:Cx) (B:List (Addr×Obj)) (M:St) (l:Expr) (R:It->Hp->Prop) (a:Value) (N:Shared):Prop:=
 ∃(L:Addr) (fp:List Addr) (tn:Nat->Heap->Prop) (J:It) (H':Hp),a=.ref L/\Inv X B M H' N/\uo X.prog X.w X.K l J fp L tn/\tn 0 N.heap/\(∀b∈fp,jS X B H' b)/\R J H'
noncomputable def PI (X:Cx) (l z:Expr) (c:TI):Prop:=
 ∀(B:List (Addr×Obj)) (s:Shared) (σ:St) (H:Hp) (R:It->Hp->Prop),Inv X B σ H s->c σ H R ->
  wpAny (model X.prog X.w) X.A (eval z X.env) (λv A=>wpAny (model X.prog X.w) X.A (pyIter v) (MI X B σ l R) X.xe A) X.xe s
theorem rD {M:Model} {A:Around} {E:Value->Shared->Prop} {s:Shared} {l:Expr} {a:Addr} {u:Value} {o:Obj} {n:String} {L:Array Value} {Q:Unit->Shared->Prop} (K:s.heap.get? a=some o) (J:o.cls=.type n) (F:o.data=.fields L)
  (y:["enumerate", "zip", "dict_itemiterator", "dict_reverseitemiterator", "odict_iterator", "itertools.zip_longest", "itertools.pairwise"].contains n=false) (k:Q () s):wpAny M A (letOwnedTupleGo l (.ref a) u) Q E s:=by
 unfold letOwnedTupleGo
 cases l<;>first
  | exact Nt k
  | (cases u<;>first
      | exact Nt k
      | (refine Nr (wpAny_load K ?_)
         rw [J,F];show wpAny M A (if (["enumerate", "zip", "dict_itemiterator", "dict_reverseitemiterator", "odict_iterator", "itertools.zip_longest", "itertools.pairwise"].contains n&&L[0]?==some (rawInt _))=true then _ else _) Q E s
         rw [if_neg (by intro h;rw [y,Bool.false_and] at h;cases h)]
         exact Nt k))
noncomputable def DL (K:Fg) (a:Addr):It:=
 ⟨λi H=>∃Y x,SqL K H a Y/\Y[i]?=some x,λi H x F=>F=H/\∀Y,SqL K H a Y->Y[i]?=some x,λi H=>∃Y,SqL K H a Y/\Y.length<=i⟩
noncomputable def DJ (K:Fg) (a:Addr):It:=
 ⟨λi H=>∃Y x,SqT K H a Y/\Y[i]?=some x,λi H x F=>F=H/\∀Y,SqT K H a Y->Y[i]?=some x,λi H=>∃Y,SqT K H a Y/\Y.length<=i⟩
noncomputable def xq (r:Int) (n:Nat):It:=⟨λi _=>i<n,λi H x F=>F=H/\x=.int (r+i),λi _=>n<=i⟩
theorem sq {P:Program} {w:World} {K:Fg} {l:Expr} (a L:Addr):uo P w K l (DL K a) [L] L (λi h=>h.IsListIter L a i) where
 mem:=by simp
 obj:=λi h st b Z=>by
  have e:b=L:=by simpa using Z
  subst e;obtain ⟨o,e,c,d⟩:=st;exact ⟨o,e,λv z=>by rw [d] at z;cases z⟩
 keep:=λi h U st k=>st.at λo e=>k L (by simp) o e
 item:=by
  intro X j O hK J i B s M H E I m st hg;subst j O hK;obtain ⟨Y,x,n,G⟩:=hg;obtain ⟨g,f,p,hz⟩:=I.list n;obtain ⟨u,hu,C⟩:=f.get G;obtain ⟨r,A,t,F,y,R⟩:=m L (by simp)
  refine wpAny_pyNext_list_item st p.isList (x:=u) (by simpa using hu) λU q sb=>?_
  have I1:Inv X B M H { s with heap:=U }:=I.turned (t':=s.toks) (λb o Z e=>(sb.2 b Z).trans e) r A F y R
  obtain ⟨o,e,c,d⟩:=id q
  exact ⟨u,rfl,rD (s:={ s with heap:=U }) e c d (by decide) ⟨x,H,I1,C,⟨rfl,λys hy=>by rw [I.list_inj hy n];exact G⟩,q,λb Z=>(m b Z).1⟩⟩
 done:=by
  intro X j O hK J i B s M H E I m st hg;subst j O hK;obtain ⟨Y,n,G⟩:=hg;obtain ⟨g,f,p,hz⟩:=I.list n;obtain ⟨r,A,t,F,y,R⟩:=m L (by simp)
  have N:=f.length
  exact wpAny_pyNext_list_end (I.ok.hd J) st p.isList (by simp;omega) λU eb=>⟨rfl,I.turned (t':=s.toks) (λb o Z e=>eb b o Z e) r A F y R⟩
 self:=λ_ _ _ _ _ st h=>wpAny_pyIter_listiter st h
theorem oK {P:Program} {w:World} {K:Fg} {l:Expr} (a L:Addr):uo P w K l (DJ K a) [L] L (λi h=>h.IsTupleIter L a i) where
 mem:=by simp
 obj:=λi h st b Z=>by
  have e:b=L:=by simpa using Z
  subst e;obtain ⟨o,e,c,d⟩:=st;exact ⟨o,e,λv z=>by rw [d] at z;cases z⟩
 keep:=λi h U st k=>st.at λo e=>k L (by simp) o e
 item:=by
  intro X j O hK J i B s M H E I m st hg;subst j O hK;obtain ⟨Y,x,n,G⟩:=hg;obtain ⟨g,f,p,hz⟩:=I.tuple n;obtain ⟨u,hu,C⟩:=f.get G;obtain ⟨r,A,t,F,y,R⟩:=m L (by simp)
  refine wpAny_pyNext_tuple_item st (show s.heap.IsTuple a g.toArray from p) (x:=u) (by simpa using hu) λU q sb=>?_
  have I1:Inv X B M H { s with heap:=U }:=I.turned (t':=s.toks) (λb o Z e=>(sb.2 b Z).trans e) r A F y R
  obtain ⟨o,e,c,d⟩:=id q
  exact ⟨u,rfl,rD (s:={ s with heap:=U }) e c d (by decide) ⟨x,H,I1,C,⟨rfl,λys hy=>by rw [I.tuple_inj hy n];exact G⟩,q,λb Z=>(m b Z).1⟩⟩
 done:=by
  intro X j O hK J i B s M H E I m st hg;subst j O hK;obtain ⟨Y,n,G⟩:=hg;obtain ⟨g,f,p,hz⟩:=I.tuple n;obtain ⟨r,A,t,F,y,R⟩:=m L (by simp)
  have N:=f.length
  exact wpAny_pyNext_tuple_end (I.ok.hd J) st (show s.heap.IsTuple a g.toArray from p) (by simp;omega) λU eb=>⟨rfl,I.turned (t':=s.toks) (λb o Z e=>eb b o Z e) r A F y R⟩
 self:=λ_ _ _ _ _ st h=>wpAny_pyIter_tupleiter st h
theorem oM {P:Program} {w:World} {K:Fg} {l:Expr} (L:Addr) (r:Int) (n:Nat):uo P w K l (xq r n) [L] L (λi h=>IsRangeIter h L (r+(i:Nat)*1) ((n:Int)-(i:Nat)) 1) where
 mem:=by simp
 obj:=λi h st b Z=>by
  have e:b=L:=by simpa using Z
  subst e;exact ⟨_,st,λv z=>by
   have a:Data.fields _=Data.cell v:=z
   cases a⟩
 keep:=λi h U st k=>k L (by simp) _ st
 item:=by
  intro X j O p J i B s M H E I m st f;subst j O p;obtain ⟨d,A,C,F,y,R⟩:=m L (by simp)
  have W:=Walks.range (prog:=X.prog) (w:=X.w) (I.ok.hd J) L r 1 n
  refine W.item i s _ _ f st λv U G u q c=>?_
  obtain ⟨t,rfl⟩:=u;have x:Inv X B M H { s with heap:=U,toks:=G }:=I.turned (λb o Z e=>c b o (by simpa using Z) e) d A F y R
  refine ⟨_,rfl,rD (s:={ s with heap:=U,toks:=G }) (n := "range_iterator") q rfl rfl (by decide) ⟨.int (r+i),H,x,⟨t,?_⟩,⟨rfl,rfl⟩,q,λb Z=>(m b Z).1⟩⟩
  rw [Int.mul_one]
 done:=by
  intro X j O p J i B s M H E I m st f;subst j O p;obtain ⟨d,A,C,F,y,R⟩:=m L (by simp)
  exact wpAny_pyNext_range_end (I.ok.hd J) st (by have:n<=i:=f;omega) λU g=>⟨rfl,I.turned (t':=s.toks) (λb o Z e=>g b o Z e) d A F y R⟩
 self:=λ_ _ _ _ _ st h=>wpAny_pyIter_rangeiter st h
section
variable {X:Cx} {tg:Expr}
noncomputable def cS (K:Fg) (O:TE):TI:=λM H R=>O M H λx Z=>∃a,x=.ref a/\(∃Y,SqL K Z a Y)/\R (DL K a) Z
noncomputable def CU (K:Fg) (O:TE):TI:=λM H R=>O M H λx Z=>∃a,x=.ref a/\(∃Y,SqT K Z a Y)/\R (DJ K a) Z
theorem AW {l:Expr} {O:TE} (N:PE X l O):PI X tg l (cS X.K O):=by
 intro B s M H R I h;refine bt (N B s M H _ I h) λv A ⟨x,H1,I1,r1,q1⟩=>?_
 obtain ⟨a,e,⟨Y,n⟩,q⟩:=q1;subst e
 cases r1;obtain ⟨g,f,p,w⟩:=I1.list n;refine wpAny_pyIter_list p.isList ?_
 refine ⟨A.heap.objs.size,[A.heap.objs.size],_,_,H1,rfl,I1.kept (t':=A.toks) λb o e=>Nu _ e,sq a _,⟨_,Heap.get?_push_size _ rfl,rfl,rfl⟩,λb Z=>?_,q⟩
 have e:b=A.heap.objs.size:=by simpa using Z
 subst e;exact I1.fpOk (Nv _) (I1.hok.fresh (Nv _))
theorem vx {l:Expr} {O:TE} (N:PE X l O):PI X tg l (CU X.K O):=by
 intro B s M H R I h;refine bt (N B s M H _ I h) λv A ⟨x,H1,I1,r1,q1⟩=>?_
 obtain ⟨a,e,⟨Y,n⟩,q⟩:=q1;subst e
 cases r1;obtain ⟨g,f,p,w⟩:=I1.tuple n;refine wpAny_pyIter_tuple (show A.heap.IsTuple a g.toArray from p) ?_
 refine ⟨A.heap.objs.size,[A.heap.objs.size],_,_,H1,rfl,I1.kept (t':=A.toks) λb o e=>Nu _ e,oK a _,⟨_,Heap.get?_push_size _ rfl,rfl,rfl⟩,λb Z=>?_,q⟩
 have e:b=A.heap.objs.size:=by simpa using Z
 subst e;exact I1.fpOk (Nv _) (I1.hok.fresh (Nv _))
theorem mU {B:List (Addr×Obj)} {M:St} {H:Hp} {s:Shared} {R:It->Hp->Prop} {E:Value->Shared->Prop} {r l:Int} {t u v:Tok} {G:Nat} (I:Inv X B M H s) (c:-(2 ^ 62)<=r) (C:r<2 ^ 62) (n:-(2 ^ 62)<=l) (f:l<2 ^ 62)
  (q:R (xq r (l-r).toNat) H):wpAny (model X.prog X.w) X.A (pyIter (.ref s.heap.objs.size)) (MI X B M tg R) E { s with heap:=s.heap.push { cls:=.type "range",data:=.fields #[.int r t,.int l u,.int 1 v] },toks:=G }:=by
 refine wpAny_pyIter_range (IsRange.new ..) (small_one c C n f) ?_
 have x:Inv X B M H { s with heap:=s.heap.push { cls:=.type "range",data:=.fields #[.int r t,.int l u,.int 1 v] },toks:=G }:=I.kept λb o e=>Nu _ e
 refine ⟨(s.heap.push { cls:=.type "range",data:=.fields #[.int r t,.int l u,.int 1 v] }).objs.size,[(s.heap.push { cls:=.type "range",data:=.fields #[.int r t,.int l u,.int 1 v] }).objs.size],_,_,H,rfl,
  x.kept (t':=G) λb o e=>Nu _ e,oM _ r (l-r).toNat,?_,λb Z=>?_,q⟩
 ·have a:r+((0:Nat):Int)*1=r:=by simp
  have m:(((l-r).toNat:Nat):Int)-((0:Nat):Int)=Builtin.Range.rangeSize r l 1:=by rw [rangeSize_one];split<;>omega
  show IsRangeIter _ _ (r+((0:Nat):Int)*1) ((((l-r).toNat:Nat):Int)-((0:Nat):Int)) 1
  rw [a,m];exact Heap.get?_push_size _ rfl
 ·have e:b=(s.heap.push { cls:=.type "range",data:=.fields #[.int r t,.int l u,.int 1 v] }).objs.size:=by simpa using Z
  subst e;exact x.fpOk (Nv _) (x.hok.fresh (Nv _))
noncomputable def iY (d:TA):TI:=λM H R=>d M H λL Z=>∃j:Int,L=[.int j]/\-(2 ^ 62)<=j/\j<2 ^ 62/\R (xq 0 j.toNat) Z
noncomputable def As (d:TA):TI:=λM H R=>d M H λL Z=>∃i j:Int,L=[.int i,.int j]/\(-(2 ^ 62)<=i/\i<2 ^ 62/\-(2 ^ 62)<=j/\j<2 ^ 62)/\R (xq i (j-i).toNat) Z
theorem Kf {a:Expr} {d:TA} {p K:Pos} (E:Gl X "range") (G:X.mg "range"=none) (U:PA X [a] d) (Y:starEach [a] X.env=[(false,eval a X.env)]:=by rfl):PI X tg (.Call (.Name "range" p) [a] [] K) (iY d):=by
 intro B s M H R I h;refine Call_ (xj I E G boot_range (PyProof.Rows.callWith_type1 (bt (U K B s M H _ I h) λz A ⟨vs,H1,I1,r1,F⟩=>?_) Y rfl))
 obtain ⟨j,e,F,P,q⟩:=F;subst e
 cases r1 with
 | cons r c=>
  cases c;obtain ⟨t,rfl⟩:=r;exact call_range_1 (mU I1 (by omega) (by omega) F P (by simpa using q))
theorem sX {a b:Expr} {d:TA} {p K:Pos} (E:Gl X "range") (G:X.mg "range"=none) (U:PA X [a,b] d) (Y:starEach [a,b] X.env=[(false,eval a X.env),(false,eval b X.env)]:=by rfl) (m:starEach [b] X.env=[(false,eval b X.env)]:=by rfl) :
  PI X tg (.Call (.Name "range" p) [a,b] [] K) (As d):=by
 intro B s M H R I h;refine Call_ (xj I E G boot_range (PyProof.Rows.callWith_type1 (bt (U K B s M H _ I h) λz A ⟨vs,H1,I1,r1,F⟩=>?_) (by rw [Y,m]) (by rw [m];rfl)))
 obtain ⟨i,j,e,⟨F,P,o,g⟩,q⟩:=F;subst e
 cases r1 with
 | cons r c=>
  cases c with
  | cons f c=>
   cases c;obtain ⟨t,rfl⟩:=r;obtain ⟨O,rfl⟩:=f
   exact call_range_2 (mU I1 F P o g q)
noncomputable def eY (c:TI) (g:TG) (u:TS):TS:=λD M H=>c M H λJ Z=>∃W:Nat->Nat->St->Hp->Prop,(∃m,W 0 m M Z)/\∀i m M H,W i m M H ->
 (J.stop i H/\D.nx M H)\/(J.go i H/\∃N:St->Hp->Prop,(∀A F,N A F->∃E,E<m/\W (i+1) E A F)/\∀x F,J.yld i H x F->g x M F λw j=>u { D with nx:=N,ct:=N,bk:=D.nx } w j)
noncomputable def iH (a:List Addr) (h:Heap):List (Addr×Obj):=a.filterMap λb=>(h.get? b).map λo=>(b,o)
theorem IS {a:List Addr} {h:Heap} {b:Addr} {o:Obj} (Z:b∈a) (e:h.get? b=some o):(b,o)∈iH a h:=List.mem_filterMap.mpr ⟨b,Z,by rw [e];rfl⟩
theorem tD {a:List Addr} {h:Heap} {p:Addr×Obj} (g:p∈iH a h):p.1∈a/\h.get? p.1=some p.2:=by
 obtain ⟨b,Z,e⟩:=List.mem_filterMap.mp g
 cases q:h.get? b with
 | none=>rw [q] at e;cases e
 | some o=>
  rw [q] at e;have J:(b,o)=p:=Option.some.inj e
  subst J
  exact ⟨Z,q⟩
theorem Inv.pinned {B:List (Addr×Obj)} {M:St} {H:Hp} {s:Shared} {a:List Addr} (I:Inv X B M H s) (m:∀b∈a,jS X B H b) (K:∀b∈a,∃o,s.heap.get? b=some o/\∀v,o.data≠.cell v):Inv X (B++iH a s.heap) M H s:=
 I.pins_of λp g=>(Nj g).elim (λz=>I.pin p (Nh _ z)) λz=>by
  obtain ⟨Z,e⟩:=tD z;obtain ⟨r,A,t,_⟩:=m p.1 Z;obtain ⟨o,J,d⟩:=K p.1 Z;rw [e] at J;cases J
  exact ⟨e,r,A,t,d⟩
theorem Inv.unpinned {B Z:List (Addr×Obj)} {M:St} {H:Hp} {s:Shared} (I:Inv X (B++Z) M H s):Inv X B M H s:=I.pins_of λp g=>I.pin p (Nh _ (Ni _ g))
theorem xv {z:Expr} {body:List Stmt} {wi:TI} {g:TG} {tb:TS} {K:Pos} (hp:PassesOwn (model X.prog X.w) X.A X.env X.xe) (hc:X.calm=true) (l:PI X tg z wi) (E:PG X tg g) (Z:PSs X body tb)
  (Y:∀x,foldedSetIterable z X.env x=pure x:=by intro _;rfl):PS X (.For tg z body [] K) (eY wi g tb):=by
 intro B s M H D I h;refine wpAny_For (bt (l B s M H _ I h) λv s1 R=>bt R λitv s2 C=>?_) Y
 obtain ⟨L,a,tn,J,j,e,I2,T,P,t,W,⟨m0,w0⟩,k⟩:=C;subst e;have stat:∀{F:Hp},(∀b∈a,F b=none)->∀b∈a,jS X B F b:=λy b Z=>⟨y b Z,(t b Z).2⟩
 refine codeAny_forLoop_any (λn s'=>∃i A F,Inv X B A F s'/\tn i s'.heap/\(∀b∈a,F b=none)/\W i n A F) ?_ m0 ⟨0,M,j,I2,P,λb Z=>(t b Z).1,w0⟩
 rintro n s3 ⟨i,σ3,H3,I3,st3,fr3,w3⟩
 rcases k i n σ3 H3 w3 with ⟨stop,qn⟩ | ⟨go,N,hN,step⟩
 ·refine wpAny_passesOwn hp (bt (T.done X rfl rfl rfl hc i B s3 σ3 H3 X.xe I3 (stat fr3) st3 stop) λr U ⟨hr,I4⟩=>?_)
  subst hr;exact wpAny_execs_nil ⟨σ3,H3,I4,qn⟩
 ·refine wpAny_passesOwn hp (bt (T.item X rfl rfl rfl hc i B s3 σ3 H3 X.xe I3 (stat fr3) st3 go) λr U ⟨u,hr,h4⟩=>?_)
  subst hr;refine wpAny_passesOwn hp (bt h4 λ_ O ⟨x,H5,I5,r5,y5,st5,fr5⟩=>?_)
  have I5':=I5.pinned (stat fr5) (T.obj _ _ st5)
  refine wpAny_passesOwn hp (bt (E _ O σ3 H5 x u _ I5' r5 (step x H5 y5)) λ_ s6 ⟨σ6,H6,I6,q6⟩=>?_)
  refine wpAny_passesOwn hp (bt (Z _ s6 σ6 H6 _ I6 q6) λf s7 q7=>?_)
  have p:∀{c:St} {q:Hp},Inv X (B++iH a O.heap) c q s7->N c q->∃m,m<n/\∃i A F,Inv X B A F s7/\tn i s7.heap/\(∀b∈a,F b=none)/\W i m A F:=λ{c q} w n7=>by
   obtain ⟨m',G,w7⟩:=hN c q n7;refine ⟨m',G,i+1,c,q,w.unpinned,T.keep _ _ _ st5 λb Z o e=>(w.pin (b,o) (Nh _ (Nh _ (IS Z e)))).1,λb Z=>?_,w7⟩
   obtain ⟨o,e,d⟩:=T.obj _ _ st5 b Z;exact (w.pin (b,o) (Nh _ (Nh _ (IS Z e)))).2.1
  cases f with
  | next=>obtain ⟨c,q,w,n7⟩:=q7;exact p w n7
  | cont=>obtain ⟨c,q,w,n7⟩:=q7;exact p w n7
  | brk=>obtain ⟨c,q,w,q7⟩:=q7;exact ⟨c,q,w.unpinned,q7⟩
  | ret v=>obtain ⟨x7,c,q,w,r7,q7⟩:=q7;exact ⟨x7,c,q,w.unpinned,r7,q7⟩
end
theorem Iw {K:Fg} {a:Addr} {xs:List V} {g:TG} {u:TS} {D:dW} {M:St} {H:Hp} (b:Nat->St->Hp->Prop) (l:b 0 M H) (f:∀i M H,i<=xs.length->b i M H->SqL K H a xs)
  (Y:∀i x M H,xs[i]?=some x->b i M H->g x M H λw j=>u { D with nx:=b (i+1),ct:=b (i+1),bk:=D.nx } w j) (d:∀M H,b xs.length M H->D.nx M H) :
  ∃W:Nat->Nat->St->Hp->Prop,(∃m,W 0 m M H)/\∀i m M H,W i m M H ->
   ((DL K a).stop i H/\D.nx M H)\/((DL K a).go i H/\∃N:St->Hp->Prop,(∀A F,N A F->∃E,E<m/\W (i+1) E A F)/\∀x F,(DL K a).yld i H x F->g x M F λw j=>u { D with nx:=N,ct:=N,bk:=D.nx } w j):=by
 refine ⟨λi m M H=>m=xs.length-i/\i<=xs.length/\b i M H,⟨xs.length,by simp,Nat.zero_le _,l⟩,?_⟩
 rintro i m M H ⟨rfl,hi,p⟩
 have q:=f i M H hi p
 by_cases X:i<xs.length
 ·refine .inr ⟨⟨xs,xs[i],q,by simp [X]⟩,b (i+1),λA F c=>⟨xs.length-(i+1),by omega,rfl,X,c⟩,λx F y=>?_⟩
  obtain ⟨e,y⟩:=y;subst e;exact Y i x M _ (y xs q) p
 ·have e:i=xs.length:=by omega
  subst e;exact .inl ⟨⟨xs,q,Nv _⟩,d M H p⟩
theorem zg {K:Fg} {a:Addr} {xs:List V} {g:TG} {u:TS} {D:dW} {M:St} {H:Hp} (b:Nat->St->Hp->Prop) (l:b 0 M H) (f:∀i M H,i<=xs.length->b i M H->SqT K H a xs)
  (Y:∀i x M H,xs[i]?=some x->b i M H->g x M H λw j=>u { D with nx:=b (i+1),ct:=b (i+1),bk:=D.nx } w j) (d:∀M H,b xs.length M H->D.nx M H) :
  ∃W:Nat->Nat->St->Hp->Prop,(∃m,W 0 m M H)/\∀i m M H,W i m M H ->
   ((DJ K a).stop i H/\D.nx M H)\/((DJ K a).go i H/\∃N:St->Hp->Prop,(∀A F,N A F->∃E,E<m/\W (i+1) E A F)/\∀x F,(DJ K a).yld i H x F->g x M F λw j=>u { D with nx:=N,ct:=N,bk:=D.nx } w j):=by
 refine ⟨λi m M H=>m=xs.length-i/\i<=xs.length/\b i M H,⟨xs.length,by simp,Nat.zero_le _,l⟩,?_⟩
 rintro i m M H ⟨rfl,hi,p⟩
 have q:=f i M H hi p
 by_cases X:i<xs.length
 ·refine .inr ⟨⟨xs,xs[i],q,by simp [X]⟩,b (i+1),λA F c=>⟨xs.length-(i+1),by omega,rfl,X,c⟩,λx F y=>?_⟩
  obtain ⟨e,y⟩:=y;subst e;exact Y i x M _ (y xs q) p
 ·have e:i=xs.length:=by omega
  subst e;exact .inl ⟨⟨xs,q,Nv _⟩,d M H p⟩
theorem kz {r:Int} {n:Nat} {g:TG} {u:TS} {D:dW} {M:St} {H:Hp} (b:Nat->St->Hp->Prop) (l:b 0 M H)
  (Y:∀i M H,i<n->b i M H->g (.int (r+i)) M H λw j=>u { D with nx:=b (i+1),ct:=b (i+1),bk:=D.nx } w j) (a:∀M H,b n M H->D.nx M H) :
  ∃W:Nat->Nat->St->Hp->Prop,(∃m,W 0 m M H)/\∀i m M H,W i m M H ->
   ((xq r n).stop i H/\D.nx M H)\/((xq r n).go i H/\∃N:St->Hp->Prop,(∀A F,N A F->∃E,E<m/\W (i+1) E A F)/\∀x F,(xq r n).yld i H x F->g x M F λw j=>u { D with nx:=N,ct:=N,bk:=D.nx } w j):=by
 refine ⟨λi m M H=>m=n-i/\i<=n/\b i M H,⟨n,by simp,Nat.zero_le _,l⟩,?_⟩
 rintro i m M H ⟨rfl,hi,p⟩
 by_cases X:i<n
 ·refine .inr ⟨X,b (i+1),λA F c=>⟨n-(i+1),by omega,rfl,X,c⟩,λx F y=>?_⟩
  obtain ⟨e,y⟩:=y;subst e y;exact Y i M _ X p
 ·have e:i=n:=by omega
  subst e;exact .inl ⟨Nv _,a M H p⟩
abbrev R2:=V->V->Hp->VK->Prop
noncomputable def OpR (X:Cx) (f:Value->Value->Sem Value) (r:R2):Prop:=
 ∀(B:List (Addr×Obj)) (s:Shared) (σ:St) (H:Hp) (x y:V) (v u:Value) (Q:VK),Inv X B σ H s->RelV x v->RelV y u->r x y H Q ->
  wpAny (model X.prog X.w) X.A (f v u) (EP X B σ Q) X.xe s
noncomputable def CallR (X:Cx) (f:Value) (r:List V->Hp->VK->Prop):Prop:=
 ∀(B:List (Addr×Obj)) (s:Shared) (σ:St) (H:Hp) (xs:List V) (us:List Value) (Q:VK),Inv X B σ H s->Vals xs us->r xs H Q ->
  wpAny (model X.prog X.w) X.A (call f us) (EP X B σ Q) X.xe s
noncomputable def LR (X:Cx) (r:V->Hp->(Bool->Hp->Prop)->Prop):Prop:=
 ∀(B:List (Addr×Obj)) (s:Shared) (σ:St) (H:Hp) (x:V) (v:Value) (Q:Bool->Hp->Prop),Inv X B σ H s->RelV x v->r x H Q ->
  wpAny (model X.prog X.w) X.A (truthy v) (TP X B σ Q) X.xe s
noncomputable def sx (r:R2) (d u:TE):TE:=λM H Q=>d M H λx Z=>u M Z λy j=>r x y j Q
noncomputable def rI (C:Int->Int->Prop) (g:Int->Int->V):R2:=λx y H Q=>∃i j,x=.int i/\y=.int j/\C i j/\Q (g i j) H
noncomputable def qF (g:Int->Int->V):R2:=λx y H Q=>∃i j,x=.int i/\y=.int j/\Q (g i j) H
section
variable {X:Cx} {a b c:Expr} {ta tb tc:TE} {pos:Pos}
theorem Dx (U:PE X a ta) (Z:PE X b tb) {B:List (Addr×Obj)} {s:Shared} {M:St} {H:Hp} {R:V->V->Hp->Prop} (I:Inv X B M H s)
  (h:ta M H λx d=>tb M d λy j=>R x y j) {Q:Value->Shared->Prop} {f:Value->Value->Sem Value}
  (m:∀v u N x y j,Inv X B M j N->RelV x v->RelV y u->R x y j->wpAny (model X.prog X.w) X.A (f v u) Q X.xe N) :
  wpAny (model X.prog X.w) X.A (eval a X.env) (λv g=>wpAny (model X.prog X.w) X.A (eval b X.env) (λu O=>wpAny (model X.prog X.w) X.A (f v u) Q X.xe O) X.xe g) X.xe s:=by
 refine bt (U B s M H _ I h) λv A ⟨x,d,I1,r1,q1⟩=>?_
 refine bt (Z B A M d _ I1 q1) λu N ⟨y,j,I2,r2,q2⟩=>?_
 exact m v u N x y j I2 r1 r2 q2
theorem iJ {f:Operator} {r:R2} (K:OpR X (binaryOp f) r) (U:PE X a ta) (Z:PE X b tb):PE X (.BinOp a f b pos) (sx r ta tb):=by
 intro B s M H Q I h;exact wpAny_BinOp (Dx U Z I h λv u N x y j i P o q=>K B N M j x y v u Q i P o q)
theorem Jd {f:Value->Value->Sem Value} {C:Int->Int->Prop} {g:Int->Int->Int}
  (d:∀(i j:Int) (t u:Tok) (s:Shared) (Q:Value->Shared->Prop) (E:Value->Shared->Prop),C i j->Q (.int (g i j) s.toks) { s with toks:=s.toks+1 }->wpAny (model X.prog X.w) X.A (f (.int i t) (.int j u)) Q E s) :
  OpR X f (rI C λi j=>.int (g i j)):=by
 intro B s M H x y v u Q I P o h;obtain ⟨i,j,rfl,rfl,J,q⟩:=h;obtain ⟨t,rfl⟩:=P;obtain ⟨O,rfl⟩:=o;exact d i j t O s _ _ J ⟨.int (g i j),H,I.tok _,⟨_,rfl⟩,q⟩
theorem Gv {f:Value->Value->Sem Value} {g:Int->Int->Int}
  (d:∀(i j:Int) (t u:Tok) (s:Shared) (Q:Value->Shared->Prop) (E:Value->Shared->Prop),Q (.int (g i j) s.toks) { s with toks:=s.toks+1 }->wpAny (model X.prog X.w) X.A (f (.int i t) (.int j u)) Q E s) :
  OpR X f (qF λi j=>.int (g i j)):=by
 intro B s M H x y v u Q I P o h;obtain ⟨i,j,rfl,rfl,q⟩:=h;obtain ⟨t,rfl⟩:=P;obtain ⟨O,rfl⟩:=o;exact d i j t O s _ _ ⟨.int (g i j),H,I.tok _,⟨_,rfl⟩,q⟩
theorem yB {f:Value->Value->Sem Value} {g:Int->Int->Bool}
  (d:∀(i j:Int) (t u:Tok) (s:Shared) (Q:Value->Shared->Prop) (E:Value->Shared->Prop),Q (.bool (g i j)) s->wpAny (model X.prog X.w) X.A (f (.int i t) (.int j u)) Q E s) :
  OpR X f (qF λi j=>.bl (g i j)):=by
 intro B s M H x y v u Q I P o h;obtain ⟨i,j,rfl,rfl,q⟩:=h;obtain ⟨t,rfl⟩:=P;obtain ⟨O,rfl⟩:=o;exact d i j t O s _ _ ⟨.bl (g i j),H,I,rfl,q⟩
noncomputable def L9 (i j:Int):Prop:=0<j/\j<1073741824
noncomputable def L8 (i j:Int):Prop:=0<=j/\j<=1000000/\i.natAbs<2 ^ 64
noncomputable def CMul (i j:Int):Prop:=(-(2 ^ 64)<i/\i<2 ^ 64)\/(-(2 ^ 64)<j/\j<2 ^ 64)
theorem CMul.ok {i j:Int} (h:CMul i j):IntMulOk i j:=by
 rcases h with ⟨R,C⟩ | ⟨R,C⟩
 ·exact .of_left (intBits_le_64 R C)
 ·exact .of_right (intBits_le_64 R C)
theorem Cn:OpR X (binaryOp .Add) (qF λi j=>.int (i+j)):=Gv λ_ _ _ _ _ _ _ q=>add_int q
theorem Cc:OpR X (binaryOp .Sub) (qF λi j=>.int (i-j)):=Gv λ_ _ _ _ _ _ _ q=>sub_int q
theorem Cf:OpR X (binaryOp .Mult) (rI CMul λi j=>.int (i*j)):=Jd λ_ _ _ _ _ _ _ J q=>mul_int q J.ok
theorem yz:OpR X (binaryOp .FloorDiv) (rI L9 λi j=>.int (i / j)):=Jd λi j _ _ _ _ _ J q=>by
 have R:(0:Int)<j:=J.1
 have C:j<1073741824:=J.2
 exact floordiv_int (by omega) (by rw [Int.fdiv_eq_ediv_of_nonneg i (by omega)];exact q) (.inl (PyProof.noPylong_small (by omega)))
theorem Cg:OpR X (binaryOp .Mod) (rI (λ_ j=>0<j) λi j=>.int (i % j)):=Jd λi j _ _ _ _ _ J q=>by
 have R:(0:Int)<j:=J
 exact mod_int' (by omega) (by rw [Int.fmod_eq_emod_of_nonneg i (by omega)];exact q)
theorem Cd:OpR X (binaryOp .Pow) (rI L8 λi j=>.int (i ^ j.toNat)):=Jd λ_ _ _ _ _ _ _ J q=>pow_int_small J.1 J.2.1 J.2.2 q
end
noncomputable def scal:V->V->Bool
 | .non,.non=>true | .non,.int _=>true | .int _,.non=>true | .non,.bl _=>true | .bl _,.non=>true | .non,.str _=>true | .str _,.non=>true
 | .int _,.int _=>true | .bl _,.bl _=>true | .str _,.str _=>true | .byt _,.byt _=>true
 | .int _,.str _=>true | .str _,.int _=>true | .bl _,.str _=>true | .str _,.bl _=>true
 | _,_=>false
section
variable {X:Cx} {a b c:Expr} {ta tb tc:TE} {pos:Pos}
theorem HZ {B:List (Addr×Obj)} {M:St} {H:Hp} {s:Shared} {Q:VK} {k j:Bool} (I:Inv X B M H s) (q:Q (.bl k) H) (e:k=j):EP X B M Q (.bool j) s:=by
 subst e;exact ⟨.bl k,H,I,rfl,q⟩
theorem op_lt:OpR X (compareOp .Lt) (qF λi j=>.bl (decide (i<j))):=yB λ_ _ _ _ _ _ _ q=>lt_int q
theorem Gr:OpR X (compareOp .LtE) (qF λi j=>.bl (decide (i<=j))):=yB λ_ _ _ _ _ _ _ q=>le_int q
theorem Gu:OpR X (compareOp .Gt) (qF λi j=>.bl (decide (j<i))):=yB λ_ _ _ _ _ _ _ q=>gt_int q
theorem op_ge:OpR X (compareOp .GtE) (qF λi j=>.bl (decide (j<=i))):=yB λ_ _ _ _ _ _ _ q=>ge_int q
theorem tj:OpR X (compareOp .Lt) (λx y H Q=>∃i j,x=.str i/\y=.str j/\Q (.bl (decide (i.cps.toList<j.cps.toList))) H):=by
 intro B s M H x y v u Q I P o h;obtain ⟨i,j,rfl,rfl,q⟩:=h;obtain ⟨t,rfl⟩:=P;obtain ⟨O,rfl⟩:=o;exact lt_str (HZ I q rfl)
theorem Ci:OpR X (compareOp .Is) (λx y H Q=>y=.non/\Q (.bl (decide (x=.non))) H):=by
 intro B s M H x y v u Q I P o h;obtain ⟨rfl,q⟩:=h
 cases o;refine is_none_gen (HZ I q ?_)
 cases x<;>first
  | (cases P;rfl)
  | (obtain ⟨t,rfl⟩:=P;rfl)
theorem yy:OpR X (compareOp .IsNot) (λx y H Q=>y=.non/\Q (.bl (!decide (x=.non))) H):=by
 intro B s M H x y v u Q I P o h;obtain ⟨rfl,q⟩:=h
 cases o;refine isnot_none_gen (HZ I q ?_)
 cases x<;>first
  | (cases P;rfl)
  | (obtain ⟨t,rfl⟩:=P;rfl)
theorem OpR.or {f:Value->Value->Sem Value} {r r':R2} (h:OpR X f r) (U:OpR X f r'):OpR X f (λx y H Q=>r x y H Q\/r' x y H Q):=by
 intro B s M H x y v u Q I P o q;rcases q with q | q
 ·exact h B s M H x y v u Q I P o q
 ·exact U B s M H x y v u Q I P o q
theorem yw {f:CmpOp} {r:R2} (K:OpR X (compareOp f) r) (U:PE X a ta) (Z:PE X b tb) (G:behindInMarks f b=false):PE X (.Compare a [f] [b] pos) (sx r ta tb):=by
 intro B s M H Q I h;exact wpAny_Compare1 (Dx U Z I h λv u N x y j i P o q=>K B N M j x y v u Q i P o q) G
noncomputable def qi (t:TE):TT:=λM H Q=>t M H λx F=>∃k,x=.bl k/\Q k F
theorem qG {f:CmpOp} {r:R2} (K:OpR X (compareOp f) r) (U:PE X a ta) (Z:PE X b tb) (G:behindInMarks f b=false):PT X (.Compare a [f] [b] pos) (qi (sx r ta tb)):=by
 intro B s M H Q I h;refine wpAny_isTrue_Compare1 (bt (U B s M H _ I h) λv A ⟨x,H1,I1,r1,q1⟩=>bt (Z B A M H1 _ I1 q1) λu N ⟨y,H2,I2,r2,q2⟩=>
  bt (K B N M H2 x y v u _ I2 r1 r2 q2) λc Y ⟨z,H3,I3,r3,k,e,q3⟩=>?_) G
 subst e
 cases r3;exact wpAny_truthy_bool ⟨H3,I3,q3⟩
noncomputable def oP (r t:R2) (g u i:TE):TE:=λM H Q=>g M H λx Z=>u M Z λy j=>r x y j λz d=>∃k,z=.bl k /\
 (if k=true then i M d λf e=>t y f e Q else Q (.bl false) d)
theorem vB {f i:CmpOp} {r t:R2} (K:OpR X (compareOp f) r) (C:OpR X (compareOp i) t) (U:PE X a ta) (Z:PE X b tb) (J:PE X c tc)
  (G:lastMarks [f,i] [b,c]=false:=by with_unfolding_all rfl):PE X (.Compare a [f,i] [b,c] pos) (oP r t ta tb tc):=by
 intro B s M H Q I h;refine Compare_chain (bt (U B s M H _ I h) λv A ⟨x,H1,I1,r1,q1⟩=>chain_link (bt (Z B A M H1 _ I1 q1) λu N ⟨y,H2,I2,r2,q2⟩=>
  bt (K B N M H2 x y v u _ I2 r1 r2 q2) λd Y ⟨z,H3,I3,r3,k,e,q3⟩=>?_)) G
 subst e
 cases r3;refine wpAny_truthy_bool ?_
 cases k with
 | false=>exact ite_ff ⟨.bl false,H3,I3,rfl,q3⟩
 | true=>exact ite_tt (chain_last (bt (J B Y M H3 _ I3 q3) λg j ⟨z',H4,I4,r4,q4⟩=>C B j M H4 y z' u g Q I4 r2 r4 q4))
theorem vn {f i:CmpOp} {r t:R2} (K:OpR X (compareOp f) r) (C:OpR X (compareOp i) t) (U:PE X a ta) (Z:PE X b tb) (J:PE X c tc)
  (G:lastMarks [f,i] [b,c]=false:=by with_unfolding_all rfl):PT X (.Compare a [f,i] [b,c] pos) (qi (oP r t ta tb tc)):=by
 intro B s M H Q I h;refine isTrue_chain (bt (U B s M H _ I h) λv A ⟨x,H1,I1,r1,q1⟩=>test_link (bt (Z B A M H1 _ I1 q1) λu N ⟨y,H2,I2,r2,q2⟩=>
  bt (K B N M H2 x y v u _ I2 r1 r2 q2) λd Y ⟨z,H3,I3,r3,k,e,q3⟩=>?_)) G
 subst e
 cases r3;refine wpAny_truthy_bool ?_
 cases k with
 | false=>
  obtain ⟨j,l,E⟩:=q3
  cases l
  exact ite_ff ⟨H3,I3,E⟩
 | true=>
  refine ite_tt (test_last (bt (J B Y M H3 _ I3 q3) λg m ⟨z',H4,I4,r4,q4⟩=>bt (C B m M H4 y z' u g _ I4 r2 r4 q4) λn O ⟨z2,H5,I5,r5,k2,e2,q5⟩=>?_))
  subst e2
  cases r5;exact wpAny_truthy_bool ⟨H5,I5,q5⟩
noncomputable def w9 (K:Fg) (x:V) (H:Hp) (k:Bool):Prop:=
 match x with
 | .non=>k=false
 | .bl b=>k=b
 | .int i=>k=(i != 0)
 | .str y=>y.length<=sizeLine/\k=((y.length:Int) != 0)
 | .byt y=>y.size<=sizeLine/\k=((y.size:Int) != 0)
 | .ref p=>(∃Y,SqL K H p Y/\k=!Y.isEmpty)\/(∃Y,SqT K H p Y/\k=!Y.isEmpty)\/∃E,H p=some (.dK E)/\k=!E.isEmpty
 | _=>False
theorem pk {d:Type} {E:List (d×V)} {L:List (d×Value)} (r:KV E L):(!L.isEmpty)=!E.isEmpty:=by
 cases r<;>rfl
theorem iW {Y:List V} {g:List Value} (r:Vals Y g):(!g.toArray.isEmpty)=!Y.isEmpty:=by
 cases r<;>simp
theorem DX:(sizeLine:Nat)<2 ^ 63:=by rw [sizeLine_eq];decide
theorem Ba:LR X (λx H Q=>∃k,w9 X.K x H k/\Q k H):=by
 intro B s M H x v Q I P h;obtain ⟨k,e,q⟩:=h;have N:=DX
 have f:sizeLine=16777216:=sizeLine_eq
 cases x with
 | non=>
  cases P;have J:k=false:=e
  subst J
  exact truthy_none ⟨H,I,q⟩
 | bl b=>
  cases P;have J:k=b:=e
  subst J
  exact wpAny_truthy_bool ⟨H,I,q⟩
 | int i=>
  obtain ⟨t,rfl⟩:=P;have J:k=(i != 0):=e
  subst J
  exact PySem.P.truthy_int ⟨H,I,q⟩
 | str y=>
  obtain ⟨t,rfl⟩:=P;obtain ⟨o,J⟩:y.length<=sizeLine/\k=((y.length:Int) != 0):=e
  subst J
  exact PySem.P.truthy_str (by omega) ⟨H,I.tok _,q⟩
 | byt y=>
  obtain ⟨t,rfl⟩:=P;obtain ⟨o,J⟩:y.size<=sizeLine/\k=((y.size:Int) != 0):=e
  subst J
  exact PySem.W.truthy_bytes (by omega) ⟨H,I.tok _,q⟩
 | ref p=>
  cases P;have J:(∃Y,SqL X.K H p Y/\k=!Y.isEmpty)\/(∃Y,SqT X.K H p Y/\k=!Y.isEmpty)\/∃E,H p=some (.dK E)/\k=!E.isEmpty:=e
  rcases J with ⟨Y,G,J⟩ | ⟨Y,G,J⟩ | ⟨E,G,J⟩
  ·subst J
   obtain ⟨g,r,Z,w⟩:=I.list G;have A:=r.length
   exact wpAny_truthy_list Z.isList (by simp only [size_toArray];omega) ⟨H,I.tok _,by rw [iW r];exact q⟩
  ·subst J
   obtain ⟨g,r,Z,w⟩:=I.tuple G;have A:=r.length
   exact truthy_tuple Z (by simp only [size_toArray];omega) ⟨H,I.tok _,by rw [iW r];exact q⟩
  ·subst J
   obtain ⟨w,d,L,r,m⟩:E.length<=sizeLine/\(p==sysModules)=false/\∃L,KV E L/\s.heap.DictOf (br X.prog X.w) p L:=I.hok p _ G
   have A:E.length=L.length:=Paired.length r
   exact wpAny_truthy_dict d m (by omega) ⟨H,I.tok _,by rw [pk r];exact q⟩
 | _=>exact (show False from e).elim
theorem JV (U:PE X a ta) (R:∀f,isTrue a X.env f=(do let v <-f;standAt a.pos;holding [v] (truthy v))) :
  PT X a (λM H Q=>ta M H λx F=>∃k,w9 X.K x F k/\Q k F):=by
 intro B s M H Q I h;exact isTrue_plain (bt (U B s M H _ I h) λv A ⟨x,H1,I1,r1,q1⟩=>Ba B A M H1 x v Q I1 r1 q1) (R _)
theorem vals1 {x:V} {z:List Value} (r:Vals [x] z):∃u,z=[u]/\RelV x u:=by
 cases r with
 | cons i k=>cases k;exact ⟨_,rfl,i⟩
theorem ui:CallR X (.type "int") (λY H Q=>(∃i,Y=[.int i]/\Q (.int i) H)\/∃k,Y=[.bl k]/\Q (.int (if k then 1 else 0)) H):=by
 intro B s M H Y z Q I r h;rcases h with ⟨i,rfl,q⟩ | ⟨k,rfl,q⟩
 ·obtain ⟨u,rfl,t,rfl⟩:=vals1 r
  exact call_int_int ⟨.int i,H,I,⟨_,rfl⟩,q⟩
 ·obtain ⟨u,rfl,d⟩:=vals1 r
  cases d;exact call_int_bool ⟨.int (if k then 1 else 0),H,I.tok _,⟨_,rfl⟩,q⟩
end
structure ObjM (h:Heap) (x dx C:Addr) (mA:Str->Option Value):Prop where
 obj:h.get? x=some (PySem.W.instObj C dx)
 ns:h.Ns1 dx mA
 ne:dx≠x
theorem tL {h:Heap} {i:Addr} {B:Str->Option Value} (n:h.Ns1 i B):∃U,h.get? i=some U/\∀c,PySem.W.lookIn c U=some (B c):=by
 obtain ⟨o,j,N,K,F,O,_,G⟩:=n;refine ⟨o,K,λc=>?_⟩
 have e:=G c
 unfold nsFind findBy at e;rw [<-Array.find?_toList] at e;unfold PySem.W.lookIn;rw [F];dsimp only;split
 ·rename_i y q
  rw [q] at e;exact congrArg some e
 ·rename_i q
  rw [q] at e;have a:j.toList.any (·.refKey)=false:=by
   rw [List.any_eq_false];intro y b;obtain ⟨z,t,f⟩:=O y (Array.mem_toList_iff.mp b);simp [DictEntry.refKey,f]
  have Z:¬j.toList.any (·.refKey)=true:=by rw [a];exact Bool.false_ne_true
  rw [if_neg Z];exact congrArg some e
theorem ObjM.look {h:Heap} {x i C:Addr} {B:Str->Option Value} (I:ObjM h x i C B):∃U,PySem.W.InstAt h x (PySem.W.instObj C i) C (some U)/\∀c,PySem.W.lookIn c U=some (B c):=
 let ⟨U,K,N⟩:=tL I.ns
 ⟨U,⟨I.obj,rfl,rfl,K⟩,N⟩
theorem RelO.some_of {v:V} {o:Option Value} (r:RelO (some v) o):∃u,o=some u/\RelV v u:=by
 cases o with
 | none=>exact (show False from r).elim
 | some u=>exact ⟨u,rfl,r⟩
section
variable {P:Program} {w:World} {H H':Hp} {h h':Heap} {a C dx:Addr} {fs fs':List (Str×V)}
theorem yX (A:HOk P w H h) (e:H a=some (.ins C dx fs)):∃B,ObjM h a dx C B/\(∀f,RelO (fs.lookup f) (B f))/\PySem.Within B (fs.map (·.1))/\fs.length<=1000/\H dx=some (.own a):=by
 obtain ⟨d,z,b,I,B,n,r,q⟩:=(show ObjOk P w H h a (.ins C dx fs) from A a _ e);exact ⟨B,⟨I,n,b⟩,r,q,z,d⟩
end
structure Cls (K:Fg) (C:Addr):Prop where
 pg:PySem.W.plainGet K C Str.empty=true
 hd:PySem.W.hasDictIn K C=true
 po:PySem.W.plainOver K C=true
 sa:PySem.W.findIn K (.ref C) "__setattr__"=some (some (.builtin "object.__setattr__"))
theorem Cls.get {K:Fg} {C:Addr} (c:Cls K C) (f:Str):PySem.W.plainGet K C f=true:=c.pg
structure Con (K:Fg) (C:Addr) (f:Str) (v:V) (u:Value):Prop where
 at_:PySem.W.findIn K (.ref C) f=some (some u)
 rel:RelV v u
 get:PySem.W.specialIn K u "__get__"=some none
 cp:PySem.W.copiedNames.contains f=false
section
variable {X:Cx} {pins:List (Addr×Obj)} {σ:St} {H:Hp} {s:Shared} {A:Around} {E:Value->Shared->Prop} {Q:Value->Shared->Prop} {c:Value} {b:Bool}
inductive ip (K:Fg) (H:Hp):V->Value->Prop where
 | non:ip K H .non (.type "NoneType")
 | bl (x:Bool):ip K H (.bl x) (.type "bool")
 | int (i:Int):ip K H (.int i) (.type "int")
 | str (x:Str):ip K H (.str x) (.type "str")
 | flt (x:UInt64):ip K H (.flt x) (.type "float")
 | lst {a:Addr} {xs:List V} (e:H a=some (.lst xs)):ip K H (.ref a) (.type "list")
 | frz {a:Addr} {o:Obj} {xs:List V} (e:H a=some (.frz o (.lst xs))):ip K H (.ref a) (.type "list")
 | tup {a:Addr} {xs:List V} (e:H a=some (.tup xs)):ip K H (.ref a) (.type "tuple")
 | dK {a:Addr} {kvs:List (gx×V)} (e:H a=some (.dK kvs)):ip K H (.ref a) (.type "dict")
 | dT {a:Addr} {kvs:List (List gx×V)} (e:H a=some (.dT kvs)):ip K H (.ref a) (.type "dict")
 | ins {a C dx:Addr} {fs:List (Str×V)} (e:H a=some (.ins C dx fs)) (cl:Cls K C) (ha:PySem.W.findIn K (.ref C) "__class__"=some (some (.builtin "object.__class__")))
   (hn:PySem.W.specialIn K (.builtin "object.__class__") "__get__"=some (some (.builtin "getset_descriptor.__get__"))) (htk:PySem.W.takesIn K (.builtin "object.__class__")=some true)
   (hm:PySem.W.mroIn K C (.type "object")=some true):ip K H (.ref a) (.ref C)
theorem A5 {x:V} {u t:Value} (I:Inv X pins σ H s) (P:RelV x u) (ty:ip X.K H x t) (e:PySem.W.kitOne X.K t c=some b) (h:∀G,Q (.bool b) { s with toks:=G }) :
  wpAny (model X.prog X.w) A (call (.builtin "isinstance") [u,c]) Q E s:=by
 cases ty with
 | non=>cases (show u=Value.none from P);exact PySem.W.kia_one PySem.W.kitx_none I.kIn True.intro e nofun h
 | bl y=>cases (show u=Value.bool y from P);exact PySem.W.kia_one PySem.W.kitx_bool I.kIn True.intro e nofun h
 | int i=>obtain ⟨t,q⟩:=(show ∃t,u=Value.int i t from P);cases q;exact PySem.W.kia_one PySem.W.kitx_int I.kIn True.intro e nofun h
 | str y=>obtain ⟨t,q⟩:=(show ∃t,u=Value.str y t from P);cases q;exact PySem.W.kia_one PySem.W.kitx_str I.kIn True.intro e nofun h
 | flt y=>obtain ⟨t,q⟩:=(show ∃t,u=Value.float y t from P);cases q;exact PySem.W.kia_one PySem.W.kitx_float I.kIn True.intro e nofun h
 | @lst a Y ea=>
  cases (show u=Value.ref a from P)
  obtain ⟨_,_,n,_,R⟩:=(show ObjOk X.prog X.w H s.heap a (.lst Y) from I.hok a _ ea);exact PySem.W.kia_one PySem.W.kitx_list I.kIn ⟨_,R,rfl⟩ e nofun h
 | @frz a ob Y ea=>
  cases (show u=Value.ref a from P)
  obtain ⟨_,_,_,n,_,R⟩:=(show ObjOk X.prog X.w H s.heap a (.frz ob (.lst Y)) from I.hok a _ ea);exact PySem.W.kia_one PySem.W.kitx_list I.kIn ⟨_,R,rfl⟩ e nofun h
 | @tup a Y ea=>
  cases (show u=Value.ref a from P)
  obtain ⟨_,_,_,p⟩:=(show ObjOk X.prog X.w H s.heap a (.tup Y) from I.hok a _ ea);obtain ⟨o,R,d,_⟩:=p;exact PySem.W.kia_one PySem.W.kitx_tuple I.kIn ⟨o,R,d⟩ e nofun h
 | @dK a kvs ea=>
  cases (show u=Value.ref a from P)
  obtain ⟨_,_,L,_,p⟩:=(show ObjOk X.prog X.w H s.heap a (.dK kvs) from I.hok a _ ea);obtain ⟨o,j,N,R,d,_⟩:=p;exact PySem.W.kia_one PySem.W.kitx_dict I.kIn ⟨o,R,d.1⟩ e nofun h
 | @dT a kvs ea=>
  cases (show u=Value.ref a from P)
  obtain ⟨_,_,Y,_,o,j,N,R,d,_⟩:=(show ObjOk X.prog X.w H s.heap a (.dT kvs) from I.hok a _ ea);exact PySem.W.kia_one PySem.W.kitx_dict I.kIn ⟨o,R,d.1⟩ e nofun h
 | @ins a C dx fs ea cl ha hn htk hm=>
  cases (show u=Value.ref a from P)
  obtain ⟨B,O,_⟩:=yX I.hok ea;obtain ⟨U,J,_⟩:=O.look;exact PySem.W.kia_one (PySem.W.kitx_own (cl.get _) cl.hd ha hn htk hm) I.kIn J e nofun h
end
structure Room (k:Nat) (A:Around):Prop where
 hd:A.handled=none
 dp:A.depth+3*k+5<recursionLimit
 un:A.units+16*k+200<cLine
 gd:A.guards=some []
theorem Room.mono {j k:Nat} {A:Around} (r:Room k A) (h:j<=k):Room j A:=⟨r.hd,by have:=r.dp;omega,by have:=r.un;omega,r.gd⟩
theorem Room.deeper {k:Nat} {A:Around} (r:Room (k+1) A) (p:Env):Room k (A.deeper p):=
 ⟨r.hd,by have:=r.dp;show A.depth+1+3*k+5<_;omega,by have:=r.un;show A.units+3+16*k+200<_;omega,r.gd⟩
theorem Room.depth {k:Nat} {A:Around} (r:Room k A):A.depth<recursionLimit:=by have:=r.dp;omega
theorem Room.units {k:Nat} {A:Around} (r:Room k A):A.units+64<cLine:=by have:=r.un;omega
noncomputable def b5:TA:=λ_ H Q=>Q [] H
noncomputable def aL (d:TE) (a:TA):TA:=λM H Q=>d M H λx Z=>a M Z λY j=>Q (x::Y) j
section
variable {X:Cx} {e:Expr} {es:List Expr} {te:TE} {t:TA} {pos:Pos}
theorem gz:PA X [] b5:=λ_ _ _ _ H Q I h=>Calls.spliced_nil ⟨[],H,I,.nil,h⟩
theorem cI (U:PE X e te) (a:PA X es t) (Y:starEach (e::es) X.env=(false,eval e X.env)::starEach es X.env:=by rfl):PA X (e::es) (aL te t):=by
 intro pos B s M H Q I h;rw [Y];show wpAny _ _ (spliced ((false,eval e X.env)::backTo pos (starEach es X.env))) _ _ s
 refine Calls.spliced_cons (bt (U B s M H _ I h) λu A ⟨x,H1,I1,r1,q1⟩=>?_)
 exact bt (a pos B A M H1 _ I1 q1) λz N ⟨xs,H2,I2,r2,q2⟩=>⟨x::xs,H2,I2,.cons r1 r2,q2⟩
noncomputable def mz (t:TA):TE:=λM H Q=>t M H λY Z=>Y.length<=sizeLine/\∀p,Z p=none->Q (.ref p) (aR Z p (.tup Y))
noncomputable def uN (t:TA):TE:=λM H Q=>t M H λY Z=>Y.length<=sizeLine/\∀p,Z p=none->Q (.ref p) (aR Z p (.lst Y))
theorem xu {x1} (h:PA X es t):PE X (.Tuple es x1 pos) (mz t):=by
 intro B s M H Q I n;refine wpAny_Tuple_spliced (bt (h pos B s M H _ I n) λa A ⟨xs,H1,I1,r,z,q⟩=>⟨by rw [<-r.length];exact z,?_⟩)
 have m:H1 A.heap.objs.size=none:=I1.hok.fresh (Nv _)
 refine ⟨.ref A.heap.objs.size,aR H1 A.heap.objs.size (.tup xs),I1.laid (t':=A.toks) (λb u e=>Nu _ e) (Nv _) ?_,rfl,q _ m⟩
 exact ⟨z,a,r,⟨_,Heap.get?_push_size _ rfl,rfl,_,rfl⟩⟩
theorem Ic (h:PA X es t):PE X (.List es pos) (uN t):=by
 intro B s M H Q I n;refine wpAny_List_spliced (bt (h pos B s M H _ I n) λa A ⟨xs,H1,I1,r,z,q⟩=>⟨by rw [<-r.length];exact z,?_⟩)
 have m:H1 A.heap.objs.size=none:=I1.hok.fresh (Nv _)
 refine ⟨.ref A.heap.objs.size,aR H1 A.heap.objs.size (.lst xs),I1.laid (t':=A.toks) (λb u e=>Nu _ e) (Nv _) ?_,rfl,q _ m⟩
 exact ⟨z,a,0,r,Heap.get?_push_size _ rfl⟩
end
abbrev Sp:=List V->Hp->VK->XK->Prop
abbrev xr:=List Env->Hp->Shared->XK->Value->Shared->Prop
structure zO (P:Program) (w:World) (K:Fg) (mg:Str->Option Value) (base:Heap) (A:Around) (outer:List Env) (s:Shared) (H:Hp):Prop where
 frames:A.frames=some outer
 mod:Mod K mg base
 bs:∀b o,base.get? b=some o->s.heap.get? b=some o/\H b=none
 bsz:base.objs.size<=s.heap.objs.size
 funs:s.heap.FunFrames base outer
 frf:∀b∈wA outer,H b=none
 hok:HOk P w H s.heap
 bare:AllBare s.gens
noncomputable def CE (B:List Env) (P:Program) (w:World) (H:Hp) (s:Shared) (Q:VK) (u:Value) (j:Shared):Prop:=
 ∃v F,j.os=s.os/\AllBare j.gens/\Un (wA B) [] H F s.heap j.heap/\HOk P w F j.heap/\RelV v u/\Q v F
noncomputable def CR (h:xr) (B:List Env) (P:Program) (w:World) (H:Hp) (s:Shared) (Q:VK) (E:XK) (r:Result) (j:Shared):Prop:=
 match r with
 | .ok (.ret u)=>CE B P w H s Q u j
 | .ok _=>False
 | .error e=>h B H s E e j
structure cC (P:Program) (w:World) (K:Fg) (mg:Str->Option Value) (base:Heap) (CX:xr) (k:Nat) (f:Addr) (fd:FuncData) (ps:List Str) (sp:Sp):Prop where
 len:∀vs H Q E,sp vs H Q E->vs.length=ps.length
 run:∀(A:Around) (outer:List Env) (s:Shared) (H:Hp) (args:Args) (us:List Value) (vs:List V) (Q:VK) (E:XK),Room k A->zO P w K mg base A outer s H->BindsTo s fd args (ps.zip us)->Vals vs us->sp vs H Q E ->
  codeAny (model P w) A (.call (.ref f) args) (CR CX outer P w H s Q E) s
section
variable {X:Cx} {pins:List (Addr×Obj)} {σ:St} {H:Hp} {s s':Shared}
theorem Inv.env0 (I:Inv X pins σ H s):zO X.prog X.w X.K X.mg X.base X.A X.stack s H:=
 ⟨I.ok.frames,I.ok.mod,I.bs,Nat.le_trans I.ok.bsz I.sz,I.stack,I.stkFree,I.hok,I.bare⟩
theorem Inv.after {Q:VK} {u:Value} (I:Inv X pins σ H s) (h:CE X.stack X.prog X.w H s Q u s'):EP X pins σ Q u s':=by
 obtain ⟨v,F,a,i,un,A,r,q⟩:=h;obtain ⟨c,g,d,t,K⟩:=s'
 obtain rfl:K=s.os:=a
 exact ⟨v,F,I.call (h':=c) (g':=g) (d':=d) (t':=t) (ch:=[]) un A i (λb z=>absurd z (by simp)),r,q⟩
end
noncomputable def ff (l:Sp) (a:List V) (E:XK) (t:TA):TE:=λM H Q=>t M H λL Z=>l (L++a) Z Q E
noncomputable def Binds (K:Fg) (o:FuncData) (J:List Str) (N:List Value):Prop:=
 ∀(s:Shared) (us:List Value),K.In s.heap->(us++N).length=J.length->BindsTo s o ⟨us,[]⟩ (J.zip (us++N))
theorem Binds.all {K:Fg} {o:FuncData} {J:List Str} (h:∀z:List Value,z.length=J.length->bindArgs o ⟨z,[]⟩=pure (J.zip z)):Binds K o J []:=λs z _ N=>by
 rw [append_nil] at N ⊢;exact .of_eq (h z N)
noncomputable def pU (h:xr) (X:Cx) (E:XK):Prop:=∀(B:List (Addr×Obj)) (σ:St) (H:Hp) (s:Shared) (e:Value) (s':Shared),Inv X B σ H s->h X.stack H s E e s'->X.xe e s'
section
variable {X:Cx} {CX:xr} {k:Nat} {f C:Addr} {fd:FuncData} {ps:List Str} {sp:Sp} {dvs:List V} {ds:List Value} {E:XK} {x m:Str} {p pos apos:Pos} {e o:Expr} {es:List Expr} {ta:TE} {t:TA}
theorem Bw {B:List (Addr×Obj)} {M:St} {H:Hp} {s:Shared} {Q:VK} {z:List Value} {L:List V} (F:cC X.prog X.w X.K X.mg X.base CX k f fd ps sp) (c:Room k X.A) (Z:Binds X.K fd ps ds) (b:Vals dvs ds) (G:pU CX X E)
  (I:Inv X B M H s) (r:Vals L z) (h:sp (L++dvs) H Q E):wpAny (model X.prog X.w) X.A (call (.ref f) z) (EP X B M Q) X.xe s:=by
 have a:Vals (L++dvs) (z++ds):=r.append b
 have N:(z++ds).length=ps.length:=by rw [<-a.length];exact F.len _ _ _ _ h
 refine wpAny_call (codeAny_mono (F.run X.A X.stack s H ⟨z,[]⟩ (z++ds) (L++dvs) Q E c I.env0 (Z s z I.kIn N) a h) λr j n=>?_)
 cases r with
 | error e=>exact G B M H s e j I n
 | ok q=>
  cases q with
  | ret u=>exact I.after n
  | next=>exact False.elim n
  | brk=>exact False.elim n
  | cont=>exact False.elim n
theorem qJ (F:cC X.prog X.w X.K X.mg X.base CX k f fd ps sp) (c:Room k X.A) (a:Gl X x) (g:X.mg x=some (.ref f)) (O:PySem.W.keepIn X.K (.ref f)=true) (Z:Binds X.K fd ps ds) (b:Vals dvs ds) (G:pU CX X E)
  (U:PA X (e::es) t) (d:(x==("__debug__":Str))=false:=by decide) (R:starEach (e::es) X.env=(false,eval e X.env)::starEach es X.env:=by rfl) (Y:(backTo pos (starEach es X.env)).any (·.1)=false:=by rfl) :
  PE X (.Call (.Name x p) (e::es) [] pos) (ff sp dvs E t):=by
 intro B s M H Q I h;refine wpAny_Call_Name_kw (qY I a g ?_ d)
 refine PySem.W.callWith_K (h₀:=X.base) I.ok.mod.kin O (bt (U pos B s M H _ I h) λz A ⟨vs,H1,I1,r,q⟩=>⟨I1.kIn,?_⟩) R Y
 exact Bw F c Z b G I1 r q
end
structure bZ (N P:List Str) (sc:Scope):Prop where
 kind:sc.kind=.function
 co:sc.isCoroutine=false
 gen:sc.isGenerator=false
 nd:N.Nodup
 pre:N.take P.length=P
 par:∀x∈P,sc.names.lookup x=some .local\/sc.names.lookup x=some .cell
 nofree:∀y∈sc.names,y.2≠.free
theorem kJ {a:Str->Option NameKind} {x:Str}:∀{binds:List (Str×Value)} {m:Str->Option Value},(∀v,(x,v)∉binds)->bindL a binds m x=m x
 | [],_,_=>rfl
 | (n,v)::r,m,h=>by
  unfold bindL;rw [kJ λw O=>h w (Nn _ O)]
  split
  ·have:x≠n:=by rintro rfl;exact h v mem_cons_self
   simp [this]
  ·rfl
theorem kL {a:Str->Option NameKind} {x:Str}:∀{binds:List (Str×Value)} {m:Str->Option Value},(∀v,(x,v)∉binds)->bindC a binds m x=m x
 | [],_,_=>rfl
 | (n,v)::r,m,h=>by
  unfold bindC;rw [kL λw O=>h w (Nn _ O)]
  split
  ·rfl
  ·have:x≠n:=by rintro rfl;exact h v mem_cons_self
   simp [this]
theorem kK {a:Str->Option NameKind} {x:Str} {v:Value}:∀{P:List Str} {vs:List Value} {i:Nat} {m:Str->Option Value},P.Nodup->P[i]?=some x->vs[i]?=some v->a x=some .local ->
  bindL a (P.zip vs) m x=some v
 | [],_,_,_,_,h,_,_=>by simp at h
 | _::_,[],_,_,_,_,h,_=>by simp at h
 | p::P,w::vs,0,m,nd,h1,h2,hk=>by
  simp at h1 h2;subst h1;subst h2;show bindL a ((p,w)::P.zip vs) m p=_
  unfold bindL;rw [kJ λv b=>(List.nodup_cons.mp nd).1 (List.of_mem_zip b).1,if_pos hk]
  simp
 | p::P,w::vs,i+1,m,nd,h1,h2,hk=>by
  show bindL a ((p,w)::P.zip vs) m x=_
  unfold bindL;exact kK (i:=i) (List.nodup_cons.mp nd).2 (by simpa using h1) (by simpa using h2) hk
theorem kM {a:Str->Option NameKind} {x:Str} {v:Value}:∀{P:List Str} {vs:List Value} {i:Nat} {m:Str->Option Value},P.Nodup->P[i]?=some x->vs[i]?=some v->a x≠some .local ->
  bindC a (P.zip vs) m x=some v
 | [],_,_,_,_,h,_,_=>by simp at h
 | _::_,[],_,_,_,_,h,_=>by simp at h
 | p::P,w::vs,0,m,nd,h1,h2,hk=>by
  simp at h1 h2;subst h1;subst h2;show bindC a ((p,w)::P.zip vs) m p=_
  unfold bindC;rw [kL λv b=>(List.nodup_cons.mp nd).1 (List.of_mem_zip b).1,if_neg hk]
  simp
 | p::P,w::vs,i+1,m,nd,h1,h2,hk=>by
  show bindC a ((p,w)::P.zip vs) m x=_
  unfold bindC;exact kM (i:=i) (List.nodup_cons.mp nd).2 (by simpa using h1) (by simpa using h2) hk
noncomputable def start (N:List Str) (L:List V):St:=L.map some++List.replicate (N.length-L.length) none
noncomputable def oo (h:xr) (P:Program) (w:World) (K:Fg) (mg:Str->Option Value) (base:Heap) (N:List Str) (G:Str) (d:Scope) (f:Addr) (M:Value) (A:Around) (outer:List Env) (s:Shared) (H:Hp) (E:XK):Cx where
 prog:=P
 w:=w
 K:=K
 mg:=mg
 base:=base
 A:=A.deeper (envOfC G d s.heap.objs.size f M)
 N:=N
 s₀:=s
 H₀:=H
 env:=envOfC G d s.heap.objs.size f M
 outer:=outer
 stack:=envOfC G d s.heap.objs.size f M::outer
 ex:=[]
 calm:=true
 fn:=λ_=>true
 pn:=[]
 xe:=λe j=>wpAny (model P w) (A.deeper (envOfC G d s.heap.objs.size f M)) (leaving (envOfC G d s.heap.objs.size f M) e) (λ_ c=>h outer H s E e c) (λJ c=>h outer H s E J c) j
theorem ou {sc:Scope} {n:Nat} {x:Str} (h:sc.names.lookup x=some .cell):∃c,(cellsFrom n sc.names []).lookup x=some c:=by
 have q:=PySem.W.cellsFrom_some sc.names n [] (.inl h)
 exact Option.isSome_iff_exists.mp q
theorem tQ {CX:xr} {P:Program} {w:World} {K:Fg} {I:Str->Option Value} {m:Heap} {N J:List Str} {G:Str} {d:Scope} {f:Addr} {M:Value} {A:Around} {B:List Env} {s s1:Shared} {H:Hp} {E:XK} {Z:List Value} {L:List V}
  (S:bZ N J d) (F:A.handled=none) (X:zO P w K I m A B s H) (hl:L.length=J.length) (r:Vals L Z)
  (x:InCallC s s.heap.objs.size (bindL (envOfC G d s.heap.objs.size f M).kindOf (J.zip Z) λ_=>none) (cellsFrom (s.heap.objs.size+1) d.names []) (bindC (envOfC G d s.heap.objs.size f M).kindOf (J.zip Z) λ_=>none) s1) :
  Inv (oo CX P w K I m N G d f M A B s H E) [] (start N L) H s1:=by
 have Y:J.length<=N.length:=by have:=congrArg List.length S.pre;rw [length_take] at this;omega
 obtain ⟨R,tk,rfl,O⟩:=x.done;have j:∀b:Addr,b∉(oo CX P w K I m N G d f M A B s H E).ex:=λb z=>absurd (show b∈([]:List Addr) from z) (by simp)
 refine ⟨⟨X.mod,S.kind,rfl,rfl,Nv _,λy z c R C=>?_,λy o=>?_,λy c _ h=>?_,λ_=>F,Around.frames_deeper X.frames,.inr ⟨rfl,rfl⟩,λb z=>absurd z (j b),X.bs,X.bsz,λb _ _=>j b,λb z=>absurd z (j b),X.funs,X.frf⟩,
  rfl,X.bare,Un.kept O,⟨_,x.toInCall.ns,λi y v R C h3=>?_⟩,λy c h=>⟨_,x.cell y c h⟩,X.hok.fresh (Nv _),λy c h=>?_,λp g=>absurd (show p∈([]:List (Addr×Obj)) from g) (by simp),X.hok.kept O,?_⟩
 ·exact name_of_addr x.apart (PySem.mem_of_lookup R) (PySem.mem_of_lookup C)
 ·have o:d.names.lookup y=some .cell\/d.names.lookup y=some .free:=o
  rcases o with o | o
  ·exact ou o
  ·exact absurd rfl (S.nofree _ (PySem.mem_of_lookup o))
 ·exact Nat.le_of_lt (x.above y c (PySem.mem_of_lookup h))
 ·have l:i<L.length:=by
   unfold start at C;by_cases l:i<L.length
   ·exact l
   ·rw [getElem?_append_right (by simpa using l)] at C
    rw [getElem?_replicate] at C;split at C<;>cases C
  have U:L[i]?=some v:=by
   unfold start at C;rw [getElem?_append_left (by simpa using l),getElem?_map] at C
   cases e:L[i]? with
   | none=>rw [e] at C;cases C
   | some a=>rw [e] at C;cases C;rfl
  obtain ⟨u,hu,rv⟩:=r.get U;have g:J[i]?=some y:=by
   rw [<-S.pre,List.getElem?_take_of_lt (by omega)];exact R
  have t:J.Nodup:=by rw [<-S.pre];exact S.nd.sublist (List.take_sublist _ _)
  refine ⟨u,rv,?_⟩
  rcases S.par y (mem_of_getElem? g) with k | k
  ·exact .inl ⟨k,kK t g hu k⟩
  ·obtain ⟨c,e⟩:=ou (n:=s.heap.objs.size+1) k
   refine .inr ⟨.inl k,c,e,?_⟩
   have q:=x.cell y c e
   rw [kM t g hu (by show d.names.lookup y≠_;rw [k];decide)] at q
   exact q
 ·exact X.hok.fresh (Nat.le_of_lt (x.above y c (PySem.mem_of_lookup h)))
 ·unfold start
  show _=N.length
  rw [length_append,length_map,List.length_replicate];omega
theorem G7 {h:xr} {P:Program} {w:World} {K:Fg} {mg:Str->Option Value} {m:Heap} {k:Nat} {f:Addr} {c G:Str} {params:Arguments} {C:List Stmt} {d:Scope} {dV kV i pm a ct oc:Value} {an U:Option Addr}
  {osl:Array (Option Value)} {N ps:List Str} {l:Sp} (lk:K.lookup f=some ⟨oc,U,.func (PySem.W.fnOf c G params C d dV kV i pm an a ct),osl⟩) (g:PySem.W.codeIn K a G=true) (S:bZ N ps d)
  (len:∀L H Q E,l L H Q E->L.length=ps.length)
  (hbody:∀(A:Around) (B:List Env) (s:Shared) (H:Hp) (L:List V) (Q:VK) (E:XK),Room k (A.deeper (envOfC G d s.heap.objs.size f a))->l L H Q E ->
   ∃t,PSs (oo h P w K mg m N G d f a A B s H E) C t/\t { nx:=λ_ F=>Q .non F,rt:=Q } (start N L) H) :
  cC P w K mg m h (k+1) f (PySem.W.fnOf c G params C d dV kV i pm an a ct) ps l:=by
 refine ⟨len,λA B s H args z L Q E M X Z r O=>?_⟩
 have hl:=len _ _ _ _ O
 have KX:K.In s.heap:=X.mod.kin.keeps λb o e=>(X.bs b o e).1
 have lim:s.heap.NoLimit:=X.mod.nolimit.keeps λb o e=>(X.bs b o e).1
 have hkind:∀y∈ps.zip z,d.names.lookup y.1=some .local\/(d.names.lookup y.1=some .cell/\((cellsFrom (s.heap.objs.size+1) d.names []).lookup y.1).isSome=true):=λ⟨n,v⟩ hy=>by
  rcases S.par n (List.of_mem_zip hy).1 with q | q
  ·exact .inl q
  ·exact .inr ⟨q,PySem.W.cellsFrom_some _ _ _ (.inl q)⟩
 refine codeAny_call_function M.depth (KX _ _ lk) rfl S.co S.gen rfl (PySem.W.codeRec_of KX g) (Z _ _ _ _ ?_)
 refine wpAny_newFunctionEnv_cells S.kind hkind λp R s1 x=>?_
 subst R;refine ⟨lim.keeps x.toInCall.keep,codeAny_func ?_⟩
 obtain ⟨t,ht,hq⟩:=hbody A B s H L Q E (M.deeper _) O;have I:Inv (oo h P w K mg m N G d f a A B s H E) [] (start N L) H s1:=tQ S M.hd X hl r x
 refine wpAny_mono (ht [] s1 (start N L) H _ I hq) (λfl j Y=>?_) λe j Y=>Y
 have fin:∀{σ':St} {F:Hp} {v:V} {u:Value},Inv (oo h P w K mg m N G d f a A B s H E) [] σ' F j->RelV v u->Q v F->CE B P w H s Q u j:=
  λ{σ' F v u} J rv q=>⟨v,F,J.os,J.bare,J.base,J.hok,rv,q⟩
 cases fl with
 | ret u=>
  obtain ⟨v,σ',F,J,rv,q⟩:=Y;exact fin J rv q
 | next=>
  obtain ⟨σ',F,J,q⟩:=Y;exact fin (v:=V.non) (u:=Value.none) J rfl q
 | brk=>
  obtain ⟨_,_,_,q⟩:=Y;exact False.elim q
 | cont=>
  obtain ⟨_,_,_,q⟩:=Y;exact False.elim q
section
variable {X:Cx} {x:Str} {p pos:Pos} {e:Expr} {es:List Expr} {t:TA} {id T:String} {r:List V->Hp->VK->Prop}
noncomputable def xM (r:List V->Hp->VK->Prop) (t:TA):TE:=λM H Q=>t M H λL Z=>r L Z Q
theorem EK (J:CallR X (.builtin id) r) (E:Gl X x) (G:X.mg x=none) (P:bootBuiltins x=some (.builtin id)) (U:PA X (e::es) t) (y:x ≠ "__name__":=by decide) (d:(x==("__debug__":Str))=false:=by decide)
  (R:starEach (e::es) X.env=(false,eval e X.env)::starEach es X.env:=by rfl) (Y:(backTo pos (starEach es X.env)).any (·.1)=false:=by rfl):PE X (.Call (.Name x p) (e::es) [] pos) (xM r t):=by
 intro B s M H Q I h;refine wpAny_Call_Name_kw (xj I E G P ?_ y d)
 exact PyProof.Rows.callWith_builtin1 (bt (U pos B s M H _ I h) λz A ⟨vs,H1,I1,r1,q1⟩=>J B A M H1 vs z Q I1 r1 q1) R Y
theorem kc (J:CallR X (.type T) r) (E:Gl X x) (G:X.mg x=none) (P:bootBuiltins x=some (.type T)) (U:PA X (e::es) t) (y:x ≠ "__name__":=by decide) (d:(x==("__debug__":Str))=false:=by decide)
  (R:starEach (e::es) X.env=(false,eval e X.env)::starEach es X.env:=by rfl) (Y:(backTo pos (starEach es X.env)).any (·.1)=false:=by rfl):PE X (.Call (.Name x p) (e::es) [] pos) (xM r t):=by
 intro B s M H Q I h;refine wpAny_Call_Name_kw (xj I E G P ?_ y d)
 exact PyProof.Rows.callWith_type1 (bt (U pos B s M H _ I h) λz A ⟨vs,H1,I1,r1,q1⟩=>J B A M H1 vs z Q I1 r1 q1) R Y
end
end L2
namespace HT
open PySem PyProof.Rows
section
variable {prog:Program} {w:World} {A:Around} {E:Value->Shared->Prop} {s:Shared}
noncomputable def sIx (n d:Nat):Option Int->Nat
 | none=>d
 | some v=>if v<0 then (v+(n:Int)).toNat else min v.toNat n
theorem sIx_none (n d:Nat):sIx n d none=d:=rfl
theorem sIx_nat (n d k:Nat):sIx n d (some (k:Int))=min k n:=by
 show (if (k:Int)<0 then ((k:Int)+(n:Int)).toNat else min (k:Int).toNat n)=min k n
 rw [if_neg (by omega),Int.toNat_natCast]
theorem Bt (n d:Nat) (F:d<=n) (o:Option Int):sIx n d o<=n:=by
 cases o with
 | none=>exact F
 | some v=>
  show (if v<0 then (v+(n:Int)).toNat else min v.toNat n)<=n
  by_cases P:v<0
  ·rw [if_pos P];omega
  ·rw [if_neg P];exact Nat.min_le_right _ _
theorem rN (v:Int) (n d:Nat):(if v<0 then max (v+(n:Int)) 0 else min v (n:Int))=((sIx n d (some v):Nat):Int):=by
 show (if v<0 then max (v+(n:Int)) 0 else min v (n:Int))=(((if v<0 then (v+(n:Int)).toNat else min v.toNat n):Nat):Int)
 by_cases P:v<0
 ·simp only [if_pos P];omega
 ·simp only [if_neg P];omega
theorem pT (r l:Option Int) (n:Nat):Builtin.Slice.sliceAdjust r l 1 (n:Int)=(((sIx n 0 r:Nat):Int),((sIx n n l:Nat):Int)):=by
 have R:¬((1:Int)<0):=by omega
 unfold Builtin.Slice.sliceAdjust;simp only [R,if_false]
 refine Prod.ext ?_ ?_
 ·cases r with
  | none=>rfl
  | some v=>exact rN v n 0
 ·cases l with
  | none=>rfl
  | some v=>exact rN v n n
theorem oY (i j:Nat):Builtin.Slice.slicePlaces (i:Int) (j:Int) 1=j-i:=by
 unfold Builtin.Slice.slicePlaces;have R:(1:Int)>0:=by omega
 simp only [R,if_true,Int.ediv_one]
 split<;>omega
theorem iC {v:Value} {o:Option Int} {Q:Option Int->Shared->Prop} (p:IsPart v o) (h:Q o s):wpAny (model prog w) A (Builtin.Slice.slicePartIndex v) Q E s:=by
 cases p with
 | none=>exact slicePart_none h
 | int i t=>exact slicePart_int h
theorem gB {R:Addr} {c d:Value} {r l:Option Int} {n:Nat} {Q:Int×Int×Nat->Shared->Prop} (Y:s.heap.IsSliceOf R c d .none) (Z:IsPart c r) (i:IsPart d l)
  (h:Q (((sIx n 0 r:Nat):Int),1,sIx n n l-sIx n 0 r) s):wpAny (model prog w) A (Builtin.Slice.sliceApplied (.ref R) (pure (n:Int))) Q E s:=by
 obtain ⟨X,e,g,f⟩:=id Y;unfold Builtin.Slice.sliceApplied Builtin.Slice.sliceFields;refine Nr (Nr (wpAny_field e f (x:=c) rfl (Nr (wpAny_field e f (x:=d) rfl (Nr (wpAny_field e f (x:=.none) rfl (Nt ?_)))))))
 refine Nr (slicePart_none ?_)
 show wpAny _ _ (if ((1:Int)==0)=true then _ else _) _ _ s
 rw [if_neg (by decide)]
 refine Nr (iC Z (Nr (iC i (Nr (Nt ?_)))))
 show wpAny _ _ (match Builtin.Slice.sliceAdjust r l 1 (n:Int) with | (r,l)=>pure (r,(1:Int),Builtin.Slice.slicePlaces r l 1)) _ _ s
 rw [pT r l n];show wpAny _ _ (pure (((sIx n 0 r:Nat):Int),(1:Int),Builtin.Slice.slicePlaces ((sIx n 0 r:Nat):Int) ((sIx n n l:Nat):Int) 1)) _ _ s
 rw [oY];exact Nt h
theorem vw (Y:Array Value) (i k:Nat):((List.range k).filterMap λ(m:Nat)=>Y[((i:Int)+(m:Int)*1).toNat]?).toArray=((Y.toList.drop i).take k).toArray:=by
 have e:(λ(m:Nat)=>Y[((i:Int)+(m:Int)*1).toNat]?)=λm=>Y[i+m]?:=by
  funext m
  have:((i:Int)+(m:Int)*1).toNat=i+m:=by omega
  rw [this]
 rw [e];have:=pick_run Y i k
 rw [List.filterMap_map] at this;have a:((λx=>Y[x]?)∘λx=>i+x)=λm=>Y[i+m]?:=rfl
 rw [a] at this;rw [this]
theorem getItem_tuple_cut {t R:Addr} {items:Array Value} {c d:Value} {r l:Option Int} {Q:Value->Shared->Prop} (L:IsTup s.heap t items) (Y:s.heap.IsSliceOf R c d .none) (Z:IsPart c r) (i:IsPart d l)
  (O:¬(sIx items.size 0 r=0/\sIx items.size items.size l=items.size))
  (h:Q (.ref s.heap.objs.size) { s with heap:=s.heap.push { cls:=.type "tuple",data:=.seq ((items.toList.drop (sIx items.size 0 r)).take (sIx items.size items.size l-sIx items.size 0 r)).toArray } })
  (x:items.size<=sizeLine):wpAny (model prog w) A (getItem (.ref t) (.ref R)) Q E s:=by
 have a:sizeOk (.seq ((items.toList.drop (sIx items.size 0 r)).take (sIx items.size items.size l-sIx items.size 0 r)).toArray):=by
  show ((items.toList.drop (sIx items.size 0 r)).take (sIx items.size items.size l-sIx items.size 0 r)).toArray.size<=sizeLine
  rw [size_toArray,length_take,length_drop,Array.length_toList];omega
 have k:sIx items.size items.size l<=items.size:=Bt _ _ (Nv _) l
 obtain ⟨X,e,g,f⟩:=id Y;have j:s.TypeIs (.ref R) "slice":=⟨X,e,g⟩
 unfold getItem;try with_reducible refine wpAny_holding ?_
 first | refine Nr (Nt ?_) | skip
 refine Nr (wpAny_sequenceKey L.typeIs (by decide) ?_)
 refine Nr (wpAny_callSpecial?_slot (name:=Str.ofString "__getitem__") L.typeIs PyProof.Rows.slot_tuple_getitem
  (wpAny_call_entry PyProof.Rows.slot_tuple_getitem L.typeIs entry_tuple_getitem ?_ (args_tuple_getitem _ _)))
 show wpAny _ _ (Builtin.Tuple.tupleItemsOf (.ref t) >>= _) _ _ s
 refine Nr (tupleItemsOf_ L ?_)
 refine Nr (wpAny_typeOf j ?_)
 rw [if_pos (by decide)]
 refine Nr (gB Y Z i ?_)
 have b:¬((((sIx items.size 0 r:Nat):Int)==0&&(1:Int)==1&&(sIx items.size items.size l-sIx items.size 0 r)==items.size)=true):=by
  intro q;rw [Bool.and_eq_true,Bool.and_eq_true] at q;have F:((sIx items.size 0 r:Nat):Int)=0:=eq_of_beq q.1.1
  have P:sIx items.size items.size l-sIx items.size 0 r=items.size:=eq_of_beq q.2
  exact O ⟨by omega,by omega⟩
 show wpAny _ _ (if (((sIx items.size 0 r:Nat):Int)==0&&(1:Int)==1&&(sIx items.size items.size l-sIx items.size 0 r)==items.size)=true then _ else _) _ _ s
 rw [if_neg b,vw];first
  | exact Nr (m:=Builtin.Tuple.tupleExact _) (wpAny_newObj_type (Nt ⟨_,rfl,Nt h⟩) a)
  | exact Nr (m:=Builtin.Tuple.tupleExact _) (wpAny_newObj_type (Nr (Nt (Nt ⟨_,rfl,Nt h⟩))) a)
  | exact Nr (Nr (m:=Builtin.Tuple.tupleExact _) (wpAny_newObj_type (Nt (Nt ⟨_,rfl,Nt h⟩)) a))
  | exact Nr (Nr (m:=Builtin.Tuple.tupleExact _) (wpAny_newObj_type (Nt ⟨_,rfl,Nt h⟩) a))
end
end HT
namespace L2
open PySem PySem.Spec PyProof.Rows
abbrev TO:=St->Hp->(Option Int->Hp->Prop)->Prop
noncomputable def PO (X:Cx) (e:Option Expr) (t:TO):Prop:=
 ∀(B:List (Addr×Obj)) (s:Shared) (σ:St) (H:Hp) (Q:Option Int->Hp->Prop),Inv X B σ H s->t σ H Q ->
  wpAny (model X.prog X.w) X.A (evalPart e X.env) (λu j=>∃o F,Inv X B σ F j/\IsPart u o/\Q o F) X.xe s
noncomputable def qk:TO:=λ_ H Q=>Q none H
noncomputable def zZ (t:TE):TO:=λM H Q=>t M H λx Z=>∃i,x=.int i/\Q (some i) Z
section
variable {X:Cx} {e:Expr} {te:TE} {lo hi:Option Expr} {tl th:TO} {pos p2:Pos}
theorem J1:PO X none qk:=by
 intro B s M H Q I h;rw [evalPart_none];exact Nt ⟨none,H,I,.none,h⟩
theorem J2 (h:PE X e te):PO X (some e) (zZ te):=by
 intro B s M H Q I O;rw [evalPart_some];refine bt (h B s M H _ I O) λu A ⟨x,H1,I1,r1,q1⟩=>?_
 obtain ⟨i,rfl,q⟩:=q1;obtain ⟨t,rfl⟩:=r1;exact ⟨some i,H1,I1,.int i t,q⟩
noncomputable def LV (X:Cx) (r:V->Option Int->Option Int->Hp->VK->Prop):Prop:=
 ∀(B:List (Addr×Obj)) (s:Shared) (σ:St) (H:Hp) (x:V) (v vl vu:Value) (lo hi:Option Int) (sl:Addr) (Q:VK),Inv X B σ H s->RelV x v->s.heap.IsSliceOf sl vl vu .none->IsPart vl lo->IsPart vu hi->r x lo hi H Q ->
  ∃T j,typeLookup (.type T) "__getitem__"=pure (some (.builtin j))/\s.TypeIs v T/\wpAny (model X.prog X.w) X.A (getItem v (.ref sl)) (EP X B σ Q) X.xe s
noncomputable def Md (r:V->Option Int->Option Int->Hp->VK->Prop) (z:TE) (O a:TO):TE:=λM H Q=>z M H λx Z=>O M Z λl j=>a M j λu d=>r x l u d Q
theorem JU {r:V->Option Int->Option Int->Hp->VK->Prop} (f:LV X r) (R:PE X e te) (N:PO X lo tl) (J:PO X hi th):PE X (.Subscript e (.Slice lo hi none p2) pos) (Md r te tl th):=by
 intro B s M H Q I h;refine Subscript_ (bt (R B s M H _ I h) λv A ⟨x,H1,I1,r1,q1⟩=>?_)
 refine wpAny_Slice (bt (N B A M H1 _ I1 q1) λc a ⟨l,H2,I2,pl,q2⟩=>bt (J B a M H2 _ I2 q2) λd Y ⟨u,H3,I3,pu,q3⟩=>?_)
 rw [evalPart_none];refine Nt ?_
 have w:Inv X B M H3 { Y with heap:=Y.heap.push { cls:=.type "slice",data:=.fields #[c,d,.none] } }:=I3.kept (t':=Y.toks) λb g q=>Nu _ q
 obtain ⟨T,j,C,L,E⟩:=f B { Y with heap:=Y.heap.push { cls:=.type "slice",data:=.fields #[c,d,.none] } } M H3 x v c d l u Y.heap.objs.size Q w r1 (Heap.IsSliceOf.new ..) pl pu q3
 show wpAny (model X.prog X.w) X.A (subscriptTail e (.Slice lo hi none p2) v (.ref Y.heap.objs.size)) (EP X B M Q) X.xe { Y with heap:=Y.heap.push { cls:=.type "slice",data:=.fields #[c,d,.none] } }
 exact tail_any (ops:=[.ref Y.heap.objs.size,v]) L C E (by with_unfolding_all rfl)
noncomputable def jQ (Y:List V) (r l:Option Int):List V:=(Y.drop (HT.sIx Y.length 0 r)).take (HT.sIx Y.length Y.length l-HT.sIx Y.length 0 r)
theorem g4 (Y:List V) (r l:Option Int):(jQ Y r l).length<=Y.length:=by
 unfold jQ;rw [length_take,length_drop];omega
noncomputable def BS (K:Fg):V->Option Int->Option Int->Hp->VK->Prop:=λx lo hi H Q=>∃a Y,x=.ref a/\SqT K H a Y /\
 ¬(HT.sIx Y.length 0 lo=0/\HT.sIx Y.length Y.length hi=Y.length)/\∀p,H p=none->Q (.ref p) (aR H p (.tup (jQ Y lo hi)))
theorem Bj:LV X (BS X.K):=by
 intro B s M H x v c d lo hi R Q I P f Z i h;obtain ⟨a,Y,rfl,G,O,q⟩:=h
 cases P;obtain ⟨g,r,L,w⟩:=I.tuple G;have A:g.toArray.size=Y.length:=by rw [size_toArray];exact r.length.symm
 refine ⟨"tuple",_,PyProof.Rows.slot_tuple_getitem.lookup,L.typeIs,?_⟩
 refine HT.getItem_tuple_cut L f Z i (by rw [A];exact O) ?_ (by rw [A];exact w)
 rw [A];refine ⟨.ref s.heap.objs.size,_,I.laid (t':=s.toks) (o:=.tup (jQ Y lo hi)) (λb j q=>Nu _ q) (Nv _) ?_,rfl,q _ (I.hok.fresh (Nv _))⟩
 exact ⟨Nat.le_trans (g4 Y lo hi) w,_,(r.drop (HT.sIx Y.length 0 lo)).take (HT.sIx Y.length Y.length hi-HT.sIx Y.length 0 lo),IsTup.new _ _⟩
end
noncomputable def fG (n:Nat) (i:Int):Option Nat:=if 0<=i then (if i<n then some i.toNat else none) else if -(n:Int)<=i then some (i+n).toNat else none
noncomputable def gu {u:Type} (Y:List u) (i:Int):Option u:=(fG Y.length i).bind λj=>Y[j]?
theorem yS {n:Nat} {i:Int} {j:Nat} (h:fG n i=some j):seqIndex? i n=some j/\j<n/\-(n:Int)<=i/\i<n:=by
 unfold fG at h;by_cases l:0<=i
 ·rw [if_pos l] at h
  by_cases R:i<n
  ·rw [if_pos R] at h
   have e:i.toNat=j:=Option.some.inj h
   exact ⟨by rw [seqIndex_of l R,e],by omega,by omega,R⟩
  ·rw [if_neg R] at h;cases h
 ·rw [if_neg l] at h
  by_cases R:-(n:Int)<=i
  ·rw [if_pos R] at h
   have e:(i+n).toNat=j:=Option.some.inj h
   exact ⟨by rw [seqIndex_neg (by omega) R,e],by omega,R,by omega⟩
  ·rw [if_neg R] at h;cases h
theorem Js {u:Type} {Y:List u} {i:Int} {v:u} (h:gu Y i=some v):∃j,seqIndex? i Y.length=some j/\Y[j]?=some v/\j<Y.length/\-(Y.length:Int)<=i/\i<Y.length:=by
 unfold gu at h
 cases e:fG Y.length i with
 | none=>rw [e] at h;cases h
 | some j=>
  rw [e] at h;obtain ⟨R,C,n,f⟩:=yS e;exact ⟨j,R,h,C,n,f⟩
noncomputable def md (b:Expr):Prop:=∀o i,subscripted b false o i=operate [o,i] (getItem o i)
noncomputable def IxR (X:Cx) (r:R2):Prop:=
 ∀(k e:Expr) (pins:List (Addr×Obj)) (s:Shared) (σ:St) (H:Hp) (x y:V) (v u:Value) (Q:VK),Inv X pins σ H s->RelV x v->RelV y u->r x y H Q ->
  subscripted e false v u=operate [v,u] (getItem v u)->wpAny (model X.prog X.w) X.A (subscriptTail k e v u) (EP X pins σ Q) X.xe s
noncomputable def LY (X:Cx) (j:String) (r:V->List V->Hp->VK->Prop):Prop:=
 ∀(B:List (Addr×Obj)) (s:Shared) (σ:St) (H:Hp) (x:V) (xs:List V) (v:Value) (us:List Value) (Q:VK),Inv X B σ H s->RelV x v->Vals xs us->r x xs H Q ->
  wpAny (model X.prog X.w) X.A (call (.builtin j) (v::us)) (EP X B σ Q) X.xe s
section
variable {X:Cx} {a b:Expr} {ta tb:TE} {pos:Pos}
theorem IxR.or {r r':R2} (h:IxR X r) (U:IxR X r'):IxR X (λx y H Q=>r x y H Q\/r' x y H Q):=by
 intro k e B s M H x y v u Q I P o q Y;rcases q with q | q
 ·exact h k e B s M H x y v u Q I P o q Y
 ·exact U k e B s M H x y v u Q I P o q Y
theorem vA {r:R2} (c:IxR X r) (U:PE X a ta) (Z:PE X b tb) (Y:md b):PE X (.Subscript a b pos) (sx r ta tb):=by
 intro B s M H Q I h;exact Subscript_ (Dx U Z I h λv u N x y j i P o q=>c a b B N M j x y v u Q i P o q (Y _ _))
noncomputable def Gh (K:Fg):R2:=λx y H Q=>∃p Y i v,x=.ref p/\y=.int i/\SqL K H p Y/\gu Y i=some v/\Q v H
noncomputable def rIxT (K:Fg):R2:=λx y H Q=>∃p Y i v,x=.ref p/\y=.int i/\SqT K H p Y/\gu Y i=some v/\Q v H
noncomputable def Gg:R2:=λx y H Q=>∃z i c,x=.str z/\y=.int i/\z.length<=sizeLine/\gu z.cps.toList i=some c/\Q (.str ⟨#[c]⟩) H
theorem ix_list:IxR X (Gh X.K):=by
 intro k e B s M H x y v u Q I P o h c;obtain ⟨p,Y,i,z,rfl,rfl,n,J,q⟩:=h
 cases P;obtain ⟨t,rfl⟩:=o;obtain ⟨g,r,Z,K⟩:=I.list n;obtain ⟨j,R,C,O,f,F⟩:=Js J;obtain ⟨w,G,m⟩:=r.get C;have N:=r.length
 have L:=DX
 have d:EP X B M Q w s:=⟨z,H,I,m,q⟩
 by_cases l:0<=i
 ·have A:i.toNat=j:=by
   rw [seqIndex_of l F] at R;exact Option.some.inj R
  exact item_listR Z.isList l (by omega) (by rw [A];simpa using G) d c
 ·have A:(i+(g.toArray.size:Int)).toNat=j:=by
   rw [seqIndex_neg (by omega) f] at R
   rw [size_toArray,<-N];exact Option.some.inj R
  exact subscriptTail_builtinR (x:=w) Z.isList.typeIs slot_list_getitem.lookup
   (wpAny_getItem_list_neg (Q:=λr E=>r=w/\EP X B M Q r E) Z.isList (by omega) (by rw [size_toArray]<;>omega) (by omega) (by rw [A];simpa using G) ⟨rfl,d⟩) c
theorem ix_tup:IxR X (rIxT X.K):=by
 intro k e B s M H x y v u Q I P o h l;obtain ⟨p,Y,i,z,rfl,rfl,n,A,q⟩:=h
 cases P;obtain ⟨t,rfl⟩:=o;obtain ⟨g,r,Z,E⟩:=I.tuple n;obtain ⟨j,R,C,K,f,F⟩:=Js A;obtain ⟨w,G,m⟩:=r.get C;have N:=r.length
 have J:=DX
 have d:EP X B M Q w s:=⟨z,H,I,m,q⟩
 exact subscriptTail_builtinR (x:=w) Z.typeIs slot_tuple_getitem.lookup
  (getItem_tuple (j:=j) (Q:=λr c=>r=w/\EP X B M Q r c) Z (by omega) (by omega) (by rw [size_toArray,<-N];exact R) (by simpa using G) ⟨rfl,d⟩) l
theorem CK:IxR X Gg:=by
 intro k e B s M H x y v u Q I P o h Y;obtain ⟨z,i,c,rfl,rfl,w,g,q⟩:=h;obtain ⟨t,rfl⟩:=P;obtain ⟨O,rfl⟩:=o;obtain ⟨j,R,C,n,f,F⟩:=Js g;have N:z.cps.toList.length=z.length:=by simp [Str.length]
 rw [N] at R f F
 have l:=DX
 exact tail_any (typeIs_str s z t) slot_str_getitem.lookup (getItem_str (c:=c) (by
  have d:decide (i < -(2 ^ 63:Int))=false:=decide_eq_false (by omega)
  have m:decide (i≥2 ^ 63)=false:=decide_eq_false (by omega)
  rw [d,m,Bool.or_false]) (by rw [R];simpa using C) ⟨.str ⟨#[c]⟩,H,I.tok _,⟨_,rfl⟩,q⟩) Y
noncomputable def BW (K:Fg):R2:=λx y H Q=>Gh K x y H Q\/rIxT K x y H Q\/Gg x y H Q
theorem JG:IxR X (BW X.K):=ix_list.or (ix_tup.or CK)
theorem kQ (r l:Option Int) (n:Nat):(sliceBounds r l none n).1=((HT.sIx n 0 r:Nat):Int)/\(sliceBounds r l none n).2.1=((HT.sIx n n l:Nat):Int)/\(sliceBounds r l none n).2.2=1:=by
 refine ⟨?_,?_,rfl⟩
 ·cases r with
  | none=>simp [sliceBounds,HT.sIx]
  | some i=>
   simp only [sliceBounds,HT.sIx,Option.getD_none,show (1:Int)>0 by decide,if_true]
   by_cases h:i<0
   ·simp only [h,if_true]<;>omega
   ·simp only [h,if_false]<;>omega
 ·cases l with
  | none=>simp [sliceBounds,HT.sIx]
  | some i=>
   simp only [sliceBounds,HT.sIx,Option.getD_none,show (1:Int)>0 by decide,if_true]
   by_cases h:i<0
   ·simp only [h,if_true]<;>omega
   ·simp only [h,if_false]<;>omega
theorem jj (g:List Value) (r l:Option Int):slicePick g.toArray r l none=((g.drop (HT.sIx g.length 0 r)).take (HT.sIx g.length g.length l-HT.sIx g.length 0 r)).toArray:=by
 obtain ⟨R,C,n⟩:=kQ r l g.toArray.size;unfold slicePick;rw [R,C,n];simp only [sliceRange_one,pick_run,size_toArray]<;>rfl
noncomputable def BU (K:Fg):V->Option Int->Option Int->Hp->VK->Prop:=λx r l H Q=>∃a Y,x=.ref a/\SqL K H a Y/\∀p,H p=none->Q (.ref p) (aR H p (.lst (jQ Y r l)))
theorem qv:LV X (BU X.K):=by
 intro B s M H x v c d e l R Q I P f Z i h;obtain ⟨a,Y,rfl,G,q⟩:=h
 cases P;obtain ⟨g,r,L,w⟩:=I.list G;have A:=r.length
 refine ⟨"list",_,slot_list_getitem.lookup,L.isList.typeIs,?_⟩
 refine wpAny_getItem_list_slice L.isList f Z i .none (by simp) ?_ (by rw [size_toArray]<;>omega)
 rw [jj,<-A];refine ⟨.ref s.heap.objs.size,_,I.laid (t':=s.toks) (o:=.lst (jQ Y e l)) (λb j q=>Nu _ q) (Nv _) ?_,rfl,q _ (I.hok.fresh (Nv _))⟩
 exact ⟨Nat.le_trans (g4 Y e l) w,_,0,(r.drop (HT.sIx Y.length 0 e)).take (HT.sIx Y.length Y.length l-HT.sIx Y.length 0 e),Heap.get?_push_size _ rfl⟩
theorem call_len_seq:CallR X (.builtin "len") (λY H Q=>∃p G,Y=[.ref p]/\(SqL X.K H p G\/SqT X.K H p G)/\Q (.int G.length) H):=by
 intro B s M H Y z Q I r h;obtain ⟨p,G,rfl,n,q⟩:=h;obtain ⟨u,rfl,P⟩:=vals1 r
 cases P;have y:=DX
 rcases n with n | n
 ·obtain ⟨g,t,Z,w⟩:=I.list n
  have A:=t.length
  exact Calls.call_len_list Z.isList (by simp only [size_toArray]<;>omega) ⟨.int G.length,H,I.tok _,⟨s.toks+1,by rw [size_toArray,A]⟩,q⟩
 ·obtain ⟨g,t,Z,w⟩:=I.tuple n
  have A:=t.length
  exact len_tuple Z (by simp only [size_toArray]<;>omega) ⟨.int G.length,H,I.tok _,⟨s.toks+1,by rw [size_toArray,A]⟩,q⟩
theorem lY:CallR X (.builtin "len") (λY H Q=>∃z,Y=[.str z]/\z.length<=sizeLine/\Q (.int z.length) H):=by
 intro B s M H Y c Q I r h;obtain ⟨z,rfl,w,q⟩:=h;obtain ⟨u,rfl,t,rfl⟩:=vals1 r;have y:=DX
 exact len_str (by omega) ⟨.int z.length,H,I.tok _,⟨_,rfl⟩,q⟩
theorem CallR.or {f:Value} {r r':List V->Hp->VK->Prop} (h:CallR X f r) (U:CallR X f r'):CallR X f (λY H Q=>r Y H Q\/r' Y H Q):=by
 intro B s M H Y z Q I y q;rcases q with q | q
 ·exact h B s M H Y z Q I y q
 ·exact U B s M H Y z Q I y q
theorem lX:CallR X (.type "list") (λY H Q=>∃p G,Y=[.ref p]/\(SqL X.K H p G\/SqT X.K H p G)/\∀l,H l=none->Q (.ref l) (aR H l (.lst G))):=by
 intro B s M H Y z Q I r h;obtain ⟨p,G,rfl,c,q⟩:=h;obtain ⟨u,rfl,P⟩:=vals1 r
 cases P;have d:∀(g:List Value),Vals G g->G.length<=sizeLine->∀(U:Heap) (v:Nat),(∀b L,s.heap.get? b=some L->U.get? b=some L) ->
   U.get? s.heap.objs.size=some { cls:=.type "list",dict:=none,data:=.seq g.toArray v,slots:=#[] }->EP X B M Q (.ref s.heap.objs.size) { s with heap:=U }:=λg t w U v f e=>
  ⟨.ref s.heap.objs.size,_,I.laid (t':=s.toks) f (Nv _) (show ObjOk X.prog X.w _ U _ (.lst G) from ⟨w,g,v,t,e⟩),rfl,q _ (I.hok.fresh (Nv _))⟩
 rcases c with c | c
 ·obtain ⟨g,t,Z,w⟩:=I.list c
  have A:=t.length
  obtain ⟨o,K,J,n,F⟩:=Z.isList;exact call_list_seq p (.inl rfl) K J F (λU v f e=>d g t w U v f e) (by simp only [size_toArray]<;>omega)
 ·obtain ⟨g,t,Z,w⟩:=I.tuple c
  have A:=t.length
  obtain ⟨o,K,J,n,F⟩:=Z;exact call_list_seq p (.inr rfl) K J F (λU v f e=>d g t w U v f e) (by simp only [size_toArray]<;>omega)
noncomputable def Kt (K:Fg) (T:String) (x:V) (H:Hp):Prop:=match x with
 | .str _=>T = "str"
 | .int _=>T = "int"
 | .ref p=>(T = "list"/\∃Y,SqL K H p Y)\/(T = "tuple"/\∃o,K.lookup p=some o/\o.cls=.type "tuple"/\o.dict=none) \/
   (T = "dict"/\((∃E,H p=some (.dK E))\/∃E,H p=some (.dT E)))\/(T = "set"/\∃S n,H p=some (.set S n))
 | _=>False
theorem uK {B:List (Addr×Obj)} {M:St} {H:Hp} {s:Shared} {T:String} {x:V} {v:Value} (I:Inv X B M H s) (r:RelV x v) (ty:Kt X.K T x H) :
  s.TypeIs v T/\∀a,v=.ref a->∃d,s.heap.get? a=some d/\d.dict=none:=by
 cases x with
 | str z=>
  obtain ⟨t,rfl⟩:=r
  cases (show T = "str" from ty)
  exact ⟨typeIs_str s z t,λ_ e=>nomatch e⟩
 | int i=>
  obtain ⟨t,rfl⟩:=r
  cases (show T = "int" from ty)
  exact ⟨typeIs_int s i t,λ_ e=>nomatch e⟩
 | ref p=>
  cases r;rcases ty with ⟨rfl,Y,f⟩ | ⟨rfl,o,O,hc,F⟩ | ⟨rfl,O⟩ | ⟨rfl,S,n,O⟩
  ·obtain ⟨g,_,Z,_⟩:=I.list f
   refine ⟨Z.isList.typeIs,λa e=>?_⟩
   cases e;obtain ⟨o,n,e,c,F,_⟩:=Z;exact ⟨o,e,F⟩
  ·refine ⟨⟨o,I.kIn p o O,hc⟩,λa e=>?_⟩
   cases e;exact ⟨o,I.kIn _ o O,F⟩
  ·have z:∃o,s.heap.get? p=some o/\o.ExactDict:=by
    rcases O with ⟨E,O⟩ | ⟨E,O⟩
    ·obtain ⟨_,_,_,_,o,_,_,e,P,_⟩:=I.hok p _ O
     exact ⟨o,e,P⟩
    ·obtain ⟨_,_,_,_,o,_,_,e,P,_⟩:=I.hok p _ O
     exact ⟨o,e,P⟩
   obtain ⟨o,e,P⟩:=z;refine ⟨⟨o,e,P.1⟩,λa m=>?_⟩
   cases m;exact ⟨o,e,P.2.1⟩
  ·obtain ⟨o,_,_,_,e,P,_⟩:=I.hok p _ O
   refine ⟨⟨o,e,P.1⟩,λa m=>?_⟩
   cases m;exact ⟨o,e,P.2.1⟩
 | _=>exact False.elim ty
noncomputable def Fm (K:Fg) (T:String) (r:V->List V->Hp->VK->Prop) (c:TE):TE:=λM H Q=>c M H λx Z=>Kt K T x Z/\r x [] Z Q
noncomputable def Fn (K:Fg) (T:String) (r:V->List V->Hp->VK->Prop) (c:TE) (t:TA):TE:=λM H Q=>c M H λx Z=>Kt K T x Z/\t M Z λY j=>r x Y j Q
variable {o e:Expr} {es:List Expr} {to:TE} {t:TA} {name:Str} {apos cpos:Pos} {T id:String} {r:V->List V->Hp->VK->Prop}
theorem B9 (g:PlainAttrs T) (j:Slot T name id) (d:typeOf (.builtin id)=pure (.type "method_descriptor")) (G:LY X id r) (K:PE X o to)
  (m:attributeBase o name X.env (eval o X.env)=eval o X.env:=by rfl) (k:(apos.endLine==cpos.line)=true:=by rfl):PE X (.Call (.Attribute o name apos) [] [] cpos) (Fm X.K T r to):=by
 intro B s M H Q I h;refine wpAny_Call_method0_late m k (bt (K B s M H _ I h) λv A ⟨x,H1,I1,r1,ty,q1⟩=>?_)
 obtain ⟨R,C⟩:=uK I1 r1 ty;exact ⟨T,id,g,j,d,R,C,Calls.callWith_builtin rfl (PySem.evalArgs_none (G B A M H1 x [] v [] Q I1 r1 .nil q1))⟩
theorem qK (g:PlainAttrs T) (j:Slot T name id) (d:typeOf (.builtin id)=pure (.type "method_descriptor")) (G:LY X id r) (K:PE X o to) (U:PA X (e::es) t)
  (m:attributeBase o name X.env (eval o X.env)=eval o X.env:=by rfl)
  (f:((backTo cpos (starEach (e::es) X.env)).all (λx=>!x.1)&&(backToKw cpos (keywordEach [] X.env)).all (λx=>x.1.isSome)
   && decide ((e::es).length+([]:List Keyword).length+(if ([]:List Keyword).isEmpty then 0 else 1)<30))=true:=by rfl)
  (k:(apos.endLine==cpos.line)=true:=by rfl) (Y:starEach (e::es) X.env=(false,eval e X.env)::starEach es X.env:=by rfl) (c:(backTo cpos (starEach es X.env)).any (·.1)=false:=by rfl) :
  PE X (.Call (.Attribute o name apos) (e::es) [] cpos) (Fn X.K T r to t):=by
 intro B s M H Q I h;refine wpAny_Call_method_late m f k rfl (bt (K B s M H _ I h) λv A ⟨x,H1,I1,r1,ty,q1⟩=>?_)
 obtain ⟨R,C⟩:=uK I1 r1 ty;refine ⟨T,id,g,j,d,R,C,?_⟩
 have n:=U cpos B A M H1 _ I1 q1
 rw [Y] at n ⊢;refine Calls.callWith_builtin (by show (false||(backTo cpos (starEach es X.env)).any (·.1))=false;rw [c]<;>rfl) (Calls.evalArgs_plain ?_)
 exact bt n λz N ⟨vs,H2,I2,r2,q2⟩=>G B N M H2 x vs v z Q I2 r1 r2 q2
end
noncomputable def MJ (X:Cx) (j:String) (r:V->List V->Hp->VK->Prop):Prop:=
 ∀(B:List (Addr×Obj)) (s:Shared) (σ:St) (H:Hp) (x:V) (xs:List V) (v:Value) (us:List Value) (Q:VK),Inv X B σ H s->RelV x v->Vals xs us->r x xs H Q ->
  wpAny (model X.prog X.w) X.A (call (.builtin j) (v::us)) (EP X B σ Q) X.xe s
theorem Vals.one:∀{x:V} {us:List Value},Vals [x] us->∃u,us=[u]/\RelV x u
 | _,_,.cons r .nil=>⟨_,rfl,r⟩
theorem Vals.zero:∀{z:List Value},Vals [] z->z=[]
 | _,.nil=>rfl
theorem Vals.dropLast {Y:List V} {z:List Value} (h:Vals Y z):Vals Y.dropLast z.dropLast:=by
 induction h with
 | nil=>exact .nil
 | cons r t f=>
  cases t with
  | nil=>exact .nil
  | cons q O=>exact .cons r f
theorem pD {u:Type} (l:List u):l.eraseIdx (l.length-1)=l.dropLast:=by
 induction l with
 | nil=>rfl
 | cons a r f=>
  cases r with
  | nil=>rfl
  | cons b r=>
   have e:(a::b::r).length-1=((b::r).length-1)+1:=by
    have R:(a::b::r).length=r.length+2:=rfl
    have C:(b::r).length=r.length+1:=rfl
    omega
   rw [e,List.eraseIdx_cons_succ,f];all_goals rfl
section
variable {X:Cx} {pins:List (Addr×Obj)} {σ:St} {H:Hp} {s:Shared} {l b:Addr} {xs ys zs:List V}
theorem Inv.lset {g its':List Value} {n:Nat} {f:Array Value->Array Value} {O:Nat} (I:Inv X pins σ H s) (a:H l=some (.lst xs))
  (e:s.heap.get? l=some { cls:=.type "list",data:=.seq g.toArray n }) (m:f g.toArray=its'.toArray) (P:Vals ys its') (w:ys.length<=sizeLine) :
  Inv X pins σ (aR H l (.lst ys)) { s with heap:=s.heap.update l (Obj.mapSeq f),toks:=O }:=by
 have q:=PySem.IsL.update e f
 rw [m] at q;refine I.write (x:=l) (e:=l) (by rw [a];exact trivial) (.inl rfl) (λr u Z J=>(Heap.get?_update_other s.heap (Obj.mapSeq f) (Ne.symm Z)).trans J) ⟨_,q⟩ ?_
 exact ⟨w,its',_,P,q⟩
theorem Inv.lnew {g:List Value} {t':Nat} (I:Inv X pins σ H s) (P:Vals ys g) (w:ys.length<=sizeLine) :
  Inv X pins σ (aR H s.heap.objs.size (.lst ys)) { s with heap:=s.heap.push { cls:=.type "list",data:=.seq g.toArray },toks:=t' }:=
 I.laid (λ_ _ q=>Nu _ q) (Nv _) ⟨w,g,0,P,Heap.get?_push_size _ rfl⟩
theorem Inv.fresh (I:Inv X pins σ H s):H s.heap.objs.size=none:=I.hok.fresh (Nv _)
theorem Inv.lstM (I:Inv X pins σ H s) (a:H l=some (.lst xs)):xs.length<=sizeLine/\∃(g:List Value) (n:Nat),Vals xs g/\xs.length=g.length/\s.heap.get? l=some { cls:=.type "list",data:=.seq g.toArray n }:=by
 obtain ⟨z,g,n,r,e⟩:=I.hok l _ a;exact ⟨z,g,n,r,r.length,e⟩
end
section
variable {X:Cx}
noncomputable def ir:V->List V->Hp->VK->Prop:=λx L H Q=>∃l Y y,x=.ref l/\L=[y]/\H l=some (.lst Y)/\Y.length<sizeLine/\Q .non (aR H l (.lst (Y++[y])))
theorem IE:MJ X "list.append" ir:=by
 intro B s M H x L v b Q I P f h;obtain ⟨l,Y,y,rfl,rfl,a,w,q⟩:=h
 cases P;obtain ⟨u,rfl,C⟩:=f.one;obtain ⟨z,g,n,r,N,e⟩:=I.lstM a;refine call_meets F.slot_list_append ⟨_,e,rfl⟩ F.entry_list_append (F.args_list_append_2 _ _) (PySem.list_append l g.toArray n u (by rw [size_toArray];omega)) ⟨e,?_⟩
 refine ⟨.non,_,I.lset (its':=g++[u]) a e (by simp) (r.append (.cons C .nil)) ?_,rfl,q⟩
 rw [length_append,length_singleton];omega
noncomputable def Gd:V->List V->Hp->VK->Prop:=λx L H Q=>∃l Y y,x=.ref l/\L=[]/\H l=some (.lst Y)/\Y[Y.length-1]?=some y/\Q y (aR H l (.lst Y.dropLast))
theorem Cu:MJ X "list.pop" Gd:=by
 intro B s M H x L v d Q I P f h;obtain ⟨l,Y,y,rfl,rfl,a,o,q⟩:=h
 cases P;have b:=f.zero
 subst b;obtain ⟨z,g,n,r,N,e⟩:=I.lstM a;obtain ⟨u,J,C⟩:=r.get o;have c:g.toArray[g.toArray.size-1]?=some u:=by
  show g.toArray[g.length-1]?=some u
  rw [<-Array.getElem?_toList,<-N];exact J
 refine call_meets F.slot_list_pop ⟨_,e,rfl⟩ F.entry_list_pop (F.args_list_pop_1 _) (MeetsSeq.list_pop_last l g.toArray n u c (by rw [size_toArray];omega)) ⟨e,?_⟩
 refine ⟨y,_,I.lset (its':=g.dropLast) a e ?_ r.dropLast ?_,C,q⟩
 ·show g.toArray.eraseIdxIfInBounds (g.toArray.size-1)=g.dropLast.toArray
  rw [size_toArray,List.eraseIdxIfInBounds_toArray,pD]
 ·rw [length_dropLast]
  omega
end
section
variable {prog:Program} {w:World} {A:Around} {E:Value->Shared->Prop} {s:Shared}
set_option maxRecDepth 100000 in
end
end L2
namespace Att
open PySem PySem.W PySem.Calls PyProof.Rows
theorem hX {P:Params} {h:Heap}:∀(U:List Int) (L:List Value),WellAll P h L (U.map WData.int)->IntsAre L U:=by
 intro U;induction U with
 | nil=>
  intro L w;rw [map_nil] at w
  cases w;exact .nil
 | cons n U f=>
  intro L w;rw [map_cons] at w
  cases w with
  | cons a b=>
   cases a;exact .cons _ _ (f _ b)
theorem sG {l:OpenLaw} {n:Nat} (y:l.most=some n) {P:Params} {h:Heap} {args:List WData} {c:List Value}
  (k:l.row.toRowW.claim.pre args=true) (v:WellAll P h c args) :
  ∃a L U,c=[Value.ref a]/\args=[WData.list (U.map WData.int)]/\h.get? a=some { cls:=.type "list",data:=.seq L.toArray }/\IntsAre L U/\U.length<=n:=by
 have B:WShape.hasAll [] args [.list .int]=true:=(pre_splitW k).1
 have J:l.pre.holds [] { args:=args }=true:=(pre_splitW k).2
 obtain ⟨d,r,rfl,R,C⟩:=hasAllW_cons B;obtain rfl:=hasAllW_nil C
 obtain ⟨Y,rfl,g⟩:=hasW_list R;obtain ⟨U,rfl⟩:=items_int g;have A:U.length<=n:=by
  unfold OpenLaw.pre at J;have f:(WTm.not (.lt (.lit (.int (n:Int))) (.len (.arg 0)))).holds [] { args:=[.list (U.map .int)] }=true:=by
   have f:=(holds_andW J).1
   rw [y] at f;exact f
  have F:=condW_of f (w_not (w_lt w_lit (w_len_list (w_arg rfl))))
  rw [length_map] at F;refine Nat.le_of_not_lt λq=>?_
  have E:(n:Int)<((U.length:Nat):Int):=by omega
  first
   | (rw [decide_eq_true E] at F;exact absurd F (by decide))
   | (simp at F;omega)
 cases v with
 | cons t e=>
  cases e
  cases t with
  | list K b=>exact ⟨_,_,U,rfl,rfl,K,hX U _ b,A⟩
theorem sW (l:OpenLaw) (args:List WData):l.row.toRowW.claim.post args (.bool true) args=true:=
 postW_of (r:=l.row.toRowW) (X:=(true==true))
  (show WShape.has [] (.bool true) .bool=true by first | rfl | decide | simp [WShape.has,WShape.arms,WShape.armsAll])
  (show (WTm.eq .res (.lit (.bool true))).value [] { args:=args,res:=some (.bool true),after:=args }=some (.bool (true==true)) from w_eq_bool (w_res rfl) w_lit) rfl
theorem attach_call {l:OpenLaw} {n:Nat} {q:Program} {b:List Str} {H:(Str->Option Value)->Heap->Prop} {B:World->Heap->Prop} {d:DefRec}
  (y:l.most=some n) (R:d.params.defaults=[])
  (call:∀(w:World) (t g:Shared) (I N:Str->Option Value) (z:Addr) (o:Obj) (x M i:Value) (a:Addr) (L:List Value) (U:List Int),
   Ground q b [] H w t I N g.heap->B w g.heap ->
   g.heap.get? z=some o->o.data=.func (docDef d.name d.params d.body d.scope x M i)->g.heap.CodeRec M d.name->I d.name=some (.ref z) ->
   g.heap.get? a=some { cls:=.type "list",data:=.seq L.toArray }->IntsAre L U->U.length<=n->g.gens=#[] ->
   codeAny (model l.prog w) callerA (.call (.ref z) ⟨[.ref a],[]⟩) (λr j=>r=.ok (.ret (.bool true))/\OldK g.heap j.heap/\j.os=g.os/\AllBare j.gens) g) :
  WalkO q b H B l.row.toRowW d [] (λf L=>PySem.call f L):=by
 intro w t g I N G Y z o x M i h kV K F O e P E args c as k m s v u;obtain rfl:h=.none:=Dflts.none e R
 obtain rfl:kV=.none:=Dflts.noKw e
 obtain ⟨a,L,U,rfl,rfl,J,p,A⟩:=sG y k v;refine enter_call (codeAny_mono (call w t g I N z o x M i a L U G Y K (fd_plain F) O P J p A E) λr j hq=>?_)
 obtain ⟨rfl,C,h3,Z⟩:=hq;exact ⟨.inl ⟨.bool true,.bool true,[],rfl,λ_=>rfl,.bool true,sW l _,λ_=>⟨List.Pairwise.nil,λ_ X=>(nomatch X)⟩⟩,C,h3,Z⟩
end Att
namespace L2
open PySem PySem.Spec PyProof.Rows
theorem jY:∀{L:List Value} {ns:List Int},IntsAre L ns->Vals (ns.map V.int) L
 | _,_,.nil=>.nil
 | _,_,.cons n t h=>.cons ⟨t,rfl⟩ (jY h)
noncomputable def DH (H:Hp):Prop:=∀b,H b=none\/∃o Y,H b=some (.frz o (.lst Y))
theorem vV {P:Program} {w:World} {K:Fg} {I mb:Str->Option Value} {CX:xr} {k:Nat} {fa a:Addr} {fd:FuncData} {x:Str} {sp:Sp} {g:Shared} {L:List Value} {ns:List Int}
  (KX:K.In g.heap) (hns:g.heap.Ns mainGlobals I) (Z:g.heap.Ns builtinsNs mb) (hbb:∀x:Str,x ≠ "__name__"->mb x=bootBuiltins x) (hlim:g.heap.NoLimit) (E:g.gens=#[])
  (U:g.heap.get? a=some { cls:=.type "list",data:=.seq L.toArray }) (l:IntsAre L ns) (N:ns.length<=sizeLine) (M:Room k callerA)
  (F:∀base:Heap,K.In base->base.Ns mainGlobals I->cC P w K I base CX k fa fd [x] sp) (hbind:∀(s:Shared) (u:Value),BindsTo s fd ⟨[u],[]⟩ [(x,u)])
  (hsp:∀H:Hp,DH H->SqL K H a (ns.map V.int)->sp [.ref a] H (λv _=>v=.bl true) λ_ _ _=>False)
  (hCX:∀H e j,CX [] H g (λ_ _ _=>False) e j->False) :
  codeAny (model P w) callerA (.call (.ref fa) ⟨[.ref a],[]⟩) (λr j=>r=.ok (.ret (.bool true))/\OldK g.heap j.heap/\j.os=g.os/\AllBare j.gens) g:=by
 have f:=jY l
 have lenV:=l.length
 have core:∀H:Hp,DH H->SqL K H a (ns.map V.int)->HOk P w H g.heap->(∀b,H b≠none->b=a)->(H a≠none->K.lookup a=none) ->
   codeAny (model P w) callerA (.call (.ref fa) ⟨[.ref a],[]⟩) (λr j=>r=.ok (.ret (.bool true))/\OldK g.heap j.heap/\j.os=g.os/\AllBare j.gens) g:=by
  intro H hO y A hA p;have c:∀{b:Addr} {o:Obj},g.heap.get? b=some o->H b=none->(lG g.heap H).get? b=some o:=λe n=>wo e n
  have noA:∀{b:Addr} {o:Obj} {es:Array DictEntry} {ep:Nat},g.heap.get? b=some o->o.data=.dict es ep->H b=none:=λ{b o es ep} e d=>by
   cases q:H b with
   | none=>rfl
   | some u=>
    have J:b=a:=hA b (by rw [q];simp)
    subst J
    rw [U] at e;cases e;have Y:Data.seq L.toArray _=Data.dict es ep:=d
    cases Y
  have nsK:∀{b:Addr} {m:Str->Option Value},g.heap.Ns b m->(lG g.heap H).Ns b m:=λ{b m} ⟨o,es,ep,e,d,r⟩=>⟨o,es,ep,c e (noA e d),d,r⟩
  have hKb:K.In (lG g.heap H):=λb o e=>c (KX b o e) (by
   cases q:H b with
   | none=>rfl
   | some u=>
    have J:b=a:=hA b (by rw [q];simp)
    subst J
    rw [p (by rw [q];simp)] at e;cases e)
  have hM:Mod K I (lG g.heap H):=⟨hKb,nsK hns,⟨mb,nsK Z,hbb⟩,let ⟨mc,R,C⟩:=hlim;⟨mc,nsK R,C⟩⟩
  have e0:zO P w K I (lG g.heap H) callerA [] g H:=⟨rfl,hM,λb o e=>yC e,Nat.le_of_eq (tR _ _),trivial,λb Z=>absurd (show b∈([]:List Addr) from Z) (by simp),A,.of_eq E⟩
  refine codeAny_mono ((F _ hKb (nsK hns)).run callerA [] g H ⟨[.ref a],[]⟩ [.ref a] [.ref a] _ _ M e0 (hbind g (.ref a)) (.cons rfl .nil) (hsp H hO y)) λr j h=>?_
  cases r with
  | error e=>exact (hCX H e j h).elim
  | ok fl=>
   cases fl with
   | next=>exact False.elim h
   | brk=>exact False.elim h
   | cont=>exact False.elim h
   | ret u=>
    obtain ⟨v,H',X,i,un,hok',t,q⟩:=h;have q':v=.bl true:=q
    subst q'
    obtain rfl:u=Value.bool true:=t
    refine ⟨rfl,OldK.of_keep λb o e=>?_,X,i⟩
    cases q:H b with
    | none=>exact un.keep b o e q (by intro z;exact absurd (show b∈([]:List Addr) from z) (by simp)) (by simp)
    | some u=>
     rcases hO b with z | ⟨ob,xs,z⟩
     ·rw [q] at z;cases z
     ·have G:=un.frzs b ob _ z
      obtain ⟨B,_⟩:=A b _ z;obtain ⟨e2,_⟩:=hok' b _ G
      rw [e] at B;cases B;exact e2
 cases O:K.lookup a with
 | some o=>
  have e:=KX a o O
  rw [U] at e
  cases e;refine core (λ_=>none) (λ_=>.inl rfl) (.inr ⟨_,L.toArray,_,O,rfl,rfl,rfl,by rw [size_toArray,lenV];exact N,by simpa using f⟩) (λb u z=>by have z':(none:Option HO)=some u:=z;cases z') (λb z=>absurd rfl z) λz=>absurd rfl z
 | none=>
  refine core (λb=>if b=a then some (.frz { cls:=.type "list",data:=.seq L.toArray } (.lst (ns.map V.int))) else none) (λb=>?_) (.inl (.inr ⟨{ cls:=.type "list",data:=.seq L.toArray },if_pos rfl⟩)) (λb u z=>?_) (λb z=>?_) λ_=>O
  ·by_cases Z:b=a
   ·exact .inr ⟨_,_,if_pos Z⟩
   ·exact .inl (if_neg Z)
  ·by_cases Z:b=a
   ·have z':=(if_pos Z).symm.trans z
    cases z'
    subst Z;exact ⟨U,by rw [length_map];exact N,L,_,f,U⟩
   ·have z':=(if_neg Z).symm.trans z
    cases z'
  ·by_cases Z:b=a
   ·exact Z
   ·exact absurd (if_neg Z) z
theorem walk_of {l:PySem.W.OpenLaw} {n k:Nat} {q:Program} {b:List Str} {XP:(Str->Option Value)->Heap->Prop} {YP:World->Heap->Prop} {d:DefRec} {K:Params->Fg} {CX:World->xr} {sp:World->Sp} {x:Str}
  (y:l.most=some n) (X:n<=sizeLine) (R:d.params.defaults=[]) (M:Room k callerA)
  (hY:∀(w:World) (h:Heap),YP w h->(K w.params).In h)
  (F:∀(w:World) (I:Str->Option Value) (z:Addr) (h:Heap),(K w.params).In h->h.Ns mainGlobals I->I d.name=some (.ref z) ->
   ∃fd:FuncData,(∀(s:Shared) (u:Value),BindsTo s fd ⟨[u],[]⟩ [(x,u)]) /\
    ∀m:Heap,(K w.params).In m->m.Ns mainGlobals I->cC l.prog w (K w.params) I m (CX w) k z fd [x] (sp w))
  (O:∀(w:World) (H:Hp) (a:Addr) (U:List Int),U.length<=n->DH H->SqL (K w.params) H a (U.map V.int)->sp w [.ref a] H (λv _=>v=.bl true) λ_ _ _=>False)
  (C:∀(w:World) (H:Hp) (s:Shared) (e:Value) (j:Shared),CX w [] H s (λ_ _ _=>False) e j->False) :
  PySem.W.WalkO q b XP YP l.row.toRowW d [] (λf L=>PySem.call f L):=by
 refine Att.attach_call y R λw t g I N z o r cd i a L U G Y ho hd hcd P J p A E=>?_
 have KX:=hY w _ Y
 obtain ⟨fd,Z,c⟩:=F w I z _ KX G.T.g P;exact vV KX G.T.g G.T.b G.T.builtins G.T.nolimit E J p (Nat.le_trans A X) M c Z (λH B hS=>O w H a U A B hS) λH e j=>C w H g e j
noncomputable def eV (s:Stmt):Arguments:=match s with
 | .FunctionDef _ a _ _ _ _ _ _ _ _=>a
 | _=>{ posonlyargs:=[],args:=[],vararg:=none,kwonlyargs:=[],kw_defaults:=[],kwarg:=none,defaults:=[] }
noncomputable def bC (s:Stmt):List Stmt:=match s with
 | .FunctionDef _ _ b _ _ _ _ _ _ _=>b
 | _=>[]
noncomputable def aD (s:Stmt):Scope:=match s with
 | .FunctionDef _ _ _ _ _ _ sc _ _ _=>sc
 | _=>{ kind:=.function,names:=[],isGenerator:=false,isCoroutine:=false }
noncomputable abbrev g5:xr:=λ_ _ _ _ _ _=>False
noncomputable abbrev E0:XK:=λ_ _ _=>False
theorem Aj {X:Cx}:pU g5 X E0:=λ_ _ _ _ _ _ _ h=>h.elim
structure Fun (K:Fg) (x qual:Str) (st:Stmt) (f:Addr) (fd:FuncData):Prop where
 ex:∃(oc:Value) (od:Option Addr) (kV doc pm:Value) (an:Option Addr) (cdv ct:Value) (osl:Array (Option Value)),
  fd=PySem.W.fnOf x qual (eV st) (bC st) (aD st) .none kV doc pm an cdv ct/\K.lookup f=some ⟨oc,od,.func fd,osl⟩/\PySem.W.codeIn K cdv qual=true
 kp:PySem.W.keepIn K (.ref f)=true
section
variable {P:Program} {w:World} {K:Fg} {mg:Str->Option Value} {base:Heap}
theorem Fun.ok {x G:Str} {st:Stmt} {f:Addr} {o:FuncData} {N J:List Str} {k:Nat} {l:Sp} (F:Fun K x G st f o) (S:bZ N J (aD st)) (len:∀L H Q E,l L H Q E->L.length=J.length)
  (b:∀(a:Value) (A:Around) (B:List Env) (s:Shared) (H:Hp) (L:List V) (Q:VK) (E:XK),Room k (A.deeper (envOfC G (aD st) s.heap.objs.size f a))->l L H Q E ->
   ∃t,PSs (oo g5 P w K mg base N G (aD st) f a A B s H E).nox (bC st) t/\t { nx:=λ_ c=>Q .non c,rt:=Q } (start N L) H):cC P w K mg base g5 (k+1) f o J l:=by
 obtain ⟨C,U,kV,i,r,an,a,ct,d,rfl,Y,g⟩:=F.ex;refine G7 Y g S len λA B s H L Q E M O=>?_
 obtain ⟨t,h,q⟩:=b a A B s H L Q E M O;exact ⟨t,h.nox,q⟩
theorem Fun.binds {x G:Str} {st:Stmt} {f:Addr} {o:FuncData} {J:List Str} (F:Fun K x G st f o)
  (h:∀(kV i r:Value) (an:Option Addr) (a ct:Value) (us:List Value),us.length=J.length->bindArgs (PySem.W.fnOf x G (eV st) (bC st) (aD st) .none kV i r an a ct) ⟨us,[]⟩=pure (J.zip us)):Binds K o J []:=by
 obtain ⟨C,U,kV,i,r,an,a,ct,d,rfl,Y,g⟩:=F.ex;exact .all (h kV i r an a ct)
theorem C8 {x G:Str} {st:Stmt} {f:Addr} {C:Value} {U an:Option Addr} {d:Array (Option Value)} {kV i r a ct:Value} (l:K.lookup f=some ⟨C,U,.func (PySem.W.fnOf x G (eV st) (bC st) (aD st) .none kV i r an a ct),d⟩)
  (c:PySem.W.codeIn K a G=true) (k:PySem.W.keepIn K (.ref f)=true):Fun K x G st f (PySem.W.fnOf x G (eV st) (bC st) (aD st) .none kV i r an a ct):=⟨⟨C,U,kV,i,r,an,a,ct,d,rfl,l,c⟩,k⟩
end
theorem sD {n:Nat} (h:n<=1000):n<sizeLine:=Nat.lt_of_le_of_lt h (by decide)
theorem dq {A B:Prop} (h:B):if false=true then A else B:=by
 rw [if_neg Bool.false_ne_true];exact h
theorem dQ {A B:Prop} (h:A):if true=true then A else B:=by
 rw [if_pos rfl];exact h
noncomputable def Same (H F:Hp):Prop:=∀b o,H b=some o->F b=some o
theorem Same.refl (H:Hp):Same H H:=λ_ _ h=>h
theorem Same.trans {H Z j:Hp} (a:Same H Z) (b:Same Z j):Same H j:=λc o h=>b c o (a c o h)
theorem Same.free {H F:Hp} (e:Same H F) {l:Addr} (h:F l=Option.none):H l=Option.none:=by
 cases q:H l with
 | none=>rfl
 | some o=>
  rw [e l o q] at h
  cases h
theorem Same.seq {K:Fg} {H F:Hp} {a:Addr} {Y:List V} (e:Same H F) (h:SqL K H a Y):SqL K F a Y:=by
 rcases h with (h | ⟨o,h⟩) | h
 ·exact .inl (.inl (e _ _ h))
 ·exact .inl (.inr ⟨o,e _ _ h⟩)
 ·exact .inr h
section
variable {prog:Program} {w:World} {A:Around} {R:Result->Shared->Prop} {s:Shared}
noncomputable abbrev zK:Value->Shared->Prop:=λ_ _=>False
theorem lV {l a z:Expr} {u:List Expr} {d:Scope} {K:Pos} {L q:Value} {p:Env} (I:Nat->Shared->Prop)
  (k:∀n s,I n s->wpAny (model prog w) A (pyNext L) (λr g=>match r with
   | none=>R (.ok .next) g
   | some v=>wpAny (model prog w) A (letOwnedTupleGo a L v) (λ_ j=>wpAny (model prog w) A (assign a p v) (λ_ O=>
     wpAny (model prog w) A (forIn u true λc r=>if r=true then do let ok <-isTrue c p (eval c p);pure (ForInStep.yield ok) else pure (ForInStep.yield r)) (λok Y=>
      if ok=true then wpAny (model prog w) A (eval l p) (λx i=>
       wpAny (model prog w) A (call (.builtin "list.append") [q,x]) (λ_ o=>∃m,m<n/\I m o) zK i) zK Y
      else ∃m,m<n/\I m Y) zK O) zK j) zK g) zK s)
  (n:Nat) (h:I n s) :
  codeAny (model prog w) A (.compLoop (.ListComp l [⟨a,z,u,0⟩] d K) 0 L q p) R s:=by
 refine codeAny_loop rfl I (λn s hI=>?_) n h
 show wpAny _ A ((compTurn (.ListComp l [⟨a,z,u,0⟩] d K) 0 L q p).onRaise (λx=>do noteFrame x p;theTreesLotGoes x)) _ _ s
 refine wpAny_noted ?_
 rw [compTurn_list];have F:∀{Z:Value->Shared->Prop},∀(e:Value) (s:Shared),zK e s->Z e s:=λ_ _ x=>x.elim
 refine Nr (wpAny_standAt (Nr (wpAny_mono (k n s hI) (λr g f=>?_) F)))
 cases r with
 | none=>exact Nt f
 | some v=>
  refine Nr (wpAny_mono f (λ_ j y=>?_) F)
  refine Nr (wpAny_mono y (λ_ O b=>Nr (wpAny_mono b (λok Y t=>?_) F)) F)
  cases ok with
  | false=>exact Nt ⟨rfl,t⟩
  | true=>
   exact Nr (Nr (wpAny_mono t (λx i C=>Nr (wpAny_mono C (λ_ o B=>Nt (Nt ⟨rfl,B⟩)) F)) F))
end
noncomputable def cA (p:Env):List (Str×NameKind)->List (Str×Addr)->List (Str×Addr)
 | [],acc=>acc
 | (n,k)::r,acc=>if k==.free then cA p r ((n,(p.cells.lookup n).getD 0)::acc) else cA p r acc
theorem J8 {env:Env}:∀(b:List (Str×NameKind)) (acc:List (Str×Addr)),(∀n,(n,NameKind.free)∈b->∃c,env.cells.lookup n=some c) ->
  (forIn b acc λ(x:Str×NameKind) (cs:List (Str×Addr))=>(match x with | (name,kind)=>if kind==.free then (do let a <-cellOf env name;pure (ForInStep.yield ((name,a)::cs))) else pure (ForInStep.yield cs):Sem (ForInStep (List (Str×Addr)))))=(pure (cA env b acc):Sem (List (Str×Addr)))
 | [],acc,_=>by rw [List.forIn_nil];rfl
 | (n,k)::r,acc,h=>by
  rw [List.forIn_cons];unfold cA;by_cases O:(k==.free)=true
  ·simp only [O,if_true]
   have d:k=.free:=by simpa using O
   obtain ⟨c,J⟩:=h n (by rw [d];exact mem_cons_self)
   have e:cellOf env n=pure c:=by unfold cellOf;rw [J]
   rw [e,J];exact J8 r ((n,c)::acc) λf y=>h f (Nn _ y)
  ·rw [if_neg O]
   simp only [O]
   exact J8 r acc λf y=>h f (Nn _ y)
theorem gm {env:Env} {d:Scope} (h:∀n,(n,NameKind.free)∈d.names->∃c,env.cells.lookup n=some c):closureFor d env=pure (cA env d.names []):=by
 have:=J8 (env:=env) d.names [] h
 unfold closureFor;rw [show (pure (cA env d.names []):Sem (List (Str×Addr)))=(pure (cA env d.names []) >>= λx=>pure x) from rfl,<-this]
theorem Kk {p:Env} {x:Str} {c:Addr}:∀{b:List (Str×NameKind)} {acc:List (Str×Addr)},(∀n,(n,NameKind.free)∈b->∃c,p.cells.lookup n=some c)->(cA p b acc).lookup x=some c->p.cells.lookup x=some c\/acc.lookup x=some c
 | [],_,_,e=>.inr e
 | (n,k)::r,acc,h,e=>by
  unfold cA at e;have U:∀f,(f,NameKind.free)∈r->∃c,p.cells.lookup f=some c:=λf y=>h f (Nn _ y)
  by_cases O:(k==.free)=true
  ·rw [if_pos O] at e
   rcases Kk U e with q | q
   ·exact .inl q
   ·rw [lookup_cons] at q
    have d:k=.free:=by simpa using O
    obtain ⟨v,J⟩:=h n (by rw [d];exact mem_cons_self)
    cases G:x==n with
    | true=>
     rw [G,J] at q
     cases q;rw [eq_of_beq G];exact .inl J
    | false=>
     rw [G] at q;exact .inr q
  ·rw [if_neg O] at e
   exact Kk U e
theorem Ea {env:Env} {x:Str}:∀{names:List (Str×NameKind)} {acc:List (Str×Addr)},(x,NameKind.free)∈names\/(acc.lookup x).isSome=true->((cA env names acc).lookup x).isSome=true
 | [],_,h=>h.elim nofun id
 | (n,k)::r,acc,h=>by
  unfold cA;by_cases O:(k==.free)=true
  ·rw [if_pos O]
   refine Ea (names:=r) ?_
   rcases h with h | h
   ·rcases Nk h with e | h
    ·cases e
     exact .inr (by rw [lookup_cons];simp)
    ·exact .inl h
   ·right
    rw [lookup_cons]
    cases G:x==n with
    | true=>rfl
    | false=>exact h
  ·rw [if_neg O]
   refine Ea (names:=r) ?_
   rcases h with h | h
   ·rcases Nk h with e | h
    ·cases e
     exact absurd rfl O
    ·exact .inl h
   ·exact .inr h
theorem EV {x:Str} {c:Addr}:∀{b:List (Str×NameKind)} {n:Nat} {acc:List (Str×Addr)},(cellsFrom n b acc).lookup x=some c->((x,NameKind.cell)∈b/\n<=c)\/acc.lookup x=some c
 | [],_,_,e=>.inr e
 | (y,k)::r,n,acc,e=>by
  unfold cellsFrom at e;by_cases O:(k==.cell)=true
  ·rw [if_pos O] at e
   have d:k=.cell:=by simpa using O
   rcases EV e with ⟨q,l⟩ | q
   ·exact .inl ⟨Nn _ q,by omega⟩
   ·rw [lookup_cons] at q
    cases G:x==y with
    | true=>
     rw [G] at q
     cases q;exact .inl ⟨by rw [eq_of_beq G,d];exact mem_cons_self,Nv _⟩
    | false=>
     rw [G] at q;exact .inr q
  ·rw [if_neg O] at e
   rcases EV e with ⟨q,l⟩ | q
   ·exact .inl ⟨Nn _ q,l⟩
   ·exact .inr q
theorem Ko {x y:Str} {c:Addr}:∀{names:List (Str×NameKind)} {n:Nat} {acc:List (Str×Addr)},(∀z d,acc.lookup z=some d->d<n)->(∀x y d,acc.lookup x=some d->acc.lookup y=some d->x=y) ->
  (cellsFrom n names acc).lookup x=some c->(cellsFrom n names acc).lookup y=some c->x=y
 | [],_,_,_,hi,e,e'=>hi _ _ _ e e'
 | (z,k)::r,n,acc,hl,hi,e,e'=>by
  unfold cellsFrom at e e'
  by_cases O:(k==.cell)=true
  ·rw [if_pos O] at e e'
   refine Ko (names:=r) (n:=n+1) (acc:=(z,n)::acc) (λa d q=>?_) (λa b d q E=>?_) e e'
   ·rw [lookup_cons] at q
    cases G:a==z with
    | true=>rw [G] at q;cases q;exact Nat.lt_succ_self _
    | false=>rw [G] at q;exact Nat.lt_succ_of_lt (hl a d q)
   ·rw [lookup_cons] at q E
    cases G:a==z with
    | true=>
     rw [G] at q
     cases q
     cases o:b==z with
     | true=>rw [eq_of_beq G,eq_of_beq o]
     | false=>rw [o] at E;exact absurd (hl b n E) (Nat.lt_irrefl _)
    | false=>
     rw [G] at q
     cases o:b==z with
     | true=>rw [o] at E;cases E;exact absurd (hl a n q) (Nat.lt_irrefl _)
     | false=>rw [o] at E;exact hi a b d q E
  ·rw [if_neg O] at e e'
   exact Ko hl hi e e'
theorem J9 {p:Env} {x:Str} {c:Addr}:∀{b:List (Str×NameKind)} {acc:List (Str×Addr)},(cA p b acc).lookup x=some c->(x,NameKind.free)∈b\/acc.lookup x=some c
 | [],_,e=>.inr e
 | (n,k)::r,acc,e=>by
  unfold cA at e;by_cases O:(k==.free)=true
  ·rw [if_pos O] at e
   have d:k=.free:=by simpa using O
   rcases J9 e with q | q
   ·exact .inl (Nn _ q)
   ·rw [lookup_cons] at q
    cases G:x==n with
    | true=>rw [eq_of_beq G,d];exact .inl mem_cons_self
    | false=>rw [G] at q;exact .inr q
  ·rw [if_neg O] at e
   rcases J9 e with q | q
   ·exact .inl (Nn _ q)
   ·exact .inr q
theorem IP {x:Str}:∀{names:List (Str×NameKind)} {n:Nat} {acc:List (Str×Addr)},(x,NameKind.cell)∈names\/(acc.lookup x).isSome=true->((cellsFrom n names acc).lookup x).isSome=true
 | [],_,_,h=>h.elim nofun id
 | (y,k)::r,n,acc,h=>by
  unfold cellsFrom;by_cases O:(k==.cell)=true
  ·rw [if_pos O]
   refine IP (names:=r) ?_
   rcases h with h | h
   ·rcases Nk h with e | h
    ·cases e
     exact .inr (by rw [lookup_cons];simp)
    ·exact .inl h
   ·right
    rw [lookup_cons]
    cases G:x==y with
    | true=>rfl
    | false=>exact h
  ·rw [if_neg O]
   refine IP (names:=r) ?_
   rcases h with h | h
   ·rcases Nk h with e | h
    ·cases e
     exact absurd rfl O
    ·exact .inl h
   ·exact .inr h
theorem IM {x:Str}:∀{b:List (Str×NameKind)} {n:Nat} {acc:List (Str×Addr)},(x,NameKind.cell)∉b->(cellsFrom n b acc).lookup x=acc.lookup x
 | [],_,_,_=>rfl
 | (y,k)::r,n,acc,h=>by
  unfold cellsFrom;have M:(x,NameKind.cell)∉r:=λz=>h (Nn _ z)
  by_cases O:(k==.cell)=true
  ·rw [if_pos O,IM M,lookup_cons]
   have d:k=.cell:=by simpa using O
   cases G:x==y with
   | true=>exact absurd (by rw [eq_of_beq G,d];exact mem_cons_self) h
   | false=>rfl
  ·rw [if_neg O]
   exact IM M
theorem IQ {x:Str} {c:Addr}:∀{b:List (Str×NameKind)} {n:Nat} {acc:List (Str×Addr)},(x,NameKind.cell)∈b->(cellsFrom n b acc).lookup x=some c->(cellsFrom n b []).lookup x=some c
 | [],_,_,h,_=>nomatch h
 | (y,k)::r,n,acc,h,e=>by
  unfold cellsFrom at e ⊢
  by_cases O:(k==.cell)=true
  ·rw [if_pos O] at e ⊢
   by_cases M:(x,NameKind.cell)∈r
   ·have:∀{acc g:List (Str×Addr)},(cellsFrom (n+1) r acc).lookup x=some c->(cellsFrom (n+1) r g).lookup x=some c:=λ{a a'} q=>by
     have i:=IQ M q
     have Y:=IP (n:=n+1) (acc:=a') (.inl M)
     obtain ⟨v,f⟩:=Option.isSome_iff_exists.mp Y;have F:=IQ M f
     rw [i] at F
     cases F;exact f
    exact this e
   ·rw [IM M] at e ⊢
    rw [lookup_cons] at e ⊢
    cases G:x==y with
    | true=>rw [G] at e;exact e
    | false=>
     rcases Nk h with z | z
     ·cases z
      simp at G
     ·exact absurd z M
  ·rw [if_neg O] at e ⊢
   rcases Nk h with z | z
   ·cases z
    exact absurd rfl O
   ·exact IQ z e
noncomputable def blk (X:Cx) (scope:Scope) (cells:List (Str×Addr)) (C:Addr) (s₀:Shared) (H₀:Hp) (ex:List Addr):Cx where
 prog:=X.prog
 w:=X.w
 K:=X.K
 mg:=X.mg
 base:=X.base
 A:=X.A
 N:=X.N
 s₀:=s₀
 H₀:=H₀
 env:={ scope:=relabel scope X.env,locals:=C,globals:=X.env.globals,cells:=cells,qual:=X.env.qual,func:=none,code:=X.env.code,frame:=X.env.frame,builtins:=X.env.builtins }
 outer:=X.stack
 stack:=X.stack
 ex:=ex
 fn:=λx=>scope.names.any λy=>y.1==x&&y.2==.cell
 calm:=X.calm
 pn:=[]
 xe:=λ_ _=>False
structure dy (N:List Str) (is:List Nat) (osc scope:Scope):Prop where
 kind:scope.kind=.function
 free:∀n,(n,NameKind.free)∈scope.names->osc.names.lookup n=some .cell\/osc.names.lookup n=some .free
 own:∀(i:Nat) (x:Str),N[i]?=some x->(x,NameKind.local)∈scope.names\/(x,NameKind.cell)∈scope.names->i∈is
 loc:∀x∈scope.names,x.2=.local->scope.names.lookup x.1=some .local
 one:∀n,(n,NameKind.free)∈scope.names->(n,NameKind.cell)∉scope.names
noncomputable def bj (a:List Nat) (M:St):St:=M.mapIdx λi v=>if i∈a then none else v
theorem IA (a:List Nat) (M:St):(bj a M).length=M.length:=by unfold bj;simp
theorem J7 {a:List Nat} {M:St} {i:Nat} {v:V} (h:(bj a M)[i]?=some (some v)):i∉a/\M[i]?=some (some v):=by
 unfold bj at h;rw [List.getElem?_mapIdx] at h
 cases e:M[i]? with
 | none=>rw [e] at h;cases h
 | some o=>
  rw [e] at h;simp only [Option.map_some,Option.some.injEq] at h
  by_cases l:i∈a
  ·rw [if_pos l] at h;cases h
  ·rw [if_neg l] at h;exact ⟨l,by rw [h]⟩
noncomputable def LZ (a w:St):Prop:=w.length=a.length/\∀(i:Nat) v,a[i]?=some (some v)->w[i]?=some (some v)
theorem iT {x:Str} {k:NameKind} {l:List (Str×NameKind)} (h:l.lookup x=some k):(x,k)∈l:=PySem.mem_of_lookup h
theorem Eh {d:Scope} {p:Env} {x:Str} {k:NameKind} (h:(relabel d p).names.lookup x=some k) :
  (x,k)∈d.names\/((x,NameKind.free)∈d.names/\k=.cell):=by
 have h:=iT h
 unfold relabel at h;obtain ⟨⟨n,j⟩,G,e⟩:=List.mem_map.mp h;dsimp only at e;by_cases J:(j==NameKind.free&&p.scope.kind==.function&&p.kindOf n==some .cell)=true
 ·rw [if_pos J] at e
  cases e;have:j=.free:=by
   simp only [Bool.and_eq_true,beq_iff_eq] at J
   exact J.1.1
  exact .inr ⟨this▸G,rfl⟩
 ·rw [if_neg J] at e
  cases e;exact .inl G
noncomputable def ba (X:Cx) (d:Scope) (C:Addr):List (Str×Addr):=cellsFrom (C+1) d.names (cA X.env d.names [])
section
variable {X:Cx} {pins:List (Addr×Obj)} {σ:St} {H:Hp} {s:Shared} {scope:Scope} {is:List Nat}
theorem Inv.freeCells (I:Inv X pins σ H s) (S:dy X.N is X.env.scope scope):∀n,(n,NameKind.free)∈scope.names->∃c,X.env.cells.lookup n=some c:=λn y=>
 I.ok.has n (S.free n y)
theorem Inv.blkOld (I:Inv X pins σ H s) (S:dy X.N is X.env.scope scope) {x:Str} {c:Addr} (h:(cA X.env scope.names []).lookup x=some c):X.env.cells.lookup x=some c:=by
 rcases Kk (I.freeCells S) h with q | q
 ·exact q
 ·cases q
theorem Inv.block {fp:List Addr} {t':Nat} (I:Inv X pins σ H s) (S:dy X.N is X.env.scope scope) (hf:∀b∈fp,jS X pins H b) (L:∀b∈fp,b<s.heap.objs.size) :
  Inv (blk X scope (ba X scope (s.heap.objs.size+1)) (s.heap.objs.size+1) s H fp) [] (bj is σ) (aR H s.heap.objs.size (.lst []))
   { s with heap:=pushCells ((s.heap.push { cls:=.type "list",data:=.seq ([]:List Value).toArray }).push { cls:=.type "dict",data:=.dict #[] }) scope.names,toks:=t' }:=by
 generalize hC:s.heap.objs.size+1=C
 have j:H s.heap.objs.size=none:=I.hok.fresh (Nv _)
 have A:(s.heap.push { cls:=.type "list",data:=.seq ([]:List Value).toArray }).objs.size=C:=by rw [Heap.size_push,hC]
 have kept:∀b o,s.heap.get? b=some o->(pushCells ((s.heap.push { cls:=.type "list",data:=.seq ([]:List Value).toArray }).push { cls:=.type "dict",data:=.dict #[] }) scope.names).get? b=some o:=
  λb o e=>pushCells_keeps _ _ b o (Nu _ (Nu _ e))
 have Y:∀x c,(ba X scope C).lookup x=some c->((x,NameKind.cell)∈scope.names/\C+1<=c)\/X.env.cells.lookup x=some c:=λx c e=>by
  rcases EV e with q | q
  ·exact .inl q
  ·exact .inr (I.blkOld S q)
 have oldLt:∀x c,X.env.cells.lookup x=some c->c<s.heap.objs.size:=λx c e=>by
  obtain ⟨v,q⟩:=I.cell x c e;exact q.lt
 have cok:CellsOk (pushCells ((s.heap.push { cls:=.type "list",data:=.seq ([]:List Value).toArray }).push { cls:=.type "dict",data:=.dict #[] }) scope.names) (C+1)
   (cellsFrom (C+1) scope.names []):=by
  have:=cellsFrom_ok scope.names ((s.heap.push { cls:=.type "list",data:=.seq ([]:List Value).toArray }).push { cls:=.type "dict",data:=.dict #[] }) (C+1) [] ⟨λ_ _ hm=>(nomatch hm),List.Pairwise.nil⟩ (by rw [Heap.size_push,A];exact Nv _)
  rw [Heap.size_push,A] at this;exact this
 have lt1:∀{b:Nat},b<s.heap.objs.size->b≠C:=λ{b} h e=>by subst e;rw [<-hC] at h;exact absurd (Nat.lt_of_succ_lt h) (Nat.lt_irrefl _)
 have n:s.heap.objs.size<=C:=by rw [<-hC];exact Nat.le_succ _
 have U:∀x c,(ba X scope C).lookup x=some c->(C<c/\(pushCells ((s.heap.push { cls:=.type "list",data:=.seq ([]:List Value).toArray }).push { cls:=.type "dict",data:=.dict #[] }) scope.names).IsCell c none)\/X.env.cells.lookup x=some c:=λx c e=>by
  rcases Y x c e with ⟨F,P⟩ | q
  ·exact .inl ⟨P,(cok.empty x c (PySem.mem_of_lookup (IQ F e))).1⟩
  ·exact .inr q
 refine ⟨⟨I.ok.mod,S.kind,I.ok.glob,I.ok.blt,n,?_,?_,?_,I.ok.hd,I.ok.frames,.inl rfl,?_,I.bs,Nat.le_trans I.ok.bsz I.sz,?_,?_,I.stack,I.stkFree⟩,rfl,I.bare,?_,?_,?_,?_,?_,λp g=>absurd (show p∈([]:List (Addr×Obj)) from g) (by simp),?_,(IA _ _).trans I.len⟩
 ·-- inj
  intro x y c G hy;refine Ko (λz d q=>?_) (λa b d q E=>I.ok.inj a b d (I.blkOld S q) (I.blkOld S E)) G hy
  exact Nat.lt_succ_of_lt (Nat.lt_of_lt_of_le (oldLt z d (I.blkOld S q)) n)
 ·-- has
  intro x G;have q:((ba X scope C).lookup x).isSome=true:=by
   refine IP ?_
   have G:(relabel scope X.env).names.lookup x=some .cell\/(relabel scope X.env).names.lookup x=some .free:=G
   rcases G with G | G
   ·rcases Eh G with z | ⟨z,_⟩
    ·exact .inl z
    ·exact .inr (Ea (.inl z))
   ·rcases Eh G with z | ⟨z,_⟩
    ·exact .inr (Ea (.inl z))
    ·exact .inr (Ea (.inl z))
  exact Option.isSome_iff_exists.mp q
 ·-- cab
  intro x c G e;have G:(scope.names.any λy=>y.1==x&&y.2==NameKind.cell)=true:=G
  obtain ⟨y,hy,w⟩:=List.any_eq_true.mp G;simp only [Bool.and_eq_true,beq_iff_eq] at w
  have hm:(x,NameKind.cell)∈scope.names:=by rw [<-w.1,<-w.2];exact hy
  rcases EV e with ⟨_,q⟩ | q
  ·exact Nat.le_trans n (Nat.le_of_succ_le q)
  ·rcases J9 q with z | z
   ·exact absurd hm (S.one x z)
   ·cases z
 ·-- exf
  intro b Z;obtain ⟨f0,f1,t,f3,f4,R⟩:=hf b Z;refine ⟨lt1 (L b Z),λx c e z=>?_⟩
  rcases Y x c e with ⟨_,q⟩ | q
  ·subst z
   exact absurd (Nat.lt_of_lt_of_le (L _ Z) n) (Nat.not_lt.mpr (Nat.le_of_succ_le q))
  ·exact f4 x c q z
 ·-- noex
  intro b o e Z;obtain ⟨f0,f1,t,f3,f4,R⟩:=hf b Z;rcases f3 with z | z
  ·exact I.ok.noex b o e z
  ·exact absurd (Nat.lt_of_lt_of_le (Heap.lt_size e) (Nat.le_trans I.ok.bsz z)) (Nat.lt_irrefl _)
 ·-- exfs
  intro b Z z;obtain ⟨f0,f1,t,f3,f4,R⟩:=hf b Z;rcases Nk (I.stkSub b z) with e | e
  ·exact f1 e
  ·exact t e
 ·-- base
  exact Un.laid kept (Nv _) j
 ·-- loc
  refine ⟨λ_=>none,?_,λi x v B e2 M=>?_⟩
  ·have:=(Heap.Ns.new (s.heap.push { cls:=.type "list",data:=.seq ([]:List Value).toArray }) (.type "dict")).keeps (pushCells_keeps scope.names _)
   rw [A] at this;exact this
  ·obtain ⟨hni,e2'⟩:=J7 e2
   obtain ⟨m,hn,N⟩:=id I.loc;have K:(x,NameKind.free)∈scope.names:=by
    have M:(relabel scope X.env).names.lookup x=some .local\/(relabel scope X.env).names.lookup x=some .cell\/(relabel scope X.env).names.lookup x=some .free:=M
    rcases M with z | z | z
    ·rcases Eh z with y | ⟨y,_⟩
     ·exact absurd (S.own i x B (.inl y)) hni
     ·exact y
    ·rcases Eh z with y | ⟨y,_⟩
     ·exact absurd (S.own i x B (.inr y)) hni
     ·exact y
    ·rcases Eh z with y | ⟨y,_⟩
     ·exact y
     ·exact y
   have O:=S.free x K
   obtain ⟨u,r,l⟩:=N i x v B e2' (.inr O)
   refine ⟨u,r,?_⟩
   rcases l with ⟨k,_⟩ | ⟨k,c,e,z⟩
   ·have k:X.env.scope.names.lookup x=some .local:=k
    rcases O with q | q<;>(rw [q] at k;cases k)
   ·refine .inr ⟨?_,c,?_,z.keeps kept⟩
    ·have M:(relabel scope X.env).names.lookup x=some .local\/(relabel scope X.env).names.lookup x=some .cell\/(relabel scope X.env).names.lookup x=some .free:=M
     rcases M with y | y | y
     ·rcases Eh y with y' | ⟨_,y'⟩
      ·exact absurd (S.own i x B (.inl y')) hni
      ·cases y'
     ·exact .inl y
     ·exact .inr y
    ·have q:=Ea (env:=X.env) (acc:=[]) (.inl K)
     obtain ⟨c',f⟩:=Option.isSome_iff_exists.mp q;have:=I.blkOld S f
     rw [e] at this
     cases this;show (ba X scope C).lookup x=some c
     unfold ba;rw [IM (S.one x K)];exact f
 ·-- cell
  intro x c e;rcases U x c e with ⟨_,q⟩ | q
  ·exact ⟨_,q⟩
  ·obtain ⟨v,z⟩:=I.cell x c q
   exact ⟨v,z.keeps kept⟩
 ·-- free
  show aR H s.heap.objs.size (.lst []) C=none
  rw [cb (by rw [<-hC];exact Nat.ne_of_gt (Nat.lt_succ_self _))]
  exact I.hok.fresh n
 ·-- freeC
  intro x c e;show aR H s.heap.objs.size (.lst []) c=none
  rcases U x c e with ⟨q,_⟩ | q
  ·have J:s.heap.objs.size<c:=Nat.lt_of_le_of_lt n q
   rw [cb (Nat.ne_of_gt J)];exact I.hok.fresh (Nat.le_of_lt J)
  ·rw [cb (Nat.ne_of_lt (oldLt x c q))]
   exact I.freeC x c q
 ·-- hok
  exact I.hok.laid kept (Nv _) ⟨Nat.zero_le _,[],0,.nil,pushCells_keeps _ _ _ _ (Nu _ (Heap.get?_push_size _ rfl))⟩
end
section
variable {M:Model} {A:Around} {E:Value->Shared->Prop} {s:Shared}
theorem jB {d:Scope} {a:Addr} {L:List (Str×Addr)} {G:Str} {p:Env} {Q:Env->Shared->Prop}
  (k:Q (newEnv d s.heap.objs.size a (cellsFrom (s.heap.objs.size+1) d.names L) G none .none (some p) builtinsNs) { s with heap:=pushCells (s.heap.push { cls:=.type "dict",data:=.dict #[] }) d.names }) :
  wpAny M A (newFunctionEnv d a L [] G none .none (some p)) Q E s:=by
 simp only [newFunctionEnv,Option.isSome_some,if_true]
 refine Nr (wpAny_alloc ?_)
 refine Nr (wpAny_layCells _ (λc b f=>by cases e:b==NameKind.cell<;>simp [e]) _ _ _ _ ?_)
 rw [show ({ s with heap:=s.heap.push { cls:=.type "dict",data:=.dict #[] } }:Shared).heap.objs.size=s.heap.objs.size+1 from Heap.size_push ..]
 rw [List.forIn_nil];exact Nr (Nt (Nt k))
end
noncomputable def PF (X:Cx) (u:List Expr) (t:TT):Prop:=
 ∀(B:List (Addr×Obj)) (s:Shared) (σ:St) (H:Hp) (Q:Bool->Hp->Prop),Inv X B σ H s->t σ H Q ->
  wpAny (model X.prog X.w) X.A (forIn u true λc r=>if r=true then do let ok <-isTrue c X.env (eval c X.env);pure (ForInStep.yield ok) else pure (ForInStep.yield r)) (TP X B σ Q) X.xe s
noncomputable def gO:TT:=λ_ H Q=>Q true H
theorem JM {X:Cx}:PF X [] gO:=λB s M H Q I h=>wpAny_tests_nil ⟨H,I,h⟩
theorem vy {X:Cx} {c:Expr} {t:TT} (h:PT X c t):PF X [c] t:=λB s M H Q I q=>wpAny_tests_one (h B s M H Q I q)
noncomputable def eo (a:List Nat) (c:TI) (g:TG) (i:TT) (z:TE):TE:=λM H Q=>c M H λJ Z=>∀D,Z D=none->∃W:Nat->Nat->List V->Hp->Prop,(∃m,W 0 m [] (aR Z D (.lst [])))/\∀k m G H,W k m G H ->
 H D=some (.lst G)/\((J.stop k H/\Q (.ref D) H)\/(J.go k H/\G.length<sizeLine/\∀x F,J.yld k H x F->g x (bj a M) F λw j=>LZ (bj a M) w/\i w j λb d=>
  if b=true then z w d λv e=>e D=some (.lst G)/\∃E,E<m/\W (k+1) E (G++[v]) (aR e D (.lst (G++[v]))) else ∃E,E<m/\W (k+1) E G d))
section
variable {X:Cx} {scope:Scope} {is:List Nat} {tg iter elt:Expr} {ifs:List Expr} {wi:TI} {g:TG} {tc:TT} {te:TE} {pos:Pos}
theorem kG {B:List (Addr×Obj)} {s:Shared} {M:St} {H:Hp} {Q:VK} {RR:Value->Addr->Result->Shared->Prop} (S:dy X.N is X.env.scope scope) (K:X.calm=true) (l:PI X tg iter wi)
  (E:∀f C t w P,PG (blk X scope f C t w P) tg g) (hc:∀f C t w P,PF (blk X scope f C t w P) ifs tc) (he:∀f C t w P,PE (blk X scope f C t w P) elt te)
  (I:Inv X B M H s) (h:eo is wi g tc te M H Q)
  (hRR:∀D C s' F m,Inv X B M F s'->s'.heap.Ns C m->Q (.ref D) F->F C=none->C≠X.env.locals->X.s₀.heap.objs.size<=C->(∀x c,X.env.cells.lookup x=some c->c≠C)->(∀p∈X.pn++B,p.1≠C)->RR (.ref D) C (.ok .next) s') :
  wpAny (model X.prog X.w) X.A (eval iter X.env) (λx s₁=>wpAny (model X.prog X.w) X.A (pyIter x) (λL O=>wpAny (model X.prog X.w) X.A (newList []) (λacc Y=>
   wpAny (model X.prog X.w) X.A (newFunctionEnv scope X.env.globals (cA X.env scope.names []) [] X.env.qual none .none (some X.env)) (λcenv s₄=>
    codeAny (model X.prog X.w) X.A (.compStart (.ListComp elt [⟨tg,iter,ifs,0⟩] scope pos) 0 L acc { cenv with scope:=relabel scope X.env }) (RR acc cenv.locals) s₄) X.xe Y) X.xe O) X.xe s₁) X.xe s:=by
 refine bt (l B s M H _ I h) λv s1 R=>bt R λitv N h2=>?_
 obtain ⟨L,a,tn,J,j,e,i,T,st2,f2,hW⟩:=h2;subst e;obtain ⟨W,⟨m0,w0⟩,turn⟩:=hW N.heap.objs.size (i.hok.fresh (Nv _));refine wpAny_newObj_type (jB ?_)
 have s1:(N.heap.push { cls:=.type "list",dict:=none,data:=.seq ([]:List Value).toArray }).objs.size=N.heap.objs.size+1:=by rw [Heap.size_push]
 dsimp only;rw [s1];have hfs:∀b∈a,b<N.heap.objs.size:=λb Z=>by
  obtain ⟨o,e,_⟩:=T.obj 0 _ st2 b Z;exact Heap.lt_size e
 have I4:=i.block (t':=N.toks) S f2 hfs
 generalize hCC:N.heap.objs.size+1=C at I4 ⊢
 have hDC:N.heap.objs.size<C:=by rw [<-hCC];exact Nat.lt_succ_self _
 have Hg:=E (ba X scope C) C N j a
 have Hc:=hc (ba X scope C) C N j a
 have He:=he (ba X scope C) C N j a
 have Ha:=IE (X:=blk X scope (ba X scope C) C N j a)
 have hYcell:∀x c,(blk X scope (ba X scope C) C N j a).env.cells.lookup x=some c->N.heap.objs.size<=c\/X.env.cells.lookup x=some c:=λx c e=>by
  have e:(cellsFrom (C+1) scope.names (cA X.env scope.names [])).lookup x=some c:=e
  rcases EV e with ⟨_,q⟩ | q
  ·exact .inl (Nat.le_trans (Nat.le_of_lt hDC) (Nat.le_of_succ_le q))
  ·exact .inr (i.blkOld S q)
 have FY:∀{F:Hp},(∀b∈a,F b=none)->∀b∈a,jS (blk X scope (ba X scope C) C N j a) [] F b:=λ{F} hn b Z=>by
  obtain ⟨f0,f1,f3,f4,f5,f6⟩:=f2 b Z;refine ⟨hn b Z,Nat.ne_of_lt (Nat.lt_trans (hfs b Z) hDC),λz=>?_,.inl Z,λx c e z=>?_,λp hp=>absurd (show p∈([]:List (Addr×Obj)) from hp) (by simp)⟩
  ·rcases Nk (i.stkSub b z) with e | e
   ·exact f1 e
   ·exact f3 e
  ·rcases hYcell x c e with q | q
   ·rw [z] at q
    exact absurd (Nat.lt_of_lt_of_le (hfs b Z) q) (Nat.lt_irrefl _)
   ·exact f5 x c q z
 have hCx:∀x c,X.env.cells.lookup x=some c->c≠C:=λx c e z=>by
  obtain ⟨v,q⟩:=i.cell x c e;have:=q.lt
  rw [z] at this;exact absurd (Nat.lt_trans this hDC) (Nat.lt_irrefl _)
 have hCp:∀p∈X.pn++B,p.1≠C:=λp hp z=>by
  have:=Heap.lt_size (i.pin p hp).1
  rw [z] at this;exact absurd (Nat.lt_trans this hDC) (Nat.lt_irrefl _)
 have out:∀{A:St} {F:Hp} {s':Shared},Inv (blk X scope (ba X scope C) C N j a) [] A F s'->Inv X B M F s':=λ{A F s'} J=>
  i.call' (ch:=a) J.os J.base J.hok J.bare λb Z=>by
   obtain ⟨f0,f1,f3,f4,f5,f6⟩:=f2 b Z;exact ⟨f4,f1,f5,f6⟩
 have loop:∀Y:Shared,Y={ N with heap:=pushCells ((N.heap.push { cls:=.type "list",data:=.seq ([]:List Value).toArray }).push { cls:=.type "dict",data:=.dict #[] }) scope.names } ->
   codeAny (model X.prog X.w) X.A (.compLoop (.ListComp elt [⟨tg,iter,ifs,0⟩] scope pos) 0 (.ref L) (.ref N.heap.objs.size) (blk X scope (ba X scope C) C N j a).env) (RR (.ref N.heap.objs.size) C) Y:=by
  rintro Y rfl
  refine lV (λn s'=>∃k G F,Inv (blk X scope (ba X scope C) C N j a) [] (bj is M) F s'/\tn k s'.heap/\(∀b∈a,F b=none)/\W k n G F) ?_ m0
   ⟨0,[],_,I4,T.keep 0 _ _ st2 λb _ o e=>pushCells_keeps _ _ b o (Nu _ (Nu _ e)),λb Z=>by rw [cb (Nat.ne_of_lt (hfs b Z))];exact (f2 b Z).1,w0⟩
  rintro n s3 ⟨k,G,H3,I3,st3,fr3,w3⟩
  obtain ⟨hD3,hcase⟩:=turn k n G H3 w3;rcases hcase with ⟨stop,qn⟩ | ⟨go,hlen,step⟩
  ·refine bt (T.done (blk X scope (ba X scope C) C N j a) rfl rfl rfl K k [] s3 (bj is M) H3 zK I3 (FY fr3) st3 stop) λr U ⟨hr,I4⟩=>?_
   subst hr;obtain ⟨m,hn,_⟩:=id I4.loc;exact hRR _ C U H3 m (out I4) hn qn I4.free (λz=>Nat.lt_irrefl _ (Nat.lt_trans (Nat.lt_of_lt_of_eq hDC z) i.lt)) (Nat.le_trans i.sz (Nat.le_of_lt hDC)) hCx hCp
  ·refine bt (T.item (blk X scope (ba X scope C) C N j a) rfl rfl rfl K k [] s3 (bj is M) H3 zK I3 (FY fr3) st3 go) λr U ⟨u,hr,h4⟩=>?_
   subst hr;refine bt h4 λ_ s5 ⟨x,H5,I5,r5,y5,st5,fr5⟩=>?_
   have I5':=I5.pinned (FY fr5) (T.obj _ _ st5)
   refine bt (Hg _ s5 (bj is M) H5 x u _ I5' r5 (step x H5 y5)) λ_ s6 ⟨σ6,H6,I6,le6,q6⟩=>?_
   refine bt (Hc _ s6 σ6 H6 _ I6 q6) λok s7 ⟨H7,I7,q7⟩=>?_
   have again:∀{H8:Hp} {s8:Shared} {ys':List V},Inv (blk X scope (ba X scope C) C N j a) ([]++iH a s5.heap) σ6 H8 s8->(∃m',m'<n/\W (k+1) m' ys' H8) ->
     ∃m,m<n/\∃k G F,Inv (blk X scope (ba X scope C) C N j a) [] (bj is M) F s8/\tn k s8.heap/\(∀b∈a,F b=none)/\W k m G F:=λ{H8 s8 ys'} I8 ⟨m',hm,w8⟩=>by
    refine ⟨m',hm,k+1,ys',H8,(I8.weak le6.1.symm le6.2).unpinned,T.keep _ _ _ st5 λb Z o e=>(I8.pin (b,o) (Nh _ (Nh _ (IS Z e)))).1,λb Z=>?_,w8⟩
    obtain ⟨o,e,d⟩:=T.obj _ _ st5 b Z;exact (I8.pin (b,o) (Nh _ (Nh _ (IS Z e)))).2.1
   cases ok with
   | false=>
    rw [if_neg Bool.false_ne_true] at q7;exact again I7 q7
   | true=>
    rw [if_pos rfl] at q7;refine bt (He _ s7 σ6 H7 _ I7 q7) λy s8 ⟨v8,H8,I8,r8,q8⟩=>?_
    obtain ⟨hD8,q8⟩:=q8;refine bt (Ha _ s8 σ6 H8 (.ref N.heap.objs.size) [v8] (.ref N.heap.objs.size) [y] (λ_ H9=>∃m',m'<n/\W (k+1) m' (G++[v8]) H9) I8 rfl (.cons r8 .nil) ⟨_,G,v8,rfl,rfl,hD8,hlen,q8⟩) λ_ s9 ⟨_,H9,I9,_,q9⟩=>?_
    exact again I9 q9
 exact codeAny_compStart_list (loop _ rfl) (T.self X.A 0 _ _ _ (T.keep 0 _ _ st2 λb _ o e=>pushCells_keeps _ _ b o (Nu _ (Nu _ e))) (loop _ rfl))
theorem J0 (S:dy X.N is X.env.scope scope) (K:X.calm=true) (l:PI X tg iter wi)
  (E:∀f C t w P,PG (blk X scope f C t w P) tg g) (J:∀f C t w P,PF (blk X scope f C t w P) ifs tc) (R:∀f C t w P,PE (blk X scope f C t w P) elt te)
  (Y:∀x,foldedSetIterable iter X.env x=pure x:=by intro _;rfl):PE X (.ListComp elt [⟨tg,iter,ifs,0⟩] scope pos) (eo is wi g tc te):=by
 intro B s M H Q I h;rw [eval_ListComp];refine wpAny_comprehension_free (use:=none) rfl Y (gm (I.freeCells S)) S.kind S.loc (kG (RR:=λa C=>compPost (model X.prog X.w) X.A X.xe none (EP X B M Q) a C) S K l E J R I h ?_)
 intro D C j F m z y q k u c d A
 refine ⟨m,y,λU L=>?_⟩
 exact ⟨.ref D,F,z.turned (t':=j.toks) (λb o Z e=>(L.2 b Z).trans e) k u (.inr c) d A,rfl,q⟩
theorem iG {i:Nat} {y:Str} {r p:Pos} (O:X.N.Nodup) (hy:X.N[i]?=some y) (N:X.env.scope.names.lookup y=some .local) (S:dy X.N is X.env.scope scope) (K:X.calm=true) (l:PI X tg iter wi)
  (E:∀f C t w P,PG (blk X scope f C t w P) tg g) (J:∀f C t w P,PF (blk X scope f C t w P) ifs tc) (R:∀f C t w P,PE (blk X scope f C t w P) elt te)
  (hsw:swapsWith (.ListComp elt [⟨tg,iter,ifs,0⟩] scope pos) (some (.Name y r)) p.line X.env=pure true)
  (Y:∀x,foldedSetIterable iter X.env x=pure x:=by intro _;rfl):PS X (.Assign [.Name y r] (.ListComp elt [⟨tg,iter,ifs,0⟩] scope pos) p) (λD M H=>eo is wi g tc te M H λv F=>D.nx (M.set i (some v)) F):=by
 intro B s M H Ds I h;rw [exec_Assign_Name_used _ _ _ _ hsw];refine Nr (wpAny_standAt (Nr ?_))
 show wpAny _ X.A (do let _ <-comprehension (.ListComp elt [⟨tg,iter,ifs,0⟩] scope pos) scope X.env _ (newList []) false (eval iter X.env) (some (assign (.Name y r) X.env))) _ _ s
 refine Nr (wpAny_mono (wpAny_comprehension_free (use:=some (assign (.Name y r) X.env)) (Q:=λ_ j=>SP X B Ds .next j) rfl Y (gm (I.freeCells S)) S.kind S.loc
  (kG (RR:=λacc C=>compPost (model X.prog X.w) X.A X.xe (some (assign (.Name y r) X.env)) (λ_ j=>SP X B Ds .next j) acc C) S K l E J R I h ?_)) (λ_ j n=>Nt (Nt n)) λ_ _ e=>e)
 intro D C j F m z hn q k u n3 d A
 show wpAny _ X.A (assign (.Name y r) X.env (.ref D)) _ _ _
 refine wpAny_assign_Name (j7 (v:=.ref D) z O hy (.inl N) rfl (λc G hch=>?_) (.inr N))
 obtain ⟨a,hsb,U⟩:=hch;have hCa:C≠a:=by
  rcases U with e | e
  ·rw [e];exact u
  ·exact (d y a e).symm
 refine ⟨m,hn.sameBut hsb hCa,λh' L=>?_⟩
 exact ⟨_,F,G.turned (t':=c.toks) (λb o Z e=>(L.2 b Z).trans e) k u (.inr n3) d A,q⟩
end
end L2
namespace T
open PySem PySem.Spec L2
open PyProof.Rows hiding St
abbrev D:=PyData
inductive Rep (K:Fg) (H:Hp):V->D->Prop where
 | non:Rep K H .non .none
 | bl (b:Bool):Rep K H (.bl b) (.bool b)
 | int (i:Int):Rep K H (.int i) (.int i)
 | str (x:Str):Rep K H (.str x) (.str x)
 | lst {p:Addr} {vs:List V} {ds:List D}:SqL K H p vs->vs.length=ds.length->(∀(i:Nat) v d,vs[i]?=some v->ds[i]?=some d->Rep K H v d)->Rep K H (.ref p) (.list ds)
 | tup {p:Addr} {vs:List V} {ds:List D}:SqT K H p vs->vs.length=ds.length->(∀(i:Nat) v d,vs[i]?=some v->ds[i]?=some d->Rep K H v d)->Rep K H (.ref p) (.tuple ds)
theorem bB {K:Fg} {H F:Hp} {a:Addr} {Y:List V} (e:Same H F) (h:SqT K H a Y):SqT K F a Y:=by
 rcases h with (h | ⟨o,h⟩) | h
 ·exact .inl (.inl (e _ _ h))
 ·exact .inl (.inr ⟨o,e _ _ h⟩)
 ·exact .inr h
theorem Rep.mono {K:Fg} {H F:Hp} {v:V} {d:D} (e:Same H F) (h:Rep K H v d):Rep K F v d:=by
 induction h with
 | non=>exact .non
 | bl b=>exact .bl b
 | int i=>exact .int i
 | str x=>exact .str x
 | lst Y N _ f=>exact .lst (e.seq Y) N f
 | tup Y N _ f=>exact .tup (bB e Y) N f
noncomputable def Reps (K:Fg) (H:Hp) (L:List V) (N:List D):Prop:=L.length=N.length/\∀(i:Nat) v d,L[i]?=some v->N[i]?=some d->Rep K H v d
noncomputable def aS (H:Hp) (O:List Addr):Hp:=λa=>if a∈O then none else H a
theorem hid_le {H:Hp} {O:List Addr}:Same (aS H O) H:=λb o h=>by
 unfold aS at h;split at h
 ·cases h
 ·exact h
theorem qb {H:Hp} {O:List Addr} {a:Addr} {o:HO} (h:H a=some o) (n:a∉O):aS H O a=some o:=by
 unfold aS;rw [if_neg n];exact h
theorem fF {H F:Hp} {O O':List Addr} (e:Same H F) (h:∀a∈O',a∈O\/H a=none):Same (aS H O) (aS F O'):=λb o q=>by
 unfold aS at q ⊢
 split at q
 ·cases q
 ·rename_i y
  have Z:b∉O':=λz=>(h b z).elim y λz=>by rw [z] at q;cases q
  rw [if_neg Z];exact e b o q
theorem hid_upd {H:Hp} {O:List Addr} {p:Addr} {o:HO} (h:p∈O):aS (aR H p o) O=aS H O:=by
 funext b
 unfold aS;split
 ·rfl
 ·rename_i Z
  exact cb λe=>Z (e▸h)
theorem rA {H:Hp}:aS H []=H:=by
 funext b;unfold aS;simp
theorem dH {H:Hp} {p:Addr} {o:HO} (h:H p=none):Same H (aR H p o):=λb u e=>by
 rw [cb (xD e h)];exact e
inductive Sh where
 | view | leaf | lst (s:Sh) | tup (ss:List Sh)
noncomputable def Sh.isView:Sh->Bool
 | .view=>true
 | _=>false
inductive Own (K:Fg) (O:List Addr) (H:Hp):Sh->List Addr->V->D->Prop where
 | view {v d}:Rep K H v d->Own K O H .view [] v d
 | leaf {v d}:Rep K (aS H O) v d->Own K O H .leaf [] v d
 | lst {s:Sh} {p:Addr} {vs:List V} {ds:List D} {Fs:List (List Addr)}:s.isView=false->H p=some (.lst vs)->vs.length=ds.length->Fs.length=ds.length->(p::Fs.flatten).Nodup ->
   (∀(i:Nat) v d F,vs[i]?=some v->ds[i]?=some d->Fs[i]?=some F->Own K O H s F v d)->Own K O H (.lst s) (p::Fs.flatten) (.ref p) (.list ds)
 | tup {ss:List Sh} {p:Addr} {vs:List V} {ds:List D} {Fs:List (List Addr)}:(∀s∈ss,s.isView=false)->H p=some (.tup vs)->p∉O->vs.length=ds.length->Fs.length=ds.length->ss.length=ds.length->Fs.flatten.Nodup ->
   (∀(i:Nat) v d F s,vs[i]?=some v->ds[i]?=some d->Fs[i]?=some F->ss[i]?=some s->Own K O H s F v d)->Own K O H (.tup ss) Fs.flatten (.ref p) (.tuple ds)
theorem Own.mono {K:Fg} {O O':List Addr} {H b:Hp} {s:Sh} {G:List Addr} {v:V} {d:D} (h:Own K O H s G v d) (e:Same H b) (B:∀a∈O',a∈O\/H a=none):Own K O' b s G v d:=by
 induction h with
 | view r=>exact .view (r.mono e)
 | leaf r=>exact .leaf (r.mono (fF e B))
 | lst P g N m J _ f=>exact .lst P (e _ _ g) N m J λi v d F R C n=>f i v d F R C n
 | tup P g y N m Y J _ f=>exact .tup P (e _ _ g) (λz=>(B _ z).elim y λz=>by rw [z] at g;cases g) N m Y J λi v d F s R C n c=>f i v d F s R C n c
theorem Own.rep {K:Fg} {O:List Addr} {H:Hp} {s:Sh} {G:List Addr} {v:V} {d:D} (h:Own K O H s G v d):Rep K H v d:=by
 induction h with
 | view r=>exact r
 | leaf r=>exact r.mono hid_le
 | lst P g N m _ q f=>
  refine .lst (.of g) N λi v d R C=>?_
  rename_i t _;obtain ⟨F,c⟩:∃F,t[i]?=some F:=by
   have:=(Nq C).1
   exact ⟨t[i]'(by omega),Nl _⟩
  exact f i v d F R C c
 | tup P g y N m Y _ q f=>
  refine .tup (.of g) N λi v d R C=>?_
  rename_i u _ _ _ t _;have l:=(Nq C).1
  exact f i v d (t[i]'(by omega)) (u[i]'(by omega)) R C (Nl _) (Nl _)
theorem oI {t:List (List Addr)} {i:Nat} {F:List Addr} {a:Addr} (h:t[i]?=some F) (U:a∈F):a∈t.flatten:=List.mem_flatten.mpr ⟨F,mem_of_getElem? h,U⟩
theorem Own.freeze {K:Fg} {O O':List Addr} {H:Hp} {s:Sh} {G:List Addr} {v:V} {d:D} (h:Own K O H s G v d) (Y:s.isView=false) (R:∀a∈O',a∈O) (C:∀a∈G,a∉O'):Rep K (aS H O') v d:=by
 induction h with
 | view r=>cases Y
 | leaf r=>exact r.mono (fF (Same.refl _) λa z=>.inl (R a z))
 | lst P g N b _ q f=>
  refine .lst (.of (qb g (C _ mem_cons_self))) N λi v d B m=>?_
  rename_i t _;obtain ⟨F,c⟩:∃F,t[i]?=some F:=by
   have:=(Nq m).1
   exact ⟨t[i]'(by omega),Nl _⟩
  exact f i v d F B m c P λa U=>C a (Nn _ (oI c U))
 | tup P g y N b L _ q f=>
  refine .tup (.of (qb g λz=>y (R _ z))) N λi v d B m=>?_
  rename_i u _ _ _ t _;have l:=(Nq m).1
  have M:t[i]?=some (t[i]'(by omega)):=Nl _
  exact f i v d _ (u[i]'(by omega)) B m M (Nl _) (P _ (getElem_mem _)) λa U=>C a (oI M U)
theorem Own.mut {K:Fg} {O:List Addr} {H:Hp} {s:Sh} {G:List Addr} {v:V} {d:D} {p:Addr} {o:HO} {Y:List V} (h:Own K O H s G v d) (c:s.isView=false) (g:p∈O) (E:p∉G) (N:H p=some (.lst Y)):Own K O (aR H p o) s G v d:=by
 induction h with
 | view r=>cases c
 | leaf r=>refine .leaf ?_;rw [hid_upd g];exact r
 | lst P n a b J q f=>
  refine .lst P ?_ a b J λi v d F B m M=>f i v d F B m M P λz=>E (Nn _ (oI M z))
  rw [cb (λz=>E (by rw [<-z];exact mem_cons_self))]
  exact n
 | tup P n y a b L J q f=>
  refine .tup P ?_ y a b L J λi v d F s B m M R=>f i v d F s B m M R (P _ (mem_of_getElem? R)) λz=>E (oI M z)
  rw [cb (λz=>by rw [z,N] at n;cases n)]
  exact n
inductive Sc:V->D->Prop where
 | non:Sc .non .none
 | bl (b:Bool):Sc (.bl b) (.bool b)
 | int (i:Int):Sc (.int i) (.int i)
 | str (x:Str):Sc (.str x) (.str x)
theorem Sc.rep {K:Fg} {H:Hp} {v:V} {d:D} (h:Sc v d):Rep K H v d:=by cases h<;>constructor
noncomputable def bD:D->Bool
 | .list _=>false
 | .tuple _=>false
 | .dict _=>false
 | _=>true
theorem Rep.sc {K:Fg} {H:Hp} {v:V} {d:D} (h:Rep K H v d) (s:bD d=true):Sc v d:=by
 cases h with
 | non=>exact .non
 | bl b=>exact .bl b
 | int i=>exact .int i
 | str x=>exact .str x
 | lst _ _ _=>cases s
 | tup _ _ _=>cases s
structure PV where
 s:Sh
 d:D
abbrev Ev:=List (Option PV)
@[simp] abbrev Nx (d:PySem.PyData):Option PV:=some ⟨.leaf,d⟩
inductive Out (α:Type) where
 | ok (a:α) (e:Ev)
 | er (c:Str) (e:Ev)
 | no
noncomputable def Out.bind {u d:Type} (x:Out u) (k:u->Ev->Out d):Out d:=match x with
 | .ok a e=>k a e
 | .er c e=>.er c e
 | .no=>.no
structure EnvOk (K:Fg) (He:Hp) (O:List Addr) (Fs:List (List Addr)) (H:Hp) (σ:St) (Γ:Ev):Prop where
 len1:σ.length=Γ.length
 len2:Fs.length=Γ.length
 same:Same He H
 nd:(O++Fs.flatten).Nodup
 inH:∀a∈O++Fs.flatten,H a≠none
 fresh:∀a∈Fs.flatten,He a=none
 slot:∀(i:Nat) (p:PV),Γ[i]?=some (some p)->p.s.isView=false/\∃v F,σ[i]?=some (some v)/\Fs[i]?=some F/\Own K (O++Fs.flatten) H p.s F v p.d
section
variable {K:Fg} {He H H':Hp} {O O' G:List Addr} {Fs:List (List Addr)} {σ:St} {Γ:Ev}
theorem EnvOk.grow (h:EnvOk K He O Fs H σ Γ) (e:Same H H'):EnvOk K He O Fs H' σ Γ:=
 ⟨h.len1,h.len2,h.same.trans e,h.nd,λa U z=>h.inH a U (e.free z),h.fresh,λi p q=>let ⟨a,v,F,b,c,d⟩:=h.slot i p q;⟨a,v,F,b,c,d.mono e λ_ z=>.inl z⟩⟩
theorem EnvOk.drop (h:EnvOk K He O Fs H σ Γ) (Y:∀a∈O',a∈O) (J:O'.Nodup):EnvOk K He O' Fs H σ Γ:=by
 obtain ⟨k,u,w⟩:=Np h.nd;refine ⟨h.len1,h.len2,h.same,List.nodup_append.mpr ⟨J,u,λa U b Z=>w a (Y a U) b Z⟩,λa U=>h.inH a ?_,h.fresh,λi p q=>let ⟨a,v,F,b,c,d⟩:=h.slot i p q;⟨a,v,F,b,c,d.mono (Same.refl _) λa z=>.inl ?_⟩⟩
 ·rcases Nj U with z | z
  ·exact Ni _ (Y a z)
  ·exact Nh _ z
 ·rcases Nj z with z | z
  ·exact Ni _ (Y a z)
  ·exact Nh _ z
theorem EnvOk.dropL (h:EnvOk K He (G++O) Fs H σ Γ):EnvOk K He O Fs H σ Γ:=h.drop (λa z=>Nh _ z) (Np (Np h.nd).1).2.1
theorem EnvOk.hide (h:EnvOk K He O Fs H σ Γ) (e:Same H H') (J:G.Nodup) (y:∀a∈G,H a=none) (l:∀a∈G,H' a≠none):EnvOk K He (G++O) Fs H' σ Γ:=by
 refine ⟨h.len1,h.len2,h.same.trans e,?_,λa U=>?_,h.fresh,λi p q=>let ⟨a,v,F,b,c,d⟩:=h.slot i p q;⟨a,v,F,b,c,d.mono e λa z=>?_⟩⟩
 ·rw [append_assoc]
  exact List.nodup_append.mpr ⟨J,h.nd,λa U b Z z=>h.inH b Z (by rw [<-z];exact y a U)⟩
 ·rw [append_assoc] at U
  rcases Nj U with z | z
  ·exact l a z
  ·exact λq=>h.inH a z (e.free q)
 ·rw [append_assoc] at z
  rcases Nj z with z | z
  ·exact .inr (y a z)
  ·exact .inl z
end
structure Aft (K:Fg) (He:Hp) (O:List Addr) (Fs:List (List Addr)) (H:Hp) (σ:St) (Γ':Ev) (p:PV) (v:V) (H':Hp) (G:List Addr) (Fs':List (List Addr)):Prop where
 same:Same H H'
 env:EnvOk K He (G++O) Fs' H' σ Γ'
 new:∀a∈G++Fs'.flatten,a∈Fs.flatten\/H a=none
 own:Own K (G++O++Fs'.flatten) H' p.s G v p.d
abbrev XW:=Str->St->Hp->Prop
abbrev F1:=Ev->Out PV
noncomputable def tE (K:Fg) (W:XW) (f:F1):TE:=λM H Q=>∃a O t B,EnvOk K a O t H M B/\match f B with
 | .ok p I=>∀v F G y,Aft K a O t H M I p v F G y->Q v F
 | .er c I=>∀F y,Same H F->EnvOk K a O y F M I->W c M F
 | .no=>False
noncomputable def Wants (K:Fg) (W:XW) (f:Hp) (O:List Addr) (t:List (List Addr)) (H:Hp) (M:St) (Q:VK) (o:Out PV):Prop:=match o with
 | .ok p I=>∀v F G y,Aft K f O t H M I p v F G y->Q v F
 | .er c I=>∀F y,Same H F->EnvOk K f O y F M I->W c M F
 | .no=>False
section
variable {K:Fg} {W:XW} {He H:Hp} {O:List Addr} {Fs:List (List Addr)} {σ:St} {Γ Γ':Ev} {Q:VK}
theorem Wants.scal {j:Hp} {b:List Addr} {l:List (List Addr)} {v:V} {d:D} (h:Wants K W He O Fs H σ Q (.ok ⟨.leaf,d⟩ Γ')) (s:Sc v d) (e:Same H j) (E:EnvOk K He b l j σ Γ')
  (B:∀a∈O,a∈b) (J:O.Nodup) (L:∀a∈l.flatten,a∈Fs.flatten\/H a=none):Q v j:=
 h v j [] l ⟨e,by rw [nil_append];exact E.drop B J,by rw [nil_append];exact L,.leaf s.rep⟩
theorem EnvOk.ndO (E:EnvOk K He O Fs H σ Γ):O.Nodup:=(Np E.nd).1
end
noncomputable def aY {d:Type} (f:F1) (k:PV->Ev->Out d):Ev->Out d:=λB=>(f B).bind k
section
variable {K:Fg} {W:XW} {σ:St} {H:Hp} {Q:VK} {fa fb:F1}
theorem Ih {k:PV->F1} {R:VK} (h:tE K W (aY fa k) σ H Q)
  (a:∀f O t X p v Z G Y,O.Nodup->Aft K f O t H σ X p v Z G Y->Wants K W f O t H σ Q (k p X)->R v Z):tE K W fa σ H R:=by
 obtain ⟨f,O,t,B,E,h⟩:=h;refine ⟨f,O,t,B,E,?_⟩
 unfold aY at h
 cases e:fa B with
 | ok p X=>
  rw [e] at h;exact λv F G y A=>a f O t X p v F G y E.ndO A h
 | er c X=>
  rw [e] at h;exact h
 | no=>
  rw [e] at h;exact h
theorem D0 {k:PV->PV->F1} {R:V->V->Hp->Prop} (h:tE K W (aY fa λp=>aY fb λq=>k p q) σ H Q)
  (m:∀f O t o p q v u Z j P G l,O.Nodup->Same H Z->Same Z j->EnvOk K f (G++(P++O)) l j σ o->(∀a∈G++(P++l.flatten),a∈t.flatten\/H a=none) ->
   Own K (G++(P++O)++l.flatten) j p.s P v p.d->Own K (G++(P++O)++l.flatten) j q.s G u q.d->Wants K W f O t H σ Q (k p q o)->R v u j) :
  tE K W fa σ H λv Z=>tE K W fb σ Z λu j=>R v u j:=by
 refine Ih (k:=λp=>aY fb λq=>k p q) h λf O t X p v Z P i J g b=>?_
 refine ⟨f,P++O,i,X,g.env,?_⟩
 unfold aY at b
 cases e:fb X with
 | ok q o=>
  rw [e] at b;intro u j G l d;have L:∀a∈G++(P++l.flatten),a∈t.flatten\/H a=none:=λa U=>by
   have up:a∈P++i.flatten->a∈t.flatten\/H a=none:=g.new a
   rcases Nj U with z | z
   ·rcases d.new a (Ni _ z) with y | y
    ·exact up (Nh _ y)
    ·exact .inr (g.same.free y)
   ·rcases Nj z with z | z
    ·exact up (Ni _ z)
    ·rcases d.new a (Nh _ z) with y | y
     ·exact up (Nh _ y)
     ·exact .inr (g.same.free y)
  refine m f O t o p q v u Z j P G l J g.same d.same d.env L (g.own.mono d.same λa U=>?_) d.own b
  rcases Nj U with z | z
  ·rcases Nj z with z | z
   ·rcases d.new a (Ni _ z) with y | y
    ·exact .inl (Nh _ y)
    ·exact .inr y
   ·exact .inl (Ni _ z)
  ·rcases d.new a (Nh _ z) with y | y
   ·exact .inl (Nh _ y)
   ·exact .inr y
 | er c o=>
  rw [e] at b;intro j l Y I;exact b j l (g.same.trans Y) I.dropL
 | no=>
  rw [e] at b;exact b
end
section
variable {X:Cx} {e:Expr}
theorem bh {t O:TE} (h:PE X e t) (i:∀M H Q,O M H Q->t M H Q):PE X e O:=λB s M H Q I q=>h B s M H Q I (i M H Q q)
theorem rX {t O:TT} (h:PT X e t) (i:∀M H Q,O M H Q->t M H Q):PT X e O:=λB s M H Q I q=>h B s M H Q I (i M H Q q)
theorem AL {t O:TT} (h:PW X e t) (i:∀M H Q,O M H Q->t M H Q):PW X e O:=λf B s M H Q I q=>h f B s M H Q I (i M H Q q)
theorem AM {j:List Expr} {t O:TA} (h:PA X j t) (i:∀M H Q,O M H Q->t M H Q):PA X j O:=λK B s M H Q I q=>h K B s M H Q I (i M H Q q)
theorem je {st:Stmt} {t O:TS} (h:PS X st t) (i:∀D M H,O D M H->t D M H):PS X st O:=λB s M H D I q=>h B s M H D I (i D M H q)
theorem Jn {st:List Stmt} {t O:TS} (h:PSs X st t) (i:∀D M H,O D M H->t D M H):PSs X st O:=λB s M H D I q=>h B s M H D I (i D M H q)
theorem HM {j:List Expr} {t O:TT} (h:PF X j t) (i:∀M H Q,O M H Q->t M H Q):PF X j O:=λB s M H Q I q=>h B s M H Q I (i M H Q q)
end
theorem Km {h:Heap}:∀{L:List V} {its:List Value} {ds:List D},Vals L its->L.length=ds.length->(∀(i:Nat) v d,L[i]?=some v->ds[i]?=some d->∀u,RelV v u->∃E,Reads h u d E)->∃E,ReadsAll h its ds E
 | _,_,[],.nil,_,_=>⟨_,.nil⟩
 | _,_,d::ds,.cons (a:=v) (b:=u) r t,hl,h=>by
  obtain ⟨E,l⟩:=h 0 v d rfl rfl u r;obtain ⟨bs,m⟩:=Km t (by simpa using hl) λi v d R C=>h (i+1) v d (by simpa using R) (by simpa using C)
  exact ⟨_,.cons l m⟩
 | _,_,[],.cons _ _,hl,_=>by simp at hl
 | _,_,_::_,.nil,hl,_=>by simp at hl
theorem Rep.reads {X:Cx} {B:List (Addr×Obj)} {M:St} {H:Hp} {s:Shared} {x:V} {d:D} (I:Inv X B M H s) (r:Rep X.K H x d):∀u,RelV x u->∃E,Reads s.heap u d E:=by
 induction r with
 | non=>rintro u rfl;exact ⟨_,.none⟩
 | bl b=>rintro u rfl;exact ⟨_,.bool b⟩
 | int i=>rintro u ⟨t,rfl⟩;exact ⟨_,.int i t⟩
 | str x=>rintro u ⟨t,rfl⟩;exact ⟨_,.str x t⟩
 | lst e N _ f=>
  rintro u rfl
  obtain ⟨g,c,⟨o,n,a,m,h,R⟩,_⟩:=I.list e;obtain ⟨E,l⟩:=Km c N f;exact ⟨_,.list a m R (by simpa using l)⟩
 | tup e N _ f=>
  rintro u rfl
  obtain ⟨g,c,⟨o,a,m,n,R⟩,_⟩:=I.tuple e;obtain ⟨E,l⟩:=Km c N f;exact ⟨_,.tuple a m R (by simpa using l)⟩
theorem rZ {u:Type} {F G:List u}:∀{Fs:List (List u)} {i:Nat},Fs[i]?=some F->(F++(Fs.set i G).flatten).Perm (G++Fs.flatten)
 | [],_,h=>by simp at h
 | A::r,0,h=>by
  simp at h
  subst h;simp only [List.set_cons_zero,flatten_cons]
  rw [<-append_assoc,<-append_assoc];exact List.Perm.append_right _ perm_append_comm
 | A::r,i+1,h=>by
  have f:=rZ (G:=G) (Fs:=r) (i:=i) (by simpa using h)
  simp only [List.set_cons_succ,flatten_cons]
  calc (F++(A++(r.set i G).flatten)).Perm (A++(F++(r.set i G).flatten)):=by
        rw [<-append_assoc,<-append_assoc];exact List.Perm.append_right _ perm_append_comm
    _ |>.Perm (A++(G++r.flatten)):=List.Perm.append_left _ f
    _ |>.Perm (G++(A++r.flatten)):=by
        rw [<-append_assoc,<-append_assoc];exact List.Perm.append_right _ perm_append_comm
section
variable {K:Fg} {He H:Hp} {O G:List Addr} {Fs:List (List Addr)} {σ:St} {Γ:Ev}
theorem EnvOk.lt (E:EnvOk K He O Fs H σ Γ) {i:Nat} (h:i<Γ.length):∃F,Fs[i]?=some F:=⟨Fs[i]'(by rw [E.len2];exact h),Nl _⟩
theorem EnvOk.move {i:Nat} {p:PV} (E:EnvOk K He O Fs H σ Γ) (h:Γ[i]?=some (some p)) :
  p.s.isView=false/\∃v F,σ[i]?=some (some v)/\EnvOk K He (F++O) (Fs.set i []) H σ (Γ.set i none)/\Own K (F++O++(Fs.set i []).flatten) H p.s F v p.d/\(∀a∈F++(Fs.set i []).flatten,a∈Fs.flatten):=by
 obtain ⟨P,v,F,R,C,c⟩:=E.slot i p h;have r:(F++(Fs.set i []).flatten).Perm Fs.flatten:=by simpa using rZ (G:=[]) C
 have b:(F++O++(Fs.set i []).flatten).Perm (O++Fs.flatten):=by
  rw [append_assoc]
  calc (F++(O++(Fs.set i []).flatten)).Perm (O++(F++(Fs.set i []).flatten)):=by
        rw [<-append_assoc,<-append_assoc];exact List.Perm.append_right _ perm_append_comm
    _ |>.Perm (O++Fs.flatten):=List.Perm.append_left _ r
 refine ⟨P,v,F,R,⟨by rw [length_set];exact E.len1,by rw [length_set,length_set];exact E.len2,E.same,b.nodup_iff.mpr E.nd,λa U=>E.inH a (b.mem_iff.mp U),λa U=>E.fresh a (r.mem_iff.mp (Nh _ U)),λj q n=>?_⟩,c.mono (Same.refl _) λa U=>.inl (b.mem_iff.mp U),λa U=>r.mem_iff.mp U⟩
 by_cases A:j=i
 ·subst A
  rw [List.getElem?_set] at n;split at n
  ·split at n<;>cases n
  ·rename_i z
   exact absurd rfl z
 ·rw [getElem?_set_ne (Ne.symm A)] at n
  obtain ⟨t,Y,x,B,m,M⟩:=E.slot j q n;exact ⟨t,Y,x,B,by rw [getElem?_set_ne (Ne.symm A)];exact m,M.mono (Same.refl _) λa U=>.inl (b.mem_iff.mp U)⟩
theorem EnvOk.put {i:Nat} {p:PV} {v:V} (E:EnvOk K He (G++O) Fs H σ Γ) (b:Own K (G++O++Fs.flatten) H p.s G v p.d) (P:p.s.isView=false) (d:∀a∈G,He a=none) (l:i<Γ.length) :
  EnvOk K He O (Fs.set i G) H (σ.set i (some v)) (Γ.set i (some p)):=by
 obtain ⟨F,c⟩:=E.lt l;have r:=rZ (G:=G) c
 have J:=E.nd
 rw [append_assoc] at J;have C:∀a∈O++(Fs.set i G).flatten,a∈G++O++Fs.flatten:=λa U=>by
  rw [append_assoc];rcases Nj U with z | z
  ·exact Nh _ (Ni _ z)
  ·rcases Nj (r.mem_iff.mp (Nh _ z)) with y | y
   ·exact Ni _ y
   ·exact Nh _ (Nh _ y)
 refine ⟨by rw [length_set,length_set];exact E.len1,by rw [length_set,length_set];exact E.len2,E.same,?_,λa U=>E.inH a (C a U),λa U=>?_,λj q n=>?_⟩
 ·have g:(O++(F++(Fs.set i G).flatten)).Perm (G++(O++Fs.flatten)):=by
   calc (O++(F++(Fs.set i G).flatten)).Perm (O++(G++Fs.flatten)):=List.Perm.append_left _ r
     _ |>.Perm (G++(O++Fs.flatten)):=by
       rw [<-append_assoc,<-append_assoc];exact List.Perm.append_right _ perm_append_comm
  have f:=g.nodup_iff.mpr J
  refine f.sublist ?_
  exact List.Sublist.append_left (List.sublist_append_right _ _) _
 ·rcases Nj (r.mem_iff.mp (Nh _ U)) with y | y
  ·exact d a y
  ·exact E.fresh a y
 ·by_cases A:j=i
  ·subst A
   rw [getElem?_set_self l] at n
   cases n;refine ⟨P,v,G,?_,?_,b.mono (Same.refl _) λa U=>.inl (C a U)⟩
   ·rw [getElem?_set_self (by rw [E.len1];exact l)]
   ·rw [getElem?_set_self (by rw [E.len2];exact l)]
  ·rw [getElem?_set_ne (Ne.symm A)] at n
   obtain ⟨t,Y,x,B,m,M⟩:=E.slot j q n;exact ⟨t,Y,x,by rw [getElem?_set_ne (Ne.symm A)];exact B,by rw [getElem?_set_ne (Ne.symm A)];exact m,M.mono (Same.refl _) λa U=>.inl (C a U)⟩
theorem Aft.freshG {I:Ev} {p:PV} {v:V} {F:Hp} {y:List (List Addr)} (E:EnvOk K He O Fs H σ Γ) (A:Aft K He O Fs H σ I p v F G y):∀a∈G,He a=none:=λa U=>by
 rcases A.new a (Ni _ U) with z | z
 ·exact E.fresh a z
 ·exact E.same.free z
end
noncomputable def ae (i:Nat):F1:=λB=>match B[i]? with
 | some (some p)=>(match p.s with
  | .leaf=>.ok ⟨.leaf,p.d⟩ B
  | _=>.ok ⟨.view,p.d⟩ B)
 | _=>.no
noncomputable def bX (i:Nat):F1:=λB=>match B[i]? with
 | some (some p)=>.ok p (B.set i none)
 | _=>.no
noncomputable def eK (d:D):F1:=λB=>.ok ⟨.leaf,d⟩ B
section
variable {X:Cx} {W:XW} {i:Nat} {e:Expr} {pos:Pos}
theorem Bz {K:Fg} {M:St} {H:Hp} {Q:VK} (h:tE K W (ae i) M H Q):aG i M H Q:=by
 obtain ⟨f,O,t,B,E,h⟩:=h;unfold ae at h
 cases e:B[i]? with
 | none=>rw [e] at h;exact h.elim
 | some o=>
  rw [e] at h
  cases o with
  | none=>exact h.elim
  | some p=>
   obtain ⟨P,v,F,R,C,n⟩:=E.slot i p e;obtain ⟨s,d⟩:=p;have L:∀a∈[]++t.flatten,a∈t.flatten\/H a=none:=λa U=>.inl (by simpa using U)
   cases s with
   | leaf=>
    cases n with
    | leaf r=>exact ⟨v,R,h v H [] t ⟨Same.refl _,by simpa using E,L,.leaf r⟩⟩
   | view=>cases P
   | lst s=>exact ⟨v,R,h v H [] t ⟨Same.refl _,by simpa using E,L,.view n.rep⟩⟩
   | tup u=>exact ⟨v,R,h v H [] t ⟨Same.refl _,by simpa using E,L,.view n.rep⟩⟩
theorem yf {K:Fg} {M:St} {H:Hp} {Q:VK} (h:tE K W (bX i) M H Q):aG i M H Q:=by
 obtain ⟨f,O,t,B,E,h⟩:=h;unfold bX at h
 cases e:B[i]? with
 | none=>rw [e] at h;exact h.elim
 | some o=>
  rw [e] at h
  cases o with
  | none=>exact h.elim
  | some p=>
   obtain ⟨P,v,F,R,r,L,C⟩:=E.move e;exact ⟨v,R,h v H F (t.set i []) ⟨Same.refl _,r,λa U=>.inl (C a U),L⟩⟩
theorem Dr (h:PE X e (aG i)):PE X e (tE X.K W (ae i)):=bh h λ_ _ _=>Bz
theorem zo (h:PE X e (aG i)):PE X e (tE X.K W (bX i)):=bh h λ_ _ _=>yf
theorem ve {K:Fg} {M:St} {H:Hp} {Q:VK} {v:V} {d:D} (Y:∀H,Rep K H v d) (h:tE K W (eK d) M H Q):Q v H:=by
 obtain ⟨f,O,t,B,E,h⟩:=h;exact h v H [] t ⟨Same.refl _,by simpa using E,λa U=>.inl (by simpa using U),.leaf (Y _)⟩
theorem zp {x:Str} {v:V} {u:Value} {d:D} (E:Gl X x) (G:X.mg x=some u) (r:RelV v u) (M:∀H,Rep X.K H v d) (F:(x==("__debug__":Str))=false:=by decide):PE X (.Name x pos) (tE X.K W (eK d)):=
 bh (yv E G r F) λ_ _ _=>ve M
end
noncomputable def ar (g:D->D->Option D) (z e:F1):F1:=aY z λp=>aY e λq=>λB=>match g p.d q.d with
 | some d=>.ok ⟨.leaf,d⟩ B
 | none=>.no
noncomputable def GOp (K:Fg) (r:R2) (g:D->D->Option D):Prop:=∀x y H Q a b d,Rep K H x a->Rep K H y b->g a b=some d->(∀v,Sc v d->Q v H)->r x y H Q
section
variable {K:Fg} {W:XW} {σ:St} {H:Hp} {Q:VK} {fa fb:F1} {r:R2} {g:D->D->Option D}
theorem gU (b:GOp K r g) (h:tE K W (ar g fa fb) σ H Q):sx r (tE K W fa) (tE K W fb) σ H Q:=by
 refine D0 h ?_
 intro f O t o p q v u Z j P G l J A N E L X x w
 cases e:g p.d q.d with
 | none=>rw [e] at w;exact w.elim
 | some d=>
  rw [e] at w;exact b v u j Q p.d q.d d X.rep x.rep e λz s=>w.scal s (A.trans N) E (λa U=>Nh _ (Nh _ U)) J λa U=>L a (Nh _ (Nh _ U))
end
theorem GOp.or {K:Fg} {r r':R2} {g g':D->D->Option D} (h:GOp K r g) (U:GOp K r' g'):GOp K (λx y H Q=>r x y H Q\/r' x y H Q) (λa b=>(g a b).or (g' a b)):=by
 intro x y H Q a b d l m e k;have e:(g a b).or (g' a b)=some d:=e
 cases B:g a b with
 | some z=>rw [B] at e;cases e;exact .inl (h x y H Q a b _ l m B k)
 | none=>rw [B] at e;exact .inr (U x y H Q a b d l m (by simpa using e) k)
noncomputable def gI (C:Int->Int->Bool) (f:Int->Int->D):D->D->Option D
 | .int i,.int j=>if C i j then some (f i j) else none
 | _,_=>none
theorem rC {K:Fg} {C:Int->Int->Prop} {n:Int->Int->Bool} {g:Int->Int->V} {f:Int->Int->D} (h:∀i j,n i j=true->C i j) (Y:∀i j,Sc (g i j) (f i j)):GOp K (rI C g) (gI n f):=by
 intro x y H Q a b d l m e k
 cases l<;>cases m<;>simp only [gI] at e<;>try cases e
 rename_i i j;split at e
 ·rename_i c
  cases e;exact ⟨i,j,rfl,rfl,h i j c,k _ (Y i j)⟩
 ·cases e
noncomputable def Ay (f:Int->Int->D):D->D->Option D
 | .int i,.int j=>some (f i j)
 | _,_=>none
theorem DU {K:Fg} {g:Int->Int->V} {f:Int->Int->D} (Y:∀i j,Sc (g i j) (f i j)):GOp K (qF g) (Ay f):=by
 intro x y H Q a b d l m e k
 cases l<;>cases m<;>simp only [Ay] at e<;>try cases e
 rename_i i j;exact ⟨i,j,rfl,rfl,k _ (Y i j)⟩
noncomputable abbrev gSub:=Ay λi j=>.int (i-j)
noncomputable abbrev aI:=Ay λi j=>.int (i+j)
noncomputable def uj (i j:Int):Bool:=(decide (-(2 ^ 64)<i)&&decide (i<2 ^ 64))||(decide (-(2 ^ 64)<j)&&decide (j<2 ^ 64))
noncomputable abbrev nP:=gI uj λi j=>.int (i*j)
noncomputable def zB (_ j:Int):Bool:=decide (0<j)&&decide (j<1073741824)
noncomputable abbrev h9:=gI zB λi j=>.int (i / j)
noncomputable def zA (_ j:Int):Bool:=decide (0<j)
noncomputable abbrev cG:=gI zA λi j=>.int (i % j)
noncomputable def zy (i j:Int):Bool:=decide (0<=j)&&decide (j<=1000000)&&decide (i.natAbs<2 ^ 64)
noncomputable abbrev zd:=gI zy λi j=>.int (i ^ j.toNat)
mutual
noncomputable def Sh.same:Sh->Sh->Bool
 | .view,.view=>true
 | .leaf,.leaf=>true
 | .lst a,.lst b=>Sh.same a b
 | .tup as,.tup bs=>Sh.sameL as bs
 | _,_=>false
noncomputable def Sh.sameL:List Sh->List Sh->Bool
 | [],[]=>true
 | a::as,b::bs=>Sh.same a b&&Sh.sameL as bs
 | _,_=>false
end
mutual
theorem Sh.same_eq:∀{a b:Sh},Sh.same a b=true->a=b
 | .view,.view,_=>rfl
 | .leaf,.leaf,_=>rfl
 | .lst a,.lst b,h=>by rw [Sh.same_eq (a:=a) (b:=b) (by simpa [Sh.same] using h)]
 | .tup as,.tup bs,h=>by rw [Sh.sameL_eq (as:=as) (bs:=bs) (by simpa [Sh.same] using h)]
 | .view,.leaf,h=>by simp [Sh.same] at h
 | .view,.lst _,h=>by simp [Sh.same] at h
 | .view,.tup _,h=>by simp [Sh.same] at h
 | .leaf,.view,h=>by simp [Sh.same] at h
 | .leaf,.lst _,h=>by simp [Sh.same] at h
 | .leaf,.tup _,h=>by simp [Sh.same] at h
 | .lst _,.view,h=>by simp [Sh.same] at h
 | .lst _,.leaf,h=>by simp [Sh.same] at h
 | .lst _,.tup _,h=>by simp [Sh.same] at h
 | .tup _,.view,h=>by simp [Sh.same] at h
 | .tup _,.leaf,h=>by simp [Sh.same] at h
 | .tup _,.lst _,h=>by simp [Sh.same] at h
theorem Sh.sameL_eq:∀{as bs:List Sh},Sh.sameL as bs=true->as=bs
 | [],[],_=>rfl
 | a::as,b::bs,h=>by
  have h:Sh.same a b=true/\Sh.sameL as bs=true:=by simpa [Sh.sameL] using h
  rw [Sh.same_eq h.1,Sh.sameL_eq h.2]
 | [],_::_,h=>by simp [Sh.sameL] at h
 | _::_,[],h=>by simp [Sh.sameL] at h
end
noncomputable def coer (s:Sh) (p:PV):Bool:=match s with
 | .leaf=>!p.s.isView||bD p.d
 | .view=>false
 | s=>Sh.same s p.s
noncomputable def bc (s:Sh) (G:List Addr):List Addr:=match s with
 | .leaf=>[]
 | _=>G
theorem ko {s:Sh} {G:List Addr} {a:Addr} (h:a∈bc s G):a∈G:=by
 unfold bc at h;split at h
 ·simp at h
 ·exact h
theorem Own.coer {K:Fg} {O O':List Addr} {H:Hp} {s:Sh} {p:PV} {G:List Addr} {v:V} (h:Own K O H p.s G v p.d) (c:coer s p=true) (R:∀a∈O',a∈O) (C:∀a∈G,a∈O'->a∈bc s G):Own K O' H s (bc s G) v p.d:=by
 cases s with
 | view=>simp [T.coer] at c
 | leaf=>
  show Own K O' H .leaf [] v p.d
  have c:(!p.s.isView||bD p.d)=true:=c
  cases P:p.s.isView with
  | false=>exact .leaf (h.freeze P R λa U z=>by simpa [bc] using C a U z)
  | true=>
   rw [P] at c;exact .leaf (h.rep.sc (by simpa using c)).rep
 | lst s=>
  have e:Sh.lst s=p.s:=Sh.same_eq c
  show Own K O' H (.lst s) G v p.d
  rw [e];exact h.mono (Same.refl _) λa U=>.inl (R a U)
 | tup u=>
  have e:Sh.tup u=p.s:=Sh.same_eq c
  show Own K O' H (.tup u) G v p.d
  rw [e];exact h.mono (Same.refl _) λa U=>.inl (R a U)
open PySem.SeqAt in
noncomputable def bp:D->D->Option D:=λa b=>if shaped a&&shaped b then some (.bool (PyData.eqv a b)) else none
open PySem.SeqAt in
noncomputable def gy:D->D->Option D:=λa b=>if shaped a&&shaped b then some (.bool (!PyData.eqv a b)) else none
open PySem.SeqAt in
noncomputable def sS (K:Fg) (f:Bool):R2:=λx y H Q=>∃a b,Rep K H x a/\Rep K H y b/\shaped a=true/\shaped b=true/\Q (.bl (if f then !PyData.eqv a b else PyData.eqv a b)) H
section
variable {X:Cx}
theorem Cm (J:X.A.units+64<cLine):OpR X (compareOp .Eq) (sS X.K false):=by
 intro B s M H x y v u Q I P o h;obtain ⟨a,b,l,m,sa,c,q⟩:=h;obtain ⟨E,i⟩:=l.reads I v P;obtain ⟨bs,k⟩:=m.reads I u o;exact SeqAt.compareEq_shaped i k sa c J ⟨.bl _,H,I,rfl,q⟩
theorem Ce (J:X.A.units+64<cLine):OpR X (compareOp .NotEq) (sS X.K true):=by
 intro B s M H x y v u Q I P o h;obtain ⟨a,b,l,m,sa,c,q⟩:=h;obtain ⟨E,i⟩:=l.reads I v P;obtain ⟨bs,k⟩:=m.reads I u o;exact SeqAt.compareNe_shaped i k sa c J ⟨.bl _,H,I,rfl,q⟩
end
theorem CZ {K:Fg}:GOp K (sS K false) bp:=by
 intro x y H Q a b d l m e k;unfold bp at e;split at e
 ·rename_i c
  cases e;simp only [Bool.and_eq_true] at c
  exact ⟨a,b,l,m,c.1,c.2,k _ (.bl _)⟩
 ·cases e
theorem CV {K:Fg}:GOp K (sS K true) gy:=by
 intro x y H Q a b d l m e k;unfold gy at e;split at e
 ·rename_i c
  cases e;simp only [Bool.and_eq_true] at c
  exact ⟨a,b,l,m,c.1,c.2,k _ (.bl _)⟩
 ·cases e
noncomputable def C6:D->D->Option D
 | .str i,.str j=>some (.bool (decide (i.cps.toList<j.cps.toList)))
 | _,_=>none
noncomputable abbrev Lx:=Ay λi j=>.bool (decide (i<j))
noncomputable abbrev me:D->D->Option D:=λa b=>(Lx a b).or (C6 a b)
noncomputable abbrev Ej:=Ay λi j=>.bool (decide (i<=j))
noncomputable abbrev jf:=Ay λi j=>.bool (decide (j<i))
noncomputable abbrev MZ:=Ay λi j=>.bool (decide (j<=i))
theorem y1 {K:Fg}:GOp K (λx y H Q=>∃i j,x=.str i/\y=.str j/\Q (.bl (decide (i.cps.toList<j.cps.toList))) H) C6:=by
 intro x y H Q a b d l m e k
 cases l<;>cases m<;>simp only [C6] at e<;>try cases e
 rename_i i j;exact ⟨i,j,rfl,rfl,k _ (.bl _)⟩
theorem CW {K:Fg}:GOp K (λx y H Q=>qF (λi j=>.bl (decide (i<j))) x y H Q\/∃i j,x=.str i/\y=.str j/\Q (.bl (decide (i.cps.toList<j.cps.toList))) H) me:=
 (DU λ_ _=>.bl _).or y1
open PySem.SeqAt in
noncomputable def bx (f:Bool):D->D->Option D
 | a,.list xs=>if shaped a&&shaped (.list xs) then some (.bool (if f then !xs.any λy=>PyData.eqv y a else xs.any λy=>PyData.eqv y a)) else none
 | a,.tuple xs=>if shaped a&&shaped (.tuple xs) then some (.bool (if f then !xs.any λy=>PyData.eqv y a else xs.any λy=>PyData.eqv y a)) else none
 | _,_=>none
noncomputable def vh (K:Fg) (f:Bool):R2:=λx y H Q=>∃a b d,Rep K H x a/\Rep K H y b/\bx f a b=some (.bool d)/\Q (.bl d) H
theorem wq {K:Fg} {f:Bool}:GOp K (vh K f) (bx f):=by
 intro x y H Q a b d l m e k;have:∃c,d=.bool c:=by
  cases b<;>simp only [bx] at e<;>(try cases e)<;>(split at e<;>cases e<;>exact ⟨_,rfl⟩)
 obtain ⟨c,rfl⟩:=this;exact ⟨a,b,c,l,m,e,k _ (.bl c)⟩
theorem ET {d:D} {Y:List D} (h:SeqAt.shaped d=true) (e:d=.list Y\/d=.tuple Y):PyData.canLayAll0 Y=true/\PyData.depthAll Y+1<=64:=by
 have R:=SeqAt.canLay_of_shaped h
 have C:=SeqAt.depth_of_shaped h
 rcases e with e | e<;>subst e<;>exact ⟨by simpa [PyData.canLay0] using R,by simpa [PyData.depth] using C⟩
section
variable {X:Cx}
theorem Cj (J:X.A.units+64<cLine):OpR X (compareOp .In) (vh X.K false):=by
 intro B s M H x y v u Q I P o h;obtain ⟨a,b,d,l,m,e,q⟩:=h;obtain ⟨E,i⟩:=l.reads I v P;obtain ⟨bs,k⟩:=m.reads I u o
 cases b<;>simp only [bx] at e<;>try cases e
 all_goals
  split at e
  ·rename_i c
   simp only [Bool.and_eq_true] at c
   simp only [Option.some.injEq,PyData.bool.injEq] at e
   subst e;first
    | (obtain ⟨g,f⟩:=ET c.2 (.inl rfl)
       exact SeqAt.in_list_reads k i g (SeqAt.canLay_of_shaped c.1) (Nat.lt_of_le_of_lt (by have:=Nat.min_le_left (PyData.depthAll ‹_›) a.depth;omega) J) ⟨.bl _,H,I,rfl,q⟩)
    | (obtain ⟨g,f⟩:=ET c.2 (.inr rfl)
       exact SeqAt.in_tuple_reads k i g (SeqAt.canLay_of_shaped c.1) (Nat.lt_of_le_of_lt (by have:=Nat.min_le_left (PyData.depthAll ‹_›) a.depth;omega) J) ⟨.bl _,H,I,rfl,q⟩)
  ·cases e
theorem tf (J:X.A.units+64<cLine):OpR X (compareOp .NotIn) (vh X.K true):=by
 intro B s M H x y v u Q I P o h;obtain ⟨a,b,d,l,m,e,q⟩:=h;obtain ⟨E,i⟩:=l.reads I v P;obtain ⟨bs,k⟩:=m.reads I u o
 cases b<;>simp only [bx] at e<;>try cases e
 all_goals
  split at e
  ·rename_i c
   simp only [Bool.and_eq_true] at c
   simp only [Option.some.injEq,PyData.bool.injEq] at e
   subst e;first
    | (obtain ⟨g,f⟩:=ET c.2 (.inl rfl)
       exact SeqAt.notIn_list_reads k i g (SeqAt.canLay_of_shaped c.1) (Nat.lt_of_le_of_lt (by have:=Nat.min_le_left (PyData.depthAll ‹_›) a.depth;omega) J) ⟨.bl _,H,I,rfl,q⟩)
    | (obtain ⟨g,f⟩:=ET c.2 (.inr rfl)
       exact SeqAt.notIn_tuple_reads k i g (SeqAt.canLay_of_shaped c.1) (Nat.lt_of_le_of_lt (by have:=Nat.min_le_left (PyData.depthAll ‹_›) a.depth;omega) J) ⟨.bl _,H,I,rfl,q⟩)
  ·cases e
end
noncomputable def WantsB (K:Fg) (W:XW) (f:Hp) (O:List Addr) (t:List (List Addr)) (H:Hp) (M:St) (Q:Bool->Hp->Prop) (o:Out Bool):Prop:=match o with
 | .ok b I=>∀F y,Same H F->EnvOk K f O y F M I->(∀a∈y.flatten,a∈t.flatten\/H a=none)->Q b F
 | .er c I=>∀F y,Same H F->EnvOk K f O y F M I->W c M F
 | .no=>False
abbrev FB:=Ev->Out Bool
noncomputable def tT (K:Fg) (W:XW) (f:FB):TT:=λM H Q=>∃a O t B,EnvOk K a O t H M B/\WantsB K W a O t H M Q (f B)
section
variable {K:Fg} {W:XW} {He H H1:Hp} {O:List Addr} {Fs Fs1:List (List Addr)} {σ:St} {Γ Γ':Ev} {Q:VK} {QB:Bool->Hp->Prop}
theorem Wants.after {o:Out PV} (h:Wants K W He O Fs H σ Q o) (s:Same H H1) (n:∀a∈Fs1.flatten,a∈Fs.flatten\/H a=none):Wants K W He O Fs1 H1 σ Q o:=by
 cases o with
 | ok p Γ'=>exact λv F G y A=>h v F G y ⟨s.trans A.same,A.env,λa U=>(A.new a U).elim (n a) λz=>.inr (s.free z),A.own⟩
 | er c Γ'=>exact λF y e E=>h F y (s.trans e) E
 | no=>exact h
theorem WantsB.after {o:Out Bool} (h:WantsB K W He O Fs H σ QB o) (s:Same H H1) (n:∀a∈Fs1.flatten,a∈Fs.flatten\/H a=none):WantsB K W He O Fs1 H1 σ QB o:=by
 cases o with
 | ok p Γ'=>exact λF y e E f=>h F y (s.trans e) E λa U=>(f a U).elim (n a) λz=>.inr (s.free z)
 | er c Γ'=>exact λF y e E=>h F y (s.trans e) E
 | no=>exact h
theorem Aft.go {p:PV} {v:V} {G:List Addr} (A:Aft K He O Fs H σ Γ' p v H1 G Fs1):EnvOk K He O Fs1 H1 σ Γ':=A.env.dropL
theorem Aft.newF {p:PV} {v:V} {G:List Addr} (A:Aft K He O Fs H σ Γ' p v H1 G Fs1):∀a∈Fs1.flatten,a∈Fs.flatten\/H a=none:=λa U=>A.new a (Nh _ U)
end
section
variable {K:Fg} {W:XW} {σ:St} {H:Hp} {Q:VK} {QB:Bool->Hp->Prop} {fa fb fc:F1} {ga gb:FB}
noncomputable def aM (g:D->Option Bool) (f:F1):FB:=λB=>(f B).bind λp I=>match g p.d with
 | some b=>.ok b I
 | none=>.no
theorem ql {g:D->Option Bool} {R:VK} (h:tT K W (aM g fa) σ H QB) (Y:∀v d b Z,Rep K Z v d->g d=some b->QB b Z->R v Z):tE K W fa σ H R:=by
 obtain ⟨f,O,t,B,E,h⟩:=h;refine ⟨f,O,t,B,E,?_⟩
 unfold aM at h
 cases e:fa B with
 | ok p I=>
  rw [e] at h;intro v F G y A
  have h:WantsB K W f O t H σ QB (match g p.d with | some b=>.ok b I | none=>.no):=h
  cases m:g p.d with
  | some b=>
   rw [m] at h;exact Y v p.d b F A.own.rep m (h F y A.same A.go A.newF)
  | none=>rw [m] at h;exact h.elim
 | er c I=>rw [e] at h;exact h
 | no=>rw [e] at h;exact h
noncomputable def ai:D->Option Bool
 | .bool b=>some b
 | _=>none
theorem qD {t:TE} (l:∀Q,tE K W fa σ H Q->t σ H Q) (h:tT K W (aM ai fa) σ H QB):qi t σ H QB:=by
 refine l _ (ql h λv d b Z r e q=>?_)
 cases r<;>simp only [ai] at e<;>try cases e
 exact ⟨_,rfl,q⟩
noncomputable def cF:D->Option Bool
 | .none=>some false
 | .bool b=>some b
 | .int i=>some (i != 0)
 | .str x=>if x.length<=sizeLine then some ((x.length:Int) != 0) else none
 | .list Y=>some (!Y.isEmpty)
 | .tuple Y=>some (!Y.isEmpty)
 | .dict _=>none
theorem BB (h:tT K W (aM cF fa) σ H QB):tE K W fa σ H λx F=>∃k,w9 K x F k/\QB k F:=by
 refine ql h λv d b Z r e q=>?_
 cases r with
 | non=>cases e;exact ⟨_,rfl,q⟩
 | bl c=>cases e;exact ⟨_,rfl,q⟩
 | int i=>cases e;exact ⟨_,rfl,q⟩
 | str x=>
  simp only [cF] at e
  split at e
  ·rename_i z;cases e;exact ⟨_,⟨z,rfl⟩,q⟩
  ·cases e
 | @lst p vs ds hq hl _=>
  cases e;exact ⟨_,.inl ⟨vs,hq,by cases vs<;>cases ds<;>simp_all⟩,q⟩
 | @tup p vs ds hq hl _=>
  cases e;exact ⟨_,.inr (.inl ⟨vs,hq,by cases vs<;>cases ds<;>simp_all⟩),q⟩
noncomputable def gq (a b:FB):FB:=λB=>(a B).bind λc I=>if c then b I else .ok false I
noncomputable def gp (a b:FB):FB:=λB=>(a B).bind λc I=>if c then .ok true I else b I
noncomputable def eO (a:FB):FB:=λB=>(a B).bind λc I=>.ok (!c) I
theorem Jr {k:Bool->Ev->Out Bool} {R:Bool->Hp->Prop} (h:tT K W (λB=>(ga B).bind k) σ H QB)
  (a:∀(f:Hp) (O:List Addr) X b H1 Fs1,Same H H1->EnvOk K f O Fs1 H1 σ X->WantsB K W f O Fs1 H1 σ QB (k b X)->R b H1):tT K W ga σ H R:=by
 obtain ⟨f,O,t,B,E,h⟩:=h;have h:WantsB K W f O t H σ QB ((ga B).bind k):=h
 refine ⟨f,O,t,B,E,?_⟩
 cases e:ga B with
 | ok b X=>rw [e] at h;exact λF y s r n=>a f O X b F y s r (WantsB.after (o:=k b X) h s n)
 | er c X=>rw [e] at h;exact h
 | no=>rw [e] at h;exact h
theorem WantsB.now {f:Hp} {O:List Addr} {t:List (List Addr)} {B:Ev} {b:Bool} (h:WantsB K W f O t H σ QB (.ok b B)) (E:EnvOk K f O t H σ B):QB b H:=h H t (Same.refl _) E λ_ z=>.inl z
theorem yo (h:tT K W (gq ga gb) σ H QB):Fo (tT K W ga) (tT K W gb) σ H QB:=by
 refine Jr h λf O X b Z Y s E w=>?_
 cases b with
 | true=>exact dQ ⟨f,O,Y,X,E,w⟩
 | false=>exact dq (WantsB.now w E)
theorem BP (h:tT K W (gp ga gb) σ H QB):Mf (tT K W ga) (tT K W gb) σ H QB:=by
 refine Jr h λf O X b Z Y s E w=>?_
 cases b with
 | false=>exact dq ⟨f,O,Y,X,E,w⟩
 | true=>exact dQ (WantsB.now w E)
theorem yn (h:tT K W (eO ga) σ H QB):Fl (tT K W ga) σ H QB:=Jr h λf O X b Z Y s E w=>WantsB.now w E
noncomputable def e7 (z e:F1):F1:=aY z λp B=>match p.d with
 | .bool true=>e B
 | .bool false=>.ok ⟨.leaf,.bool false⟩ B
 | _=>.no
noncomputable def LJ (z:F1):F1:=aY z λp B=>match p.d with
 | .bool b=>.ok ⟨.leaf,.bool (!b)⟩ B
 | _=>.no
theorem BQ (h:tE K W (e7 fa fb) σ H Q):Aa (tE K W fa) (tE K W fb) σ H Q:=by
 refine Ih h λf O t X p v Z G Y J A w=>?_
 have r:=A.own.rep
 obtain ⟨s,d⟩:=p
 cases r with
 | bl b=>
  cases b with
  | true=>exact ⟨true,rfl,dQ ⟨f,O,Y,X,A.go,Wants.after w A.same A.newF⟩⟩
  | false=>exact ⟨false,rfl,dq (Wants.scal w (.bl false) A.same A.env (λa U=>Nh _ U) J A.newF)⟩
 | _=>exact w.elim
noncomputable def oG (c:FB) (z e:F1):F1:=λB=>(c B).bind λb I=>if b then z I else e I
theorem FW (h:tE K W (oG ga fa fb) σ H Q):KG (tT K W ga) (tE K W fa) (tE K W fb) σ H Q:=by
 obtain ⟨f,O,t,B,E,h⟩:=h;refine ⟨f,O,t,B,E,?_⟩
 unfold oG at h
 cases e:ga B with
 | ok b X=>
  rw [e] at h;intro F y s r n
  have U:=Wants.after (o:=if b then fa X else fb X) h s n
  cases b with
  | true=>exact dQ ⟨f,O,y,X,r,U⟩
  | false=>exact dq ⟨f,O,y,X,r,U⟩
 | er c X=>rw [e] at h;exact h
 | no=>rw [e] at h;exact h
noncomputable def dt (g m:D->D->Option D) (a e E:F1):F1:=aY a λp=>aY e λq=>λB=>match g p.d q.d with
 | some (.bool true)=>if bD q.d then (E B).bind λz I=>(match m q.d z.d with | some d=>.ok ⟨.leaf,d⟩ I | none=>.no) else .no
 | some (.bool false)=>.ok ⟨.leaf,.bool false⟩ B
 | _=>.no
theorem mT {r r':R2} {g m:D->D->Option D} (hg:GOp K r g) (B:GOp K r' m) (h:tE K W (dt g m fa fb fc) σ H Q):oP r r' (tE K W fa) (tE K W fb) (tE K W fc) σ H Q:=by
 refine D0 h ?_
 intro f O t o p q v u Z j P G l J A N E L X o2 w;have C:∀a∈O,a∈G++(P++O):=λa U=>Nh _ (Nh _ U)
 have newF:∀a∈l.flatten,a∈t.flatten\/H a=none:=λa U=>L a (Nh _ (Nh _ U))
 cases e:g p.d q.d with
 | none=>rw [e] at w;exact w.elim
 | some d=>
  rw [e] at w;refine hg v u j _ p.d q.d d X.rep o2.rep e λz s=>?_
  cases s with
  | bl b=>
   cases b with
   | false=>exact ⟨false,rfl,dq (Wants.scal w (.bl false) (A.trans N) E C J newF)⟩
   | true=>
    refine ⟨true,rfl,dQ ?_⟩
    have w:Wants K W f O t H σ Q (if bD q.d then (fc o).bind λz I=>(match m q.d z.d with | some d=>.ok ⟨.leaf,d⟩ I | none=>.no) else .no):=w
    cases Y:bD q.d with
    | false=>rw [Y] at w;exact w.elim
    | true=>
     rw [Y] at w;have w:Wants K W f O t H σ Q ((fc o).bind λz I=>(match m q.d z.d with | some d=>.ok ⟨.leaf,d⟩ I | none=>.no)):=w
     have su:=o2.rep.sc Y
     refine ⟨f,O,l,o,E.drop C J,?_⟩
     cases M:fc o with
     | ok p3 Γ3=>
      rw [M] at w;intro k H3 G3 n A3;have w:Wants K W f O t H σ Q (match m q.d p3.d with | some d=>.ok ⟨.leaf,d⟩ Γ3 | none=>.no):=w
      cases R:m q.d p3.d with
      | none=>rw [R] at w;exact w.elim
      | some d4=>
       rw [R] at w;exact B u k H3 Q q.d p3.d d4 su.rep A3.own.rep R λz s=>Wants.scal w s ((A.trans N).trans A3.same) A3.env (λa U=>Nh _ U) J λa U=>(A3.new a (Nh _ U)).elim (newF a) λz=>.inr ((A.trans N).free z)
     | er c Γ3=>
      rw [M] at w;exact λF y s E'=>w F y ((A.trans N).trans s) E'
     | no=>rw [M] at w;exact w
  | non=>exact w.elim
  | int i=>exact w.elim
  | str x=>exact w.elim
end
structure AftL (K:Fg) (He:Hp) (O:List Addr) (Fs:List (List Addr)) (H:Hp) (σ:St) (Γ':Ev) (ps:List PV) (vs:List V) (H':Hp) (Gs Fs':List (List Addr)):Prop where
 same:Same H H'
 len1:vs.length=ps.length
 len2:Gs.length=ps.length
 env:EnvOk K He (Gs.flatten++O) Fs' H' σ Γ'
 new:∀a∈Gs.flatten++Fs'.flatten,a∈Fs.flatten\/H a=none
 own:∀(i:Nat) v p G,vs[i]?=some v->ps[i]?=some p->Gs[i]?=some G->Own K (Gs.flatten++O++Fs'.flatten) H' p.s G v p.d
abbrev FL:=Ev->Out (List PV)
noncomputable def w6 (K:Fg) (W:XW) (f:Hp) (O:List Addr) (t:List (List Addr)) (H:Hp) (M:St) (Q:List V->Hp->Prop) (o:Out (List PV)):Prop:=match o with
 | .ok J I=>∀L F b y,AftL K f O t H M I J L F b y->Q L F
 | .er c I=>∀F y,Same H F->EnvOk K f O y F M I->W c M F
 | .no=>False
noncomputable def tA (K:Fg) (W:XW) (f:FL):TA:=λM H Q=>∃a O t B,EnvOk K a O t H M B/\w6 K W a O t H M Q (f B)
noncomputable def af:FL:=λB=>.ok [] B
noncomputable def ab (z:F1) (q:FL):FL:=λB=>(z B).bind λp X=>(q X).bind λJ o=>.ok (p::J) o
section
variable {K:Fg} {W:XW} {σ:St} {H:Hp} {Q:VK} {QL:List V->Hp->Prop} {fa fb:F1} {fl:FL}
theorem BF (h:tA K W af σ H QL):b5 σ H QL:=by
 obtain ⟨f,O,t,B,E,h⟩:=h;exact h [] H [] t ⟨Same.refl _,rfl,rfl,by simpa using E,λa U=>.inl (by simpa using U),λi v p G e=>by simp at e⟩
theorem qI {u:Type} (A B C:List u):(A++(B++C)).Perm (B++(A++C)):=by
 rw [<-append_assoc,<-append_assoc];exact List.Perm.append_right _ perm_append_comm
theorem EnvOk.perm {f H:Hp} {O e:List Addr} {t:List (List Addr)} {B:Ev} (E:EnvOk K f O t H σ B) (p:e.Perm O):EnvOk K f e t H σ B:=E.drop (λa U=>p.mem_iff.mp U) (p.nodup_iff.mpr E.ndO)
theorem Own.perm {H:Hp} {O e:List Addr} {s:Sh} {G:List Addr} {v:V} {d:D} (h:Own K O H s G v d) (p:∀a∈e,a∈O):Own K e H s G v d:=h.mono (Same.refl _) λa U=>.inl (p a U)
theorem yl (h:tA K W (ab fa fl) σ H QL):aL (tE K W fa) (tA K W fl) σ H QL:=by
 obtain ⟨f,O,t,B,E,h⟩:=h;refine ⟨f,O,t,B,E,?_⟩
 unfold ab at h
 cases e:fa B with
 | ok p X=>
  rw [e] at h;intro v Z P Y g;refine ⟨f,P++O,Y,X,g.env,?_⟩
  have h:w6 K W f O t H σ QL ((fl X).bind λJ o=>.ok (p::J) o):=h
  cases m:fl X with
  | ok J o=>
   rw [m] at h;intro L j b l d;have r:((P::b).flatten++O).Perm (b.flatten++(P++O)):=by
    rw [flatten_cons,append_assoc];exact qI _ _ _
   refine h (v::L) j (P::b) l ⟨g.same.trans d.same,by simp [d.len1],by simp [d.len2],d.env.perm r,λa U=>?_,λi u q G R C n=>?_⟩
   ·rcases Nj U with z | z
    ·rw [flatten_cons] at z
     rcases Nj z with z | z
     ·exact g.new a (Ni _ z)
     ·exact (d.new a (Ni _ z)).elim (λy=>g.new a (Nh _ y)) λy=>.inr (g.same.free y)
    ·exact (d.new a (Nh _ z)).elim (λy=>g.new a (Nh _ y)) λy=>.inr (g.same.free y)
   ·have k:∀a∈(P::b).flatten++O++l.flatten,a∈b.flatten++(P++O)++l.flatten:=λa U=>by
     rcases Nj U with z | z
     ·exact Ni _ (r.mem_iff.mp z)
     ·exact Nh _ z
    cases i with
    | zero=>
     simp at R C n
     subst R C n;refine (g.own.mono d.same λa U=>?_).perm k
     rcases Nj U with z | z
     ·rcases Nj z with z | z
      ·exact (d.new a (Ni _ z)).elim (λy=>.inl (Nh _ y)) .inr
      ·exact .inl (Ni _ z)
     ·exact (d.new a (Nh _ z)).elim (λy=>.inl (Nh _ y)) .inr
    | succ i=>
     simp at R C n
     exact (d.own i u q G R C n).perm k
  | er c o=>
   rw [m] at h;exact λj l s I=>h j l (g.same.trans s) I.dropL
  | no=>rw [m] at h;exact h
 | er c X=>rw [e] at h;exact h
 | no=>rw [e] at h;exact h
theorem AftL.reps {f:Hp} {O:List Addr} {t b y:List (List Addr)} {I:Ev} {J:List PV} {L:List V} {F:Hp} (A:AftL K f O t H σ I J L F b y):Reps K F L (J.map (·.d)):=by
 refine ⟨by rw [length_map];exact A.len1,λi v d R C=>?_⟩
 rw [getElem?_map] at C
 cases e:J[i]? with
 | none=>rw [e] at C;cases C
 | some p=>
  rw [e] at C
  cases C;have l:=(Nq e).1
  exact (A.own i v p (b[i]'(by rw [A.len2];exact l)) R e (Nl _)).rep
noncomputable def bb (g:List D->Option D) (q:FL):F1:=λB=>(q B).bind λJ I=>match g (J.map (·.d)) with
 | some d=>.ok ⟨.leaf,d⟩ I
 | none=>.no
noncomputable def GCall (K:Fg) (r:List V->Hp->VK->Prop) (g:List D->Option D):Prop:=∀L H Q N d,Reps K H L N->g N=some d->(∀v,Sc v d->Q v H)->r L H Q
theorem Ag {r:List V->Hp->VK->Prop} {g:List D->Option D} (i:GCall K r g) (h:tE K W (bb g fl) σ H Q):xM r (tA K W fl) σ H Q:=by
 obtain ⟨f,O,t,B,E,h⟩:=h;refine ⟨f,O,t,B,E,?_⟩
 unfold bb at h
 cases e:fl B with
 | ok J I=>
  rw [e] at h;intro L F b y A
  have h:Wants K W f O t H σ Q (match g (J.map (·.d)) with | some d=>.ok ⟨.leaf,d⟩ I | none=>.no):=h
  cases m:g (J.map (·.d)) with
  | none=>rw [m] at h;exact h.elim
  | some d=>
   rw [m] at h;exact i L F Q _ d A.reps m λv s=>Wants.scal h s A.same A.env (λa U=>Nh _ U) E.ndO λa U=>A.new a (Nh _ U)
 | er c I=>rw [e] at h;exact h
 | no=>rw [e] at h;exact h
theorem GCall.or {r r':List V->Hp->VK->Prop} {g g':List D->Option D} (h:GCall K r g) (U:GCall K r' g'):GCall K (λY H Q=>r Y H Q\/r' Y H Q) (λN=>(g N).or (g' N)):=by
 intro L H Q N d y e k;have e:(g N).or (g' N)=some d:=e
 cases B:g N with
 | some z=>rw [B] at e;cases e;exact .inl (h L H Q N _ y B k)
 | none=>rw [B] at e;exact .inr (U L H Q N d y (by simpa using e) k)
theorem Reps.one {L:List V} {d:D} (h:Reps K H L [d]):∃v,L=[v]/\Rep K H v d:=by
 obtain ⟨N,h⟩:=h;match L,N with
 | [v],_=>exact ⟨v,rfl,h 0 v d rfl rfl⟩
theorem Reps.two {L:List V} {d e:D} (h:Reps K H L [d,e]):∃v u,L=[v,u]/\Rep K H v d/\Rep K H u e:=by
 obtain ⟨N,h⟩:=h;match L,N with
 | [v,u],_=>exact ⟨v,u,rfl,h 0 v d rfl rfl,h 1 u e rfl rfl⟩
end
noncomputable def Aw:List D->Option D
 | [.list xs]=>some (.int xs.length)
 | [.tuple xs]=>some (.int xs.length)
 | _=>none
noncomputable def wu:List D->Option D
 | [.str x]=>if x.length<=sizeLine then some (.int x.length) else none
 | _=>none
noncomputable abbrev aQ:List D->Option D:=λN=>(Aw N).or (wu N)
theorem C2 {K:Fg}:GCall K (λY H Q=>(∃p G,Y=[.ref p]/\(SqL K H p G\/SqT K H p G)/\Q (.int G.length) H)\/∃z,Y=[.str z]/\z.length<=sizeLine/\Q (.int z.length) H) aQ:=by
 refine GCall.or (g:=Aw) (g':=wu) (r:=λY H Q=>∃p G,Y=[.ref p]/\(SqL K H p G\/SqT K H p G)/\Q (.int G.length) H) (r':=λY H Q=>∃z,Y=[.str z]/\z.length<=sizeLine/\Q (.int z.length) H) ?_ ?_
 ·intro L H Q N d y e k
  match N,e with
  | [.list Y],e=>
   obtain ⟨v,rfl,r⟩:=y.one
   cases e
   cases r with
   | @lst p us _ hq hl _=>exact ⟨p,us,rfl,.inl hq,by rw [hl];exact k _ (.int _)⟩
  | [.tuple Y],e=>
   obtain ⟨v,rfl,r⟩:=y.one
   cases e
   cases r with
   | @tup p us _ hq hl _=>exact ⟨p,us,rfl,.inr hq,by rw [hl];exact k _ (.int _)⟩
 ·intro L H Q N d y e k
  match N,e with
  | [.str x],e=>
   obtain ⟨v,rfl,r⟩:=y.one;simp only [wu] at e
   split at e
   ·rename_i z
    cases e
    cases r;exact ⟨x,rfl,z,k _ (.int _)⟩
   ·cases e
noncomputable def gF:List D->Option D
 | [.int i]=>some (.int i)
 | [.bool b]=>some (.int (if b then 1 else 0))
 | _=>none
theorem C3 {K:Fg}:GCall K (λY H Q=>(∃i,Y=[.int i]/\Q (.int i) H)\/∃k,Y=[.bl k]/\Q (.int (if k then 1 else 0)) H) gF:=by
 intro L H Q N d y e k;match N,e with
 | [.int i],e=>
  obtain ⟨v,rfl,r⟩:=y.one
  cases e;cases r;exact .inl ⟨i,rfl,k _ (.int _)⟩
 | [.bool b],e=>
  obtain ⟨v,rfl,r⟩:=y.one
  cases e;cases r;exact .inr ⟨b,rfl,k _ (.int _)⟩
noncomputable def MY:List D->Option D
 | [.int i,.int j]=>some (.int (if j>i then j else i))
 | _=>none
noncomputable def cO:List D->Option (List Bool)
 | []=>some []
 | .bool b::r=>(cO r).map (b :: ·)
 | _=>none
theorem jb:∀{N:List D} {bs:List Bool},cO N=some bs->N=bs.map PyData.bool
 | [],bs,h=>by cases h;rfl
 | .bool b::r,bs,h=>by
  simp only [cO] at h
  cases e:cO r with
  | none=>rw [e] at h;cases h
  | some u=>rw [e] at h;cases h;rw [jb e];rfl
 | .none::_,_,h=>by cases h
 | .int _::_,_,h=>by cases h
 | .str _::_,_,h=>by cases h
 | .list _::_,_,h=>by cases h
 | .tuple _::_,_,h=>by cases h
 | .dict _::_,_,h=>by cases h
noncomputable def eG (any:Bool):List D->Option D
 | [.list xs]=>(cO xs).map λbs=>.bool (if any then bs.any id else bs.all id)
 | _=>none
theorem iF {K:Fg} {H:Hp}:∀{vs:List V} {bs:List Bool},Reps K H vs (bs.map PyData.bool)->vs=bs.map V.bl
 | [],[],_=>rfl
 | v::vs,b::bs,⟨hl,h⟩=>by
  have r:=h 0 v (.bool b) rfl rfl
  cases r;rw [iF (bs:=bs) (vs:=vs) ⟨by simpa using hl,λi v d R C=>h (i+1) v d (by simpa using R) (by simpa using C)⟩]
  rfl
 | [],_::_,⟨hl,_⟩=>by simp at hl
 | _::_,[],⟨hl,_⟩=>by simp at hl
noncomputable def vj (K:Fg) (any:Bool):List V->Hp->VK->Prop:=λY H Q=>∃(p:Addr) (bs:List Bool),Y=[.ref p]/\SqL K H p (bs.map V.bl)/\Q (.bl (if any then bs.any id else bs.all id)) H
theorem C4 {K:Fg} {any:Bool}:GCall K (vj K any) (eG any):=by
 intro L H Q N d y e k;match N,e with
 | [.list xs],e=>
  obtain ⟨v,rfl,r⟩:=y.one;simp only [eG] at e
  cases g:cO xs with
  | none=>rw [g] at e;cases e
  | some bs=>
   rw [g] at e
   cases e;have:=jb g
   subst this
   cases r with
   | @lst p us _ hq hl hr=>
    have:=iF ⟨hl,hr⟩
    subst this;exact ⟨p,bs,rfl,hq,k _ (.bl _)⟩
section
variable {X:Cx}
theorem uk {bs:List Bool}:∀{g:List Value},Vals (bs.map V.bl) g->g=bs.map Value.bool:=by
 induction bs with
 | nil=>intro g h;cases h;rfl
 | cons b bs f=>
  intro g h
  cases h with
  | cons r t=>
   cases (show _=Value.bool b from r)
   rw [f t];rfl
theorem sQ (bs:List Bool):(List.range bs.length).all (λi=>bs.getD i false)=bs.all id:=by
 rw [Bool.eq_iff_iff,all_eq_true,all_eq_true];constructor
 ·intro h b Z
  obtain ⟨i,l,e⟩:=List.mem_iff_getElem.mp Z;have:=h i (List.mem_range.mpr l)
  rw [Nm,Nl l] at this;rw [<-e];simpa using this
 ·intro h i l
  have l:=List.mem_range.mp l
  rw [Nm,Nl l];exact h _ (getElem_mem l)
theorem my {c:Program} {w:World} {A:Around} {bs:List Bool}:TruthOf c w A (λi v=>(bs.map Value.bool).toArray[i]?=some v) (λi=>bs.getD i false):=by
 intro i v s Q E j k;simp only [getElem?_toArray,getElem?_map] at j
 cases e:bs[i]? with
 | none=>rw [e] at j;cases j
 | some b=>
  rw [e] at j
  cases j;have k:Q (bs.getD i false) s:=k
  rw [Nm,e] at k;exact wpAny_truthy_bool k
theorem kI (J:X.calm=true):CallR X (.builtin "all") (vj X.K false):=by
 intro B s M H L d Q I f h;obtain ⟨p,bs,rfl,a,q⟩:=h;obtain ⟨u,rfl,C⟩:=vals1 f
 cases C;obtain ⟨g,f,Z,c⟩:=I.list a;have:=uk f
 subst this;have F:=I.ok.hd J
 refine call_all_walk (wpAny_pyIter_list Z.isList ?_)
 have P:p≠s.heap.objs.size:=by
  obtain ⟨o,n,e,_⟩:=Z;exact Nat.ne_of_lt (Heap.lt_size e)
 refine ⟨s.heap.objs.size,_,_,_,_,_,λi=>bs.getD i false,rfl,Walks.list (prog:=X.prog) (w:=X.w) (A:=X.A.in1) F s.heap.objs.size p P (bs.map Value.bool).toArray,⟨⟨_,Heap.get?_push_size _ rfl,rfl,rfl⟩,Z.isList.at λo e=>Nu _ e⟩,my,λh' G O=>?_⟩
 refine ⟨.bl _,H,I.kept (h':=h') (t':=G) λb o e=>O b o (λz=>?_) (Nu _ e),rfl,?_⟩
 ·have z:b=s.heap.objs.size:=by simpa using z
  exact absurd (Heap.lt_size e) (by rw [z];exact Nat.lt_irrefl _)
 ·rw [size_toArray,length_map,sQ]
  exact q
end
noncomputable def bT (s:Sh) (j:Nat) (d:D):Option Sh:=match s with
 | .leaf=>some .leaf
 | .view=>some (if bD d then .leaf else .view)
 | .lst s=>some s
 | .tup u=>u[j]?
noncomputable def ah (a e:F1):F1:=aY a λp=>aY e λq=>λB=>match q.d with
 | .int i=>(match p.d with
  | .list N=>(match fG N.length i with
   | some j=>(match N[j]? with
    | some d=>(match bT p.s j d with
     | some s=>.ok ⟨s,d⟩ B
     | none=>.no)
    | none=>.no)
   | none=>.no)
  | .tuple N=>(match fG N.length i with
   | some j=>(match N[j]? with
    | some d=>(match bT p.s j d with
     | some s=>.ok ⟨s,d⟩ B
     | none=>.no)
    | none=>.no)
   | none=>.no)
  | .str z=>if z.length<=sizeLine then (match gu z.cps.toList i with
   | some c=>.ok ⟨.leaf,.str ⟨#[c]⟩⟩ B
   | none=>.no) else .no
  | _=>.no)
 | _=>.no
theorem Own.item {K:Fg} {O:List Addr} {H:Hp} {s f:Sh} {G:List Addr} {p:Addr} {N:List D} {j:Nat} {d:D} (h:Own K O H s G (.ref p) (.list N)) (F:N[j]?=some d) (Y:bT s j d=some f) :
  ∃L v g,SqL K H p L/\L.length=N.length/\L[j]?=some v/\(∀a∈g,a∈G)/\g.Nodup/\Own K O H f g v d:=by
 have l:=(Nq F).1
 cases h with
 | view r=>
  cases r with
  | @lst _ L _ hq hl hr=>
   have P:L[j]?=some (L[j]'(by omega)):=Nl _
   have t:=hr j _ d P F
   simp only [bT,Option.some.injEq] at Y
   cases e:bD d with
   | true=>
    rw [e] at Y
    cases Y;exact ⟨L,_,[],hq,hl,P,(λ_ z=>nomatch z),nodup_nil,.leaf (t.sc e).rep⟩
   | false=>
    rw [e] at Y
    cases Y;exact ⟨L,_,[],hq,hl,P,(λ_ z=>nomatch z),nodup_nil,.view t⟩
 | leaf r=>
  cases r with
  | @lst _ L _ hq hl hr=>
   have P:L[j]?=some (L[j]'(by omega)):=Nl _
   cases Y;exact ⟨L,_,[],hid_le.seq hq,hl,P,(λ_ z=>nomatch z),nodup_nil,.leaf (hr j _ d P F)⟩
 | @lst s₀ _ L _ Fs P hp hl hf nd hr=>
  have b:L[j]?=some (L[j]'(by omega)):=Nl _
  have c:Fs[j]?=some (Fs[j]'(by omega)):=Nl _
  cases Y;refine ⟨L,_,_,.of hp,hl,b,λa U=>Nn _ (oI c U),?_,hr j _ d _ b F c⟩
  exact ((List.nodup_cons.mp nd).2).sublist (List.sublist_flatten_of_mem (mem_of_getElem? c))
theorem Own.itemT {K:Fg} {O:List Addr} {H:Hp} {s f:Sh} {G:List Addr} {p:Addr} {N:List D} {j:Nat} {d:D} (h:Own K O H s G (.ref p) (.tuple N)) (F:N[j]?=some d) (Y:bT s j d=some f) :
  ∃L v g,SqT K H p L/\L.length=N.length/\L[j]?=some v/\(∀a∈g,a∈G)/\g.Nodup/\Own K O H f g v d:=by
 have l:=(Nq F).1
 cases h with
 | view r=>
  cases r with
  | @tup _ L _ hq hl hr=>
   have P:L[j]?=some (L[j]'(by omega)):=Nl _
   have t:=hr j _ d P F
   simp only [bT,Option.some.injEq] at Y
   cases e:bD d with
   | true=>
    rw [e] at Y
    cases Y;exact ⟨L,_,[],hq,hl,P,(λ_ z=>nomatch z),nodup_nil,.leaf (t.sc e).rep⟩
   | false=>
    rw [e] at Y
    cases Y;exact ⟨L,_,[],hq,hl,P,(λ_ z=>nomatch z),nodup_nil,.view t⟩
 | leaf r=>
  cases r with
  | @tup _ L _ hq hl hr=>
   have P:L[j]?=some (L[j]'(by omega)):=Nl _
   cases Y;exact ⟨L,_,[],bB hid_le hq,hl,P,(λ_ z=>nomatch z),nodup_nil,.leaf (hr j _ d P F)⟩
 | @tup ss _ L _ Fs P hp hn hl hf hl2 nd hr=>
  have b:L[j]?=some (L[j]'(by omega)):=Nl _
  have c:Fs[j]?=some (Fs[j]'(by omega)):=Nl _
  have Y:ss[j]?=some f:=Y
  refine ⟨L,_,_,.of hp,hl,b,λa U=>oI c U,?_,hr j _ d _ _ b F c Y⟩
  exact nd.sublist (List.sublist_flatten_of_mem (mem_of_getElem? c))
theorem Wants.part {K:Fg} {W:XW} {M:St} {f H j:Hp} {O G g:List Addr} {t l:List (List Addr)} {I:Ev} {Q:VK} {s:Sh} {v:V} {d:D} (h:Wants K W f O t H M Q (.ok ⟨s,d⟩ I)) (e:Same H j)
  (E:EnvOk K f (G++O) l j M I) (C:∀a∈g,a∈G) (J:g.Nodup) (L:∀a∈G++l.flatten,a∈t.flatten\/H a=none) (o:Own K (G++O++l.flatten) j s g v d):Q v j:=by
 have sub2:∀a∈g++O,a∈G++O:=λa U=>by
  rcases Nj U with z | z
  ·exact Ni _ (C a z)
  ·exact Nh _ z
 obtain ⟨k,u,w⟩:=Np E.ndO;refine h v j g l ⟨e,E.drop sub2 (List.nodup_append.mpr ⟨J,u,λa U b Z=>w a (C a U) b Z⟩),λa U=>L a ?_,o.perm λa U=>?_⟩
 ·rcases Nj U with z | z
  ·exact Ni _ (C a z)
  ·exact Nh _ z
 ·rcases Nj U with z | z
  ·exact Ni _ (sub2 a z)
  ·exact Nh _ z
theorem wZ {u d:Type} {Y:List u} {G:List d} {i:Int} {j:Nat} {v:u} (N:Y.length=G.length) (h:fG G.length i=some j) (P:Y[j]?=some v):gu Y i=some v:=by
 unfold gu;rw [N,h];exact P
section
variable {K:Fg} {W:XW} {σ:St} {H:Hp} {Q:VK} {fa fb:F1}
theorem BJ (h:tE K W (ah fa fb) σ H Q):sx (BW K) (tE K W fa) (tE K W fb) σ H Q:=by
 refine D0 h ?_
 intro f O t o p q v u Z H2 P G l nd A s2 E new X x w;obtain ⟨J,pd⟩:=p;obtain ⟨qs,qd⟩:=q;have ri:=x.rep
 cases qd<;>try exact w.elim
 rename_i i
 cases ri;have r:EnvOk K f ((G++P)++O) l H2 σ o:=by rw [append_assoc];exact E
 have e:∀a∈(G++P)++l.flatten,a∈t.flatten\/H a=none:=λa U=>new a (by rw [<-append_assoc];exact U)
 have o1':Own K ((G++P)++O++l.flatten) H2 J P v pd:=X.perm λa U=>by rw [append_assoc G] at U;exact U
 have rp:=X.rep
 cases pd with
 | list N=>
  obtain ⟨y,rfl⟩:∃y,v=.ref y:=by cases rp;exact ⟨_,rfl⟩
  have w:Wants K W f O t H σ Q (match fG N.length i with | some j=>(match N[j]? with | some d=>(match bT J j d with | some s=>.ok ⟨s,d⟩ o | none=>.no) | none=>.no) | none=>.no):=w
  cases B:fG N.length i with
  | none=>rw [B] at w;exact w.elim
  | some j=>
   rw [B] at w;have w:Wants K W f O t H σ Q (match N[j]? with | some d=>(match bT J j d with | some s=>.ok ⟨s,d⟩ o | none=>.no) | none=>.no):=w
   cases m:N[j]? with
   | none=>rw [m] at w;exact w.elim
   | some d=>
    rw [m] at w;have w:Wants K W f O t H σ Q (match bT J j d with | some s=>.ok ⟨s,d⟩ o | none=>.no):=w
    cases M:bT J j d with
    | none=>rw [M] at w;exact w.elim
    | some s=>
     rw [M] at w;obtain ⟨L,Y,g,R,C,n,h4,F,I⟩:=o1'.item m M
     exact .inl ⟨y,L,i,Y,rfl,rfl,R,wZ C B n,Wants.part w (A.trans s2) r (λa U=>Nh _ (h4 a U)) F e I⟩
 | tuple N=>
  obtain ⟨y,rfl⟩:∃y,v=.ref y:=by cases rp;exact ⟨_,rfl⟩
  have w:Wants K W f O t H σ Q (match fG N.length i with | some j=>(match N[j]? with | some d=>(match bT J j d with | some s=>.ok ⟨s,d⟩ o | none=>.no) | none=>.no) | none=>.no):=w
  cases B:fG N.length i with
  | none=>rw [B] at w;exact w.elim
  | some j=>
   rw [B] at w;have w:Wants K W f O t H σ Q (match N[j]? with | some d=>(match bT J j d with | some s=>.ok ⟨s,d⟩ o | none=>.no) | none=>.no):=w
   cases m:N[j]? with
   | none=>rw [m] at w;exact w.elim
   | some d=>
    rw [m] at w;have w:Wants K W f O t H σ Q (match bT J j d with | some s=>.ok ⟨s,d⟩ o | none=>.no):=w
    cases M:bT J j d with
    | none=>rw [M] at w;exact w.elim
    | some s=>
     rw [M] at w;obtain ⟨L,Y,g,R,C,n,h4,F,I⟩:=o1'.itemT m M
     exact .inr (.inl ⟨y,L,i,Y,rfl,rfl,R,wZ C B n,Wants.part w (A.trans s2) r (λa U=>Nh _ (h4 a U)) F e I⟩)
 | str z=>
  cases rp;have w:Wants K W f O t H σ Q (if z.length<=sizeLine then (match gu z.cps.toList i with | some c=>.ok ⟨.leaf,.str ⟨#[c]⟩⟩ o | none=>.no) else .no):=w
  by_cases hz:z.length<=sizeLine
  ·rw [if_pos hz] at w
   cases B:gu z.cps.toList i with
   | none=>rw [B] at w;exact w.elim
   | some c=>
    rw [B] at w;exact .inr (.inr ⟨z,i,c,rfl,rfl,hz,B,Wants.scal w (.str _) (A.trans s2) E (λa U=>Nh _ (Nh _ U)) nd λa U=>new a (Nh _ (Nh _ U))⟩)
  ·rw [if_neg hz] at w
   exact w.elim
 | none=>exact w.elim
 | bool b=>exact w.elim
 | int k=>exact w.elim
 | dict k=>exact w.elim
end
theorem nL (s:Sh):∀b:List (List Addr),((b.map (bc s)).flatten).Sublist b.flatten
 | []=>List.Sublist.refl _
 | G::b=>by
  simp only [map_cons,flatten_cons]
  refine List.Sublist.append ?_ (nL s b)
  unfold bc;split
  ·exact List.nil_sublist _
  ·exact List.Sublist.refl _
theorem km:∀b:List (List Addr),(b.map (bc .leaf)).flatten=[]
 | []=>rfl
 | _::b=>by simp only [map_cons,flatten_cons,km b];rfl
section
variable {K:Fg} {W:XW} {σ:St} {He H H':Hp} {O:List Addr} {Fs Fs' Gs:List (List Addr)} {Γ':Ev} {ps:List PV} {vs:List V} {Q:VK}
theorem AftL.newList {s:Sh} {p:Addr} (A:AftL K He O Fs H σ Γ' ps vs H' Gs Fs') (Y:s.isView=false) (J:ps.all (T.coer s)=true) (g:H' p=none) :
  Aft K He O Fs H σ Γ' ⟨.lst s,.list (ps.map (·.d))⟩ (.ref p) (aR H' p (.lst vs)) (p::(Gs.map (bc s)).flatten) Fs':=by
 obtain ⟨k,l,w⟩:=Np A.env.ndO;obtain ⟨r,P,j⟩:=Np A.env.nd;have x:=nL s Gs
 have e:EnvOk K He ((Gs.map (bc s)).flatten++O) Fs' H' σ Γ':=A.env.drop (λa U=>by
   rcases Nj U with z | z
   ·exact Ni _ (x.subset z)
   ·exact Nh _ z) (List.nodup_append.mpr ⟨k.sublist x,l,λa U b Z=>w a (x.subset U) b Z⟩)
 have I:=e.hide (G:=[p]) (dH (o:=.lst vs) g) (by simp) (λa U=>by simp at U;rw [U];exact g) (λa U=>by simp at U;rw [U,cL];exact Option.some_ne_none _)
 have h:∀{a},a∈Gs.flatten++O++Fs'.flatten->a≠p:=λ{a} U z=>A.env.inH a U (by rw [z];exact g)
 refine ⟨A.same.trans (dH g),I,λa U=>?_,?_⟩
 ·rcases Nj U with z | z
  ·rcases Nk z with z | z
   ·rw [z];exact .inr (A.same.free g)
   ·exact A.new a (Ni _ (x.subset z))
  ·exact A.new a (Nh _ z)
 ·refine .lst Y cL (by rw [length_map];exact A.len1) (by rw [length_map,length_map];exact A.len2) ?_ λi v d F R C n=>?_
  ·refine List.nodup_cons.mpr ⟨λz=>h (Ni _ (Ni _ (x.subset z))) rfl,k.sublist x⟩
  ·rw [getElem?_map] at C n
   cases m:ps[i]? with
   | none=>rw [m] at C;cases C
   | some q=>
    cases M:Gs[i]? with
    | none=>rw [M] at n;cases n
    | some G=>
     rw [m] at C;rw [M] at n
     cases C
     cases n;have c:T.coer s q=true:=List.all_eq_true.mp J q (mem_of_getElem? m)
     have X:=(A.own i v q G R m M).mono (O':=p::(Gs.flatten++O++Fs'.flatten)) (dH (o:=.lst vs) g) λa U=>by
      rcases Nk U with z | z
      ·rw [z];exact .inr g
      ·exact .inl z
     refine X.coer c (λa U=>?_) λa U B=>?_
     ·rw [append_assoc] at U
      rcases Nj U with z | z
      ·rcases Nk z with z | z
       ·rw [z];exact mem_cons_self
       ·exact Nn _ (Ni _ (Ni _ (x.subset z)))
      ·rcases Nj z with z | z
       ·exact Nn _ (Ni _ (Nh _ z))
       ·exact Nn _ (Nh _ z)
     ·have f:a∈Gs.flatten:=oI M U
      cases s with
      | leaf=>
       rw [km] at B;exfalso
       rw [append_assoc] at B;rcases Nj B with z | z
       ·have z:a=p:=by simpa using z
        exact h (Ni _ (Ni _ f)) z
       ·rcases Nj z with z | z
        ·exact w a f a z rfl
        ·exact j a (Ni _ f) a z rfl
      | view=>cases Y
      | lst s=>exact U
      | tup u=>exact U
noncomputable def aW (s:Sh) (q:FL):F1:=λB=>(q B).bind λps Γ'=>if !s.isView&&ps.all (T.coer s)&&decide (ps.length<=sizeLine) then .ok ⟨.lst s,.list (ps.map (·.d))⟩ Γ' else .no
theorem yg {s:Sh} {q:FL} (h:tE K W (aW s q) σ H Q):uN (tA K W q) σ H Q:=by
 obtain ⟨He,O,Fs,B,E,h⟩:=h;refine ⟨He,O,Fs,B,E,?_⟩
 unfold aW at h
 cases e:q B with
 | ok ps Γ'=>
  rw [e] at h;intro vs H' Gs Fs' A
  have h:Wants K W He O Fs H σ Q (if (!s.isView&&ps.all (T.coer s)&&decide (ps.length<=sizeLine))=true then .ok ⟨.lst s,.list (ps.map (·.d))⟩ Γ' else .no):=h
  by_cases J:(!s.isView&&ps.all (T.coer s)&&decide (ps.length<=sizeLine))=true
  ·rw [if_pos J] at h
   simp only [Bool.and_eq_true,decide_eq_true_eq,Bool.not_eq_true'] at J
   exact ⟨by rw [A.len1];exact J.2,λp g=>h _ _ _ _ (A.newList J.1.1 J.1.2 g)⟩
  ·rw [if_neg J] at h
   exact h.elim
 | er c Γ'=>rw [e] at h;exact h
 | no=>rw [e] at h;exact h
noncomputable def A9 (p:PV):Sh:=if p.s.isView then .leaf else p.s
noncomputable def tok (p:PV):Bool:=!p.s.isView||bD p.d
theorem AftL.newTup {p:Addr} (A:AftL K He O Fs H σ Γ' ps vs H' Gs Fs') (J:ps.all tok=true) (g:H' p=none) :
  Aft K He O Fs H σ Γ' ⟨.tup (ps.map A9),.tuple (ps.map (·.d))⟩ (.ref p) (aR H' p (.tup vs)) Gs.flatten Fs':=by
 obtain ⟨k,u,w⟩:=Np A.env.ndO;have h:p∉Gs.flatten++O++Fs'.flatten:=λU=>A.env.inH p U g
 refine ⟨A.same.trans (dH g),A.env.grow (dH g),A.new,?_⟩
 refine .tup (λs Y=>?_) cL h (by rw [length_map];exact A.len1) (by rw [length_map];exact A.len2) (by rw [length_map,length_map]) k λi v d F s R C n f=>?_
 ·obtain ⟨q,_,rfl⟩:=List.mem_map.mp Y
  unfold A9;split
  ·rfl
  ·rename_i z;simpa using z
 ·rw [getElem?_map] at C f
  cases m:ps[i]? with
  | none=>rw [m] at C;cases C
  | some q=>
   rw [m] at C f
   cases C
   cases f;have c:tok q=true:=List.all_eq_true.mp J q (mem_of_getElem? m)
   have X:=(A.own i v q F R m n).mono (O':=Gs.flatten++O++Fs'.flatten) (dH (o:=.tup vs) g) λa U=>.inl U
   unfold A9
   cases P:q.s.isView with
   | false=>exact X
   | true=>
    unfold tok at c;rw [P] at c;obtain ⟨s,d⟩:=q
    cases s with
    | view=>
     cases X with
     | view r=>exact .leaf (r.sc (by simpa using c)).rep
    | _=>cases P
noncomputable def bz (q:FL):F1:=λB=>(q B).bind λps Γ'=>if ps.all tok&&decide (ps.length<=sizeLine) then .ok ⟨.tup (ps.map A9),.tuple (ps.map (·.d))⟩ Γ' else .no
theorem BA {q:FL} (h:tE K W (bz q) σ H Q):mz (tA K W q) σ H Q:=by
 obtain ⟨He,O,Fs,B,E,h⟩:=h;refine ⟨He,O,Fs,B,E,?_⟩
 unfold bz at h
 cases e:q B with
 | ok ps Γ'=>
  rw [e] at h;intro vs H' Gs Fs' A
  have h:Wants K W He O Fs H σ Q (if (ps.all tok&&decide (ps.length<=sizeLine))=true then .ok ⟨.tup (ps.map A9),.tuple (ps.map (·.d))⟩ Γ' else .no):=h
  by_cases J:(ps.all tok&&decide (ps.length<=sizeLine))=true
  ·rw [if_pos J] at h
   simp only [Bool.and_eq_true,decide_eq_true_eq] at J
   exact ⟨by rw [A.len1];exact J.2,λp g=>h _ _ _ _ (A.newTup J.1 g)⟩
  ·rw [if_neg J] at h
   exact h.elim
 | er c Γ'=>rw [e] at h;exact h
 | no=>rw [e] at h;exact h
end
noncomputable def aH (p:PV) (N:List D):Bool:=!p.s.isView||N.all bD
theorem Own.items {K:Fg} {O O':List Addr} {H:Hp} {s:Sh} {G:List Addr} {v:V} {N:List D} (h:Own K O H s G v (.list N)) (J:aH ⟨s,.list N⟩ N=true) (R:∀a∈O',a∈O) (C:∀a∈G,a∉O') :
  ∃p L,v=.ref p/\SqL K H p L/\(s.isView=false->SqL K (aS H O') p L)/\Reps K (aS H O') L N:=by
 have M:=h.rep
 cases P:s.isView with
 | false=>
  have r:=h.freeze P R C
  cases r with
  | @lst p L _ hq hl M=>exact ⟨p,L,rfl,hid_le.seq hq,λ_=>hq,hl,M⟩
 | true=>
  unfold aH at J;have J:N.all bD=true:=by simpa [P] using J
  cases M with
  | @lst p L _ hq hl M=>exact ⟨p,L,rfl,hq,nofun,hl,λi v d B m=>((M i v d B m).sc (List.all_eq_true.mp J d (mem_of_getElem? m))).rep⟩
theorem Own.itemsT {K:Fg} {O O':List Addr} {H:Hp} {s:Sh} {G:List Addr} {v:V} {N:List D} (h:Own K O H s G v (.tuple N)) (J:aH ⟨s,.tuple N⟩ N=true) (R:∀a∈O',a∈O) (C:∀a∈G,a∉O') :
  ∃p L,v=.ref p/\SqT K H p L/\(s.isView=false->SqT K (aS H O') p L)/\Reps K (aS H O') L N:=by
 have M:=h.rep
 cases P:s.isView with
 | false=>
  have r:=h.freeze P R C
  cases r with
  | @tup p L _ hq hl M=>exact ⟨p,L,rfl,bB hid_le hq,λ_=>hq,hl,M⟩
 | true=>
  unfold aH at J;have J:N.all bD=true:=by simpa [P] using J
  cases M with
  | @tup p L _ hq hl M=>exact ⟨p,L,rfl,hq,nofun,hl,λi v d B m=>((M i v d B m).sc (List.all_eq_true.mp J d (mem_of_getElem? m))).rep⟩
theorem Iy {K:Fg} {M:St} {f H Z:Hp} {O:List Addr} {t Y:List (List Addr)} {X:Ev} {L:List V} {N:List D} {p:Addr} (E:EnvOk K f O Y Z M X) (s:Same H Z) (n:∀a∈Y.flatten,a∈t.flatten\/H a=none)
  (c:Reps K (aS Z (O++Y.flatten)) L N) (g:Z p=none):Aft K f O t H M X ⟨.lst .leaf,.list N⟩ (.ref p) (aR Z p (.lst L)) [p] Y:=by
 have I:=E.hide (G:=[p]) (dH (o:=.lst L) g) (by simp) (λa U=>by simp at U;rw [U];exact g) (λa U=>by simp at U;rw [U,cL];exact Option.some_ne_none _)
 refine ⟨s.trans (dH g),I,λa U=>?_,?_⟩
 ·rcases Nj U with z | z
  ·have z:a=p:=by simpa using z
   rw [z];exact .inr (s.free g)
  ·exact n a z
 ·have q:(List.replicate N.length ([]:List Addr)).flatten=[]:=by simp
  have:[p]=p::(List.replicate N.length ([]:List Addr)).flatten:=by rw [q]
  rw [this];refine .lst rfl cL c.1 (by simp) (by rw [q];simp) λi v d F R C b=>?_
  rw [getElem?_replicate] at b;split at b
  ·cases b
   refine .leaf ((c.2 i v d R C).mono (fF (dH g) λa U=>?_))
   rw [q] at U;rcases Nj U with z | z
   ·rcases Nj z with z | z
    ·have z:a=p:=by simpa using z
     rw [z];exact .inr g
    ·exact .inl (Ni _ z)
   ·exact .inl (Nh _ z)
  ·cases b
noncomputable def bO (z:F1):F1:=aY z λp B=>match p.d with
 | .list N=>if aH p N then .ok ⟨.lst .leaf,.list N⟩ B else .no
 | .tuple N=>if aH p N then .ok ⟨.lst .leaf,.list N⟩ B else .no
 | _=>.no
section
variable {K:Fg} {W:XW} {σ:St} {H:Hp} {Q:VK} {fa fb:F1}
theorem Aft.disj {f Z:Hp} {O G:List Addr} {t Y:List (List Addr)} {X:Ev} {p:PV} {v:V} (A:Aft K f O t H σ X p v Z G Y):∀a∈G,a∉O++Y.flatten:=λa U z=>by
 have J:=A.env.nd
 rw [append_assoc] at J;exact (Np J).2.2 a U a z rfl
theorem oQ {G O F:List Addr}:∀a∈O++F,a∈G++O++F:=λa U=>by
 rw [append_assoc];exact Nh _ U
theorem sN (h:tE K W (bO fa) σ H Q):xM (λY H Q=>∃p g,Y=[.ref p]/\(SqL K H p g\/SqT K H p g)/\∀l,H l=none->Q (.ref l) (aR H l (.lst g))) (tA K W (ab fa af)) σ H Q:=by
 have R:tE K W fa σ H λx Z=>∃p g,x=.ref p/\(SqL K Z p g\/SqT K Z p g)/\∀l,Z l=none->Q (.ref l) (aR Z l (.lst g)):=by
  refine Ih h λf O t X p v Z G i m A w=>?_
  obtain ⟨s,d⟩:=p
  cases d with
  | list N=>
   have w:Wants K W f O t H σ Q (if aH ⟨s,.list N⟩ N then .ok ⟨.lst .leaf,.list N⟩ X else .no):=w
   cases J:aH ⟨s,.list N⟩ N with
   | false=>rw [J] at w;exact w.elim
   | true=>
    rw [J] at w;obtain ⟨p,L,rfl,n,_,M⟩:=A.own.items (O':=O++i.flatten) J oQ A.disj
    exact ⟨p,L,rfl,.inl n,λl j=>w _ _ _ _ (Iy A.go A.same A.newF M j)⟩
  | tuple N=>
   have w:Wants K W f O t H σ Q (if aH ⟨s,.tuple N⟩ N then .ok ⟨.lst .leaf,.list N⟩ X else .no):=w
   cases J:aH ⟨s,.tuple N⟩ N with
   | false=>rw [J] at w;exact w.elim
   | true=>
    rw [J] at w;obtain ⟨p,L,rfl,n,_,M⟩:=A.own.itemsT (O':=O++i.flatten) J oQ A.disj
    exact ⟨p,L,rfl,.inr n,λl j=>w _ _ _ _ (Iy A.go A.same A.newF M j)⟩
  | _=>exact w.elim
 obtain ⟨f,O,t,B,E,R⟩:=R;refine ⟨f,O,t,B,E,?_⟩
 unfold ab af
 cases e:fa B with
 | ok p I=>
  rw [e] at R;intro L F b y A
  match L,b,A.len1,A.len2 with
  | [v],[G],_,_=>
   have a:Aft K f O t H σ I p v F G y:=⟨A.same,by simpa using A.env,by simpa using A.new,by simpa using A.own 0 v p G rfl rfl rfl⟩
   obtain ⟨q,g,rfl,C,k⟩:=R v F G y a
   exact ⟨q,g,rfl,C,k⟩
 | er c I=>rw [e] at R;exact R
 | no=>rw [e] at R;exact R
end
structure zL (J:It) (P:Hp->Prop) (vs:List V):Prop where
 go:∀(i:Nat) H v,P H->vs[i]?=some v->J.go i H/\∀x H',J.yld i H x H'->H'=H/\x=v
 stop:∀H,P H->J.stop vs.length H
theorem yU {K:Fg} {a:Addr} {L:List V}:zL (DL K a) (λH=>SqL K H a L) L:=
 ⟨λi H v g P=>⟨⟨L,v,g,P⟩,λx F ⟨e,q⟩=>⟨e,Option.some.inj ((q L g).symm.trans P)⟩⟩,λH g=>⟨L,g,Nv _⟩⟩
theorem CL {K:Fg} {a:Addr} {L:List V}:zL (DJ K a) (λH=>SqT K H a L) L:=
 ⟨λi H v g P=>⟨⟨L,v,g,P⟩,λx F ⟨e,q⟩=>⟨e,Option.some.inj ((q L g).symm.trans P)⟩⟩,λH g=>⟨L,g,Nv _⟩⟩
noncomputable def eZ (r:Int) (n:Nat):List V:=(List.range n).map λi=>.int (r+(i:Nat))
noncomputable def bS (r:Int) (n:Nat):List D:=(List.range n).map λi=>.int (r+(i:Nat))
theorem wc {r:Int} {n:Nat}:zL (xq r n) (λ_=>True) (eZ r n):=by
 refine ⟨λi H v _ P=>?_,λH _=>?_⟩
 ·unfold eZ at P
  rw [getElem?_map] at P
  cases e:(List.range n)[i]? with
  | none=>rw [e] at P;cases P
  | some k=>
   rw [e] at P;obtain ⟨R,C⟩:=Nq e
   simp at R C
   subst C
   cases P;exact ⟨R,λx F ⟨q1,q2⟩=>⟨q1,q2⟩⟩
 ·show n<=(eZ r n).length
  simp [eZ]
theorem JX {K:Fg} {H:Hp} {lo:Int} {n:Nat}:Reps K H (eZ lo n) (bS lo n):=by
 refine ⟨by simp [eZ,bS],λi v d R C=>?_⟩
 unfold eZ at R;unfold bS at C;rw [getElem?_map] at R C
 cases e:(List.range n)[i]? with
 | none=>rw [e] at R;cases R
 | some k=>
  rw [e] at R C
  cases R
  cases C;exact .int _
structure MK where
 ds:List D
 st:Bool
abbrev FI:=Ev->Out MK
noncomputable def jc (K:Fg) (W:XW) (f:Hp) (O:List Addr) (b:List (List Addr)) (H:Hp) (M:St) (R:It->Hp->Prop) (o:Out MK):Prop:=match o with
 | .ok t I=>∀J F y L P,Same H F->EnvOk K f O y F M I->(∀a∈y.flatten,a∈b.flatten\/H a=none)->zL J P L->P F->(∀j,Same F j->P j)->(t.st=true->∀j,Same (aS F y.flatten) j->P j) ->
   Reps K (aS F (O++y.flatten)) L t.ds->R J F
 | .er c I=>∀F y,Same H F->EnvOk K f O y F M I->W c M F
 | .no=>False
noncomputable def tI (K:Fg) (W:XW) (f:FI):TI:=λM H R=>∃a O t B,EnvOk K a O t H M B/\jc K W a O t H M R (f B)
theorem rY {X:Cx} {l z:Expr} {t O:TI} (h:PI X l z t) (i:∀M H R,O M H R->t M H R):PI X l z O:=λB s M H R I q=>h B s M H R I (i M H R q)
noncomputable def aU (z:F1):FI:=λB=>(z B).bind λp I=>match p.d with
 | .list N=>if aH p N then .ok ⟨N,!p.s.isView⟩ I else .no
 | _=>.no
noncomputable def gY (z:F1):FI:=λB=>(z B).bind λp I=>match p.d with
 | .tuple N=>if aH p N then .ok ⟨N,!p.s.isView⟩ I else .no
 | _=>.no
section
variable {K:Fg} {W:XW} {σ:St} {H:Hp} {R:It->Hp->Prop} {fa fb:F1}
theorem sub_hid {H:Hp} {O F:List Addr}:Same (aS H (O++F)) (aS H F):=fF (Same.refl _) λa U=>.inl (Nh _ U)
theorem yi (h:tI K W (aU fa) σ H R):cS K (tE K W fa) σ H R:=by
 obtain ⟨f,O,t,B,E,h⟩:=h;refine ⟨f,O,t,B,E,?_⟩
 unfold aU at h
 cases e:fa B with
 | ok p X=>
  rw [e] at h;intro v Z G Y A;obtain ⟨s,d⟩:=p
  cases d with
  | list N=>
   have h:jc K W f O t H σ R (if aH ⟨s,.list N⟩ N then .ok ⟨N,!s.isView⟩ X else .no):=h
   cases J:aH ⟨s,.list N⟩ N with
   | false=>rw [J] at h;exact h.elim
   | true=>
    rw [J] at h;obtain ⟨p,L,rfl,n,q,M⟩:=A.own.items (O':=O++Y.flatten) J oQ A.disj
    exact ⟨p,rfl,⟨L,n⟩,h (DL K p) Z Y L (λH=>SqL K H p L) A.same A.go A.newF yU n (λj a=>a.seq n) (λb j a=>a.seq (sub_hid.seq (q (by simpa using b)))) M⟩
  | _=>exact h.elim
 | er c I=>rw [e] at h;exact h
 | no=>rw [e] at h;exact h
theorem yh (h:tI K W (gY fa) σ H R):CU K (tE K W fa) σ H R:=by
 obtain ⟨f,O,t,B,E,h⟩:=h;refine ⟨f,O,t,B,E,?_⟩
 unfold gY at h
 cases e:fa B with
 | ok p X=>
  rw [e] at h;intro v Z G Y A;obtain ⟨s,d⟩:=p
  cases d with
  | tuple N=>
   have h:jc K W f O t H σ R (if aH ⟨s,.tuple N⟩ N then .ok ⟨N,!s.isView⟩ X else .no):=h
   cases J:aH ⟨s,.tuple N⟩ N with
   | false=>rw [J] at h;exact h.elim
   | true=>
    rw [J] at h;obtain ⟨p,L,rfl,n,q,M⟩:=A.own.itemsT (O':=O++Y.flatten) J oQ A.disj
    exact ⟨p,rfl,⟨L,n⟩,h (DJ K p) Z Y L (λH=>SqT K H p L) A.same A.go A.newF CL n (λj a=>bB a n) (λb j a=>bB a (bB sub_hid (q (by simpa using b)))) M⟩
  | _=>exact h.elim
 | er c I=>rw [e] at h;exact h
 | no=>rw [e] at h;exact h
noncomputable def de (j:Int):Bool:=decide (-(2 ^ 62)<=j)&&decide (j<2 ^ 62)
noncomputable def jq:List D->Option Int
 | [.int j]=>if de j then some j else none
 | _=>none
noncomputable def sL:List D->Option (Int×Int)
 | [.int i,.int j]=>if de i&&de j then some (i,j) else none
 | _=>none
theorem qB {N:List D} {j:Int} (h:jq N=some j):N=[.int j]/\-(2 ^ 62)<=j/\j<2 ^ 62:=by
 unfold jq at h;split at h
 ·split at h
  ·rename_i J
   cases h;simp only [de,Bool.and_eq_true,decide_eq_true_eq] at J
   exact ⟨rfl,J.1,J.2⟩
  ·cases h
 ·cases h
theorem ya {N:List D} {i j:Int} (h:sL N=some (i,j)):N=[.int i,.int j]/\(-(2 ^ 62)<=i/\i<2 ^ 62/\-(2 ^ 62)<=j/\j<2 ^ 62):=by
 unfold sL at h;split at h
 ·split at h
  ·rename_i J
   cases h;simp only [de,Bool.and_eq_true,decide_eq_true_eq] at J
   exact ⟨rfl,J.1.1,J.1.2,J.2.1,J.2.2⟩
  ·cases h
 ·cases h
noncomputable def d6 (q:FL):FI:=λB=>(q B).bind λJ I=>match jq (J.map (·.d)) with
 | some j=>.ok ⟨bS 0 j.toNat,true⟩ I
 | none=>.no
noncomputable def y0 (q:FL):FI:=λB=>(q B).bind λJ I=>match sL (J.map (·.d)) with
 | some (i,j)=>.ok ⟨bS i (j-i).toNat,true⟩ I
 | none=>.no
theorem BL {q:FL} (h:tI K W (d6 q) σ H R):iY (tA K W q) σ H R:=by
 obtain ⟨f,O,t,B,E,h⟩:=h;refine ⟨f,O,t,B,E,?_⟩
 unfold d6 at h
 cases e:q B with
 | ok J X=>
  rw [e] at h;intro L Z b Y A;have h:jc K W f O t H σ R (match jq (J.map (·.d)) with | some j=>.ok ⟨bS 0 j.toNat,true⟩ X | none=>.no):=h
  have y:=A.reps
  cases d:jq (J.map (·.d)) with
  | none=>rw [d] at h;exact h.elim
  | some j=>
   rw [d] at h;obtain ⟨m,g,C⟩:=qB d;rw [m] at y;obtain ⟨v,rfl,r⟩:=y.one
   cases r;exact ⟨j,rfl,g,C,h (xq 0 j.toNat) Z Y (eZ 0 j.toNat) (λ_=>True) A.same A.env.dropL (λa U=>A.new a (Nh _ U)) wc trivial (λ_ _=>trivial) (λ_ _ _=>trivial) JX⟩
 | er c I=>rw [e] at h;exact h
 | no=>rw [e] at h;exact h
theorem BK {q:FL} (h:tI K W (y0 q) σ H R):As (tA K W q) σ H R:=by
 obtain ⟨f,O,t,B,E,h⟩:=h;refine ⟨f,O,t,B,E,?_⟩
 unfold y0 at h
 cases e:q B with
 | ok J X=>
  rw [e] at h;intro L k b Y A;have h:jc K W f O t H σ R (match sL (J.map (·.d)) with | some (i,j)=>.ok ⟨bS i (j-i).toNat,true⟩ X | none=>.no):=h
  have y:=A.reps
  cases g:sL (J.map (·.d)) with
  | none=>rw [g] at h;exact h.elim
  | some d=>
   obtain ⟨i,j⟩:=d;rw [g] at h;obtain ⟨m,Z⟩:=ya g;rw [m] at y;obtain ⟨v,u,rfl,r,l⟩:=y.two
   cases r
   cases l
   exact ⟨i,j,rfl,Z,h (xq i (j-i).toNat) k Y (eZ i (j-i).toNat) (λ_=>True) A.same A.env.dropL (λa U=>A.new a (Nh _ U)) wc trivial (λ_ _=>trivial) (λ_ _ _=>trivial) JX⟩
 | er c I=>rw [e] at h;exact h
 | no=>rw [e] at h;exact h
end
noncomputable def cx (i:Nat) (E:FB) (v:F1) (s:Sh):List D->Ev->List D->Out (List D)
 | [],Γ,acc=>.ok acc Γ
 | d::r,Γ,acc=>match E (Γ.set i (Nx d)) with
  | .ok true X=>(match v X with
   | .ok p o=>if T.coer s p&&decide (acc.length<sizeLine) then cx i E v s r (o.set i none) (acc++[p.d]) else .no
   | _=>.no)
  | .ok false X=>if acc.length<sizeLine then cx i E v s r (X.set i none) acc else .no
  | _=>.no
noncomputable def aq (s:Sh) (i:Nat) (A:FI) (E:FB) (v:F1):F1:=λB=>(A B).bind λt X=>match cx i E v s t.ds (X.set i none) [] with
 | .ok N o=>if !s.isView&&decide (i<X.length) then .ok ⟨.lst s,.list N⟩ (o.set i (X.getD i none)) else .no
 | _=>.no
noncomputable abbrev W0:XW:=λ_ _ _=>False
section
variable {K:Fg} {He H H1 H2:Hp} {O G:List Addr} {Fs Fs1 Fs2:List (List Addr)} {σ:St} {Γ Γ1 Γ2:Ev}
theorem oy {a:List Nat} {M:St} {j:Nat} (h:j∉a):(bj a M)[j]?=M[j]?:=by
 unfold bj;rw [List.getElem?_mapIdx]
 cases M[j]? with
 | none=>rfl
 | some o=>simp [h]
theorem fN {B:Ev} {i j:Nat} {p:PV} (h:(B.set i none)[j]?=some (some p)):j≠i/\B[j]?=some (some p):=by
 by_cases A:j=i
 ·subst A
  rw [List.getElem?_set] at h;split at h
  ·split at h<;>cases h
  ·rename_i z;exact absurd rfl z
 ·rw [getElem?_set_ne (Ne.symm A)] at h
  exact ⟨A,h⟩
theorem EnvOk.shut {i:Nat} (E:EnvOk K He O Fs H σ Γ) (l:i<Γ.length) :
  ∃F,Fs[i]?=some F/\EnvOk K He (F++O) (Fs.set i []) H (bj [i] σ) (Γ.set i none)/\∀a,a∈F++(Fs.set i []).flatten↔a∈Fs.flatten:=by
 obtain ⟨F,c⟩:=E.lt l;have r:(F++(Fs.set i []).flatten).Perm Fs.flatten:=by simpa using rZ (G:=[]) c
 have b:(F++O++(Fs.set i []).flatten).Perm (O++Fs.flatten):=by
  rw [append_assoc];exact (qI _ _ _).trans (List.Perm.append_left _ r)
 refine ⟨F,c,⟨by rw [IA,length_set];exact E.len1,by rw [length_set,length_set];exact E.len2,E.same,b.nodup_iff.mpr E.nd,λa U=>E.inH a (b.mem_iff.mp U),λa U=>E.fresh a (r.mem_iff.mp (Nh _ U)),λj q n=>?_⟩,λa=>r.mem_iff⟩
 obtain ⟨A,n⟩:=fN n;obtain ⟨t,Y,x,B,m,M⟩:=E.slot j q n;exact ⟨t,Y,x,by rw [oy (by simpa using A)];exact B,by rw [getElem?_set_ne (Ne.symm A)];exact m,M.mono (Same.refl _) λa U=>.inl (b.mem_iff.mp U)⟩
theorem EnvOk.forget {i:Nat} {x:Option V} (E:EnvOk K He O Fs H ((bj [i] σ).set i x) Γ) (l:i<Γ.length):EnvOk K He O (Fs.set i []) H (bj [i] σ) (Γ.set i none):=by
 obtain ⟨F,c⟩:=E.lt l;have r:(F++(Fs.set i []).flatten).Perm Fs.flatten:=by simpa using rZ (G:=[]) c
 have C:∀a∈O++(Fs.set i []).flatten,a∈O++Fs.flatten:=λa U=>by
  rcases Nj U with z | z
  ·exact Ni _ z
  ·exact Nh _ (r.mem_iff.mp (Nh _ z))
 have J:=E.len1
 rw [length_set] at J;obtain ⟨k,u,w⟩:=Np E.nd;have d:((Fs.set i []).flatten).Nodup:=(Np (r.nodup_iff.mpr u)).2.1
 refine ⟨by rw [length_set];exact J,by rw [length_set,length_set];exact E.len2,E.same,List.nodup_append.mpr ⟨k,d,λa U b Z=>w a U b (r.mem_iff.mp (Nh _ Z))⟩,λa U=>E.inH a (C a U),λa U=>E.fresh a (r.mem_iff.mp (Nh _ U)),λj q n=>?_⟩
 obtain ⟨A,n⟩:=fN n;obtain ⟨t,Y,e,B,m,M⟩:=E.slot j q n;rw [getElem?_set_ne (Ne.symm A)] at B;exact ⟨t,Y,e,B,by rw [getElem?_set_ne (Ne.symm A)];exact m,M.mono (Same.refl _) λa U=>.inl (C a U)⟩
theorem EnvOk.reopen {i:Nat} {F:List Addr} (f:EnvOk K He O Fs1 H1 σ Γ1) (c:Fs1[i]?=some F) (I:EnvOk K He (G++(F++O)) Fs2 H2 (bj [i] σ) Γ2) (N:Γ2.length=Γ1.length) (s:Same H1 H2)
  (g:Γ2[i]?=some none) (d:Fs2[i]?=some []) (L:∀a∈G++Fs2.flatten,a∈Fs1.flatten\/H1 a=none):EnvOk K He (G++O) (Fs2.set i F) H2 σ (Γ2.set i (Γ1.getD i none)):=by
 have r:((Fs2.set i F).flatten).Perm (F++Fs2.flatten):=by simpa using rZ (G:=F) d
 have b:(G++O++(Fs2.set i F).flatten).Perm (G++(F++O)++Fs2.flatten):=by
  refine (List.Perm.append_left _ r).trans ?_
  rw [append_assoc,append_assoc];refine List.Perm.append_left _ ?_
  rw [append_assoc];exact qI _ _ _
 have l:i<Γ2.length:=(Nq g).1
 refine ⟨by rw [length_set,N];exact f.len1,by rw [length_set,length_set];exact I.len2,I.same,b.nodup_iff.mpr I.nd,λa U=>I.inH a (b.mem_iff.mp U),λa U=>?_,λj q n=>?_⟩
 ·rcases Nj (r.mem_iff.mp U) with z | z
  ·exact f.fresh a (oI c z)
  ·exact I.fresh a z
 ·by_cases A:j=i
  ·subst A
   rw [getElem?_set_self l] at n;have n:Γ1.getD j none=some q:=Option.some.inj n
   rw [Nm] at n;have u:Γ1[j]?=some (some q):=by
    cases e:Γ1[j]? with
    | none=>rw [e] at n;cases n
    | some o=>rw [e] at n;simp only [Option.getD_some] at n;rw [n]
   obtain ⟨t,Y,x,B,m,M⟩:=f.slot j q u
   rw [c] at m
   cases m;refine ⟨t,Y,F,B,getElem?_set_self (by rw [I.len2];exact l),M.mono s λa U=>?_⟩
   rcases Nj U with z | z
   ·rcases Nj z with z | z
    ·exact (L a (Ni _ z)).elim (λy=>.inl (Nh _ y)) .inr
    ·exact .inl (Ni _ z)
   ·rcases Nj (r.mem_iff.mp z) with y | y
    ·exact .inl (Nh _ (oI c y))
    ·exact (L a (Nh _ y)).elim (λy=>.inl (Nh _ y)) .inr
  ·rw [getElem?_set_ne (Ne.symm A)] at n
   obtain ⟨t,Y,x,B,m,M⟩:=I.slot j q n;rw [oy (by simpa using A)] at B
   exact ⟨t,Y,x,B,by rw [getElem?_set_ne (Ne.symm A)];exact m,M.mono (Same.refl _) λa U=>.inl (b.mem_iff.mp U)⟩
theorem EnvOk.mutO {p:Addr} {o:HO} {Y:List V} (E:EnvOk K He O Fs H σ Γ) (g:p∈O) (N:H p=some (.lst Y)) (y:He p=none):EnvOk K He O Fs (aR H p o) σ Γ:=by
 obtain ⟨k,d,w⟩:=Np E.nd;refine ⟨E.len1,E.len2,λb u e=>?_,E.nd,λa U=>?_,E.fresh,λj q n=>?_⟩
 ·rw [cb (xD e y)]
  exact E.same b u e
 ·by_cases h:a=p
  ·rw [h,cL];exact Option.some_ne_none _
  ·rw [cb h];exact E.inH a U
 ·obtain ⟨t,c,x,B,m,M⟩:=E.slot j q n
  exact ⟨t,c,x,B,m,M.mut t (Ni _ g) (λz=>w p g p (oI m z) rfl) N⟩
end
structure L0 (K:Fg) (He:Hp) (O F:List Addr) (Fs1:List (List Addr)) (H1:Hp) (σ:St) (i:Nat) (s:Sh) (A0:Addr) (n:Nat) (ys:List V) (H:Hp) (Γk:Ev) (Fk Gs:List (List Addr)) (acc:List D):Prop where
 env:EnvOk K He (A0::Gs.flatten++(F++O)) Fk H (bj [i] σ) Γk
 same:Same H1 H
 at_:H A0=some (.lst ys)
 new:∀a∈Gs.flatten++Fk.flatten,a∈Fs1.flatten\/H1 a=none
 l1:ys.length=acc.length
 l2:Gs.length=acc.length
 own:∀(j:Nat) v d G,ys[j]?=some v->acc[j]?=some d->Gs[j]?=some G->Own K (A0::Gs.flatten++(F++O)++Fk.flatten) H s G v d
 noneG:Γk[i]?=some none
 noneF:Fk[i]?=some []
 len:Γk.length=n
theorem Eg {u:Type} (b:List (List u)) (G:List u):(b++[G]).flatten=b.flatten++G:=by simp
section
variable {K:Fg} {W:XW} {σ:St} {H:Hp} {Q:VK} {fe:F1} {fc:FB} {fi:FI} {s:Sh} {i:Nat}
theorem qE (h:tE K W (aq s i fi fc fe) σ H Q):eo [i] (tI K W fi) (aP i) (tT K W0 fc) (tE K W0 fe) σ H Q:=by
 obtain ⟨f,O,Fs,B,E,h⟩:=h;refine ⟨f,O,Fs,B,E,?_⟩
 unfold aq at h
 cases e:fi B with
 | er c I=>rw [e] at h;exact h
 | no=>rw [e] at h;exact h
 | ok t X=>
  rw [e] at h;intro J H1 Y L P s1 E1 n1 it hP hP1 _ M A0 hD;have h:Wants K W f O Fs H σ Q (match cx i fc fe s t.ds (X.set i none) [] with | .ok N Γ2=>if !s.isView&&decide (i<X.length) then .ok ⟨.lst s,.list N⟩ (Γ2.set i (X.getD i none)) else .no | _=>.no):=h
  cases eg:cx i fc fe s t.ds (X.set i none) [] with
  | er c I=>rw [eg] at h;exact h.elim
  | no=>rw [eg] at h;exact h.elim
  | ok ds' Γ2=>
   rw [eg] at h;have h:Wants K W f O Fs H σ Q (if (!s.isView&&decide (i<X.length))=true then .ok ⟨.lst s,.list ds'⟩ (Γ2.set i (X.getD i none)) else .no):=h
   by_cases hc:(!s.isView&&decide (i<X.length))=true
   case neg=>rw [if_neg hc] at h;exact h.elim
   rw [if_pos hc] at h;simp only [Bool.and_eq_true,decide_eq_true_eq,Bool.not_eq_true'] at hc
   obtain ⟨hsv,l⟩:=hc;obtain ⟨F,hF,E0,hmem⟩:=E1.shut l;have hHeD:f A0=none:=E1.same.free hD
   have E0':EnvOk K f (A0::([]:List (List Addr)).flatten++(F++O)) (Y.set i []) (aR H1 A0 (.lst [])) (bj [i] σ) (X.set i none):=
    E0.hide (G:=[A0]) (dH hD) (by simp) (λa U=>by simp at U;rw [U];exact hD) (λa U=>by simp at U;rw [U,cL];exact Option.some_ne_none _)
   refine ⟨λk m ys H'=>m=L.length-k/\k<=L.length/\∃Γk Fk Gs q,L0 K f O F Y H1 σ i s A0 X.length ys H' Γk Fk Gs q/\cx i fc fe s (t.ds.drop k) Γk q=.ok ds' Γ2,⟨L.length,by simp,Nat.zero_le _,X.set i none,Y.set i [],[],[],⟨E0',dH hD,cL,λa U=>.inl ((hmem a).mp (Nh _ (by simpa using U))),rfl,rfl,λj v d G R=>by simp at R,getElem?_set_self l,getElem?_set_self (by rw [E1.len2];exact l),by rw [length_set]⟩,by simpa using eg⟩,?_⟩
   rintro k m ys H' ⟨rfl,hk,Γk,Fk,Gs,q,g,eg'⟩
   refine ⟨g.at_,?_⟩
   have hPk:P H':=hP1 H' g.same
   have hlen:L.length=t.ds.length:=M.1
   by_cases hlt:k<L.length
   case neg=>
    have hke:k=L.length:=by omega
    left
    have:t.ds.drop k=[]:=List.drop_eq_nil_of_le (by omega)
    rw [this] at eg';have eg'':(Out.ok q Γk:Out (List D))=.ok ds' Γ2:=eg'
    injection eg'' with e1 e2
    subst e1;subst e2;refine ⟨by rw [hke];exact it.stop H' hPk,?_⟩
    have E3:EnvOk K f ((A0::Gs.flatten)++O) (Fk.set i F) H' σ (Γk.set i (X.getD i none)):=
     EnvOk.reopen (G:=A0::Gs.flatten) E1 hF g.env g.len g.same g.noneG g.noneF λa U=>by
      rcases Nj U with z | z
      ·rcases Nk z with z | z
       ·rw [z];exact .inr hD
       ·exact g.new a (Ni _ z)
      ·exact g.new a (Nh _ z)
    have pmF:((Fk.set i F).flatten).Perm (F++Fk.flatten):=by simpa using rZ (G:=F) g.noneF
    obtain ⟨n1',_,n3'⟩:=Np g.env.ndO;refine h (.ref A0) H' (A0::Gs.flatten) (Fk.set i F) ⟨s1.trans g.same,E3,λa U=>?_,?_⟩
    ·have up:a∈Y.flatten\/H1 a=none->a∈Fs.flatten\/H a=none:=λz=>z.elim (n1 a) λy=>.inr (s1.free y)
     rcases Nj U with z | z
     ·rcases Nk z with z | z
      ·exact up (.inr (by rw [z];exact hD))
      ·exact up (g.new a (Ni _ z))
     ·rcases Nj (pmF.mem_iff.mp z) with y | y
      ·exact up (.inl (oI hF y))
      ·exact up (g.new a (Nh _ y))
    ·refine .lst hsv g.at_ g.l1 g.l2 n1' λj v d G R C n=>(g.own j v d G R C n).perm λa U=>?_
     rw [append_assoc] at U ⊢;rcases Nj U with z | z
     ·exact Ni _ z
     ·refine Nh _ ?_
      rcases Nj z with z | z
      ·exact Ni _ (Nh _ z)
      ·rcases Nj (pmF.mem_iff.mp z) with y | y
       ·exact Ni _ (Ni _ y)
       ·exact Nh _ y
   case pos=>
    right
    have hv:L[k]?=some L[k]:=Nl hlt
    have hkd:k<t.ds.length:=by omega
    have hd:t.ds[k]?=some t.ds[k]:=Nl hkd
    have hdr:t.ds.drop k=t.ds[k]::t.ds.drop (k+1):=drop_eq_getElem_cons hkd
    rw [hdr] at eg';generalize hdk:t.ds[k]=d at hd eg'
    generalize hvk:L[k]=v at hv
    obtain ⟨hgo,hyld⟩:=it.go k H' v hPk hv
    simp only [cx] at eg'
    have hik:i<Γk.length:=by rw [g.len];exact l
    have rep:Rep K (aS H' (A0::Gs.flatten++(F++O)++Fk.flatten)) v d:=(M.2 k v d hv hd).mono (fF g.same λa U=>by
     rcases Nj U with z | z
     ·rcases Nj z with z | z
      ·rcases Nk z with z | z
       ·rw [z];exact .inr hD
       ·exact (g.new a (Ni _ z)).elim (λy=>.inl (Nh _ y)) .inr
      ·rcases Nj z with z | z
       ·exact .inl (Nh _ (oI hF z))
       ·exact .inl (Ni _ z)
     ·exact (g.new a (Nh _ z)).elim (λy=>.inl (Nh _ y)) .inr)
    have Ep:EnvOk K f (A0::Gs.flatten++(F++O)) (Fk.set i []) H' ((bj [i] σ).set i (some v)) (Γk.set i (Nx d)):=
     EnvOk.put (G:=[]) (p:=⟨.leaf,d⟩) (v:=v) g.env (.leaf rep) rfl (λa U=>by simp at U) hik
    have hsl:ys.length<sizeLine:=by
     rw [g.l1]
     cases ec:fc (Γk.set i (Nx d)) with
     | no=>rw [ec] at eg';cases eg'
     | er c I=>rw [ec] at eg';cases eg'
     | ok b Γa=>
      rw [ec] at eg'
      cases b with
      | false=>
       dsimp only at eg'
       split at eg'
       ·assumption
       ·cases eg'
      | true=>
       dsimp only at eg'
       split at eg'
       ·split at eg'
        ·rename_i z
         simp only [Bool.and_eq_true,decide_eq_true_eq] at z
         exact z.2
        ·cases eg'
       ·cases eg'
    refine ⟨hgo,hsl,λx Hx hx=>?_⟩
    obtain ⟨rfl,rfl⟩:=hyld x Hx hx;show LZ (bj [i] σ) ((bj [i] σ).set i (some x))/\_
    refine ⟨⟨by rw [length_set],λj u A=>?_⟩,?_⟩
    ·have:=(J7 A).1
     rw [getElem?_set_ne (by simp at this;exact λz=>this z.symm)]
     exact A
    refine ⟨f,_,_,_,Ep,?_⟩
    cases ec:fc (Γk.set i (Nx d)) with
    | no=>rw [ec] at eg';cases eg'
    | er c I=>rw [ec] at eg';cases eg'
    | ok b Γa=>
     rw [ec] at eg';intro H3 Fs3 s3 E3 n3;have lena:Γa.length=X.length:=by
      have:=E3.len1
      rw [length_set,IA,E1.len1] at this;exact this.symm
     have n3':∀a∈Fs3.flatten,a∈Y.flatten\/H1 a=none:=λa U=>(n3 a U).elim (λz=>by
      have r:((Fk.set i []).flatten).Perm Fk.flatten:=by simpa using rZ (G:=[]) g.noneF
      exact g.new a (Nh _ (r.mem_iff.mp z))) λz=>.inr (g.same.free z)
     cases b with
     | false=>
      dsimp only at eg'
      split at eg'
      case isFalse=>cases eg'
      refine dq ⟨L.length-(k+1),by omega,rfl,hlt,Γa.set i none,Fs3.set i [],Gs,q,⟨E3.forget (by rw [lena];exact l),g.same.trans s3,s3 _ _ g.at_,λa U=>?_,g.l1,g.l2,λj v d G R C n=>(g.own j v d G R C n).mono s3 λa U=>?_,getElem?_set_self (by rw [lena];exact l),getElem?_set_self (by rw [E3.len2,lena];exact l),by rw [length_set];exact lena⟩,eg'⟩
      ·rcases Nj U with z | z
       ·exact g.new a (Ni _ z)
       ·obtain ⟨F3,hF3⟩:=E3.lt (i:=i) (by rw [lena];exact l)
        have r:(F3++(Fs3.set i []).flatten).Perm Fs3.flatten:=by simpa using rZ (G:=[]) hF3
        exact n3' a (r.mem_iff.mp (Nh _ z))
      ·rcases Nj U with z | z
       ·exact .inl (Ni _ z)
       ·obtain ⟨F3,hF3⟩:=E3.lt (i:=i) (by rw [lena];exact l)
        have r:(F3++(Fs3.set i []).flatten).Perm Fs3.flatten:=by simpa using rZ (G:=[]) hF3
        have pm2:((Fk.set i []).flatten).Perm Fk.flatten:=by simpa using rZ (G:=[]) g.noneF
        exact (n3 a (r.mem_iff.mp (Nh _ z))).elim (λy=>.inl (Nh _ (pm2.mem_iff.mp y))) .inr
     | true=>
      refine dQ ⟨f,_,_,_,E3,?_⟩
      dsimp only at eg'
      cases ee:fe Γa with
      | no=>rw [ee] at eg';cases eg'
      | er c I=>rw [ee] at eg';cases eg'
      | ok p Γb=>
       rw [ee] at eg';dsimp only at eg'
       split at eg'
       case isFalse=>cases eg'
       rename_i hco;simp only [Bool.and_eq_true,decide_eq_true_eq] at hco
       obtain ⟨hco,_⟩:=hco;intro u H4 G Fs4 A4;have lenb:Γb.length=X.length:=by
        have:=A4.env.len1
        rw [length_set,IA,E1.len1] at this;exact this.symm
       have hib:i<Γb.length:=by rw [lenb];exact l
       have at4:H4 A0=some (.lst ys):=A4.same _ _ (s3 _ _ g.at_)
       have s14:Same H1 H4:=(g.same.trans s3).trans A4.same
       have pmk:((Fk.set i []).flatten).Perm Fk.flatten:=by simpa using rZ (G:=[]) g.noneF
       obtain ⟨F4,hF4⟩:=A4.env.lt hib;have pm4:(F4++(Fs4.set i []).flatten).Perm Fs4.flatten:=by simpa using rZ (G:=[]) hF4
       have new4:∀a∈G++Fs4.flatten,a∈Y.flatten\/H1 a=none:=λa U=>(A4.new a U).elim (n3' a) λz=>.inr ((g.same.trans s3).free z)
       have hG':∀a∈bc s G,a∈G:=λa U=>ko U
       obtain ⟨k1,k2,k3⟩:=Np A4.env.ndO;have ndk:(bc s G).Nodup:=by
        cases s<;>first | exact nodup_nil | exact k1
       have pmO:(A0::(Gs++[bc s G]).flatten++(F++O)).Perm (bc s G++(A0::Gs.flatten++(F++O))):=by
        rw [Eg];show (A0::((Gs.flatten++bc s G)++(F++O))).Perm _
        refine List.Perm.trans ?_ List.perm_middle.symm
        refine List.Perm.cons _ ?_
        rw [append_assoc];exact qI _ _ _
       have E5:EnvOk K f (bc s G++(A0::Gs.flatten++(F++O))) Fs4 H4 ((bj [i] σ).set i (some x)) Γb:=A4.env.drop (λa U=>by
        rcases Nj U with z | z
        ·exact Ni _ (hG' a z)
        ·exact Nh _ z) (List.nodup_append.mpr ⟨ndk,k2,λa U b Z=>k3 a (hG' a U) b Z⟩)
       have E6:=(E5.perm pmO).forget hib
       have hDin:A0∈A0::(Gs++[bc s G]).flatten++(F++O):=mem_cons_self
       have E7:=E6.mutO (o:=.lst (ys++[u])) hDin at4 hHeD
       have subH:∀a∈A0::(Gs++[bc s G]).flatten++(F++O)++(Fs4.set i []).flatten,a∈G++(A0::Gs.flatten++(F++O))++Fs4.flatten:=λa U=>by
        rcases Nj U with z | z
        ·rcases Nj (pmO.mem_iff.mp z) with y | y
         ·exact Ni _ (Ni _ (hG' a y))
         ·exact Ni _ (Nh _ y)
        ·exact Nh _ (pm4.mem_iff.mp (Nh _ z))
       have Dnot:∀{j:Nat} {Gj:List Addr},Gs[j]?=some Gj->A0∉Gj:=λ{j Gj} A z=>by
        have nd:=g.env.ndO
        exact (List.nodup_cons.mp nd).1 (Ni _ (oI A z))
       refine ⟨at4,L.length-(k+1),by omega,rfl,hlt,Γb.set i none,Fs4.set i [],Gs++[bc s G],q++[p.d],⟨E7,λb o Z=>?_,cL,λa U=>?_,by simp [g.l1],by simp [g.l2],λj w d' G' R C n=>?_,getElem?_set_self hib,getElem?_set_self (by rw [A4.env.len2];exact hib),by rw [length_set];exact lenb⟩,eg'⟩
       ·rw [cb (xD Z hD)]
        exact s14 b o Z
       ·rcases Nj U with z | z
        ·rw [Eg] at z
         rcases Nj z with z | z
         ·exact g.new a (Ni _ z)
         ·exact new4 a (Ni _ (hG' a z))
        ·exact new4 a (Nh _ (pm4.mem_iff.mp (Nh _ z)))
       ·by_cases A:j<ys.length
        ·rw [getElem?_append_left A] at R
         rw [getElem?_append_left (by rw [<-g.l1];exact A)] at C
         rw [getElem?_append_left (by rw [g.l2,<-g.l1];exact A)] at n
         have o1:=g.own j w d' G' R C n
         have o2:=o1.mono (O':=A0::(Gs++[bc s G]).flatten++(F++O)++(Fs4.set i []).flatten) (s3.trans A4.same) λa U=>by
          have up:a∈G++Fs4.flatten->a∈A0::Gs.flatten++(F++O)++Fk.flatten\/Hx a=none:=λz=>(A4.new a z).elim (λy=>(n3 a y).elim (λy=>.inl (Nh _ (pmk.mem_iff.mp y))) .inr) λy=>.inr (s3.free y)
          rcases Nj (subH a U) with z | z
          ·rcases Nj z with z | z
           ·exact up (Ni _ z)
           ·exact .inl (Ni _ z)
          ·exact up (Nh _ z)
         exact o2.mut hsv (Ni _ hDin) (Dnot n) at4
        ·have hj':j=ys.length:=by
          have:=(Nq R).1
          rw [length_append,length_singleton] at this;omega
         subst hj'
         rw [getElem?_append_right (Nv _),Nat.sub_self] at R;rw [getElem?_append_right (by rw [g.l1];exact Nv _),show ys.length-q.length=0 by rw [g.l1];exact Nat.sub_self _] at C
         rw [getElem?_append_right (by rw [g.l2,g.l1];exact Nv _),show ys.length-Gs.length=0 by rw [g.l2,g.l1];exact Nat.sub_self _] at n
         cases R
         cases C
         cases n;have o3:=A4.own.coer (s:=s) (O':=A0::(Gs++[bc s G]).flatten++(F++O)++(Fs4.set i []).flatten) hco subH λa U hO=>by
          cases s with
          | leaf=>
           exfalso
           have hO':a∈(A0::Gs.flatten++(F++O))++(Fs4.set i []).flatten:=by
            rw [Eg] at hO;simpa [bc] using hO
           rcases Nj hO' with z | z
           ·exact k3 a U a z rfl
           ·have nd:=A4.env.nd
            exact (Np nd).2.2 a (Ni _ U) a (pm4.mem_iff.mp (Nh _ z)) rfl
          | view=>cases hsv
          | lst s=>exact U
          | tup ss=>exact U
         refine o3.mut hsv (Ni _ hDin) (λz=>?_) at4
         exact k3 A0 (hG' A0 z) A0 mem_cons_self rfl
end
inductive d9 where
 | nx (e:Ev) | bk (e:Ev) | ct (e:Ev) | rt (p:PV) | er (c:Str) (e:Ev) | no
abbrev FS:=Ev->d9
structure RetOk (K:Fg) (He:Hp) (O:List Addr) (p:PV) (v:V) (H':Hp) (G:List Addr):Prop where
 same:Same He H'
 fresh:∀a∈G,He a=none
 inH:∀a∈G,H' a≠none
 nd:G.Nodup
 own:Own K (G++O) H' p.s G v p.d
 nv:p.s.isView=false
noncomputable def dU (K:Fg) (W:XW) (f:Hp) (O:List Addr) (D:dW):d9->Prop
 | .nx I=>∀A F y,EnvOk K f O y F A I->D.nx A F
 | .bk I=>∀A F y,EnvOk K f O y F A I->D.bk A F
 | .ct I=>∀A F y,EnvOk K f O y F A I->D.ct A F
 | .rt p=>∀v F G,RetOk K f O p v F G->D.rt v F
 | .er c I=>∀A F y,EnvOk K f O y F A I->W c A F
 | .no=>False
noncomputable def tS (K:Fg) (W:XW) (g:FS):TS:=λD M H=>∃f O t B,EnvOk K f O t H M B/\dU K W f O D (g B)
noncomputable def aJ:FS:=λB=>.nx B
noncomputable def ak (v F:FS):FS:=λB=>match v B with
 | .nx I=>F I
 | o=>o
noncomputable def jo (f:F1) (k:PV->Ev->d9):FS:=λB=>match f B with
 | .ok p I=>k p I
 | .er c I=>.er c I
 | .no=>.no
noncomputable def b8 (c:FB) (a b:FS):FS:=λB=>match c B with
 | .ok t I=>if t then a I else b I
 | .er c I=>.er c I
 | .no=>.no
section
variable {K:Fg} {W:XW} {σ:St} {H:Hp} {D:dW} {fa fb:F1} {ga gb:FB} {g1 g2:FS}
theorem ye (h:tS K W aJ D σ H):cU D σ H:=by
 obtain ⟨f,O,t,B,E,h⟩:=h;exact h σ H t E
theorem BD (h:tS K W (ak g1 g2) D σ H):bL (tS K W g1) (tS K W g2) D σ H:=by
 obtain ⟨f,O,t,B,E,h⟩:=h;refine ⟨f,O,t,B,E,?_⟩
 unfold ak at h
 cases e:g1 B with
 | nx I=>rw [e] at h;exact λA F y r=>⟨f,O,y,I,r,h⟩
 | bk I=>rw [e] at h;exact h
 | ct I=>rw [e] at h;exact h
 | rt p=>rw [e] at h;exact h
 | er c I=>rw [e] at h;exact h
 | no=>rw [e] at h;exact h
theorem qj {k:PV->Ev->d9} {R:VK} (h:tS K W (jo fa k) D σ H)
  (b:∀f O t X p v Z G Y,EnvOk K f O t H σ X\/True->(∀a∈G,f a=none)->Aft K f O t H σ X p v Z G Y->dU K W f O D (k p X)->R v Z):tE K W fa σ H R:=by
 obtain ⟨f,O,t,B,E,h⟩:=h;refine ⟨f,O,t,B,E,?_⟩
 unfold jo at h
 cases e:fa B with
 | ok p X=>rw [e] at h;exact λv F G y A=>b f O t X p v F G y (.inr trivial) (A.freshG E) A h
 | er c X=>rw [e] at h;exact λF y s r=>h σ F y r
 | no=>rw [e] at h;exact h
theorem BI (h:tS K W (b8 ga g1 g2) D σ H):fK (tT K W ga) (tS K W g1) (tS K W g2) D σ H:=by
 obtain ⟨f,O,t,B,E,h⟩:=h;refine ⟨f,O,t,B,E,?_⟩
 unfold b8 at h
 cases e:ga B with
 | ok b X=>
  rw [e] at h;intro F y s r n
  cases b with
  | true=>exact dQ ⟨f,O,y,X,r,h⟩
  | false=>exact dq ⟨f,O,y,X,r,h⟩
 | er c X=>rw [e] at h;exact λF y s r=>h σ F y r
 | no=>rw [e] at h;exact h
noncomputable def aE (f:F1):FS:=jo f λp _=>if p.s.isView then (if bD p.d then .rt ⟨.leaf,p.d⟩ else .no) else .rt p
theorem BE (h:tS K W (aE fa) D σ H):dC (tE K W fa) D σ H:=by
 refine qj h λf O t X p v Z G b _ I A w=>?_
 obtain ⟨k,u,c⟩:=Np A.env.ndO;have g:∀a∈G,Z a≠none:=λa U=>A.env.inH a (Ni _ (Ni _ U))
 cases P:p.s.isView with
 | false=>
  have w:dU K W f O D (.rt p):=by simpa [P] using w
  exact w v Z G ⟨A.env.same,I,g,k,A.own.perm λa U=>Ni _ U,P⟩
 | true=>
  cases Y:bD p.d with
  | false=>rw [P,Y] at w;exact w.elim
  | true=>
   have w:dU K W f O D (.rt ⟨.leaf,p.d⟩):=by simpa [P,Y] using w
   exact w v Z [] ⟨A.env.same,(λ_ z=>nomatch z),(λ_ z=>nomatch z),nodup_nil,.leaf (A.own.rep.sc Y).rep,rfl⟩
noncomputable def ax (own:Bool) (i:Nat) (f:F1):FS:=jo f λp B=>if i<B.length then (if own&&!p.s.isView then .nx (B.set i (some p)) else if T.coer .leaf p then .nx (B.set i (Nx p.d)) else .no) else .no
theorem vd {own:Bool} {i:Nat} (h:tS K W (ax own i fa) D σ H):dm (tE K W fa) (aP i) D σ H:=by
 refine qj h λf O t X p v Z G Y _ I A w=>?_
 show D.nx (σ.set i (some v)) Z
 have w:dU K W f O D (if i<X.length then (if own&&!p.s.isView then .nx (X.set i (some p)) else if T.coer .leaf p then .nx (X.set i (Nx p.d)) else .no) else .no):=w
 by_cases l:i<X.length
 case neg=>rw [if_neg l] at w;exact w.elim
 rw [if_pos l] at w
 cases b:(own&&!p.s.isView) with
 | true=>
  rw [b] at w;have P:p.s.isView=false:=by
   simp only [Bool.and_eq_true,Bool.not_eq_true'] at b
   exact b.2
  exact w _ Z _ (EnvOk.put A.env A.own P I l)
 | false=>
  rw [b] at w
  cases J:T.coer .leaf p with
  | false=>rw [J] at w;exact w.elim
  | true=>
   rw [J] at w;have o:=A.own.coer (s:=.leaf) (O':=O++Y.flatten) J oQ λa U z=>absurd z (A.disj a U)
   exact w _ Z _ (EnvOk.put (G:=[]) (p:=⟨.leaf,p.d⟩) (v:=v) A.go o rfl (λa U=>by simp at U) l)
noncomputable def dE (f:F1):FS:=jo f λ_ B=>.nx B
theorem yk (h:tS K W (dE fa) D σ H):iA (tE K W fa) D σ H:=
 qj h λf O t X p v Z G Y _ I A w=>w σ Z Y A.go
theorem IH {u:Type} {l:List u} {i:Nat} {x:u} (h:l[i]?=some x):l.set i x=l:=by
 apply ext_getElem?
 intro j;by_cases A:j=i
 ·subst A
  rw [getElem?_set_self (Nq h).1,h]
 ·rw [getElem?_set_ne (Ne.symm A)]
noncomputable def zF (i:Nat) (p:PV) (B:Ev):d9:=match B[i]? with
 | some (some ⟨.lst s,.list ds⟩)=>if T.coer s p&&decide (ds.length<sizeLine) then .nx (B.set i (some ⟨.lst s,.list (ds++[p.d])⟩)) else .no
 | _=>.no
noncomputable def gE:Option (Option PV)->Bool
 | some (some ⟨.lst _,.list _⟩)=>true
 | _=>false
noncomputable def aF (i:Nat) (f:F1):FS:=λB=>if gE B[i]? then jo f (zF i) B else .no
theorem zE {f H:Hp} {O G:List Addr} {t:List (List Addr)} {B:Ev} {i:Nat} {s:Sh} {N:List Nw} {p:PV} {v:V} (E:EnvOk K f (G++O) t H σ B) (o:Own K (G++O++t.flatten) H p.s G v p.d) (fr:∀a∈G,f a=none)
  (h:B[i]?=some (some ⟨.lst s,.list N⟩)) (J:T.coer s p=true) :
  ∃l L,σ[i]?=some (some (.ref l))/\H l=some (.lst L)/\L.length=N.length/\∃Fs',EnvOk K f O Fs' (aR H l (.lst (L++[v]))) σ (B.set i (some ⟨.lst s,.list (N++[p.d])⟩)):=by
 obtain ⟨P,u,F,R,e,X,C⟩:=E.move h;have hi:i<B.length:=(Nq h).1
 cases X with
 | @lst _ l L _ Fs0 hsv hp hl hf nd q=>
  refine ⟨l,L,R,hp,hl,t.set i (l::(Fs0++[bc s G]).flatten),?_⟩
  have hlF:l∈t.flatten:=C l (Ni _ mem_cons_self)
  have hHe:f l=none:=E.fresh l hlF
  have c:∀a∈bc s G,a∈G:=λa U=>ko U
  obtain ⟨k1,k2,k3⟩:=Np e.ndO;obtain ⟨g1,g2,g3⟩:=Np k2;have ndk:(bc s G).Nodup:=by
   cases s<;>first | exact nodup_nil | exact g1
  have x:((l::(Fs0++[bc s G]).flatten)++O).Perm ((l::Fs0.flatten)++(bc s G++O)):=by
   rw [Eg];show (l::((Fs0.flatten++bc s G)++O)).Perm (l::(Fs0.flatten++(bc s G++O)))
   rw [append_assoc]
  have I:EnvOk K f ((l::Fs0.flatten)++(bc s G++O)) (t.set i []) H σ (B.set i none):=e.drop (λa U=>by
   rcases Nj U with z | z
   ·exact Ni _ z
   ·refine Nh _ ?_
    rcases Nj z with z | z
    ·exact Ni _ (c a z)
    ·exact Nh _ z) (List.nodup_append.mpr ⟨k1,List.nodup_append.mpr ⟨ndk,g2,λa U b Z=>g3 a (c a U) b Z⟩,λa U b Z=>k3 a U b (by
     rcases Nj Z with z | z
     ·exact Ni _ (c b z)
     ·exact Nh _ z)⟩)
  have r:=I.perm x
  have hlin:l∈(l::(Fs0++[bc s G]).flatten)++O:=mem_cons_self
  have E4:=r.mutO (o:=.lst (L++[v])) hlin hp hHe
  have lnG:l∉G:=λz=>k3 l mem_cons_self l (Ni _ z) rfl
  have n:∀a∈(l::(Fs0++[bc s G]).flatten)++O++(t.set i []).flatten,a∈(l::Fs0.flatten)++(G++O)++(t.set i []).flatten:=λa U=>by
   rcases Nj U with z | z
   ·refine Ni _ ?_
    rcases Nj (x.mem_iff.mp z) with y | y
    ·exact Ni _ y
    ·refine Nh _ ?_
     rcases Nj y with y | y
     ·exact Ni _ (c a y)
     ·exact Nh _ y
   ·exact Nh _ z
  have ownL:Own K ((l::(Fs0++[bc s G]).flatten)++O++(t.set i []).flatten) (aR H l (.lst (L++[v]))) (.lst s) (l::(Fs0++[bc s G]).flatten) (.ref l) (.list (N++[p.d])):=by
   refine .lst hsv cL (by simp [hl]) (by simp [hf]) ?_ λj w Y g e1 m M=>?_
   ·have k:=r.ndO
    exact (Np k).1
   ·by_cases A:j<L.length
    ·rw [getElem?_append_left A] at e1
     rw [getElem?_append_left (by omega)] at m
     rw [getElem?_append_left (by omega)] at M
     exact ((q j w Y g e1 m M).perm n).mut hsv (Ni _ hlin) (λz=>(List.nodup_cons.mp nd).1 (oI M z)) hp
    ·have hj':j=L.length:=by
      have:=(Nq e1).1
      rw [length_append,length_singleton] at this;omega
     subst hj'
     rw [getElem?_append_right (Nv _),Nat.sub_self] at e1;rw [getElem?_append_right (by omega),show L.length-N.length=0 by omega] at m
     rw [getElem?_append_right (by omega),show L.length-Fs0.length=0 by omega] at M
     cases e1
     cases m
     cases M;have osub:∀a∈(l::(Fs0++[bc s G]).flatten)++O++(t.set i []).flatten,a∈G++O++t.flatten:=λa U=>by
      rcases Nj (n a U) with z | z
      ·rcases Nj z with z | z
       ·exact Nh _ (C a (Ni _ z))
       ·exact Ni _ z
      ·exact Nh _ (C a (Nh _ z))
     have o3:=o.coer (s:=s) J osub λa U hO=>by
      cases s with
      | leaf=>
       exfalso
       rw [Eg] at hO;have hO':a∈(l::Fs0.flatten)++O++(t.set i []).flatten:=by simpa [bc] using hO
       have ndE:=E.nd
       rw [append_assoc] at ndE;have dis:=(Np ndE).2.2
       rcases Nj hO' with z | z
       ·rcases Nj z with z | z
        ·exact dis a U a (Nh _ (C a (Ni _ z))) rfl
        ·exact dis a U a (Ni _ z) rfl
       ·exact dis a U a (Nh _ (C a (Nh _ z))) rfl
      | view=>cases hsv
      | lst s=>exact U
      | tup ss=>exact U
     exact o3.mut hsv (Ni _ hlin) (λz=>lnG (c l z)) hp
  have d:=EnvOk.put (i:=i) (p:=⟨.lst s,.list (N++[p.d])⟩) (v:=.ref l) E4 ownL rfl (λa U=>?_) (by rw [length_set];exact hi)
  ·rw [set_set,set_set,IH R] at d
   exact d
  ·rcases Nk U with z | z
   ·rw [z];exact hHe
   ·rw [Eg] at z
    rcases Nj z with z | z
    ·exact E.fresh a (C a (Ni _ (Nn _ z)))
    ·exact fr a (c a z)
theorem Be {a:List V->Hp->Prop} (R:tE K W fa σ H λv F=>a [v] F):tA K W (ab fa af) σ H a:=by
 obtain ⟨f,O,t,B,E,R⟩:=R;refine ⟨f,O,t,B,E,?_⟩
 unfold ab af
 cases e:fa B with
 | ok p I=>
  rw [e] at R;intro L F b y A
  match L,b,A.len1,A.len2 with
  | [v],[G],_,_=>exact R v F G y ⟨A.same,by simpa using A.env,by simpa using A.new,by simpa using A.own 0 v p G rfl rfl rfl⟩
 | er c I=>rw [e] at R;exact R
 | no=>rw [e] at R;exact R
theorem tP {o:Option (Option PV)} (h:gE o=true):∃s N,o=some (some ⟨.lst s,.list N⟩):=by
 unfold gE at h;split at h
 ·exact ⟨_,_,rfl⟩
 ·cases h
theorem EnvOk.ownL {f H:Hp} {O:List Addr} {t:List (List Addr)} {B:Ev} {i:Nat} {s:Sh} {N:List Nw} (E:EnvOk K f O t H σ B) (h:B[i]?=some (some ⟨.lst s,.list N⟩)):∃l L,σ[i]?=some (some (.ref l))/\H l=some (.lst L)/\L.length=N.length:=by
 obtain ⟨P,v,F,R,C,n⟩:=E.slot i _ h
 cases n with
 | @lst _ l L _ Fs0 hsv hp hl hf nd q=>exact ⟨l,L,R,hp,hl⟩
theorem sP {i:Nat} (h:tS K W (aF i fa) D σ H):iA (Fn K "list" ir (aG i) (tA K W (ab fa af))) D σ H:=by
 obtain ⟨f,O,t,B,E,h⟩:=h;unfold aF at h
 cases c:gE B[i]? with
 | false=>rw [c] at h;exact h.elim
 | true=>
  rw [c] at h;obtain ⟨s,N,e⟩:=tP c;obtain ⟨l,L,R,C,n⟩:=E.ownL e;refine ⟨.ref l,R,.inl ⟨rfl,L,.of C⟩,Be (qj (D:=D) ⟨f,O,t,B,E,h⟩ λf O t X p v Z G Y _ I A w=>?_)⟩
  unfold zF at w;split at w
  ·rename_i g b d
   cases J:(T.coer g p&&decide (b.length<sizeLine)) with
   | false=>rw [J] at w;exact w.elim
   | true=>
    rw [J] at w;simp only [Bool.and_eq_true,decide_eq_true_eq] at J
    obtain ⟨j,a,F,P,o,y,r⟩:=zE A.env A.own I d J.1;rw [R] at F
    cases F;exact ⟨l,a,v,rfl,rfl,P,by rw [o];exact J.2,w σ _ y r⟩
  ·exact w.elim
noncomputable def cu (i:Nat) (C:FS):List Nw->Ev->d9
 | [],Γ=>.nx Γ
 | d::r,Γ=>if i<Γ.length then (match C (Γ.set i (Nx d)) with
  | .nx I=>cu i C r I
  | .ct I=>cu i C r I
  | .bk I=>.nx I
  | .rt p=>.rt p
  | .er c I=>.er c I
  | .no=>.no) else .no
noncomputable def dn (i:Nat) (A:FI) (C:FS):FS:=λB=>match A B with
 | .ok t X=>if t.st then cu i C t.ds X else .no
 | .er c X=>.er c X
 | .no=>.no
theorem EnvOk.rebase {f H:Hp} {O:List Addr} {t:List (List Addr)} {B:Ev} (E:EnvOk K f O t H σ B):EnvOk K (aS H t.flatten) O t H σ B/\Same f (aS H t.flatten):=
 ⟨⟨E.len1,E.len2,hid_le,E.nd,E.inH,λa U=>by unfold aS;rw [if_pos U],E.slot⟩,λb o e=>qb (E.same b o e) λz=>by have:=E.fresh b z;rw [e] at this;cases this⟩
theorem EnvOk.unbase {f b H:Hp} {O:List Addr} {t:List (List Addr)} {B:Ev} (E:EnvOk K b O t H σ B) (s:Same f b):EnvOk K f O t H σ B:=
 ⟨E.len1,E.len2,s.trans E.same,E.nd,E.inH,λa U=>s.free (E.fresh a U),E.slot⟩
theorem RetOk.unbase {f b H:Hp} {O G:List Addr} {p:PV} {v:V} (r:RetOk K b O p v H G) (s:Same f b):RetOk K f O p v H G:=
 ⟨s.trans r.same,λa U=>s.free (r.fresh a U),r.inH,r.nd,r.own,r.nv⟩
theorem BN {i:Nat} {fi:FI} {C:FS} (h:tS K W (dn i fi C) D σ H):eY (tI K W fi) (aP i) (tS K W C) D σ H:=by
 obtain ⟨f,O,Fs,B,E,h⟩:=h;refine ⟨f,O,Fs,B,E,?_⟩
 unfold dn at h
 cases e:fi B with
 | er c X=>rw [e] at h;exact λF y s E'=>h σ F y E'
 | no=>rw [e] at h;exact h
 | ok t X=>
  rw [e] at h;intro J H1 Y L P s1 E1 n1 it hP hP1 hst M;have h:dU K W f O D (if t.st then cu i C t.ds X else .no):=h
  cases ht:t.st with
  | false=>rw [ht] at h;exact h.elim
  | true=>
   rw [ht] at h;have h:dU K W f O D (cu i C t.ds X):=h
   obtain ⟨E1',sHe⟩:=E1.rebase;have hlen:L.length=t.ds.length:=M.1
   refine ⟨λk m A F=>m=L.length-k/\k<=L.length/\∃n N,EnvOk K (aS H1 Y.flatten) O N F A n/\dU K W f O D (cu i C (t.ds.drop k) n),⟨L.length,by simp,Nat.zero_le _,X,Y,E1',by simpa using h⟩,?_⟩
   rintro k m A F ⟨rfl,hk,n,N,Ek,hw⟩
   have hPk:P F:=hst ht F Ek.same
   by_cases hlt:k<L.length
   case neg=>
    left
    have hke:k=L.length:=by omega
    have:t.ds.drop k=[]:=List.drop_eq_nil_of_le (by omega)
    rw [this] at hw;exact ⟨by rw [hke];exact it.stop F hPk,hw A F N (Ek.unbase sHe)⟩
   case pos=>
    right
    have hv:L[k]?=some L[k]:=Nl hlt
    have hkd:k<t.ds.length:=by omega
    have hd:t.ds[k]?=some t.ds[k]:=Nl hkd
    have hdr:t.ds.drop k=t.ds[k]::t.ds.drop (k+1):=drop_eq_getElem_cons hkd
    rw [hdr] at hw;generalize hdk:t.ds[k]=d at hd hw
    generalize hvk:L[k]=v at hv
    obtain ⟨hgo,hyld⟩:=it.go k F v hPk hv
    simp only [cu] at hw
    by_cases l:i<n.length
    case neg=>rw [if_neg l] at hw;exact hw.elim
    rw [if_pos l] at hw;have rep:Rep K (aS F (O++N.flatten)) v d:=by
     refine (M.2 k v d hv hd).mono λb o Z=>?_
     have hb1:aS H1 Y.flatten b=some o:=sub_hid b o Z
     have hbO:b∉O:=λz=>by
      unfold aS at Z;rw [if_pos (Ni _ z)] at Z
      cases Z
     have hbF:b∉N.flatten:=λz=>by
      have:=Ek.fresh b z
      rw [hb1] at this
      cases this
     exact qb (Ek.same b o hb1) λz=>(Nj z).elim hbO hbF
    have Ep:EnvOk K (aS H1 Y.flatten) O (N.set i []) F (A.set i (some v)) (n.set i (Nx d)):=
     EnvOk.put (G:=[]) (p:=⟨.leaf,d⟩) (v:=v) Ek (.leaf rep) rfl (λa U=>by simp at U) l
    refine ⟨hgo,λw j=>∃n N,EnvOk K (aS H1 Y.flatten) O N j w n/\dU K W f O D (cu i C (t.ds.drop (k+1)) n),λw j q=>⟨L.length-(k+1),by omega,rfl,hlt,q⟩,λx Hx hx=>?_⟩
    obtain ⟨rfl,rfl⟩:=hyld x Hx hx;show tS K W C _ (A.set i (some x)) Hx
    refine ⟨aS H1 Y.flatten,O,_,_,Ep,?_⟩
    cases g:C (n.set i (Nx d)) with
    | nx I=>rw [g] at hw;exact λw j R E2=>⟨I,R,E2,hw⟩
    | ct I=>rw [g] at hw;exact λw j R E2=>⟨I,R,E2,hw⟩
    | bk I=>rw [g] at hw;exact λw j R E2=>hw w j R (E2.unbase sHe)
    | rt p=>rw [g] at hw;exact λu j G r=>hw u j G (r.unbase sHe)
    | er c I=>rw [g] at hw;exact λw j R E2=>hw w j R (E2.unbase sHe)
    | no=>rw [g] at hw;exact hw
end
inductive bA where
 | ok (p:PV) | er (c:Str) | no
noncomputable def qu (K:Fg) (n:Nat) (u:List Nw->bA):Sp:=λL H Q _=>L.length=n/\∃O N,O.Nodup/\(∀a∈O,H a≠none)/\Reps K (aS H O) L N/\match u N with
 | .ok p=>∀v F G,RetOk K H O p v F G->Q v F
 | .er _=>False
 | .no=>False
noncomputable def aN (n:Nat) (N:List Nw):Ev:=N.map (λd=>some ⟨.leaf,d⟩)++List.replicate (n-N.length) none
noncomputable def aB (n:Nat) (g:FS) (N:List Nw):bA:=match g (aN n N) with
 | .nx _=>.ok ⟨.leaf,.none⟩
 | .rt p=>.ok p
 | .er c _=>.er c
 | _=>.no
section
variable {P:Program} {w:World} {K:Fg} {mg:Str->Option Value} {base:Heap}
theorem tV {N:List Str} {H:Hp} {O:List Addr} {L:List V} {b:List Nw} (y:L.length<=N.length) (J:O.Nodup) (c:∀a∈O,H a≠none) (d:Reps K (aS H O) L b) :
  EnvOk K H O (List.replicate N.length []) H (L2.start N L) (aN N.length b):=by
 have q:(List.replicate N.length ([]:List Addr)).flatten=[]:=by simp
 have e:=d.1
 refine ⟨by simp [L2.start,aN,e],by simp [aN];omega,Same.refl _,by rw [q];simpa using J,by rw [q];simpa using c,λa U=>by rw [q] at U;simp at U,λi p g=>?_⟩
 unfold aN at g;by_cases l:i<b.length
 ·rw [getElem?_append_left (by simpa using l),getElem?_map,Nl l] at g
  cases g;refine ⟨rfl,L[i]'(by omega),[],?_,?_,?_⟩
  ·unfold L2.start
   rw [getElem?_append_left (by simp;omega),getElem?_map,Nl (by omega)]
   rfl
  ·rw [getElem?_replicate,if_pos (by omega)]
  ·refine .leaf ?_
   rw [q,append_nil];exact d.2 i _ _ (Nl _) (Nl l)
 ·rw [getElem?_append_right (by simpa using l),getElem?_replicate] at g
  split at g<;>cases g
theorem C9 {x G:Str} {st:Stmt} {f:Addr} {o:FuncData} {N J:List Str} {k:Nat} {g:FS} (F:Fun K x G st f o) (S:bZ N J (aD st))
  (Z:∀(a:Value) (A:Around) (B:List Env) (s:Shared) (H:Hp) (E:XK),Room k (A.deeper (envOfC G (aD st) s.heap.objs.size f a)) ->
   PSs (oo g5 P w K mg base N G (aD st) f a A B s H E).nox (bC st) (tS K W0 g)):cC P w K mg base g5 (k+1) f o J (qu K J.length (aB N.length g)):=by
 have Y:J.length<=N.length:=by have:=congrArg List.length S.pre;rw [length_take] at this;omega
 refine F.ok S (λL H Q E h=>h.1) (λa A B s H L Q E M h=>⟨_,Z a A B s H E M,?_⟩)
 obtain ⟨n,O,d,m,b,i,w⟩:=h;refine ⟨H,O,List.replicate N.length [],aN N.length d,tV (by omega) m b i,?_⟩
 unfold aB at w
 cases e:g (aN N.length d) with
 | nx I=>
  rw [e] at w;exact λj l y r=>w .non l [] ⟨r.same,(λ_ z=>nomatch z),(λ_ z=>nomatch z),nodup_nil,.leaf .non,rfl⟩
 | rt p=>rw [e] at w;exact w
 | bk I=>rw [e] at w;exact w.elim
 | ct I=>rw [e] at w;exact w.elim
 | er c I=>rw [e] at w;exact w.elim
 | no=>rw [e] at w;exact w.elim
end
noncomputable def ag (n:Nat) (u:List Nw->bA) (q:FL):F1:=λB=>(q B).bind λJ I=>if J.length=n then (match u (J.map (·.d)) with
 | .ok p=>if J.all (T.coer .leaf) then .ok p I else if bD p.d then .ok ⟨.leaf,p.d⟩ I else .ok ⟨.view,p.d⟩ I
 | _=>.no) else .no
section
variable {K:Fg} {W:XW} {σ:St} {H:Hp} {Q:VK} {fl:FL}
theorem ym {n:Nat} {u:List Nw->bA} {E:XK} (h:tE K W (ag n u fl) σ H Q):ff (qu K n u) [] E (tA K W fl) σ H Q:=by
 obtain ⟨f,O,t,B,E0,h⟩:=h;refine ⟨f,O,t,B,E0,?_⟩
 unfold ag at h
 cases e:fl B with
 | er c I=>rw [e] at h;exact h
 | no=>rw [e] at h;exact h
 | ok ps X=>
  rw [e] at h;intro L Z b F A;have h:Wants K W f O t H σ Q (if ps.length=n then (match u (ps.map (·.d)) with | .ok p=>if ps.all (T.coer .leaf) then .ok p X else if bD p.d then .ok ⟨.leaf,p.d⟩ X else .ok ⟨.view,p.d⟩ X | _=>.no) else .no):=h
  by_cases hn:ps.length=n
  case neg=>rw [if_neg hn] at h;exact h.elim
  rw [if_pos hn] at h;have N:(L++[]).length=n:=by rw [append_nil,A.len1];exact hn
  cases g:u (ps.map (·.d)) with
  | er c=>rw [g] at h;exact h.elim
  | no=>rw [g] at h;exact h.elim
  | ok p=>
   rw [g] at h;have h:Wants K W f O t H σ Q (if ps.all (T.coer .leaf) then .ok p X else if bD p.d then .ok ⟨.leaf,p.d⟩ X else .ok ⟨.view,p.d⟩ X):=h
   obtain ⟨k,n2,w⟩:=Np A.env.nd;obtain ⟨m1,P,m3⟩:=Np k;have newF:∀a∈F.flatten,a∈t.flatten\/H a=none:=λa U=>A.new a (Nh _ U)
   cases J:ps.all (T.coer .leaf) with
   | true=>
    rw [J] at h;have h:Wants K W f O t H σ Q (.ok p X):=h
    refine ⟨N,O++F.flatten,ps.map (·.d),A.env.dropL.nd,A.env.dropL.inH,?_,?_⟩
    ·rw [append_nil]
     refine ⟨A.reps.1,λi v d R C=>?_⟩
     rw [getElem?_map] at C
     cases m:ps[i]? with
     | none=>rw [m] at C;cases C
     | some q=>
      rw [m] at C
      cases C;have l:=(Nq m).1
      have M:b[i]?=some (b[i]'(by rw [A.len2];exact l)):=Nl _
      have o:=A.own i v q _ R m M
      have x:=o.coer (s:=.leaf) (O':=O++F.flatten) (List.all_eq_true.mp J q (mem_of_getElem? m)) oQ λa U z=>by
       exfalso
       have hG:=oI M U
       rcases Nj z with y | y
       ·exact m3 a hG a y rfl
       ·exact w a (Ni _ hG) a y rfl
      cases x with
      | leaf r=>exact r
    ·rw [g]
     intro v j G r;refine h v j G F ⟨A.same.trans r.same,A.env.dropL.hide r.same r.nd r.fresh r.inH,λa U=>?_,by rw [append_assoc];exact r.own⟩
     rcases Nj U with z | z
     ·exact .inr (A.same.free (r.fresh a z))
     ·exact newF a z
   | false=>
    rw [J] at h;have h:Wants K W f O t H σ Q (if bD p.d then .ok ⟨.leaf,p.d⟩ X else .ok ⟨.view,p.d⟩ X):=h
    refine ⟨N,[],ps.map (·.d),nodup_nil,(λ_ z=>nomatch z),by rw [append_nil,rA];exact A.reps,?_⟩
    rw [g];intro v j G r
    cases Y:bD p.d with
    | true=>
     rw [Y] at h;exact Wants.scal h (r.own.rep.sc Y) (A.same.trans r.same) (A.env.dropL.grow r.same) (λa U=>U) E0.ndO newF
    | false=>
     rw [Y] at h;have h:Wants K W f O t H σ Q (.ok ⟨.view,p.d⟩ X):=h
     exact h v j [] F ⟨A.same.trans r.same,by simpa using A.env.dropL.grow r.same,by simpa using newF,.view r.own.rep⟩
end
theorem AG:bootBuiltins "len"=some (.builtin "len"):=by decide +kernel
theorem AI:bootBuiltins "all"=some (.builtin "all"):=by decide +kernel
theorem HH:bootBuiltins "max"=some (.builtin "max"):=by decide +kernel
theorem oz:bootBuiltins "sorted"=some (.builtin "sorted"):=by decide +kernel
theorem lZ:bootBuiltins "isinstance"=some (.builtin "isinstance"):=by decide +kernel
theorem HI:bootBuiltins "int"=some (.type "int"):=by decide +kernel
theorem wY:bootBuiltins "list"=some (.type "list"):=by decide +kernel
theorem rT:bootBuiltins "tuple"=some (.type "tuple"):=by decide +kernel
theorem HE:bootBuiltins "str"=some (.type "str"):=by decide +kernel
section
variable {X:Cx} {W:XW} {a b c e:Expr} {es:List Expr} {pos:Pos} {fa fb fc:F1} {fl:FL} {ga gb:FB} {g1 g2:FS}
theorem Dt {f:CmpOp} {r:R2} {g:Nw->Nw->Option Nw} (K:OpR X (compareOp f) r) (E:GOp X.K r g) (U:PE X a (tE X.K W fa)) (Z:PE X b (tE X.K W fb)) (G:behindInMarks f b=false:=by with_unfolding_all rfl) :
  PE X (.Compare a [f] [b] pos) (tE X.K W (ar g fa fb)):=bh (yw K U Z G) λ_ _ _=>gU E
theorem Dk {f:CmpOp} {r:R2} {g:Nw->Nw->Option Nw} (K:OpR X (compareOp f) r) (E:GOp X.K r g) (U:PE X a (tE X.K W fa)) (Z:PE X b (tE X.K W fb)) (G:behindInMarks f b=false:=by with_unfolding_all rfl) :
  PT X (.Compare a [f] [b] pos) (tT X.K W (aM ai (ar g fa fb))):=rX (qG K U Z G) λM H d=>qD λQ=>gU E
theorem wK {f i:CmpOp} {r t:R2} {g m:Nw->Nw->Option Nw} (K:OpR X (compareOp f) r) (E:GOp X.K r g) (C:OpR X (compareOp i) t) (B:GOp X.K t m) (U:PE X a (tE X.K W fa)) (Z:PE X b (tE X.K W fb)) (J:PE X c (tE X.K W fc))
  (G:lastMarks [f,i] [b,c]=false:=by with_unfolding_all rfl):PE X (.Compare a [f,i] [b,c] pos) (tE X.K W (dt g m fa fb fc)):=bh (vB K C U Z J G) λ_ _ _=>mT E B
theorem wI {f i:CmpOp} {r t:R2} {g m:Nw->Nw->Option Nw} (K:OpR X (compareOp f) r) (E:GOp X.K r g) (C:OpR X (compareOp i) t) (B:GOp X.K t m) (U:PE X a (tE X.K W fa)) (Z:PE X b (tE X.K W fb)) (J:PE X c (tE X.K W fc))
  (G:lastMarks [f,i] [b,c]=false:=by with_unfolding_all rfl):PT X (.Compare a [f,i] [b,c] pos) (tT X.K W (aM ai (dt g m fa fb fc))):=rX (vn K C U Z J G) λM H d=>qD λQ=>mT E B
theorem da_nil:PA X [] (tA X.K W af):=AM gz λ_ _ _=>BF
theorem da_cons (U:PE X e (tE X.K W fa)) (M:PA X es (tA X.K W fl)) (Y:starEach (e::es) X.env=(false,eval e X.env)::starEach es X.env:=by rfl):PA X (e::es) (tA X.K W (ab fa fl)):=AM (cI U M Y) λ_ _ _=>yl
theorem wL {x:Str} {j:String} {r:List V->Hp->VK->Prop} {g:List Nw->Option Nw} {p:Pos} (J:CallR X (.builtin j) r) (E:GCall X.K r g) (P:bootBuiltins x=some (.builtin j)) (G:X.mg x=none) (U:PA X (e::es) (tA X.K W fl)) (f:Gl X x:=by rfl)
  (y:x ≠ "__name__":=by decide) (d:(x==("__debug__":Str))=false:=by decide) (R:starEach (e::es) X.env=(false,eval e X.env)::starEach es X.env:=by rfl) (Y:(backTo pos (starEach es X.env)).any (·.1)=false:=by rfl) :
  PE X (.Call (.Name x p) (e::es) [] pos) (tE X.K W (bb g fl)):=bh (EK J f G P U y d R Y) λ_ _ _=>Ag E
theorem AC {x:Str} {j:String} {r:List V->Hp->VK->Prop} {g:List Nw->Option Nw} {p:Pos} (J:CallR X (.type j) r) (E:GCall X.K r g) (P:bootBuiltins x=some (.type j)) (G:X.mg x=none) (U:PA X (e::es) (tA X.K W fl)) (f:Gl X x:=by rfl)
  (y:x ≠ "__name__":=by decide) (d:(x==("__debug__":Str))=false:=by decide) (R:starEach (e::es) X.env=(false,eval e X.env)::starEach es X.env:=by rfl) (Y:(backTo pos (starEach es X.env)).any (·.1)=false:=by rfl) :
  PE X (.Call (.Name x p) (e::es) [] pos) (tE X.K W (bb g fl)):=bh (kc J f G P U y d R Y) λ_ _ _=>Ag E
theorem t9 {p:Pos} (G:X.mg "list"=none) (U:PE X e (tE X.K W fa)) (f:Gl X "list":=by rfl) (Y:starEach [e] X.env=[(false,eval e X.env)]:=by rfl) :
  PE X (.Call (.Name "list" p) [e] [] pos) (tE X.K W (bO fa)):=bh (kc lX f G wY (da_cons U da_nil Y) (by decide) (by decide) Y rfl) λ_ _ _=>sN
theorem zr {f:Addr} {o:FuncData} {J:List Str} {k n:Nat} {u:List Nw->bA} {x:Str} {p:Pos} (F:cC X.prog X.w X.K X.mg X.base g5 k f o J (qu X.K n u)) (M:Room k X.A) (G:X.mg x=some (.ref f)) (O:PySem.W.keepIn X.K (.ref f)=true)
  (Z:Binds X.K o J []) (U:PA X (e::es) (tA X.K W fl)) (E:Gl X x:=by rfl) (d:(x==("__debug__":Str))=false:=by decide) (R:starEach (e::es) X.env=(false,eval e X.env)::starEach es X.env:=by rfl)
  (Y:(backTo pos (starEach es X.env)).any (·.1)=false:=by rfl):PE X (.Call (.Name x p) (e::es) [] pos) (tE X.K W (ag n u fl)):=bh (qJ F M E G O Z .nil Aj U d R Y) λ_ _ _=>ym
theorem Hk {l:Expr} {p:Pos} (G:X.mg "range"=none) (U:PA X [a] (tA X.K W fl)) (E:Gl X "range":=by rfl) (Y:starEach [a] X.env=[(false,eval a X.env)]:=by rfl):PI X l (.Call (.Name "range" p) [a] [] pos) (tI X.K W (d6 fl)):=rY (Kf E G U Y) λ_ _ _=>BL
theorem Hj {l:Expr} {p:Pos} (G:X.mg "range"=none) (U:PA X [a,b] (tA X.K W fl)) (E:Gl X "range":=by rfl) (Y:starEach [a,b] X.env=[(false,eval a X.env),(false,eval b X.env)]:=by rfl) (m:starEach [b] X.env=[(false,eval b X.env)]:=by rfl) :
  PI X l (.Call (.Name "range" p) [a,b] [] pos) (tI X.K W (y0 fl)):=rY (sX E G U Y m) λ_ _ _=>BK
noncomputable def aK:FB:=λB=>.ok true B
theorem zq {d:Scope} {x:Str} {I:Pos} {z l:Expr} {u:List Expr} {A:FI} {v:F1} {E:FB} (s:Sh) (i:Nat) (S:dy X.N [i] X.env.scope d) (O:X.N.Nodup) (q:PI X (.Name x I) z (tI X.K W A))
  (J:∀f C t w P,PF (blk X d f C t w P) u (tT X.K W0 E)) (R:∀f C t w P,PE (blk X d f C t w P) l (tE X.K W0 v))
  (K:X.calm=true:=by rfl) (G:X.N[i]?=some x:=by rfl) (N:∀f C t w P,Loc (blk X d f C t w P).env.scope x:=by first | exact λ_ _ _ _ _=>Or.inl rfl | exact λ_ _ _ _ _=>Or.inr rfl)
  (m:∀f C t w P,(blk X d f C t w P).fn x=true\/(blk X d f C t w P).env.scope.names.lookup x=some .local:=by first | exact λ_ _ _ _ _=>Or.inr rfl | exact λ_ _ _ _ _=>Or.inl rfl)
  (Y:∀x,foldedSetIterable z X.env x=pure x:=by intro _;rfl):PE X (.ListComp l [⟨.Name x I,z,u,0⟩] d pos) (tE X.K W (aq s i A E v)):=
 bh (J0 S K q (λf C t w P=>Ip (X:=blk X d f C t w P) (i:=i) O G (N f C t w P) (m f C t w P)) J R Y) λ_ _ _=>qE
theorem Dl (own:Bool) (i:Nat) {x:Str} {r:Pos} (O:X.N.Nodup) (U:PE X a (tE X.K W fa)) (l:X.N[i]?=some x:=by rfl) (G:Loc X.env.scope x:=by first | exact Or.inl rfl | exact Or.inr rfl) (Y:swapsWith a (some (.Name x r)) pos.line X.env=pure false:=by rfl)
  (m:X.fn x=true\/X.env.scope.names.lookup x=some .local:=by first | exact .inl rfl | exact .inr rfl):PS X (.Assign [.Name x r] a pos) (tS X.K W (ax own i fa)):=je (vo O l G U Y m) λ_ _ _=>vd
theorem pG (own:Bool) (j:Nat) {d:Scope} {x y:Str} {I r p:Pos} {z l:Expr} {u:List Expr} {A:FI} {v:F1} {E:FB} (s:Sh) (i:Nat) (S:dy X.N [i] X.env.scope d) (O:X.N.Nodup) (q:PI X (.Name x I) z (tI X.K W A))
  (J:∀f C t w P,PF (blk X d f C t w P) u (tT X.K W0 E)) (R:∀f C t w P,PE (blk X d f C t w P) l (tE X.K W0 v))
  (n:swapsWith (.ListComp l [⟨.Name x I,z,u,0⟩] d pos) (some (.Name y r)) p.line X.env=pure true:=by rfl)
  (o:X.N[j]?=some y:=by rfl) (g:X.env.scope.names.lookup y=some .local:=by rfl)
  (K:X.calm=true:=by rfl) (G:X.N[i]?=some x:=by rfl) (N:∀f C t w P,Loc (blk X d f C t w P).env.scope x:=by first | exact λ_ _ _ _ _=>Or.inl rfl | exact λ_ _ _ _ _=>Or.inr rfl)
  (m:∀f C t w P,(blk X d f C t w P).fn x=true\/(blk X d f C t w P).env.scope.names.lookup x=some .local:=by first | exact λ_ _ _ _ _=>Or.inr rfl | exact λ_ _ _ _ _=>Or.inl rfl)
  (Y:∀x,foldedSetIterable z X.env x=pure x:=by intro _;rfl):PS X (.Assign [.Name y r] (.ListComp l [⟨.Name x I,z,u,0⟩] d pos) p) (tS X.K W (ax own j (aq s i A E v))):=
 je (iG O o g S K q (λf C t w P=>Ip (X:=blk X d f C t w P) (i:=i) O G (N f C t w P) (m f C t w P)) J R n Y) λD M H h=>by
  have k:dm (tE X.K W (aq s i A E v)) (aP j) D M H:=vd h
  exact qE k
theorem tW (i:Nat) {x:Str} {p h d:Pos} (U:PE X a (tE X.K W fa)) (O:X.N[i]?=some x:=by rfl) (P:Em X.env.scope x:=by first | exact Or.inl rfl | exact Or.inr (Or.inl rfl) | exact Or.inr (Or.inr rfl)) (F:(x==("__debug__":Str))=false:=by decide)
  (g:(x==("__classdict__":Str))=false:=by decide) (Y:starEach [a] X.env=[(false,eval a X.env)]:=by rfl)
  (m:attributeBase (.Name x p) "append" X.env (eval (.Name x p) X.env)=eval (.Name x p) X.env:=by rfl) (k:(h.endLine==d.line)=true:=by rfl)
  (f:((backTo d (starEach [a] X.env)).all (λx=>!x.1)&&(backToKw d (keywordEach [] X.env)).all (λx=>x.1.isSome)
   && decide ([a].length+([]:List Keyword).length+(if ([]:List Keyword).isEmpty then 0 else 1)<30))=true:=by rfl)
  (n:swapsWith (.Call (.Attribute (.Name x p) "append" h) [a] [] d) none pos.line X.env=pure false:=by rfl) :
  PS X (.Expr (.Call (.Attribute (.Name x p) "append" h) [a] [] d) pos) (tS X.K W (aF i fa)):=
 je (D7 (qK PySem.F.plainAttrs_list PySem.F.slot_list_append PySem.F.type_list_append IE (Ew O P F g) (da_cons U da_nil Y) m f k Y rfl) n) λ_ _ _=>sP
theorem Dm (i:Nat) {x:Str} {I:Pos} {z:Expr} {C:List Stmt} {A:FI} {g:FS} (d:PassesOwn (model X.prog X.w) X.A X.env X.xe) (O:X.N.Nodup) (q:PI X (.Name x I) z (tI X.K W A)) (Z:PSs X C (tS X.K W g)) (K:X.calm=true:=by rfl)
  (G:X.N[i]?=some x:=by rfl) (N:Loc X.env.scope x:=by first | exact Or.inl rfl | exact Or.inr rfl) (m:X.fn x=true\/X.env.scope.names.lookup x=some .local:=by first | exact .inl rfl | exact .inr rfl)
  (Y:∀x,foldedSetIterable z X.env x=pure x:=by intro _;rfl):PS X (.For (.Name x I) z C [] pos) (tS X.K W (dn i A g)):=
 je (xv d K q (Ip O G N m) Z Y) λ_ _ _=>BN
end
structure Cp (X:Cx) (N gl:List Str) (vs cs ls lo gs:List Nat):Prop where
 hN:X.N=N
 nd:N.Nodup
 nm:∀x∈N,(x==("__debug__":Str))=false/\(x==("__classdict__":Str))=false
 ng:∀x∈gl,(x==("__debug__":Str))=false/\x ≠ "__name__"
 vis:∀(i:Nat) x,N[i]?=some x->vs.contains i=true->Em X.env.scope x
 cel:∀(i:Nat) x,N[i]?=some x->cs.contains i=true->X.env.scope.names.lookup x=some .cell\/X.env.scope.names.lookup x=some .free
 loc:∀(i:Nat) x,N[i]?=some x->ls.contains i=true->Loc X.env.scope x/\(X.fn x=true\/X.env.scope.names.lookup x=some .local)
 loo:∀(i:Nat) x,N[i]?=some x->lo.contains i=true->X.env.scope.names.lookup x=some .local
 glb:∀(j:Nat) x,gl[j]?=some x->gs.contains j=true->Gl X x
 calm:X.calm=true
 kind:X.env.scope.kind=.function
noncomputable def eD (sc:Scope) (U:List NameKind) (o:Option Str):Bool:=match o with
 | some x=>(match sc.names.lookup x with
  | some k=>U.any λz=>decide (z=k)
  | none=>false)
 | none=>true
noncomputable def kF (N gl:List Str) (L u Z r t:List Nat) (sc:Scope):Bool:=
 decide (sc.kind=.function)&&(L.all λi=>eD sc [.local,.cell,.free] N[i]?)&&(u.all λi=>eD sc [.cell,.free] N[i]?)&&(Z.all λi=>eD sc [.local,.cell] N[i]?)&&(r.all λi=>eD sc [.local] N[i]?)&&(t.all λj=>eD sc [.globalImplicit] gl[j]?)
noncomputable def ux (N gl:List Str):Bool:=decide N.Nodup&&(N.all λx=>!(x==("__debug__":Str))&&!(x==("__classdict__":Str)))&&(gl.all λx=>!(x==("__debug__":Str))&&!decide (x = "__name__"))
theorem Eb {sc:Scope} {U:List NameKind} {x:Str} (h:eD sc U (some x)=true):∃k∈U,sc.names.lookup x=some k:=by
 unfold eD at h;simp only at h
 split at h
 ·rename_i k e
  simp only [any_eq_true,decide_eq_true_eq] at h
  obtain ⟨z,w,rfl⟩:=h;exact ⟨z,w,e⟩
 ·cases h
theorem Ez {P:Nat->Bool} {l:List Nat} {i:Nat} (h:l.all P=true) (a:l.contains i=true):P i=true:=by
 rw [all_eq_true] at h;exact h i (by simpa using a)
structure Ng (N gl:List Str) (vs cs ls lo gs:List Nat) (sc:Scope):Prop where
 kind:sc.kind=.function
 vis:∀(i:Nat) x,N[i]?=some x->vs.contains i=true->Em sc x
 cel:∀(i:Nat) x,N[i]?=some x->cs.contains i=true->sc.names.lookup x=some .cell\/sc.names.lookup x=some .free
 loc:∀(i:Nat) x,N[i]?=some x->ls.contains i=true->Loc sc x
 loo:∀(i:Nat) x,N[i]?=some x->lo.contains i=true->sc.names.lookup x=some .local
 glb:∀(j:Nat) x,gl[j]?=some x->gs.contains j=true->sc.names.lookup x=some .globalImplicit
theorem Jp {N gl:List Str} {L u Z r t:List Nat} {sc:Scope} (h:kF N gl L u Z r t sc=true):Ng N gl L u Z r t sc:=by
 unfold kF at h;simp only [Bool.and_eq_true,decide_eq_true_eq] at h
 obtain ⟨⟨⟨⟨⟨a,R⟩,C⟩,n⟩,f⟩,F⟩:=h;refine ⟨a,λi x e l=>?_,λi x e l=>?_,λi x e l=>?_,λi x e l=>?_,λi x e l=>?_⟩
 ·have q:=Ez R l
  rw [e] at q;obtain ⟨k,O,q⟩:=Eb q;simp only [mem_cons,not_mem_nil,or_false] at O
  rcases O with rfl | rfl | rfl
  ·exact .inl q
  ·exact .inr (.inl q)
  ·exact .inr (.inr q)
 ·have q:=Ez C l
  rw [e] at q;obtain ⟨k,O,q⟩:=Eb q;simp only [mem_cons,not_mem_nil,or_false] at O
  rcases O with rfl | rfl
  ·exact .inl q
  ·exact .inr q
 ·have q:=Ez n l
  rw [e] at q;obtain ⟨k,O,q⟩:=Eb q;simp only [mem_cons,not_mem_nil,or_false] at O
  rcases O with rfl | rfl
  ·exact .inl q
  ·exact .inr q
 ·have q:=Ez f l
  rw [e] at q;obtain ⟨k,O,q⟩:=Eb q;simp only [mem_cons,not_mem_nil,or_false] at O
  rw [O] at q;exact q
 ·have q:=Ez F l
  rw [e] at q;obtain ⟨k,O,q⟩:=Eb q;simp only [mem_cons,not_mem_nil,or_false] at O
  rw [O] at q;exact q
theorem vM {N gl:List Str} (h:ux N gl=true):N.Nodup/\(∀x∈N,(x==("__debug__":Str))=false/\(x==("__classdict__":Str))=false)/\∀x∈gl,(x==("__debug__":Str))=false/\x ≠ "__name__":=by
 unfold ux at h;simp only [Bool.and_eq_true,decide_eq_true_eq,all_eq_true,Bool.not_eq_true',decide_eq_false_iff_not] at h
 exact ⟨h.1.1,h.1.2,h.2⟩
theorem Cp.fn {P:Program} {w:World} {K:Fg} {I:Str->Option Value} {m:Heap} {N gl:List Str} {L u Z r t:List Nat} {G:Str} {sc:Scope} {f:Addr} {M:Value} {A:Around} {B:List Env} {s:Shared} {H:Hp} {E:XK}
  (h:kF N gl L u Z r t sc=true) (U:ux N gl=true):Cp (oo g5 P w K I m N G sc f M A B s H E).nox N gl L u Z r t:=by
 obtain ⟨a,b,c⟩:=vM U
 have q:=Jp h
 exact ⟨rfl,a,b,c,q.vis,q.cel,λi x e l=>⟨q.loc i x e l,.inl rfl⟩,q.loo,q.glb,rfl,q.kind⟩
theorem Ae {p:Env} {x:Str} {k:NameKind}:∀{b:List (Str×NameKind)},b.lookup x=some k ->
  (b.map λ(n,k)=>if (k==NameKind.free&&p.scope.kind==.function&&p.kindOf n==some .cell) then (n,NameKind.cell) else (n,k)).lookup x=some k \/
  (k=.free/\(b.map λ(n,k)=>if (k==NameKind.free&&p.scope.kind==.function&&p.kindOf n==some .cell) then (n,NameKind.cell) else (n,k)).lookup x=some .cell)
 | [],h=>by simp at h
 | (n,k')::r,h=>by
  have f:=@Ae p x k r
  rw [map_cons];show List.lookup x ((if (k'==NameKind.free&&p.scope.kind==.function&&p.kindOf n==some .cell)=true then (n,NameKind.cell) else (n,k'))::_)=_\/_/\List.lookup x ((if (k'==NameKind.free&&p.scope.kind==.function&&p.kindOf n==some .cell)=true then (n,NameKind.cell) else (n,k'))::_)=_
  by_cases J:(k'==NameKind.free&&p.scope.kind==.function&&p.kindOf n==some .cell)=true
  ·rw [if_pos J]
   cases G:x==n with
   | true=>
    simp only [lookup_cons,G] at h ⊢
    cases h;simp only [Bool.and_eq_true,beq_iff_eq] at J
    exact .inr ⟨J.1.1,trivial⟩
   | false=>
    simp only [lookup_cons,G] at h ⊢
    exact f h
  ·rw [if_neg J]
   cases G:x==n with
   | true=>
    simp only [lookup_cons,G] at h ⊢
    cases h;exact .inl rfl
   | false=>
    simp only [lookup_cons,G] at h ⊢
    exact f h
theorem xx {d:Scope} {env:Env} {x:Str} {k:NameKind} (h:d.names.lookup x=some k):(relabel d env).names.lookup x=some k\/(k=.free/\(relabel d env).names.lookup x=some .cell):=Ae h
theorem Cp.blk {X:Cx} {N gl:List Str} {L u Z r t k m a g j:List Nat} {d:Scope} (S:Cp X N gl L u Z r t) (h:kF N gl k m a g j d=true) (cells C s₀ H₀ ex) :
  Cp (blk X d cells C s₀ H₀ ex) N gl k m a g j:=by
 have q:=Jp h
 refine ⟨S.hN,S.nd,S.nm,S.ng,λi x e l=>?_,λi x e l=>?_,λi x e l=>?_,λi x e l=>?_,λi x e l=>?_,S.calm,q.kind⟩
 ·show Em (relabel d X.env) x
  rcases q.vis i x e l with z | z | z
  ·rcases xx (env:=X.env) z with y | ⟨y,_⟩
   ·exact .inl y
   ·cases y
  ·rcases xx (env:=X.env) z with y | ⟨y,_⟩
   ·exact .inr (.inl y)
   ·cases y
  ·rcases xx (env:=X.env) z with y | ⟨_,y⟩
   ·exact .inr (.inr y)
   ·exact .inr (.inl y)
 ·show (relabel d X.env).names.lookup x=some .cell\/(relabel d X.env).names.lookup x=some .free
  rcases q.cel i x e l with z | z
  ·rcases xx (env:=X.env) z with y | ⟨y,_⟩
   ·exact .inl y
   ·cases y
  ·rcases xx (env:=X.env) z with y | ⟨_,y⟩
   ·exact .inr y
   ·exact .inl y
 ·show Loc (relabel d X.env) x/\((d.names.any λy=>y.1==x&&y.2==.cell)=true\/(relabel d X.env).names.lookup x=some .local)
  rcases q.loc i x e l with z | z
  ·rcases xx (env:=X.env) z with y | ⟨y,_⟩
   ·exact ⟨.inl y,.inr y⟩
   ·cases y
  ·rcases xx (env:=X.env) z with y | ⟨y,_⟩
   ·refine ⟨.inr y,.inl ?_⟩
    rw [any_eq_true];exact ⟨(x,.cell),iT z,by simp⟩
   ·cases y
 ·show (relabel d X.env).names.lookup x=some .local
  rcases xx (env:=X.env) (q.loo i x e l) with y | ⟨y,_⟩
  ·exact y
  ·cases y
 ·show (relabel d X.env).names.lookup x=some .globalImplicit
  rcases xx (env:=X.env) (q.glb i x e l) with y | ⟨y,_⟩
  ·exact y
  ·cases y
noncomputable def kH (N:List Str) (i:Nat) (u:List Nat) (sc:Scope):Bool:=
 decide (sc.kind=.function)&&(sc.names.all λp=>!decide (p.2=.free)||u.any λj=>decide (N[j]?=some p.1)) &&
 ((List.range N.length).all λj=>j==i||(sc.names.all λp=>!decide (some p.1=N[j]?)||(!decide (p.2=.local)&&!decide (p.2=.cell)))) &&
 (sc.names.all λp=>!decide (p.2=.local)||decide (sc.names.lookup p.1=some .local)) &&
 (sc.names.all λp=>!decide (p.2=.free)||sc.names.all λq=>!decide (q.1=p.1)||!decide (q.2=.cell))
theorem oq {X:Cx} {N gl:List Str} {L u Z r t:List Nat} {d:Scope} {i:Nat} (S:Cp X N gl L u Z r t) (h:kH N i u d=true):dy X.N [i] X.env.scope d:=by
 unfold kH at h;simp only [Bool.and_eq_true,decide_eq_true_eq,all_eq_true,Bool.or_eq_true,Bool.not_eq_true',decide_eq_false_iff_not,any_eq_true,mem_range,beq_iff_eq] at h
 obtain ⟨⟨⟨⟨l,R⟩,C⟩,b⟩,f⟩:=h;refine ⟨l,λn a=>?_,λj x e A=>?_,λx G e=>?_,λn a J=>?_⟩
 ·rcases R _ a with z | ⟨j,A,e⟩
  ·exact absurd rfl z
  ·exact S.cel j n e (by simpa using A)
 ·rw [S.hN] at e
  rcases C j (Nq e).1 with z | z
  ·rw [z];exact List.mem_singleton.mpr rfl
  ·exfalso
   rcases A with y | y
   ·rcases z _ y with w | w
    ·exact w e.symm
    ·exact w.1 rfl
   ·rcases z _ y with w | w
    ·exact w e.symm
    ·exact w.2 rfl
 ·rcases b x G with z | z
  ·exact absurd e z
  ·exact z
 ·rcases f _ a with z | z
  ·exact z rfl
  ·rcases z _ J with w | w
   ·exact w rfl
   ·exact w rfl
structure Fx (X Y:Cx):Prop where
 prog:Y.prog=X.prog
 w:Y.w=X.w
 K:Y.K=X.K
 mg:Y.mg=X.mg
 base:Y.base=X.base
 A:Y.A=X.A
noncomputable def Rm (X:Cx):Prop:=X.A.units+64<cLine
noncomputable def oE (X:Cx) (x:Str) (n:Nat) (u:List Nw->bA):Prop:=∃(k:Nat) (f:Addr) (fd:FuncData) (ps:List Str),cC X.prog X.w X.K X.mg X.base g5 k f fd ps (qu X.K n u)/\Room k X.A/\X.mg x=some (.ref f)/\PySem.W.keepIn X.K (.ref f)=true/\Binds X.K fd ps []
noncomputable def Con (X:Cx) (x:Str) (d:Nw):Prop:=∃u v,X.mg x=some u/\RelV v u/\∀H,Rep X.K H v d
section
variable {X Y:Cx} {x:Str} {m:Nat} {d:Nw}
theorem Fx.c {u:List Nw->bA} (F:Fx X Y) (h:oE X x m u):oE Y x m u:=by unfold oE;rw [F.prog,F.w,F.K,F.mg,F.base,F.A];exact h
end
section
variable {X:Cx} {N gl:List Str} {vs cs ls lo gs:List Nat} {W:XW} {a b c e:Expr} {es:List Expr} {pos p:Pos} {fa fb fc:F1} {fl:FL} {ga gb:FB} {g1 g2:FS}
theorem cm (S:Cp X N gl vs cs ls lo gs) (i:Nat) {x:Str} (O:N[i]?=some x) (P:vs.contains i=true):PE X (.Name x pos) (tE X.K W (bX i)):=by
 have m:=S.nm x (mem_of_getElem? O)
 exact zo (Ew (by rw [S.hN];exact O) (S.vis i x O P) m.1 m.2)
theorem Cp.g (S:Cp X N gl vs cs ls lo gs) {j:Nat} {x:Str} (A:gl[j]?=some x) (E:gs.contains j=true):Gl X x/\(x==("__debug__":Str))=false/\x ≠ "__name__":=
 ⟨S.glb j x A E,S.ng x (mem_of_getElem? A)⟩
noncomputable def Gf:R2:=λx y H Q=>qF (λi j=>.bl (decide (i<j))) x y H Q\/∃i j,x=.str i/\y=.str j/\Q (.bl (decide (i.cps.toList<j.cps.toList))) H
theorem Gx:OpR X (compareOp .Lt) Gf:=op_lt.or tj
noncomputable def C7:Nw->Nw->Option Nw
 | .str i,.str j=>some (.bool (!decide (i.cps.toList<j.cps.toList)))
 | _,_=>none
noncomputable abbrev pA:Nw->Nw->Option Nw:=λa b=>(MZ a b).or (C7 a b)
noncomputable def BY:R2:=λx y H Q=>qF (λi j=>.bl (decide (j<=i))) x y H Q\/∃i j,x=.str i/\y=.str j/\Q (.bl (!decide (i.cps.toList<j.cps.toList))) H
theorem tu:OpR X (compareOp .GtE) (λx y H Q=>∃i j,x=.str i/\y=.str j/\Q (.bl (!decide (i.cps.toList<j.cps.toList))) H):=by
 intro B s M H x y v u Q I P o h;obtain ⟨i,j,rfl,rfl,q⟩:=h;obtain ⟨t,rfl⟩:=P;obtain ⟨O,rfl⟩:=o;exact PySem.P.ge_str (HZ I q rfl)
theorem Gy:OpR X (compareOp .GtE) BY:=op_ge.or tu
theorem y3 {K:Fg}:GOp K (λx y H Q=>∃i j,x=.str i/\y=.str j/\Q (.bl (!decide (i.cps.toList<j.cps.toList))) H) C7:=by
 intro x y H Q a b d l m e k
 cases l<;>cases m<;>simp only [C7] at e<;>try cases e
 rename_i i j;exact ⟨i,j,rfl,rfl,k _ (.bl _)⟩
theorem CY {K:Fg}:GOp K BY pA:=(DU λ_ _=>.bl _).or y3
structure Ck (X:Cx) (op:CmpOp) (r:R2) (g:Nw->Nw->Option Nw):Prop where
 o:OpR X (compareOp op) r
 g:GOp X.K r g
theorem vk (R:Rm X):Ck X .Lt Gf me:=⟨Gx,CW⟩
theorem Gi (R:Rm X):Ck X .LtE (qF λi j=>.bl (decide (i<=j))) Ej:=⟨Gr,DU λ_ _=>.bl _⟩
theorem sU (R:Rm X):Ck X .Gt (qF λi j=>.bl (decide (j<i))) jf:=⟨Gu,DU λ_ _=>.bl _⟩
theorem Lk (R:Rm X):Ck X .GtE BY pA:=⟨Gy,CY⟩
theorem b9 (R:Rm X):Ck X .Eq (sS X.K false) bp:=⟨Cm R,CZ⟩
theorem oX (R:Rm X):Ck X .NotEq (sS X.K true) gy:=⟨Ce R,CV⟩
theorem fR (R:Rm X):Ck X .In (vh X.K false) (bx false):=⟨Cj R,wq⟩
theorem D8 (R:Rm X):Ck X .NotIn (vh X.K true) (bx true):=⟨tf R,wq⟩
theorem ct {f:CmpOp} {r:R2} {g:Nw->Nw->Option Nw} (k:Ck X f r g) (U:PE X a (tE X.K W fa)) (Z:PE X b (tE X.K W fb)) (G:behindInMarks f b=false):PT X (.Compare a [f] [b] pos) (tT X.K W (aM ai (ar g fa fb))):=Dk k.o k.g U Z G
noncomputable abbrev AN (X:Cx) (N gl:List Str) (L u Z r t:List Nat) (R:Cx->Prop):Prop:=∀Y:Cx,Cp Y N gl L u Z r t->Fx X Y->R Y
theorem co {d:Scope} {x:Str} {I:Pos} {z l:Expr} {u:List Expr} {A:FI} {v:F1} {E:FB} {k m g j:List Nat} (S:Cp X N gl vs cs ls lo gs) (s:Sh) (i:Nat) (G:N[i]?=some x) (R:kH N i cs d=true) (o:kF N gl k m [i] g j d=true)
  (q:PI X (.Name x I) z (tI X.K W A)) (J:AN X N gl k m [i] g j λY=>PF Y u (tT Y.K W0 E)) (h:AN X N gl k m [i] g j λY=>PE Y l (tE Y.K W0 v)) (n:∀x,foldedSetIterable z X.env x=pure x) :
  PE X (.ListComp l [⟨.Name x I,z,u,0⟩] d pos) (tE X.K W (aq s i A E v)):=by
 have B:=λf C t w P=>S.blk o f C t w P
 have L:=λf C t w P=>(B f C t w P).loc i x G (by simp)
 exact zq (X:=X) s i (oq S R) (by rw [S.hN];exact S.nd) q (λf C t w P=>J _ (B f C t w P) ⟨rfl,rfl,rfl,rfl,rfl,rfl⟩) (λf C t w P=>h _ (B f C t w P) ⟨rfl,rfl,rfl,rfl,rfl,rfl⟩)
  S.calm (by rw [S.hN];exact G) (λf C t w P=>(L f C t w P).1) (λf C t w P=>(L f C t w P).2) n
theorem iB {l:Expr} {f:List Comprehension} {d:Scope} {y:Str} {r:Pos} {g:Nat} (O:X.env.scope.kind=.function) (o:X.env.scope.names.lookup y=some .local) (i:(r.line==pos.line)=true)
  (h:(d.names.any λ(n,k)=>n==y&&(k==NameKind.local||k==NameKind.cell))=false):swapsWith (.ListComp l f d pos) (some (.Name y r)) g X.env=pure true:=by
 have B:(X.env.blockKind==ScopeKind.function)=true:=by unfold Env.blockKind;rw [O];rfl
 have m:(X.env.kindOf y==some NameKind.local)=true:=by unfold Env.kindOf;rw [o];rfl
 show (pure (X.env.blockKind==.function&&X.env.kindOf y==some .local&&r.line==pos.line&&!(d.names.any λ(n,k)=>n==y&&(k==NameKind.local||k==NameKind.cell))):Sem Bool)=pure true
 rw [B,m,i,h];rfl
theorem mB {l:Expr} {f:List Comprehension} {d:Scope} {y:Str} {r:Pos} {g:Nat} (o:X.env.scope.names.lookup y=some .cell\/X.env.scope.names.lookup y=some .free):swapsWith (.ListComp l f d pos) (some (.Name y r)) g X.env=pure false:=by
 have m:(X.env.kindOf y==some NameKind.local)=false:=by
  unfold Env.kindOf;rcases o with o | o<;>rw [o]<;>rfl
 show (pure (X.env.blockKind==.function&&X.env.kindOf y==some .local&&r.line==pos.line&&!(d.names.any λ(n,k)=>n==y&&(k==NameKind.local||k==NameKind.cell))):Sem Bool)=pure false
 rw [m,Bool.and_false,Bool.false_and,Bool.false_and]
theorem cs_append (S:Cp X N gl vs cs ls lo gs) (i:Nat) {x:Str} {h d:Pos} (l:N[i]?=some x) (P:vs.contains i=true) (U:PE X a (tE X.K W fa)) (Y:starEach [a] X.env=[(false,eval a X.env)])
  (m:attributeBase (.Name x p) "append" X.env (eval (.Name x p) X.env)=eval (.Name x p) X.env) (k:(h.endLine==d.line)=true)
  (f:((backTo d (starEach [a] X.env)).all (λx=>!x.1)&&(backToKw d (keywordEach [] X.env)).all (λx=>x.1.isSome)
   && decide ([a].length+([]:List Keyword).length+(if ([]:List Keyword).isEmpty then 0 else 1)<30))=true)
  (n:swapsWith (.Call (.Attribute (.Name x p) "append" h) [a] [] d) none pos.line X.env=pure false) :
  PS X (.Expr (.Call (.Attribute (.Name x p) "append" h) [a] [] d) pos) (tS X.K W (aF i fa)):=
 tW i U (by rw [S.hN];exact l) (S.vis i x l P) (S.nm x (mem_of_getElem? l)).1 (S.nm x (mem_of_getElem? l)).2 Y m k f n
end
noncomputable def eU (g:Nw->Option Nw) (z:F1):F1:=aY z λp B=>match g p.d with
 | some d=>.ok ⟨.leaf,d⟩ B
 | none=>.no
noncomputable def G6:Nw->Option Nw
 | .int i=>some (.int (-i))
 | _=>none
noncomputable def lF:Option (Option PV)->Bool
 | some (some ⟨.lst .leaf,.list _⟩)=>true
 | _=>false
noncomputable def KN (i:Nat) (p q:PV) (B:Ev):d9:=match B[i]? with
 | some (some ⟨.lst .leaf,.list ds⟩)=>(match q.d with
  | .int k=>(match fG ds.length k with
   | some j=>if T.coer .leaf p then .nx (B.set i (some ⟨.lst .leaf,.list (ds.set j p.d)⟩)) else .no
   | none=>.no)
  | _=>.no)
 | _=>.no
noncomputable def FK (i:Nat) (b a:F1):FS:=λB=>if lF B[i]? then jo b (λp=>jo a (KN i p)) B else .no
noncomputable def mP (i:Nat) (g:FS):FS:=λB=>match B[i]? with
 | some (some p)=>g (B.set i (Nx p.d))
 | _=>.no
section
variable {K:Fg} {W:XW} {σ:St} {H:Hp} {Q:VK} {D:dW} {fa fb:F1} {fl:FL}
theorem kA:∀{t:List (List Addr)},(∀F∈t,F=[])->t.flatten=[]
 | [],_=>rfl
 | F::r,h=>by rw [flatten_cons,h F mem_cons_self,kA λG f=>h G (Nn _ f)];rfl
theorem Own.mkLeaves {O:List Addr} {l:Addr} {L:List V} {N:List Nw} (g:H l=some (.lst L)) (a:L.length=N.length) (q:∀(j:Nat) u d,L[j]?=some u->N[j]?=some d->Rep K (aS H O) u d):Own K O H (.lst .leaf) [l] (.ref l) (.list N):=by
 have c:(List.replicate N.length ([]:List Addr)).flatten=[]:=kA λF c=>(List.mem_replicate.mp c).2
 have o:Own K O H (.lst .leaf) (l::(List.replicate N.length ([]:List Addr)).flatten) (.ref l) (.list N):=by
  refine .lst rfl g a (by simp) (by rw [c];simp) λj u d F R C n=>?_
  have:F=[]:=(List.mem_replicate.mp (mem_of_getElem? n)).2
  subst this;exact .leaf (q j u d R C)
 rw [c] at o;exact o
theorem BM {i:Nat} {g:FS} (h:tS K W (mP i g) D σ H):tS K W g D σ H:=by
 obtain ⟨f,O,t,B,E,h⟩:=h;unfold mP at h;split at h
 ·rename_i p X
  obtain ⟨P,v,F,R,e,b,C⟩:=E.move X;have l:i<B.length:=(Nq X).1
  have c:T.coer .leaf p=true:=by show (!p.s.isView||bD p.d)=true;rw [P];rfl
  have o:=b.coer (s:=.leaf) (O':=O++(t.set i []).flatten) c oQ λa U z=>by
   exfalso
   have J:=e.nd
   rw [append_assoc] at J;exact (Np J).2.2 a U a z rfl
  have I:EnvOk K f O ((t.set i []).set i []) H (σ.set i (some v)) ((B.set i none).set i (Nx p.d)):=
   EnvOk.put (G:=[]) (p:=⟨.leaf,p.d⟩) (v:=v) (by rw [nil_append];exact e.dropL) (by rw [nil_append];exact o) rfl (λa U=>by simp at U) (by rw [length_set];exact l)
  rw [set_set,set_set,IH R] at I;exact ⟨f,O,_,_,I,h⟩
 ·exact h.elim
end
noncomputable def eF:Expr->Bool
 | .Starred ..=>true
 | _=>false
theorem aZ {e:Expr} {j:List Expr} {p:Env} (h:eF e=false):starEach (e::j) p=(false,eval e p)::starEach j p:=by
 cases e<;>first | rfl | cases h
theorem fI {a:Expr} {p:Env} (h:eF a=false):starEach [a] p=[(false,eval a p)]:=aZ h
theorem uT {a b:Expr} {p:Env} (h:eF a=false) (C:eF b=false):starEach [a,b] p=[(false,eval a p),(false,eval b p)]:=by rw [aZ h,fI C]
noncomputable def DefOk (P:Program) (w:World) (K:Fg) (I:Str->Option Value) (m:Heap) (j:Nat) (x:Str) (n:Nat) (u:List Nw->bA):Prop:=
 ∃(f:Addr) (fd:FuncData) (ps:List Str),cC P w K I m g5 j f fd ps (qu K n u)/\I x=some (.ref f)/\PySem.W.keepIn K (.ref f)=true/\Binds K fd ps []
noncomputable def jT (K:Fg) (I:Str->Option Value) (x:Str) (d:Nw):Prop:=∃u v,I x=some u/\RelV v u/\∀H,Rep K H v d
theorem DefOk.cal {X:Cx} {j k n:Nat} {x:Str} {u:List Nw->bA} (h:DefOk X.prog X.w X.K X.mg X.base j x n u) (M:Room k X.A) (A:decide (j<=k)=true):oE X x n u:=by
 obtain ⟨f,o,J,F,a,b,c⟩:=h;exact ⟨j,f,o,J,F,M.mono (of_decide_eq_true A),a,b,c⟩
noncomputable def Kw:Nw->V
 | .none=>.non
 | .bool b=>.bl b
 | .int i=>.int i
 | .str x=>.str x
 | _=>.non
noncomputable def ue:List Value->List Nw->Bool
 | .int i _::r,.int j::ds=>decide (i=j)&&ue r ds
 | .str x _::r,.str y::ds=>decide (x=y)&&ue r ds
 | [],[]=>true
 | _,_=>false
theorem Jt:∀{c:List Value} {ds:List Nw},ue c ds=true->Vals (ds.map Kw) c/\∀d∈ds,Sc (Kw d) d
 | [],[],_=>⟨.nil,λd F=>(nomatch F)⟩
 | .int i t::r,.int j::ds,h=>by
  simp only [ue,Bool.and_eq_true,decide_eq_true_eq] at h
  obtain ⟨rfl,h⟩:=h;obtain ⟨a,b⟩:=Jt h;refine ⟨.cons ⟨t,rfl⟩ a,λd F=>?_⟩
  rcases Nk F with z | z
  ·rw [z];exact .int i
  ·exact b d z
 | .str i t::r,.str j::ds,h=>by
  simp only [ue,Bool.and_eq_true,decide_eq_true_eq] at h
  obtain ⟨rfl,h⟩:=h;obtain ⟨a,b⟩:=Jt h;refine ⟨.cons ⟨t,rfl⟩ a,λd F=>?_⟩
  rcases Nk F with z | z
  ·rw [z];exact .str i
  ·exact b d z
noncomputable def Dv (g:Array Value) (N:List Nw):Bool:=decide (g.size<=sizeLine)&&ue g.toList N
theorem zu {K:Fg} {I:Str->Option Value} {x:Str} {a:Addr} {E:Option Addr} {g:Array Value} {n:Nat} {b:Array (Option Value)} {N:List Nw} (G:I x=some (.ref a)) (l:K.lookup a=some ⟨.type "tuple",E,.seq g n,b⟩) (h:Dv g N=true):jT K I x (.tuple N):=by
 unfold Dv at h;simp only [Bool.and_eq_true,decide_eq_true_eq] at h
 obtain ⟨v,s⟩:=Jt h.2;refine ⟨.ref a,.ref a,G,rfl,λH=>.tup (vs:=N.map Kw) (.inr ⟨_,g,n,l,rfl,rfl,h.1,v⟩) (by simp) λi v d R C=>?_⟩
 rw [getElem?_map,C] at R
 cases R;exact (s d (mem_of_getElem? C)).rep
theorem zv {K:Fg} {I:Str->Option Value} {x:Str} {i:Int} {t:Tok} (G:I x=some (.int i t)):jT K I x (.int i):=⟨.int i t,.int i,G,⟨t,rfl⟩,λH=>.int i⟩
theorem CD {K:Fg} {m:List Nw->bA} {H:Hp} {a:Addr} {U:List Int} {E:XK} (h:m [.list (U.map .int)]=.ok ⟨.leaf,.bool true⟩) (y:SqL K H a (U.map V.int)):qu K 1 m [.ref a] H (λv _=>v=.bl true) E:=by
 refine ⟨rfl,[],[.list (U.map .int)],nodup_nil,(λ_ z=>nomatch z),⟨rfl,λi v d R C=>?_⟩,?_⟩
 ·rw [rA]
  match i,R,C with
  | 0,R,C=>
   cases R
   cases C;refine .lst y (by simp) λi v d R C=>?_
   rw [getElem?_map] at R C
   cases e:U[i]? with
   | none=>rw [e] at R;cases R
   | some z=>
    rw [e] at R C
    cases R
    cases C;exact .int z
  | i+1,R,C=>simp at R
 ·rw [h]
  intro v F G r
  have o:=r.own.rep
  cases o;rfl
end T
namespace TQ
open PySem PySem.Spec L2 T
open PyProof.Rows hiding St
structure Q (p:Prop):Prop where
 p:p
section
variable {X:Cx} {N gl:List Str} {vs cs ls lo gs:List Nat} {W:XW} {a b c e:Expr} {es:List Expr} {pos p:Pos} {fa fb fc:F1} {fl:FL} {ga gb:FB} {g1 g2 g:FS}
theorem w_cv (S:Cp X N gl vs cs ls lo gs) (i:Nat) {x:Str} (O:N[i]?=some x) (P:vs.contains i=true):Q (PE X (.Name x pos) (tE X.K W (ae i))):=⟨by
 have m:=S.nm x (mem_of_getElem? O)
 exact Dr (Ew (by rw [S.hN];exact O) (S.vis i x O P) m.1 m.2)⟩
theorem uG (S:Cp X N gl vs cs ls lo gs) (i:Nat) {x:Str} (O:N[i]?=some x) (P:vs.contains i=true):Q (PE X (.Name x pos) (tE X.K W (bX i))):=⟨T.cm S i O P⟩
theorem w_ck (S:Cp X N gl vs cs ls lo gs) (j:Nat) {x:Str} {d:Nw} (A:gl[j]?=some x) (E:gs.contains j=true) (h:Con X x d):Q (PE X (.Name x pos) (tE X.K W (eK d))):=⟨by
 obtain ⟨u,v,R,C,n⟩:=h;have q:=S.g A E
 exact zp q.1 R C n q.2.1⟩
theorem w_de_int {j:Int} {k pos}:Q (PE X (.Constant (.int j) k pos) (tE X.K W (eK (.int j)))):=⟨bh JK λ_ _ _=>ve λ_=>.int j⟩
theorem IG {j:Bool} {k pos}:Q (PE X (.Constant (.bool j) k pos) (tE X.K W (eK (.bool j)))):=⟨bh vC λ_ _ _=>ve λ_=>.bl j⟩
theorem w_de_none {k pos}:Q (PE X (.Constant .none k pos) (tE X.K W (eK .none))):=⟨bh DY λ_ _ _=>ve λ_=>.non⟩
theorem w_de_str {j:Str} {k pos}:Q (PE X (.Constant (.str j) k pos) (tE X.K W (eK (.str j)))):=⟨bh JL λ_ _ _=>ve λ_=>.str j⟩
theorem mf (U:Q (PE X a (tE X.K W fa))) (Z:Q (PE X b (tE X.K W fb))):Q (PE X (.BinOp a .Add b pos) (tE X.K W (ar aI fa fb))):=⟨have U:=U.p;have Z:=Z.p;bh (iJ Cn U Z) λ_ _ _=>gU (DU λ_ _=>.int _)⟩
theorem uD (U:Q (PE X a (tE X.K W fa))) (Z:Q (PE X b (tE X.K W fb))):Q (PE X (.BinOp a .Sub b pos) (tE X.K W (ar gSub fa fb))):=⟨have U:=U.p;have Z:=Z.p;bh (iJ Cc U Z) λ_ _ _=>gU (DU λ_ _=>.int _)⟩
theorem EO (U:Q (PE X a (tE X.K W fa))) (Z:Q (PE X b (tE X.K W fb))):Q (PE X (.BinOp a .Mult b pos) (tE X.K W (ar nP fa fb))):=⟨have U:=U.p;have Z:=Z.p;bh (iJ Cf U Z) λ_ _ _=>gU (rC (λi j h=>by
 simp only [uj,Bool.or_eq_true,Bool.and_eq_true,decide_eq_true_eq] at h
 exact h) λ_ _=>.int _)⟩
theorem EN (U:Q (PE X a (tE X.K W fa))) (Z:Q (PE X b (tE X.K W fb))):Q (PE X (.BinOp a .FloorDiv b pos) (tE X.K W (ar h9 fa fb))):=⟨have U:=U.p;have Z:=Z.p;bh (iJ yz U Z) λ_ _ _=>gU (rC (λi j h=>by
 simp only [zB,Bool.and_eq_true,decide_eq_true_eq] at h
 exact h) λ_ _=>.int _)⟩
theorem uB (U:Q (PE X a (tE X.K W fa))) (Z:Q (PE X b (tE X.K W fb))):Q (PE X (.BinOp a .Mod b pos) (tE X.K W (ar cG fa fb))):=⟨have U:=U.p;have Z:=Z.p;bh (iJ Cg U Z) λ_ _ _=>gU (rC (λi j h=>by
 simp only [zA,decide_eq_true_eq] at h
 exact h) λ_ _=>.int _)⟩
theorem uE (U:Q (PE X a (tE X.K W fa))) (Z:Q (PE X b (tE X.K W fb))):Q (PE X (.BinOp a .Pow b pos) (tE X.K W (ar zd fa fb))):=⟨have U:=U.p;have Z:=Z.p;bh (iJ Cd U Z) λ_ _ _=>gU (rC (λi j h=>by
 simp only [zy,Bool.and_eq_true,decide_eq_true_eq] at h
 exact ⟨h.1.1,h.1.2,h.2⟩) λ_ _=>.int _)⟩
theorem Kq {f:CmpOp} {r:R2} {g:Nw->Nw->Option Nw} (k:Ck X f r g) (U:Q (PE X a (tE X.K W fa))) (Z:Q (PE X b (tE X.K W fb))) (G:behindInMarks f b=false):Q (PE X (.Compare a [f] [b] pos) (tE X.K W (ar g fa fb))):=⟨have U:=U.p;have Z:=Z.p;Dt k.o k.g U Z G⟩
theorem E8 {f i:CmpOp} {r t:R2} {g m:Nw->Nw->Option Nw} (k:Ck X f r g) (j:Ck X i t m) (U:Q (PE X a (tE X.K W fa))) (Z:Q (PE X b (tE X.K W fb))) (J:Q (PE X c (tE X.K W fc))) (G:lastMarks [f,i] [b,c]=false):Q (PE X (.Compare a [f,i] [b,c] pos) (tE X.K W (dt g m fa fb fc))):=⟨have U:=U.p;have Z:=Z.p;have J:=J.p;wK k.o k.g j.o j.g U Z J G⟩
theorem zQ {op} (h:Q (PE X a (tE X.K W fa))):Q (PE X (.BoolOp op [a] pos) (tE X.K W fa)):=⟨L2.pe_one h.p⟩
theorem xB (U:Q (PE X a (tE X.K W fa))) (Z:Q (PE X (.BoolOp .And (b::es) pos) (tE X.K W fb))):Q (PE X (.BoolOp .And (a::b::es) pos) (tE X.K W (e7 fa fb))):=⟨have U:=U.p;have Z:=Z.p;bh (Ca U Z) λ_ _ _=>BQ⟩
theorem w_de_if (J:Q (PT X c (tT X.K W ga))) (U:Q (PE X a (tE X.K W fa))) (Z:Q (PE X b (tE X.K W fb))):Q (PE X (.IfExp c a b pos) (tE X.K W (oG ga fa fb))):=⟨have J:=J.p;have U:=U.p;have Z:=Z.p;bh (m6 J U Z) λ_ _ _=>FW⟩
theorem w_de_idx (U:Q (PE X a (tE X.K W fa))) (Z:Q (PE X b (tE X.K W fb))) (Y:md b):Q (PE X (.Subscript a b pos) (tE X.K W (ah fa fb))):=⟨have U:=U.p;have Z:=Z.p;bh (vA JG U Z Y) λ_ _ _=>BJ⟩
theorem p9 (s:Sh) (h:Q (PA X es (tA X.K W fl))):Q (PE X (.List es pos) (tE X.K W (aW s fl))):=⟨have h:=h.p;bh (Ic h) λ_ _ _=>yg⟩
theorem w_de_tup {x1} (h:Q (PA X es (tA X.K W fl))):Q (PE X (.Tuple es x1 pos) (tE X.K W (bz fl))):=⟨have h:=h.p;bh (xu h) λ_ _ _=>BA⟩
theorem w_da_nil :Q (PA X [] (tA X.K W af)):=⟨T.da_nil ⟩
theorem w_da_cons (U:Q (PE X e (tE X.K W fa))) (M:Q (PA X es (tA X.K W fl))) (Y:starEach (e::es) X.env=(false,eval e X.env)::starEach es X.env):Q (PA X (e::es) (tA X.K W (ab fa fl))):=⟨T.da_cons U.p M.p Y⟩
theorem w_co {d:Scope} {x:Str} {I:Pos} {z l:Expr} {u:List Expr} {A:FI} {v:F1} {E:FB} {vs' cs' lo' gs':List Nat} (S:Cp X N gl vs cs ls lo gs) (s:Sh) (i:Nat) (G:N[i]?=some x) (R:kH N i cs d=true) (C:kF N gl vs' cs' [i] lo' gs' d=true) (q:Q (PI X (.Name x I) z (tI X.K W A))) (J:AN X N gl vs' cs' [i] lo' gs' λY=>Q (PF Y u (tT Y.K W0 E))) (f:AN X N gl vs' cs' [i] lo' gs' λY=>Q (PE Y l (tE Y.K W0 v))) (h:∀x,foldedSetIterable z X.env x=pure x):Q (PE X (.ListComp l [⟨.Name x I,z,u,0⟩] d pos) (tE X.K W (aq s i A E v))):=⟨T.co S s i G R C q.p (λY S F=>(J Y S F).p) (λY S F=>(f Y S F).p) h⟩
theorem IL {d:Scope} {x y:Str} {I r K:Pos} {z l:Expr} {u:List Expr} {A:FI} {v:F1} {E:FB} {vs' cs' lo' gs':List Nat} (S:Cp X N gl vs cs ls lo gs) (own:Bool) (j:Nat) (s:Sh) (i:Nat) (o:N[j]?=some y) (h:lo.contains j=true) (G:N[i]?=some x) (m:(r.line==pos.line)=true) (H:(d.names.any λ(n,k)=>n==y&&(k==NameKind.local||k==NameKind.cell))=false) (R:kH N i cs d=true) (U:kF N gl vs' cs' [i] lo' gs' d=true) (q:Q (PI X (.Name x I) z (tI X.K W A))) (J:AN X N gl vs' cs' [i] lo' gs' λY=>Q (PF Y u (tT Y.K W0 E))) (M:AN X N gl vs' cs' [i] lo' gs' λY=>Q (PE Y l (tE Y.K W0 v))) (O:∀x,foldedSetIterable z X.env x=pure x):Q (PS X (.Assign [.Name y r] (.ListComp l [⟨.Name x I,z,u,0⟩] d pos) K) (tS X.K W (ax own j (aq s i A E v)))):=⟨by
 have q:=q.p
 have J:=λY S F=>(J Y S F).p
 have M:=λY S F=>(M Y S F).p
 have B:=λf C t w P=>S.blk U f C t w P
 have L:=λf C t w P=>(B f C t w P).loc i x G (by simp)
 exact pG (X:=X) own j s i (oq S R) (by rw [S.hN];exact S.nd) q (λf C t w P=>J _ (B f C t w P) ⟨rfl,rfl,rfl,rfl,rfl,rfl⟩) (λf C t w P=>M _ (B f C t w P) ⟨rfl,rfl,rfl,rfl,rfl,rfl⟩)
  (iB S.kind (S.loo j y o h) m H) (by rw [S.hN];exact o) (S.loo j y o h) S.calm (by rw [S.hN];exact G) (λf C t w P=>(L f C t w P).1) (λf C t w P=>(L f C t w P).2) O⟩
theorem w_cb_len (S:Cp X N gl vs cs ls lo gs) (j:Nat) (A:gl[j]?=some ("len":Str)) (E:gs.contains j=true) (G:X.mg "len"=none) (U:Q (PA X (e::es) (tA X.K W fl))) (R:starEach (e::es) X.env=(false,eval e X.env)::starEach es X.env) (Y:(backTo pos (starEach es X.env)).any (·.1)=false):Q (PE X (.Call (.Name "len" p) (e::es) [] pos) (tE X.K W (bb aQ fl))):=⟨have U:=U.p;wL (call_len_seq.or lY) C2 AG G U (S.g A E).1 (S.g A E).2.2 (S.g A E).2.1 R Y⟩
theorem AY (S:Cp X N gl vs cs ls lo gs) (j:Nat) (A:gl[j]?=some ("all":Str)) (E:gs.contains j=true) (G:X.mg "all"=none) (U:Q (PA X (e::es) (tA X.K W fl))) (R:starEach (e::es) X.env=(false,eval e X.env)::starEach es X.env) (Y:(backTo pos (starEach es X.env)).any (·.1)=false):Q (PE X (.Call (.Name "all" p) (e::es) [] pos) (tE X.K W (bb (eG false) fl))):=⟨have U:=U.p;wL (kI S.calm) C4 AI G U (S.g A E).1 (S.g A E).2.2 (S.g A E).2.1 R Y⟩
theorem Ki (S:Cp X N gl vs cs ls lo gs) (j:Nat) (A:gl[j]?=some ("int":Str)) (E:gs.contains j=true) (G:X.mg "int"=none) (U:Q (PA X (e::es) (tA X.K W fl))) (R:starEach (e::es) X.env=(false,eval e X.env)::starEach es X.env) (Y:(backTo pos (starEach es X.env)).any (·.1)=false):Q (PE X (.Call (.Name "int" p) (e::es) [] pos) (tE X.K W (bb gF fl))):=⟨have U:=U.p;AC ui C3 HI G U (S.g A E).1 (S.g A E).2.2 (S.g A E).2.1 R Y⟩
theorem IF (S:Cp X N gl vs cs ls lo gs) (j:Nat) (A:gl[j]?=some ("list":Str)) (E:gs.contains j=true) (G:X.mg "list"=none) (U:Q (PE X e (tE X.K W fa))) (Y:starEach [e] X.env=[(false,eval e X.env)]):Q (PE X (.Call (.Name "list" p) [e] [] pos) (tE X.K W (bO fa))):=⟨have U:=U.p;t9 G U (S.g A E).1 Y⟩
theorem w_cc {x:Str} {n:Nat} {u:List Nw->bA} (S:Cp X N gl vs cs ls lo gs) (j:Nat) (A:gl[j]?=some x) (E:gs.contains j=true) (C:oE X x n u) (U:Q (PA X (e::es) (tA X.K W fl))) (R:starEach (e::es) X.env=(false,eval e X.env)::starEach es X.env) (Y:(backTo pos (starEach es X.env)).any (·.1)=false):Q (PE X (.Call (.Name x p) (e::es) [] pos) (tE X.K W (ag n u fl))):=⟨by
 have U:=U.p
 obtain ⟨k,f,o,J,F,M,G,O,Z⟩:=C;exact zr F M G O Z U (S.g A E).1 (S.g A E).2.1 R Y⟩
theorem e8 {l:Expr} (S:Cp X N gl vs cs ls lo gs) (j:Nat) (A:gl[j]?=some ("range":Str)) (E:gs.contains j=true) (G:X.mg "range"=none) (U:Q (PA X [a] (tA X.K W fl))) (Y:starEach [a] X.env=[(false,eval a X.env)]):Q (PI X l (.Call (.Name "range" p) [a] [] pos) (tI X.K W (d6 fl))):=⟨have U:=U.p;Hk G U (S.g A E).1 Y⟩
theorem EZ {l:Expr} (S:Cp X N gl vs cs ls lo gs) (j:Nat) (A:gl[j]?=some ("range":Str)) (E:gs.contains j=true) (G:X.mg "range"=none) (U:Q (PA X [a,b] (tA X.K W fl))) (Y:starEach [a,b] X.env=[(false,eval a X.env),(false,eval b X.env)]) (m:starEach [b] X.env=[(false,eval b X.env)]):Q (PI X l (.Call (.Name "range" p) [a,b] [] pos) (tI X.K W (y0 fl))):=⟨have U:=U.p;Hj G U (S.g A E).1 Y m⟩
theorem w_di_seq {l:Expr} (U:Q (PE X a (tE X.K W fa))):Q (PI X l a (tI X.K W (aU fa))):=⟨have U:=U.p;rY (AW U) λ_ _ _=>yi⟩
theorem w_ct {f:CmpOp} {r:R2} {g:Nw->Nw->Option Nw} (k:Ck X f r g) (U:Q (PE X a (tE X.K W fa))) (Z:Q (PE X b (tE X.K W fb))) (G:behindInMarks f b=false):Q (PT X (.Compare a [f] [b] pos) (tT X.K W (aM ai (ar g fa fb)))):=⟨T.ct k U.p Z.p G⟩
theorem EY {f i:CmpOp} {r t:R2} {g m:Nw->Nw->Option Nw} (k:Ck X f r g) (j:Ck X i t m) (U:Q (PE X a (tE X.K W fa))) (Z:Q (PE X b (tE X.K W fb))) (J:Q (PE X c (tE X.K W fc))) (G:lastMarks [f,i] [b,c]=false):Q (PT X (.Compare a [f,i] [b,c] pos) (tT X.K W (aM ai (dt g m fa fb fc)))):=⟨have U:=U.p;have Z:=Z.p;have J:=J.p;wI k.o k.g j.o j.g U Z J G⟩
theorem Ed (U:Q (PT X a (tT X.K W ga))):Q (PT X (.UnaryOp .Not a pos) (tT X.K W (eO ga))):=⟨have U:=U.p;rX (B5 U) λ_ _ _=>yn⟩
theorem jV (U:Q (PT X a (tT X.K W ga))):Q (PW X (.BoolOp .And [a] pos) (tT X.K W ga)):=⟨have U:=U.p;yq U⟩
theorem zP (U:Q (PT X a (tT X.K W ga))):Q (PW X (.BoolOp .Or [a] pos) (tT X.K W ga)):=⟨have U:=U.p;B1 U⟩
theorem mh (U:Q (PT X a (tT X.K W ga))) (Z:Q (PW X (.BoolOp .And (b::es) pos) (tT X.K W gb))):Q (PW X (.BoolOp .And (a::b::es) pos) (tT X.K W (gq ga gb))):=⟨have U:=U.p;have Z:=Z.p;AL (B2 U Z) λ_ _ _=>yo⟩
theorem uq (U:Q (PT X a (tT X.K W ga))) (Z:Q (PW X (.BoolOp .Or (b::es) pos) (tT X.K W gb))):Q (PW X (.BoolOp .Or (a::b::es) pos) (tT X.K W (gp ga gb))):=⟨have U:=U.p;have Z:=Z.p;AL (Gk U Z) λ_ _ _=>BP⟩
theorem xi (h:Q (PW X a (tT X.K W ga))):Q (PT X a (tT X.K W ga)):=⟨L2.PW.pt h.p⟩
theorem w_dt_tru (U:Q (PE X a (tE X.K W fa))) (R:∀f,isTrue a X.env f=(do let v <-f;standAt a.pos;holding [v] (truthy v))):Q (PT X a (tT X.K W (aM cF fa))):=⟨have U:=U.p;rX (JV U R) λ_ _ _=>BB⟩
theorem gM :Q (PSs X [] (tS X.K W aJ)):=⟨Jn xh λ_ _ _=>ye⟩
theorem w_ds_one {st:Stmt} (R:Q (PS X st (tS X.K W g1))):Q (PSs X [st] (tS X.K W g1)):=⟨have R:=R.p;gK R⟩
theorem bP {st:Stmt} {rest:List Stmt} (R:Q (PS X st (tS X.K W g1))) (C:Q (PSs X rest (tS X.K W g2))):Q (PSs X (st::rest) (tS X.K W (ak g1 g2))):=⟨have R:=R.p;have C:=C.p;Jn (fH R C) λ_ _ _=>BD⟩
theorem uF (i:Nat) {sts:List Stmt} (h:Q (PSs X sts (tS X.K W g))):Q (PSs X sts (tS X.K W (mP i g))):=⟨have h:=h.p;Jn h λ_ _ _=>BM⟩
theorem uC (U:Q (PE X a (tE X.K W fa))):Q (PS X (.Return (some a) pos) (tS X.K W (aE fa))):=⟨have U:=U.p;je (pX U) λ_ _ _=>BE⟩
theorem gL {A B:List Stmt} (J:Q (PT X c (tT X.K W ga))) (U:Q (PSs X A (tS X.K W g1))) (Z:Q (PSs X B (tS X.K W g2))):Q (PS X (.If c A B pos) (tS X.K W (b8 ga g1 g2))):=⟨have J:=J.p;have U:=U.p;have Z:=Z.p;je (fj J U Z) λ_ _ _=>BI⟩
theorem AZ (S:Cp X N gl vs cs ls lo gs) (i:Nat) {x:Str} {I:Pos} {z:Expr} {C:List Stmt} {A:FI} {g:FS} (G:N[i]?=some x) (d:ls.contains i=true) (f:PassesOwn (model X.prog X.w) X.A X.env X.xe) (q:Q (PI X (.Name x I) z (tI X.K W A))) (Z:Q (PSs X C (tS X.K W g))) (Y:∀x,foldedSetIterable z X.env x=pure x):Q (PS X (.For (.Name x I) z C [] pos) (tS X.K W (dn i A g))):=⟨have q:=q.p;have Z:=Z.p;Dm i f (by rw [S.hN];exact S.nd) q Z S.calm (by rw [S.hN];exact G) (S.loc i x G d).1 (S.loc i x G d).2 Y⟩
theorem mj (S:Cp X N gl vs cs ls lo gs) (own:Bool) (i:Nat) {x:Str} {r:Pos} (l:N[i]?=some x) (d:ls.contains i=true) (Y:swapsWith a (some (.Name x r)) pos.line X.env=pure false) (U:Q (PE X a (tE X.K W fa))):Q (PS X (.Assign [.Name x r] a pos) (tS X.K W (ax own i fa))):=⟨have U:=U.p;Dl own i (by rw [S.hN];exact S.nd) U (by rw [S.hN];exact l) (S.loc i x l d).1 Y (S.loc i x l d).2⟩
theorem Ef (S:Cp X N gl vs cs ls lo gs) (i:Nat) {x:Str} {h d:Pos} (l:N[i]?=some x) (P:vs.contains i=true) (U:Q (PE X a (tE X.K W fa))) (Y:starEach [a] X.env=[(false,eval a X.env)]) (m:attributeBase (.Name x p) "append" X.env (eval (.Name x p) X.env)=eval (.Name x p) X.env) (k:(h.endLine==d.line)=true) (f:((backTo d (starEach [a] X.env)).all (λx=>!x.1)&&(backToKw d (keywordEach [] X.env)).all (λx=>x.1.isSome)
   && decide ([a].length+([]:List Keyword).length+(if ([]:List Keyword).isEmpty then 0 else 1)<30))=true) (n:swapsWith (.Call (.Attribute (.Name x p) "append" h) [a] [] d) none pos.line X.env=pure false):Q (PS X (.Expr (.Call (.Attribute (.Name x p) "append" h) [a] [] d) pos) (tS X.K W (aF i fa))):=⟨T.cs_append S i l P U.p Y m k f n⟩
theorem w_df_nil :Q (PF X [] (tT X.K W0 aK)):=⟨HM JM λM H Q h=>by
 obtain ⟨f,O,t,B,E,h⟩:=h;exact h H t (Same.refl _) E λ_ z=>.inl z⟩
theorem xC (h:Q (PT X c (tT X.K W0 ga))):Q (PF X [c] (tT X.K W0 ga)):=⟨have h:=h.p;vy h⟩
end
end TQ
namespace T
open PySem PySem.Spec L2
open PyProof.Rows hiding St
noncomputable def FM:FS:=λ_=>.no
noncomputable def A8:Nw->String
 | .none => "NoneType"
 | .bool _ => "bool"
 | .int _ => "int"
 | .str _ => "str"
 | .list _ => "list"
 | .tuple _ => "tuple"
 | .dict _ => "dict"
noncomputable def we (t c:String):Bool:=t==c||(t == "bool"&&c == "int")
noncomputable def kinds:List String:=["bool", "int", "str", "list", "tuple"]
theorem yR {K:Fg} {c:String} (J:c∈kinds):∀t∈["NoneType", "bool", "int", "str", "list", "tuple"],PySem.W.kitOne K (.type t) (.type c)=some (we t c):=by
 intro t L;unfold kinds at J;simp only [mem_cons,not_mem_nil,or_false] at J L
 rcases J with rfl | rfl | rfl | rfl | rfl<;>rcases L with rfl | rfl | rfl | rfl | rfl | rfl<;>kernel_rfl
section
variable {X:Cx} {pins:List (Addr×Obj)} {σ:St} {H:Hp} {s:Shared} {A:Around} {E:Value->Shared->Prop} {Q:Value->Shared->Prop} {c:Value} {b:Bool}
theorem pj {x:V} {u:Value} {d:Nw} (I:Inv X pins σ H s) (P:RelV x u) (r:Rep X.K H x d) (e:PySem.W.kitOne X.K (.type (A8 d)) c=some b) (h:∀G,Q (.bool b) { s with toks:=G }) :
  wpAny (model X.prog X.w) A (call (.builtin "isinstance") [u,c]) Q E s:=by
 cases r with
 | non=>exact A5 I P .non e h
 | bl y=>exact A5 I P (.bl y) e h
 | int i=>exact A5 I P (.int i) e h
 | str y=>exact A5 I P (.str y) e h
 | @lst p vs ds hs hl q=>
  rcases hs with (z | ⟨o,z⟩) | ⟨o,its,n,hk,hc,hd,hz,_⟩
  ·exact A5 I P (.lst z) e h
  ·exact A5 I P (.frz z) e h
  ·cases (show u=Value.ref p from P)
   exact PySem.W.kia_one PySem.W.kitx_list I.kIn ⟨o,I.kIn _ o hk,hc⟩ e nofun h
 | @tup p vs ds hs hl q=>
  rcases hs with (z | ⟨o,z⟩) | ⟨o,its,n,hk,hc,hd,hz,_⟩
  ·exact A5 I P (.tup z) e h
  ·cases (show u=Value.ref p from P)
   obtain ⟨_,_,_,n,g,R,C,_⟩:=(show ObjOk X.prog X.w H s.heap p (.frz o (.tup vs)) from I.hok p _ z);exact PySem.W.kia_one PySem.W.kitx_tuple I.kIn ⟨g,R,C⟩ e nofun h
  ·cases (show u=Value.ref p from P)
   exact PySem.W.kia_one PySem.W.kitx_tuple I.kIn ⟨o,I.kIn _ o hk,hc⟩ e nofun h
end
noncomputable def BX (K:Fg) (c:String):List V->Hp->VK->Prop:=λY H Q=>∃x d,Y=[x,.ty c]/\Rep K H x d/\Q (.bl (we (A8 d) c)) H
theorem wU {X:Cx} {c:String} (J:c∈kinds):CallR X (.builtin "isinstance") (BX X.K c):=by
 intro B s M H Y z Q I f h;obtain ⟨x,d,rfl,r,q⟩:=h;match z,f with
 | [u,t],.cons r1 (.cons r2 .nil)=>
  cases (show t=Value.type c from r2)
  have L:A8 d∈["NoneType", "bool", "int", "str", "list", "tuple"]:=by cases r<;>simp [A8]
  exact pj I r1 r (yR J _ L) λG=>⟨.bl _,H,I.tok G,rfl,q⟩
noncomputable def i5 (c:String) (z:F1):F1:=aY z λp B=>.ok ⟨.leaf,.bool (we (A8 p.d) c)⟩ B
theorem BH {K:Fg} {W:XW} {M:St} {H:Hp} {Q:VK} {z:F1} {c:String} (h:tE K W (i5 c z) M H Q):xM (BX K c) (aL (tE K W z) (aL (tC (.ty c)) b5)) M H Q:=by
 show tE K W z M H λx Z=>BX K c [x,.ty c] Z Q
 refine Ih h λf O t X p v Z G Y J A w=>?_
 exact ⟨v,p.d,rfl,A.own.rep,Wants.scal w (.bl _) A.same A.env.dropL (λa U=>U) J λa U=>A.new a (Nh _ U)⟩
noncomputable def kP (c:FB) (g:FS):Nat->Ev->d9
 | 0,_=>.no
 | n+1,Γ=>match c Γ with
  | .ok true X=>(match g X with
   | .nx o=>kP c g n o
   | .ct o=>kP c g n o
   | .bk o=>.nx o
   | .rt p=>.rt p
   | .er e o=>.er e o
   | .no=>.no)
  | .ok false X=>.nx X
  | .er e X=>.er e X
  | .no=>.no
noncomputable def oU (n:Nat) (c:FB) (g:FS):FS:=kP c g n
section
variable {K:Fg} {W:XW} {σ:St} {H:Hp} {Q:VK} {D:dW} {fa fb:F1} {fl:FL}
noncomputable def yV:Option (Option PV)->Bool
 | some (some ⟨.lst (.lst .leaf),.list _⟩)=>true
 | _=>false
noncomputable def DA (i:Nat) (q p:PV) (B:Ev):d9:=match B[i]? with
 | some (some ⟨.lst (.lst .leaf),.list ds⟩)=>(match q.d with
  | .int k=>(match fG ds.length k with
   | some j=>(match ds[j]? with
    | some (.list es)=>if T.coer .leaf p&&decide (es.length<sizeLine) then .nx (B.set i (some ⟨.lst (.lst .leaf),.list (ds.set j (.list (es++[p.d])))⟩)) else .no
    | _=>.no)
   | none=>.no)
  | _=>.no)
 | _=>.no
noncomputable def Lm (i:Nat) (q:PV) (B:Ev):Bool:=match B[i]? with
 | some (some ⟨.lst (.lst .leaf),.list ds⟩)=>(match q.d with
  | .int k=>(match fG ds.length k with
   | some j=>(match ds[j]? with
    | some (.list _)=>true
    | _=>false)
   | none=>false)
  | _=>false)
 | _=>false
noncomputable def Bu (i:Nat) (a z:F1):FS:=λB=>if yV B[i]? then jo a (λq X=>if Lm i q X then jo z (DA i q) X else .no) B else .no
end
noncomputable def vg (K:Fg):List V->Hp->VK->Prop:=λY H Q=>∃(p:Addr) (ns:List Int),Y=[.ref p]/\SqL K H p (ns.map V.int)/\ns.length<64/\∀l,H l=none->Q (.ref l) (aR H l (.lst ((PySem.W.sortI ns).map V.int)))
theorem JA:∀{U:List Int} {us:List Value},Vals (U.map V.int) us->IntsAre us U
 | [],_,.nil=>.nil
 | n::U,_,.cons r t=>by
  obtain ⟨G,rfl⟩:=(show ∃t,_=Value.int n t from r)
  exact .cons _ _ (JA t)
theorem qe:∀{U:List Int} {us:List Value},IntsAre us U->Vals (U.map V.int) us
 | _,_,.nil=>.nil
 | _,_,.cons _ _ t=>.cons ⟨_,rfl⟩ (qe t)
theorem pN {X:Cx}:CallR X (.builtin "sorted") (vg X.K):=by
 intro B s M H Y z Q I f h;obtain ⟨p,U,rfl,y,i,q⟩:=h;obtain ⟨u,rfl,C⟩:=f.one
 cases C;obtain ⟨g,r,k,w⟩:=I.list y;have hI:=JA r
 have N:g.length=U.length:=by rw [<-r.length,length_map]
 refine sorted_ints k.isList hI (by omega) λc d F j a=>?_
 have e:=PySem.W.eq_sortI j a
 subst e;obtain ⟨n,K⟩:=sortedAll_at s.heap g c;have A:(PySem.W.sortI U).length=U.length:=(PySem.W.sortI_perm U).length_eq
 have Z:=sD (n:=U.length) (by omega)
 refine ⟨.ref (s.heap.objs.size+1),aR H (s.heap.objs.size+1) (.lst ((PySem.W.sortI U).map V.int)),I.laid (t':=s.toks) (λb o e=>sortedAll_old e) (Nat.le_succ _) ⟨by rw [length_map,A];omega,c.toList,n,qe F,by simpa [seqObj] using K⟩,rfl,q _ (I.hok.fresh (Nat.le_succ _))⟩
theorem qc:∀{Y:List V} {us:List Value},Y.length=us.length->(∀(i:Nat) x u,Y[i]?=some x->us[i]?=some u->RelV x u)->Vals Y us
 | [],[],_,_=>.nil
 | x::Y,u::us,hl,h=>.cons (h 0 x u rfl rfl) (qc (by simpa using hl) λi x u a b=>h (i+1) x u (by simpa using a) (by simpa using b))
 | [],_::_,hl,_=>by simp at hl
 | _::_,[],hl,_=>by simp at hl
noncomputable def Mg (d:TA):TE:=λM H Q=>d M H λL Z=>∃j:Int,L=[.int j]/\-(2 ^ 62)<=j/\j<=sizeLine/\∀l,Z l=none->Q (.ref l) (aR Z l (.lst (eZ 0 j.toNat)))
theorem lb {X:Cx} {a:Expr} {d:TA} {p f pos l:Pos} (E:Gl X "list") (G:X.mg "list"=none) (y:Gl X "range") (R:X.mg "range"=none) (J:X.calm=true) (U:PA X [a] d) (Y:starEach [a] X.env=[(false,eval a X.env)])
  (r:starEach [.Call (.Name "range" f) [a] [] l] X.env=[(false,eval (.Call (.Name "range" f) [a] [] l) X.env)]):PE X (.Call (.Name "list" p) [.Call (.Name "range" f) [a] [] l] [] pos) (Mg d):=by
 intro B s M H Q I h;refine Call_ (xj I E G wY (PyProof.Rows.callWith_type1 ?_ r rfl))
 rw [r];show wpAny _ _ (spliced ((false,eval (.Call (.Name "range" f) [a] [] l) X.env)::[])) _ _ s
 refine Calls.spliced_cons (Call_ (xj I y R boot_range (PyProof.Rows.callWith_type1 (bt (U l B s M H _ I h) λz A ⟨vs,H1,I1,r1,F⟩=>?_) Y rfl)))
 obtain ⟨j,e,F,q2,q⟩:=F;subst e;obtain ⟨u,rfl,C⟩:=r1.one;obtain ⟨t,rfl⟩:=(show ∃t,u=Value.int j t from C)
 refine call_range_1 (Calls.spliced_nil ?_)
 have w:(sizeLine:Int)<2 ^ 62:=by decide
 refine call_list_range (n:=j.toNat) (I.ok.hd J) (IsRange.new ..) (small_one (by omega) (by omega) F (by omega)) (by rw [rangeSize_one];split<;>omega) (by have:(sizeLine:Nat)=2 ^ 24:=rfl;omega) λh' tk g v O K c=>?_
 have I2:Inv X B M H1 { A with heap:=A.heap.push { cls:=.type "range",data:=.fields #[.int 0 A.toks,.int j t,.int 1 (A.toks+1)] },toks:=A.toks+1+1 }:=I1.kept λb o e=>Nu _ e
 have P:Vals (eZ 0 j.toNat) g.toList:=by
  refine qc (by have:=c.1;simp only [Array.length_toList,eZ,length_map,length_range];omega) λi x u N m=>?_
  obtain ⟨t2,rfl⟩:=c.2 i u (by rw [<-Array.getElem?_toList];exact m)
  unfold eZ at N;rw [getElem?_map] at N
  cases e3:(List.range j.toNat)[i]? with
  | none=>rw [e3] at N;cases N
  | some k=>
   rw [e3] at N;obtain ⟨Z,L⟩:=Nq e3
   simp at L
   subst L
   cases N;exact ⟨t2,by simp⟩
 refine ⟨.ref _,aR H1 _ (.lst (eZ 0 j.toNat)),I2.laid (t':=tk) (λb o e=>O b o e) (Nv _) ⟨?_,g.toList,v,P,by simpa using K⟩,rfl,q _ (I2.hok.fresh (Nv _))⟩
 simp only [eZ,length_map,length_range]
 omega
section
variable {K:Fg} {W:XW} {σ:St} {H:Hp} {Q:VK} {fa:F1} {fl:FL}
theorem AftL.newSc {f:Hp} {O:List Addr} {t b c:List (List Addr)} {X:Ev} {J:List PV} {g:List V} {Z:Hp} {l:Addr} {L:List V} {N:List Nw} (A:AftL K f O t H σ X J g Z b c) (h:O.Nodup) (e:Z l=none) (P:L.length=N.length) (Y:∀(i:Nat) v d,L[i]?=some v->N[i]?=some d->Sc v d) :
  Aft K f O t H σ X ⟨.lst .leaf,.list N⟩ (.ref l) (aR Z l (.lst L)) [l] c:=by
 refine ⟨A.same.trans (dH e),A.env.dropL.hide (dH e) (by simp) (by simpa using e) (λa U=>by rw [List.mem_singleton.mp U,cL];exact Option.some_ne_none _),λa U=>?_,?_⟩
 ·rcases Nj U with z | z
  ·rw [List.mem_singleton.mp z];exact .inr (A.same.free e)
  ·exact A.new a (Nh _ z)
 ·exact Own.mkLeaves cL P λj u d B m=>(Y j u d B m).rep
noncomputable def zl (q:FL):F1:=λB=>(q B).bind λJ I=>match jq (J.map (·.d)) with
 | some j=>if j<=sizeLine then .ok ⟨.lst .leaf,.list (bS 0 j.toNat)⟩ I else .no
 | none=>.no
theorem F6 (h:tE K W (zl fl) σ H Q):Mg (tA K W fl) σ H Q:=by
 obtain ⟨f,O,t,B,E,h⟩:=h;refine ⟨f,O,t,B,E,?_⟩
 unfold zl at h
 cases e:fl B with
 | er c I=>rw [e] at h;exact h
 | no=>rw [e] at h;exact h
 | ok J X=>
  rw [e] at h;intro L Z b Y A;have h:Wants K W f O t H σ Q (match jq (J.map (·.d)) with | some j=>if j<=sizeLine then .ok ⟨.lst .leaf,.list (bS 0 j.toNat)⟩ X else .no | none=>.no):=h
  cases er:jq (J.map (·.d)) with
  | none=>rw [er] at h;exact h.elim
  | some j=>
   rw [er] at h;obtain ⟨o,m,M⟩:=qB er;have r:=A.reps
   rw [o] at r;have h:Wants K W f O t H σ Q (if j<=sizeLine then .ok ⟨.lst .leaf,.list (bS 0 j.toNat)⟩ X else .no):=h
   by_cases a:j<=sizeLine
   ·rw [if_pos a] at h
    have P:L=[.int j]:=by
     have N:=r.1
     match L,N with
     | [v],_=>
      have q:=r.2 0 v (.int j) rfl rfl
      cases q;rfl
    refine ⟨j,P,m,a,λl N=>h _ _ _ _ (A.newSc E.ndO N (by simp [eZ,bS]) λi v d F g=>?_)⟩
    have q:=JX (K:=K) (H:=Z) (lo:=0) (n:=j.toNat)
    refine (q.2 i v d F g).sc ?_
    unfold bS at g;rw [getElem?_map] at g
    cases M:(List.range j.toNat)[i]? with
    | none=>rw [M] at g;cases g
    | some k=>rw [M] at g;cases g;rfl
   ·rw [if_neg a] at h;exact h.elim
noncomputable def dR:List Nw->Option (List Int)
 | []=>some []
 | .int i::r=>(dR r).map (i :: ·)
 | _=>none
theorem Kd:∀{N:List Nw} {ns:List Int},dR N=some ns->N=ns.map .int
 | [],ns,h=>by cases h;rfl
 | .int i::r,ns,h=>by
  unfold dR at h
  cases e:dR r with
  | none=>rw [e] at h;cases h
  | some o=>rw [e] at h;cases h;rw [Kd e];rfl
 | .none::_,_,h=>by cases h
 | .bool _::_,_,h=>by cases h
 | .str _::_,_,h=>by cases h
 | .list _::_,_,h=>by cases h
 | .tuple _::_,_,h=>by cases h
 | .dict _::_,_,h=>by cases h
noncomputable def dN:List Nw->Option (List Int)
 | [.list ds]=>dR ds
 | _=>none
theorem oR {N:List Nw} {U:List Int} (h:dN N=some U):N=[.list (U.map .int)]:=by
 unfold dN at h;split at h
 ·rw [Kd h]
 ·cases h
noncomputable def fC (q:FL):F1:=λB=>(q B).bind λJ I=>match dN (J.map (·.d)) with
 | some U=>if U.length<64 then .ok ⟨.lst .leaf,.list ((PySem.W.sortI U).map .int)⟩ I else .no
 | none=>.no
theorem vb (h:tE K W (fC fl) σ H Q):xM (vg K) (tA K W fl) σ H Q:=by
 obtain ⟨f,O,t,B,E,h⟩:=h;refine ⟨f,O,t,B,E,?_⟩
 unfold fC at h
 cases e:fl B with
 | er c I=>rw [e] at h;exact h
 | no=>rw [e] at h;exact h
 | ok J X=>
  rw [e] at h;intro L Z b Y A;have r:=A.reps
  have h:Wants K W f O t H σ Q (match dN (J.map (·.d)) with | some U=>if U.length<64 then .ok ⟨.lst .leaf,.list ((PySem.W.sortI U).map .int)⟩ X else .no | none=>.no):=h
  cases m:dN (J.map (·.d)) with
   | none=>rw [m] at h;exact h.elim
   | some U=>
    rw [m] at h;rw [oR m] at r;have h:Wants K W f O t H σ Q (if U.length<64 then .ok ⟨.lst .leaf,.list ((PySem.W.sortI U).map .int)⟩ X else .no):=h
    by_cases y:U.length<64
    ·rw [if_pos y] at h
     have N:=r.1
     match L,N with
     | [v],_=>
      have q:=r.2 0 v (.list (U.map .int)) rfl rfl
      cases q with
      | @lst p ws _ hq hwl hw=>
       have G:ws=U.map V.int:=by
        apply ext_getElem?
        intro i;by_cases j:i<ws.length
        ·have a:i<U.length:=by rw [length_map] at hwl;omega
         have q:=hw i (ws[i]'j) (.int (U[i]'a)) (Nl _) (by rw [getElem?_map,Nl a];rfl)
         rw [Nl j,getElem?_map,Nl a];generalize ws[i]'j=u at q
         cases q;rfl
        ·rw [getElem?_eq_none (by omega),getElem?_eq_none (by rw [length_map] at hwl ⊢;omega)]
       rw [G] at hq;refine ⟨p,U,rfl,hq,y,λl N=>h _ _ _ _ (A.newSc E.ndO N (by simp) λi v d F g=>?_)⟩
       rw [getElem?_map] at F g
       cases M:(PySem.W.sortI U)[i]? with
       | none=>rw [M] at F;cases F
       | some z=>
        rw [M] at F g
        cases F
        cases g;exact .int z
    ·rw [if_neg y] at h;exact h.elim
end
theorem Inv.turnedL {X:Cx} {B:List (Addr×Obj)} {M:St} {H:Hp} {s:Shared} {U:Heap} {t':Nat} {a:List Addr} (I:L2.Inv X B M H s) (k:∀b o,b∉a->s.heap.get? b=some o->U.get? b=some o) (f:∀b∈a,jS X B H b):L2.Inv X B M H { s with heap:=U,toks:=t' }:=by
 have d:∀b u,H b=some u->b∉a:=λb u e z=>by have:=(f b z).1;rw [e] at this;cases this
 have P:X.env.locals∉a:=λz=>(f _ z).2.1 rfl
 refine I.step (g':=s.gens) (d':=s.drawn) (ch:=a) (λb Z=>?_) (λb o _ _ J e _=>k b o J e) (λb o _ _ J e _=>⟨o.slots,k b o J e⟩) (λ_ _ _ _ n=>n)
  (λb o J e=>⟨o,k b o J e⟩) (λ_ _ e=>e) (λ_ _ _ e=>e) (λb h e=>⟨#[],by rw [e];simp⟩) (λm G=>?_) (λb u e=>?_) I.bare
 ·obtain ⟨g,A,t,F,y,R⟩:=f b Z
  exact ⟨F,A,y,R⟩
 ·obtain ⟨o,j,N,K,r⟩:=G
  exact ⟨o,j,N,k _ o P K,r⟩
 ·refine (I.hok b u e).stay (λc v J q=>k c v ?_ q) (λ_ q=>q) λ_ _ q=>q
  rcases J with z | z
  ·rw [z];exact d b u e
  ·exact d c _ z
theorem Inv.turnedT {X:Cx} {B:List (Addr×Obj)} {M:St} {H:Hp} {s:Shared} {U:Heap} {t':Nat} {a:List Addr} {T:Addr} {Y:List V} (I:L2.Inv X B M H s) (k:∀b o,b∉a->s.heap.get? b=some o->U.get? b=some o) (g:∀b∈a,jS X B H b) (C:s.heap.objs.size<=T)
  (L:ObjOk X.prog X.w (aR H T (.tup Y)) U T (.tup Y)):L2.Inv X B M (aR H T (.tup Y)) { s with heap:=U,toks:=t' }:=by
 have f:H T=none:=I.hok.fresh C
 have d:∀b u,H b=some u->b∉a:=λb u e z=>by have:=(g b z).1;rw [e] at this;cases this
 have up:∀b u,H b=some u->aR H T (.tup Y) b=some u:=λb u e=>by rw [cb (xD e f)];exact e
 have P:X.env.locals∉a:=λz=>(g _ z).2.1 rfl
 refine I.step (g':=s.gens) (d':=s.drawn) (ch:=a) (λb Z=>?_) (λb o _ _ J e _=>k b o J e) (λb o _ _ J e _=>⟨o.slots,k b o J e⟩) (λb o _ e n=>by rw [cb (Nat.ne_of_lt (Nat.lt_of_lt_of_le (Heap.lt_size e) C))];exact n)
  (λb o J e=>⟨o,k b o J e⟩) (λb _ e=>up b _ e) (λb _ _ e=>up b _ e) (λb i e=>⟨#[],by rw [up b _ e];simp⟩) (λm G=>?_) (λb u e=>?_) I.bare
 ·obtain ⟨h,A,t,F,y,R⟩:=g b Z
  exact ⟨F,A,y,R⟩
 ·obtain ⟨o,j,N,K,r⟩:=G
  exact ⟨o,j,N,k _ o P K,r⟩
 ·by_cases Z:b=T
  ·subst Z
   rw [cL] at e
   cases e;exact L
  ·rw [cb Z] at e
   refine (I.hok b u e).stay (λc v J q=>k c v ?_ q) (λc q=>up c _ q) λc _ q=>up c _ q
   rcases J with z | z
   ·rw [z];exact d b u e
   ·exact d c _ z
noncomputable def Eo (K:Fg) (a:Addr):It:=
 ⟨λi H=>∃Y x,SqL K H a Y/\Y[i]?=some x,λi H x F=>∃T v,x=.ref T/\H T=none/\F=aR H T (.tup [.int i,v])/\∀Y,SqL K H a Y->Y[i]?=some v,λi H=>∃Y,SqL K H a Y/\Y.length<=i⟩
theorem sv {P:Program} {w:World} {K:Fg} {l:List Expr} {k:Nat} {pos:Pos} (a e L:Addr) (hei:e≠L) (hae:a≠e) (hai:a≠L) :
  uo P w K (.Tuple l k pos) (Eo K a) [e,L] e (λi h=>(∃old,IsEnum h e L i old)/\h.IsListIter L a i) where
 mem:=by simp
 obj:=λi h st b Z=>by
  obtain ⟨⟨old,R⟩,o,e1,c,d⟩:=st;simp only [mem_cons,not_mem_nil,or_false] at Z
  rcases Z with rfl | rfl
  ·exact ⟨_,R,λv z=>by
    have z':Data.fields _=Data.cell v:=z
    cases z'⟩
  ·exact ⟨o,e1,λv z=>by rw [d] at z;cases z⟩
 keep:=λi h U st kk=>by
  obtain ⟨⟨old,R⟩,r⟩:=st;exact ⟨⟨old,kk e (by simp) _ R⟩,r.at λo q=>kk L (by simp) o q⟩
 item:=by
  intro X j hw hK J i B s M H E I m st hg;subst j hw hK;obtain ⟨Y,x,n,G⟩:=hg;obtain ⟨g,f,p,hz⟩:=I.list n;obtain ⟨u,hu,ru⟩:=f.get G;have W:=WalksT.enumerate (prog:=X.prog) (w:=X.w) (A:=X.A) (I.ok.hd J) e L a hei hae hai g.toArray
  have hil:i<g.toArray.size:=by
   have:=(Nq hu).1
   simpa using this
  refine W.item i s _ _ hil ⟨st.1,st.2,p.isList⟩ λT vals U tk hv hT hTT hMid kk=>?_
  obtain ⟨t,y,hy,rfl⟩:=hv;have ey:y=u:=by
   rw [getElem?_toArray,hu] at hy;exact (Option.some.inj hy).symm
  subst ey;refine ⟨.ref T,rfl,W.go l k pos i T _ _ _ hMid λC st2 kk2=>?_⟩
  have hTn:H T=none:=I.hok.fresh hT
  have hTw:T∉[e,L]:=W.apart i T _ hMid
  have kAll:∀b o,b∉[e,L]->s.heap.get? b=some o->C.get? b=some o:=λb o Z q=>kk2 b o Z (kk b o Z q)
  have I1:L2.Inv X B M H { s with heap:=C,toks:=tk }:=Inv.turnedL I kAll m
  have tT:C.IsTuple T #[.int i t,y]:=by
   obtain ⟨o,F,q2⟩:=hTT;exact ⟨o,kk2 T o hTw F,q2⟩
  have hvs:Vals [.int (i:Int),x] [.int i t,y]:=.cons (show RelV (.int (i:Int)) (.int i t) from ⟨t,rfl⟩) (.cons ru .nil)
  have I3:L2.Inv X B M (aR H T (.tup [.int i,x])) { s with heap:=C,toks:=tk }:=Inv.turnedT (t':=tk) I kAll m hT ⟨by show 2<=sizeLine;decide,[.int i t,y],hvs,(show IsTup C T _ from tT)⟩
  refine ⟨.ref T,aR H T (.tup [.int i,x]),I3,rfl,⟨T,x,rfl,hTn,rfl,λys hy=>by rw [I.list_inj hy n];exact G⟩,⟨st2.1,st2.2.1⟩,λb Z=>?_⟩
  have hbT:b≠T:=λz=>by rw [z] at Z;exact hTw Z
  rw [cb hbT];exact (m b Z).1
 done:=by
  intro X j hw hK J i B s M H E I m st hg;subst j hw hK;obtain ⟨Y,n,G⟩:=hg;obtain ⟨g,f,p,hz⟩:=I.list n;have N:=f.length
  obtain ⟨⟨old,R⟩,r⟩:=st;refine wpAny_pyNext_enum_end (I.ok.hd J) R r p.isList (Array.getElem?_eq_none (by simp;omega)) λU O=>⟨rfl,Inv.turnedL (t':=s.toks) I (λb o Z q=>O b o (λz=>Z (by simp [z])) q) m⟩
 self:=λ_ _ _ _ _ st h=>by
  obtain ⟨⟨old,R⟩,r⟩:=st;exact wpAny_pyIter_enum R h
noncomputable def Au (K:Fg) (d:TA):TI:=λM H R=>d M H λL Z=>∃a,L=[.ref a]/\(∃Y,SqL K Z a Y)/\R (Eo K a) Z
theorem yt {X:Cx} {m:List Expr} {k:Nat} {j:Pos} {l:Expr} {d:TA} {p K:Pos} (E:Gl X "enumerate") (G:X.mg "enumerate"=none) (U:PA X [l] d) (L:starEach [l] X.env=[(false,eval l X.env)]) :
  PI X (.Tuple m k j) (.Call (.Name "enumerate" p) [l] [] K) (Au X.K d):=by
 intro B s M H R I h;refine Call_ (xj I E G boot_enumerate (PyProof.Rows.callWith_type1 (bt (U K B s M H _ I h) λP A ⟨vs,H1,I1,r1,F⟩=>?_) L rfl))
 obtain ⟨a,e,⟨Y,n⟩,q⟩:=F;subst e;obtain ⟨u,rfl,C⟩:=r1.one
 cases C;obtain ⟨g,N,v,w⟩:=I1.list n;refine call_enumerate_list v.isList λJ t r x O=>?_
 have c:a<A.heap.objs.size:=by
  obtain ⟨o,F,_⟩:=v.isList;exact Heap.lt_size F
 refine wpAny_pyIter_enum (s:={ A with heap:=J }) t ?_
 have i:L2.Inv X B M H1 { A with heap:=J }:=I1.kept (t':=A.toks) O
 refine ⟨A.heap.objs.size+1,[A.heap.objs.size+1,A.heap.objs.size],_,Eo X.K a,H1,rfl,i,sv a _ _ (Nat.succ_ne_self _) (Nat.ne_of_lt (Nat.lt_succ_of_lt c)) (Nat.ne_of_lt c),⟨⟨_,t⟩,r⟩,λb Z=>?_,q⟩
 simp only [mem_cons,not_mem_nil,or_false] at Z
 have y:A.heap.objs.size<=b:=by
  rcases Z with z | z
  ·rw [z];exact Nat.le_succ _
  ·rw [z];exact Nv _
 have f:=I1.fpOk y (I1.hok.fresh y)
 exact f
noncomputable def pB (i j:Nat) (C:FS):Nat->List Nw->Ev->d9
 | _,[],Γ=>.nx Γ
 | k,d::r,Γ=>if i<Γ.length/\j<Γ.length then (match C ((Γ.set i (Nx (.int (k:Nat)))).set j (Nx d)) with
  | .nx I=>pB i j C (k+1) r I
  | .ct I=>pB i j C (k+1) r I
  | .bk I=>.nx I
  | .rt p=>.rt p
  | .er c I=>.er c I
  | .no=>.no) else .no
noncomputable def FN (i j:Nat) (z:F1) (C:FS):FS:=λB=>match aU z B with
 | .ok t X=>if t.st then pB i j C 0 t.ds X else .no
 | .er c X=>.er c X
 | .no=>.no
noncomputable def lW (i j:Nat) (E:FB) (v:F1) (s:Sh):Nat->List Nw->Ev->List Nw->Out (List Nw)
 | _,[],Γ,acc=>.ok acc Γ
 | k,d::r,Γ,acc=>match E ((Γ.set i (Nx (.int (k:Nat)))).set j (Nx d)) with
  | .ok true X=>(match v X with
   | .ok p o=>if T.coer s p&&decide (acc.length<sizeLine) then lW i j E v s (k+1) r ((o.set i none).set j none) (acc++[p.d]) else .no
   | _=>.no)
  | .ok false X=>if acc.length<sizeLine then lW i j E v s (k+1) r ((X.set i none).set j none) acc else .no
  | _=>.no
noncomputable def rh:Option (Option PV)->Bool
 | some none=>true
 | _=>false
noncomputable def Di (s:Sh) (i j:Nat) (z:F1) (E:FB) (v:F1):F1:=λB=>(aU z B).bind λt X=>if rh X[i]?&&rh X[j]?&&!s.isView then (match lW i j E v s 0 t.ds X [] with
 | .ok N o=>.ok ⟨.lst s,.list N⟩ o
 | _=>.no) else .no
noncomputable def ja (N:List Str) (a:List Nat) (u:List Nat) (sc:Scope):Bool:=
 decide (sc.kind=.function)&&(sc.names.all λp=>!decide (p.2=.free)||u.any λj=>decide (N[j]?=some p.1)) &&
 ((List.range N.length).all λj=>a.contains j||(sc.names.all λp=>!decide (some p.1=N[j]?)||(!decide (p.2=.local)&&!decide (p.2=.cell)))) &&
 (sc.names.all λp=>!decide (p.2=.local)||decide (sc.names.lookup p.1=some .local)) &&
 (sc.names.all λp=>!decide (p.2=.free)||sc.names.all λq=>!decide (q.1=p.1)||!decide (q.2=.cell))
theorem Ka {X:Cx} {N gl:List Str} {L u Z r t a:List Nat} {d:Scope} (S:Cp X N gl L u Z r t) (h:ja N a u d=true):dy X.N a X.env.scope d:=by
 unfold ja at h;simp only [Bool.and_eq_true,decide_eq_true_eq,all_eq_true,Bool.or_eq_true,Bool.not_eq_true',decide_eq_false_iff_not,any_eq_true,mem_range] at h
 obtain ⟨⟨⟨⟨l,R⟩,C⟩,c⟩,f⟩:=h;refine ⟨l,λn b=>?_,λj x e A=>?_,λx G e=>?_,λn b J=>?_⟩
 ·rcases R _ b with z | ⟨j,A,e⟩
  ·exact absurd rfl z
  ·exact S.cel j n e (by simpa using A)
 ·rw [S.hN] at e
  rcases C j (Nq e).1 with z | z
  ·simpa using z
  ·exfalso
   rcases A with y | y
   ·rcases z _ y with w | w
    ·exact w e.symm
    ·exact w.1 rfl
   ·rcases z _ y with w | w
    ·exact w e.symm
    ·exact w.2 rfl
 ·rcases c x G with z | z
  ·exact absurd e z
  ·exact z
 ·rcases f _ b with z | z
  ·exact z rfl
  ·rcases z _ J with w | w
   ·exact w rfl
   ·exact w rfl
end T
namespace TQ
open PySem PySem.Spec L2 T
open PyProof.Rows hiding St
section
variable {X:Cx} {N gl:List Str} {vs cs ls lo gs:List Nat} {W:XW} {a b c e:Expr} {es:List Expr} {pos p:Pos} {fa fb fc:F1} {fl:FL} {ga gb:FB} {g1 g2 g:FS}
theorem w_ds_no {st:Stmt}:Q (PS X st (tS X.K W FM)):=⟨λB s M H D I h=>by
 obtain ⟨f,O,t,d,E,h⟩:=h;exact h.elim⟩
theorem jW (U:Q (PE X e (tE X.K W fa))) (Y:swapsWith e none pos.line X.env=pure false):Q (PS X (.Expr e pos) (tS X.K W (dE fa))):=⟨have U:=U.p;je (D7 U Y) λ_ _ _=>yk⟩
theorem mn {X:Cx} {N gl:List Str} {L u Z r t:List Nat} {W:XW} {a:Expr} {K p f:Pos} {z:F1} {c:String} {x:Str} (S:Cp X N gl L u Z r t) (j k:Nat) (A:gl[j]?=some ("isinstance":Str)) (E:t.contains j=true) (O:gl[k]?=some x) (y:t.contains k=true) (J:kinds.contains c=true) (P:bootBuiltins x=some (.type c)) (G:X.mg "isinstance"=none) (R:X.mg x=none) (U:Q (PE X a (tE X.K W z))) (Y:starEach [a,.Name x f] X.env=(false,eval a X.env)::starEach [.Name x f] X.env) (m:starEach [.Name x f] X.env=(false,eval (.Name x f) X.env)::starEach [] X.env) (d:(backTo K (starEach [.Name x f] X.env)).any (·.1)=false):Q (PE X (.Call (.Name "isinstance" p) [a,.Name x f] [] K) (tE X.K W (i5 c z))):=⟨have U:=U.p;bh (EK (wU (by simpa using J)) (S.g A E).1 G lZ (cI U (cI (yx (v:=.ty c) (S.g O y).1 R P rfl (S.g O y).2.2 (S.g O y).2.1) gz m) Y) (S.g A E).2.2 (S.g A E).2.1 Y d) λ_ _ _=>BH⟩
theorem mq (S:Cp X N gl vs cs ls lo gs) (j:Nat) (A:gl[j]?=some ("sorted":Str)) (E:gs.contains j=true) (G:X.mg "sorted"=none) (U:Q (PA X (e::es) (tA X.K W fl))) (R:starEach (e::es) X.env=(false,eval e X.env)::starEach es X.env) (Y:(backTo pos (starEach es X.env)).any (·.1)=false):Q (PE X (.Call (.Name "sorted" p) (e::es) [] pos) (tE X.K W (fC fl))):=⟨have U:=U.p;bh (EK pN (S.g A E).1 G oz U (S.g A E).2.2 (S.g A E).2.1 R Y) λ_ _ _=>vb⟩
theorem iu {f l:Pos} (S:Cp X N gl vs cs ls lo gs) (j k:Nat) (A:gl[j]?=some ("list":Str)) (E:gs.contains j=true) (G:X.mg "list"=none) (O:gl[k]?=some ("range":Str)) (y:gs.contains k=true) (R:X.mg "range"=none) (U:Q (PA X [a] (tA X.K W fl))) (Y:starEach [a] X.env=[(false,eval a X.env)]) (r:starEach [.Call (.Name "range" f) [a] [] l] X.env=[(false,eval (.Call (.Name "range" f) [a] [] l) X.env)]):Q (PE X (.Call (.Name "list" p) [.Call (.Name "range" f) [a] [] l] [] pos) (tE X.K W (zl fl))):=⟨have U:=U.p;bh (lb (S.g A E).1 G (S.g O y).1 R S.calm U Y r) λ_ _ _=>F6⟩
end
end TQ
namespace L2
open PySem PySem.Spec PyProof.Rows
section
variable {κ:Type} [DecidableEq κ]
noncomputable def dj (E:List (κ×V)) (k:κ):Option V:=(E.find? λZ=>decide (Z.1=k)).map (·.2)
theorem Kh {p:κ×V} {r:List (κ×V)} {k:κ} (e:p.1=k):dj (p::r) k=some p.2:=by simp [dj,find?_cons,e]
theorem EM {p:κ×V} {r:List (κ×V)} {k:κ} (e:¬p.1=k):dj (p::r) k=dj r k:=by simp [dj,find?_cons,e]
theorem RelO.isSome_eq {o:Option V} {u:Option Value} (r:RelO o u):o.isSome=u.isSome:=by
 cases o with
 | none=>cases u with
  | none=>rfl
  | some _=>exact (show False from r).elim
 | some _=>cases u with
  | none=>exact (show False from r).elim
  | some _=>rfl
end
theorem Ao {P:Program} {w:World} {k:gx} {u:Value} (r:RelV (kV k) u):(br P w).is k u=true:=by
 cases k with
 | inl i=>obtain ⟨t,e⟩:=(show ∃t,u=Value.int i t from r);subst e;exact nC P w i t
 | inr x=>obtain ⟨t,e⟩:=(show ∃t,u=Value.str x t from r);subst e;exact nB P w x t
theorem kr {P:Program} {w:World}:∀{U:List gx} {us:List Value},Vals (U.map kV) us->ItemsAre (br P w) U us
 | [],_,r=>by rw [map_nil] at r;cases r;exact .nil
 | k::U,_,r=>by
  rw [map_cons] at r
  cases r with
  | cons h t=>exact .cons (Ao h) (kr t)
section
variable {X:Cx} {pins:List (Addr×Obj)} {σ:St} {H:Hp} {s:Shared} {a:Addr} {y v:V} {u r:Value} {o:Option V} {A:Around} {E:Value->Shared->Prop}
theorem Inv.big (I:Inv X pins σ H s):sysModules<s.heap.objs.size:=by
 have h:mainGlobals<s.heap.objs.size:=(I.mod.glob.keeps I.bk).lt
 exact Nat.lt_trans (by decide) h
theorem Jv {U:Heap} {t':Nat} {ob:HO} (I:Inv X pins σ H s) (f:HP (H a)) (Y:Heap.SameBut a s.heap U) (R:∃q,U.get? a=some q) (L:ObjOk X.prog X.w (aR H a ob) U a ob) :
  Inv X pins σ (aR H a ob) { s with heap:=U,toks:=t' }:=
 I.write (x:=a) (e:=a) f (.inl rfl) (λb q Z z=>(Y.2 b Z).trans z) R L
end
noncomputable def DI (i:Expr):Prop:=∀c R,subscripted i false c R=operate [c,R] (getItem c R)
theorem qp {c:Program} {w:World} {A:Around} {E:Value->Shared->Prop} {s:Shared} {p:Env} {k e:Expr} {K:Pos} {T j:String} {Q:Value->Shared->Prop}
  (N:typeLookup (.type T) "__getitem__"=pure (some (.builtin j))) (Y:DI e)
  (h:wpAny (model c w) A (eval k p) (λo g=>wpAny (model c w) A (eval e p) (λi O=>O.TypeIs o T/\wpAny (model c w) A (getItem o i) Q E O) E g) E s) :
  wpAny (model c w) A (eval (.Subscript k e K) p) Q E s:=by
 refine Subscript_ (wpAny_mono h (λo g f=>wpAny_mono f (λi O b=>?_) λ_ _ x=>x) λ_ _ x=>x)
 obtain ⟨C,b⟩:=b;unfold subscriptTail;refine Nr ?_
 rw [getitemInPython_of_ne C.not_modules];refine Nr (wpAny_specialOf C N ?_)
 have d:wpAny (model c w) A (subscripted e false o i) (λr a=>wpAny (model c w) A (letTemporaryGo k o r >>= λ_=>pure r) Q E a) E O:=by
  rw [Y o i];exact wpAny_operating (wpAny_mono b (λr a t=>Nr (wpAny_letTemporaryGo (Nt t))) λ_ _ x=>x)
 first
  | exact Nt (Nr d)
  | exact Nr (Nt (Nr d))
  | exact Nr d
noncomputable def uM:List (TE×TE)->St->Hp->(List (V×V)->Hp->Prop)->Prop
 | [],_,H,Q=>Q [] H
 | (tk,tv)::r,σ,H,Q=>tk σ H λx Z=>tv σ Z λy j=>uM r σ j λJ d=>Q ((x,y)::J) d
noncomputable abbrev VV:List (V×V)->List (Value×Value)->Prop:=Paired λp q=>RelV p.1 q.1/\RelV p.2 q.2
noncomputable def LX (X:Cx) (K:Pos) (c:List (Option Expr)) (a:List Expr) (b:List (TE×TE)):Prop:=
 ∀(B:List (Addr×Obj)) (s:Shared) (σ:St) (H:Hp) (Q:List (V×V)->Hp->Prop),Inv X B σ H s->uM b σ H Q ->
  wpAny (model X.prog X.w) X.A (evalPairs (pairTrees c a X.env K)) (λL j=>∃J F,Inv X B σ F j/\VV J L/\Q J F) X.xe s
theorem yr {X:Cx} {K:Pos}:LX X K [] [] []:=λB s M H Q I h=>pairTrees_nil_walk ⟨[],H,I,.nil,h⟩
theorem vt {X:Cx} {K:Pos} {k v:Expr} {U:List (Option Expr)} {L:List Expr} {G l:TE} {b:List (TE×TE)} (O:PE X k G) (P:PE X v l) (a:LX X K U L b) :
  LX X K (some k::U) (v::L) ((G,l)::b):=λB s M H Q I h=>
 pairTrees_cons_walk (bt (O B s M H _ I h) λu A ⟨x,H1,I1,rx,q1⟩=>bt (P B A M H1 _ I1 q1) λe N ⟨y,H2,I2,ry,q2⟩=>
  bt (a B N M H2 _ I2 q2) λp Y ⟨ps,H3,I3,rel,q3⟩=>⟨(x,y)::ps,H3,I3,.cons ⟨rx,ry⟩ rel,q3⟩)
end L2
namespace T
open PySem PySem.Spec L2
open PyProof.Rows hiding St
noncomputable def eQ:Nw->Bool
 | .none=>true
 | _=>false
noncomputable def fA (f:Bool):Nw->Nw->Option Nw
 | a,.none=>some (.bool (if f then !eQ a else eQ a))
 | _,_=>none
theorem vK {K:Fg} {H:Hp} {x:V} {a:Nw} (r:Rep K H x a):decide (x=V.non)=eQ a:=by
 cases r<;>simp [eQ]
theorem y2 {K:Fg}:GOp K (λx y H Q=>y=.non/\Q (.bl (decide (x=.non))) H) (fA false):=by
 intro x y H Q a b d l m e k
 cases m<;>simp only [fA] at e<;>try cases e
 exact ⟨rfl,by rw [vK l];exact k _ (.bl _)⟩
theorem vm {X:Cx} (R:Rm X):Ck X .Is (λx y H Q=>y=.non/\Q (.bl (decide (x=.non))) H) (fA false):=⟨Ci,y2⟩
noncomputable def lK (z e:F1):F1:=aY z λp=>aY e λq=>λB=>match p.d,q.d with
 | .list xs,.list ys=>if aH p xs&&aH q ys&&decide (xs.length+ys.length<=sizeLine) then .ok ⟨.lst .leaf,.list (xs++ys)⟩ B else .no
 | _,_=>.no
noncomputable def ME (z e:F1):F1:=aY z λp=>aY e λq=>λB=>match p.d,q.d with
 | .tuple xs,.tuple ys=>if !p.s.isView&&aH q ys&&!xs.isEmpty&&decide (xs.length+ys.length<=sizeLine) then .ok ⟨.leaf,.tuple (xs++ys)⟩ B else .no
 | _,_=>.no
noncomputable def pE (z e:F1):F1:=aY z λp=>aY e λq=>λB=>match p.d,q.d with
 | .tuple xs,.int k=>if !p.s.isView&&decide (1<=k)&&decide (k<=xs.length) then .ok ⟨.leaf,.tuple (xs.drop k.toNat)⟩ B else .no
 | _,_=>.no
noncomputable def vi (K:Fg):R2:=λx y H Q=>∃l b Y d,x=.ref l/\y=.ref b/\SqL K H l Y/\SqL K H b d/\Y.length+d.length<=sizeLine/\∀p,H p=none->Q (.ref p) (aR H p (.lst (Y++d)))
theorem zw {c:Program} {w:World} {A:Around} {E:Value->Shared->Prop} {s:Shared} {l b:Addr} {L p:List Value} {Q:Value->Shared->Prop} (N:s.heap.IsList l L.toArray) (Z:s.heap.IsList b p.toArray) (m:L.length+p.length<=sizeLine)
  (h:Q (.ref s.heap.objs.size) { s with heap:=s.heap.push { cls:=.type "list",data:=.seq (L++p).toArray } }):wpAny (model c w) A (binaryOp .Add (.ref l) (.ref b)) Q E s:=by
 obtain ⟨⟨cls,o,data,R⟩,K,J,n,F⟩:=id N;obtain ⟨⟨k,j,i,g⟩,d,a,u,f⟩:=id Z;simp only at J F a f
 subst J F a f;have e:L.toArray++p.toArray=(L++p).toArray:=by simp
 rw [<-e] at h;exact concat_meets ⟨_,K,rfl⟩ ⟨_,d,rfl⟩ noFill_list_add seq_list_add PySem.F.slot_list_add PySem.F.entry_list_add (PySem.F.args_list_add_2 _ _) (list_addW l b L.toArray p.toArray n u o j R g (by simpa using m)) ⟨K,d,h⟩
theorem yA {X:Cx}:OpR X (binaryOp .Add) (vi X.K):=by
 intro B s M H x y v u Q I P o h;obtain ⟨l,b,Y,d,rfl,rfl,a,f,w,q⟩:=h
 cases P
 cases o;obtain ⟨g,r,Z,z⟩:=I.list a;obtain ⟨e,k,c,G⟩:=I.list f;refine zw Z.isList c.isList (by rw [<-r.length,<-k.length];exact w) ?_
 exact ⟨.ref _,_,I.lnew (t':=s.toks) (r.append k) (by rw [length_append];exact w),rfl,q _ I.fresh⟩
section
variable {K:Fg} {W:XW} {σ:St} {H:Hp} {Q:VK} {D:dW} {fa fb:F1} {fl:FL}
theorem Reps.app {L p:List V} {N j:List Nw} (h:Reps K H L N) (U:Reps K H p j):Reps K H (L++p) (N++j):=by
 refine ⟨by rw [length_append,length_append,h.1,U.1],λi v d B m=>?_⟩
 by_cases l:i<L.length
 ·rw [getElem?_append_left l] at B
  rw [getElem?_append_left (by rw [<-h.1];exact l)] at m
  exact h.2 i v d B m
 ·rw [getElem?_append_right (by omega)] at B
  rw [getElem?_append_right (by rw [<-h.1];omega),<-h.1] at m
  exact U.2 _ v d B m
theorem Reps.drop {L:List V} {N:List Nw} (k:Nat) (h:Reps K H L N):Reps K H (L.drop k) (N.drop k):=by
 refine ⟨by rw [length_drop,length_drop,h.1],λi v d B m=>?_⟩
 rw [List.getElem?_drop] at B m
 exact h.2 _ v d B m
theorem Dn {G P O F:List Addr} (J:(G++(P++O)++F).Nodup):(∀a∈P,a∉O++F)/\(∀a∈G,a∉O++F):=by
 rw [append_assoc,append_assoc] at J;obtain ⟨_,u,w⟩:=Np J;obtain ⟨_,_,d⟩:=Np u;exact ⟨λa U z=>d a U a z rfl,λa U z=>w a U a (Nh _ z) rfl⟩
theorem xN {G P O F:List Addr}:∀a∈O++F,a∈G++(P++O)++F:=λa U=>by
 rcases Nj U with z | z
 ·exact Ni _ (Nh _ (Nh _ z))
 ·exact Nh _ z
theorem yL {f Z:Hp} {O:List Addr} {t Y:List (List Addr)} {X:Ev} {L:List V} {N:List Nw} {p:Addr} (E:EnvOk K f O Y Z σ X) (s:Same H Z) (n:∀a∈Y.flatten,a∈t.flatten\/H a=none)
  (M:Reps K (aS Z (O++Y.flatten)) L N) (g:Z p=none):Aft K f O t H σ X ⟨.leaf,.tuple N⟩ (.ref p) (aR Z p (.tup L)) [] Y:=by
 refine ⟨s.trans (dH g),by rw [nil_append];exact E.grow (dH g),by rw [nil_append];exact n,.leaf ?_⟩
 rw [nil_append];have y:p∉O++Y.flatten:=λz=>E.inH p z g
 exact .tup (.of (qb cL y)) M.1 λi v d R C=>(M.2 i v d R C).mono (fF (dH g) λa U=>.inl U)
theorem yM {f Z:Hp} {O:List Addr} {t Y:List (List Addr)} {X:Ev} {v:V} {d:Nw} (E:EnvOk K f O Y Z σ X) (s:Same H Z) (n:∀a∈Y.flatten,a∈t.flatten\/H a=none)
  (M:Rep K (aS Z (O++Y.flatten)) v d):Aft K f O t H σ X ⟨.leaf,d⟩ v Z [] Y:=
 ⟨s,by rw [nil_append];exact E,by rw [nil_append];exact n,.leaf (by rw [nil_append];exact M)⟩
theorem BO (h:tE K W (lK fa fb) σ H Q):sx (vi K) (tE K W fa) (tE K W fb) σ H Q:=by
 refine D0 (R:=λv u j=>vi K v u j Q) h λf O t o p q v u Z j P G2 l M A N E e X x w=>?_
 obtain ⟨s,d⟩:=p;obtain ⟨r,d'⟩:=q;dsimp only at w X x
 split at w
 ·rename_i Y G
  cases J:(aH ⟨s,.list Y⟩ Y&&aH ⟨r,.list G⟩ G&&decide (Y.length+G.length<=sizeLine)) with
  | false=>rw [J] at w;exact w.elim
  | true=>
   rw [J] at w;simp only [Bool.and_eq_true,decide_eq_true_eq] at J
   obtain ⟨⟨I,C⟩,n⟩:=J;obtain ⟨B,b⟩:=Dn E.nd;obtain ⟨g,L,rfl,F,_,i⟩:=X.items (O':=O++l.flatten) I xN B
   obtain ⟨z,ws,rfl,y,_,k⟩:=x.items (O':=O++l.flatten) C xN b
   refine ⟨g,z,L,ws,rfl,rfl,F,y,by rw [i.1,k.1];exact n,λc m=>w _ _ _ _ (Iy (E.drop (λa U=>Nh _ (Nh _ U)) M) (A.trans N) (λa U=>e a (Nh _ (Nh _ U))) (i.app k) m)⟩
 ·exact w.elim
theorem BC (h:tE K W (pE fa fb) σ H Q):Md (BS K) (tE K W fa) (zZ (tE K W fb)) qk σ H Q:=by
 refine D0 (R:=λv u j=>∃i,u=.int i/\BS K v (some i) none j Q) h λf O t o p q v u Z j P G l nd A N E L X x w=>?_
 obtain ⟨s,d⟩:=p;obtain ⟨s',d'⟩:=q;dsimp only at w X x
 split at w
 ·rename_i Y k
  cases J:(!s.isView&&decide (1<=k)&&decide (k<=Y.length)) with
  | false=>rw [J] at w;exact w.elim
  | true=>
   rw [J] at w;simp only [Bool.and_eq_true,decide_eq_true_eq,Bool.not_eq_true'] at J
   obtain ⟨⟨h1,C⟩,n⟩:=J;obtain ⟨B,b⟩:=Dn E.nd;have e:=E.drop (λa U=>Nh _ (Nh _ U)) nd
   have y:∀a∈l.flatten,a∈t.flatten\/H a=none:=λa U=>L a (Nh _ (Nh _ U))
   have M:=X.freeze (O':=O++l.flatten) h1 xN B
   have I:=x.rep
   cases I;refine ⟨k,rfl,?_⟩
   cases M with
   | @tup a vs _ hq hl hr=>
    have F:k=((k.toNat:Nat):Int):=by omega
    refine ⟨a,vs,rfl,bB hid_le hq,λz=>?_,λc m=>?_⟩
    ·have r:=z.1
     rw [F,HT.sIx_nat] at r;omega
    ·have g:jQ vs (some k) none=vs.drop k.toNat:=by
      unfold jQ;rw [F,HT.sIx_nat,HT.sIx_none,Int.toNat_natCast,take_of_length_le (by rw [length_drop];omega)]
      rw [Nat.min_eq_left (by omega)]
     rw [g];exact w _ _ _ _ (yL e (A.trans N) y (Reps.drop k.toNat ⟨hl,hr⟩) m)
 ·exact w.elim
noncomputable def wG (z:F1):F1:=aY z λp B=>match p.d with
 | .list N=>if aH p N then .ok ⟨.leaf,.tuple N⟩ B else .no
 | .tuple N=>if !p.s.isView then .ok ⟨.leaf,.tuple N⟩ B else .no
 | _=>.no
end
noncomputable def Lw:List Nw->Option Nw
 | [.list ds]=>(dR ds).map λU=>.int U.sum
 | _=>none
theorem sM {K:Fg} {H:Hp} {p:List V} {U:List Int} (h:Reps K H p (U.map .int)):p=U.map V.int:=by
 obtain ⟨v,O⟩:=h;apply ext_getElem?
 intro i;by_cases l:i<p.length
 ·have a:i<U.length:=by rw [length_map] at v;omega
  have q:=O i (p[i]'l) (.int (U[i]'a)) (Nl _) (by rw [getElem?_map,Nl a];rfl)
  rw [Nl l,getElem?_map,Nl a];generalize p[i]'l=u at q
  cases q;rfl
 ·rw [getElem?_eq_none (by omega),getElem?_eq_none (by rw [length_map] at v ⊢;omega)]
noncomputable def qU (k:Str):List (Str×Int)->Option Int
 | []=>none
 | (x,i)::r=>if k=x then some i else qU k r
noncomputable def LL (f:Bool) (a:List (Str×Int)) (z:F1):F1:=aY z λp B=>match p.d with
 | .str k=>.ok ⟨.leaf,.bool (if f then !(qU k a).isSome else (qU k a).isSome)⟩ B
 | _=>.no
noncomputable def Hh (a:List (Str×Int)) (z:F1):F1:=aY z λp B=>match p.d with
 | .str k=>(match qU k a with
  | some i=>.ok ⟨.leaf,.int i⟩ B
  | none=>.no)
 | _=>.no
noncomputable def Lu (i:Nat) (q:PV) (B:Ev):Out PV:=match B[i]?,q.d with
 | some (some ⟨.lst .leaf,.list ds⟩),.int k=>(match fG ds.length k with
  | some j=>(match ds[j]? with
   | some d=>.ok ⟨.leaf,d⟩ B
   | none=>.no)
  | none=>.no)
 | _,_=>.no
noncomputable def wH (i:Nat) (e:F1):F1:=λB=>if lF B[i]? then (e B).bind (Lu i) else .no
section
variable {K:Fg} {W:XW} {σ:St} {H:Hp} {Q:VK} {D:dW} {fa fb:F1} {fl:FL}
noncomputable def Ly (p:PV):Bool:=match p with
 | ⟨.lst .leaf,.list ds⟩=>ds.all bD
 | _=>false
noncomputable def Dj (n:Nat) (u:List Nw->bA) (q:FL):F1:=λB=>(q B).bind λJ I=>if J.length=n then (match u (J.map (·.d)) with
 | .ok p=>if Ly p then .ok p I else .no
 | _=>.no) else .no
noncomputable def LO (i:Nat) (a:Int) (p:PV) (B:Ev):d9:=match p.d with
 | .int b=>if i<B.length then .nx (B.set i (Nx (.int (a+b)))) else .no
 | _=>.no
noncomputable def Ac (i:Nat) (f:F1):FS:=λB=>match B[i]? with
 | some (some ⟨.leaf,.int a⟩)=>jo f (LO i a) B
 | _=>.no
noncomputable def LG (i:Nat) (p:PV) (B:Ev):d9:=match B[i]?,p.d with
 | some (some ⟨.lst .leaf,.list ds⟩),.tuple es=>if aH p es&&decide (ds.length+es.length<=sizeLine) then .nx (B.set i (some ⟨.lst .leaf,.list (ds++es)⟩)) else .no
 | some (some ⟨.lst .leaf,.list ds⟩),.list es=>if aH p es&&decide (ds.length+es.length<=sizeLine) then .nx (B.set i (some ⟨.lst .leaf,.list (ds++es)⟩)) else .no
 | _,_=>.no
noncomputable def KP (i:Nat) (f:F1):FS:=λB=>if lF B[i]? then jo f (LG i) B else .no
end
section
variable {X:Cx} {N gl:List Str} {vs cs ls lo gs:List Nat} {W:XW} {a b c e:Expr} {es:List Expr} {pos p:Pos} {fa fb fc:F1} {fl:FL} {g:FS}
theorem G8 {P:Program} {w:World} {K:Fg} {I:Str->Option Value} {m:Heap} {k:Nat} {f:Addr} {o:FuncData} {J:List Str}:cC P w K I m g5 k f o J (qu K J.length λ_=>.no):=
 ⟨λvs H Q E h=>h.1,λA B s H args z vs Q E M R Z d h=>by
  obtain ⟨_,_,_,_,_,_,w⟩:=h;exact w.elim⟩
end
end T
namespace TQ
open PySem PySem.Spec L2 T
open PyProof.Rows hiding St
section
variable {X:Cx} {N gl:List Str} {vs cs ls lo gs:List Nat} {W:XW} {a b c e:Expr} {es:List Expr} {pos p:Pos} {fa fb fc:F1} {fl:FL} {ga gb:FB} {g1 g2 g:FS}
theorem uI (U:Q (PE X a (tE X.K W fa))) (Z:Q (PE X b (tE X.K W fb))):Q (PE X (.BinOp a .Add b pos) (tE X.K W (lK fa fb))):=⟨have U:=U.p;have Z:=Z.p;bh (iJ yA U Z) λ_ _ _=>BO⟩
theorem ml {f:Pos} (U:Q (PE X a (tE X.K W fa))) (Z:Q (PE X b (tE X.K W fb))):Q (PE X (.Subscript a (.Slice (some b) none none f) pos) (tE X.K W (pE fa fb))):=⟨have U:=U.p;have Z:=Z.p;bh (JU Bj U (J2 Z) J1) λ_ _ _=>BC⟩
theorem mi {l:Expr} (U:Q (PE X a (tE X.K W fa))):Q (PI X l a (tI X.K W (gY fa))):=⟨have U:=U.p;rY (vx U) λ_ _ _=>yh⟩
end
end TQ
namespace T
open PySem PySem.Spec L2
open PyProof.Rows hiding St
noncomputable def M7 (x:Str):List Nw:=x.cps.toList.map λc=>.str ⟨#[c]⟩
noncomputable def Ar (x:Str):FI:=λB=>.ok ⟨M7 x,true⟩ B
noncomputable def Ax (x:Str):List Nw->Option Nw
 | [.str j]=>match Builtin.Str.occurrences x j 0 x.length 1 with
  | k::_=>some (.int k)
  | []=>none
 | _=>none
noncomputable def putN:List Nat->List PV->Ev->Option Ev
 | [],[],Γ=>some Γ
 | i::is,p::ps,Γ=>if decide (i<Γ.length)&&!p.s.isView then putN is ps (Γ.set i (some p)) else none
 | _,_,_=>none
noncomputable def Mx:List Sh->List Nw->List PV
 | s::ss,d::ds=>⟨s,d⟩::Mx ss ds
 | _,_=>[]
noncomputable def Ks (p:PV):Option (List PV):=match p.s,p.d with
 | .tup ss,.tuple ds=>some (Mx ss ds)
 | .leaf,.tuple ds=>some (ds.map λd=>⟨.leaf,d⟩)
 | _,_=>none
noncomputable def FJ (a:List Nat) (f:F1):FS:=jo f λp B=>match Ks p with
 | some J=>if J.length=a.length then (match putN a J B with
  | some I=>.nx I
  | none=>.no) else .no
 | none=>.no
noncomputable def cutD (Y:List Nw) (r l:Option Int):List Nw:=(Y.drop (HT.sIx Y.length 0 r)).take (HT.sIx Y.length Y.length l-HT.sIx Y.length 0 r)
theorem Reps.take {K:Fg} {H:Hp} {L:List V} {N:List Nw} (k:Nat) (h:Reps K H L N):Reps K H (L.take k) (N.take k):=by
 refine ⟨by rw [length_take,length_take,h.1],λi v d B m=>?_⟩
 by_cases l:i<k
 ·rw [List.getElem?_take,if_pos l] at B m
  exact h.2 _ v d B m
 ·rw [List.getElem?_take,if_neg l] at B
  cases B
theorem Reps.cut {K:Fg} {H:Hp} {L:List V} {N:List Nw} (r l:Option Int) (h:Reps K H L N):Reps K H (jQ L r l) (cutD N r l):=by
 unfold jQ cutD;rw [h.1];exact (h.drop _).take _
noncomputable def lJ (g:Int->Option Int×Option Int) (z e:F1):F1:=aY z λp=>aY e λq=>λB=>match p.d,q.d with
 | .list xs,.int k=>if aH p xs then .ok ⟨.lst .leaf,.list (cutD xs (g k).1 (g k).2)⟩ B else .no
 | _,_=>.no
section
variable {K:Fg} {W:XW} {σ:St} {H:Hp} {Q:VK} {fa fb:F1}
theorem vc {g:Int->Option Int×Option Int} (h:tE K W (lJ g fa fb) σ H Q):tE K W fa σ H λv Z=>tE K W fb σ Z λu j=>∃k,u=.int k/\BU K v (g k).1 (g k).2 j Q:=by
 refine D0 (R:=λv u j=>∃k,u=.int k/\BU K v (g k).1 (g k).2 j Q) h λf O t o p q v u Z j P G l r A N E e X x w=>?_
 obtain ⟨s,d⟩:=p;obtain ⟨y,z⟩:=q;dsimp only at w X x
 split at w
 ·rename_i Y k
  cases J:aH ⟨s,.list Y⟩ Y with
  | false=>rw [J] at w;exact w.elim
  | true=>
   rw [J] at w;obtain ⟨B,b⟩:=Dn E.nd;obtain ⟨n,L,rfl,F,_,i⟩:=X.items (O':=O++l.flatten) J xN B
   have C:=x.rep
   cases C;exact ⟨k,rfl,n,L,rfl,F,λc m=>w _ _ _ _ (Iy (E.drop (λa U=>Nh _ (Nh _ U)) r) (A.trans N) (λa U=>e a (Nh _ (Nh _ U))) (i.cut _ _) m)⟩
 ·exact w.elim
end
end T
namespace TQ
open PySem PySem.Spec L2 T
open PyProof.Rows hiding St
variable {X:Cx} {W:XW} {a b:Expr} {fa fb:F1} {p2 pos:Pos}
theorem sf (U:Q (PE X a (tE X.K W fa))) (Z:Q (PE X b (tE X.K W fb))):Q (PE X (.Subscript a (.Slice none (some b) none p2) pos) (tE X.K W (lJ (λk=>(none,some k)) fa fb))):=⟨have U:=U.p;have Z:=Z.p;bh (JU qv U J1 (J2 Z)) λ_ _ _=>vc⟩
theorem mm (U:Q (PE X a (tE X.K W fa))) (Z:Q (PE X b (tE X.K W fb))):Q (PE X (.Subscript a (.Slice (some b) none none p2) pos) (tE X.K W (lJ (λk=>(some k,none)) fa fb))):=⟨have U:=U.p;have Z:=Z.p;bh (JU qv U (J2 Z) J1) λ_ _ _=>vc⟩
end TQ
namespace T
open PySem PySem.Spec L2
open PyProof.Rows hiding St
section
variable {K:Fg} {W:XW} {σ:St} {H:Hp} {Q:VK} {fb:F1}
theorem yJ {f:Hp} {O:List Addr} {t:List (List Addr)} {B:Ev} {i:Nat} {N:List Nw} (E:EnvOk K f O t H σ B) (h:B[i]?=some (Nx (.list N))):∃l L,σ[i]?=some (some (.ref l))/\SqL K H l L/\Reps K H L N:=by
 obtain ⟨_,v,F,R,_,o⟩:=E.slot i _ h;have r:=o.rep
 cases r with
 | @lst a L _ hq hl hr=>exact ⟨a,L,R,hq,hl,hr⟩
end
theorem EJ:(1000:Nat)<=sizeLine:=by decide
theorem Kj {i:Nat} {E:FB} {v:F1} {s:Sh} {c:D->Bool} {f:D->PV} {B:Ev} (H:B.set i none=B):∀(r q:List D),(∀d∈r,E (B.set i (Nx d))=.ok (c d) (B.set i (Nx d))) ->
  (∀d∈r,c d=true->v (B.set i (Nx d))=.ok (f d) (B.set i (Nx d))/\coer s (f d)=true)->q.length+r.length<=sizeLine->cx i E v s r B q=.ok (q++((r.filter c).map λd=>(f d).d)) B
 | [],q,_,_,_=>by simp [cx]
 | d::r,q,hc,he,hl=>by
  have R:=hc d mem_cons_self
  have b:q.length<sizeLine:=by simp at hl;omega
  have a:(B.set i (Nx d)).set i none=B:=by rw [set_set];exact H
  rw [cx,R]
  cases g:c d with
  | false=>
   dsimp only;rw [if_pos b,a,Kj H r q (λd F=>hc d (Nn _ F)) (λd F=>he d (Nn _ F)) (by simp at hl;omega)]
   rw [filter_cons_of_neg (by rw [g];exact Bool.false_ne_true)]
  | true=>
   obtain ⟨C,n⟩:=he d mem_cons_self g;dsimp only;rw [C];dsimp only;rw [n,decide_eq_true b,Bool.and_self,if_pos rfl,a,Kj H r (q++[(f d).d]) (λd F=>hc d (Nn _ F)) (λd F=>he d (Nn _ F)) (by simp at hl ⊢;omega)]
   rw [List.filter_cons_of_pos g,map_cons,append_assoc];rfl
theorem Kl {s:Sh} {i:Nat} {A:FI} {fc:FB} {v:F1} {c:D->Bool} {f:D->PV} {N:List D} {st:Bool} {B:Ev} (l:A B=.ok ⟨N,st⟩ B) (a:i<B.length) (Y:s.isView=false) (y:N.length<=1000)
  (J:∀d∈N,fc (B.set i (Nx d))=.ok (c d) (B.set i (Nx d))) (R:∀d∈N,c d=true->v (B.set i (Nx d))=.ok (f d) (B.set i (Nx d))/\coer s (f d)=true) :
  aq s i A fc v B=.ok ⟨.lst s,.list ((N.filter c).map λd=>(f d).d)⟩ B:=by
 have Z:=EJ
 unfold aq;rw [l];unfold Out.bind;dsimp only;rw [Kj (c:=c) (f:=f) (by rw [set_set]) N [] (λd F=>by rw [set_set];exact J d F) (λd F=>by rw [set_set];exact R d F) (by simp;omega)]
 dsimp only;rw [Y,decide_eq_true a];simp only [Bool.not_false,Bool.and_self,if_true,nil_append,set_set]
 have:B.set i (B.getD i none)=B:=by
  apply IH
  rw [Nm,Nl a];rfl
 rw [this]
theorem D9 {s:Sh} {i:Nat} {A:FI} {v:F1} {f:D->PV} {N:List D} {st:Bool} {B:Ev} (l:A B=.ok ⟨N,st⟩ B) (a:i<B.length) (Y:s.isView=false) (y:N.length<=1000)
  (R:∀d∈N,v (B.set i (Nx d))=.ok (f d) (B.set i (Nx d))/\coer s (f d)=true) :
  aq s i A aK v B=.ok ⟨.lst s,.list (N.map λd=>(f d).d)⟩ B:=by
 rw [Kl (fc:=aK) (c:=λ_=>true) (f:=f) l a Y y (λd F=>rfl) λd F _=>R d F,List.filter_eq_self.mpr λ_ _=>rfl]
theorem JS {P:Nat->Ev->Prop} {i:Nat} {body:FS}:∀(N:List D) (n:Nat) (B:Ev),P n B->(∀k d B,d∈N->n<=k->k<n+N.length->P k B->i<B.length/\∃I,body (B.set i (Nx d))=.nx I/\P (k+1) I)->∃I,cu i body N B=.nx I/\P (n+N.length) I
 | [],n,B,h,_=>⟨B,rfl,h⟩
 | d::r,n,B,h,st=>by
  obtain ⟨l,X,e,R⟩:=st n d B mem_cons_self (Nv _) (by simp) h
  obtain ⟨o,m,C⟩:=JS r (n+1) X R λk d B F a b c=>st k d B (Nn _ F) (by omega) (by simp;omega) c
  refine ⟨o,?_,?_⟩
  ·rw [cu,if_pos l,e]
   exact m
  ·rw [length_cons,show n+(r.length+1)=n+1+r.length by omega]
   exact C
theorem wy {any:Bool} {u:Type} {Y:List u} {f:u->Bool}:cO (Y.map λx=>.bool (f x))=some (Y.map f):=by
 induction Y with
 | nil=>rfl
 | cons x r a=>rw [map_cons,cO,a];rfl
theorem D4 {u:Type} {Y:List u} {f:u->Bool}:eG false [.list (Y.map λx=>.bool (f x))]=some (.bool (Y.all f)):=by
 show Option.map _ (cO _)=_
 rw [wy (any:=false)];simp [List.all_map]
section
variable {Γ Γ1 Γ2:Ev} {fa fb fc:F1} {fl:FL} {p q:PV} {ps:List PV} {d e:D} {s s' s2:Sh} {i j n:Nat}
theorem aw (h:Γ[i]?=some (Nx d)):ae i Γ=.ok ⟨.leaf,d⟩ Γ:=by unfold ae;rw [h]
theorem E9 (h:Γ[i]?=some (some ⟨.lst s,d⟩)):ae i Γ=.ok ⟨.view,d⟩ Γ:=by unfold ae;rw [h]
theorem Ex (h:Γ[i]?=some (some p)):bX i Γ=.ok p (Γ.set i none):=by unfold bX;rw [h]
theorem aO:eK d Γ=.ok ⟨.leaf,d⟩ Γ:=rfl
theorem aA {g:D->D->Option D} (U:fa Γ=.ok p Γ1) (Z:fb Γ1=.ok q Γ2) (E:g p.d q.d=some d):ar g fa fb Γ=.ok ⟨.leaf,d⟩ Γ2:=by
 unfold ar aY;rw [U];simp only [Out.bind];rw [Z];simp only [E]
theorem az (U:fa Γ=.ok p Γ1) (N:fl Γ1=.ok ps Γ2):ab fa fl Γ=.ok (p::ps) Γ2:=by
 unfold ab;rw [U];simp only [Out.bind];rw [N]
theorem aj:af Γ=.ok [] Γ:=rfl
theorem b4 {g:List D->Option D} (N:fl Γ=.ok ps Γ1) (E:g (ps.map (·.d))=some d):bb g fl Γ=.ok ⟨.leaf,d⟩ Γ1:=by
 unfold bb;rw [N];simp only [Out.bind];rw [E]
theorem cv {u:List D->bA} (N:fl Γ=.ok ps Γ1) (F:u (ps.map (·.d))=.ok p) (y:ps.length=n) (J:ps.all (coer .leaf)=true):ag n u fl Γ=.ok p Γ1:=by
 unfold ag;rw [N];simp only [Out.bind,y,F,J,if_true]
theorem xy {ds:List D} {k:Int} (U:fa Γ=.ok ⟨s,.list ds⟩ Γ1) (Z:fb Γ1=.ok ⟨s',.int k⟩ Γ2) (l:fG ds.length k=some j) (F:ds[j]?=some d) (Y:bT s j d=some s2):ah fa fb Γ=.ok ⟨s2,d⟩ Γ2:=by
 unfold ah aY;rw [U];simp only [Out.bind];rw [Z];simp only [l,F,Y]
theorem eX {ds:List D} {k:Int} (U:fa Γ=.ok ⟨s,.tuple ds⟩ Γ1) (Z:fb Γ1=.ok ⟨s',.int k⟩ Γ2) (l:fG ds.length k=some j) (F:ds[j]?=some d) (Y:bT s j d=some s2):ah fa fb Γ=.ok ⟨s2,d⟩ Γ2:=by
 unfold ah aY;rw [U];simp only [Out.bind];rw [Z];simp only [l,F,Y]
theorem A6 {x:Str} {k:Int} {c:Nat} (U:fa Γ=.ok ⟨s,.str x⟩ Γ1) (Z:fb Γ1=.ok ⟨s',.int k⟩ Γ2) (y:x.length<=sizeLine) (l:gu x.cps.toList k=some c):ah fa fb Γ=.ok ⟨.leaf,.str ⟨#[c]⟩⟩ Γ2:=by
 unfold ah aY;rw [U];simp only [Out.bind];rw [Z];simp only [l,y,if_true]
theorem pY (N:fl Γ=.ok ps Γ1) (Y:s.isView=false) (J:ps.all (coer s)=true) (y:decide (ps.length<=1000)=true):aW s fl Γ=.ok ⟨.lst s,.list (ps.map (·.d))⟩ Γ1:=by
 have C:ps.length<=sizeLine:=Nat.le_trans (of_decide_eq_true y) EJ
 unfold aW;rw [N];simp only [Out.bind,Y,J,decide_eq_true C,Bool.not_false,Bool.and_self,if_true]
theorem cJ (N:fl Γ=.ok ps Γ1) (J:ps.all tok=true) (y:decide (ps.length<=1000)=true):bz fl Γ=.ok ⟨.tup (ps.map A9),.tuple (ps.map (·.d))⟩ Γ1:=by
 have C:ps.length<=sizeLine:=Nat.le_trans (of_decide_eq_true y) EJ
 unfold bz;rw [N];simp only [Out.bind,J,decide_eq_true C,Bool.and_self,if_true]
theorem II {N:List D} (U:fa Γ=.ok ⟨s,.list N⟩ Γ1) (K:aH ⟨s,.list N⟩ N=true):bO fa Γ=.ok ⟨.lst .leaf,.list N⟩ Γ1:=by
 unfold bO aY;rw [U];simp only [Out.bind,K,if_true]
theorem v_and {a b:Bool} (U:fa Γ=.ok ⟨s,.bool a⟩ Γ) (Z:fb Γ=.ok ⟨.leaf,.bool b⟩ Γ):e7 fa fb Γ=.ok ⟨.leaf,.bool (a&&b)⟩ Γ:=by
 unfold e7 aY;rw [U];simp only [Out.bind]
 cases a with
 | false=>rfl
 | true=>exact Z
theorem qf {g g':D->D->Option D} {b b':Bool} (U:fa Γ=.ok p Γ) (Z:fb Γ=.ok q Γ) (E:g p.d q.d=some (.bool b)) (Y:bD q.d=true) {z:PV} (J:fc Γ=.ok z Γ) (B:g' q.d z.d=some (.bool b')):dt g g' fa fb fc Γ=.ok ⟨.leaf,.bool (b&&b')⟩ Γ:=by
 unfold dt aY;rw [U];simp only [Out.bind];rw [Z];simp only [E]
 cases b with
 | false=>rfl
 | true=>simp only [Y,if_true,J,B,Bool.true_and]
theorem cH (U:fa Γ=.ok ⟨s,.bool b⟩ Γ1):aM ai fa Γ=.ok b Γ1:=by unfold aM;rw [U];rfl
theorem kN (U:fa Γ=.ok ⟨s,.bool b⟩ Γ1):aM cF fa Γ=.ok b Γ1:=by unfold aM;rw [U];rfl
theorem kO {c:FB} {b:Bool} (h:c Γ=.ok b Γ1):eO c Γ=.ok (!b) Γ1:=by unfold eO;rw [h];rfl
theorem AH {c f:FB} {a b:Bool} (U:c Γ=.ok a Γ) (Z:f Γ=.ok b Γ):gq c f Γ=.ok (a&&b) Γ:=by
 unfold gq;rw [U];simp only [Out.bind]
 cases a with
 | false=>rfl
 | true=>exact Z
theorem d8 {c f:FB} {a b:Bool} (U:c Γ=.ok a Γ) (Z:f Γ=.ok b Γ):gp c f Γ=.ok (a||b) Γ:=by
 unfold gp;rw [U];simp only [Out.bind]
 cases a with
 | false=>exact Z
 | true=>rfl
theorem dB {N:List D} (U:fa Γ=.ok ⟨s,.list N⟩ Γ1) (K:aH ⟨s,.list N⟩ N=true):aU fa Γ=.ok ⟨N,!s.isView⟩ Γ1:=by
 unfold aU;rw [U];simp only [Out.bind,K,if_true]
theorem se {k:Int} (N:fl Γ=.ok ps Γ1) (g:ps.map (·.d)=[.int k]) (l:-1000<=k) (R:k<=100000):d6 fl Γ=.ok ⟨bS 0 k.toNat,true⟩ Γ1:=by
 have a:de k=true:=by unfold de;simp only [Bool.and_eq_true,decide_eq_true_eq];omega
 unfold d6;rw [N];simp only [Out.bind,g,jq,a,if_true]
theorem Kp {k m:Int} (N:fl Γ=.ok ps Γ1) (g:ps.map (·.d)=[.int k,.int m]) (l:-1000<=k) (R:k<=100000) (C:-1000<=m) (f:m<=100000):y0 fl Γ=.ok ⟨bS k (m-k).toNat,true⟩ Γ1:=by
 have a:de k=true:=by unfold de;simp only [Bool.and_eq_true,decide_eq_true_eq];omega
 have F:de m=true:=by unfold de;simp only [Bool.and_eq_true,decide_eq_true_eq];omega
 unfold y0;rw [N];simp only [Out.bind,g,sL,a,F,Bool.and_self,if_true]
theorem ay {v F:FS} {o:d9} (R:v Γ=.nx Γ1) (C:F Γ1=o):ak v F Γ=o:=by unfold ak;rw [R];exact C
theorem ur {v F:FS} (R:v Γ=.rt p):ak v F Γ=.rt p:=by unfold ak;rw [R]
theorem bJ {c:FB} {a b:FS} {t:Bool} {o:d9} (J:c Γ=.ok t Γ1) (L:t=true->a Γ1=o) (m:t=false->b Γ1=o):b8 c a b Γ=o:=by
 unfold b8;rw [J]
 cases t with
 | true=>exact L rfl
 | false=>exact m rfl
theorem aX (h:fa Γ=.ok p Γ1) (Y:p.s.isView=false):aE fa Γ=.rt p:=by
 unfold aE jo;rw [h];simp only [Y];rfl
theorem dJ (h:fa Γ=.ok p Γ1) (J:coer .leaf p=true) (l:i<Γ1.length):ax false i fa Γ=.nx (Γ1.set i (Nx p.d)):=by
 unfold ax jo;rw [h];simp only [l,if_true,J,Bool.false_and];rfl
theorem DS (h:fa Γ=.ok p Γ1) (Y:p.s.isView=false) (l:i<Γ1.length):ax true i fa Γ=.nx (Γ1.set i (some p)):=by
 unfold ax jo;rw [h];simp only [l,if_true,Y,Bool.true_and,Bool.not_false]
theorem ER {ds:List D} (K:Γ[i]?=some (some ⟨.lst s,.list ds⟩)) (h:fa Γ=.ok p Γ) (J:coer s p=true) (y:ds.length<=900):aF i fa Γ=.nx (Γ.set i (some ⟨.lst s,.list (ds++[p.d])⟩)):=by
 have C:ds.length<sizeLine:=Nat.lt_of_lt_of_le (by omega:ds.length<1000) EJ
 unfold aF gE;rw [K];simp only [if_true];unfold jo;rw [h];simp only;unfold zF;rw [K];simp only [J,decide_eq_true C,Bool.and_self,if_true]
theorem EX {g:FS} {o:d9} (h:Γ[i]?=some (some p)) (E:g (Γ.set i (Nx p.d))=o):mP i g Γ=o:=by unfold mP;rw [h];exact E
theorem gN {A:FI} {C:FS} {N:List D} {o:d9} (h:A Γ=.ok ⟨N,true⟩ Γ1) (E:cu i C N Γ1=o):dn i A C Γ=o:=by unfold dn;rw [h];exact E
end
end T
namespace KC
open PySem PySem.Spec L2 T
open PyProof.Rows hiding St
noncomputable def b7:Nw:=.tuple [.str "a",.str "b",.str "c",.str "d",.str "e",.str "f"]
noncomputable def cw:Nw:=.tuple [.int 0,.int 1]
noncomputable def dP:Nw:=.int 24
noncomputable def lD:Nw:=.int 200
noncomputable def lE:Nw:=.int 24
noncomputable def iU:Nw:=.tuple [.str "some until",.str "all until"]
noncomputable def nM:Nw:=.tuple [.str "some always",.str "all always"]
noncomputable def eE:Nw:=.tuple [.str "some next",.str "some until",.str "all always"]
noncomputable def qh:List (Str×Int):=[("yes",0),("not",1),("some next",1),("all next",1),("some always",1),("all always",1),("and",2),("or",2),("some until",2),("all until",2)]
noncomputable def nX:FS:=(aE (bb (eG false) (ab (aq .leaf 1 (y0 (ab (eK (.int 1)) (ab (bb aQ (ab (ae 0) af)) af))) aK (ar me (ah (ae 0) (ar gSub (ae 1) (eK (.int 1)))) (ah (ae 0) (ae 1)))) af)))
noncomputable def cW:List Nw->bA:=aB 2 nX
noncomputable def oh:FS:=(aE (e7 (bb (eG false) (ab (aq .leaf 1 (aU (ae 0)) aK (ar (bx false) (ae 1) (eK b7))) af)) (ag 1 cW (ab (ae 0) af))))
noncomputable def cY:List Nw->bA:=aB 2 oh
noncomputable def og:FS:=(aE (e7 (bb (eG false) (ab (aq .leaf 2 (aU (ae 0)) aK (dt Ej me (eK (.int 0)) (ae 2) (ae 1))) af)) (ag 1 cW (ab (ae 0) af))))
noncomputable def eB:List Nw->bA:=aB 3 og
noncomputable def oe:FS:=(aE (e7 (ar jf (bb aQ (ab (ae 0) af)) (eK (.int 0))) (ag 2 eB (ab (ae 0) (ab (ae 1) af)))))
noncomputable def cX:List Nw->bA:=aB 2 oe
noncomputable def pL:FS:=(ak (ax false 3 (bb aQ (ab (ae 0) af)))
  (ak (b8 (gp (aM ai (ar me (ae 3) (eK (.int 1)))) (gp (aM ai (ar jf (ae 3) (eK dP))) (gp (aM ai (ar gy (bb aQ (ab (ae 1) af)) (ae 3))) (aM ai (ar gy (bb aQ (ab (ae 2) af)) (ae 3)))))) (aE (eK (.bool false))) aJ)
  (ak (b8 (eO (aM cF (bb (eG false) (ab (aq .leaf 4 (aU (ae 0)) aK (ar (bx false) (ae 4) (eK cw))) af)))) (aE (eK (.bool false))) aJ)
  (aE (e7 (bb (eG false) (ab (aq .leaf 5 (aU (ae 1)) aK (ag 1 cY (ab (ae 5) af))) af)) (bb (eG false) (ab (aq .leaf 5 (aU (ae 2)) aK (ag 2 cX (ab (ae 5) (ab (ae 3) af)))) af)))))))
noncomputable def dO:List Nw->bA:=aB 6 pL
noncomputable def jO:FS:=(b8 (eO (aM cF (ag 3 dO (ab (ah (ae 0) (eK (.int 0))) (ab (ah (ae 0) (eK (.int 1))) (ab (ah (ae 0) (eK (.int 2))) af)))))) FM aJ)
noncomputable def bf:List Nw->bA:=aB 1 jO
noncomputable def pK:FS:=(aE (oG (aM ai (ar bp (ah (ae 0) (eK (.int 0))) (eK (.str "mark")))) (bz af) (pE (ae 0) (eK (.int 1)))))
noncomputable def iR:List Nw->bA:=aB 1 pK
noncomputable def nY:FS:=(ak (b8 (gp (eO (aM cF (i5 "tuple" (ae 0)))) (gp (aM ai (ar bp (bb aQ (ab (ae 0) af)) (eK (.int 0)))) (eO (aM cF (i5 "str" (ah (ae 0) (eK (.int 0)))))))) (aE (eK (.bool false))) aJ)
  (ak (b8 (aM ai (ar bp (ah (ae 0) (eK (.int 0))) (eK (.str "mark")))) (aE (e7 (ar bp (bb aQ (ab (ae 0) af)) (eK (.int 2))) (ar (bx false) (ah (ae 0) (eK (.int 1))) (eK b7)))) aJ)
  (aE (e7 (LL false qh (ah (ae 0) (eK (.int 0)))) (ar bp (bb aQ (ab (ae 0) af)) (ar aI (eK (.int 1)) (Hh qh (ah (ae 0) (eK (.int 0))))))))))
noncomputable def nH:List Nw->bA:=aB 1 nY
noncomputable def i7:FS:=(ak (ax true 1 (aW .leaf af))
  (ak (dn 2 (aU (ae 0))
  (KP 1 (ag 1 iR (ab (ae 2) af))))
  (aE (bX 1))))
noncomputable def iQ:List Nw->bA:=aB 3 i7
noncomputable def nW:FS:=(ak (ax true 1 (aW .leaf af))
  (ak (ax false 2 (aW .leaf (ab (ae 0) af)))
  (ak (ax false 3 (eK (.int 0)))
  (ak (oU 1000 (aM cF (ae 2))
  (ak (Ac 3 (bb aQ (ab (ae 2) af)))
  (ak (b8 (gp (aM ai (ar jf (ae 3) (eK lD))) (gp (aM ai (ar bp (bb aQ (ab (ae 1) af)) (eK lE))) (eO (aM cF (bb (eG false) (ab (aq .leaf 4 (aU (ae 2)) aK (ag 1 nH (ab (ae 4) af))) af)))))) (aE (eK .none)) aJ)
  (ak (aF 1 (ae 2))
  (ax false 2 (ag 1 iQ (ab (ae 2) af)))))))
  (aE (bX 1))))))
noncomputable def nF:List Nw->bA:=aB 5 nW
noncomputable def gG:FS:=(ak (ax false 1 (ag 1 nF (ab (ae 0) af)))
  (ak (b8 (aM ai (ar (fA false) (ae 1) (eK .none))) FM aJ)
  (aE (ae 1))))
noncomputable def gC:List Nw->bA:=aB 2 gG
noncomputable def gH:FS:=(dE (ag 1 gC (ab (ae 0) af)))
noncomputable def gD:List Nw->bA:=aB 1 gH
noncomputable def jM:FS:=(aE (aq .leaf 2 (d6 (ab (bb aQ (ab (ah (ae 0) (eK (.int 0))) af)) af)) (aM ai (ar (bx true) (ae 2) (ae 1))) (ae 2)))
noncomputable def jD:List Nw->bA:=aB 3 jM
noncomputable def wN:FS:=(aE (oG (aM cF (ae 0)) (bb (eG true) (ab (ae 1) af)) (bb (eG false) (ab (ae 1) af))))
noncomputable def nG:List Nw->bA:=aB 2 wN
noncomputable def fD:FS:=(ak (b8 (aM ai (ar (bx false) (ah (ae 1) (eK (.int 0))) (eK iU))) (aE (bz (ab (ah (ae 2) (eK (.int 0))) (ab (ah (ae 2) (eK (.int 1))) af)))) aJ)
  (aE (bz (ab (zl (ab (bb aQ (ab (ah (ae 0) (eK (.int 0))) af)) af)) (ab (ag 2 jD (ab (ae 0) (ab (ah (ae 2) (eK (.int 0))) af))) af)))))
noncomputable def fy:List Nw->bA:=aB 3 fD
noncomputable def jK:FS:=(ak (ax true 4 (aW .leaf af))
  (ak (dn 5 (aU (ae 2))
  (b8 (gq (aM ai (ar (fA false) (ah (ae 3) (ae 5)) (eK .none))) (aM cF (ag 2 nG (ab (ah (ae 1) (ae 5)) (ab (aq .leaf 6 (aU (ah (ah (ae 0) (eK (.int 2))) (ae 5))) aK (ar (fA true) (ah (ae 3) (ae 6)) (eK .none))) af))))) (aF 4 (ae 5)) aJ))
  (aE (bX 4))))
noncomputable def jC:List Nw->bA:=aB 7 jK
noncomputable def pI:FS:=(ak (ax true 4 (aq .leaf 8 (aU (ah (ae 0) (eK (.int 0)))) aK (eK .none)))
  (ak (ax false 5 (eK (.int 0)))
  (ak (ax false 6 (ae 3))
  (ak (oU 1000 (aM cF (ae 6))
  (ak (dn 7 (aU (ae 6))
  (FK 4 (ae 5) (ae 7)))
  (ak (Ac 5 (eK (.int 1)))
  (ax false 6 (Dj 4 jC (ab (ae 0) (ab (ae 1) (ab (ae 2) (ab (ae 4) af)))))))))
  (aE (bX 4))))))
noncomputable def pb:List Nw->bA:=aB 9 pI
noncomputable def pJ:FS:=(ak (ax false 3 (ah (ae 1) (eK (.int 0))))
  (ak (b8 (gq (aM ai (ar (bx true) (ae 3) (eK iU))) (aM ai (ar (bx true) (ae 3) (eK nM)))) (aE (eK .none)) aJ)
  (ak (ax false 4 (ag 3 fy (ab (ae 0) (ab (ae 1) (ab (ae 2) af)))))
  (aE (ag 4 pb (ab (ae 0) (ab (aq .leaf 5 (aU (ah (ae 0) (eK (.int 0)))) aK (ar (bx false) (ae 3) (eK eE))) (ab (ah (ae 4) (eK (.int 0))) (ab (ah (ae 4) (eK (.int 1))) af)))))))))
noncomputable def pe:List Nw->bA:=aB 6 pJ
noncomputable def pM:FS:=(ak (ax false 5 (ah (ae 1) (eK (.int 0))))
  (ak (b8 (aM ai (ar bp (ae 5) (eK (.str "yes")))) (aE (eK (.bool true))) aJ)
  (ak (b8 (aM ai (ar bp (ae 5) (eK (.str "mark")))) (aE (ar (bx false) (ah (ae 1) (eK (.int 1))) (ah (ah (ae 0) (eK (.int 1))) (ae 4)))) aJ)
  (ak (b8 (aM ai (ar (bx false) (ae 5) (eK iU))) (aE (ar (fA true) (ah (ae 3) (ae 4)) (eK .none))) aJ)
  (ak (b8 (aM ai (ar (bx false) (ae 5) (eK nM))) (aE (ar (fA false) (ah (ae 3) (ae 4)) (eK .none))) aJ)
  (ak (ax false 6 (aq .leaf 7 (aU (ae 2)) aK (ar (bx false) (ae 4) (ae 7))))
  (ak (b8 (aM ai (ar bp (ae 5) (eK (.str "not")))) (aE (LJ (ah (ae 6) (eK (.int 0))))) aJ)
  (ak (b8 (gp (aM ai (ar bp (ae 5) (eK (.str "and")))) (aM ai (ar bp (ae 5) (eK (.str "or"))))) (aE (oG (aM ai (ar bp (ae 5) (eK (.str "and")))) (bb (eG false) (ab (ae 6) af)) (bb (eG true) (ab (ae 6) af)))) aJ)
  (aE (ag 2 nG (ab (ar (bx false) (ae 5) (eK eE)) (ab (aq .leaf 8 (aU (ah (ah (ae 0) (eK (.int 2))) (ae 4))) aK (ar (bx false) (ae 8) (ah (ae 2) (eK (.int 0))))) af))))))))))))
noncomputable def pf:List Nw->bA:=aB 9 pM
noncomputable def pH:FS:=(aE (aq .leaf 4 (d6 (ab (bb aQ (ab (ah (ae 0) (eK (.int 0))) af)) af)) (aM cF (ag 5 pf (ab (ae 0) (ab (ae 1) (ab (ae 2) (ab (ae 3) (ab (ae 4) af))))))) (ae 4)))
noncomputable def o9:List Nw->bA:=aB 5 pH
noncomputable def wM (a:List Nw->bA):FS:=(ak (ax false 2 (aq .leaf 3 (gY (ag 1 iR (ab (ae 1) af))) aK (ag 2 a (ab (ae 0) (ab (ae 3) af)))))
  (aE (ag 4 o9 (ab (ae 0) (ab (ae 1) (ab (ae 2) (ab (ag 3 pe (ab (ae 0) (ab (ae 1) (ab (ae 2) af)))) af)))))))
noncomputable def nA:Nat->List Nw->bA
 | 0=>λ_=>.no
 | n+1=>aB 4 (wM (nA n))
noncomputable def vS:List Nw->bA:=nA 30
noncomputable def zt:FS:=(ak (dE (ag 1 bf (ab (ae 0) af)))
  (ak (dE (ag 1 gD (ab (ae 1) af)))
  (aE (ag 2 vS (ab (ae 0) (ab (ae 1) af))))))
noncomputable def qT:List Nw->bA:=aB 2 zt
noncomputable def i8:FS:=(ak (b8 (aM ai (ar me (ae 1) (bb aQ (ab (ae 0) af)))) (aE (ah (ae 0) (ae 1))) aJ)
  (aE (eK (.int 0))))
noncomputable def aC:List Nw->bA:=aB 2 i8
noncomputable def om:FS:=(ak (b8 (aM ai (ar pA (ae 0) (ar zd (eK (.int 10)) (eK (.int 18))))) (ak (ax false 4 (ae 0))
  (ak (dn 5 (d6 (ab (ae 1) af))
  (ax false 4 (ar h9 (ae 4) (ae 2))))
  (aE (ar cG (ae 4) (ae 2))))) aJ)
  (ak (ax false 3 (ar cG (ar nP (ar aI (ar aI (ar cG (ae 0) (eK (.int 1000000007))) (ar nP (eK (.int 1009)) (ae 1))) (eK (.int 17))) (eK (.int 69621))) (eK (.int 2147483647))))
  (ak (ax false 3 (ar cG (ar aI (ar aI (ar nP (ae 3) (ae 3)) (ar nP (eK (.int 40503)) (ae 1))) (eK (.int 5))) (eK (.int 2147483629))))
  (aE (ar cG (ar h9 (ar cG (ar nP (ae 3) (eK (.int 48271))) (eK (.int 2147483647))) (eK (.int 32))) (ae 2))))))
noncomputable def ao:List Nw->bA:=aB 6 om
noncomputable def d__law_world:FS:=(ak (ax false 3 (ar aI (eK (.int 1)) (ar cG (ag 2 aC (ab (ae 0) (ab (ae 1) af))) (ae 2))))
  (ak (ax true 4 (aW .leaf af))
  (ak (ax true 5 (aW .leaf af))
  (ak (ax true 6 (aW .leaf af))
  (ak (dn 7 (d6 (ab (ae 3) af))
  (ak (ax false 8 (ag 2 aC (ab (ae 0) (ab (ar aI (ar aI (ae 1) (eK (.int 1))) (ae 7)) af))))
  (ak (aF 4 (ag 3 ao (ab (ae 8) (ab (eK (.int 0)) (ab (eK (.int 2)) af)))))
  (ak (aF 5 (aq .leaf 11 (d6 (ab (eK (.int 3)) af)) (aM ai (ar bp (ag 3 ao (ab (ae 8) (ab (ar aI (eK (.int 1)) (ae 11)) (ab (eK (.int 2)) af)))) (eK (.int 1)))) (ah (eK (.str "abc")) (ae 11))))
  (ak (ax false 9 (aq .leaf 10 (d6 (ab (ae 3) af)) (aM ai (ar bp (ag 3 ao (ab (ae 8) (ab (ar aI (eK (.int 4)) (ae 10)) (ab (ar aI (eK (.int 2)) (bb gF (ab (ar jf (ae 3) (eK (.int 3))) af))) af)))) (eK (.int 1)))) (ae 10)))
  (ak (b8 (aM ai (ar bp (ae 9) (aW .leaf af))) (ax false 9 (aW .leaf (ab (ag 3 ao (ab (ae 8) (ab (ar aI (eK (.int 4)) (ae 3)) (ab (ae 3) af)))) af))) aJ)
  (aF 6 (ae 9))))))))
  (aE (bz (ab (bX 4) (ab (bX 5) (ab (bX 6) af))))))))))
noncomputable def m__law_world:List Nw->bA:=aB 12 d__law_world
noncomputable def ik:FS:=(ak (ax false 3 (aW .leaf (ab (eK (.str "mark")) (ab (eK (.str "mark")) (ab (eK (.str "not")) (ab (eK (.str "and")) (ab (eK (.str "some until")) (ab (eK (.str "all until")) (ab (eK (.str "some next")) (ab (eK (.str "all next")) (ab (eK (.str "some always")) af)))))))))))
  (ak (ax false 3 (lK (ae 3) (aW .leaf (ab (eK (.str "all always")) (ab (eK (.str "or")) (ab (eK (.str "yes")) af))))))
  (ak (ax true 4 (aW .leaf (ab (bz (ab (eK (.str "mark")) (ab (ah (eK (.str "abc")) (ag 3 ao (ab (ag 2 aC (ab (ae 0) (ab (ae 1) af))) (ab (eK (.int 3)) (ab (eK (.int 3)) af))))) af))) af)))
  (ak (dn 5 (y0 (ab (eK (.int 1)) (ab (ae 2) af)))
  (ak (ax false 6 (ag 2 aC (ab (ae 0) (ab (ar aI (ae 1) (ae 5)) af))))
  (ak (ax false 7 (ah (ae 3) (ag 3 ao (ab (ae 6) (ab (eK (.int 0)) (ab (eK (.int 12)) af))))))
  (ak (ax false 8 (wH 4 (ar gSub (eU G6 (eK (.int 1))) (ar cG (ag 3 ao (ab (ae 6) (ab (eK (.int 1)) (ab (eK (.int 2)) af)))) (bb aQ (ab (ae 4) af))))))
  (ak (ax false 9 (wH 4 (ar cG (ag 3 ao (ab (ae 6) (ab (eK (.int 2)) (ab (eK (.int 60)) af)))) (bb aQ (ab (ae 4) af)))))
  (b8 (aM ai (ar bp (ae 7) (eK (.str "yes")))) (aF 4 (bz (ab (eK (.str "yes")) af))) (b8 (aM ai (ar bp (ae 7) (eK (.str "mark")))) (aF 4 (bz (ab (eK (.str "mark")) (ab (ah (eK (.str "abc")) (ag 3 ao (ab (ae 6) (ab (eK (.int 3)) (ab (eK (.int 3)) af))))) af)))) (b8 (aM ai (ar (bx false) (ae 7) (bz (ab (eK (.str "and")) (ab (eK (.str "or")) (ab (eK (.str "some until")) (ab (eK (.str "all until")) af))))))) (aF 4 (bz (ab (ae 7) (ab (ae 9) (ab (ae 8) af))))) (aF 4 (bz (ab (ae 7) (ab (ae 8) af))))))))))))
  (aE (wH 4 (eU G6 (eK (.int 1)))))))))
noncomputable def g9:List Nw->bA:=aB 10 ik
noncomputable def lU (a:List Nw->bA):FS:=(aE (ar aI (eK (.int 1)) (bb Lw (ab (aq .leaf 1 (gY (pE (ae 0) (eK (.int 1)))) (aM cF (i5 "tuple" (ae 1))) (ag 1 a (ab (ae 1) af))) af))))
noncomputable def fX:Nat->List Nw->bA
 | 0=>λ_=>.no
 | n+1=>aB 2 (lU (fX n))
noncomputable def lC:List Nw->bA:=fX 20
open PySem.SeqAt
noncomputable def Cy (a b:D):Bool:=match me a b with
 | some (.bool t)=>t
 | _=>false
noncomputable def gJ (N:List D):Prop:=∀a∈N,∃n,a=.int n
noncomputable def iq (N:List D):Prop:=∀a∈N,∃x,a=.str x/\PyData.strOk x=true
noncomputable def Row (N:List D):Prop:=gJ N\/iq N
theorem AS (i:Int):shaped (.int i)=true:=by simp [shaped,PyData.canLay0,PyData.depth]
theorem DZ {x:Str} (h:PyData.strOk x=true):shaped (.str x)=true:=by simp [shaped,PyData.canLay0,PyData.depth,h]
theorem Row.lt {N:List D} {a b:D} (h:Row N) (U:a∈N) (Z:b∈N):me a b=some (.bool (Cy a b))/\pA a b=some (.bool (!Cy a b)):=by
 rcases h with h | h
 ·obtain ⟨n,rfl⟩:=h a U
  obtain ⟨m,rfl⟩:=h b Z;refine ⟨rfl,?_⟩
  show some (PyData.bool (decide (m<=n)))=some (.bool (!decide (n<m)))
  congr 2
  by_cases q:n<m
  ·simp [q,Int.not_le.mpr q]
  ·simp [q,Int.not_lt.mp q]
 ·obtain ⟨n,rfl,_⟩:=h a U
  obtain ⟨m,rfl,_⟩:=h b Z;exact ⟨rfl,rfl⟩
noncomputable def An (N:List D) (d:D):Bool:=match d with
 | .int j=>Cy (N.getD (j-1).toNat .none) (N.getD j.toNat .none)
 | _=>false
noncomputable def fh (N:List D):Bool:=(bS 1 ((N.length:Int)-1).toNat).all (An N)
theorem zR {r:Int} {n:Nat} {d:D} (h:d∈bS r n):∃k:Nat,k<n/\d=.int (r+k):=by
 unfold bS at h;simp only [mem_map,mem_range] at h
 obtain ⟨k,O,e⟩:=h;exact ⟨k,O,e.symm⟩
theorem D1 {r:Int} {n:Nat}:(bS r n).length=n:=by unfold bS;simp
theorem JF {n:Nat} {k:Nat} (h:k<n):fG n (k:Int)=some k:=by
 unfold fG;rw [if_pos (by omega),if_pos (by omega)]
 simp
theorem GT {n:Nat} {i:Int} (l:0<=i) (R:i<n):fG n i=some i.toNat:=by
 unfold fG;rw [if_pos l,if_pos R]
theorem CN {i:Int} (l:-1000<=i) (R:i<=100000):de i=true:=by
 unfold de;simp only [Bool.and_eq_true,decide_eq_true_eq]
 omega
theorem Ia {N:List D} {k:Nat} (h:k<N.length):N[k]?=some (N.getD k .none):=by
 rw [Nm,Nl h];rfl
theorem getD_mem {N:List D} {k:Nat} (h:k<N.length):N.getD k .none∈N:=mem_of_getElem? (Ia h)
theorem GL {N:List D} {k:Nat} (h:Row N) (O:k<((N.length:Int)-1).toNat):fG N.length (1+(k:Int)-1)=some k/\fG N.length (1+(k:Int))=some (k+1)/\N[k]?=some (N.getD k .none)/\N[k+1]?=some (N.getD (k+1) .none) /\
  me (N.getD k .none) (N.getD (k+1) .none)=some (.bool (An N (.int (1+(k:Int)))))/\pA (N.getD k .none) (N.getD (k+1) .none)=some (.bool (!An N (.int (1+(k:Int))))):=by
 have R:k<N.length:=by omega
 have C:k+1<N.length:=by omega
 have l:=h.lt (getD_mem R) (getD_mem C)
 have M:An N (.int (1+(k:Int)))=Cy (N.getD k .none) (N.getD (k+1) .none):=by
  unfold An;dsimp only;rw [show (1+(k:Int)-1).toNat=k by omega,show (1+(k:Int)).toNat=k+1 by omega]
 rw [M];exact ⟨by rw [show (1+(k:Int)-1)=k by omega];exact JF R,by rw [show (1+(k:Int))=((k+1:Nat):Int) by omega];exact JF C,Ia R,Ia C,l.1,l.2⟩
theorem aV {n:Nat} {g:FS} {N:List D} {p:PV} (h:g (aN n N)=.rt p):aB n g N=.ok p:=by unfold aB;rw [h]
theorem eq_int {a b:Int}:bp (.int a) (.int b)=some (.bool (a==b)):=by
 unfold bp;rw [AS,AS,Bool.and_self,if_pos rfl,PyData.eqv]
theorem fq {N:List D} (h:Row N) (e:N.length<=100):cW [.list N]=.ok ⟨.leaf,.bool (fh N)⟩:=by
 have J:aq .leaf 1 (y0 (ab (eK (.int 1)) (ab (bb aQ (ab (ae 0) af)) af))) aK (ar me (ah (ae 0) (ar gSub (ae 1) (eK (.int 1)))) (ah (ae 0) (ae 1))) [Nx (.list N),none] =
   .ok ⟨.lst .leaf,.list ((bS 1 ((N.length:Int)-1).toNat).map λd=>.bool (An N d))⟩ [Nx (.list N),none]:=by
  refine D9 (f:=λd=>⟨.leaf,.bool (An N d)⟩) (st:=true) (Kp (k:=1) (m:=(N.length:Int)) (az aO (az (b4 (az (aw rfl) aj) rfl) aj)) rfl (by omega) (by omega) (by omega) (by omega)) (by simp) rfl (by rw [D1];omega) λd F=>⟨?_,rfl⟩
  obtain ⟨k,O,rfl⟩:=zR F;obtain ⟨B,c,M,R,a,b⟩:=GL h O;exact aA (xy (aw rfl) (aA (aw rfl) aO rfl) B M rfl) (xy (aw rfl) (aw rfl) c R rfl) a
 exact aV (aX (b4 (az J aj) D4) rfl)
noncomputable def pw (a:D):Bool:=[PyData.str "a",.str "b",.str "c",.str "d",.str "e",.str "f"].any λy=>PyData.eqv y a
noncomputable def GY (a:D):Bool:=[PyData.int 0,.int 1].any λy=>PyData.eqv y a
noncomputable def inR (n:Int) (a:D):Bool:=match a with
 | .int i=>decide (0<=i)&&decide (i<n)
 | _=>false
noncomputable def Cw (d:D):Bool:=match d with
 | .list Y=>Y.all pw&&fh Y
 | _=>false
noncomputable def IV (n:Int) (d:D):Bool:=match d with
 | .list Y=>decide (0<Y.length)&&(Y.all (inR n)&&fh Y)
 | _=>false
theorem Bm:shaped b7=true:=by decide +kernel
theorem xX:shaped (.list [.str "a",.str "b",.str "c",.str "d",.str "e",.str "f"])=true:=by decide +kernel
theorem Fw:shaped cw=true:=by decide +kernel
theorem CO {x:Str} (G:PyData.strOk x=true):bx false (.str x) b7=some (.bool (pw (.str x))):=by
 unfold bx b7;have:=Bm
 unfold b7 at this;simp only [DZ G,this,Bool.and_self,if_true]
 rfl
theorem yZ {x:Str} (G:PyData.strOk x=true):bx false (.str x) (.list [.str "a",.str "b",.str "c",.str "d",.str "e",.str "f"])=some (.bool (pw (.str x))):=by
 unfold bx;simp only [DZ G,xX,Bool.and_self,if_true]
 rfl
theorem GX {i:Int}:bx false (.int i) cw=some (.bool (GY (.int i))):=by
 unfold bx cw;have:=Fw
 unfold cw at this;simp only [AS,this,Bool.and_self,if_true]
 rfl
theorem jJ {N:List D} (h:iq N) (a:N.length<=100):cY [.list N]=.ok ⟨.leaf,.bool (N.all pw&&fh N)⟩:=by
 have J:aq .leaf 1 (aU (ae 0)) aK (ar (bx false) (ae 1) (eK b7)) [Nx (.list N),none]=.ok ⟨.lst .leaf,.list (N.map λd=>.bool (pw d))⟩ [Nx (.list N),none]:=by
  refine D9 (f:=λd=>⟨.leaf,.bool (pw d)⟩) (dB (aw rfl) rfl) (by simp) rfl (by omega) λd F=>⟨?_,rfl⟩
  obtain ⟨x,rfl,G⟩:=h d F;exact aA (aw rfl) aO (CO G)
 exact aV (aX (v_and (b4 (az J aj) D4) (cv (az (aw rfl) aj) (fq (.inr h) a) rfl rfl)) rfl)
theorem chain_ev {i n:Int}:Ej (.int 0) (.int i)=some (.bool (decide (0<=i)))/\me (.int i) (.int n)=some (.bool (decide (i<n))):=⟨rfl,rfl⟩
theorem jI {N:List D} {n:Int} (h:gJ N) (a:N.length<=100):eB [.list N,.int n]=.ok ⟨.leaf,.bool (N.all (inR n)&&fh N)⟩:=by
 have J:aq .leaf 2 (aU (ae 0)) aK (dt Ej me (eK (.int 0)) (ae 2) (ae 1)) [Nx (.list N),Nx (.int n),none]=.ok ⟨.lst .leaf,.list (N.map λd=>.bool (inR n d))⟩ [Nx (.list N),Nx (.int n),none]:=by
  refine D9 (f:=λd=>⟨.leaf,.bool (inR n d)⟩) (dB (aw rfl) rfl) (by simp) rfl (by omega) λd F=>⟨?_,rfl⟩
  obtain ⟨i,rfl⟩:=h d F;exact qf aO (aw rfl) (chain_ev (n:=n)).1 rfl (aw rfl) chain_ev.2
 exact aV (aX (v_and (b4 (az J aj) D4) (cv (az (aw rfl) aj) (fq (.inl h) a) rfl rfl)) rfl)
theorem jH {N:List D} {n:Int} (h:gJ N) (a:N.length<=100):cX [.list N,.int n]=.ok ⟨.leaf,.bool (decide (0<N.length)&&(N.all (inR n)&&fh N))⟩:=by
 have e:jf (.int (N.length:Nat)) (.int 0)=some (.bool (decide (0<N.length))):=by
  show some (PyData.bool (decide ((0:Int)<(N.length:Int))))=_
  congr 2
  exact decide_eq_decide.mpr (by omega)
 exact aV (aX (v_and (aA (b4 (az (aw rfl) aj) rfl) aO e) (cv (az (aw rfl) (az (aw rfl) aj)) (jI h a) rfl rfl)) rfl)
structure Wk (b:Nat) (os ms ss:List D):Prop where
 o:gJ os
 m:∀r∈ms,∃xs,r=.list xs/\iq xs/\xs.length<=30
 s:∀r∈ss,∃xs,r=.list xs/\gJ xs/\xs.length<=30
 lo:os.length<=b
 lm:ms.length<=b
 ls:ss.length<=b
noncomputable def Jk (X o u:List D):Bool:=decide ((X.length:Int)<1)||(decide ((24:Int)<X.length)||((!((o.length:Int)==(X.length:Int)))||(!((u.length:Int)==(X.length:Int)))))
noncomputable def isW (X o u:List D):Bool:=!Jk X o u&&(X.all GY&&(o.all Cw&&u.all (IV X.length)))
theorem ne_int {a b:Int}:gy (.int a) (.int b)=some (.bool (!(a==b))):=by
 unfold gy;rw [AS,AS,Bool.and_self,if_pos rfl,PyData.eqv]
theorem lM {b:Nat} {X o u:List D} (h:Wk b X o u) (Z:b<=100):dO [.list X,.list o,.list u]=.ok ⟨.leaf,.bool (isW X o u)⟩:=by
 have r:=h.lo
 have g:=h.lm
 have k:=h.ls
 refine aV ?_
 refine ay (dJ (b4 (az (aw rfl) aj) rfl) rfl (by simp [aN])) ?_
 have e:(gp (aM ai (ar me (ae 3) (eK (.int 1)))) (gp (aM ai (ar jf (ae 3) (eK dP))) (gp (aM ai (ar gy (bb aQ (ab (ae 1) af)) (ae 3))) (aM ai (ar gy (bb aQ (ab (ae 2) af)) (ae 3)))))) [Nx (.list X),Nx (.list o),Nx (.list u),Nx (.int (X.length:Nat)),none,none]
   = .ok (Jk X o u) [Nx (.list X),Nx (.list o),Nx (.list u),Nx (.int (X.length:Nat)),none,none]:=
  d8 (cH (aA (aw rfl) aO rfl)) (d8 (cH (aA (aw rfl) aO rfl)) (d8 (cH (aA (b4 (az (aw rfl) aj) rfl) (aw rfl) ne_int)) (cH (aA (b4 (az (aw rfl) aj) rfl) (aw rfl) ne_int))))
 cases a:Jk X o u with
 | true=>
  rw [a] at e;unfold isW;rw [a];exact ur (bJ e (λ_=>aX aO rfl) nofun)
 | false=>
  rw [a] at e;refine ay (bJ e nofun (λ_=>rfl)) ?_
  have z:aq .leaf 4 (aU (ae 0)) aK (ar (bx false) (ae 4) (eK cw)) [Nx (.list X),Nx (.list o),Nx (.list u),Nx (.int (X.length:Nat)),none,none]
    = .ok ⟨.lst .leaf,.list (X.map λd=>.bool (GY d))⟩ [Nx (.list X),Nx (.list o),Nx (.list u),Nx (.int (X.length:Nat)),none,none]:=by
   refine D9 (f:=λd=>⟨.leaf,.bool (GY d)⟩) (dB (aw rfl) rfl) (by simp) rfl (by omega) λd F=>⟨?_,rfl⟩
   obtain ⟨i,rfl⟩:=h.o d F;exact aA (aw rfl) aO GX
  have c:aq .leaf 5 (aU (ae 1)) aK (ag 1 cY (ab (ae 5) af)) [Nx (.list X),Nx (.list o),Nx (.list u),Nx (.int (X.length:Nat)),none,none]
    = .ok ⟨.lst .leaf,.list (o.map λd=>.bool (Cw d))⟩ [Nx (.list X),Nx (.list o),Nx (.list u),Nx (.int (X.length:Nat)),none,none]:=by
   refine D9 (f:=λd=>⟨.leaf,.bool (Cw d)⟩) (dB (aw rfl) rfl) (by simp) rfl (by omega) λd F=>⟨?_,rfl⟩
   obtain ⟨Y,rfl,G,N⟩:=h.m d F;exact cv (az (aw rfl) aj) (jJ G (by omega)) rfl rfl
  have j:aq .leaf 5 (aU (ae 2)) aK (ag 2 cX (ab (ae 5) (ab (ae 3) af))) [Nx (.list X),Nx (.list o),Nx (.list u),Nx (.int (X.length:Nat)),none,none]
    = .ok ⟨.lst .leaf,.list (u.map λd=>.bool (IV X.length d))⟩ [Nx (.list X),Nx (.list o),Nx (.list u),Nx (.int (X.length:Nat)),none,none]:=by
   refine D9 (f:=λd=>⟨.leaf,.bool (IV X.length d)⟩) (dB (aw rfl) rfl) (by simp) rfl (by omega) λd F=>⟨?_,rfl⟩
   obtain ⟨Y,rfl,G,N⟩:=h.s d F;exact cv (az (aw rfl) (az (aw rfl) aj)) (jH G (by omega)) rfl rfl
  have t1:=kO (kN (b4 (az z aj) D4))
  cases K:X.all GY with
  | false=>
   rw [K] at t1;unfold isW;rw [K,Bool.false_and,Bool.and_false];exact ur (bJ t1 (λ_=>aX aO rfl) nofun)
  | true=>
   rw [K] at t1;refine ay (bJ t1 nofun (λ_=>rfl)) ?_
   unfold isW;rw [a,K,Bool.not_false,Bool.true_and,Bool.true_and];exact aX (v_and (b4 (az c aj) D4) (b4 (az j aj) D4)) rfl
theorem Dd {Y:List D} (h:shaped (.list Y)=true):bp (.list Y) (.list [])=some (.bool (decide (Y.length=0))):=by
 unfold bp;have C:shaped (.list [])=true:=by decide +kernel
 rw [h,C,Bool.and_self,if_pos rfl]
 cases Y with
 | nil=>rfl
 | cons a r=>rfl
theorem J5 {Y:List D} (h:gJ Y):shaped (.list Y)=true:=by
 have c:PyData.canLayAll0 Y=true/\PyData.depthAll Y=0:=by
  induction Y with
  | nil=>exact ⟨rfl,rfl⟩
  | cons a r f=>
   obtain ⟨n,rfl⟩:=h a mem_cons_self;have q:=f λx G=>h x (Nn _ G)
   simp [PyData.canLayAll0,PyData.canLay0,PyData.depthAll,PyData.depth,q.1,q.2]
 simp [shaped,PyData.canLay0,PyData.depth,c.1,c.2]
theorem xW {Y:List D} (h:iq Y):shaped (.list Y)=true:=by
 have c:PyData.canLayAll0 Y=true/\PyData.depthAll Y=0:=by
  induction Y with
  | nil=>exact ⟨rfl,rfl⟩
  | cons a r f=>
   obtain ⟨n,rfl,y⟩:=h a mem_cons_self;have q:=f λx G=>h x (Nn _ G)
   simp [PyData.canLayAll0,PyData.canLay0,PyData.depthAll,PyData.depth,q.1,q.2,y]
 simp [shaped,PyData.canLay0,PyData.depth,c.1,c.2]
theorem lt_int {a b:Int}:me (.int a) (.int b)=some (.bool (decide (a<b))):=rfl
theorem za {a b:Int}:pA (.int a) (.int b)=some (.bool (decide (b<=a))):=rfl
theorem pZ {a b:Int}:aI (.int a) (.int b)=some (.int (a+b)):=rfl
theorem fo {a b:Int} (h:0<b):cG (.int a) (.int b)=some (.int (a % b)):=by
 show (if zA a b then _ else _)=_
 rw [if_pos (by unfold zA;simpa using h)]
theorem nT {a b:Int} (h:0<b) (C:b<1073741824):h9 (.int a) (.int b)=some (.int (a / b)):=by
 show (if zB a b then _ else _)=_
 rw [if_pos (by unfold zB;simp [h,C])]
theorem Am {a b:Int} (h:-1000000000000<b) (C:b<1000000000000):nP (.int a) (.int b)=some (.int (a*b)):=by
 show (if uj a b then _ else _)=_
 rw [if_pos (by unfold uj;simp only [Bool.or_eq_true,Bool.and_eq_true,decide_eq_true_eq];right;omega)]
theorem vN {a b:Int} (h:-1000000000000<a) (C:a<1000000000000):nP (.int a) (.int b)=some (.int (a*b)):=by
 show (if uj a b then _ else _)=_
 rw [if_pos (by unfold uj;simp only [Bool.or_eq_true,Bool.and_eq_true,decide_eq_true_eq];left;omega)]
theorem Gm {b:Int} (h:0<=b) (C:b<=100):zd (.int 10) (.int b)=some (.int (10 ^ b.toNat)):=by
 show (if zy 10 b then _ else _)=_
 rw [if_pos (by unfold zy;simp only [Bool.and_eq_true,decide_eq_true_eq];exact ⟨⟨h,by omega⟩,by decide⟩)]
theorem Iu {Y:List D} (h:gJ Y) {k:Int} (O:0<=k):∃c,aC [.list Y,.int k]=.ok ⟨.leaf,.int c⟩:=by
 have t:aM ai (ar me (ae 1) (bb aQ (ab (ae 0) af))) [Nx (.list Y),Nx (.int k)]=.ok (decide (k<(Y.length:Int))) [Nx (.list Y),Nx (.int k)]:=
  cH (aA (aw rfl) (b4 (az (aw rfl) aj) rfl) lt_int)
 cases X:decide (k<(Y.length:Int)) with
 | true=>
  rw [X] at t;have N:=of_decide_eq_true X
  have a:k.toNat<Y.length:=by omega
  obtain ⟨c,J⟩:=h _ (getD_mem a);have g:=Ia a
  rw [J] at g;exact ⟨c,aV (ur (bJ t (λ_=>aX (xy (aw rfl) (aw rfl) (GT O N) g rfl) rfl) nofun))⟩
 | false=>
  rw [X] at t;exact ⟨0,aV (ay (bJ t nofun (λ_=>rfl)) (aX aO rfl))⟩
theorem nV {c k b:Int} (O:0<=k) (a:k<=1000) (Z:1<=b) (y:b<=1000):∃r,ao [.int c,.int k,.int b]=.ok ⟨.leaf,.int r⟩/\0<=r/\r<b:=by
 have t:aM ai (ar pA (ae 0) (ar zd (eK (.int 10)) (eK (.int 18)))) [Nx (.int c),Nx (.int k),Nx (.int b),none,none,none]=.ok (decide (10 ^ (18:Int).toNat<=c)) [Nx (.int c),Nx (.int k),Nx (.int b),none,none,none]:=
  cH (aA (aw rfl) (aA aO aO (Gm (by omega) (by omega))) za)
 cases f:decide (10 ^ (18:Int).toNat<=c) with
 | true=>
  rw [f] at t;obtain ⟨I,e,l,x,H⟩:=JS (P:=λ_ B=>∃l x,B=[Nx (.int c),Nx (.int k),Nx (.int b),none,Nx (.int l),x]) (i:=5) (body:=ax false 4 (ar h9 (ae 4) (ae 2))) (bS 0 k.toNat) 0
   [Nx (.int c),Nx (.int k),Nx (.int b),none,Nx (.int c),none] ⟨c,none,rfl⟩ (λm d B F _ _ ⟨l,x,H⟩=>by
    subst H;refine ⟨by simp,_,dJ (aA (aw rfl) (aw rfl) (nT (by omega) (by omega))) rfl (by simp),_,_,rfl⟩)
  subst H;exact ⟨_,aV (ur (bJ t (λ_=>ay (dJ (aw rfl) rfl (by simp)) (ay (gN (se (k:=k) (az (aw rfl) aj) rfl (by omega) (by omega)) e) (aX (aA (aw rfl) (aw rfl) (fo (by omega))) rfl))) nofun)),Int.emod_nonneg _ (by omega),Int.emod_lt_of_pos _ (by omega)⟩
 | false=>
  rw [f] at t;have J:∀x:Int,0<=x % 2147483647/\x % 2147483647<2147483647:=λx=>⟨Int.emod_nonneg _ (by omega),Int.emod_lt_of_pos _ (by omega)⟩
  refine ⟨_,aV (ay (bJ t nofun (λ_=>rfl)) (ay (dJ (aA (aA (aA (aA (aA (aw rfl) aO (fo (by omega))) (aA aO (aw rfl) (vN (by omega) (by omega))) pZ) aO pZ) aO (Am (by omega) (by omega))) aO (fo (by omega))) rfl (by simp [aN]))
   (ay (dJ (aA (aA (aA (aA (aw rfl) (aw rfl) (vN ?_ ?_)) (aA aO (aw rfl) (vN (by omega) (by omega))) pZ) aO pZ) aO (fo (by omega))) rfl (by simp [aN]))
   (aX (aA (aA (aA (aA (aw rfl) aO (Am (by omega) (by omega))) aO (fo (by omega))) aO (nT (by omega) (by omega))) (aw rfl) (fo (by omega))) rfl)))),Int.emod_nonneg _ (by omega),Int.emod_lt_of_pos _ (by omega)⟩
  ·exact Int.lt_of_lt_of_le (by omega) (J _).1
  ·exact Int.lt_trans (J _).2 (by omega)
noncomputable def gg (c k b:Int):Int:=match ao [.int c,.int k,.int b] with
 | .ok ⟨_,.int r⟩=>r
 | _=>0
theorem D3 {c k b:Int} (O:0<=k) (a:k<=1000) (Z:1<=b) (y:b<=1000):ao [.int c,.int k,.int b]=.ok ⟨.leaf,.int (gg c k b)⟩:=by
 obtain ⟨r,e,_⟩:=nV (c:=c) O a Z y
 unfold gg;rw [e]
theorem HV {c k b:Int} (O:0<=k) (a:k<=1000) (Z:1<=b) (y:b<=1000):0<=gg c k b/\gg c k b<b:=by
 obtain ⟨r,e,h⟩:=nV (c:=c) O a Z y
 unfold gg;rw [e];exact h
noncomputable def abc (d:D):D:=match d with
 | .int k=>(match gu [97,98,99] k with
  | some c=>.str ⟨#[c]⟩
  | none=>.none)
 | _=>.none
theorem vG {c:Nat} (h:c<1000):PyData.strOk ⟨#[c]⟩=true:=by
 unfold PyData.strOk;simp
 omega
theorem zJ:(Str.ofString "abc").cps.toList=[97,98,99]:=by decide +kernel
theorem zI:(Str.ofString "abc").length<=sizeLine:=by decide +kernel
theorem w5 {k:Nat} (O:k<3):∃c,c<1000/\gu (Str.ofString "abc").cps.toList (k:Int)=some c/\abc (.int k)=.str ⟨#[c]⟩:=by
 rw [zJ];match k,O with
 | 0,_=>exact ⟨97,by omega,rfl,rfl⟩
 | 1,_=>exact ⟨98,by omega,rfl,rfl⟩
 | 2,_=>exact ⟨99,by omega,rfl,rfl⟩
noncomputable abbrev eW:FS:=(ak (ax false 8 (ag 2 aC (ab (ae 0) (ab (ar aI (ar aI (ae 1) (eK (.int 1))) (ae 7)) af))))
  (ak (aF 4 (ag 3 ao (ab (ae 8) (ab (eK (.int 0)) (ab (eK (.int 2)) af)))))
  (ak (aF 5 (aq .leaf 11 (d6 (ab (eK (.int 3)) af)) (aM ai (ar bp (ag 3 ao (ab (ae 8) (ab (ar aI (eK (.int 1)) (ae 11)) (ab (eK (.int 2)) af)))) (eK (.int 1)))) (ah (eK (.str "abc")) (ae 11))))
  (ak (ax false 9 (aq .leaf 10 (d6 (ab (ae 3) af)) (aM ai (ar bp (ag 3 ao (ab (ae 8) (ab (ar aI (eK (.int 4)) (ae 10)) (ab (ar aI (eK (.int 2)) (bb gF (ab (ar jf (ae 3) (eK (.int 3))) af))) af)))) (eK (.int 1)))) (ae 10)))
  (ak (b8 (aM ai (ar bp (ae 9) (aW .leaf af))) (ax false 9 (aW .leaf (ab (ag 3 ao (ab (ae 8) (ab (ar aI (eK (.int 4)) (ae 3)) (ab (ae 3) af)))) af))) aJ)
  (aF 6 (ae 9)))))))
theorem u5 {q:List Int} (h:q.Pairwise (· < ·)):fh (q.map .int)=true:=by
 unfold fh;rw [all_eq_true];intro d F;obtain ⟨k,O,rfl⟩:=zR F;rw [length_map] at O;have R:k<q.length:=by omega
 have C:k+1<q.length:=by omega
 unfold An;dsimp only;rw [show (1+(k:Int)-1).toNat=k by omega,show (1+(k:Int)).toNat=k+1 by omega]
 rw [Nm,Nm,getElem?_map,getElem?_map,Nl R,Nl C];have:=List.pairwise_iff_getElem.mp h k (k+1) R C (by omega)
 show decide (q[k]<q[k+1])=true
 exact decide_eq_true this
structure Gw (N:Int) (n:Nat) (os ms ss:List D):Prop where
 lo:os.length=n
 lm:ms.length=n
 ls:ss.length=n
 o:∀a∈os,a=.int 0\/a=.int 1
 m:∀r∈ms,∃xs,r=.list xs/\iq xs/\xs.length<=30/\Cw r=true
 s:∀r∈ss,∃ts:List Int,r=.list (ts.map .int)/\ts.length<=30/\ts≠[]/\(∀t∈ts,0<=t/\t<N)/\ts.Pairwise (· < ·)
theorem EL {q:List Int}:gJ (q.map .int):=λa U=>by
 obtain ⟨n,_,e⟩:=List.mem_map.mp U;exact ⟨n,e.symm⟩
theorem Gw.wk {N:Int} {n b:Nat} {X o u:List D} (h:Gw N n X o u) (Z:n<=b):Wk b X o u:=
 ⟨λa U=>(h.o a U).elim (λe=>⟨0,e⟩) λe=>⟨1,e⟩,λr M=>let ⟨Y,e,a,b,_⟩:=h.m r M;⟨Y,e,a,b⟩,λr M=>let ⟨q,e,a,_⟩:=h.s r M;⟨_,e,EL,by rw [length_map];exact a⟩,by rw [h.lo];exact Z,by rw [h.lm];exact Z,by rw [h.ls];exact Z⟩
theorem Gw.isW {n:Nat} {X o u:List D} (h:Gw (n:Int) n X o u) (R:1<=n) (E:n<=24):isW X o u=true:=by
 unfold KC.isW Jk;rw [h.lo,h.lm,h.ls];have B:decide ((n:Int)<1)=false:=decide_eq_false (by omega)
 have m:decide ((24:Int)<n)=false:=decide_eq_false (by omega)
 rw [B,m];simp only [beq_self_eq_true,Bool.not_true,Bool.or_self,Bool.not_false,Bool.true_and,Bool.and_eq_true,all_eq_true]
 refine ⟨λa U=>?_,λr M=>?_,λr M=>?_⟩
 ·rcases h.o a U with rfl | rfl<;>rfl
 ·obtain ⟨Y,_,_,_,e⟩:=h.m r M
  exact e
 ·obtain ⟨q,rfl,C,b,f,F⟩:=h.s r M
  unfold IV;simp only [Bool.and_eq_true,decide_eq_true_eq,length_map,all_eq_true]
  refine ⟨by cases q with | nil=>exact absurd rfl b | cons a r=>simp,λa U=>?_,u5 F⟩
  obtain ⟨t,L,rfl⟩:=List.mem_map.mp U;have:=f t L
  unfold inR;simp only [Bool.and_eq_true,decide_eq_true_eq]
  exact this
theorem Lr (b z c:Bool):Cw (.list (((if b then [PyData.str ⟨#[97]⟩] else [])++((if z then [PyData.str ⟨#[98]⟩] else [])++(if c then [PyData.str ⟨#[99]⟩] else [])))))=true:=by
 cases b<;>cases z<;>cases c<;>decide +kernel
theorem LQ (c:D->Bool):((bS 0 3).filter c).map abc=((if c (.int 0) then [PyData.str ⟨#[97]⟩] else [])++((if c (.int 1) then [PyData.str ⟨#[98]⟩] else [])++(if c (.int 2) then [PyData.str ⟨#[99]⟩] else []))):=by
 have e:bS 0 3=[.int 0,.int 1,.int 2]:=rfl
 rw [e];simp only [filter_cons,List.filter_nil]
 cases c (.int 0)<;>cases c (.int 1)<;>cases c (.int 2)<;>rfl
theorem Bx (n:Nat) (c:D->Bool):∃q:List Int,((bS 0 n).filter c).map (λd=>d)=q.map .int/\(∀t∈q,0<=t/\t<(n:Int))/\q.Pairwise (· < ·)/\q.length<=n:=by
 refine ⟨((List.range n).map λi=>(0:Int)+(i:Nat)).filter λi=>c (.int i),?_,λt L=>?_,?_,?_⟩
 ·rw [List.map_id']
  unfold bS;rw [show (λi:Nat=>PyData.int (0+(i:Int)))=(PyData.int∘λi:Nat=>(0:Int)+(i:Nat)) from rfl,<-map_map,List.filter_map]
  rfl
 ·obtain ⟨R,_⟩:=List.mem_filter.mp L
  obtain ⟨i,l,rfl⟩:=List.mem_map.mp R;rw [mem_range] at l;omega
 ·refine List.Pairwise.filter _ ?_
  rw [pairwise_map];exact List.pairwise_lt_range.imp λh=>by omega
 ·refine Nat.le_trans (length_filter_le _ _) ?_
  simp
theorem pP {Y X o u:List D} {at' lim many:Int} {n:Nat} {x8 x9:Option PV} (G:gJ Y) (U:0<=at') (hm:1<=many) (R:many<=24) (h:Gw many n X o u) (y:n<=30) {r:Nat} :
  ∃K x g P I,eW [Nx (.list Y),Nx (.int at'),Nx (.int lim),Nx (.int many),some ⟨.lst .leaf,.list X⟩,some ⟨.lst .leaf,.list o⟩,some ⟨.lst .leaf,.list u⟩,Nx (.int (r:Nat)),x8,x9,none,none]
   = .nx [Nx (.list Y),Nx (.int at'),Nx (.int lim),Nx (.int many),some ⟨.lst .leaf,.list K⟩,some ⟨.lst .leaf,.list x⟩,some ⟨.lst .leaf,.list g⟩,Nx (.int (r:Nat)),P,I,none,none]/\Gw many (n+1) K x g:=by
 obtain ⟨c,J⟩:=Iu G (k:=at'+1+(r:Int)) (by omega)
 have lo:=h.lo
 have lm:=h.lm
 have Z:=h.ls
 have c5:∀(Γ:Ev),Γ.length=12->Γ[8]?=some (Nx (.int c))->aq .leaf 11 (d6 (ab (eK (.int 3)) af)) (aM ai (ar bp (ag 3 ao (ab (ae 8) (ab (ar aI (eK (.int 1)) (ae 11)) (ab (eK (.int 2)) af)))) (eK (.int 1)))) (ah (eK (.str "abc")) (ae 11)) Γ
   = .ok ⟨.lst .leaf,.list (((bS 0 3).filter λd=>match d with | .int k=>gg c (1+k) 2==1 | _=>false).map λd=>abc d)⟩ Γ:=λΓ N h8=>by
  refine Kl (c:=λd=>match d with | .int k=>gg c (1+k) 2==1 | _=>false) (f:=λd=>⟨.leaf,abc d⟩) (st:=true) (se (k:=3) (az aO aj) rfl (by omega) (by omega)) (by omega) rfl (by rw [D1];omega) (λd F=>?_) λd F _=>?_
  ·obtain ⟨k,O,rfl⟩:=zR F
   have l:(Γ.set 11 (Nx (.int (0+(k:Int)))))[11]?=some (Nx (.int (0+(k:Int)))):=by rw [getElem?_set_self (by omega)]
   have g8:(Γ.set 11 (Nx (.int (0+(k:Int)))))[8]?=some (Nx (.int c)):=by rw [getElem?_set_ne (by omega)];exact h8
   exact cH (aA (cv (az (aw g8) (az (aA aO (aw l) pZ) (az aO aj))) (D3 (by omega) (by omega) (by omega) (by omega)) rfl rfl) aO eq_int)
  ·obtain ⟨k,O,rfl⟩:=zR F
   have l:(Γ.set 11 (Nx (.int (0+(k:Int)))))[11]?=some (Nx (.int (0+(k:Int)))):=by rw [getElem?_set_self (by omega)]
   obtain ⟨z,w,B,m⟩:=w5 O;rw [Int.zero_add] at l ⊢;rw [m];exact ⟨A6 aO (aw l) zI B,rfl⟩
 generalize v:(((bS 0 3).filter λd=>match d with | .int k=>gg c (1+k) 2==1 | _=>false).map λd=>abc d)=M at c5
 have rM:iq M/\M.length<=30/\Cw (.list M)=true:=by
  refine ⟨?_,?_,?_⟩
  ·rw [<-v]
   intro a U;obtain ⟨d,F,rfl⟩:=List.mem_map.mp U;obtain ⟨k,O,rfl⟩:=zR (List.mem_filter.mp F).1;obtain ⟨z,w,B,m⟩:=w5 O;rw [Int.zero_add,m];exact ⟨_,rfl,vG w⟩
  ·rw [<-v,length_map]
   refine Nat.le_trans (length_filter_le _ _) ?_
   rw [D1];omega
  ·rw [<-v]
   have:=LQ (λd=>match d with | .int k=>gg c (1+k) 2==1 | _=>false)
   rw [show (λd=>abc d)=abc from rfl,this]
   exact Lr _ _ _
 have c6:∀(Γ:Ev),Γ.length=12->Γ[8]?=some (Nx (.int c))->Γ[3]?=some (Nx (.int many))->aq .leaf 10 (d6 (ab (ae 3) af)) (aM ai (ar bp (ag 3 ao (ab (ae 8) (ab (ar aI (eK (.int 4)) (ae 10)) (ab (ar aI (eK (.int 2)) (bb gF (ab (ar jf (ae 3) (eK (.int 3))) af))) af)))) (eK (.int 1)))) (ae 10) Γ
   = .ok ⟨.lst .leaf,.list (((bS 0 many.toNat).filter λd=>match d with | .int k=>gg c (4+k) (2+(if decide (3<many) then 1 else 0))==1 | _=>false).map λd=>d)⟩ Γ:=λΓ N h8 h3=>by
  refine Kl (c:=λd=>match d with | .int k=>gg c (4+k) (2+(if decide (3<many) then 1 else 0))==1 | _=>false) (f:=λd=>⟨.leaf,d⟩) (st:=true) (se (k:=many) (az (aw h3) aj) rfl (by omega) (by omega)) (by omega) rfl (by rw [D1];omega) (λd F=>?_) λd F _=>?_
  ·obtain ⟨k,O,rfl⟩:=zR F
   have g10:(Γ.set 10 (Nx (.int (0+(k:Int)))))[10]?=some (Nx (.int (0+(k:Int)))):=by rw [getElem?_set_self (by omega)]
   have g8:(Γ.set 10 (Nx (.int (0+(k:Int)))))[8]?=some (Nx (.int c)):=by rw [getElem?_set_ne (by omega)];exact h8
   have g3:(Γ.set 10 (Nx (.int (0+(k:Int)))))[3]?=some (Nx (.int many)):=by rw [getElem?_set_ne (by omega)];exact h3
   have p:(1:Int)<=2+(if decide (3<many) then 1 else 0)/\(2:Int)+(if decide (3<many) then 1 else 0)<=1000:=by split<;>omega
   exact cH (aA (cv (az (aw g8) (az (aA aO (aw g10) pZ) (az (aA aO (b4 (az (aA (aw g3) aO rfl) aj) rfl) pZ) aj))) (D3 (by omega) (by omega) p.1 p.2) rfl rfl) aO eq_int)
  ·obtain ⟨k,O,rfl⟩:=zR F
   exact ⟨aw (by rw [getElem?_set_self (by omega)]),rfl⟩
 obtain ⟨q,C,hts1,hts2,hts3⟩:=Bx many.toNat (λd=>match d with | .int k=>gg c (4+k) (2+(if decide (3<many) then 1 else 0))==1 | _=>false)
 rw [C] at c6;have fin:∀(Γ:Ev) (T:List Int),(T.length<=30/\T≠[]/\(∀t∈T,0<=t/\t<many)/\T.Pairwise (· < ·))->Γ=[Nx (.list Y),Nx (.int at'),Nx (.int lim),Nx (.int many),some ⟨.lst .leaf,.list (X++[.int (gg c 0 2)])⟩,some ⟨.lst .leaf,.list (o++[.list M])⟩,some ⟨.lst .leaf,.list u⟩,Nx (.int (r:Nat)),Nx (.int c),Nx (.list (T.map .int)),none,none] ->
   ∃K x g P I,aF 6 (ae 9) Γ=.nx [Nx (.list Y),Nx (.int at'),Nx (.int lim),Nx (.int many),some ⟨.lst .leaf,.list K⟩,some ⟨.lst .leaf,.list x⟩,some ⟨.lst .leaf,.list g⟩,Nx (.int (r:Nat)),P,I,none,none]/\Gw many (n+1) K x g:=λΓ T hT2 H=>by
  subst H;refine ⟨X++[.int (gg c 0 2)],o++[.list M],u++[.list (T.map .int)],_,_,ER rfl (aw rfl) rfl (by omega),by simp;omega,by simp;omega,by simp;omega,λa U=>?_,λa U=>?_,λa U=>?_⟩
  ·rcases Nj U with z | z
   ·exact h.o a z
   ·have:=HV (c:=c) (k:=0) (b:=2) (by omega) (by omega) (by omega) (by omega)
    rw [List.mem_singleton.mp z];rcases (by omega:gg c 0 2=0\/gg c 0 2=1) with e | e
    ·exact .inl (by rw [e])
    ·exact .inr (by rw [e])
  ·rcases Nj U with z | z
   ·exact h.m a z
   ·exact ⟨M,List.mem_singleton.mp z,rM.1,rM.2.1,by rw [List.mem_singleton.mp z];exact rM.2.2⟩
  ·rcases Nj U with z | z
   ·exact h.s a z
   ·exact ⟨T,List.mem_singleton.mp z,hT2⟩
 have B:=dJ (i:=8) (cv (fl:=ab (ae 0) (ab (ar aI (ar aI (ae 1) (eK (.int 1))) (ae 7)) af)) (Γ:=[Nx (.list Y),Nx (.int at'),Nx (.int lim),Nx (.int many),some ⟨.lst .leaf,.list X⟩,some ⟨.lst .leaf,.list o⟩,some ⟨.lst .leaf,.list u⟩,Nx (.int (r:Nat)),x8,x9,none,none]) (az (aw rfl) (az (aA (aA (aw rfl) aO pZ) (aw rfl) pZ) aj)) J rfl rfl) rfl (by simp)
 have m:aF 4 (ag 3 ao (ab (ae 8) (ab (eK (.int 0)) (ab (eK (.int 2)) af)))) [Nx (.list Y),Nx (.int at'),Nx (.int lim),Nx (.int many),some ⟨.lst .leaf,.list X⟩,some ⟨.lst .leaf,.list o⟩,some ⟨.lst .leaf,.list u⟩,Nx (.int (r:Nat)),Nx (.int c),x9,none,none]=_:=
  ER rfl (cv (az (aw rfl) (az aO (az aO aj))) (D3 (by omega) (by omega) (by omega) (by omega)) rfl rfl) rfl (by omega)
 have e3:=ER (i:=5) (Γ:=[Nx (.list Y),Nx (.int at'),Nx (.int lim),Nx (.int many),some ⟨.lst .leaf,.list (X++[.int (gg c 0 2)])⟩,some ⟨.lst .leaf,.list o⟩,some ⟨.lst .leaf,.list u⟩,Nx (.int (r:Nat)),Nx (.int c),x9,none,none]) rfl (c5 _ rfl rfl) rfl (by omega)
 have e4:=dJ (i:=9) (Γ:=[Nx (.list Y),Nx (.int at'),Nx (.int lim),Nx (.int many),some ⟨.lst .leaf,.list (X++[.int (gg c 0 2)])⟩,some ⟨.lst .leaf,.list (o++[.list M])⟩,some ⟨.lst .leaf,.list u⟩,Nx (.int (r:Nat)),Nx (.int c),x9,none,none]) (c6 _ rfl rfl rfl) rfl (by simp)
 have t:aM ai (ar bp (ae 9) (aW .leaf af)) [Nx (.list Y),Nx (.int at'),Nx (.int lim),Nx (.int many),some ⟨.lst .leaf,.list (X++[.int (gg c 0 2)])⟩,some ⟨.lst .leaf,.list (o++[.list M])⟩,some ⟨.lst .leaf,.list u⟩,Nx (.int (r:Nat)),Nx (.int c),Nx (.list (q.map .int)),none,none]
   = .ok (decide ((q.map PyData.int).length=0)) _:=cH (aA (aw rfl) (pY (s:=.leaf) aj rfl rfl rfl) (Dd (J5 EL)))
 cases w:decide ((q.map PyData.int).length=0) with
 | true=>
  rw [w] at t;obtain ⟨o',E,j,y8,y9,A,f2⟩:=fin _ [gg c (4+many) many] ⟨by simp,by simp,λt L=>by rw [List.mem_singleton.mp L];exact HV (by omega) (by omega) (by omega) (by omega),List.pairwise_singleton _ _⟩ rfl
  exact ⟨o',E,j,y8,y9,ay B (ay m (ay e3 (ay e4 (ay (bJ t (λ_=>dJ (pY (s:=.leaf) (az (cv (az (aw rfl) (az (aA aO (aw rfl) pZ) (az (aw rfl) aj))) (D3 (by omega) (by omega) (by omega) (by omega)) rfl rfl) aj) rfl rfl rfl) rfl (by simp)) nofun) A)))),f2⟩
 | false=>
  rw [w] at t;obtain ⟨o',E,j,y8,y9,A,f2⟩:=fin _ q ⟨by omega,(λz=>by rw [z] at w;cases w),(λt L=>by have:=hts1 t L;omega),hts2⟩ rfl
  exact ⟨o',E,j,y8,y9,ay B (ay m (ay e3 (ay e4 (ay (bJ t nofun (λ_=>rfl)) A)))),f2⟩
noncomputable abbrev W3:Sh:=.tup [.lst .leaf,.lst .leaf,.lst .leaf]
noncomputable abbrev iy (X o u:List D):D:=.tuple [.list X,.list o,.list u]
theorem tZ {Y:List D} {at' lim:Int} (G:gJ Y) (U:0<=at') (N:1<=lim) (f:lim<=24):∃(n:Nat) (X o u:List D),m__law_world [.list Y,.int at',.int lim]=.ok ⟨W3,iy X o u⟩/\Gw (n:Int) n X o u/\1<=n/\(n:Int)<=lim:=by
 obtain ⟨c,J⟩:=Iu G (k:=at') U
 have l:0<=c % lim:=Int.emod_nonneg _ (by omega)
 have w:c % lim<lim:=Int.emod_lt_of_pos _ (by omega)
 generalize j:1+c % lim=many at *
 have v:ax false 3 (ar aI (eK (.int 1)) (ar cG (ag 2 aC (ab (ae 0) (ab (ae 1) af))) (ae 2))) [Nx (.list Y),Nx (.int at'),Nx (.int lim),none,none,none,none,none,none,none,none,none]
   = .nx [Nx (.list Y),Nx (.int at'),Nx (.int lim),Nx (.int many),none,none,none,none,none,none,none,none]:=by
  rw [<-j];exact dJ (aA aO (aA (cv (az (aw rfl) (az (aw rfl) aj)) J rfl rfl) (aw rfl) (fo (by omega))) pZ) rfl (by simp)
 obtain ⟨I,e,X,o,u,y,x8,x9,H,q⟩:=JS (P:=λn B=>∃X o u y x8 x9,B=[Nx (.list Y),Nx (.int at'),Nx (.int lim),Nx (.int many),some ⟨.lst .leaf,.list X⟩,some ⟨.lst .leaf,.list o⟩,some ⟨.lst .leaf,.list u⟩,y,x8,x9,none,none]/\Gw many n X o u) (i:=7) (body:=eW) (bS 0 many.toNat) 0
  [Nx (.list Y),Nx (.int at'),Nx (.int lim),Nx (.int many),some ⟨.lst .leaf,.list []⟩,some ⟨.lst .leaf,.list []⟩,some ⟨.lst .leaf,.list []⟩,none,none,none,none,none] ⟨[],[],[],none,none,none,rfl,rfl,rfl,rfl,λa U=>(nomatch U),λa U=>(nomatch U),λa U=>(nomatch U)⟩ (λm d B F R C ⟨X,o,u,y,x8,x9,H,q⟩=>by
   subst H;obtain ⟨k,O,rfl⟩:=zR F;rw [D1] at C;rw [Int.zero_add];obtain ⟨K,x,g,h,b,A,t⟩:=pP (at':=at') (lim:=lim) (many:=many) (x8:=x8) (x9:=x9) G U (by omega) (by omega) q (by omega) (r:=k)
   exact ⟨by simp,_,A,K,x,g,_,h,b,rfl,t⟩)
 subst H;rw [D1,Nat.zero_add] at q;have en:((many.toNat:Nat):Int)=many:=by omega
 refine ⟨many.toNat,X,o,u,aV (ay v (ay (DS (pY (s:=.leaf) aj rfl rfl rfl) rfl (by simp)) (ay (DS (pY (s:=.leaf) aj rfl rfl rfl) rfl (by simp)) (ay (DS (pY (s:=.leaf) aj rfl rfl rfl) rfl (by simp)) (ay (gN (se (k:=many) (az (aw rfl) aj) rfl (by omega) (by omega)) e) (aX (cJ (az (Ex (p:=⟨.lst .leaf,.list X⟩) rfl) (az (Ex (p:=⟨.lst .leaf,.list o⟩) rfl) (az (Ex (p:=⟨.lst .leaf,.list u⟩) rfl) aj))) rfl rfl) rfl)))))),by rw [en];exact q,by omega,by omega⟩
theorem Ak {n:Nat} {g:FS} {N:List D} {B:Ev} (h:g (aN n N)=.nx B):aB n g N=.ok ⟨.leaf,.none⟩:=by unfold aB;rw [h]
theorem zT {B X:Ev} {z:F1} {p:PV} {c:String} {b:Bool} (U:z B=.ok p X) (Z:we (A8 p.d) c=b):i5 c z B=.ok ⟨.leaf,.bool b⟩ X:=by
 unfold i5 aY;rw [U];simp only [Out.bind,Z]
theorem t8 {b:Nat} {X o u:List D} (h:Wk b X o u) (Z:b<=100) (O:isW X o u=true):bf [iy X o u]=.ok ⟨.leaf,.none⟩:=by
 have t:eO (aM cF (ag 3 dO (ab (ah (ae 0) (eK (.int 0))) (ab (ah (ae 0) (eK (.int 1))) (ab (ah (ae 0) (eK (.int 2))) af))))) [Nx (iy X o u)]=.ok (!(isW X o u)) [Nx (iy X o u)]:=
  kO (kN (cv (az (eX (j:=0) (aw rfl) aO rfl rfl rfl) (az (eX (j:=1) (aw rfl) aO rfl rfl rfl) (az (eX (j:=2) (aw rfl) aO rfl rfl rfl) aj))) (lM h Z) rfl rfl))
 rw [O] at t;exact Ak (bJ t nofun (λ_=>rfl))
noncomputable def dl (S:List (List Int)):List D:=S.map λq=>.list (q.map .int)
theorem wj {ts:List Int} {i:Int}:bx false (.int i) (.list (ts.map .int))=some (.bool (ts.contains i)):=by
 unfold bx;simp only [AS,J5 EL,Bool.and_self,if_true]
 congr 2
 rw [Bool.eq_iff_iff];simp only [Bool.false_eq_true,if_false,any_eq_true,mem_map,contains_iff_mem]
 constructor
 ·rintro ⟨d,⟨t,L,rfl⟩,e⟩
  rw [PyData.eqv] at e;have:t=i:=by simpa using e
  rw [<-this];exact L
 ·intro h
  exact ⟨.int i,⟨i,h,rfl⟩,by rw [PyData.eqv];simp⟩
theorem Hv {Y:List D} (h:gJ Y):PyData.canLayAll0 Y=true/\PyData.depthAll Y=0:=by
 induction Y with
 | nil=>exact ⟨rfl,rfl⟩
 | cons a r f=>
  obtain ⟨n,rfl⟩:=h a mem_cons_self;have q:=f λx G=>h x (Nn _ G)
  simp [PyData.canLayAll0,PyData.canLay0,PyData.depthAll,PyData.depth,q.1,q.2]
theorem Hu {xs:List D} (h:iq xs):PyData.canLayAll0 xs=true/\PyData.depthAll xs=0:=by
 induction xs with
 | nil=>exact ⟨rfl,rfl⟩
 | cons a r f=>
  obtain ⟨n,rfl,y⟩:=h a mem_cons_self;have q:=f λx G=>h x (Nn _ G)
  simp [PyData.canLayAll0,PyData.canLay0,PyData.depthAll,PyData.depth,q.1,q.2,y]
theorem rP {o:List D} (h:∀r∈o,∃Y,r=.list Y/\PyData.canLayAll0 Y=true/\PyData.depthAll Y=0):PyData.canLayAll0 o=true/\PyData.depthAll o<=1:=by
 induction o with
 | nil=>exact ⟨rfl,Nat.zero_le _⟩
 | cons a r f=>
  obtain ⟨Y,rfl,R,C⟩:=h a mem_cons_self;have q:=f λx G=>h x (Nn _ G)
  refine ⟨by simp [PyData.canLayAll0,PyData.canLay0,q.1,R],?_⟩
  rw [PyData.depthAll,PyData.depth,C];exact Nat.max_le.mpr ⟨by omega,q.2⟩
noncomputable def has (x:Str) (d:D):Bool:=match d with
 | .list Y=>Y.any λy=>PyData.eqv y (.str x)
 | _=>false
theorem CP {x:Str} {Y:List D} (G:PyData.strOk x=true) (h:iq Y):bx false (.str x) (.list Y)=some (.bool (has x (.list Y))):=by
 unfold bx;simp only [DZ G,xW h,Bool.and_self,if_true]
 rfl
theorem tF {ts:List Int} {i:Int}:bx true (.int i) (.list (ts.map .int))=some (.bool (!ts.contains i)):=by
 have h:=wj (ts:=ts) (i:=i)
 unfold bx at h ⊢
 simp only [AS,J5 EL,Bool.and_self,if_true,Bool.false_eq_true,if_false] at h ⊢
 have h:=Option.some.inj h
 injection h with h
 rw [h]
end KC
namespace T
open PySem PySem.Spec L2
open PyProof.Rows hiding St
section
variable {Γ Γ1:Ev} {fa fb fc:F1} {fl:FL} {p:PV} {i n:Nat} {ga gb:FB} {g1 g2:FS}
@[simp] theorem K5:sizeLine=16777216:=rfl
@[simp] theorem xw {u d:Type} {a:u} {e:Ev} {k:u->Ev->Out d}:(Out.ok a e).bind k=k a e:=rfl
@[simp] theorem r_k {d:D}:eK d Γ=.ok ⟨.leaf,d⟩ Γ:=rfl
@[simp] theorem Mp:af Γ=.ok [] Γ:=rfl
@[simp] theorem KW:aK Γ=.ok true Γ:=rfl
@[simp] theorem K1:aJ Γ=.nx Γ:=rfl
@[simp] theorem Lf:ab fa fl Γ=(fa Γ).bind λp Γ1=>(fl Γ1).bind λJ o=>.ok (p::J) o:=rfl
@[simp] theorem MU {g:D->D->Option D}:ar g fa fb Γ=(fa Γ).bind λp Γ1=>(fb Γ1).bind λq o=>match g p.d q.d with | some d=>.ok ⟨.leaf,d⟩ o | none=>.no:=rfl
@[simp] theorem MV {g:List D->Option D}:bb g fl Γ=(fl Γ).bind λJ I=>match g (J.map (·.d)) with | some d=>.ok ⟨.leaf,d⟩ I | none=>.no:=rfl
@[simp] theorem Mw {g:D->Option Bool}:aM g fa Γ=(fa Γ).bind λp I=>match g p.d with | some b=>.ok b I | none=>.no:=rfl
@[simp] theorem Lh:eO ga Γ=(ga Γ).bind λc I=>.ok (!c) I:=rfl
@[simp] theorem Li:gq ga gb Γ=(ga Γ).bind λc I=>if c then gb I else .ok false I:=rfl
@[simp] theorem Mv:gp ga gb Γ=(ga Γ).bind λc I=>if c then .ok true I else gb I:=rfl
@[simp] theorem Mu:oG ga fa fb Γ=(ga Γ).bind λb I=>if b then fa I else fb I:=rfl
@[simp] theorem yp {k:PV->Ev->d9}:jo fa k Γ=match fa Γ with | .ok p Γ1=>k p Γ1 | .er c Γ1=>.er c Γ1 | .no=>.no:=by
 unfold jo
 cases fa Γ<;>rfl
@[simp] theorem IY {b:Bool}:ai (.bool b)=some b:=rfl
@[simp] theorem La {b:Bool}:cF (.bool b)=some b:=rfl
@[simp] theorem IW {Y:List D}:cF (.list Y)=some (!Y.isEmpty):=rfl
noncomputable def Jc (p:PV):PV:=match p.s with
 | .leaf=>p
 | _=>⟨.view,p.d⟩
@[simp] theorem Ml {d:D}:Jc ⟨.leaf,d⟩=⟨.leaf,d⟩:=rfl
@[simp] theorem Mk {s:Sh} {d:D}:Jc ⟨.lst s,d⟩=⟨.view,d⟩:=rfl
@[simp] theorem Mj {s:List Sh} {d:D}:Jc ⟨.tup s,d⟩=⟨.view,d⟩:=rfl
@[simp] theorem F7:ae i Γ=match Γ[i]? with | some (some p)=>.ok (Jc p) Γ | _=>.no:=by
 unfold ae
 cases h:Γ[i]? with
 | none=>rfl
 | some o=>
  cases o with
  | none=>rfl
  | some p=>
   obtain ⟨s,d⟩:=p
   cases s<;>rfl
@[simp] theorem K3:bX i Γ=match Γ[i]? with | some (some p)=>.ok p (Γ.set i none) | _=>.no:=rfl
@[simp] theorem Lg {d:D}:coer .leaf ⟨.leaf,d⟩=true:=rfl
@[simp] theorem I0 {s:Sh} {d:D}:coer .leaf ⟨.lst s,d⟩=true:=rfl
@[simp] theorem IZ {s:List Sh} {d:D}:coer .leaf ⟨.tup s,d⟩=true:=rfl
@[simp] theorem Ja {i:Int} {s:Sh}:coer .leaf ⟨s,.int i⟩=true:=by cases s<;>rfl
@[simp] theorem Jb {b:Bool} {s:Sh}:coer .leaf ⟨s,.bool b⟩=true:=by cases s<;>rfl
@[simp] theorem K9:Sh.isView .leaf=false:=rfl
@[simp] theorem K8 {s:Sh}:Sh.isView (.lst s)=false:=rfl
@[simp] theorem K7 {s:List Sh}:Sh.isView (.tup s)=false:=rfl
@[simp] theorem F8 {own:Bool}:ax own i fa Γ=match fa Γ with | .ok p Γ1=>(if i<Γ1.length then (if own&&!p.s.isView then .nx (Γ1.set i (some p)) else if T.coer .leaf p then .nx (Γ1.set i (some ⟨.leaf,p.d⟩)) else .no) else .no) | .er c Γ1=>.er c Γ1 | .no=>.no:=by
 unfold ax;rw [yp]
@[simp] theorem Mi:aE fa Γ=match fa Γ with | .ok p Γ1=>(if p.s.isView then (if bD p.d then .rt ⟨.leaf,p.d⟩ else .no) else .rt p) | .er c Γ1=>.er c Γ1 | .no=>.no:=by
 unfold aE;rw [yp]
@[simp] theorem Le:dE fa Γ=match fa Γ with | .ok p Γ1=>.nx Γ1 | .er c Γ1=>.er c Γ1 | .no=>.no:=by
 unfold dE;rw [yp]
@[simp] theorem Ld {a b:Int}:aI (.int a) (.int b)=some (.int (a+b)):=rfl
@[simp] theorem Lb {a b:Int}:gSub (.int a) (.int b)=some (.int (a-b)):=rfl
@[simp] theorem Mt {a b:Int}:me (.int a) (.int b)=some (.bool (decide (a<b))):=rfl
@[simp] theorem F9 {a b:Int}:jf (.int a) (.int b)=some (.bool (decide (b<a))):=rfl
@[simp] theorem Lc {N:List D}:aQ [.list N]=some (.int N.length):=rfl
@[simp] theorem IX {N:List D}:aQ [.tuple N]=some (.int N.length):=rfl
noncomputable def nO (p q:PV):Ev->Out PV:=ah (λΓ=>.ok p Γ) (λΓ=>.ok q Γ)
@[simp] theorem mV:ah fa fb Γ=(fa Γ).bind λp Γ1=>(fb Γ1).bind λq o=>nO p q o:=by
 unfold nO ah aY
 cases fa Γ with
 | ok p Γ1=>simp only [xw]
 | er c Γ1=>rfl
 | no=>rfl
@[simp] theorem vf {N:List D} {k:Int} {s:Sh}:nO ⟨.leaf,.tuple N⟩ ⟨s,.int k⟩ Γ=match gu N k with | some d=>.ok ⟨.leaf,d⟩ Γ | none=>.no:=by
 unfold nO ah aY gu;simp only [xw]
 cases h:fG N.length k with
 | none=>rfl
 | some j=>
  simp only [Option.bind_some]
  cases C:N[j]? with
  | none=>rfl
  | some d=>rfl
@[simp] theorem Ah {N:List D} {k:Int} {s:Sh}:nO ⟨.leaf,.list N⟩ ⟨s,.int k⟩ Γ=match gu N k with | some d=>.ok ⟨.leaf,d⟩ Γ | none=>.no:=by
 unfold nO ah aY gu;simp only [xw]
 cases h:fG N.length k with
 | none=>rfl
 | some j=>
  simp only [Option.bind_some]
  cases C:N[j]? with
  | none=>rfl
  | some d=>rfl
@[simp] theorem Ms {N:List D} {k:Int} {s:Sh}:nO ⟨.view,.list N⟩ ⟨s,.int k⟩ Γ=match gu N k with | some d=>.ok ⟨if bD d then .leaf else .view,d⟩ Γ | none=>.no:=by
 unfold nO ah aY gu;simp only [xw]
 cases h:fG N.length k with
 | none=>rfl
 | some j=>
  simp only [Option.bind_some]
  cases C:N[j]? with
  | none=>rfl
  | some d=>rfl
@[simp] theorem Gc {u:Type} {a:u} {r:List u}:gu (a::r) 0=some a:=by
 simp [gu,fG]
@[simp] theorem Gb {u:Type} {a b:u} {r:List u}:gu (a::b::r) 1=some b:=by
 have:(1:Int)<(r.length:Int)+1+1:=by omega
 simp [gu,fG,this]
@[simp] theorem Ga {u:Type} {a b c:u} {r:List u}:gu (a::b::c::r) 2=some c:=by
 have:(2:Int)<(r.length:Int)+1+1+1:=by omega
 simp [gu,fG,this]
theorem Jo {u:Type} {Y:List u} {k:Nat} {x:u} (h:Y[k]?=some x):gu Y (k:Int)=some x:=by
 have O:=(Nq h).1
 have:(k:Int)<(Y.length:Int):=by omega
 simp [gu,fG,this,h]
end
section
variable {Γ:Ev} {fa fb:F1} {i:Nat}
@[simp] theorem Mq {c:String}:i5 c fa Γ=(fa Γ).bind λp Γ=>.ok ⟨.leaf,.bool (we (A8 p.d) c)⟩ Γ:=rfl
@[simp] theorem K4 {s:Sh} {q:FL}:aW s q Γ=(q Γ).bind λJ I=>if !s.isView&&J.all (T.coer s)&&decide (J.length<=sizeLine) then .ok ⟨.lst s,.list (J.map (·.d))⟩ I else .no:=rfl
@[simp] theorem Mh {q:FL}:bz q Γ=(q Γ).bind λJ I=>if J.all tok&&decide (J.length<=sizeLine) then .ok ⟨.tup (J.map A9),.tuple (J.map (·.d))⟩ I else .no:=rfl
@[simp] theorem K0 {d:D}:tok ⟨.leaf,d⟩=true:=rfl
@[simp] theorem KZ {s:Sh} {d:D}:tok ⟨.lst s,d⟩=true:=rfl
@[simp] theorem KY {s:List Sh} {d:D}:tok ⟨.tup s,d⟩=true:=rfl
@[simp] theorem Mr {a:D}:fA false a .none=some (.bool (eQ a)):=rfl
@[simp] theorem K6 {a:D}:fA true a .none=some (.bool (!eQ a)):=rfl
@[simp] theorem BR:aU fa Γ=(fa Γ).bind λp I=>match p.d with | .list N=>if aH p N then .ok ⟨N,!p.s.isView⟩ I else .no | _=>.no:=rfl
@[simp] theorem Mo {d:D} {N:List D}:aH ⟨.leaf,d⟩ N=true:=rfl
@[simp] theorem Mn {s:Sh} {d:D} {N:List D}:aH ⟨.lst s,d⟩ N=true:=rfl
@[simp] theorem Mm {s:List Sh} {d:D} {N:List D}:aH ⟨.tup s,d⟩ N=true:=rfl
theorem Dz {z:F1} {p:PV} {N:List D} (K:Γ[i]?=some (some ⟨.lst .leaf,.list N⟩)) (h:z Γ=.ok p Γ) (J:coer .leaf p=true) (y:N.length<=9000):aF i z Γ=.nx (Γ.set i (some ⟨.lst .leaf,.list (N++[p.d])⟩)):=by
 have Z:(10000:Nat)<=sizeLine:=by decide
 unfold aF gE;rw [K];simp only [if_true,yp,h]
 unfold zF;rw [K];have:N.length<sizeLine:=by omega
 simp only [J,decide_eq_true this,Bool.and_self,if_true]
end
theorem Kb {u:Type} {en:u->D} {i:Nat} {E:FB} {v:F1} {s:Sh} {c:u->Bool} {f:u->PV} {B:Ev} (H:B.set i none=B):∀(r:List u) (acc:List D),(∀x∈r,E (B.set i (Nx (en x)))=.ok (c x) (B.set i (Nx (en x)))) ->
  (∀x∈r,c x=true->v (B.set i (Nx (en x)))=.ok (f x) (B.set i (Nx (en x)))/\coer s (f x)=true)->acc.length+r.length<=sizeLine->cx i E v s (r.map en) B acc=.ok (acc++((r.filter c).map λx=>(f x).d)) B
 | [],acc,_,_,_=>by simp [cx]
 | x::r,acc,hc,he,hl=>by
  have R:=hc x mem_cons_self
  have b:acc.length<sizeLine:=by simp only [length_cons] at hl;omega
  have a:(B.set i (Nx (en x))).set i none=B:=by rw [set_set];exact H
  rw [map_cons,cx,R]
  cases g:c x with
  | false=>
   dsimp only;rw [if_pos b,a,Kb H r acc (λd F=>hc d (Nn _ F)) (λd F=>he d (Nn _ F)) (by simp only [length_cons] at hl;omega)]
   rw [filter_cons_of_neg (by rw [g];exact Bool.false_ne_true)]
  | true=>
   obtain ⟨C,n⟩:=he x mem_cons_self g;dsimp only;rw [C];dsimp only;rw [n,decide_eq_true b,Bool.and_self,if_pos rfl,a,Kb H r (acc++[(f x).d]) (λd F=>hc d (Nn _ F)) (λd F=>he d (Nn _ F)) (by simp only [length_cons,length_append,length_nil] at hl ⊢;omega)]
   rw [List.filter_cons_of_pos g,map_cons,append_assoc];rfl
theorem Iv {u:Type} (en:u->D) (Y:List u) (c:u->Bool) (f:u->PV) {s:Sh} {i:Nat} {A:FI} {fc:FB} {v:F1} {st:Bool} {B:Ev} (l:A B=.ok ⟨Y.map en,st⟩ B) (N:i<B.length) (a:s.isView=false) (y:Y.length<=10000)
  (J:∀x∈Y,fc (B.set i (Nx (en x)))=.ok (c x) (B.set i (Nx (en x)))) (R:∀x∈Y,c x=true->v (B.set i (Nx (en x)))=.ok (f x) (B.set i (Nx (en x)))/\coer s (f x)=true) :
  aq s i A fc v B=.ok ⟨.lst s,.list ((Y.filter c).map λx=>(f x).d)⟩ B:=by
 have Z:(10000:Nat)<=sizeLine:=by decide
 unfold aq;rw [l];unfold Out.bind;dsimp only;rw [Kb (c:=c) (f:=f) (by rw [set_set]) Y [] (λd F=>by rw [set_set];exact J d F) (λd F=>by rw [set_set];exact R d F) (by simp;omega)]
 dsimp only;rw [a,decide_eq_true N];simp only [Bool.not_false,Bool.and_self,if_true,nil_append,set_set]
 have:B.set i (B.getD i none)=B:=by
  apply IH
  rw [Nm,Nl N];rfl
 rw [this]
theorem uA {u:Type} (en:u->D) (Y:List u) (f:u->PV) {s:Sh} {i:Nat} {fi:FI} {fe:F1} {st:Bool} {Γ:Ev} (l:fi Γ=.ok ⟨Y.map en,st⟩ Γ) (N:i<Γ.length) (a:s.isView=false) (y:Y.length<=10000)
  (R:∀x∈Y,fe (Γ.set i (Nx (en x)))=.ok (f x) (Γ.set i (Nx (en x)))/\coer s (f x)=true):aq s i fi aK fe Γ=.ok ⟨.lst s,.list (Y.map λx=>(f x).d)⟩ Γ:=by
 rw [Iv (fc:=aK) en Y (λ_=>true) f l N a y (λ_ _=>rfl) λx G _=>R x G,List.filter_eq_self.mpr λ_ _=>rfl]
theorem nQ {u d:Type} (en:u->D) (step:d->u->d) {Inv:d->List u->Prop} {i:Nat} {body:FS} {G:d->Option PV->Ev} (l:∀b x,i<(G b x).length) (c:∀b x y,(G b x).set i y=G b y)
  (Z:∀b a r,Inv b (a::r)->body (G b (Nx (en a)))=.nx (G (step b a) (Nx (en a)))/\Inv (step b a) r):∀(Y:List u) (b:d) (x:Option PV),Inv b Y->∃y,cu i body (Y.map en) (G b x)=.nx (G (Y.foldl step b) y)/\Inv (Y.foldl step b) []
 | [],b,x,h=>⟨x,rfl,h⟩
 | a::r,b,x,h=>by
  obtain ⟨R,C⟩:=Z b a r h;obtain ⟨y,e,n⟩:=nQ en step l c Z r (step b a) (Nx (en a)) C
  refine ⟨y,?_,n⟩
  rw [map_cons,cu,if_pos (l b x),c,R];exact e
end T
namespace KC
open PySem PySem.Spec L2 T PySem.SeqAt
open PyProof.Rows hiding St
noncomputable abbrev rm (t:Nat):D:=.int (t:Int)
noncomputable abbrev aT (r:List Nat):D:=.list (r.map rm)
theorem J3 {n:Nat}:bS 0 n=(List.range n).map rm:=by
 unfold bS;simp
theorem DV {t:Nat} {r:List Nat}:bx false (rm t) (aT r)=some (.bool (r.contains t)):=by
 have h:=wj (ts:=r.map λt:Nat=>(t:Int)) (i:=t)
 rw [map_map] at h;refine h.trans ?_
 congr 2
 rw [Bool.eq_iff_iff,contains_iff_mem,contains_iff_mem,mem_map];exact ⟨λ⟨a,R,C⟩=>by rw [<-Int.ofNat_inj.mp C];exact R,λh=>⟨t,h,rfl⟩⟩
theorem notin_rms {t:Nat} {r:List Nat}:bx true (rm t) (aT r)=some (.bool (!r.contains t)):=by
 have h:=tF (ts:=r.map λt:Nat=>(t:Int)) (i:=t)
 rw [map_map] at h;refine h.trans ?_
 congr 3
 rw [Bool.eq_iff_iff,contains_iff_mem,contains_iff_mem,mem_map];exact ⟨λ⟨a,R,C⟩=>by rw [<-Int.ofNat_inj.mp C];exact R,λh=>⟨t,h,rfl⟩⟩
structure Wd where
 n:Nat
 os:List D
 m:List (List Str)
 s:List (List Nat)
noncomputable def cP (r:List Str):D:=.list (r.map .str)
noncomputable def Wd.enc (w:Wd):D:=iy w.os (w.m.map cP) (w.s.map aT)
structure Wd.Ok (w:Wd):Prop where
 g:Gw (w.n:Int) w.n w.os (w.m.map cP) (w.s.map aT)
 h1:1<=w.n
 h24:w.n<=24
 lm:w.m.length=w.n
 ls:w.s.length=w.n
 st:∀r∈w.s,r≠[]/\r.length<=30/\∀t∈r,t<w.n
 mc:∀r∈w.m,∀c∈r,PyData.strOk c=true
noncomputable def Wd.stp (w:Wd) (r:Nat):List Nat:=w.s.getD r []
noncomputable def Wd.mks (w:Wd) (r:Nat):List Str:=w.m.getD r []
theorem Wd.Ok.at2 {w:Wd} (h:w.Ok) {r:Nat} (M:r<w.n):gu (w.s.map aT) (r:Int)=some (aT (w.stp r)):=by
 refine Jo ?_
 unfold Wd.stp;rw [getElem?_map,Nm,Nl (by rw [h.ls];exact M)]
 rfl
theorem Wd.Ok.at1 {w:Wd} (h:w.Ok) {r:Nat} (M:r<w.n):gu (w.m.map cP) (r:Int)=some (cP (w.mks r)):=by
 refine Jo ?_
 unfold Wd.mks;rw [getElem?_map,Nm,Nl (by rw [h.lm];exact M)]
 rfl
theorem Wd.Ok.stp_lt {w:Wd} (h:w.Ok) {r t:Nat} (L:t∈w.stp r):t<w.n:=by
 unfold Wd.stp at L;rw [Nm] at L
 cases e:w.s[r]? with
 | none=>rw [e] at L;simp at L
 | some x=>rw [e] at L;exact (h.st x (mem_of_getElem? e)).2.2 t L
theorem Wd.Ok.stp_ne {w:Wd} (h:w.Ok) {r:Nat} (M:r<w.n):w.stp r≠[]:=by
 unfold Wd.stp;rw [Nm,Nl (by rw [h.ls];exact M)]
 exact (h.st _ (getElem_mem _)).1
inductive Wr where
 | yes | mark | not | sn | an | sa | aa | and | or | su | au
 deriving DecidableEq
noncomputable def Wr.t:Wr->Str
 | .yes => "yes" | .mark => "mark" | .not => "not" | .sn => "some next" | .an => "all next" | .sa => "some always" | .aa => "all always" | .and => "and" | .or => "or" | .su => "some until" | .au => "all until"
theorem jU (a:Wr):PyData.strOk a.t=true:=by cases a<;>decide +kernel
theorem cK (a b:Wr):bp (.str a.t) (.str b.t)=some (.bool (decide (a=b))):=by cases a<;>cases b<;>kernel_rfl
@[simp] theorem HX (a:Wr):bp (.str a.t) (.str "yes")=some (.bool (decide (a=.yes))):=cK a .yes
@[simp] theorem Jx (a:Wr):bp (.str a.t) (.str "mark")=some (.bool (decide (a=.mark))):=cK a .mark
@[simp] theorem AO (a:Wr):bp (.str a.t) (.str "not")=some (.bool (decide (a=.not))):=cK a .not
@[simp] theorem HW (a:Wr):bp (.str a.t) (.str "and")=some (.bool (decide (a=.and))):=cK a .and
@[simp] theorem wD (a:Wr):bp (.str a.t) (.str "or")=some (.bool (decide (a=.or))):=cK a .or
noncomputable def Wr.some (a:Wr):Bool:=decide (a=.sn\/a=.su\/a=.aa)
inductive U5 where
 | not | sn | an | sa | aa
 deriving DecidableEq
inductive B4 where
 | and | or | su | au
 deriving DecidableEq
noncomputable def U5.w:U5->Wr
 | .not=>.not | .sn=>.sn | .an=>.an | .sa=>.sa | .aa=>.aa
noncomputable def B4.w:B4->Wr
 | .and=>.and | .or=>.or | .su=>.su | .au=>.au
inductive Sn where
 | yes | mk (c:Str) | un (k:U5) (a:Sn) | bi (k:B4) (a b:Sn)
 deriving DecidableEq
noncomputable def Sn.w:Sn->Wr
 | .yes=>.yes | .mk _=>.mark | .un k _=>k.w | .bi k _ _=>k.w
noncomputable def Sn.args:Sn->List Sn
 | .yes=>[] | .mk _=>[] | .un _ a=>[a] | .bi _ a b=>[a,b]
noncomputable def Sn.enc:Sn->D
 | .yes=>.tuple [.str Wr.yes.t] | .mk c=>.tuple [.str Wr.mark.t,.str c] | .un k a=>.tuple [.str k.w.t,a.enc] | .bi k a b=>.tuple [.str k.w.t,a.enc,b.enc]
noncomputable def Sn.size:Sn->Nat
 | .yes=>1 | .mk _=>1 | .un _ a=>a.size+1 | .bi _ a b=>a.size+b.size+1
noncomputable def Sn.dep:Sn->Nat
 | .yes=>1 | .mk _=>1 | .un _ a=>a.dep+1 | .bi _ a b=>max a.dep b.dep+1
noncomputable def letters:List Str:=["a", "b", "c", "d", "e", "f"]
noncomputable def Sn.ok:Sn->Prop
 | .yes=>True | .mk c=>c∈letters | .un _ a=>a.ok | .bi _ a b=>a.ok/\b.ok
theorem Et {c:Str} (h:c∈letters):PyData.strOk c=true/\pw (.str c)=true:=by
 unfold letters at h;simp only [mem_cons,not_mem_nil,or_false] at h
 rcases h with rfl | rfl | rfl | rfl | rfl | rfl<;>decide +kernel
noncomputable def Hl (l:List Sn):Nat:=l.foldr (λs m=>max s.dep m) 0
theorem Sn.dep_args (s:Sn):Hl s.args+1=s.dep:=by cases s<;>simp [Sn.args,Hl,Sn.dep]
end KC
namespace KC
noncomputable def Ad (O:List (Option Nat)) (t:Nat):Option Nat:=O.getD t none
noncomputable def led (any:Bool) (l:List Nat) (P:Nat->Prop):Prop:=if any then ∃t∈l,P t else ∀t∈l,P t
theorem led_t {l:List Nat} {P:Nat->Prop}:led true l P↔∃t∈l,P t:=by unfold led;simp
theorem led_f {l:List Nat} {P:Nat->Prop}:led false l P↔∀t∈l,P t:=by unfold led;simp
theorem nJ {any:Bool} {l:List Nat} {P Q:Nat->Prop} (h:led any l P) (i:∀t∈l,P t->Q t):led any l Q:=by
 cases any with
 | true=>obtain ⟨t,L,g⟩:=led_t.mp h;exact led_t.mpr ⟨t,L,i t L g⟩
 | false=>exact led_f.mpr λt L=>i t L (led_f.mp h t L)
structure DE (n:Nat) (st:Nat->List Nat) (ch:Nat->Bool) (thr goal:List Nat) (rk:List (Option Nat)):Prop where
 len:rk.length=n
 g:∀r,r<n->r∈goal->Ad rk r=some 0
 p:∀r k,r<n->r∉goal->Ad rk r=some k->0<k/\r∈thr/\led (ch r) (st r) λt=>∃j,Ad rk t=some j/\j<k
 z:∀r,r<n->Ad rk r=none->r∉goal/\(r∉thr\/¬led (ch r) (st r) λt=>Ad rk t≠none)
noncomputable def inn (st:Nat->List Nat) (L:List Nat) (r:Nat):List Nat:=(st r).filter λt=>L.contains t
structure LU (n:Nat) (st:Nat->List Nat) (own:Nat->Bool) (T X:Nat->Prop):Prop where
 lt:∀r,X r->r<n
 c:∀r,X r->led (own r) (st r) X
 a:∀S:Nat->Prop,(∀r,X r->T r->S r)->(∀r,X r->led (own r) (st r) (λt=>X t/\S t)->S r)->∀r,X r->S r
structure Fr {α:Type} (n:Nat) (st:Nat->List Nat) (R:Nat->Prop) (M:List α) (mk:α->Nat->Prop) (X:Nat->Prop):Prop where
 lt:∀r,X r->r<n
 sub:∀r,X r->R r
 c:∀r,X r->∃t∈st r,X t
 a:∀m∈M,∀S:Nat->Prop,(∀r,X r->mk m r->S r)->(∀r,X r->(∃t∈st r,X t/\S t)->S r)->∀r,X r->S r
noncomputable def MG (n:Nat) (L:List Nat):Prop:=∃q:Nat->Bool,L=(List.range n).filter q
open PySem PySem.Spec L2 T PySem.SeqAt
open PyProof.Rows hiding St
noncomputable def oD:Option Nat->D
 | none=>.none
 | some k=>.int (k:Int)
noncomputable abbrev MT (O:List (Option Nat)):D:=.list (O.map oD)
noncomputable def cE (any:Bool) (bs:List Bool):Bool:=if any then bs.any id else bs.all id
noncomputable abbrev M6 (L:List Bool):D:=.list (L.map .bool)
noncomputable def M8 (L:List Bool) (r:Nat):Bool:=L.getD r false
noncomputable def nxt (w:Wd) (b:Nat->Bool) (a:List Nat) (O:List (Option Nat)):List Nat:=a.filter λr=>(Ad O r).isNone&&cE (b r) ((w.stp r).map λt=>(Ad O t).isSome)
theorem led_iff {any:Bool} {l:List Nat} {b:Nat->Bool}:cE any (l.map b)=true↔led any l λt=>b t=true:=by
 unfold cE led
 cases any<;>simp
inductive Unt (w:Wd) (any:Bool) (P Q:Nat->Prop):Nat->Prop where
 | now {r:Nat}:Q r->Unt w any P Q r
 | some {r t:Nat}:any=true->P r->t∈w.stp r->Unt w any P Q t->Unt w any P Q r
 | all {r:Nat}:any=false->P r->(∀t∈w.stp r,Unt w any P Q t)->Unt w any P Q r
theorem Unt.of_led {w:Wd} {any:Bool} {P Q:Nat->Prop} {r:Nat} (g:P r) (h:led any (w.stp r) (Unt w any P Q)):Unt w any P Q r:=by
 unfold led at h
 cases any with
 | true=>obtain ⟨t,L,J⟩:=(by simpa using h:∃t,t∈w.stp r/\Unt w true P Q t);exact .some rfl g L J
 | false=>exact .all rfl g (by simpa using h)
structure RS where
 rk:List (Option Nat)
 k:Nat
 fr:List Nat
 x8:Option PV
noncomputable abbrev GR (w:Wd) (L:List Bool) (a c:List Nat) (b:RS):Ev:=[Nx w.enc,Nx (M6 L),Nx (aT a),Nx (aT c),some ⟨.lst .leaf,MT b.rk⟩,Nx (.int (b.k:Int)),Nx (aT b.fr),b.x8,none]
noncomputable def ez (w:Wd):Sn->Nat->Prop
 | .yes,_=>True
 | .mk c,r=>c∈w.mks r
 | .un .not a,r=>¬ez w a r
 | .un .sn a,r=>∃t∈w.stp r,ez w a t
 | .un .an a,r=>∀t∈w.stp r,ez w a t
 | .un .sa a,r=>¬Unt w false (λ_=>True) (λt=>¬ez w a t) r
 | .un .aa a,r=>¬Unt w true (λ_=>True) (λt=>¬ez w a t) r
 | .bi .and a b,r=>ez w a r/\ez w b r
 | .bi .or a b,r=>ez w a r\/ez w b r
 | .bi .su a b,r=>Unt w true (ez w a) (ez w b) r
 | .bi .au a b,r=>Unt w false (ez w a) (ez w b) r
noncomputable def bU (w:Wd) (s:Sn) (r:Nat):Bool:=@decide (ez w s r) (Classical.propDecidable _)
theorem satB_iff {w:Wd} {s:Sn} {r:Nat}:bU w s r=true↔ez w s r:=by
 unfold bU;exact @decide_eq_true_iff _ (Classical.propDecidable _)
theorem uz {w:Wd} {s:Sn} {r:Nat} {b:Bool} (h:b=true↔ez w s r):b=bU w s r:=by
 rw [Bool.eq_iff_iff,h,satB_iff]
noncomputable def bR (w:Wd) (s:Sn):List Nat:=(List.range w.n).filter (bU w s)
theorem mem_rof {w:Wd} {s:Sn} {r:Nat}:r∈bR w s↔r<w.n/\ez w s r:=by
 unfold bR;rw [mem_filter,mem_range,satB_iff]
theorem Il {w:Wd} {s:Sn} {r:Nat} (M:r<w.n):(bR w s).contains r=bU w s r:=by
 rw [Bool.eq_iff_iff,contains_iff_mem,mem_rof,satB_iff];exact ⟨λh=>h.2,λh=>⟨M,h⟩⟩
theorem Unt.congr {w:Wd} (ok:w.Ok) {any:Bool} {P b Q C:Nat->Prop} (g:∀t,t<w.n->P t->b t) (n:∀t,t<w.n->Q t->C t) {r:Nat} (M:r<w.n) (h:Unt w any P Q r):Unt w any b C r:=by
 induction h with
 | now q=>exact .now (n _ M q)
 | some e p L _ f=>exact .some e (g _ M p) L (f (ok.stp_lt L))
 | all e p _ f=>exact .all e (g _ M p) λt L=>f t L (ok.stp_lt L)
theorem CM {c:Str} {r:List Str} (J:PyData.strOk c=true) (h:∀x∈r,PyData.strOk x=true):bx false (.str c) (cP r)=some (.bool (r.contains c)):=by
 have Y:iq (r.map PyData.str):=λa U=>by
  obtain ⟨x,G,rfl⟩:=List.mem_map.mp U;exact ⟨x,rfl,h x G⟩
 rw [cP,CP J Y];congr 2
 unfold has;simp only [List.any_map]
 rw [Bool.eq_iff_iff,any_eq_true,contains_iff_mem];constructor
 ·rintro ⟨x,G,e⟩
  have:PyData.eqv (.str x) (.str c)=true:=e
  have:x=c:=by simpa [PyData.eqv] using this
  rw [<-this];exact G
 ·intro G
  exact ⟨c,G,by show PyData.eqv (.str c) (.str c)=true;simp [PyData.eqv]⟩
theorem xO {w:Wd} (ok:w.Ok) {r:Nat}:(w.stp r).length<=10000:=by
 unfold Wd.stp;rw [Nm]
 cases e:w.s[r]? with
 | none=>simp
 | some x=>
  have:=(ok.st x (mem_of_getElem? e)).2.1
  simp only [Option.getD_some]
  omega
theorem xZ {w:Wd} (ok:w.Ok) {s:Sn}:(bR w s).length<=1000:=by
 have:=ok.h24
 exact Nat.le_trans (length_filter_le _ _) (by simp;omega)
theorem Kr {B Γ1:Ev} {q:FL} {ps:List PV} {k:Int} (N:q B=.ok ps Γ1) (g:ps.map (·.d)=[.int k]) (l:0<=k) (R:k<=1000):zl q B=.ok ⟨.lst .leaf,.list (bS 0 k.toNat)⟩ Γ1:=by
 have n:de k=true:=CN (by omega) (by omega)
 have Z:=EJ
 have f:k<=(sizeLine:Int):=by omega
 unfold zl;rw [N];simp only [Out.bind,g,jq,n,if_true,f]
theorem HQ {w:Wd} (ok:w.Ok) {B:Ev} (l:B[0]?=some (Nx w.enc)):zl (ab (bb aQ (ab (ah (ae 0) (eK (.int 0))) af)) af) B=.ok ⟨.lst .leaf,aT (List.range w.n)⟩ B:=by
 have r:=ok.g.lo
 have E:=ok.h24
 rw [Kr (Γ1:=B) (ps:=[⟨.leaf,.int w.n⟩]) (k:=(w.n:Int)) (by simp [l,Wd.enc,r]) rfl (by omega) (by omega),Int.toNat_natCast,J3]
theorem Wd.Ok.check {w:Wd} (ok:w.Ok):bf [w.enc]=.ok ⟨.leaf,.none⟩:=t8 (ok.g.wk (b:=24) ok.h24) (by omega) (ok.g.isW ok.h1 ok.h24)
end KC
namespace T
open PySem PySem.Spec L2
open PyProof.Rows hiding St
theorem ID {u:Type} (en:u->D) {i:Nat} {body:FS} {Inv:List u->Ev->Prop} (Z:∀a r B,Inv (a::r) B->i<B.length/\∃I,body (B.set i (Nx (en a)))=.nx I/\Inv r I):∀(Y:List u) (B:Ev),Inv Y B->∃I,cu i body (Y.map en) B=.nx I/\Inv [] I
 | [],B,h=>⟨B,rfl,h⟩
 | a::r,B,h=>by
  obtain ⟨l,X,R,C⟩:=Z a r B h;obtain ⟨o,e,n⟩:=ID en Z r X C;refine ⟨o,?_,n⟩
  rw [map_cons,cu,if_pos l,R];exact e
theorem Fb {B X o:Ev} {z e:F1} {s j:Sh} {Y G:List D} (U:z B=.ok ⟨s,.list Y⟩ X) (Z:e X=.ok ⟨j,.list G⟩ o) (R:aH ⟨s,.list Y⟩ Y=true) (C:aH ⟨j,.list G⟩ G=true) (y:Y.length+G.length<=10000):lK z e B=.ok ⟨.lst .leaf,.list (Y++G)⟩ o:=by
 have a:(10000:Nat)<=sizeLine:=by decide
 have:Y.length+G.length<=sizeLine:=Nat.le_trans y a
 unfold lK aY;rw [U];simp only [xw]
 rw [Z];simp only [xw,R,C,decide_eq_true this,Bool.and_self,if_true]
end T
namespace KC
open PySem PySem.Spec L2 T PySem.SeqAt
open PyProof.Rows hiding St
theorem Fd {n:Nat} {X o u:List D} (g:Gw (n:Int) n X o u) (R:1<=n) (E:n<=24):∃w:Wd,w.Ok/\w.enc=iy X o u/\w.n=n:=by
 have s:∀l:List D,(∀r∈l,∃Y,r=.list Y/\iq Y)->∃M:List (List Str),l=M.map cP/\∀r∈M,∀c∈r,PyData.strOk c=true:=by
  have one:∀Y:List D,iq Y->∃r:List Str,Y=r.map .str/\∀c∈r,PyData.strOk c=true:=by
   intro Y;induction Y with
   | nil=>intro _;exact ⟨[],rfl,by simp⟩
   | cons a r f=>
    intro h;obtain ⟨x,rfl,G⟩:=h a mem_cons_self;obtain ⟨t,rfl,L⟩:=f λb Z=>h b (Nn _ Z)
    exact ⟨x::t,rfl,λc J=>(Nk J).elim (λe=>by rw [e];exact G) (L c)⟩
  intro l;induction l with
  | nil=>intro _;exact ⟨[],rfl,by simp⟩
  | cons a r f=>
   intro h;obtain ⟨Y,rfl,G⟩:=h a mem_cons_self;obtain ⟨x,rfl,d⟩:=one Y G;obtain ⟨M,rfl,v⟩:=f λb Z=>h b (Nn _ Z)
   exact ⟨x::M,rfl,λc J=>(Nk J).elim (λe=>by rw [e];exact d) (v c)⟩
 have j:∀l:List D,(∀r∈l,∃q:List Int,r=.list (q.map .int)/\q.length<=30/\q≠[]/\(∀t∈q,0<=t/\t<(n:Int))/\q.Pairwise (· < ·))->∃S:List (List Nat),l=S.map aT/\∀r∈S,r≠[]/\r.length<=30/\∀t∈r,t<n:=by
  have one:∀q:List Int,(∀t∈q,0<=t/\t<(n:Int))->∃r:List Nat,q.map PyData.int=r.map rm/\r.length=q.length/\∀t∈r,t<n:=by
   intro q;induction q with
   | nil=>intro _;exact ⟨[],rfl,rfl,by simp⟩
   | cons a r f=>
    intro h;have U:=h a mem_cons_self
    obtain ⟨t,e,i,L⟩:=f λb Z=>h b (Nn _ Z)
    refine ⟨a.toNat::t,?_,by simp [i],λc J=>(Nk J).elim (λe=>by omega) (L c)⟩
    rw [map_cons,map_cons,e];congr 2
    omega
  intro l;induction l with
  | nil=>intro _;exact ⟨[],rfl,by simp⟩
  | cons a r f=>
   intro h;obtain ⟨q,rfl,t1,t2,t3,_⟩:=h a mem_cons_self;obtain ⟨x,e,i,G⟩:=one q t3;obtain ⟨S,rfl,y⟩:=f λb Z=>h b (Nn _ Z)
   refine ⟨x::S,by rw [map_cons,e],λc J=>(Nk J).elim (λe=>by
    subst e;exact ⟨λz=>t2 (List.length_eq_zero_iff.mp (by rw [<-i,z];rfl)),by omega,G⟩) (y c)⟩
 obtain ⟨M,k,v⟩:=s o λr m=>let ⟨Y,a,b,_⟩:=g.m r m;⟨Y,a,b⟩
 obtain ⟨S,p,y⟩:=j u g.s;subst k p;refine ⟨⟨n,X,M,S⟩,⟨g,R,E,?_,?_,y,v⟩,rfl,rfl⟩
 ·have:=g.lm;simpa using this
 ·have:=g.ls;simpa using this
noncomputable def knd:List Wr:=[.mark,.mark,.not,.and,.su,.au,.sn,.an,.sa,.aa,.or,.yes]
@[simp] theorem Ls (a:Wr):bx false (.str a.t) (.tuple [.str "and",.str "or",.str "some until",.str "all until"])=some (.bool (decide (a=.and\/a=.or\/a=.su\/a=.au))):=by cases a<;>kernel_rfl
theorem pq (l:List Int):dR (l.map .int)=some l:=by
 induction l with
 | nil=>rfl
 | cons a r f=>rw [map_cons,dR,f];rfl
end KC
namespace KQ
open PySem PySem.Spec L2 T PySem.SeqAt KC
open PyProof.Rows hiding St
noncomputable def d__law_world:FS:=(ak (ax false 3 (ar aI (eK (.int 1)) (ar cG (ag 2 aC (ab (ae 0) (ab (ae 1) af))) (ae 2))))
  (ak (ax true 4 (aW .leaf af))
  (ak (ax true 5 (aW .leaf af))
  (ak (ax true 6 (aW .leaf af))
  (ak (dn 7 (d6 (ab (ae 3) af))
  (ak (ax false 8 (ag 2 aC (ab (ae 0) (ab (ar aI (ar aI (ae 1) (eK (.int 1))) (ae 7)) af))))
  (ak (aF 4 (ag 3 ao (ab (ae 8) (ab (eK (.int 0)) (ab (eK (.int 2)) af)))))
  (ak (aF 5 (aq .leaf 11 (Ar "abc") (aM ai (ar bp (ag 3 ao (ab (ae 8) (ab (ar aI (eK (.int 1)) (bb (Ax "abc") (ab (ae 11) af))) (ab (eK (.int 2)) af)))) (eK (.int 1)))) (ae 11)))
  (ak (ax false 9 (aq .leaf 10 (d6 (ab (ae 3) af)) (aM ai (ar bp (ag 3 ao (ab (ae 8) (ab (ar aI (eK (.int 4)) (ae 10)) (ab (ar aI (eK (.int 2)) (bb gF (ab (ar jf (ae 3) (eK (.int 3))) af))) af)))) (eK (.int 1)))) (ae 10)))
  (ak (b8 (aM ai (ar bp (ae 9) (aW .leaf af))) (ax false 9 (aW .leaf (ab (ag 3 ao (ab (ae 8) (ab (ar aI (eK (.int 4)) (ae 3)) (ab (ae 3) af)))) af))) aJ)
  (aF 6 (ae 9))))))))
  (aE (bz (ab (bX 4) (ab (bX 5) (ab (bX 6) af))))))))))
noncomputable def m__law_world:List Nw->bA:=aB 12 d__law_world
noncomputable abbrev eW:FS:=(ak (ax false 8 (ag 2 aC (ab (ae 0) (ab (ar aI (ar aI (ae 1) (eK (.int 1))) (ae 7)) af))))
  (ak (aF 4 (ag 3 ao (ab (ae 8) (ab (eK (.int 0)) (ab (eK (.int 2)) af)))))
  (ak (aF 5 (aq .leaf 11 (Ar "abc") (aM ai (ar bp (ag 3 ao (ab (ae 8) (ab (ar aI (eK (.int 1)) (bb (Ax "abc") (ab (ae 11) af))) (ab (eK (.int 2)) af)))) (eK (.int 1)))) (ae 11)))
  (ak (ax false 9 (aq .leaf 10 (d6 (ab (ae 3) af)) (aM ai (ar bp (ag 3 ao (ab (ae 8) (ab (ar aI (eK (.int 4)) (ae 10)) (ab (ar aI (eK (.int 2)) (bb gF (ab (ar jf (ae 3) (eK (.int 3))) af))) af)))) (eK (.int 1)))) (ae 10)))
  (ak (b8 (aM ai (ar bp (ae 9) (aW .leaf af))) (ax false 9 (aW .leaf (ab (ag 3 ao (ab (ae 8) (ab (ar aI (eK (.int 4)) (ae 3)) (ab (ae 3) af)))) af))) aJ)
  (aF 6 (ae 9)))))))
end KQ
namespace KC
open PySem PySem.Spec L2 T PySem.SeqAt
open PyProof.Rows hiding St
theorem rW {n:Nat} {q:FL} {B:Ev} {s:Sh} (y:n<=1000) (h:q B=.ok [⟨s,.int (n:Int)⟩] B):d6 q B=.ok ⟨(List.range n).map rm,true⟩ B:=by
 rw [se (k:=(n:Int)) h rfl (by omega) (by omega),Int.toNat_natCast,J3]
noncomputable def MX (p:Int):D->Bool
 | .int o=>o==p
 | _=>false
noncomputable def own (w:Wd) (p:Int):Nat->Bool:=M8 (w.os.map (MX p))
noncomputable def Wd.inn (w:Wd) (L:List Nat):Wd:=⟨w.n,w.os,w.m,w.s.map λf=>f.filter λt=>L.contains t⟩
noncomputable abbrev gl (T L:List Nat):List Nat:=L.filter λr=>T.contains r
noncomputable abbrev lst (O:List (Option Nat)) (L:List Nat):List Nat:=L.filter λr=>(Ad O r).isNone
noncomputable def IU (c:List (Option (Nat×Nat))) (t:Nat):Option (Nat×Nat):=c.getD t none
noncomputable def L1 (c:List (Option (Nat×Nat))) (a b t:Nat):Prop:=∃Z r,IU c t=some (Z,r)/\(Z<a\/(Z=a/\(r<b\/(b=0/\r=0))))
structure TS where
 tn:List (Option (Nat×Nat))
 L:List Nat
 k:Nat
 lost:List Nat
 x7:Option PV
 x8:Option PV
structure TI (w:Wd) (p:Int) (T:List Nat) (b:TS):Prop where
 len:b.tn.length=w.n
 std:MG w.n b.L
 mem:∀r,r<w.n->(r∈b.L↔IU b.tn r=none)
 c:∀r∈b.L,led (own w p r) (w.stp r) (·∈b.L)
 big:∀X,LU w.n w.stp (own w p) (·∈T) X->∀r,X r->r∈b.L
 los:∃rk,DE w.n (inn w.stp b.L) (own w p) b.L (gl T b.L) rk/\b.lost=lst rk b.L
 tk:∀r a j,IU b.tn r=some (a,j)->a<b.k
 td:∀r a j,r<w.n->IU b.tn r=some (a,j)->(j=0->r∉T)/\led (!own w p r) (w.stp r) (L1 b.tn a j)
noncomputable abbrev Lp (w:Wd) (c:Str) (r:Nat):Prop:=c∈w.mks r
structure HN (w:Wd) (M:List Str) (L off:List Nat):Prop where
 ne:off≠[]
 sub:∀r∈off,r∈L
 no:∀(R:Nat->Prop) X,Fr w.n w.stp R M (Lp w) X->(∀r,X r->r∈L)->∀r∈off,¬X r
structure HS (w:Wd) (M:List Str) (L:List Nat):Prop where
 c:∀r∈L,∃t∈w.stp r,t∈L
 a:∀m∈M,∀S:Nat->Prop,(∀r,r∈L->Lp w m r->S r)->(∀r,r∈L->(∃t∈w.stp r,t∈L/\S t)->S r)->∀r,r∈L->S r
structure Nb where
 rows:List D
 L:List Nat
 row:D
structure FI (w:Wd) (R:List Nat) (M:List Str) (b:Nb):Prop where
 std:MG w.n b.L
 sub:∀r∈b.L,r∈R
 cnt:b.rows.length+b.L.length<=w.n
 big:∀X,Fr w.n w.stp (·∈R) M (Lp w) X->∀r,X r->r∈b.L
 row:(b.row=.none/\HS w M b.L)\/(∃off o,b.row=.tuple [aT off,o]/\HN w M b.L off)
theorem xV {w:Wd} (ok:w.Ok) {B:Ev} {i:Nat} (l:B[i]?=some (Nx w.enc)):bb aQ (ab (ah (ae i) (eK (.int 0))) af) B=.ok ⟨.leaf,.int (w.n:Int)⟩ B:=by
 have e:ah (ae i) (eK (.int 0)) B=.ok ⟨.leaf,.list w.os⟩ B:=by
  rw [mV,aw l];simp only [Out.bind,aO,Wd.enc,iy,vf,Gc]
 refine b4 (az e aj) ?_
 simp [ok.g.lo]
end KC
namespace KC
open PySem PySem.Spec L2 T
open PyProof.Rows hiding St
noncomputable def lP:FS:=(b8 (eO (aM ai (dt Ej me (eK (.int 0)) (ae 1) (bb aQ (ab (ah (ae 0) (eK (.int 0))) af))))) FM aJ)
noncomputable def bN:List Nw->bA:=aB 2 lP
open PySem.SeqAt
noncomputable def Wr.ofS (a:Wr):Bool:=decide (a=.sn\/a=.su\/a=.sa)
noncomputable def Wr.ofA (a:Wr):Bool:=decide (a=.an\/a=.au\/a=.aa)
noncomputable def Sn.tm (s:Sn):Bool:=s.w.ofS||s.w.ofA
noncomputable def nx1 (F R:List Nat):Nat:=if 1<F.length then F.getD 1 0 else R.getD ((1-F.length) % R.length) 0
noncomputable def ig:FS:=(ak (ax true 3 (aW .leaf af))
  (ak (dn 4 (d6 (ab (bb aQ (ab (ah (ae 0) (eK (.int 0))) af)) af))
  (ak (ax false 5 (aq .leaf 6 (aU (ah (ah (ae 0) (eK (.int 2))) (ae 4))) (aM ai (ar (bx false) (ae 6) (ae 1))) (ae 6)))
  (b8 (gp (aM ai (ar bp (bb aQ (ab (ae 5) af)) (bb aQ (ab (ah (ah (ae 0) (eK (.int 2))) (ae 4)) af)))) (gq (eO (aM cF (ae 2))) (aM ai (ar jf (bb aQ (ab (ae 5) af)) (eK (.int 0)))))) (aF 3 (ae 4)) aJ)))
  (aE (bX 3))))
noncomputable def bE:List Nw->bA:=aB 7 ig
noncomputable def lQ:FS:=(ak (ax false 4 (ae 2))
  (ak (dn 5 (d6 (ab (bb aQ (ab (ah (ae 0) (eK (.int 0))) af)) af))
  (ak (ax false 6 (ag 3 bE (ab (ae 0) (ab (ae 4) (ab (ae 3) af)))))
  (ax false 4 (fC (ab (lK (ae 2) (aq .leaf 7 (aU (ae 1)) (gq (aM ai (ar (bx false) (ae 7) (ae 6))) (aM ai (ar (bx true) (ae 7) (ae 2)))) (ae 7))) af)))))
  (aE (ae 4))))
noncomputable def cN:List Nw->bA:=aB 8 lQ
noncomputable def gk (a:List Nw->bA):FS:=(ak (ax false 2 (zl (ab (bb aQ (ab (ah (ae 0) (eK (.int 0))) af)) af)))
  (ak (ax false 3 (ah (ae 1) (eK (.int 0))))
  (ak (b8 (aM ai (ar bp (ae 3) (eK (.str "yes")))) (aE (ae 2)) aJ)
  (ak (b8 (aM ai (ar bp (ae 3) (eK (.str "mark")))) (aE (aq .leaf 8 (aU (ae 2)) (aM ai (ar (bx false) (ah (ae 1) (eK (.int 1))) (ah (ah (ae 0) (eK (.int 1))) (ae 8)))) (ae 8))) aJ)
  (ak (ax false 4 (ag 2 a (ab (ae 0) (ab (ah (ae 1) (eK (.int 1))) af))))
  (ak (ax false 5 (aq .leaf 8 (aU (ae 2)) (aM ai (ar (bx true) (ae 8) (ae 4))) (ae 8)))
  (ak (b8 (aM ai (ar bp (ae 3) (eK (.str "not")))) (aE (ae 5)) aJ)
  (ak (b8 (gp (aM ai (ar bp (ae 3) (eK (.str "some next")))) (aM ai (ar bp (ae 3) (eK (.str "all next"))))) (aE (ag 3 bE (ab (ae 0) (ab (ae 4) (ab (ar bp (ae 3) (eK (.str "all next"))) af))))) aJ)
  (ak (b8 (gp (aM ai (ar bp (ae 3) (eK (.str "some always")))) (aM ai (ar bp (ae 3) (eK (.str "all always"))))) (ak (ax false 7 (ag 4 cN (ab (ae 0) (ab (ae 2) (ab (ae 5) (ab (ar bp (ae 3) (eK (.str "some always"))) af))))))
  (aE (aq .leaf 8 (aU (ae 2)) (aM ai (ar (bx true) (ae 8) (ae 7))) (ae 8)))) aJ)
  (ak (ax false 6 (ag 2 a (ab (ae 0) (ab (ah (ae 1) (eK (.int 2))) af))))
  (ak (b8 (aM ai (ar bp (ae 3) (eK (.str "and")))) (aE (aq .leaf 8 (aU (ae 4)) (aM ai (ar (bx false) (ae 8) (ae 6))) (ae 8))) aJ)
  (ak (b8 (aM ai (ar bp (ae 3) (eK (.str "or")))) (aE (aq .leaf 8 (aU (ae 2)) (gp (aM ai (ar (bx false) (ae 8) (ae 4))) (aM ai (ar (bx false) (ae 8) (ae 6)))) (ae 8))) aJ)
  (aE (ag 4 cN (ab (ae 0) (ab (ae 4) (ab (ae 6) (ab (ar bp (ae 3) (eK (.str "all until"))) af))))))))))))))))))
noncomputable def bo:Nat->List Nw->bA
 | 0=>λ_=>.no
 | n+1=>aB 9 (gk (bo n))
noncomputable def m__law_judge:List Nw->bA:=bo 20
open PySem.SeqAt
noncomputable abbrev bq (w:Wd) (p:Nat->Bool):List Nat:=(List.range w.n).filter p
theorem mem_fil {w:Wd} {p:Nat->Bool} {r:Nat}:r∈bq w p↔r<w.n/\p r=true:=by rw [mem_filter,mem_range]
theorem D5 {w:Wd} {p:Nat->Bool} {r:Nat} (M:r<w.n):(bq w p).contains r=p r:=by
 rw [Bool.eq_iff_iff,contains_iff_mem,mem_fil];exact ⟨λh=>h.2,λh=>⟨M,h⟩⟩
theorem xl {w:Wd} {p q:Nat->Bool} (h:∀r,r<w.n->p r=q r):bq w p=bq w q:=filter_congr λr M=>h r (List.mem_range.mp M)
theorem Ik {w:Wd} {p:Nat->Bool}:(bq w p).length<=w.n:=Nat.le_trans (length_filter_le _ _) (by simp)
theorem pC {l:List Nat} {p:Nat->Bool}:((l.filter p).length=l.length↔l.all p=true)/\(0<(l.filter p).length↔l.any p=true):=by
 induction l with
 | nil=>simp
 | cons a r f=>
  have:=length_filter_le p r
  rw [filter_cons]
  cases h:p a with
  | true=>simp only [if_true,length_cons,List.all_cons,any_cons,h,Bool.true_and,Bool.true_or,Nat.add_right_cancel_iff];exact ⟨f.1,by simp⟩
  | false=>simp only [Bool.false_eq_true,if_false,length_cons,List.all_cons,any_cons,h,Bool.false_and,Bool.false_or];exact ⟨⟨λz=>by omega,λz=>by cases z⟩,f.2⟩
theorem AK {w:Wd} (ok:w.Ok) {B:Ev} (l:B[0]?=some (Nx w.enc)):d6 (ab (bb aQ (ab (ah (ae 0) (eK (.int 0))) af)) af) B=.ok ⟨(List.range w.n).map rm,true⟩ B:=by
 have r:=ok.g.lo
 have E:=ok.h24
 refine (se (k:=(w.n:Int)) (ps:=[⟨.leaf,.int w.n⟩]) ?_ rfl (by omega) (by omega)).trans (by rw [<-J3];rfl)
 simp [l,Wd.enc,r]
theorem Kn {w:Wd} (ok:w.Ok) {p:Nat->Bool} {each:Bool}:bE [w.enc,aT (bq w p),.bool each]=.ok ⟨.lst .leaf,aT (bq w λr=>cE (!each) ((w.stp r).map p))⟩:=by
 have E:=ok.h24
 obtain ⟨I,e,b,o,C,rfl,Z⟩:=ID rm (i:=4) (body:=(ak (ax false 5 (aq .leaf 6 (aU (ah (ah (ae 0) (eK (.int 2))) (ae 4))) (aM ai (ar (bx false) (ae 6) (ae 1))) (ae 6)))
  (b8 (gp (aM ai (ar bp (bb aQ (ab (ae 5) af)) (bb aQ (ab (ah (ah (ae 0) (eK (.int 2))) (ae 4)) af)))) (gq (eO (aM cF (ae 2))) (aM ai (ar jf (bb aQ (ab (ae 5) af)) (eK (.int 0)))))) (aF 3 (ae 4)) aJ)))
  (Inv:=λr B=>∃b o C,B=[Nx w.enc,Nx (aT (bq w p)),Nx (.bool each),some ⟨.lst .leaf,aT b⟩,o,C,none]/\∃l,l++r=List.range w.n/\b=l.filter λr=>cE (!each) ((w.stp r).map p)) (λr rest B ⟨b,o,C,hΓ,l,N,Z⟩=>by
   subst hΓ;have M:r<w.n:=List.mem_range.mp (by rw [<-N];simp)
   have a:b.length<=24:=by
    rw [Z];refine Nat.le_trans (length_filter_le _ _) ?_
    have:=congrArg List.length N
    simp at this
    omega
   have f:=ok.at2 M
   have z:aq .leaf 6 (aU (ah (ah (ae 0) (eK (.int 2))) (ae 4))) (aM ai (ar (bx false) (ae 6) (ae 1))) (ae 6) [Nx w.enc,Nx (aT (bq w p)),Nx (.bool each),some ⟨.lst .leaf,aT b⟩,Nx (rm r),C,none]=.ok ⟨.lst .leaf,aT ((w.stp r).filter p)⟩ [Nx w.enc,Nx (aT (bq w p)),Nx (.bool each),some ⟨.lst .leaf,aT b⟩,Nx (rm r),C,none]:=by
    have d:(w.stp r).filter p=(w.stp r).filter λt=>(bq w p).contains t:=filter_congr λt L=>(D5 (ok.stp_lt L)).symm
    rw [d];exact Iv rm (w.stp r) (λt=>(bq w p).contains t) (λt=>⟨.leaf,rm t⟩) (st:=true) (by simp [Wd.enc,f]) (by simp) rfl (xO ok) (λt L=>by simp [DV]) (λt L _=>by simp)
   have q:=pC (l:=w.stp r) (p:=p)
   have K:=ok.stp_ne M
   have H:(decide (((w.stp r).filter p).length=(w.stp r).length)||(!each&&decide (0<((w.stp r).filter p).length)))=cE (!each) ((w.stp r).map p):=by
    rw [Bool.eq_iff_iff];simp only [Bool.or_eq_true,Bool.and_eq_true,decide_eq_true_eq,q.1,q.2]
    cases each with
    | true=>simp [cE]
    | false=>
     simp only [cE,Bool.not_false,if_true,List.any_map,true_and]
     constructor
     ·rintro (h | h)
      ·obtain ⟨t,L⟩:=exists_mem_of_ne_nil _ K
       exact List.any_eq_true.mpr ⟨t,L,List.all_eq_true.mp h t L⟩
      ·exact h
     ·exact .inr
   have m:aF 3 (ae 4) [Nx w.enc,Nx (aT (bq w p)),Nx (.bool each),some ⟨.lst .leaf,aT b⟩,Nx (rm r),Nx (aT ((w.stp r).filter p)),none]=.nx [Nx w.enc,Nx (aT (bq w p)),Nx (.bool each),some ⟨.lst .leaf,.list (b.map rm++[rm r])⟩,Nx (rm r),Nx (aT ((w.stp r).filter p)),none]:=
    Dz rfl (aw rfl) rfl (by simp;omega)
   have u:(gp (aM ai (ar bp (bb aQ (ab (ae 5) af)) (bb aQ (ab (ah (ah (ae 0) (eK (.int 2))) (ae 4)) af)))) (gq (eO (aM cF (ae 2))) (aM ai (ar jf (bb aQ (ab (ae 5) af)) (eK (.int 0)))))) [Nx w.enc,Nx (aT (bq w p)),Nx (.bool each),some ⟨.lst .leaf,aT b⟩,Nx (rm r),Nx (aT ((w.stp r).filter p)),none]=.ok (cE (!each) ((w.stp r).map p)) [Nx w.enc,Nx (aT (bq w p)),Nx (.bool each),some ⟨.lst .leaf,aT b⟩,Nx (rm r),Nx (aT ((w.stp r).filter p)),none]:=by
    rw [<-H];have g:bp (.int (((w.stp r).filter p).map rm).length) (.int ((w.stp r).map rm).length)=some (.bool (decide (((w.stp r).filter p).length=(w.stp r).length))):=by
     rw [eq_int,length_map,length_map];congr 2
     rw [Bool.eq_iff_iff,beq_iff_eq,decide_eq_true_eq];omega
    have F:jf (.int (((w.stp r).filter p).map rm).length) (.int 0)=some (.bool (decide (0<((w.stp r).filter p).length))):=by
     rw [F9,length_map];congr 2
     rw [Bool.eq_iff_iff,decide_eq_true_eq,decide_eq_true_eq];omega
    have c:ah (ah (ae 0) (eK (.int 2))) (ae 4) [Nx w.enc,Nx (aT (bq w p)),Nx (.bool each),some ⟨.lst .leaf,aT b⟩,Nx (rm r),Nx (aT ((w.stp r).filter p)),none]=.ok ⟨.leaf,aT (w.stp r)⟩ [Nx w.enc,Nx (aT (bq w p)),Nx (.bool each),some ⟨.lst .leaf,aT b⟩,Nx (rm r),Nx (aT ((w.stp r).filter p)),none]:=by simp [Wd.enc,f]
    exact d8 (cH (aA (b4 (az (aw rfl) aj) rfl) (b4 (az c aj) rfl) g)) (AH (kO (kN (aw rfl))) (cH (aA (b4 (az (aw rfl) aj) rfl) aO F)))
   refine ⟨by simp,?_⟩
   have A:ax false 5 (aq .leaf 6 (aU (ah (ah (ae 0) (eK (.int 2))) (ae 4))) (aM ai (ar (bx false) (ae 6) (ae 1))) (ae 6)) [Nx w.enc,Nx (aT (bq w p)),Nx (.bool each),some ⟨.lst .leaf,aT b⟩,Nx (rm r),C,none]=.nx [Nx w.enc,Nx (aT (bq w p)),Nx (.bool each),some ⟨.lst .leaf,aT b⟩,Nx (rm r),Nx (aT ((w.stp r).filter p)),none]:=by rw [F8,z];simp
   cases L:cE (!each) ((w.stp r).map p) with
   | false=>
    rw [L] at u;refine ⟨_,ay A (bJ u nofun (λ_=>rfl)),b,_,_,rfl,l++[r],by rw [append_assoc];exact N,?_⟩
    rw [filter_append,filter_cons_of_neg (by rw [L];simp),Z]
    simp
   | true=>
    rw [L] at u;refine ⟨_,ay A (bJ u (λ_=>m) nofun),b++[r],Nx (rm r),Nx (aT ((w.stp r).filter p)),by simp,l++[r],by rw [append_assoc];exact N,?_⟩
    rw [filter_append,Z];simp [L]) (List.range w.n) [Nx w.enc,Nx (aT (bq w p)),Nx (.bool each),some ⟨.lst .leaf,aT []⟩,none,none,none] ⟨_,_,_,rfl,[],rfl,rfl⟩
 obtain ⟨l,N,Z⟩:=Z;rw [append_nil] at N;subst N Z;exact aV (ay (DS (pY (s:=.leaf) aj rfl rfl rfl) rfl (by simp [aN])) (ay (gN (AK ok rfl) e) (aX (Ex rfl) rfl)))
noncomputable def bY (w:Wd) (any:Bool) (a b:Nat->Bool):Nat->Nat->Bool
 | 0,r=>b r
 | t+1,r=>b r||(a r&&cE any ((w.stp r).map (bY w any a b t)))
theorem kj {any:Bool} {l:List Nat} {p q:Nat->Bool} (h:∀t∈l,p t=true->q t=true) (g:cE any (l.map p)=true):cE any (l.map q)=true:=led_iff.mpr (nJ (led_iff.mp g) h)
theorem qg {w:Wd} {any:Bool} {a b:Nat->Bool}:∀(t r:Nat),bY w any a b t r=true->bY w any a b (t+1) r=true
 | 0,r,h=>by
  have h:b r=true:=h
  simp [bY,h]
 | t+1,r,h=>by
  rw [bY,Bool.or_eq_true,Bool.and_eq_true] at h ⊢;exact h.imp id λ⟨R,C⟩=>⟨R,kj (λx _=>qg t x) C⟩
theorem Du {l:List Nat} {p q:Nat->Bool} (h:∀r∈l,p r=true->q r=true):(l.filter p).length<=(l.filter q).length/\((l.filter q).length<=(l.filter p).length->∀r∈l,q r=true->p r=true):=by
 induction l with
 | nil=>simp
 | cons x r f=>
  obtain ⟨b,d⟩:=f λy o=>h y (Nn _ o)
  have G:=h x mem_cons_self
  rw [filter_cons,filter_cons]
  cases g:p x with
  | true=>
   simp only [G g,if_true,length_cons]
   refine ⟨by omega,λz y o n=>?_⟩
   rcases Nk o with rfl | o
   ·exact g
   ·exact d (by omega) y o n
  | false=>
   cases n:q x with
   | true=>
    simp only [Bool.false_eq_true,if_false,if_true,length_cons]
    refine ⟨by omega,λz=>by omega⟩
   | false=>
    simp only [Bool.false_eq_true,if_false]
    refine ⟨b,λz y o U=>?_⟩
    rcases Nk o with rfl | o
    ·rw [n] at U;cases U
    ·exact d z y o U
theorem jZ {w:Wd} (ok:w.Ok) {any:Bool} {a b:Nat->Bool}:∀r,r<w.n->bY w any a b (w.n+1) r=true->bY w any a b w.n r=true:=by
 have stay:∀t,(∀r,r<w.n->bY w any a b (t+1) r=true->bY w any a b t r=true)->∀r,r<w.n->bY w any a b (t+2) r=true->bY w any a b (t+1) r=true:=λt h r M J=>by
  rw [bY,Bool.or_eq_true,Bool.and_eq_true] at J ⊢;exact J.imp id λ⟨R,C⟩=>⟨R,kj (λx G=>h x (ok.stp_lt G)) C⟩
 have N:∀t,(∀r,r<w.n->bY w any a b (t+1) r=true->bY w any a b t r=true)\/t+1<=(bq w (bY w any a b (t+1))).length:=λt=>by
  induction t with
  | zero=>
   by_cases h:∀r,r<w.n->bY w any a b 1 r=true->bY w any a b 0 r=true
   ·exact .inl h
   ·refine .inr ?_
    obtain ⟨r,M⟩:=Classical.not_forall.mp h;obtain ⟨R,C⟩:=Classical.not_imp.mp M;obtain ⟨n,_⟩:=Classical.not_imp.mp C;exact length_pos_of_mem (mem_fil.mpr ⟨R,n⟩)
  | succ t f=>
   rcases f with f | f
   ·exact .inl (stay t f)
   ·obtain ⟨z,c⟩:(bq w (bY w any a b (t+1))).length<=(bq w (bY w any a b (t+2))).length/\((bq w (bY w any a b (t+2))).length<=(bq w (bY w any a b (t+1))).length->∀r∈List.range w.n,bY w any a b (t+2) r=true->bY w any a b (t+1) r=true):=Du (l:=List.range w.n) (p:=bY w any a b (t+1)) (q:=bY w any a b (t+2)) λr _=>qg _ _
    by_cases h:(bq w (bY w any a b (t+2))).length<=(bq w (bY w any a b (t+1))).length
    ·exact .inl λr M=>c h r (List.mem_range.mpr M)
    ·refine .inr ?_
     show t+1+1<=(bq w (bY w any a b (t+2))).length
     omega
 rcases N w.n with h | h
 ·exact h
 ·have:=Ik (w:=w) (p:=bY w any a b (w.n+1))
  omega
theorem Ii {w:Wd} (ok:w.Ok) {any:Bool} {a b:Nat->Bool} {r:Nat} (M:r<w.n):bY w any a b w.n r=true↔Unt w any (λt=>a t=true) (λt=>b t=true) r:=by
 constructor
 ·have:∀t r,bY w any a b t r=true->Unt w any (λt=>a t=true) (λt=>b t=true) r:=by
   intro t;induction t with
   | zero=>exact λr h=>.now h
   | succ t f=>
    intro r h;rw [bY,Bool.or_eq_true,Bool.and_eq_true] at h;rcases h with h | ⟨h1,h2⟩
    ·exact .now h
    ·exact .of_led h1 (nJ (led_iff.mp h2) λx _=>f x)
  exact this _ _
 ·intro h
  have l:∀t r,b r=true->bY w any a b t r=true:=λt r h=>by
   cases t<;>simp [bY,h]
  induction h with
  | now q=>exact l _ _ q
  | @some r t e hp L _ f=>
   refine jZ ok r M ?_
   rw [bY,hp,Bool.true_and,Bool.or_eq_true];exact .inr (led_iff.mpr (by subst e;unfold led;simpa using ⟨t,L,f (ok.stp_lt L)⟩))
  | @all r e hp _ f=>
   refine jZ ok r M ?_
   rw [bY,hp,Bool.true_and,Bool.or_eq_true];exact .inr (led_iff.mpr (by subst e;unfold led;simpa using λt L=>f t L (ok.stp_lt L)))
theorem uU {w:Wd} {l:List Nat} {p:Nat->Bool} (J:l.Nodup) (h:∀r,r∈l↔r<w.n/\p r=true):PySem.W.sortI (l.map λt:Nat=>(t:Int))=(bq w p).map λt:Nat=>(t:Int):=by
 refine (PySem.W.eq_sortI ?_ ?_).symm
 ·refine List.Perm.map _ ?_
  exact (List.perm_ext_iff_of_nodup (List.nodup_range.filter _) J).mpr λr=>by rw [h,mem_fil]
 ·rw [pairwise_map]
  exact (List.pairwise_lt_range.filter _).imp λh=>by omega
theorem IC {w:Wd} (ok:w.Ok) {a b:Nat->Bool} {each:Bool}:cN [w.enc,aT (bq w a),aT (bq w b),.bool each]=.ok ⟨.leaf,aT (bq w (bY w (!each) a b w.n))⟩:=by
 have E:=ok.h24
 obtain ⟨I,e,k,j,rfl,_⟩:=ID rm (i:=5) (body:=(ak (ax false 6 (ag 3 bE (ab (ae 0) (ab (ae 4) (ab (ae 3) af)))))
  (ax false 4 (fC (ab (lK (ae 2) (aq .leaf 7 (aU (ae 1)) (gq (aM ai (ar (bx false) (ae 7) (ae 6))) (aM ai (ar (bx true) (ae 7) (ae 2)))) (ae 7))) af)))))
  (Inv:=λr B=>∃k j,B=[Nx w.enc,Nx (aT (bq w a)),Nx (aT (bq w b)),Nx (.bool each),Nx (aT (bq w (bY w (!each) a b (w.n-r.length)))),k,j,none]/\r.length<=w.n) (λr rest B ⟨k,j,hΓ,hl⟩=>by
   subst hΓ;simp only [length_cons] at hl
   obtain ⟨t,L⟩:∃t,w.n-rest.length=t+1:=⟨w.n-rest.length-1,by omega⟩
   have f:w.n-(r::rest).length=t:=by simp only [length_cons];omega
   rw [f];have N:=Kn ok (p:=bY w (!each) a b t) (each:=each)
   refine ⟨by simp,[Nx w.enc,Nx (aT (bq w a)),Nx (aT (bq w b)),Nx (.bool each),Nx (aT (bq w (bY w (!each) a b (t+1)))),Nx (rm r),Nx (aT (bq w λr=>cE (!each) ((w.stp r).map (bY w (!each) a b t)))),none],?_,_,_,by rw [L],by omega⟩
   have z:aq .leaf 7 (aU (ae 1)) (gq (aM ai (ar (bx false) (ae 7) (ae 6))) (aM ai (ar (bx true) (ae 7) (ae 2)))) (ae 7) [Nx w.enc,Nx (aT (bq w a)),Nx (aT (bq w b)),Nx (.bool each),Nx (aT (bq w (bY w (!each) a b t))),Nx (rm r),Nx (aT (bq w λr=>cE (!each) ((w.stp r).map (bY w (!each) a b t)))),none]
     = .ok ⟨.lst .leaf,aT ((bq w a).filter λO=>(bq w λr=>cE (!each) ((w.stp r).map (bY w (!each) a b t))).contains O&&!(bq w b).contains O)⟩ [Nx w.enc,Nx (aT (bq w a)),Nx (aT (bq w b)),Nx (.bool each),Nx (aT (bq w (bY w (!each) a b t))),Nx (rm r),Nx (aT (bq w λr=>cE (!each) ((w.stp r).map (bY w (!each) a b t)))),none]:=by
    refine Iv rm (bq w a) _ (λt=>⟨.leaf,rm t⟩) (st:=true) (by simp) (by simp) rfl (by have:=Ik (w:=w) (p:=a);omega) (λO M=>?_) (λO M _=>by simp)
    exact AH (cH (aA (aw rfl) (aw rfl) DV)) (cH (aA (aw rfl) (aw rfl) notin_rms))
   have h:PySem.W.sortI ((bq w b++(bq w a).filter λO=>(bq w λr=>cE (!each) ((w.stp r).map (bY w (!each) a b t))).contains O&&!(bq w b).contains O).map λt:Nat=>(t:Int))=(bq w (bY w (!each) a b (t+1))).map λt:Nat=>(t:Int):=by
    refine uU ?_ λr=>?_
    ·refine List.nodup_append.mpr ⟨List.nodup_range.filter _,(List.nodup_range.filter _).filter _,λx G y o e=>?_⟩
     subst e;have:=(List.mem_filter.mp o).2
     rw [Bool.and_eq_true,Bool.not_eq_true'] at this;rw [List.contains_iff_mem.mpr G] at this;exact absurd this.2 (by simp)
    ·rw [mem_append,mem_fil,mem_filter,mem_fil,bY,Bool.or_eq_true,Bool.and_eq_true,Bool.and_eq_true,Bool.not_eq_true']
     constructor
     ·rintro (⟨R,C⟩ | ⟨⟨R,C⟩,n,h4⟩)
      ·exact ⟨R,.inl C⟩
      ·rw [D5 R] at n
       exact ⟨R,.inr ⟨C,n⟩⟩
     ·rintro ⟨R,C | ⟨C,n⟩⟩
      ·exact .inl ⟨R,C⟩
      ·by_cases Z:b r=true
       ·exact .inl ⟨R,Z⟩
       ·rw [D5 R,D5 R]
        exact .inr ⟨⟨R,C⟩,n,by simpa using Z⟩
   have J:=Ik (w:=w) (p:=b)
   have q:((bq w a).filter λO=>(bq w λr=>cE (!each) ((w.stp r).map (bY w (!each) a b t))).contains O&&!(bq w b).contains O).length<=w.n:=Nat.le_trans (length_filter_le _ _) Ik
   have c:fC (ab (lK (ae 2) (aq .leaf 7 (aU (ae 1)) (gq (aM ai (ar (bx false) (ae 7) (ae 6))) (aM ai (ar (bx true) (ae 7) (ae 2)))) (ae 7))) af) [Nx w.enc,Nx (aT (bq w a)),Nx (aT (bq w b)),Nx (.bool each),Nx (aT (bq w (bY w (!each) a b t))),Nx (rm r),Nx (aT (bq w λr=>cE (!each) ((w.stp r).map (bY w (!each) a b t)))),none]
     = .ok ⟨.lst .leaf,aT (bq w (bY w (!each) a b (t+1)))⟩ [Nx w.enc,Nx (aT (bq w a)),Nx (aT (bq w b)),Nx (.bool each),Nx (aT (bq w (bY w (!each) a b t))),Nx (rm r),Nx (aT (bq w λr=>cE (!each) ((w.stp r).map (bY w (!each) a b t)))),none]:=by
    have g:=Fb (aw (i:=2) (d:=aT (bq w b)) rfl) z rfl rfl (by rw [length_map,length_map];omega)
    unfold fC;rw [az g aj];simp only [xw,map_cons,map_nil,dN]
    rw [<-map_append,show (bq w b++(bq w a).filter λO=>(bq w λr=>cE (!each) ((w.stp r).map (bY w (!each) a b t))).contains O&&!(bq w b).contains O).map rm=((bq w b++(bq w a).filter λO=>(bq w λr=>cE (!each) ((w.stp r).map (bY w (!each) a b t))).contains O&&!(bq w b).contains O).map λt:Nat=>(t:Int)).map PyData.int from by rw [map_map];rfl,pq]
    simp only
    rw [if_pos (by rw [length_map,length_append];omega),h,map_map]
    rfl
   exact ay (dJ (cv (az (aw rfl) (az (aw rfl) (az (aw rfl) aj))) N rfl rfl) rfl (by simp)) (dJ c rfl (by simp))) (List.range w.n) [Nx w.enc,Nx (aT (bq w a)),Nx (aT (bq w b)),Nx (.bool each),Nx (aT (bq w b)),none,none,none] ⟨none,none,by simp [bY],by simp⟩
 simp only [length_nil,Nat.sub_zero] at e
 exact aV (ay (dJ (aw rfl) rfl (by simp [aN])) (ay (gN (AK ok rfl) e) (aX (aw rfl) rfl)))
@[simp] theorem nR (a:Wr):bp (.str a.t) (.str "some next")=some (.bool (decide (a=.sn))):=cK a .sn
@[simp] theorem i4 (a:Wr):bp (.str a.t) (.str "all next")=some (.bool (decide (a=.an))):=cK a .an
@[simp] theorem nS (a:Wr):bp (.str a.t) (.str "some always")=some (.bool (decide (a=.sa))):=cK a .sa
@[simp] theorem wF (a:Wr):bp (.str a.t) (.str "all always")=some (.bool (decide (a=.aa))):=cK a .aa
@[simp] theorem MD (a:Wr):bp (.str a.t) (.str "some until")=some (.bool (decide (a=.su))):=cK a .su
@[simp] theorem Az (a:Wr):bp (.str a.t) (.str "all until")=some (.bool (decide (a=.au))):=cK a .au
theorem Ey {B:Ev} {z:F1} {p:PV} (h:z B=.ok p B) (Y:p.s.isView=false):aE z B=.rt p:=aX h Y
theorem Ju {F:Sh} {d:D} (h:F.isView=false):coer .leaf ⟨F,d⟩=true:=by
 unfold coer;simp [h]
noncomputable abbrev GJ (w:Wd) (s:Sn) (o C b y:Option PV):Ev:=[Nx w.enc,Nx s.enc,Nx (aT (List.range w.n)),Nx (.str s.w.t),o,C,b,y,none]
theorem i9 {w:Wd} (ok:w.Ok) {s:Sn} {x4 x5 x6 x7:Option PV} {fc:FB} {i:Nat} {A:List Nat} {c:Nat->Bool} (l:(GJ w s x4 x5 x6 x7)[i]?=some (Nx (aT A))) (n:A.length<=10000) (J:∀t∈A,fc ((GJ w s x4 x5 x6 x7).set 8 (Nx (rm t)))=.ok (c t) ((GJ w s x4 x5 x6 x7).set 8 (Nx (rm t)))) :
  aq .leaf 8 (aU (ae i)) fc (ae 8) (GJ w s x4 x5 x6 x7)=.ok ⟨.lst .leaf,aT (A.filter c)⟩ (GJ w s x4 x5 x6 x7):=
 Iv rm A c (λt=>⟨.leaf,rm t⟩) (st:=true) (by rw [BR,F7,l];simp) (by simp) rfl n J (λt L _=>⟨aw rfl,rfl⟩)
theorem qz {w:Wd} {a:Sn}:bq w (λt=>!(bR w a).contains t)=bR w (.un .not a):=by
 refine xl λr M=>?_
 rw [Il M];exact uz (by rw [Bool.not_eq_true',<-Bool.not_eq_true,satB_iff];rfl)
theorem qA {w:Wd} {s:Sn}:bR w s=bq w (bU w s):=rfl
theorem rng_fil {w:Wd}:List.range w.n=bq w (λ_=>true):=by rw [bq,List.filter_eq_self.mpr λ_ _=>rfl]
theorem zG {w:Wd} {a b:Sn}:(bR w a).filter (λt=>(bR w b).contains t)=bR w (.bi .and a b):=by
 show (bq w (bU w a)).filter _=_
 rw [List.filter_filter];refine xl λr M=>?_
 rw [Il M];exact uz (by rw [Bool.and_eq_true,satB_iff,satB_iff];exact And.comm)
theorem mx {w:Wd} {any:Bool} {a b:Sn} {r:Nat}:Unt w any (λt=>bU w a t=true) (λt=>bU w b t=true) r↔Unt w any (ez w a) (ez w b) r:=by
 rw [show (λt=>bU w a t=true)=ez w a from funext λt=>propext satB_iff,show (λt=>bU w b t=true)=ez w b from funext λt=>propext satB_iff]
theorem IB {w:Wd} (ok:w.Ok):∀(n:Nat) (s:Sn),s.ok->s.dep<=n->∃F:Sh,F.isView=false/\bo n [w.enc,s.enc]=.ok ⟨F,aT (bR w s)⟩
 | 0,s,_,h=>by
  have:=s.dep_args
  omega
 | n+1,s,hs,h=>by
  have E:=ok.h24
  have I:∀s:Sn,(bR w s).length<=10000:=λs=>Nat.le_trans (xZ ok) (by omega)
  show ∃F:Sh,F.isView=false/\aB 9 (gk (bo n)) [w.enc,s.enc]=_
  have q:ah (ae 1) (eK (.int 0)) [Nx w.enc,Nx s.enc,Nx (aT (List.range w.n)),none,none,none,none,none,none]=.ok ⟨.leaf,.str s.w.t⟩ [Nx w.enc,Nx s.enc,Nx (aT (List.range w.n)),none,none,none,none,none,none]:=by
   cases s<;>simp [Sn.enc,Sn.w]
  have go:∀{p:PV} {rest:FS},rest (GJ w s none none none none)=.rt p->(ak (ax false 2 (zl (ab (bb aQ (ab (ah (ae 0) (eK (.int 0))) af)) af))) (ak (ax false 3 (ah (ae 1) (eK (.int 0)))) rest)) (aN 9 [w.enc,s.enc])=.rt p:=λ{p rest} M=>
   ay (dJ (HQ ok rfl) rfl (by simp [aN])) (ay (dJ q rfl (by simp [aN])) M)
  have f:∀{u:Wr} {t:Str} {x4 x5 x6 x7:Option PV} {v:Bool},bp (.str s.w.t) (.str t)=some (.bool (decide (s.w=u)))->decide (s.w=u)=v->aM ai (ar bp (ae 3) (eK (.str t))) (GJ w s x4 x5 x6 x7)=.ok v (GJ w s x4 x5 x6 x7):=λ{u t x4 x5 x6 x7 v} R C=>cH (aA (aw rfl) aO (by rw [<-C];exact R))
  have z:∀{u:Wr} {t:Str} {x4 x5 x6 x7:Option PV} {v:Bool},bp (.str s.w.t) (.str t)=some (.bool (decide (s.w=u)))->decide (s.w=u)=v->ar bp (ae 3) (eK (.str t)) (GJ w s x4 x5 x6 x7)=.ok ⟨.leaf,.bool v⟩ (GJ w s x4 x5 x6 x7):=λ{u t x4 x5 x6 x7 v} R C=>aA (aw rfl) aO (by rw [<-C];exact R)
  have no:∀{c:FB} {a:FS} {rest:FS} {Γ:Ev} {o:d9},c Γ=.ok false Γ->rest Γ=o->ak (b8 c a aJ) rest Γ=o:=λR C=>ay (bJ R nofun (λ_=>rfl)) C
  have yes:∀{c:FB} {a:FS} {rest:FS} {Γ:Ev} {p:PV},c Γ=.ok true Γ->a Γ=.rt p->ak (b8 c a aJ) rest Γ=.rt p:=λR C=>ur (bJ R (λ_=>C) nofun)
  cases s with
  | yes=>
   refine ⟨.leaf,rfl,aV (go (yes (f (HX _) rfl) ?_))⟩
   have e:List.range w.n=bR w .yes:=rng_fil.trans (xl λr _=>uz (by simp [ez]))
   rw [<-e];exact aX (aw rfl) rfl
  | mk c=>
   refine ⟨.lst .leaf,rfl,aV (go (no (f (HX _) rfl) (yes (f (Jx _) rfl) (Ey (p:=⟨.lst .leaf,aT (bR w (.mk c))⟩) ?_ rfl))))⟩
   refine i9 (A:=List.range w.n) (c:=bU w (.mk c)) ok rfl (by simp;omega) λt L=>?_
   have M:=List.mem_range.mp L
   have J:∀x∈w.mks t,PyData.strOk x=true:=λx G=>by
    unfold Wd.mks at G;rw [Nm,Nl (by rw [ok.lm];exact M)] at G
    exact ok.mc _ (getElem_mem _) x G
   have e:(w.mks t).contains c=bU w (.mk c) t:=uz (by rw [contains_iff_mem];rfl)
   rw [<-e];simp [Sn.enc,Wd.enc,ok.at1 M,CM (Et hs).1 J]
  | un k a=>
   obtain ⟨F,B,H⟩:=IB ok n a hs (by simp only [Sn.dep] at h;omega)
   have U:ax false 4 (ag 2 (bo n) (ab (ae 0) (ab (ah (ae 1) (eK (.int 1))) af))) (GJ w (.un k a) none none none none)=.nx (GJ w (.un k a) (Nx (aT (bR w a))) none none none):=
    dJ (cv (ps:=[⟨.leaf,w.enc⟩,⟨.leaf,a.enc⟩]) (az (aw rfl) (az (eX (j:=1) (ds:=[.str k.w.t,a.enc]) (aw rfl) aO rfl rfl rfl) aj)) H rfl rfl) (Ju B) (by simp)
   have O:ax false 5 (aq .leaf 8 (aU (ae 2)) (aM ai (ar (bx true) (ae 8) (ae 4))) (ae 8)) (GJ w (.un k a) (Nx (aT (bR w a))) none none none)=.nx (GJ w (.un k a) (Nx (aT (bR w a))) (Nx (aT (bR w (.un .not a)))) none none):=by
    have:=i9 (A:=List.range w.n) (c:=λt=>!(bR w a).contains t) (s:=.un k a) (x4:=some ⟨.leaf,aT (bR w a)⟩) (x5:=none) (x6:=none) (x7:=none) (i:=2) (fc:=aM ai (ar (bx true) (ae 8) (ae 4))) ok rfl (by simp;omega) λt L=>cH (aA (aw rfl) (aw rfl) notin_rms)
    rw [show (List.range w.n).filter (λt=>!(bR w a).contains t)=bR w (.un .not a) from qz] at this
    exact dJ this rfl (by simp)
   have d:∀{p:PV} {r a1 a2:FS},r (GJ w (.un k a) (Nx (aT (bR w a))) (Nx (aT (bR w (.un .not a)))) none none)=.rt p->_:=λ{p r a1 a2} M=>go (no (a:=a1) (f (HX _) (by cases k<;>rfl)) (no (a:=a2) (f (Jx _) (by cases k<;>rfl)) (ay U (ay O M))))
   have stB:∀r t,t∈w.stp r->(bU w a t=true↔ez w a t):=λr t L=>satB_iff
   cases k with
   | not=>exact ⟨.leaf,rfl,aV (d (yes (f (AO _) rfl) (aX (aw rfl) rfl)))⟩
   | sn=>
    have e:bq w (λr=>cE (!false) ((w.stp r).map (bU w a)))=bR w (.un .sn a):=xl λr M=>uz (by
     rw [led_iff];simp only [led,ez,Bool.not_false,if_true]
     exact ⟨λ⟨t,L,h⟩=>⟨t,L,satB_iff.mp h⟩,λ⟨t,L,h⟩=>⟨t,L,satB_iff.mpr h⟩⟩)
    have ds:=Kn ok (p:=bU w a) (each:=false)
    rw [e] at ds;exact ⟨.lst .leaf,rfl,aV (d (no (f (AO _) rfl) (yes (d8 (a:=true) (b:=false) (f (nR _) rfl) (f (i4 _) rfl)) (aX (cv (az (aw rfl) (az (aw rfl) (az (z (v:=false) (i4 _) rfl) aj))) ds rfl rfl) rfl))))⟩
   | an=>
    have e:bq w (λr=>cE (!true) ((w.stp r).map (bU w a)))=bR w (.un .an a):=xl λr M=>uz (by
     rw [led_iff];simp only [led,ez,Bool.not_true,Bool.false_eq_true,if_false]
     exact ⟨λh t L=>satB_iff.mp (h t L),λh t L=>satB_iff.mpr (h t L)⟩)
    have ds:=Kn ok (p:=bU w a) (each:=true)
    rw [e] at ds;exact ⟨.lst .leaf,rfl,aV (d (no (f (AO _) rfl) (yes (d8 (a:=false) (b:=true) (f (nR _) rfl) (f (i4 _) rfl)) (aX (cv (az (aw rfl) (az (aw rfl) (az (z (v:=true) (i4 _) rfl) aj))) ds rfl rfl) rfl))))⟩
   | sa=>
    have m:=IC ok (a:=λ_=>true) (b:=bU w (.un .not a)) (each:=true)
    rw [<-rng_fil,<-qA] at m;have e:(List.range w.n).filter (λt=>!(bq w (bY w (!true) (λ_=>true) (bU w (.un .not a)) w.n)).contains t)=bR w (.un .sa a):=xl λr M=>by
     rw [D5 M];refine uz ?_
     rw [Bool.not_eq_true',<-Bool.not_eq_true,Ii ok M];simp only [ez,Bool.not_true]
     exact not_congr ⟨Unt.congr ok (λ_ _ _=>trivial) (λt _ h=>(satB_iff (s:=.un .not a)).mp h) M,Unt.congr ok (λ_ _ _=>trivial) (λt _ h=>(satB_iff (s:=.un .not a)).mpr h) M⟩
    refine ⟨.lst .leaf,rfl,aV (d (no (f (AO _) rfl) (no (d8 (a:=false) (b:=false) (f (nR _) rfl) (f (i4 _) rfl)) (yes (d8 (a:=true) (b:=false) (f (nS _) rfl) (f (wF _) rfl)) (ay (dJ (cv (az (aw rfl) (az (aw rfl) (az (aw rfl) (az (z (v:=true) (nS _) rfl) aj)))) m rfl rfl) rfl (by simp)) (Ey (p:=⟨.lst .leaf,aT (bR w (.un .sa a))⟩) ?_ rfl))))))⟩
    rw [<-e];exact i9 (A:=List.range w.n) (s:=.un .sa a) (i:=2) (x4:=some ⟨.leaf,aT (bR w a)⟩) (x5:=some ⟨.leaf,aT (bR w (.un .not a))⟩) (x6:=none) (x7:=some ⟨.leaf,aT (bq w (bY w (!true) (λ_=>true) (bU w (.un .not a)) w.n))⟩) ok rfl (by simp;omega) λt L=>cH (aA (aw rfl) (aw rfl) notin_rms)
   | aa=>
    have m:=IC ok (a:=λ_=>true) (b:=bU w (.un .not a)) (each:=false)
    rw [<-rng_fil,<-qA] at m;have e:(List.range w.n).filter (λt=>!(bq w (bY w (!false) (λ_=>true) (bU w (.un .not a)) w.n)).contains t)=bR w (.un .aa a):=xl λr M=>by
     rw [D5 M];refine uz ?_
     rw [Bool.not_eq_true',<-Bool.not_eq_true,Ii ok M];simp only [ez,Bool.not_false]
     exact not_congr ⟨Unt.congr ok (λ_ _ _=>trivial) (λt _ h=>(satB_iff (s:=.un .not a)).mp h) M,Unt.congr ok (λ_ _ _=>trivial) (λt _ h=>(satB_iff (s:=.un .not a)).mpr h) M⟩
    refine ⟨.lst .leaf,rfl,aV (d (no (f (AO _) rfl) (no (d8 (a:=false) (b:=false) (f (nR _) rfl) (f (i4 _) rfl)) (yes (d8 (a:=false) (b:=true) (f (nS _) rfl) (f (wF _) rfl)) (ay (dJ (cv (az (aw rfl) (az (aw rfl) (az (aw rfl) (az (z (v:=false) (nS _) rfl) aj)))) m rfl rfl) rfl (by simp)) (Ey (p:=⟨.lst .leaf,aT (bR w (.un .aa a))⟩) ?_ rfl))))))⟩
    rw [<-e];exact i9 (A:=List.range w.n) (s:=.un .aa a) (i:=2) (x4:=some ⟨.leaf,aT (bR w a)⟩) (x5:=some ⟨.leaf,aT (bR w (.un .not a))⟩) (x6:=none) (x7:=some ⟨.leaf,aT (bq w (bY w (!false) (λ_=>true) (bU w (.un .not a)) w.n))⟩) ok rfl (by simp;omega) λt L=>cH (aA (aw rfl) (aw rfl) notin_rms)
  | bi k a b=>
   obtain ⟨F,B,H⟩:=IB ok n a hs.1 (by simp only [Sn.dep] at h;omega)
   obtain ⟨K,y,g⟩:=IB ok n b hs.2 (by simp only [Sn.dep] at h;omega)
   have U:ax false 4 (ag 2 (bo n) (ab (ae 0) (ab (ah (ae 1) (eK (.int 1))) af))) (GJ w (.bi k a b) none none none none)=.nx (GJ w (.bi k a b) (Nx (aT (bR w a))) none none none):=
    dJ (cv (ps:=[⟨.leaf,w.enc⟩,⟨.leaf,a.enc⟩]) (az (aw rfl) (az (eX (j:=1) (ds:=[.str k.w.t,a.enc,b.enc]) (aw rfl) aO rfl rfl rfl) aj)) H rfl rfl) (Ju B) (by simp)
   have O:ax false 5 (aq .leaf 8 (aU (ae 2)) (aM ai (ar (bx true) (ae 8) (ae 4))) (ae 8)) (GJ w (.bi k a b) (Nx (aT (bR w a))) none none none)=.nx (GJ w (.bi k a b) (Nx (aT (bR w a))) (Nx (aT (bR w (.un .not a)))) none none):=by
    have:=i9 (A:=List.range w.n) (c:=λt=>!(bR w a).contains t) (s:=.bi k a b) (x4:=some ⟨.leaf,aT (bR w a)⟩) (x5:=none) (x6:=none) (x7:=none) (i:=2) (fc:=aM ai (ar (bx true) (ae 8) (ae 4))) ok rfl (by simp;omega) λt L=>cH (aA (aw rfl) (aw rfl) notin_rms)
    rw [show (List.range w.n).filter (λt=>!(bR w a).contains t)=bR w (.un .not a) from qz] at this
    exact dJ this rfl (by simp)
   have l:ax false 6 (ag 2 (bo n) (ab (ae 0) (ab (ah (ae 1) (eK (.int 2))) af))) (GJ w (.bi k a b) (Nx (aT (bR w a))) (Nx (aT (bR w (.un .not a)))) none none)=.nx (GJ w (.bi k a b) (Nx (aT (bR w a))) (Nx (aT (bR w (.un .not a)))) (Nx (aT (bR w b))) none):=
    dJ (cv (ps:=[⟨.leaf,w.enc⟩,⟨.leaf,b.enc⟩]) (az (aw rfl) (az (eX (j:=2) (ds:=[.str k.w.t,a.enc,b.enc]) (aw rfl) aO rfl rfl rfl) aj)) g rfl rfl) (Ju y) (by simp)
   have d:∀{p:PV} {r a1 a2 a3 a4 a5:FS},r (GJ w (.bi k a b) (Nx (aT (bR w a))) (Nx (aT (bR w (.un .not a)))) (Nx (aT (bR w b))) none)=.rt p->_:=λ{p r a1 a2 a3 a4 a5} M=>go (no (a:=a1) (f (HX _) (by cases k<;>rfl)) (no (a:=a2) (f (Jx _) (by cases k<;>rfl)) (ay U (ay O (no (a:=a3) (f (AO _) (by cases k<;>rfl)) (no (a:=a4) (d8 (a:=false) (b:=false) (f (nR _) (by cases k<;>rfl)) (f (i4 _) (by cases k<;>rfl))) (no (a:=a5) (d8 (a:=false) (b:=false) (f (nS _) (by cases k<;>rfl)) (f (wF _) (by cases k<;>rfl))) (ay l M))))))))
   cases k with
   | and=>
    refine ⟨.lst .leaf,rfl,aV (d (yes (f (HW _) rfl) (Ey (p:=⟨.lst .leaf,aT (bR w (.bi .and a b))⟩) ?_ rfl)))⟩
    rw [<-zG];exact i9 (A:=bR w a) (s:=.bi .and a b) (i:=4) (x4:=some ⟨.leaf,aT (bR w a)⟩) (x5:=some ⟨.leaf,aT (bR w (.un .not a))⟩) (x6:=some ⟨.leaf,aT (bR w b)⟩) (x7:=none) ok rfl (I a) λt L=>cH (aA (aw rfl) (aw rfl) DV)
   | or=>
    refine ⟨.lst .leaf,rfl,aV (d (no (f (HW _) rfl) (yes (f (wD _) rfl) (Ey (p:=⟨.lst .leaf,aT (bR w (.bi .or a b))⟩) ?_ rfl))))⟩
    have e:bq w (λt=>(bR w a).contains t||(bR w b).contains t)=bR w (.bi .or a b):=xl λr M=>by
     rw [Il M,Il M];exact uz (by rw [Bool.or_eq_true,satB_iff,satB_iff];rfl)
    rw [<-e];exact i9 (A:=List.range w.n) (s:=.bi .or a b) (i:=2) (x4:=some ⟨.leaf,aT (bR w a)⟩) (x5:=some ⟨.leaf,aT (bR w (.un .not a))⟩) (x6:=some ⟨.leaf,aT (bR w b)⟩) (x7:=none) ok rfl (by simp;omega) λt L=>d8 (cH (aA (aw rfl) (aw rfl) DV)) (cH (aA (aw rfl) (aw rfl) DV))
   | su=>
    have m:=IC ok (a:=bU w a) (b:=bU w b) (each:=false)
    have e:bq w (bY w (!false) (bU w a) (bU w b) w.n)=bR w (.bi .su a b):=xl λr M=>uz (by rw [Ii ok M,mx];rfl)
    rw [e] at m;exact ⟨.leaf,rfl,aV (d (no (f (HW _) rfl) (no (f (wD _) rfl) (aX (cv (az (aw rfl) (az (aw rfl) (az (aw rfl) (az (z (v:=false) (Az _) rfl) aj)))) m rfl rfl) rfl))))⟩
   | au=>
    have m:=IC ok (a:=bU w a) (b:=bU w b) (each:=true)
    have e:bq w (bY w (!true) (bU w a) (bU w b) w.n)=bR w (.bi .au a b):=xl λr M=>uz (by rw [Ii ok M,mx];rfl)
    rw [e] at m;exact ⟨.leaf,rfl,aV (d (no (f (HW _) rfl) (no (f (wD _) rfl) (aX (cv (az (aw rfl) (az (aw rfl) (az (aw rfl) (az (z (v:=true) (Az _) rfl) aj)))) m rfl rfl) rfl))))⟩
theorem Ij (a b:Wr):PyData.eqv (.str a.t) (.str b.t)=decide (a=b):=by
 have h:=cK a b
 unfold bp at h;rw [DZ (jU a),DZ (jU b)] at h;simpa using h
theorem A7 {k j:U5}:k.w=j.w↔k=j:=by cases k<;>cases j<;>simp [U5.w]
theorem Dy {k j:B4}:k.w=j.w↔k=j:=by cases k<;>cases j<;>simp [B4.w]
theorem EC {Y G:List D}:PyData.eqv (.tuple Y) (.tuple G)=PyData.eqvAll Y G:=by rw [PyData.eqv]
theorem AQ {x y:D} {Y G:List D}:PyData.eqvAll (x::Y) (y::G)=(PyData.eqv x y&&PyData.eqvAll Y G):=by rw [PyData.eqvAll]
theorem DT:PyData.eqvAll [] []=true:=by rw [PyData.eqvAll]
theorem EA {y:D} {G:List D}:PyData.eqvAll [] (y::G)=false:=by rw [PyData.eqvAll]
theorem HY {y:D} {G:List D}:PyData.eqvAll (y::G) []=false:=by rw [PyData.eqvAll]
theorem JD {x y:Str}:PyData.eqv (.str x) (.str y)=(x==y):=by rw [PyData.eqv]
theorem JE {x:Str} {s:Sn}:PyData.eqv (.str x) s.enc=false/\PyData.eqv s.enc (.str x)=false:=by
 cases s<;>exact ⟨by rw [Sn.enc,PyData.eqv],by rw [Sn.enc,PyData.eqv]⟩
theorem vR {k:U5}:(Wr.mark=k.w)=False/\(k.w=Wr.mark)=False:=by cases k<;>simp [U5.w]
theorem rJ (s:Sn):∀t:Sn,PyData.eqv s.enc t.enc=true↔s=t:=by
 induction s with
 | yes=>intro t;cases t<;>simp only [Sn.enc,EC,AQ,DT,EA,Ij]<;>simp
 | mk c=>intro t;cases t<;>simp only [Sn.enc,EC,AQ,DT,EA,HY,Ij,JD,JE,vR]<;>simp
 | un k a f=>intro t;cases t<;>simp only [Sn.enc,EC,AQ,DT,EA,HY,Ij,JE,vR,Bool.and_eq_true,f,decide_eq_true_eq,A7,Sn.un.injEq]<;>simp
 | bi k a b e d=>intro t;cases t<;>simp only [Sn.enc,EC,AQ,DT,EA,HY,Ij,JE,Bool.and_eq_true,e,d,decide_eq_true_eq,Dy,Sn.bi.injEq]<;>simp
theorem rH {s:Sn} (h:s.ok):PyData.canLay0 s.enc=true/\PyData.depth s.enc=s.dep:=by
 induction s with
 | yes=>exact ⟨by simp [Sn.enc,PyData.canLay0,PyData.canLayAll0,jU],by simp [Sn.enc,PyData.depth,PyData.depthAll,Sn.dep]⟩
 | mk c=>exact ⟨by simp [Sn.enc,PyData.canLay0,PyData.canLayAll0,jU,(Et h).1],by simp [Sn.enc,PyData.depth,PyData.depthAll,Sn.dep]⟩
 | un k a f=>obtain ⟨R,C⟩:=f h;exact ⟨by simp [Sn.enc,PyData.canLay0,PyData.canLayAll0,jU,R],by simp [Sn.enc,PyData.depth,PyData.depthAll,Sn.dep,C]⟩
 | bi k a b e d=>obtain ⟨R,C⟩:=e h.1;obtain ⟨n,g⟩:=d h.2;exact ⟨by simp [Sn.enc,PyData.canLay0,PyData.canLayAll0,jU,R,n],by simp [Sn.enc,PyData.depth,PyData.depthAll,Sn.dep,C,g]⟩
theorem Dg {s:Sn} (h:s.ok) (F:s.dep<=60):shaped s.enc=true:=by
 obtain ⟨R,C⟩:=rH h;unfold shaped;rw [R,C];simp
 omega
noncomputable def lg:Sn->Sn
 | .un .not a=>a
 | s=>.un .not s
noncomputable def iV:Sn->Bool
 | .un .not _=>true
 | _=>false
theorem Cb {s:Sn} (h:iV s=false):lg s=.un .not s:=by
 cases s with
 | un k a=>cases k<;>first | rfl | (simp [iV] at h)
 | _=>rfl
theorem Ke (s:Sn):(∃a,s=.un .not a/\lg s=a)\/(iV s=false/\lg s=.un .not s):=by
 cases h:iV s with
 | false=>exact .inr ⟨rfl,Cb h⟩
 | true=>
  cases s with
  | un k a=>cases k<;>first | exact .inl ⟨a,rfl,rfl⟩ | (simp [iV] at h)
  | _=>simp [iV] at h
theorem Sn.dep_pos (s:Sn):1<=s.dep:=by cases s<;>simp [Sn.dep]
theorem sat_opp {w:Wd} {s:Sn} {r:Nat}:ez w (lg s) r↔¬ez w s r:=by
 rcases Ke s with ⟨a,B,m⟩ | ⟨_,m⟩
 ·rw [m,B]
  exact ⟨λh z=>z h,λh=>Classical.byContradiction h⟩
 ·rw [m]
  rfl
noncomputable def fu:FS:=(aE (oG (aM ai (ar bp (ah (ae 0) (eK (.int 0))) (eK (.str "not")))) (ah (ae 0) (eK (.int 1))) (bz (ab (eK (.str "not")) (ab (ae 0) af)))))
noncomputable def bw:List Nw->bA:=aB 1 fu
open PySem.SeqAt
theorem sj {c:FB} {z e:F1} {B:Ev} {t:Bool} {p:PV} (J:c B=.ok t B) (U:t=true->z B=.ok p B) (Z:t=false->e B=.ok p B):oG c z e B=.ok p B:=by
 unfold oG;rw [J];simp only [xw]
 cases t with
 | true=>exact U rfl
 | false=>exact Z rfl
theorem Sn.dep1 (s:Sn):1<=s.dep:=s.dep_pos
theorem Bh {s:Sn} {r:Ev}:ah (ae 0) (eK (.int 0)) (Nx s.enc::r)=.ok ⟨.leaf,.str s.w.t⟩ (Nx s.enc::r):=by
 cases s<;>simp [Sn.enc,Sn.w]
theorem Gz {s:Sn}:iV s=decide (s.w=.not):=by
 cases s with
 | un k a=>cases k<;>rfl
 | bi k a b=>cases k<;>rfl
 | _=>rfl
theorem Jw (s:Sn):∃F:Sh,F.isView=false/\bw [s.enc]=.ok ⟨F,(lg s).enc⟩:=by
 rcases Ke s with ⟨a,rfl,m⟩ | ⟨e1,m⟩
 ·rw [m]
  exact ⟨.leaf,rfl,by simp [bw,aB,fu,aN,Sn.enc,U5.w]⟩
 ·rw [m]
  refine ⟨.tup [.leaf,.leaf],rfl,aV (aX (sj (t:=false) (cH (aA Bh aO (by rw [AO,<-Gz,e1]))) nofun (λ_=>cJ (az aO (az (aw rfl) aj)) rfl rfl)) rfl)⟩
theorem eJ {w:Wd} (ok:w.Ok) {r:Nat} (M:r<w.n):bN [w.enc,rm r]=.ok ⟨.leaf,.none⟩:=by
 have c:=qf (g:=Ej) (g':=me) (Γ:=aN 2 [w.enc,rm r]) (fa:=eK (.int 0)) (fb:=ae 1) (fc:=bb aQ (ab (ah (ae 0) (eK (.int 0))) af)) (b:=decide ((0:Int)<=(r:Int))) (b':=decide ((r:Int)<(w.n:Int))) aO (aw (i:=1) rfl) rfl rfl (xV ok rfl) rfl
 have t:=kO (cH (s:=.leaf) c)
 rw [decide_eq_true (show (0:Int)<=(r:Int) by omega),decide_eq_true (show (r:Int)<(w.n:Int) by omega)] at t
 exact Ak (bJ t nofun λ_=>rfl)
end KC
namespace T
open PySem
theorem JO {Y:Array Nat} {j p:Nat} (g:∀k,k<Y.size->(Y.getD k j<j↔k<p)):∀(a r l:Nat),r<=p->p<=l->l<=Y.size->l-r<=a->SetTable.below.go Y j a r l=p
 | 0,r,l,h1,h2,h3,h4=>by
  unfold SetTable.below.go;omega
 | n+1,r,l,h1,h2,h3,h4=>by
  unfold SetTable.below.go;by_cases c:r<l
  ·rw [if_pos c]
   have G:=g ((r+l) / 2) (by omega)
   simp only
   by_cases d:Y.getD ((r+l) / 2) j<j
   ·rw [if_pos d]
    have:=G.mp d
    exact JO g n _ _ (by omega) h2 h3 (by omega)
   ·rw [if_neg d]
    have:¬(r+l) / 2<p:=λz=>d (G.mpr z)
    exact JO g n _ _ h1 (by omega) (by omega) (by omega)
  ·rw [if_neg c]
   omega
theorem JP {Y:Array Nat} {j p:Nat} (g:∀k,k<Y.size->(Y.getD k j<j↔k<p)) (a:p<=Y.size):SetTable.below Y j=p:=JO g Y.size 0 Y.size (Nat.zero_le _) a (Nv _) (by omega)
noncomputable def Rs (Y:Array Nat):Prop:=Y.toList.Pairwise (· < ·)
theorem Rs.lt {Y:Array Nat} (h:Rs Y) {i k:Nat} (l:i<Y.size) (O:k<Y.size) (a:i<k):Y[i]<Y[k]:=by
 have:=(List.pairwise_iff_getElem.mp h) i k (by simpa using l) (by simpa using O) a
 simpa using this
theorem pQ {Y:Array Nat}:SetTable.below Y 0=0:=JP (λk _=>by simp) (Nat.zero_le _)
theorem AV {Y:Array Nat} {k j:Nat} (O:k<Y.size):Y.getD k j=Y[k]:=by
 unfold Array.getD;rw [dif_pos O];rfl
theorem pR {Y:Array Nat} (h:Rs Y) {i:Nat} (l:i<Y.size):SetTable.below Y (Y[i]+1)=i+1:=by
 refine JP (λk O=>?_) (by omega)
 rw [AV O];rcases Nat.lt_trichotomy k i with c | c | c
 ·have:=h.lt O l c
  omega
 ·subst c
  omega
 ·have:=h.lt l O c
  omega
theorem iL (j:Nat):∀(l:List Nat),l.Pairwise (· < ·)->∀k,k<l.length->(l.getD k j<j↔k<l.countP (·<j))
 | [],_,k,hk=>by simp at hk
 | a::l,h,k,hk=>by
  obtain ⟨R,C⟩:=List.pairwise_cons.mp h;rw [List.countP_cons];by_cases c:a<j
  ·simp only [c,decide_true,if_true]
   cases k with
   | zero=>simpa using c
   | succ k=>
    have:=iL j l C k (by simpa using hk)
    simp only [List.getD_cons_succ]
    omega
  ·have z:l.countP (·<j)=0:=List.countP_eq_zero.mpr λb Z=>by
    have:=R b Z
    simp
    omega
   simp only [c,decide_false,Bool.false_eq_true,if_false,z]
   cases k with
   | zero=>simp;omega
   | succ k=>
    have d:k<l.length:=by simpa using hk
    simp only [List.getD_cons_succ]
    rw [Nm,Nl d];have:=R _ (getElem_mem d)
    simp only [Option.getD_some]
    omega
theorem Rs.point {Y:Array Nat} (h:Rs Y) (j:Nat):(∀k,k<Y.size->(Y.getD k j<j↔k<SetTable.below Y j))/\SetTable.below Y j<=Y.size:=by
 have g:∀k,k<Y.size->(Y.getD k j<j↔k<Y.toList.countP (·<j)):=λk O=>by
  have:=iL j Y.toList h k (by simpa using O)
  rw [Nm,Nl (by simpa using O)] at this
  rw [AV O];simpa using this
 have J:Y.toList.countP (·<j)<=Y.size:=by
  have:=List.countP_le_length (p:=(·<j)) (l:=Y.toList)
  simpa using this
 rw [JP g J];exact ⟨g,J⟩
theorem Rs.insert {Y:Array Nat} (h:Rs Y) {j:Nat} (A:Y[SetTable.below Y j]?≠some j):Rs (SetTable.insertAt Y (SetTable.below Y j) j):=by
 obtain ⟨g,f⟩:=h.point j;generalize SetTable.below Y j=p at g f A
 unfold Rs SetTable.insertAt;have e:(((Y.extract 0 p).push j)++Y.extract p Y.size).toList=Y.toList.take p++[j]++Y.toList.drop p:=by
  simp [Array.toList_extract,List.extract]
  rw [take_of_length_le (by simp)]
 rw [e,append_assoc,List.pairwise_append];have c:∀a∈Y.toList.take p,a<j:=λa U=>by
  obtain ⟨k,O,rfl⟩:=getElem_of_mem U;rw [length_take] at O;have d:k<Y.size:=by
   have:k<Y.toList.length:=by omega
   simpa using this
  have:=(g k d).mpr (by omega)
  rw [AV d] at this;simpa using this
 have up:∀a∈Y.toList.drop p,j<a:=λa U=>by
  obtain ⟨k,O,rfl⟩:=getElem_of_mem U;rw [length_drop,Array.length_toList] at O;have d:p+k<Y.size:=by omega
  have q:¬Y.getD (p+k) j<j:=λz=>by have:=(g (p+k) d).mp z;omega
  rw [AV d] at q;have B:(Y.toList.drop p)[k]=Y[p+k]:=by simp
  rw [B];have K:Y[p+k]≠j:=λz=>by
   cases k with
   | zero=>
    simp only [Nat.add_zero] at z
    exact A (by rw [Array.getElem?_eq_getElem (by omega),z])
   | succ k=>
    have m:p<Y.size:=by omega
    have i:¬Y.getD p j<j:=λz=>by have:=(g p m).mp z;omega
    rw [AV m] at i;have:=h.lt m d (by omega)
    omega
  omega
 refine ⟨h.sublist (List.take_sublist _ _),?_,λa U b Z=>?_⟩
 ·rw [List.singleton_append,List.pairwise_cons]
  exact ⟨up,h.sublist (List.drop_sublist _ _)⟩
 ·have J:=c a U
  rw [List.singleton_append] at Z;rcases Nk Z with rfl | Z
  ·exact J
  ·have:=up b Z
   omega
theorem uY {n:Nat}:Rs (Array.range n):=by
 unfold Rs;rw [Array.toList_range];exact List.pairwise_lt_range
structure Tb (b:Bool) (t:SetTable):Prop where
 led:b=false->t.led=true
 rs:Rs t.place
 nd:t.dummies=#[]
theorem Tb.fresh {b:Bool}:Tb b (.fresh 0 0 (!b)):=⟨λe=>by rw [e];rfl,List.Pairwise.nil,rfl⟩
theorem Tb.standIn {b:Bool} {t:SetTable} (h:Tb b t) (n:Nat):Tb b (t.standIn n):=⟨h.led,uY,rfl⟩
theorem Tb.orStandIn {b:Bool} {t:SetTable} (h:Tb b t) (n:Nat):Tb b (t.orStandIn n):=by
 unfold SetTable.orStandIn;split
 ·exact h
 ·exact h.standIn n
theorem Tb.plain {b:Bool} {t:SetTable} (h:Tb b t) (p:Bool):Tb b { t with plain:=p }:=⟨h.led,h.rs,h.nd⟩
theorem nz {j:Nat}:SetTable.has #[] j=false:=by
 unfold SetTable.has;simp
theorem Tb.put {b:Bool} {t:SetTable} (h:Tb b t) {j:Nat} (A:t.place[SetTable.below t.place j]?≠some j):Tb b (t.put j).1:=by
 refine ⟨h.led,h.rs.insert A,?_⟩
 show (if SetTable.has t.dummies j=true then _ else t.dummies)=#[]
 rw [h.nd,nz];rfl
theorem gV {b:Bool} {t:SetTable} (h:Tb b t) {U:Nat->Int} {k:Int}:∀(a:Nat) (p:SetTable.Probe),p.dummy=none->∀j d,SetTable.probe.go t U k a p=some (.empty j d)->d=none/\t.place[SetTable.below t.place j]?≠some j
 | 0,p,_,j,d,e=>by unfold SetTable.probe.go at e;cases e
 | n+1,p,hp,j,d,e=>by
  unfold SetTable.probe.go at e;have c:(t.advance p).dummy=none:=by
   unfold SetTable.advance;split
   ·exact hp
   ·exact hp
  cases q:t.slot p.j with
  | empty=>
   rw [q] at e;simp only [Option.some.injEq,SetTable.Met.empty.injEq] at e
   obtain ⟨rfl,rfl⟩:=e;refine ⟨hp,λz=>?_⟩
   unfold SetTable.slot at q;simp only [z,beq_self_eq_true,if_true] at q
   cases q
  | dummy=>
   unfold SetTable.slot at q;simp only [h.nd,nz] at q
   split at q<;>simp at q
  | live i=>
   rw [q] at e;simp only at e
   split at e
   ·cases e
   ·exact gV h n _ c j d e
theorem Tb.free {b:Bool} {t:SetTable} (h:Tb b t) {k:Int} {j:Nat} {d:Bool} (e:t.freeSlot k=some (j,d)):t.place[SetTable.below t.place j]?≠some j:=by
 unfold SetTable.freeSlot at e
 cases q:t.probe (λ_=>k+1) k (t.probeStart k) with
 | none=>rw [q] at e;cases e
 | some m=>
  rw [q] at e
  cases m with
  | candidate _ _ _=>cases e
  | empty i x=>
   obtain ⟨rfl,l⟩:=gV h _ _ rfl i x q;simp only [Option.some.injEq,Prod.mk.injEq] at e
   obtain ⟨rfl,_⟩:=e;exact l
theorem Tb.layNew {b:Bool} {t:SetTable} (h:Tb b t) (c:Array (Int×Value)) (k:Int) (x:Value):Tb b (PySem.layNew t c k x).2.1:=by
 unfold PySem.layNew
 cases e:t.freeSlot k with
 | none=>exact h.standIn _
 | some a=>
  obtain ⟨j,d⟩:=a;exact (h.put (h.free e)).orStandIn _
theorem yN {b led plain:Bool} {g j d:Nat} {Y:Array Int} {t:SetTable} {o:Array Nat} (N:b=false->led=true) (e:SetTable.laid g j d led plain Y=some (t,o)):Tb b t:=by
 unfold SetTable.laid at e
 cases q:SetTable.layClean g Y with
 | none=>rw [q] at e;cases e
 | some i=>
  rw [q] at e;simp only [Option.bind_eq_bind,Option.bind_some,Option.pure_def,Option.some.injEq,Prod.mk.injEq] at e
  obtain ⟨rfl,_⟩:=e;refine ⟨N,?_,rfl⟩
  unfold Rs;simp only [List.toList_toArray]
  rw [pairwise_map];refine List.Pairwise.filterMap _ (R:=(· < ·)) (λa Z h c J v f=>?_) List.pairwise_lt_range
  cases x:i.getD a none with
  | none=>rw [x] at J;cases J
  | some y=>
   cases p:i.getD Z none with
   | none=>rw [p] at f;cases f
   | some z=>
    rw [x] at J;rw [p] at f
    cases J
    cases f
    exact h
theorem Tb.relay {b:Bool} {t:SetTable} (h:Tb b t) (j:Array (Int×Value)) (n:Nat):Tb b (relayAll t j n).2.1:=by
 unfold relayAll
 cases e:t.relaid (j.map (·.1)) n with
 | none=>exact h.standIn _
 | some c=>
  obtain ⟨O,o⟩:=c;simp only
  split
  ·unfold SetTable.relaid at e
   exact yN h.led e
  ·exact h.standIn _
open PySem.Spec L2
open PyProof.Rows hiding St
noncomputable abbrev dv (w:World):Bool:=w.params.followText "set-order"
section
variable {P:Program} {w:World} {A:Around} {E:Value->Shared->Prop} {s:Shared}
noncomputable abbrev iN (w:World):Obj:={ cls:=.type "set",dict:=none,data:=.set #[] 0 (.fresh 0 0 (!dv w)) }
theorem GI (a:Value) {Q:Value->Shared->Prop} (h:Q (.ref s.heap.objs.size) { s with heap:=s.heap.push (iN w) }):codeAny (model P w) A (.call (.builtin "set.__new__") ⟨[.type "set",a],[]⟩) (wants Q E) s:=by
 refine codeAny_of_tree ?_
 refine Nr (wpAny_of_eq (F.newCall_set_1 a) (Nt ⟨plainId_quiet F.plain_set_new _,codeAny_builtin F.entry_set_new ?_⟩))
 rw [Around.under_plainId F.plain_set_new _];unfold Builtin.«set.__new__» Builtin.Frozenset.newClass
 have C:=sub_set_self
 obtain ⟨b,g,d,G,X⟩:=s;dsimp only;wp_walk
 refine wpAny_askSetting (Nt ?_)
 dsimp only;simp only [newObj]
 exact Nr (wpAny_alloc (Nt (Nt h)))
end
theorem lH:entryFor table "set.__iter__"=some Builtin.«frozenset.__iter__»:=entryFor_alias (id' := "frozenset.__iter__") (by kernel_rfl) rfl (by decide +kernel) (by kernel_rfl)
theorem slot_si_next:Slot "set_iterator" "__next__" "set_iterator.__next__":=
 .of (owner := "set_iterator") (n := "__next__") (by rw [typeLookup_type,builtinLookup_eq_fast];kernel_rfl) (by decide +kernel) (by decide +kernel) (by decide +kernel) (by first | exact .inl (by decide +kernel) | exact .inr (by decide +kernel)) (by rw [isSubtype_type];kernel_rfl)
theorem IR:entryFor table "set_iterator.__next__"=some Builtin.«set_iterator.__next__»:=entryFor_of_tree (by kernel_rfl)
theorem IJ (a:Value):argsOk "set_iterator.__next__" ⟨[a],[]⟩:=by
 unfold argsOk;rw [signature?_of (id := "set_iterator.__next__") (n:=['_','_','t','x','e','n','_','_']) (o:=['r','o','t','a','r','e','t','i','_','t','e','s']) (by kernel_rfl) (show Manifest.owners.lookup (String.ofList ['r','o','t','a','r','e','t','i','_','t','e','s'].reverse)=some Manifest.sig_set_iterator by kernel_rfl)]
 kernel_rfl
theorem qH {u:Type} (b:Nat->Nat):∀(a k:Nat) (l:List u) (out:Array u),l.length=a->(pickOrder.go b a k l out).toList.Perm (out.toList++l)
 | 0,k,l,out,h=>by
  unfold pickOrder.go;rw [List.length_eq_zero_iff.mp h,append_nil]
 | n+1,k,l,out,h=>by
  unfold pickOrder.go;have lt:b k % l.length<l.length:=Nat.mod_lt _ (by omega)
  generalize b k % l.length=j at lt
  rw [Nl lt];simp only
  have f:=qH b n (k+1) (l.eraseIdx j) (out.push l[j]) (by rw [List.length_eraseIdx_of_lt lt];omega)
  refine f.trans ?_
  rw [Array.toList_push,append_assoc];refine List.Perm.append_left _ ?_
  rw [List.singleton_append];rw [List.eraseIdx_eq_take_drop_succ];have e:l=l.take j++l[j]::l.drop (j+1):=by rw [List.getElem_cons_drop,take_append_drop]
  conv=>rhs;rw [e]
  exact List.perm_middle.symm
theorem Kg {u:Type} (b:Nat->Nat) (Y:Array u):(pickOrder b Y).toList.Perm Y.toList:=by
 unfold pickOrder;have:=qH b Y.size 0 Y.toList #[] (by simp)
 simpa using this
section
variable {P:Program} {w:World} {A:Around} {E:Value->Shared->Prop} {s:Shared} {S it:Addr} {o:Obj} {es:Array (Int×Value)} {ep:Nat} {t:SetTable}
theorem qO (L:dv w=true) (K:s.heap.get? S=some o) (F:o.data=.set es ep t) (m:t.fits es.size=true) {R i:Nat} {Q:Option (Value×Nat)->Shared->Prop} (h:Q (((pickOrder (w.params.setOrder S ep) es)[i]?).map λe=>(e.2,R)) s):wpAny (model P w) A (setNext S R i ep) Q E s:=by
 unfold setNext;refine Nr (wpAny_setState_of K F m ?_)
 dsimp only;refine Nr ?_
 unfold setsByText;refine Nr (wpAny_askSetting (Nt ?_))
 show wpAny (model P w) A (if dv w=true then _ else _) Q E s
 rw [if_pos L];simp only [bne_self_eq_false,Bool.false_eq_true,if_false]
 refine Nr ?_
 unfold setWalk;refine Nr (wpAny_setState_of K F m ?_)
 dsimp only;refine Nr ?_
 unfold setsByText;refine Nr (wpAny_askSetting (Nt ?_))
 show wpAny (model P w) A (if dv w=true then _ else _) _ E s
 rw [if_pos L];exact Nr (wpAny_askSetting (Nt (Nt h)))
theorem kB (m:t.fits es.size=true):t.place.size=es.size:=by
 unfold SetTable.fits at m;rw [Bool.and_eq_true,beq_iff_eq] at m;exact m.1
theorem qP (L:dv w=false) (u:Tb (dv w) t) (g:(!t.plain&&decide (es.size>1))=false) (K:s.heap.get? S=some o) (F:o.data=.set es ep t) (m:t.fits es.size=true) {R i:Nat} {Q:Option (Value×Nat)->Shared->Prop}
  (h:Q (match es[SetTable.below t.place R]?,t.place[SetTable.below t.place R]? with | some (_,x),some j=>some (x,j+1) | _,_=>none) s):wpAny (model P w) A (setNext S R i ep) Q E s:=by
 have led:=u.led L
 unfold setNext;refine Nr (wpAny_setState_of K F m ?_)
 dsimp only;refine Nr ?_
 unfold setsByText;refine Nr (wpAny_askSetting (Nt ?_))
 show wpAny (model P w) A (if dv w=true then _ else _) Q E s
 rw [if_neg (by rw [L];exact Bool.false_ne_true)]
 show wpAny (model P w) A (if (!t.plain&&decide (es.size>1))=true then _ else _) Q E s
 rw [if_neg (by rw [g];exact Bool.false_ne_true)]
 show wpAny (model P w) A ((if (!t.led&&!es.isEmpty)=true then _ else _) >>= _) Q E s
 rw [if_neg (by rw [led];simp)]
 exact Nr (Nt (Nt h))
end
noncomputable def SetIt (h:Heap) (L S:Addr) (f:Value) (i n N:Nat):Prop:=∃o,h.get? L=some o/\o.cls=.type "set_iterator"/\o.data=.fields #[f,.int i 0,.ref S,.int n 0,.int N 0]
theorem SetIt.at {h U:Heap} {L S:Addr} {f:Value} {i n N:Nat} (x:SetIt h L S f i n N) (k:∀o,h.get? L=some o->U.get? L=some o):SetIt U L S f i n N:=let ⟨o,a,b⟩:=x;⟨o,k o a,b⟩
section
variable {P:Program} {w:World} {A:Around} {E:Value->Shared->Prop} {s:Shared} {S it:Addr} {o:Obj} {es:Array (Int×Value)} {ep:Nat} {t:SetTable} {i n sl nx:Nat} {x:Value} {Q:Option Value->Shared->Prop}
theorem nN (r:SetIt s.heap it S (.int sl 0) i n ep) (K:s.heap.get? S=some o) (F:o.data=.set es ep t) (m:t.fits es.size=true) (y:es.size=n)
  (O:∀(A:Around) (E:Value->Shared->Prop) (R:Option (Value×Nat)->Shared->Prop),R (some (x,nx)) s->wpAny (model P w) A (setNext S sl i ep) R E s)
  (k:∀U,SetIt U it S (.int nx 0) (i+1) n ep->Heap.SameBut it s.heap U->Q (some x) { s with heap:=U }):wpAny (model P w) A (pyNext (.ref it)) Q E s:=by
 obtain ⟨l,gi,j,d⟩:=r;have ty:s.TypeIs (.ref it) "set_iterator":=⟨l,gi,j⟩
 unfold pyNext;refine Nr (wpAny_attempt (wpAny_callSpecial?_slot (name:=Str.ofString "__next__") ty slot_si_next (wpAny_call_entry slot_si_next ty IR ?_ (IJ _))))
 unfold Builtin.«set_iterator.__next__»
 refine Nr (Nt ?_)
 refine Nr (wpAny_fieldsOf gi d ?_)
 dsimp only;refine Nr (wpAny_setEntries_of K F m ?_)
 rw [if_neg (by rw [y];simp)]
 simp only [Int.toNat_natCast]
 refine Nr (O _ _ _ ?_)
 dsimp only;refine Nr (wpAny_setField gi d (by simp) ?_)
 have v:=Heap.get?_update_self (Obj.mapFields (·.setIfInBounds 0 (rawInt nx))) gi (Obj.isFreed_of_fields (Obj.data_mapFields d _))
 have B:=Obj.data_mapFields d (·.setIfInBounds 0 (rawInt nx))
 refine Nr (wpAny_setField v B (by simp) (Nt ⟨x,rfl,Nt (k _ ?_ ((Heap.SameBut.update ..).trans (Heap.SameBut.update ..)))⟩))
 refine ⟨_,Heap.get?_update_self _ v (Obj.isFreed_of_fields (Obj.data_mapFields B _)),(Obj.cls_mapFields ..).trans ((Obj.cls_mapFields ..).trans j),?_⟩
 rw [Obj.data_mapFields B];simp [rawInt]
theorem rG (H:A.handled=none) (r:SetIt s.heap it S (.int sl 0) i n ep) (K:s.heap.get? S=some o) (F:o.data=.set es ep t) (c:t.fits es.size=true) (y:es.size=n)
  (O:∀(A:Around) (E:Value->Shared->Prop) (R:Option (Value×Nat)->Shared->Prop),R none s->wpAny (model P w) A (setNext S sl i ep) R E s)
  (k:∀U,Heap.ExtBut it s.heap U->Q none { s with heap:=U }):wpAny (model P w) A (pyNext (.ref it)) Q E s:=by
 obtain ⟨l,gi,j,d⟩:=r;have ty:s.TypeIs (.ref it) "set_iterator":=⟨l,gi,j⟩
 unfold pyNext;refine Nr (wpAny_attempt (wpAny_callSpecial?_slot (name:=Str.ofString "__next__") ty slot_si_next (wpAny_call_entry slot_si_next ty IR ?_ (IJ _))))
 unfold Builtin.«set_iterator.__next__»
 refine Nr (Nt ?_)
 refine Nr (wpAny_fieldsOf gi d ?_)
 dsimp only;refine Nr (wpAny_setEntries_of K F c ?_)
 rw [if_neg (by rw [y];simp)]
 simp only [Int.toNat_natCast]
 refine Nr (O _ _ _ ?_)
 dsimp only;refine Nr (wpAny_setField gi d (by simp) ?_)
 refine Nr ?_
 simp only [newExc,newTuple]
 refine Nr (wpAny_newObj_type ?_ (by size_fits))
 refine Nr (m:=firstArgMember _ _) (wpAny_of_eq (a:=Value.none) (by first | rfl | (simp only [firstArgMember];rfl)) ?_)
 refine wpAny_newObj_type ?_ (by size_fits)
 simp only [raiseNew]
 refine Nr (wpAny_handled ?_)
 rw [show A.in1.handled=none from H];refine Nr (Nt (wpAny_throw ?_))
 refine Nr (wpAny_isInstance (T := "StopIteration") (b:=true) ⟨_,Heap.get?_push_size _ rfl,rfl⟩ isSubtype_stop ?_)
 exact Nt (k _ (((Heap.SameBut.update ..).extBut.push _).push _))
end
theorem fM:Slot "set_iterator" "__iter__" "set_iterator.__iter__":=
 .of (owner := "set_iterator") (n := "__iter__") (by rw [typeLookup_type,builtinLookup_eq_fast];kernel_rfl) (by decide +kernel) (by decide +kernel) (by decide +kernel) (by first | exact .inl (by decide +kernel) | exact .inr (by decide +kernel)) (by rw [isSubtype_type];kernel_rfl)
theorem jG:entryFor table "set_iterator.__iter__"=some Builtin.«dict_keyiterator.__iter__»:=entryFor_alias (id' := "dict_keyiterator.__iter__") (by kernel_rfl) (by first | rfl | decide +kernel) (by decide +kernel) (by kernel_rfl)
theorem ma (a:Value):argsOk "set_iterator.__iter__" ⟨[a],[]⟩:=by
 unfold argsOk;rw [signature?_of (id := "set_iterator.__iter__") (n:=['_','_','r','e','t','i','_','_']) (o:=['r','o','t','a','r','e','t','i','_','t','e','s']) (by kernel_rfl) (show Manifest.owners.lookup (String.ofList ['r','o','t','a','r','e','t','i','_','t','e','s'].reverse)=some Manifest.sig_set_iterator by kernel_rfl)]
 kernel_rfl
section
variable {P:Program} {w:World} {A:Around} {E:Value->Shared->Prop} {s:Shared} {S it:Addr} {o:Obj} {es:Array (Int×Value)} {ep:Nat} {t:SetTable} {i n:Nat} {f:Value}
theorem J4 {Q:Value->Shared->Prop} (r:SetIt s.heap it S f i n ep) (h:Q (.ref it) s):wpAny (model P w) A (pyIter (.ref it)) Q E s:=by
 obtain ⟨l,gi,j,_⟩:=r;have ty:s.TypeIs (.ref it) "set_iterator":=⟨l,gi,j⟩
 refine wpAny_pyIter_slot ty fM (wpAny_call_entry fM ty jG ?_ (ma _))
 show wpAny _ _ (ret (.ref it)) _ _ s
 exact Nt ⟨_,rfl, "set_iterator",_,ty,slot_si_next.lookup,h⟩
theorem xE (H:A.handled=none) (L:dv w=true) (K:S≠it) (F:o.data=.set es ep t) (m:t.fits es.size=true) (y:es.size=n) :
  Walks P w A it [it,S] [it] n (λi v=>((pickOrder (w.params.setOrder S ep) es).toList.map (·.2))[i]?=some v) (λi h=>SetIt h it S (.int 0 0) i n ep/\h.get? S=some o) where
 sub:=λb Z=>by simp at Z;simp [Z]
 frame:=λ_ _ _ st O=>⟨st.1.at λo e=>O it (by simp) o e,O S (by simp) o st.2⟩
 item:=λi s Q E l st k=>by
  have N:(pickOrder (w.params.setOrder S ep) es).size=n:=by rw [<-Array.length_toList,(Kg _ es).length_eq,Array.length_toList,y]
  have q:i<(pickOrder (w.params.setOrder S ep) es).size:=by rw [N];exact l
  refine nN (x:=((pickOrder (w.params.setOrder S ep) es)[i]).2) (nx:=0) st.1 st.2 F m y (λA E R h=>qO L st.2 F m (by rw [Array.getElem?_eq_getElem q];exact h)) λU d M=>?_
  exact k _ U s.toks (by rw [getElem?_map,Array.getElem?_toList,Array.getElem?_eq_getElem q];rfl) ⟨d,M.extBut S o K st.2⟩ λb o Z e=>M.extBut b o (λz=>Z (by simp [z])) e
 done:=λs Q E st k=>by
  have N:(pickOrder (w.params.setOrder S ep) es).size=n:=by rw [<-Array.length_toList,(Kg _ es).length_eq,Array.length_toList,y]
  exact rG H st.1 st.2 F m y (λA E R h=>qO L st.2 F m (by rw [Array.getElem?_eq_none (by omega)];exact h)) λU g=>k U s.toks λb o Z e=>g b o (λz=>Z (by simp [z])) e
 self:=λ_ _ _ _ st k=>J4 st.1 k
noncomputable abbrev sE (t:SetTable) (i:Nat):Nat:=if i=0 then 0 else t.place.getD (i-1) 0+1
theorem mH (u:Tb (dv w) t) (m:t.fits es.size=true) (l:i<=es.size):SetTable.below t.place (sE t i)=i:=by
 have Y:=kB m
 unfold sE;by_cases c:i=0
 ·rw [if_pos c,c]
  exact pQ
 ·rw [if_neg c,AV (by omega),pR u.rs (by omega)]
  omega
theorem xF (H:A.handled=none) (L:dv w=false) (u:Tb (dv w) t) (g:(!t.plain&&decide (es.size>1))=false) (K:S≠it) (F:o.data=.set es ep t) (m:t.fits es.size=true) (y:es.size=n) :
  Walks P w A it [it,S] [it] n (λi v=>(es.toList.map (·.2))[i]?=some v) (λi h=>SetIt h it S (.int (sE t i) 0) i n ep/\h.get? S=some o) where
 sub:=λb Z=>by simp at Z;simp [Z]
 frame:=λ_ _ _ st O=>⟨st.1.at λo e=>O it (by simp) o e,O S (by simp) o st.2⟩
 item:=λi s Q E l st k=>by
  have Y:=kB m
  have q:i<es.size:=by omega
  have a:i<t.place.size:=by omega
  refine nN (x:=(es[i]).2) (nx:=sE t (i+1)) st.1 st.2 F m y (λA E R h=>qP L u g st.2 F m ?_) λU d M=>?_
  ·rw [mH u m (by omega),Array.getElem?_eq_getElem q,Array.getElem?_eq_getElem a]
   have e:sE t (i+1)=t.place[i]+1:=by
    unfold sE;rw [if_neg (by omega),Nat.add_sub_cancel,AV a]
   rw [e] at h;exact h
  ·exact k _ U s.toks (by rw [getElem?_map,Array.getElem?_toList,Array.getElem?_eq_getElem q];rfl) ⟨d,M.extBut S o K st.2⟩ λb o Z e=>M.extBut b o (λz=>Z (by simp [z])) e
 done:=λs Q E st k=>by
  refine rG H st.1 st.2 F m y (λA E R h=>qP L u g st.2 F m ?_) λU c=>k U s.toks λb o Z e=>c b o (λz=>Z (by simp [z])) e
  rw [mH u m (by omega),Array.getElem?_eq_none (by omega)]
  exact h
 self:=λ_ _ _ _ st k=>J4 st.1 k
theorem pS {a:Source} {n:Nat} {Q:Nat->Shared->Prop} {M:Model} (y:n≠0) (h:Q (M.w.draws a (s.drawn.get a) % n) { s with drawn:=s.drawn.bump a }):wpAny M A (choose a n) Q E s:=λ_ _ _=>⟨y,h⟩
theorem tX {u:Type} {M:Model} (n:Nat):∀(l:List u) (s:Shared) {Q:List u->Shared->Prop},l.length=n->(∀b d,b.Perm l->Q b { s with drawn:=d })->wpAny M A (drawOrder n l) Q E s:=by
 induction n with
 | zero=>
  intro l s Q N h;rw [List.length_eq_zero_iff.mp N] at h ⊢;have:=h [] s.drawn (List.Perm.refl _)
  have e:s={ s with drawn:=s.drawn }:=by cases s;rfl
  unfold drawOrder;rw [e];exact Nt this
 | succ n c=>
  intro l s Q N h
  cases l with
  | nil=>cases N
  | cons a l=>
   unfold drawOrder;refine Nr (pS (by simp) ?_)
   have lt:M.w.draws Source.order (s.drawn.get Source.order) % (a::l).length<(a::l).length:=Nat.mod_lt _ (by simp)
   generalize M.w.draws Source.order (s.drawn.get Source.order) % (a::l).length=j at lt
   rw [Nl lt];dsimp only;refine Nr (c _ _ (by rw [List.length_eraseIdx_of_lt lt];omega) λb d r=>Nt (h _ d ?_))
   refine (List.Perm.cons _ r).trans ?_
   rw [List.eraseIdx_eq_take_drop_succ];have e:(a::l)=(a::l).take j++(a::l)[j]::(a::l).drop (j+1):=by rw [List.getElem_cons_drop,take_append_drop]
   conv=>rhs;rw [e]
   exact List.perm_middle.symm
end
section
variable {P:Program} {w:World} {A:Around} {E:Value->Shared->Prop} {s:Shared} {S it T:Addr} {o oT:Obj} {es:Array (Int×Value)} {ep c:Nat} {t:SetTable} {i n:Nat} {x:Value} {pl:List Nat} {Q:Option Value->Shared->Prop}
noncomputable abbrev uu (Z:List Nat):Array Value:=(Z.map λ(i:Nat)=>rawInt i).toArray
theorem yT (r:SetIt s.heap it S (.ref T) i n ep) (K:s.heap.get? S=some o) (F:o.data=.set es ep t) (m:t.fits es.size=true) (y:es.size=n) (C:s.heap.get? T=some oT) (dT:oT.data=.seq (uu pl) c)
  {p:Nat} {e:Int×Value} (g:pl[i]?=some p) (R:es[p]?=some e)
  (k:∀U,SetIt U it S (.ref T) (i+1) n ep->Heap.SameBut it s.heap U->Q (some e.2) { s with heap:=U }):wpAny (model P w) A (pyNext (.ref it)) Q E s:=by
 obtain ⟨l,gi,j,d⟩:=r;have ty:s.TypeIs (.ref it) "set_iterator":=⟨l,gi,j⟩
 unfold pyNext;refine Nr (wpAny_attempt (wpAny_callSpecial?_slot (name:=Str.ofString "__next__") ty slot_si_next (wpAny_call_entry slot_si_next ty IR ?_ (IJ _))))
 unfold Builtin.«set_iterator.__next__»
 refine Nr (Nt ?_)
 refine Nr (wpAny_fieldsOf gi d ?_)
 dsimp only;refine Nr (wpAny_setEntries_of K F m ?_)
 rw [if_neg (by rw [y];simp)]
 refine Nr (wpAny_seqItems C dT ?_)
 have B:(uu pl)[Int.toNat (i:Int)]?=some (rawInt p):=by
  rw [Int.toNat_natCast,getElem?_toArray,getElem?_map,g];rfl
 dsimp only;rw [B];simp only [rawInt,Int.toNat_natCast]
 refine Nr ?_
 unfold setNextDrawn;refine Nr (wpAny_setState_of K F m ?_)
 dsimp only;simp only [bne_self_eq_false,Bool.false_eq_true,if_false]
 rw [R];refine Nt ?_
 refine Nr (wpAny_setField gi d (by simp) (Nt ⟨e.2,rfl,Nt (k _ ?_ (Heap.SameBut.update ..))⟩))
 refine ⟨_,Heap.get?_update_self _ gi (Obj.isFreed_of_fields (Obj.data_mapFields d _)),(Obj.cls_mapFields ..).trans j,?_⟩
 rw [Obj.data_mapFields d];simp [rawInt]
theorem Df (H:A.handled=none) (r:SetIt s.heap it S (.ref T) i n ep) (K:s.heap.get? S=some o) (F:o.data=.set es ep t) (f:t.fits es.size=true) (y:es.size=n) (C:s.heap.get? T=some oT) (dT:oT.data=.seq (uu pl) c)
  (g:pl[i]?=none) (k:∀U,Heap.ExtBut it s.heap U->Q none { s with heap:=U }):wpAny (model P w) A (pyNext (.ref it)) Q E s:=by
 obtain ⟨l,gi,j,d⟩:=r;have ty:s.TypeIs (.ref it) "set_iterator":=⟨l,gi,j⟩
 unfold pyNext;refine Nr (wpAny_attempt (wpAny_callSpecial?_slot (name:=Str.ofString "__next__") ty slot_si_next (wpAny_call_entry slot_si_next ty IR ?_ (IJ _))))
 unfold Builtin.«set_iterator.__next__»
 refine Nr (Nt ?_)
 refine Nr (wpAny_fieldsOf gi d ?_)
 dsimp only;refine Nr (wpAny_setEntries_of K F f ?_)
 rw [if_neg (by rw [y];simp)]
 refine Nr (wpAny_seqItems C dT ?_)
 have B:(uu pl)[Int.toNat (i:Int)]?=none:=by
  rw [Int.toNat_natCast,getElem?_toArray,getElem?_map,g];rfl
 dsimp only;rw [B];dsimp only;refine Nr (wpAny_setField gi d (by simp) ?_)
 have v:=Heap.get?_update_self (Obj.mapFields (·.setIfInBounds 0 (rawInt 0))) gi (Obj.isFreed_of_fields (Obj.data_mapFields d _))
 have e:=Obj.data_mapFields d (·.setIfInBounds 0 (rawInt 0))
 refine Nr (wpAny_setField v e (by simp) ?_)
 refine Nr ?_
 simp only [newExc,newTuple]
 refine Nr (wpAny_newObj_type ?_ (by size_fits))
 refine Nr (m:=firstArgMember _ _) (wpAny_of_eq (a:=Value.none) (by first | rfl | (simp only [firstArgMember];rfl)) ?_)
 refine wpAny_newObj_type ?_ (by size_fits)
 simp only [raiseNew]
 refine Nr (wpAny_handled ?_)
 rw [show A.in1.handled=none from H];refine Nr (Nt (wpAny_throw ?_))
 refine Nr (wpAny_isInstance (T := "StopIteration") (b:=true) ⟨_,Heap.get?_push_size _ rfl,rfl⟩ isSubtype_stop ?_)
 exact Nt (k _ ((((Heap.SameBut.update ..).trans (Heap.SameBut.update ..)).extBut.push _).push _))
theorem xG (H:A.handled=none) (K:S≠it) (a:T≠it) (F:o.data=.set es ep t) (m:t.fits es.size=true) (y:es.size=n) (dT:oT.data=.seq (uu pl) c) (N:pl.length=n) (G:∀p∈pl,p<n) :
  Walks P w A it [it,S,T] [it] n (λi v=>(pl.map λp=>(es.getD p (0,.none)).2)[i]?=some v) (λi h=>SetIt h it S (.ref T) i n ep/\h.get? S=some o/\h.get? T=some oT) where
 sub:=λb Z=>by simp at Z;simp [Z]
 frame:=λ_ _ _ st O=>⟨st.1.at λo e=>O it (by simp) o e,O S (by simp) o st.2.1,O T (by simp) oT st.2.2⟩
 item:=λi s Q E l st k=>by
  have q:i<pl.length:=by omega
  have g:pl[i]<es.size:=by
   rw [y];exact G _ (getElem_mem q)
  refine yT st.1 st.2.1 F m y st.2.2 dT (Nl q) (Array.getElem?_eq_getElem g) λU d M=>?_
  refine k _ U s.toks ?_ ⟨d,M.extBut S o K st.2.1,M.extBut T oT a st.2.2⟩ λb o Z e=>M.extBut b o (λz=>Z (by simp [z])) e
  rw [getElem?_map,Nl q];simp [Array.getD,g]
 done:=λs Q E st k=>Df H st.1 st.2.1 F m y st.2.2 dT (getElem?_eq_none (by omega)) λU f=>k U s.toks λb o Z e=>f b o (λz=>Z (by simp [z])) e
 self:=λ_ _ _ _ st k=>J4 st.1 k
end
section
variable {P:Program} {w:World} {A:Around} {E:Value->Shared->Prop} {s:Shared} {S:Addr} {o:Obj} {es:Array (Int×Value)} {ep:Nat} {t:SetTable} {Q:Value->Shared->Prop}
theorem iP (j:Array (Int×Value)):(List.range j.size).map (λp=>(j.getD p (0,.none)).2)=j.toList.map (·.2):=by
 apply List.ext_getElem
 ·simp
 ·intro i R C
  have l:i<j.size:=by simpa using R
  simp [Array.getD,l]
theorem wa (H:A.handled=none) (K:s.heap.get? S=some o) (J:o.cls=.type "set") (I:o.data=.set es ep t) (m:t.fits es.size=true) (Z:es.size<scanBound) (u:Tb (dv w) t)
  (h:∀(U:Heap) (B:Drawn) (it:Addr) (fp:List Addr) (us:List Value) (St:Nat->Heap->Prop),(∀b o,s.heap.get? b=some o->U.get? b=some o)->us.Perm (es.toList.map (·.2))->s.heap.objs.size<=it->(∀b∈fp,b<U.objs.size/\(b=S\/s.heap.objs.size<=b)) ->
   Walks P w A it fp [it] es.size (λi v=>us[i]?=some v) St->St 0 U->Q (.ref it) { s with heap:=U,drawn:=B }) :
  wpAny (model P w) A (pyIter (.ref S)) Q E s:=by
 have ty:s.TypeIs (.ref S) "set":=⟨o,K,J⟩
 have l:S<s.heap.objs.size:=Heap.lt_size K
 refine wpAny_pyIter_slot ty F.slot_set_iter (wpAny_call_entry F.slot_set_iter ty lH ?_ (F.args_set_iter_1 _))
 unfold Builtin.«frozenset.__iter__»
 refine Nr (Nt ?_)
 refine Nr ?_
 unfold Builtin.Frozenset.sizeOf;refine Nr (wpAny_setEntries_of K I m (Nt ?_))
 have x:es.size<=sizeLine:=Nat.le_of_lt (Nat.lt_of_lt_of_le Z (by decide))
 have d:∀(k:Value) (j:Shared) (R:j.heap.get? S=some o),Q (.ref j.heap.objs.size) { j with heap:=j.heap.push { cls:=.type "set_iterator",data:=.fields #[k,.int 0 0,.ref S,.int es.size 0,.int ep 0] } } ->
   wpAny (model P w) A.in1 (do
    let e <-setEpoch S
    let r <-newFields "set_iterator" [k,rawInt 0,Value.ref S,rawInt ↑es.size,rawInt ↑e]
    ret r) (λd j=>∃v,d=Fin.done (Flow.ret v)/\∃z r,j.TypeIs v z/\typeLookup (Value.type z) (Str.ofString "__next__")=pure (some r)/\Q v j) E j:=by
  intro k j R q
  refine Nr ?_
  unfold setEpoch;refine Nr (wpAny_setState_of R I m (Nt ?_))
  refine Nr ?_
  unfold newFields;refine wpAny_newObj_type (Nt ⟨_,rfl, "set_iterator",_,⟨_,Heap.get?_push_size _ rfl,rfl⟩,slot_si_next.lookup,?_⟩) (by size_fits)
  exact q
 refine Nr ?_
 unfold setDrawn;refine Nr (wpAny_setState_of K I m ?_)
 dsimp only;refine Nr ?_
 unfold setsByText;refine Nr (wpAny_askSetting (Nt ?_))
 refine Nt ?_
 show wpAny (model P w) A.in1 (if (!dv w&&(!t.plain&&decide (es.size>1)))=true then _ else _) _ E s
 by_cases a:(!dv w&&(!t.plain&&decide (es.size>1)))=true
 ·rw [if_pos a]
  refine Nr (tX es.size (List.range es.size) s (by simp) λpl B O=>?_)
  have N:pl.length=es.size:=by rw [O.length_eq,length_range]
  refine Nr (wpAny_newTuple ?_ (by rw [length_map,N];exact x))
  refine d _ _ (Nu _ K) ?_
  have G:(s.heap.push { cls:=.type "tuple",data:=.seq (uu pl) }).get? s.heap.objs.size=some { cls:=.type "tuple",data:=.seq (uu pl) }:=Heap.get?_push_size _ rfl
  have y:(s.heap.push { cls:=.type "tuple",data:=.seq (uu pl) }).objs.size=s.heap.objs.size+1:=Heap.size_push ..
  have gI:=Heap.get?_push_size (o:={ cls:=.type "set_iterator",data:=.fields #[.ref s.heap.objs.size,.int 0 0,.ref S,.int es.size 0,.int ep 0] }) (s.heap.push { cls:=.type "tuple",data:=.seq (uu pl) }) rfl
  have W:=xG (P:=P) (w:=w) (A:=A) (it:=(s.heap.push { cls:=.type "tuple",data:=.seq (uu pl) }).objs.size) (S:=S) (T:=s.heap.objs.size) (o:=o) (t:=t) (ep:=ep) (pl:=pl) (c:=0) H (by rw [y];exact Nat.ne_of_lt (Nat.lt_succ_of_lt l)) (by rw [y];exact Nat.ne_of_lt (Nat.lt_succ_self _)) I m rfl (oT:={ cls:=.type "tuple",data:=.seq (uu pl) }) rfl N λp g=>by simpa using O.mem_iff.mp g
  refine h _ B _ [(s.heap.push { cls:=.type "tuple",data:=.seq (uu pl) }).objs.size,S,s.heap.objs.size] (pl.map λp=>(es.getD p (0,.none)).2) _ (λb o e=>Nu _ (Nu _ e)) ?_ ?_ ?_ W ⟨⟨_,gI,rfl,rfl⟩,Nu _ (Nu _ K),Nu _ G⟩
  ·rw [<-iP]
   exact O.map _
  ·show s.heap.objs.size<=(s.heap.push _).objs.size
   rw [Heap.size_push];omega
  ·intro b Z
   show b<((s.heap.push _).push _).objs.size/\_
   rw [Heap.size_push,Heap.size_push];simp only [mem_cons,not_mem_nil,or_false] at Z
   rcases Z with rfl | rfl | rfl
   ·exact ⟨by rw [y];exact Nat.lt_succ_self _,.inr (by rw [y];exact Nat.le_succ _)⟩
   ·exact ⟨Nat.lt_succ_of_lt (Nat.lt_succ_of_lt l),.inl rfl⟩
   ·exact ⟨Nat.lt_succ_of_lt (Nat.lt_succ_self _),.inr (Nv _)⟩
 ·rw [if_neg a]
  refine Nr (Nt ?_)
  refine d _ _ K ?_
  have f:∀b o,s.heap.get? b=some o->(s.heap.push { cls:=.type "set_iterator",data:=.fields #[.int 0 0,.int 0 0,.ref S,.int es.size 0,.int ep 0] }).get? b=some o:=λb o e=>Nu _ e
  have n:∀b∈[s.heap.objs.size,S],b<(s.heap.push { cls:=.type "set_iterator",data:=.fields #[.int 0 0,.int 0 0,.ref S,.int es.size 0,.int ep 0] }).objs.size/\(b=S\/s.heap.objs.size<=b):=by
   intro b Z;rw [Heap.size_push];simp only [mem_cons,not_mem_nil,or_false] at Z
   rcases Z with rfl | rfl
   ·exact ⟨Nat.lt_succ_self _,.inr (Nv _)⟩
   ·exact ⟨Nat.lt_succ_of_lt l,.inl rfl⟩
  have C:SetIt (s.heap.push { cls:=.type "set_iterator",data:=.fields #[.int 0 0,.int 0 0,.ref S,.int es.size 0,.int ep 0] }) s.heap.objs.size S (.int 0 0) 0 es.size ep:=⟨_,Heap.get?_push_size _ rfl,rfl,rfl⟩
  by_cases L:dv w=true
  ·exact h _ s.drawn _ [s.heap.objs.size,S] _ _ f ((Kg (w.params.setOrder S ep) es).map _) (Nv _) n (xE (o:=o) H L (Nat.ne_of_lt l) I m rfl) ⟨C,f S o K⟩
  ·have M:dv w=false:=by simpa using L
   rw [M] at a;have g:(!t.plain&&decide (es.size>1))=false:=by simpa using a
   exact h _ s.drawn _ [s.heap.objs.size,S] _ _ f (List.Perm.refl _) (Nv _) n (xF (o:=o) H M u g (Nat.ne_of_lt l) I m rfl) ⟨C,f S o K⟩
end
section
variable {P:Program} {w:World} {A:Around} {E:Value->Shared->Prop} {s:Shared} {r:Addr}
theorem wm {Q:Bool->Shared->Prop} (C:s.TypeIs (.ref r) "set") (h:Q false s):wpAny (model P w) A (Builtin.List.listLengthHint (.ref r)) Q E s:=by
 unfold Builtin.List.listLengthHint;refine Nr (wpAny_specialOf C PySem.F.slot_set_len.lookup ?_)
 generalize aS:("set.__len__":String)=id0
 wp_delta
 rw [show splitId id0=some ("set", "__len__") from by subst aS;decide +kernel]
 subst aS;refine Nr (wpAny_isInstance (T := "set") (b:=true) C (by rw [isSubtype_type];kernel_rfl) ?_)
 refine wpAny_ite_split (λd=>absurd d (by decide)) (λ_=>?_)
 refine wpAny_ite_split (λ_=>?_) (λd=>absurd (by decide +kernel) d)
 refine Nr (wpAny_typeOf C ?_)
 exact Nt h
variable {o:Obj} {es:Array (Int×Value)} {ep:Nat} {t:SetTable}
theorem zj {R:Result->Shared->Prop} (H:A.handled=none) (K:s.heap.get? r=some o) (J:o.cls=.type "set") (F:o.data=.set es ep t) (m:t.fits es.size=true) (Z:es.size<scanBound) (u:Tb (dv w) t) (S:Addr) (hSr:S≠r) (res:Value) (y:s.heap.get? S=some { cls:=.type "list",data:=.seq #[] 0 })
  (Y:∀U tk B g v,(∀b o,b≠S->s.heap.get? b=some o->U.get? b=some o)->U.get? S=some { cls:=.type "list",dict:=none,data:=.seq g v,slots:=#[] }->g.toList.Perm (es.toList.map (·.2))->R (.ok (.ret res)) { s with heap:=U,toks:=tk,drawn:=B }) :
  wpAny (model P w) A.in1 (Builtin.List.listExtendWith (.ref S) (.ref r) res)
   (λd j=>match d with | .done f=>R (.ok f) j | .again v=>v.quiet=true/\codeAny (model P w) A v R j) (λe j=>R (.error e) j) s:=by
 have lS:=Heap.lt_size y
 have x:es.size<=sizeLine:=Nat.le_of_lt (Nat.lt_of_lt_of_le Z (by decide))
 unfold Builtin.List.listExtendWith;refine Nr (wpAny_typeOf (T := "set") ⟨o,K,J⟩ ?_)
 have h1:Builtin.List.listSameRef (.ref S) (.ref r)=false:=by simp [Builtin.List.listSameRef,hSr]
 have k:(Value.type "set"==Value.type "list")=false:=by decide
 have n2:(Value.type "set"==Value.type "tuple")=false:=by decide
 simp only [h1,k,n2,Bool.or_false,Bool.false_eq_true,if_false]
 refine Nr (wa H K J F m Z u λU B L a z St kp pm lI hfp W st=>?_)
 have hSf:S∉a:=λG=>by
  rcases (hfp S G).2 with e | e
  ·exact hSr e
  ·exact absurd lS (Nat.not_lt_of_le e)
 have n:=kp S _ y
 have N:∀(C:Heap) (M:Nat),St 0 C->(∀b o,b≠S->s.heap.get? b=some o->C.get? b=some o) ->
   C.get? S=some { cls:=.type "list",data:=.seq #[] M }->codeAny (model P w) A (.builtin "list.extend.loop" ⟨[.ref S,.ref L,res],[]⟩) R { s with heap:=C,drawn:=B }:=by
  intro C M q O n;refine codeAny_extend_loopS W.toS x S hSf res es.size 0 _ #[] M rfl (Nat.zero_le _) q n (ItemsOf.nil _) λj g v G I c=>?_
  have e:g.toList=z:=by
   apply ext_getElem?
   intro i;have lu:z.length=es.size:=by rw [pm.length_eq,length_map,Array.length_toList]
   by_cases l:i<g.size
   ·have:=c.2 i g[i] (Array.getElem?_eq_getElem l)
    rw [Array.getElem?_toList,Array.getElem?_eq_getElem l,this]
   ·rw [Array.getElem?_toList,Array.getElem?_eq_none (by omega),getElem?_eq_none (by have:=c.1;omega)]
  rw [Moved.eq_with G];refine Y j.heap j.toks B g v (λb o Z e=>G.heap b o (λp=>?_) (O b o Z e)) I (by rw [e];exact pm)
  rcases Nk p with e' | p
  ·exact Z e'
  ·exact absurd (Heap.lt_size e) (by rw [List.mem_singleton.mp p];exact Nat.not_lt_of_le lI)
 refine Nr (wpAny_holding (wm (r:=r) ⟨o,kp r o K,J⟩ ?_))
 refine wpAny_ite_split (λ_=>?_) (λ_=>Nt ⟨plainId_quiet PySem.F.plain_extend_loop _,N _ 0 st (λb o _ e=>kp b o e) n⟩)
 refine Nr (wpAny_rule ?_)
 refine Nr ?_
 show wpAny _ _ (updateSeq S (·.push .none) >>= λ_=>updateSeq S (·.pop)) _ _ _
 refine Nr (wpAny_updateSeq n rfl ?_)
 have X:=Heap.get?_update_self (Obj.mapSeq (·.push Value.none)) n rfl
 refine wpAny_updateSeq (hz:=by seq_fits) X rfl ?_
 have hS₃:=Heap.get?_update_self (Obj.mapSeq (·.pop)) X rfl
 refine Nt ⟨plainId_quiet PySem.F.plain_extend_loop _,N _ _ ?_ (λb o Z e=>?_) hS₃⟩
 ·refine W.frame 0 _ _ st λb Z o e=>?_
  have hbS:b≠S:=λh=>hSf (h▸Z)
  exact (Heap.get?_update_other _ _ (Ne.symm hbS)).trans ((Heap.get?_update_other _ _ (Ne.symm hbS)).trans e)
 ·exact (Heap.get?_update_other _ _ (Ne.symm Z)).trans ((Heap.get?_update_other _ _ (Ne.symm Z)).trans (kp b o e))
theorem ot {R:List Value->Shared->Prop} (H:A.handled=none) (K:s.heap.get? r=some o) (J:o.cls=.type "set") (F:o.data=.set es ep t) (m:t.fits es.size=true) (Z:es.size<scanBound) (u:Tb (dv w) t)
  (h:∀(U:Heap) (G:Nat) (B:Drawn) (us:List Value),(∀b o,s.heap.get? b=some o->U.get? b=some o)->us.Perm (es.toList.map (·.2))->R us { s with heap:=U,toks:=G,drawn:=B }) :
  wpAny (model P w) A (collect (.ref r)) R E s:=by
 have a:=Heap.lt_size K
 unfold collect;refine Nr (wpAny_runValue (codeAny_builtin entry_proto_collect' ?_))
 rw [Around.under_plainId PySem.F.plain_proto_collect _];show wpAny _ A.in1 (newList [] >>= λl=>again (.builtin "list.__iadd__" ⟨[l,.ref r],[]⟩)) _ _ s
 refine Nr (wpAny_newObj_type ?_)
 refine Nt ⟨plainId_quiet PySem.F.plain_list_iadd _,codeAny_builtin entry_list_iadd' ?_⟩
 rw [Around.under_plainId PySem.F.plain_list_iadd _];have n:(s.heap.push { cls:=.type "list",data:=.seq ([]:List Value).toArray }).get? s.heap.objs.size=some { cls:=.type "list",data:=.seq #[] }:=Heap.get?_push_size _ rfl
 show wpAny _ A.in1 (Builtin.List.listExtendWith (.ref s.heap.objs.size) (.ref r) (.ref s.heap.objs.size)) _ _ _
 have N:=zj (P:=P) (w:=w) (A:=A) (s:={ s with heap:=s.heap.push { cls:=.type "list",data:=.seq ([]:List Value).toArray } })
  (R:=λ(q:Result) (j:Shared)=>∃(U:Heap) (G:Nat) (B:Drawn) (g:Array Value) (v:Nat),q=.ok (.ret (.ref s.heap.objs.size))/\j={ s with heap:=U,toks:=G,drawn:=B } /\
   (∀b o,s.heap.get? b=some o->U.get? b=some o)/\U.get? s.heap.objs.size=some { cls:=.type "list",dict:=none,data:=.seq g v,slots:=#[] }/\g.toList.Perm (es.toList.map (·.2)))
  H (Nu _ K) J F m Z u s.heap.objs.size (Nat.ne_of_gt a) (.ref s.heap.objs.size) n
  (λU G B g v O I c=>⟨U,G,B,g,v,rfl,rfl,λb o e=>O b o (Nat.ne_of_lt (Heap.lt_size e)) (Nu _ e),I,c⟩)
 refine wpAny_mono N (λd j x=>?_) λe j x=>?_
 ·cases d with
  | done f=>
   obtain ⟨U,G,B,g,v,e,rfl,O,I,c⟩:=x
   cases e;show wpAny _ A (load s.heap.objs.size >>= _) _ _ _
   refine Nr (wpAny_load I ?_)
   exact Nt (h U G B g.toList O c)
  | again M=>
   refine ⟨x.1,codeAny_mono x.2 λq i y=>?_⟩
   obtain ⟨U,G,B,g,v,rfl,rfl,O,I,c⟩:=y;show wpAny _ A (load s.heap.objs.size >>= _) _ _ _
   refine Nr (wpAny_load I ?_)
   exact Nt (h U G B g.toList O c)
 ·obtain ⟨_,_,_,_,_,k,_⟩:=x
  cases k
end
noncomputable def MF (U:List Int):List Int:=firstMet (λi=>U.getD i 0) U.length
theorem L2Inv.drawn {X:Cx} {B:List (Addr×Obj)} {M:List (Option V)} {H:Hp} {s:Shared} (I:L2.Inv X B M H s) (d:Drawn):L2.Inv X B M H { s with drawn:=d }:=
 ⟨I.ok,I.os,I.bare,I.base,I.loc,I.cell,I.free,I.freeC,I.pin,I.hok,I.len⟩
theorem HF:bootBuiltins "set"=some (.type "set"):=by decide +kernel
section
variable {K:Fg} {W:XW} {σ:St} {H:Hp} {Q:VK} {fa:F1} {fl:FL}
noncomputable def Dh (q:FL):F1:=λB=>(q B).bind λJ I=>match dN (J.map (·.d)) with
 | some U=>if U.length<4000/\(MF U).length<64 then .ok ⟨.lst .leaf,.list ((PySem.W.sortI (MF U)).map .int)⟩ I else .no
 | none=>.no
end
noncomputable def yG:List Int->Int
 | []=>0
 | a::r=>r.foldl (λx y=>if x<y then y else x) a
theorem qQ:∀(r:List Int) (a:Int),(r.foldl (λx y=>if x<y then y else x) a=a\/r.foldl (λx y=>if x<y then y else x) a∈r)/\a<=r.foldl (λx y=>if x<y then y else x) a/\∀b∈r,b<=r.foldl (λx y=>if x<y then y else x) a
 | [],a=>⟨.inl rfl,Int.le_refl _,λb Z=>by cases Z⟩
 | c::r,a=>by
  rw [List.foldl_cons];obtain ⟨R,C,n⟩:=qQ r (if a<c then c else a)
  have e:a<=(if a<c then c else a)/\c<=(if a<c then c else a)/\((if a<c then c else a)=a\/(if a<c then c else a)=c):=by split<;>omega
  refine ⟨?_,by omega,λb Z=>?_⟩
  ·rcases R with R | R
   ·rw [R]
    rcases e.2.2 with z | z
    ·exact .inl z
    ·exact .inr (by rw [z];exact mem_cons_self)
   ·exact .inr (Nn _ R)
  ·rcases Nk Z with rfl | Z
   ·omega
   ·exact n b Z
theorem Ct {U:List Int} {M:Int} (R:M∈U) (C:∀a∈U,a<=M):yG U=M:=by
 cases U with
 | nil=>cases R
 | cons a r=>
  obtain ⟨v,F,b⟩:=qQ r a;show r.foldl _ a=M
  have u:r.foldl (λx y=>if x<y then y else x) a<=M:=by
   rcases v with v | v
   ·rw [v];exact C a (by simp)
   ·exact C _ (Nn _ v)
  have l:M<=r.foldl (λx y=>if x<y then y else x) a:=by
   rcases Nk R with rfl | R
   ·exact F
   ·exact b M R
  omega
noncomputable def iZ:List Nw->Option Nw
 | [.list ds]=>match dR ds with
  | some (a::r)=>some (.int (yG (a::r)))
  | _=>none
 | _=>none
noncomputable def Ai (K:Fg):List V->Hp->VK->Prop:=λY H Q=>∃(p:Addr) (ns:List Int),Y=[.ref p]/\SqL K H p (ns.map V.int)/\0<ns.length/\Q (.int (yG ns)) H
theorem zc {K:Fg}:GCall K (Ai K) iZ:=by
 intro L H Q N d r e k;unfold iZ at e;split at e
 ·rename_i j
  split at e
  ·rename_i a q m
   cases e;rw [Kd m] at r;have b:=r.1
   match L,b with
   | [v],_=>
    have z:=r.2 0 v (.list ((a::q).map .int)) rfl rfl
    cases z with
    | @lst p ws _ hq hwl hw=>
     have G:=sM (K:=K) (H:=H) ⟨hwl,hw⟩
     rw [G] at hq;exact ⟨p,a::q,rfl,hq,by simp,k _ (.int _)⟩
  ·cases e
 ·cases e
theorem uh {X:Cx} (J:X.calm=true):CallR X (.builtin "max") (Ai X.K):=by
 intro B s M H L z Q I f h;obtain ⟨p,d,rfl,n,K,q⟩:=h;obtain ⟨u,rfl,e⟩:=vals1 f
 cases e;obtain ⟨g,f,Z,w⟩:=I.list n;have l:=JA f
 obtain ⟨Y,c⟩:=(l.allInts:AllInts g.toArray).items
 have en:d=Y.toList.map (·.1):=by
  rw [<-nums_intItems,<-c];exact l.numsOf.symm
 have N:=Z.isList
 rw [c] at N;have x:0<Y.size:=by
  have b:=K
  rw [en,length_map,Array.length_toList] at b;exact b
 refine max_intList (I.ok.hd J) N x λv h' G P O=>?_
 obtain ⟨t,rfl⟩:=intItems_at P;obtain ⟨R,C⟩:=argBest_gt (numAt Y) (Y.size-1)
 have k:yG d=numAt Y (argBest (λi j=>decide (numAt Y i>numAt Y j)) (Y.size-1)):=by
  refine Ct ?_ λa U=>?_
  ·rw [en,numAt_eq]
   exact getD_mem (by rw [length_map,Array.length_toList];omega)
  ·rw [en] at U
   obtain ⟨j,A,rfl⟩:=mem_getD U;rw [length_map,Array.length_toList] at A;rw [<-numAt_eq];exact C j (by omega)
 rw [k] at q;exact ⟨.int (numAt Y (argBest (λi j=>decide (numAt Y i>numAt Y j)) (Y.size-1))),H,I.kept (h':=h') (t':=G) O,⟨_,rfl⟩,q⟩
section
variable {X:Cx} {N gl:List Str} {vs cs ls lo gs:List Nat} {W:XW} {e:Expr} {es:List Expr} {pos p:Pos} {fl:FL}
theorem cb_maxL (S:Cp X N gl vs cs ls lo gs) (j:Nat) (A:gl[j]?=some ("max":Str)) (E:gs.contains j=true) (G:X.mg "max"=none) (U:PA X (e::es) (tA X.K W fl)) (R:starEach (e::es) X.env=(false,eval e X.env)::starEach es X.env) (Y:(backTo pos (starEach es X.env)).any (·.1)=false) :
  PE X (.Call (.Name "max" p) (e::es) [] pos) (tE X.K W (bb iZ fl)):=wL (uh S.calm) zc HH G U (S.g A E).1 (S.g A E).2.2 (S.g A E).2.1 R Y
end
end T
namespace TQ
open PySem PySem.Spec L2 T
open PyProof.Rows hiding St
section
variable {X:Cx} {N gl:List Str} {vs cs ls lo gs:List Nat} {W:XW} {e:Expr} {es:List Expr} {pos p:Pos} {fl:FL}
theorem sg (S:Cp X N gl vs cs ls lo gs) (j:Nat) (A:gl[j]?=some ("max":Str)) (E:gs.contains j=true) (G:X.mg "max"=none) (U:Q (PA X (e::es) (tA X.K W fl))) (R:starEach (e::es) X.env=(false,eval e X.env)::starEach es X.env) (Y:(backTo pos (starEach es X.env)).any (·.1)=false) :
  Q (PE X (.Call (.Name "max" p) (e::es) [] pos) (tE X.K W (bb iZ fl))):=⟨T.cb_maxL S j A E G U.p R Y⟩
end
end TQ
namespace T
open PySem PySem.Spec L2
open PyProof.Rows hiding St
abbrev It:=gx ⊕ List gx
section
variable {prog:Program} {w:World}
inductive Its2 (h:Heap):List It->List Value->Prop
 | nil:Its2 h [] []
 | v {k:gx} {u:Value} {ks:List It} {us:List Value}:(br prog w).is k u=true->Its2 h ks us->Its2 h (.inl k::ks) (u::us)
 | t {l:List gx} {b:Addr} {ks:List It} {us:List Value}:IsTupleKey (br prog w) h l b->Its2 h ks us->Its2 h (.inr l::ks) (.ref b::us)
variable (prog w)
noncomputable def Is2 (h:Heap) (U:List It) (a:Addr):Prop:=∃o items n,h.get? a=some o/\o.cls=.type "tuple"/\o.data=.seq items n/\Its2 (prog:=prog) (w:=w) h U items.toList
variable {prog w}
theorem rf {k:gx} {b:Addr}:(br prog w).is k (.ref b)=true->False:=λh=>by
 rcases xk h with ⟨i,t,_,e⟩ | ⟨x,t,_,e⟩<;>cases e
theorem Its2.inj {h:Heap} {x y:List It} {z:List Value} (G:Its2 (prog:=prog) (w:=w) h x z) (o:Its2 (prog:=prog) (w:=w) h y z):x=y:=by
 induction G generalizing y with
 | nil=>cases o;rfl
 | v R _ f=>
  cases o with
  | v C t2=>rw [(br prog w).inj _ _ _ R C,f t2]
  | t C t2=>exact (rf R).elim
 | t R _ f=>
  cases o with
  | v C t2=>exact (rf C).elim
  | t C t2=>rw [R.inj C,f t2]
theorem Is2.typeIs {s:Shared} {U:List It} {a:Addr} (x:Is2 prog w s.heap U a):s.TypeIs (.ref a) "tuple":=let ⟨o,_,_,K,J,_⟩:=x;⟨o,K,J⟩
theorem Is2.inj {h:Heap} {a:Addr} {x y:List It} (G:Is2 prog w h x a) (d:Is2 prog w h y a):x=y:=by
 obtain ⟨o,items,n,K,_,F,l⟩:=G;obtain ⟨L,c,f,C,_,b,q⟩:=d;obtain rfl:o=L:=Option.some.inj (K.symm.trans C)
 rw [F] at b;injection b with h1 _
 subst h1;exact l.inj q
theorem Its2.keeps {h a:Heap} {U:List It} {z:List Value} {d:Addr} {o:Obj} {j:Array DictEntry} {N:Nat} (x:Its2 (prog:=prog) (w:=w) h U z) (K:h.get? d=some o) (F:o.data=.dict j N) (Y:Heap.SameBut d h a):Its2 (prog:=prog) (w:=w) a U z:=by
 induction x with
 | nil=>exact .nil
 | v R _ f=>exact .v R f
 | t R _ f=>exact .t (R.keeps K F Y) f
theorem Is2.keeps {h e:Heap} {U:List It} {a d:Addr} {o:Obj} {j:Array DictEntry} {N:Nat} (x:Is2 prog w h U a) (K:h.get? d=some o) (F:o.data=.dict j N) (Y:Heap.SameBut d h e):Is2 prog w e U a:=by
 obtain ⟨L,items,n,C,J,b,l⟩:=x;have c:a≠d:=by
  rintro rfl
  obtain rfl:L=o:=Option.some.inj (C.symm.trans K)
  rw [F] at b;exact nomatch b
 exact ⟨L,items,n,(Y.2 a c).trans C,J,b,l.keeps K F Y⟩
noncomputable def hI (w:World):It->Int
 | .inl k=>CJ w k
 | .inr l=>reduceHash (Builtin.Tuple.tupleHashOf (l.map (CJ w)))
noncomputable def dI:It->Nat
 | .inl _=>1
 | .inr l=>l.length+1
noncomputable def Lv (w:World) (U:List It):Int:=reduceHash (Builtin.Tuple.tupleHashOf (U.map (hI w)))
noncomputable def LM (U:List It):Nat:=(U.map dI).sum+1
variable {A:Around} {E:Value->Shared->Prop} {s:Shared}
theorem G0 {U:List It} {a:Addr} {Q:Int->Shared->Prop} (J:A.units+1<cLine) (O:Is2 prog w s.heap U a) (h:Q (Lv w U) { s with toks:=s.toks+LM U }):wpAny (model prog w) A (pyHash (.ref a)) Q E s:=by
 have C:=O.typeIs
 obtain ⟨o,items,n,K,_,F,e⟩:=O;unfold pyHash;first | unfold pyHashByItsType | skip
 first | refine Nr (wpAny_cRoomFor_or (.inr (by omega)) ?_) | skip
 refine Nr (wpAny_specialOf C PySem.F.slot_tuple_hash.lookup ?_)
 show wpAny _ _ (if (some (Value.builtin "tuple.__hash__")==some Value.none)=true then _ else _) Q E s
 rw [if_neg (by rw [beq_builtin_none];exact Bool.false_ne_true)]
 refine Nr (wpAny_specialOf C PySem.F.slot_tuple_hash.lookup ?_)
 show wpAny _ _ (callSpecialIfBoundUnlessNone? (.ref a) "__hash__" _ >>= _) Q E s
 refine Nr (wpAny_callSpecialIfBoundUnlessNone?_slot C PySem.F.slot_tuple_hash (wpAny_call_entry PySem.F.slot_tuple_hash C PySem.F.entry_tuple_hash ?_ (PySem.F.args_tuple_hash_1 _)))
 show wpAny _ _ (Builtin.Tuple.tupleItemsOf (.ref a) >>= _) _ _ s
 refine Nr (wpAny_tupleItemsOf K F ?_)
 refine Nr ?_
 rw [<-Array.forIn_toList];refine wpAny_forIn_list _
  (λrest (b:Array Int) s'=>∃c d,U=c++d/\Its2 (prog:=prog) (w:=w) s.heap d rest/\b.toList=c.map (hI w)/\s'={ s with toks:=s.toks+(c.map dI).sum })
  _ ?_ ?_ _ _ ⟨[],U,rfl,e,rfl,rfl⟩
 ·rintro x rest b s' ⟨c,d,rfl,hl,hb,rfl⟩
  cases hl with
  | @v k _ ks' _ h1 hl'=>
   refine Nr ((br prog w).pyHash h1 ?_)
   first
    | exact Nt ⟨c++[.inl k],ks',by simp,hl',by simp [hb];rfl,by simp [Nat.add_assoc,dI]⟩
    | exact Nr (Nt (Nt ⟨c++[.inl k],ks',by simp,hl',by simp [hb];rfl,by simp [Nat.add_assoc,dI]⟩))
  | @t l q ks' _ h1 hl'=>
   refine Nr (wpAny_pyHash_tuple (knd:=br prog w) (by simp;omega) h1 ?_)
   first
    | exact Nt ⟨c++[.inr l],ks',by simp,hl',by simp [hb];rfl,by simp [Nat.add_assoc,dI]⟩
    | exact Nr (Nt (Nt ⟨c++[.inr l],ks',by simp,hl',by simp [hb];rfl,by simp [Nat.add_assoc,dI]⟩))
 ·rintro b s' ⟨c,d,rfl,hl,hb,rfl⟩
  cases hl;rw [append_nil] at h;show wpAny _ _ (retInt (Builtin.Tuple.tupleHashOf b.toList)) _ _ _
  rw [hb];refine wpAny_ret_mkInt ?_
  show wpAny _ _ (if (decide (-(2:Int) ^ 63<=Builtin.Tuple.tupleHashOf (c.map (hI w)))&&decide (Builtin.Tuple.tupleHashOf (c.map (hI w))<2 ^ 63))=true then _ else _) Q E _
  unfold Lv reduceHash LM at h;by_cases M:(decide (-(2:Int) ^ 63<=Builtin.Tuple.tupleHashOf (c.map (hI w)))&&decide (Builtin.Tuple.tupleHashOf (c.map (hI w))<2 ^ 63))=true
  ·rw [if_pos M]
   rw [if_pos M] at h;exact Nt (by simpa [Nat.add_assoc] using h)
  ·rw [if_neg M]
   rw [if_neg M] at h;exact Nr (wpAny_rule (Nt (by simpa [Nat.add_assoc] using h)))
noncomputable def ku:It->Bool
 | .inl _=>false
 | .inr _=>true
theorem wC {x y:List It} {a b:Addr} {P:Fin->Shared->Prop} (J:A.units<cLine) (B:x.map ku=y.map ku) (G:Is2 prog w s.heap x a) (o:Is2 prog w s.heap y b) (h:P (.done (.ret (.bool (decide (x=y))))) s) :
  wpAny (model prog w) A (Builtin.«tuple.__eq__» ⟨[.ref a,.ref b],[]⟩) P E s:=by
 have L:=o.typeIs
 obtain ⟨R,Y,F,H,_,M,K⟩:=G;obtain ⟨I,U,n,N,_,d,e⟩:=o;show wpAny _ _ (isInstance (.ref b) (.type "tuple") >>= _) _ _ s
 refine Nr (wpAny_isInstance L isSubtype_tuple_tuple ?_)
 simp only [Bool.not_true,Bool.false_eq_true,if_false]
 refine Nr (wpAny_tupleItemsOf H M ?_)
 refine Nr (wpAny_tupleItemsOf N d ?_)
 refine Nr ?_
 refine wpAny_forIn_list _
  (λrest r j=>r.1=none/\j=s/\∃p z g l,rest=List.zip g l/\p.map ku=z.map ku/\Its2 (prog:=prog) (w:=w) s.heap p g/\Its2 (prog:=prog) (w:=w) s.heap z l/\decide (p=z)=decide (x=y)/\(g.length==l.length)=(Y.size==U.size))
  _ ?_ ?_ _ _ ⟨rfl,rfl,x,y,Y.toList,U.toList,rfl,B,K,e,rfl,by simp⟩
 ·rintro ⟨u,v⟩ rest r j ⟨hr,rfl,p,z,g,l,hz,hsh',hx',hy',hdec,hlen⟩
  cases hx' with
  | nil=>simp at hz
  | @v k1 u' x'' xs'' h1 hx''=>
   cases hy' with
   | nil=>simp at hz
   | t C c=>simp [ku] at hsh'
   | @v k2 v' y'' ys'' C c=>
    simp only [List.zip_cons_cons,List.cons.injEq,Prod.mk.injEq] at hz
    obtain ⟨⟨rfl,rfl⟩,rfl⟩:=hz;refine Nr ((br prog w).eqBool (a:=k1) (b:=k2) h1 C ?_)
    by_cases O:k1=k2
    ·subst O
     rw [decide_eq_true rfl];simp only [Bool.not_true,Bool.false_eq_true,if_false]
     refine Nt ⟨rfl,rfl,x'',y'',xs'',ys'',rfl,by simpa using hsh',hx'',c,?_,by simpa using hlen⟩
     rw [<-hdec];by_cases f:x''=y''
     ·simp [f]
     ·simp [f]
    ·rw [decide_eq_false O]
     simp only [Bool.not_false,if_true]
     have m:decide (x=y)=false:=by rw [<-hdec];simp [O]
     rw [m] at h;exact Nr (Nt (Nt (Nt h)))
  | @t l1 b1 x'' xs'' h1 hx''=>
   cases hy' with
   | nil=>simp at hz
   | v C c=>simp [ku] at hsh'
   | @t l2 b2 y'' ys'' C c=>
    simp only [List.zip_cons_cons,List.cons.injEq,Prod.mk.injEq] at hz
    obtain ⟨⟨rfl,rfl⟩,rfl⟩:=hz;refine Nr (wpAny_eqBool_tuple (knd:=br prog w) J h1 C ?_)
    by_cases O:l1=l2
    ·subst O
     rw [decide_eq_true rfl];simp only [Bool.not_true,Bool.false_eq_true,if_false]
     refine Nt ⟨rfl,rfl,x'',y'',xs'',ys'',rfl,by simpa using hsh',hx'',c,?_,by simpa using hlen⟩
     rw [<-hdec];by_cases f:x''=y''
     ·simp [f]
     ·simp [f]
    ·rw [decide_eq_false O]
     simp only [Bool.not_false,if_true]
     have m:decide (x=y)=false:=by rw [<-hdec];simp [O]
     rw [m] at h;exact Nr (Nt (Nt (Nt h)))
 ·rintro ⟨i,k⟩ j ⟨hr,rfl,p,z,g,l,hz,hsh',hx',hy',hdec,hlen⟩
  simp only at hr
  subst hr;refine Nt ?_
  have q:(Y.size==U.size)=decide (x=y):=by
   rw [<-hdec,<-hlen]
   cases hx' with
   | nil=>
    cases hy' with
    | nil=>simp
    | v _ _=>simp at hsh'
    | t _ _=>simp at hsh'
   | v _ _=>
    cases hy' with
    | nil=>simp at hsh'
    | v _ _=>simp at hz
    | t _ _=>simp at hz
   | t _ _=>
    cases hy' with
    | nil=>simp at hsh'
    | v _ _=>simp at hz
    | t _ _=>simp at hz
  show P (.done (.ret (.bool (Y.size==U.size)))) j
  rw [q];exact h
theorem LH {x y:List It} {a b:Addr} {Q:Bool->Shared->Prop} (J:A.units+1<cLine) (B:x.map ku=y.map ku) (G:Is2 prog w s.heap x a) (o:Is2 prog w s.heap y b) (h:Q (decide (x=y)) s) :
  wpAny (model prog w) A (eqBool (.ref a) (.ref b)) Q E s:=by
 unfold eqBool;try with_reducible refine wpAny_holding ?_
 show wpAny _ _ (if (Value.ref a==Value.ref b)=true then _ else _) Q E s
 by_cases d:(Value.ref a==Value.ref b)=true
 ·rw [if_pos d]
  have e:a=b:=by have:=eq_of_beq d;injection this
  subst e;obtain rfl:=G.inj o
  exact Nr (wpAny_rule (Nt (by simpa using h)))
 ·rw [if_neg d]
  exact Nr (wpAny_richCompare_same_room (op:=.Eq) G.typeIs o.typeIs PySem.F.slot_tuple_eq
   (wpAny_call_entry PySem.F.slot_tuple_eq G.typeIs PySem.F.entry_tuple_eq (wC (by simp;omega) B G o ⟨_,rfl,(λe=>nomatch e),wpAny_truthy_bool h⟩) (PySem.F.args_tuple_eq_2 _ _)) (by omega))
theorem B0 {n:Nat} {U:List gx} {a:Addr} {Q:Bool->Shared->Prop} (O:IsTupleKey (br prog w) s.heap U a) (h:Q true s):wpAny (model prog w) A (eqIsQuiet (n+1) (.ref a)) Q E s:=by
 have C:=O.typeIs
 obtain ⟨o,items,m,K,_,F,l⟩:=O;unfold eqIsQuiet;refine Nr (wpAny_specialOf C PySem.F.slot_tuple_eq.lookup ?_)
 show wpAny _ _ (isInstance (.ref a) (.type "tuple") >>= _) _ _ s
 refine Nr (wpAny_isInstance C isSubtype_tuple_tuple ?_)
 simp only [Bool.not_true,Bool.false_eq_true,if_false]
 refine Nr (wpAny_seqItems K F ?_)
 refine Nr ?_
 show wpAny _ _ (forIn items _ _) _ _ s
 rw [<-Array.forIn_toList];refine wpAny_forIn_list _ (λrest r j=>r.1=none/\j=s/\∀v∈rest,carriedByValue v=true) _ ?_ ?_ _ _ ⟨rfl,rfl,l.byValue⟩
 ·rintro v rest r j ⟨hr,rfl,hall⟩
  rw [eqIsQuiet_byValue _ (hall v mem_cons_self)];refine Nr (Nt ?_)
  simp only [Bool.not_true,Bool.false_eq_true,if_false]
  exact Nt ⟨rfl,rfl,λu b=>hall u (Nn _ b)⟩
 ·rintro ⟨i,k⟩ j ⟨hr,rfl,_⟩
  simp only at hr
  subst hr;exact Nt h
theorem BZ {n:Nat} {U:List It} {a:Addr} {Q:Bool->Shared->Prop} (O:Is2 prog w s.heap U a) (h:Q true s):wpAny (model prog w) A (eqIsQuiet (n+2) (.ref a)) Q E s:=by
 have C:=O.typeIs
 obtain ⟨o,items,m,K,_,F,b⟩:=O;unfold eqIsQuiet;refine Nr (wpAny_specialOf C PySem.F.slot_tuple_eq.lookup ?_)
 show wpAny _ _ (isInstance (.ref a) (.type "tuple") >>= _) _ _ s
 refine Nr (wpAny_isInstance C isSubtype_tuple_tuple ?_)
 simp only [Bool.not_true,Bool.false_eq_true,if_false]
 refine Nr (wpAny_seqItems K F ?_)
 refine Nr ?_
 show wpAny _ _ (forIn items _ _) _ _ s
 rw [<-Array.forIn_toList];refine wpAny_forIn_list _ (λrest r j=>r.1=none/\j=s/\∃U,Its2 (prog:=prog) (w:=w) s.heap U rest) _ ?_ ?_ _ _ ⟨rfl,rfl,U,b⟩
 ·rintro v rest r j ⟨hr,rfl,U,hall⟩
  cases hall with
  | @v k _ ks' _ h1 hl'=>
   rw [eqIsQuiet_byValue _ ((br prog w).byValue _ _ h1)];refine Nr (Nt ?_)
   simp only [Bool.not_true,Bool.false_eq_true,if_false]
   exact Nt ⟨rfl,rfl,ks',hl'⟩
  | @t l q ks' _ h1 hl'=>
   refine Nr (B0 h1 ?_)
   simp only [Bool.not_true,Bool.false_eq_true,if_false]
   exact Nt ⟨rfl,rfl,ks',hl'⟩
 ·rintro ⟨i,c⟩ j ⟨hr,rfl,_⟩
  simp only at hr
  subst hr;exact Nt h
end
noncomputable def dG (c:Program) (w:World) (b:List Bool):HeapKind c w (List It) where
 is:=λh U a=>Is2 c w h U a/\U.map ku=b
 hash:=Lv w
 draws:=LM
 room:=λA=>A.units+1<cLine
 inj:=λG o=>G.1.inj o.1
 keeps:=λx K F Y=>⟨x.1.keeps K F Y,x.2⟩
 pyHash:=λJ O h=>G0 J O.1 h
 eqBool:=λJ G o h=>LH J (G.2.trans o.2.symm) G.1 o.1 h
 quiet:=λO h=>BZ O.1 h
noncomputable def MA (K:Fg) (H:Hp):It->V->Prop
 | .inl k,v=>v=kV k
 | .inr l,v=>∃c,v=.ref c/\SqT K H c (l.map kV)
noncomputable def K2 (K:Fg) (H:Hp) (U:List It) (b:Addr):Prop:=∃L,SqT K H b L/\Paired (MA K H) U L
theorem K2.mono {K:Fg} {H F:Hp} {U:List It} {b:Addr} (k:K2 K H U b) (m:∀c Y,SqT K H c Y->SqT K F c Y):K2 K F U b:=by
 obtain ⟨L,h,p⟩:=k;refine ⟨L,m _ _ h,?_⟩
 clear h;induction p with
 | nil=>exact .nil
 | @cons a v l l' q _ ih=>
  refine .cons ?_ ih
  cases a with
  | inl k=>exact q
  | inr l=>obtain ⟨c,e,h⟩:=q;exact ⟨c,e,m _ _ h⟩
theorem xK {X:Cx} {B:List (Addr×Obj)} {M:St} {H:Hp} {s:Shared} {l:List gx} {c:Addr} (I:L2.Inv X B M H s) (h:SqT X.K H c (l.map kV)):IsTupleKey (br X.prog X.w) s.heap l c:=by
 obtain ⟨g,r,⟨o,R,C,n,a⟩,_⟩:=I.tuple h;exact ⟨o,g.toArray,n,R,C,a,by simpa using kr r⟩
theorem xA {X:Cx} {B:List (Addr×Obj)} {M:St} {H:Hp} {s:Shared} {U:List It} {b:Addr} (I:L2.Inv X B M H s) (k:K2 X.K H U b):Is2 X.prog X.w s.heap U b:=by
 obtain ⟨L,h,p⟩:=k;obtain ⟨g,r,⟨o,R,C,n,d⟩,_⟩:=I.tuple h;refine ⟨o,g.toArray,n,R,C,d,?_⟩
 show Its2 s.heap U g.toArray.toList
 rw [List.toList_toArray];have N:∀{U:List It} {L:List V} {z:List Value},Paired (MA X.K H) U L->Vals L z->Its2 (prog:=X.prog) (w:=X.w) s.heap U z:=by
  intro U L z p;induction p generalizing z with
  | nil=>intro r;cases r;exact .nil
  | @cons a v l l' q _ ih=>
   intro r
   cases r with
   | cons f r=>
    cases a with
    | inl k=>
     cases (show v=kV k from q)
     exact .v (Ao f) (ih r)
    | inr m=>
     obtain ⟨c,e,J⟩:=q;subst e;rename_i u _
     cases (show u=Value.ref c from f)
     exact .t (xK I J) (ih r)
 exact N p r
noncomputable def o7 (P:Program) (w:World) (F:List Bool) (a:Addr) (Y:List (List It×Addr×Value)):HO:=.ext λh=>∃o j N,h.get? a=some o/\o.ExactDict/\o.data=.dict j N/\j.toList=Y.map (entryOfKey (dG P w F))
noncomputable abbrev KX (K:Fg) (H:Hp) (F:List Bool):List (List It×V)->List (List It×Addr×Value)->Prop:=Paired λp q=>p.1=q.1/\p.1.map ku=F/\K2 K H p.1 q.2.1/\RelV p.2 q.2.2
noncomputable def D2 (P:Program) (w:World) (K:Fg) (H:Hp) (F:List Bool) (a:Addr) (E:List (List It×V)):Prop:=
 ∃Y,H a=some (o7 P w F a Y)/\KX K H F E Y/\(Y.map (·.1)).Nodup/\Y.length<=1000/\(a==sysModules)=false
theorem KX.mono {K:Fg} {H F:Hp} {a:List Bool} {E:List (List It×V)} {Y:List (List It×Addr×Value)} (k:KX K H a E Y) (m:∀c Y,SqT K H c Y->SqT K F c Y):KX K F a E Y:=by
 induction k with
 | nil=>exact .nil
 | cons q _ f=>exact .cons ⟨q.1,q.2.1,q.2.2.1.mono m,q.2.2.2⟩ f
theorem KX.val {K:Fg} {H:Hp} {F:List Bool} {E:List (List It×V)} {Y:List (List It×Addr×Value)} (r:KX K H F E Y) (k:List It):RelO (dj E k) ((atKey Y k).map (·.2)):=by
 induction r with
 | nil=>exact trivial
 | @cons p q l l' h _ ih=>
  by_cases e:p.1=k
  ·rw [Kh e]
   have:atKey (q::l') k=some q.2:=by simp [atKey,find?_cons,<-h.1,e]
   rw [this];exact h.2.2.2
  ·rw [EM e]
   have:atKey (q::l') k=atKey l' k:=by
    have J:¬q.1=k:=λz=>e (h.1.trans z)
    simp [atKey,find?_cons,J]
   rw [this];exact ih
theorem KX.len {K:Fg} {H:Hp} {F:List Bool} {E:List (List It×V)} {Y:List (List It×Addr×Value)} (r:KX K H F E Y):E.length=Y.length:=Paired.length r
theorem Ec {X:Cx} {B:List (Addr×Obj)} {M:St} {H:Hp} {s:Shared} {F:List Bool} {a:Addr} {E:List (List It×V)} {Y:List (List It×Addr×Value)} (I:L2.Inv X B M H s) (e:H a=some (o7 X.prog X.w F a Y)) (r:KX X.K H F E Y) (J:(Y.map (·.1)).Nodup):s.heap.DictOfH (dG X.prog X.w F) a Y:=by
 obtain ⟨⟨o,j,N,R,C,n,f⟩,_⟩:=(show ObjOk X.prog X.w H s.heap a (o7 X.prog X.w F a Y) from I.hok a _ e);refine ⟨o,j,N,R,C,n,f,λx G=>?_,J⟩
 have all:∀{l:List (List It×V)} {m:List (List It×Addr×Value)},KX X.K H F l m->∀x∈m,(dG X.prog X.w F).is s.heap x.1 x.2.1:=by
  intro l m q;induction q with
  | nil=>intro x G;exact nomatch G
  | @cons p q ps qs hq t ih=>
   intro x G;rcases Nk G with e | G
   ·subst e
    exact ⟨by rw [<-hq.1];exact xA I hq.2.2.1,by rw [<-hq.1];exact hq.2.1⟩
   ·exact ih x G
 exact all r x G
theorem ka {P:Program} {w:World} {F:List Bool} {A:Around} (J:A.units+2<cLine):(dG P w F).room A.in1:=by
 show A.in1.units+1<cLine
 simp
 omega
noncomputable def fw (P:Program) (w:World) (K:Fg) (c ty:TE):TE:=λM H Q=>c M H λx Z=>ty M Z λy j=>∃a b F E U v,x=.ref a/\y=.ref b/\D2 P w K j F a E/\K2 K j U b/\U.map ku=F/\dj E U=some v/\Q v j
noncomputable def fL (P:Program) (w:World) (K:Fg) (ty c:TE):TE:=λM H Q=>ty M H λy Z=>c M Z λx j=>∃a b F E U,x=.ref a/\y=.ref b/\D2 P w K j F a E/\K2 K j U b/\U.map ku=F/\Q (.bl (!(dj E U).isSome)) j
noncomputable def oV (P:Program) (w:World) (K:Fg) (c ty l:TE):TS:=λD M H=>l M H λv Z=>c M Z λx j=>ty M j λy d=>∃a b F E U,x=.ref a/\y=.ref b/\D2 P w K d F a E/\K2 K d U b/\U.map ku=F/\E.length<1000/\dj E U=none /\
 ∀I,D2 P w K (aR d a I) F a (E++[(U,v)])->D.nx M (aR d a I)
noncomputable def oO (P:Program) (w:World) (K:Fg) (F:List Bool):TE:=λ_ H Q=>∀p I,H p=none->D2 P w K (aR H p I) F p []->Q (.ref p) (aR H p I)
theorem Eu {P:Program} {w:World} {H:Hp} {h:Heap} {F:List Bool} {a:Addr} {Y:List (List It×Addr×Value)} (x:∃o j N,h.get? a=some o/\o.ExactDict/\o.data=.dict j N/\j.toList=Y.map (entryOfKey (dG P w F))):ObjOk P w H h a (o7 P w F a Y):=by
 refine ⟨x,let ⟨o,_,_,K,_⟩:=x;⟨o,K⟩,λR C ⟨o,j,N,K,r⟩ k=>⟨o,j,N,k o K,r⟩⟩
section
variable {X:Cx} {o i e value:Expr} {pos pos' tpos:Pos} {td ty tv:TE}
theorem JT (J:X.A.units+2<cLine) (K:PE X o td) (l:PE X i ty) (Y:DI i):PE X (.Subscript o i pos) (fw X.prog X.w X.K td ty):=by
 intro B s M H Q I h;refine qp PySem.F.slot_dict_getitem.lookup Y (bt (K B s M H _ I h) λu A ⟨x,H1,I1,rx,q1⟩=>bt (l B A M H1 _ I1 q1) λR N ⟨y,H2,I2,ry,a,b,sh,kvs,ks,v,ex,ey,⟨xs,e,r,nd,hz,hd⟩,k,hsh,hv,q2⟩=>?_)
 subst ex ey;obtain rfl:u=Value.ref a:=rx
 obtain rfl:R=Value.ref b:=ry
 have E:=Ec I2 e r nd
 refine ⟨E.typeIs,?_⟩
 obtain ⟨t,O,m⟩:=RelO.some_of (v:=v) (o:=(atKey xs ks).map (·.2)) (by rw [<-hv];exact r.val ks)
 obtain ⟨p,g,d⟩:=Option.map_eq_some_iff.mp O;refine wpAny_getItem_heap (ka J) ⟨xA I2 k,hsh⟩ E g ?_
 rw [d];exact ⟨v,H2,I2.tok _,m,q2⟩
theorem iK (J:X.A.units+2<cLine) (l:PE X i ty) (K:PE X o td):PC X .NotIn i o (fL X.prog X.w X.K ty td):=by
 intro B s M H Q I h;refine bt (l B s M H _ I h) λR A ⟨y,H1,I1,ry,q1⟩=>bt (K B A M H1 _ I1 q1) λu N ⟨x,H2,I2,rx,a,b,sh,kvs,ks,ex,ey,⟨xs,e,r,nd,hz,hd⟩,k,hsh,q2⟩=>?_
 subst ex ey;obtain rfl:u=Value.ref a:=rx
 obtain rfl:R=Value.ref b:=ry
 have E:=Ec I2 e r nd
 refine wpAny_notIn_heap (ka J) ⟨xA I2 k,hsh⟩ hd E ?_
 have q:=(r.val ks).isSome_eq
 rw [Option.isSome_map] at q;rw [<-q];exact ⟨.bl (!(dj kvs ks).isSome),H2,I2.tok _,rfl,q2⟩
theorem mX (O:X.A.units+2<cLine) (K:PE X o td) (l:PE X i ty) (P:PE X value tv) (Y:swapsWith value (some (.Subscript o i pos')) pos.line X.env=pure false) :
  PS X (.Assign [.Subscript o i pos'] value pos) (oV X.prog X.w X.K td ty tv):=by
 intro B s M H D I h;refine wpAny_Assign_Subscript (bt (P B s M H _ I h) λr A ⟨v,H1,I1,rv,q1⟩=>bt (K B A M H1 _ I1 q1) λu N ⟨x,H2,I2,rx,q2⟩=>bt (l B N M H2 _ I2 q2) λR t ⟨y,H3,I3,ry,a,b,sh,kvs,ks,ex,ey,⟨xs,e,rr,nd,hz,hd⟩,k,hsh,hl,hn,q3⟩=>?_) Y
 subst ex ey;obtain rfl:u=Value.ref a:=rx
 obtain rfl:R=Value.ref b:=ry
 have E:=Ec I3 e rr nd
 have Z:(1000:Nat)<=sizeLine:=by decide
 have d:atKey xs ks=none:=by
  have q:=(rr.val ks).isSome_eq
  rw [hn,Option.isSome_map] at q
  cases z:atKey xs ks with
  | none=>rfl
  | some _=>rw [z] at q;cases q
 refine wpAny_setItem_heap (hsz:=by omega) (ka O) ⟨xA I3 k,hsh⟩ E λU g L=>?_
 rw [storedH_new d] at g;obtain ⟨q,j,p,n,C,h3,f,_,F⟩:=g
 have m:∀c G,SqT X.K H3 c G->SqT X.K (aR H3 a (o7 X.prog X.w sh a (xs++[(ks,b,r)]))) c G:=λc G J=>by
  rcases J with J | J
  ·left
   rcases J with J | ⟨o',J⟩
   ·exact .inl (by rw [cb (λz=>by subst z;rw [e] at J;cases J)];exact J)
   ·exact .inr ⟨o',by rw [cb (λz=>by subst z;rw [e] at J;cases J)];exact J⟩
  ·exact .inr J
 have w:=Jv (t':=t.toks+(dG X.prog X.w sh).draws ks) (ob:=o7 X.prog X.w sh a (xs++[(ks,b,r)])) I3 (by rw [e];exact True.intro) L ⟨q,n⟩ (Eu ⟨q,j,p,n,C,h3,f⟩)
 refine ⟨M,_,w,q3 _ ⟨xs++[(ks,b,r)],cL,?_,F,?_,hd⟩⟩
 ·exact Paired.snoc (rr.mono m) ⟨rfl,hsh,k.mono m,rv⟩
 ·rw [length_append,length_singleton,<-rr.len]
  omega
theorem m7 (F:List Bool):PE X (.Dict [] [] pos) (oO X.prog X.w X.K F):=λB s M H Q I h=>by
 have g:=I.hok.fresh (Nv s.heap.objs.size)
 refine wpAny_Dict_empty ⟨.ref s.heap.objs.size,_,I.laid (a:=s.heap.objs.size) (o:=o7 X.prog X.w F s.heap.objs.size []) (t':=s.toks) (λ_ _ q=>Nu _ q) (Nv _) (Eu ⟨_,#[],0,Heap.get?_push_size _ rfl,⟨rfl,rfl,rfl⟩,rfl,rfl⟩),rfl,h _ _ g ⟨[],cL,.nil,nodup_nil,by simp,beq_eq_false_iff_ne.mpr (Ne.symm (Nat.ne_of_lt I.big))⟩⟩
end
noncomputable def zW:Nw->Option gx
 | .int n=>some (.inl n)
 | .str x=>some (.inr x)
 | _=>none
noncomputable def uL:List Nw->Option (List gx)
 | []=>some []
 | d::r=>match zW d,uL r with
  | some k,some ks=>some (k::ks)
  | _,_=>none
noncomputable def Kx:Nw->Option It
 | .tuple N=>(uL N).map .inr
 | d=>(zW d).map .inl
noncomputable def zX:List Nw->Option (List It)
 | []=>some []
 | d::r=>match Kx d,zX r with
  | some k,some ks=>some (k::ks)
  | _,_=>none
noncomputable def MQ:Nw->Option (List It)
 | .tuple N=>zX N
 | _=>none
noncomputable def Fe:List Nw->Option (List (List It))
 | []=>some []
 | d::r=>match MQ d,Fe r with
  | some k,some ks=>some (k::ks)
  | _,_=>none
noncomputable def Lq (k:List It) (q:List (List It)):Bool:=q.any λa=>decide (a=k)
noncomputable def Hi (q:List (List It)) (k:List It):List (List It):=if Lq k q then q else q++[k]
noncomputable def M5 (U:List (List It)):List (List It):=U.foldl Hi []
noncomputable def Mz (k:List It):List (List It)->Nat
 | []=>0
 | a::r=>if a=k then 0 else Mz k r+1
noncomputable def Ln (U:List (List It)):List Int:=U.map λk=>(Mz k (M5 U):Int)
noncomputable def KM (U:List (List It)):Bool:=U.all λk=>decide (k.map ku=(U.headD []).map ku)
noncomputable def iS:List Nw->bA
 | [.list ds]=>match Fe ds with
  | some U=>if U.length<=900/\KM U=true then .ok ⟨.lst .leaf,.list ((Ln U).map .int)⟩ else .no
  | none=>.no
 | _=>.no
theorem Aq {A B:Bool->Hp->Prop} {H:Hp} {M:St} (h:A true H):gO M H λb H=>if b=true then A b H else B b H:=by
 show (if true=true then A true H else B true H)
 rw [if_pos rfl];exact h
end T
namespace KC
open PySem PySem.Spec L2 T
open PyProof.Rows hiding St
noncomputable def ub:FS:=(ak (ax false 3 (wG (ah (ah (ae 0) (eK (.int 1))) (ae 1))))
  (aE (oG (aM cF (ae 2)) (bz (ab (ae 3) (ab (ah (ah (ae 0) (eK (.int 0))) (ae 1)) af))) (bz (ab (ae 3) af)))))
noncomputable def tJ:List Nw->bA:=aB 4 ub
noncomputable def ic:FS:=(aE (Dh (ab (aq .leaf 2 (aU (ae 1)) aK (ah (ae 0) (ae 2))) af)))
noncomputable def dY:List Nw->bA:=aB 3 ic
noncomputable def gh:FS:=(aE (ag 1 iS (ab (Di .leaf 2 3 (ah (ae 0) (eK (.int 2))) aK (bz (ab (ah (ae 1) (ae 2)) (ab (wG (ag 2 dY (ab (ae 1) (ab (ae 3) af)))) af)))) af)))
noncomputable def cV:List Nw->bA:=aB 4 gh
noncomputable def ie:FS:=(ak (ax false 2 (ag 1 iS (ab (aq .leaf 4 (d6 (ab (bb aQ (ab (ah (ae 0) (eK (.int 0))) af)) af)) aK (ag 3 tJ (ab (ae 0) (ab (ae 4) (ab (ae 1) af))))) af)))
  (ak (ax false 3 (ag 2 cV (ab (ae 0) (ab (ae 2) af))))
  (ak (oU 1000 (aM ai (ar gy (ae 3) (ae 2)))
  (ak (ax false 2 (ae 3))
  (ax false 3 (ag 2 cV (ab (ae 0) (ab (ae 2) af))))))
  (aE (ae 2)))))
noncomputable def dZ:List Nw->bA:=aB 5 ie
noncomputable def uc:FS:=(ak (ax true 1 (aq (.lst .leaf) 3 (d6 (ab (ar aI (bb iZ (ab (ae 0) af)) (eK (.int 1))) af)) aK (aW .leaf af)))
  (ak (FN 2 3 (ae 0)
  (Bu 1 (ae 3) (ae 2)))
  (aE (bX 1))))
noncomputable def kh:List Nw->bA:=aB 4 uc
noncomputable def ud:FS:=(ak (dE (ag 1 bf (ab (ae 0) af)))
  (aE (ag 1 kh (ab (ag 2 dZ (ab (ae 0) (ab (ae 1) af))) af))))
noncomputable def tK:List Nw->bA:=aB 2 ud
noncomputable def jN:FS:=(ak (dE (ag 1 bf (ab (ae 0) af)))
  (ak (ax false 2 (ag 2 dZ (ab (ae 0) (ab (ae 1) af))))
  (ak (ax false 3 (aq .leaf 7 (aU (ag 1 kh (ab (ae 2) af))) aK (ah (ae 7) (eK (.int 0)))))
  (ak (ax false 4 (aq .leaf 8 (aU (ae 3)) aK (ah (ah (ae 0) (eK (.int 0))) (ae 8))))
  (ak (ax false 5 (aq .leaf 8 (aU (ae 3)) aK (bO (ah (ah (ae 0) (eK (.int 1))) (ae 8)))))
  (ak (ax false 6 (aq .leaf 8 (aU (ae 3)) aK (ag 2 dY (ab (ae 2) (ab (ah (ah (ae 0) (eK (.int 2))) (ae 8)) af)))))
  (aE (bz (ab (bz (ab (ae 4) (ab (ae 5) (ab (ae 6) af)))) (ab (ae 2) af))))))))))
noncomputable def jE:List Nw->bA:=aB 9 jN
noncomputable def oj:FS:=(aE (bz (ab (bO (ah (ae 0) (eK (.int 0)))) (ab (aq .leaf 1 (aU (ah (ae 0) (eK (.int 1)))) aK (bO (ae 1))) (ab (aq .leaf 1 (aU (ah (ae 0) (eK (.int 2)))) aK (bO (ae 1))) af)))))
noncomputable def cZ:List Nw->bA:=aB 2 oj
noncomputable def gj:FS:=(ak (ax false 3 (ag 3 m__law_world (ab (ae 0) (ab (ae 1) (ab (ae 2) af)))))
  (ak (ax false 4 (ag 2 aC (ab (ae 0) (ab (ar aI (ar aI (ae 1) (eK (.int 1))) (ae 2)) af))))
  (ak (b8 (aM ai (ar jf (ar cG (ae 4) (eK (.int 3))) (eK (.int 0)))) (ak (ax false 5 (aW .leaf (ab (aW .leaf (ab (eK (.str "a")) af)) (ab (aW .leaf (ab (eK (.str "a")) af)) (ab (aW .leaf (ab (eK (.str "b")) af)) af)))))
  (ax false 3 (bz (ab (ah (ae 3) (eK (.int 0))) (ab (aq .leaf 6 (d6 (ab (bb aQ (ab (ah (ae 3) (eK (.int 0))) af)) af)) aK (ah (ae 5) (ag 3 ao (ab (ae 4) (ab (ae 6) (ab (eK (.int 3)) af)))))) (ab (ah (ae 3) (eK (.int 2))) af)))))) aJ)
  (ak (b8 (aM ai (ar bp (ar cG (ae 4) (eK (.int 4))) (eK (.int 1)))) (ax false 3 (bz (ab (aq .leaf 6 (d6 (ab (bb aQ (ab (ah (ae 3) (eK (.int 0))) af)) af)) aK (ar h9 (ag 3 ao (ab (ae 4) (ab (ar aI (eK (.int 30)) (ae 6)) (ab (eK (.int 9)) af)))) (eK (.int 8)))) (ab (ah (ae 3) (eK (.int 1))) (ab (ah (ae 3) (eK (.int 2))) af))))) aJ)
  (aE (ag 1 cZ (ab (ae 3) af)))))))
noncomputable def bI:List Nw->bA:=aB 7 gj
noncomputable def d_law:FS:=(ak (ax false 1 (ag 3 bI (ab (ae 0) (ab (eK (.int 1)) (ab (eK (.int 6)) af)))))
  (ak (ax false 2 (ar bp (ar cG (ag 2 aC (ab (ae 0) (ab (eK (.int 0)) af))) (eK (.int 2))) (eK (.int 1))))
  (ak (ax false 3 (ag 3 g9 (ab (ae 0) (ab (eK (.int 11)) (ab (ar aI (eK (.int 1)) (ar cG (ag 2 aC (ab (ae 0) (ab (eK (.int 10)) af))) (eK (.int 12)))) af)))))
  (ak (b8 (aM ai (ar jf (ag 1 lC (ab (ae 3) af)) (eK (.int 60)))) (aE (eK (.bool true))) aJ)
  (ak (ax false 4 (ag 2 qT (ab (ae 1) (ab (ae 3) af))))
  (ak (FJ [7,8] (ag 2 jE (ab (ae 1) (ab (ae 2) af))))
  (mP 7 (ak (ax false 5 (ag 2 qT (ab (ae 7) (ab (ae 3) af))))
  (ak (b8 (aM ai (ar gy (aq .leaf 9 (d6 (ab (bb aQ (ab (ah (ae 1) (eK (.int 0))) af)) af)) (aM ai (ar (bx false) (ah (ae 8) (ae 9)) (ae 5))) (ae 9)) (ae 4))) (aE (eK (.bool false))) aJ)
  (ak (dn 6 (aU (ag 2 tK (ab (ae 1) (ab (ae 2) af))))
  (b8 (aM ai (ar (bx true) (bb aQ (ab (aq .leaf 9 (aU (ae 6)) (aM ai (ar (bx false) (ae 9) (ae 4))) (ae 9)) af)) (bz (ab (eK (.int 0)) (ab (bb aQ (ab (ae 6) af)) af))))) (aE (eK (.bool false))) aJ))
  (aE (eK (.bool true)))))))))))))
noncomputable def m_law:List Nw->bA:=aB 10 d_law
open PySem.SeqAt
section
variable {w:Wd}
theorem JJ (ok:w.Ok) {Γ:Ev} {i:Nat} {fb:F1} {s:Sh} {r:Nat} (l:Γ[i]?=some (Nx w.enc)) (Z:fb Γ=.ok ⟨s,rm r⟩ Γ) (M:r<w.n):ah (ah (ae i) (eK (.int 1))) fb Γ=.ok ⟨.leaf,cP (w.mks r)⟩ Γ:=by
 rw [mV,mV,aw l];simp only [Out.bind,aO,Wd.enc,iy,vf,Gb]
 rw [Z];simp only [Ah]
 rw [ok.at1 M]
end
section
variable {w:Wd} {o:Bool} {N:List Nat} {m:Nat}
theorem Iq (ok:w.Ok) {Γ:Ev} {i:Nat} {fb:F1} {s:Sh} {r:Nat} (l:Γ[i]?=some (Nx w.enc)) (Z:fb Γ=.ok ⟨s,rm r⟩ Γ) (M:r<w.n):ah (ah (ae i) (eK (.int 2))) fb Γ=.ok ⟨.leaf,aT (w.stp r)⟩ Γ:=by
 rw [mV,mV,aw l];simp only [Out.bind,aO,Wd.enc,iy,vf,Ga]
 rw [Z];simp only [Ah]
 rw [ok.at2 M]
end
theorem kC {w:Wd} (ok:w.Ok):cZ [w.enc]=.ok ⟨W3,w.enc⟩:=by
 have a:ah (ae 0) (eK (.int 0)) [Nx w.enc,none]=.ok ⟨.leaf,.list w.os⟩ [Nx w.enc,none]:=eX (j:=0) (aw rfl) aO rfl rfl rfl
 have b:ah (ae 0) (eK (.int 1)) [Nx w.enc,none]=.ok ⟨.leaf,.list (w.m.map cP)⟩ [Nx w.enc,none]:=eX (j:=1) (aw rfl) aO rfl rfl rfl
 have d:ah (ae 0) (eK (.int 2)) [Nx w.enc,none]=.ok ⟨.leaf,.list (w.s.map aT)⟩ [Nx w.enc,none]:=eX (j:=2) (aw rfl) aO rfl rfl rfl
 have E:=ok.h24
 have z:aq .leaf 1 (aU (ah (ae 0) (eK (.int 1)))) aK (bO (ae 1)) [Nx w.enc,none]=.ok ⟨.lst .leaf,.list (w.m.map cP)⟩ [Nx w.enc,none]:=
  uA cP w.m (λx=>⟨.lst .leaf,cP x⟩) (st:=true) (dB (s:=.leaf) b rfl) (by simp) rfl (by rw [ok.lm];omega) λx G=>⟨II (aw rfl) rfl,rfl⟩
 have c:aq .leaf 1 (aU (ah (ae 0) (eK (.int 2)))) aK (bO (ae 1)) [Nx w.enc,none]=.ok ⟨.lst .leaf,.list (w.s.map aT)⟩ [Nx w.enc,none]:=
  uA aT w.s (λx=>⟨.lst .leaf,aT x⟩) (st:=true) (dB (s:=.leaf) d rfl) (by simp) rfl (by rw [ok.ls];omega) λx G=>⟨II (aw rfl) rfl,rfl⟩
 exact aV (aX (cJ (az (II a rfl) (az z (az c aj))) rfl rfl) rfl)
noncomputable def tU (j:Int):D:=if j=2 then .list [.str "b"] else .list [.str "a"]
noncomputable abbrev zi:D:=.list [.list [.str "a"],.list [.str "a"],.list [.str "b"]]
theorem zh {j:Int}:∃Y,tU j=.list Y/\iq Y/\Y.length<=30/\Cw (tU j)=true:=by
 unfold tU;split
 ·exact ⟨_,rfl,λd F=>⟨"b",List.mem_singleton.mp F,by decide +kernel⟩,by simp,by decide +kernel⟩
 ·exact ⟨_,rfl,λd F=>⟨"a",List.mem_singleton.mp F,by decide +kernel⟩,by simp,by decide +kernel⟩
noncomputable abbrev oH (a l:Int) (Y X o u:List D) (c:Int) (C:Option PV):Ev:=[Nx (.list Y),Nx (.int a),Nx (.int l),Nx (iy X o u),Nx (.int c),C,none]
theorem t7 {Y:List D} (G:gJ Y) {a l:Int} (U:0<=a) (N:1<=l) (f:l<=24):∃w:Wd,w.Ok/\(w.n:Int)<=l/\bI [.list Y,.int a,.int l]=.ok ⟨W3,w.enc⟩:=by
 obtain ⟨n,X,o,u,H,g,R,I⟩:=tZ G (at':=a) (lim:=l) U N f
 obtain ⟨c,J⟩:=Iu G (k:=a+1+l) (by omega)
 have len:∀(X o u:List D) (C:Option PV),X.length=n->bb aQ (ab (ah (ae 3) (eK (.int 0))) af) (oH a l Y X o u c C)=.ok ⟨.leaf,.int (n:Int)⟩ (oH a l Y X o u c C):=λX o u C h=>b4 (az (eX (j:=0) (s2:=.leaf) (aw rfl) aO rfl rfl rfl) aj) (by simp [h])
 have y:∃x C,Gw (n:Int) n X x u/\b8 (aM ai (ar jf (ar cG (ae 4) (eK (.int 3))) (eK (.int 0)))) (ak (ax false 5 (aW .leaf (ab (aW .leaf (ab (eK (.str "a")) af)) (ab (aW .leaf (ab (eK (.str "a")) af)) (ab (aW .leaf (ab (eK (.str "b")) af)) af)))))
  (ax false 3 (bz (ab (ah (ae 3) (eK (.int 0))) (ab (aq .leaf 6 (d6 (ab (bb aQ (ab (ah (ae 3) (eK (.int 0))) af)) af)) aK (ah (ae 5) (ag 3 ao (ab (ae 4) (ab (ae 6) (ab (eK (.int 3)) af)))))) (ab (ah (ae 3) (eK (.int 2))) af)))))) aJ (oH a l Y X o u c none)=.nx (oH a l Y X x u c C):=by
  have t:aM ai (ar jf (ar cG (ae 4) (eK (.int 3))) (eK (.int 0))) (oH a l Y X o u c none)=.ok (decide ((0:Int)<c % 3)) (oH a l Y X o u c none):=cH (s:=.leaf) (aA (aA (aw rfl) aO (fo (by omega))) aO rfl)
  cases q:decide ((0:Int)<c % 3) with
  | false=>
   rw [q] at t;exact ⟨o,none,g,bJ t nofun λ_=>rfl⟩
  | true=>
   rw [q] at t;have cm:aq .leaf 6 (d6 (ab (bb aQ (ab (ah (ae 3) (eK (.int 0))) af)) af)) aK (ah (ae 5) (ag 3 ao (ab (ae 4) (ab (ae 6) (ab (eK (.int 3)) af))))) (oH a l Y X o u c (Nx zi))=.ok ⟨.lst .leaf,.list ((List.range n).map λr:Nat=>tU (gg c (r:Int) 3))⟩ (oH a l Y X o u c (Nx zi)):=by
    refine uA rm (List.range n) (λr=>⟨.leaf,tU (gg c (r:Int) 3)⟩) (st:=true) (rW (s:=.leaf) (n:=n) (by omega) (az (len X o u _ g.lo) aj)) (by simp) rfl (by simp;omega) λr M=>⟨?_,rfl⟩
    have M:=List.mem_range.mp M
    have d:=D3 (c:=c) (k:=(r:Int)) (b:=3) (by omega) (by omega) (by omega) (by omega)
    have i:=HV (c:=c) (k:=(r:Int)) (b:=3) (by omega) (by omega) (by omega) (by omega)
    have L:=cv (n:=3) (fl:=ab (ae 4) (ab (ae 6) (ab (eK (.int 3)) af))) (Γ:=(oH a l Y X o u c (Nx zi)).set 6 (Nx (rm r))) (az (aw (i:=4) rfl) (az (aw (i:=6) rfl) (az aO aj))) d rfl rfl
    generalize gg c (r:Int) 3=z at L i
    rcases (by omega:z=0\/z=1\/z=2) with rfl | rfl | rfl
    ·exact xy (j:=0) (aw (i:=5) rfl) L rfl rfl rfl
    ·exact xy (j:=1) (aw (i:=5) rfl) L rfl rfl rfl
    ·exact xy (j:=2) (aw (i:=5) rfl) L rfl rfl rfl
   refine ⟨(List.range n).map λr:Nat=>tU (gg c (r:Int) 3),Nx zi,⟨g.lo,by simp,g.ls,g.o,λa U=>?_,g.s⟩,bJ t (λ_=>ay (dJ (pY (s:=.leaf) (az (pY (s:=.leaf) (az aO aj) rfl rfl rfl) (az (pY (s:=.leaf) (az aO aj) rfl rfl rfl) (az (pY (s:=.leaf) (az aO aj) rfl rfl rfl) aj))) rfl rfl rfl) rfl (by simp)) (dJ (cJ (az (eX (j:=0) (s2:=.leaf) (aw rfl) aO rfl rfl rfl) (az cm (az (eX (j:=2) (s2:=.leaf) (aw rfl) aO rfl rfl rfl) aj))) rfl rfl) rfl (by simp))) nofun⟩
   obtain ⟨r,_,rfl⟩:=List.mem_map.mp U;exact zh
 obtain ⟨p,C,v,B⟩:=y;have P:∃K,Gw (n:Int) n K p u/\b8 (aM ai (ar bp (ar cG (ae 4) (eK (.int 4))) (eK (.int 1)))) (ax false 3 (bz (ab (aq .leaf 6 (d6 (ab (bb aQ (ab (ah (ae 3) (eK (.int 0))) af)) af)) aK (ar h9 (ag 3 ao (ab (ae 4) (ab (ar aI (eK (.int 30)) (ae 6)) (ab (eK (.int 9)) af)))) (eK (.int 8)))) (ab (ah (ae 3) (eK (.int 1))) (ab (ah (ae 3) (eK (.int 2))) af))))) aJ (oH a l Y X p u c C)=.nx (oH a l Y K p u c C):=by
  have t:aM ai (ar bp (ar cG (ae 4) (eK (.int 4))) (eK (.int 1))) (oH a l Y X p u c C)=.ok (c % 4==1) (oH a l Y X p u c C):=cH (s:=.leaf) (aA (aA (aw rfl) aO (fo (by omega))) aO KC.eq_int)
  cases q:(c % 4==1) with
  | false=>
   rw [q] at t;exact ⟨X,v,bJ t nofun λ_=>rfl⟩
  | true=>
   rw [q] at t;have cm:aq .leaf 6 (d6 (ab (bb aQ (ab (ah (ae 3) (eK (.int 0))) af)) af)) aK (ar h9 (ag 3 ao (ab (ae 4) (ab (ar aI (eK (.int 30)) (ae 6)) (ab (eK (.int 9)) af)))) (eK (.int 8))) (oH a l Y X p u c C)=.ok ⟨.lst .leaf,.list ((List.range n).map λr:Nat=>PyData.int (gg c (30+(r:Int)) 9 / 8))⟩ (oH a l Y X p u c C):=by
    refine uA rm (List.range n) (λr=>⟨.leaf,.int (gg c (30+(r:Int)) 9 / 8)⟩) (st:=true) (rW (s:=.leaf) (n:=n) (by omega) (az (len X p u _ v.lo) aj)) (by simp) rfl (by simp;omega) λr M=>⟨?_,rfl⟩
    have M:=List.mem_range.mp M
    exact aA (cv (az (aw (i:=4) rfl) (az (aA aO (aw (i:=6) rfl) pZ) (az aO aj))) (D3 (c:=c) (k:=30+(r:Int)) (b:=9) (by omega) (by omega) (by omega) (by omega)) rfl rfl) aO (nT (by omega) (by omega))
   refine ⟨(List.range n).map λr:Nat=>PyData.int (gg c (30+(r:Int)) 9 / 8),⟨by simp,v.lm,v.ls,λa U=>?_,v.m,v.s⟩,bJ t (λ_=>dJ (cJ (az cm (az (eX (j:=1) (s2:=.leaf) (aw rfl) aO rfl rfl rfl) (az (eX (j:=2) (s2:=.leaf) (aw rfl) aO rfl rfl rfl) aj))) rfl rfl) rfl (by simp)) nofun⟩
   obtain ⟨r,M,rfl⟩:=List.mem_map.mp U;have M:=List.mem_range.mp M
   have i:=HV (c:=c) (k:=30+(r:Int)) (b:=9) (by omega) (by omega) (by omega) (by omega)
   rcases (by omega:gg c (30+(r:Int)) 9 / 8=0\/gg c (30+(r:Int)) 9 / 8=1) with e | e
   ·exact .inl (by rw [e])
   ·exact .inr (by rw [e])
 obtain ⟨E,F,m⟩:=P;obtain ⟨w,ok,O,en⟩:=Fd F R (by omega)
 refine ⟨w,ok,by rw [en];exact I,?_⟩
 have A:=kC ok
 rw [O] at A ⊢;exact aV (ay (dJ (cv (az (aw rfl) (az (aw rfl) (az (aw rfl) aj))) H rfl rfl) rfl (by simp [aN])) (ay (Γ1:=oH a l Y X o u c none) (dJ (cv (az (aw rfl) (az (aA (aA (aw rfl) aO pZ) (aw rfl) pZ) aj)) J rfl rfl) rfl (by simp [aN])) (ay B (ay m (aX (cv (az (aw (i:=3) rfl) aj) A rfl rfl) rfl)))))
end KC
namespace T
open PySem PySem.Spec L2
open PyProof.Rows hiding St
noncomputable def SetU (P:Program) (w:World) (h:Heap) (a:Addr) (S:Str->Bool) (n:Nat):Prop:=
 ∃o j N t,h.get? a=some o/\o.ExactSet/\o.data=.set j N t/\ElemsOf (PySem.strKind P w) j.toList/\(∀k,S k=true↔∃e∈j.toList,(PySem.strKind P w).is k e.2=true)/\j.size<scanBound/\t.fits j.size=true/\j.size=n/\Tb (dv w) t
section
variable {P:Program} {w:World} {A:Around} {E:Value->Shared->Prop} {s:Shared}
theorem SetU.at {h U:Heap} {a:Addr} {S:Str->Bool} {n:Nat} (x:SetU P w h a S n) (k:∀o,h.get? a=some o->U.get? a=some o):SetU P w U a S n:=by
 obtain ⟨o,j,N,t,K,r⟩:=x;exact ⟨o,j,N,t,k o K,r⟩
theorem SetU.congr {h:Heap} {a:Addr} {S b:Str->Bool} {n f:Nat} (x:SetU P w h a S n) (e:∀k,S k=b k) (en:n=f):SetU P w h a b f:=by
 have:S=b:=funext e
 subst this en;exact x
theorem qt {h:Heap} {a:Addr} {o:Obj} {j f:Array (Int×Value)} {N:Nat} {t O:SetTable} {S:Str->Bool} (K:h.get? a=some o) (l:o.ExactSet) (F:o.data=.set j N t) (c:ElemsOf (PySem.strKind P w) f.toList) (G:∀k,S k=true↔∃e∈f.toList,(PySem.strKind P w).is k e.2=true) (Z:f.size<scanBound) (m:O.fits f.size=true) (u:Tb (dv w) O) :
  (h.update a (Obj.putSet f O)).get? a=some { o with data:=.set f (N+1) O }/\SetU P w (h.update a (Obj.putSet f O)) a S f.size:=by
 have q:=(SetOf_store (knd:=PySem.strKind P w) K l F c G Z m).1
 exact ⟨q,_,f,N+1,O,q,l,rfl,c,G,Z,m,rfl,u⟩
theorem HL {a:Addr} {S:Str->Bool} {n:Nat} {k:Str} {x:Value} {Q:Bool->Shared->Prop} (O:(PySem.strKind P w).is k x=true) (G:x.scannable=true) (hS:SetU P w s.heap a S n) (M:n+1<scanBound)
  (h:∀U,Heap.SameBut a s.heap U->SetU P w U a (λi=>S i||decide (i=k)) (if S k then n else n+1)->∀b,Q b { s with heap:=U }):wpAny (model P w) A (setAddHashed a x ((PySem.strKind P w).hash k)) Q E s:=by
 obtain ⟨o,es,ep,t,K,l,F,c,hm,Z,hf,hn,u⟩:=hS;unfold setAddHashed setAddHashedIn;refine wpAny_holding (Nr (wpAny_setState_of K F hf ?_))
 dsimp only;rw [byScan_of G Z c,if_pos rfl];unfold setAddByScan;refine Nr (Nr (wpAny_rule (Nr (wpAny_setScan_of O K F hf c ?_))))
 cases q:List.findIdx? (λe=>(PySem.strKind P w).is k e.2) es.toList with
 | some j=>
  dsimp only;obtain ⟨hj,g,_⟩:=List.findIdx?_eq_some_iff_getElem.mp q
  have sk:S k=true:=(hm k).mpr ⟨_,getElem_mem hj,g⟩
  refine Nt (Nt ?_)
  have z:=h s.heap (Heap.SameBut.refl a s.heap) ⟨o,es,ep,t,K,l,F,c,λi=>?_,Z,hf,by rw [sk];exact hn,u⟩ false
  ·have f:s={ s with heap:=s.heap }:=by cases s;rfl
   rw [f];exact z
  ·rw [Bool.or_eq_true,decide_eq_true_eq,<-hm i]
   exact ⟨λy=>y.elim id λe=>e▸sk,.inl⟩
 | none=>
  dsimp only;have sk:S k=false:=by
   cases e:S k with
   | false=>rfl
   | true=>
    obtain ⟨y,hy,g⟩:=(hm k).mp e;have:=List.findIdx?_eq_none_iff.mp q y hy
    rw [g] at this
    cases this
  have r:=layNew_perm t es ((PySem.strKind P w).hash k) x
  have ft:=layNew_fits t es ((PySem.strKind P w).hash k) x
  have C:=u.layNew es ((PySem.strKind P w).hash k) x
  generalize layNew t es ((PySem.strKind P w).hash k) x=L at r ft C ⊢
  obtain ⟨B,t1,X,gv⟩:=L;dsimp only at r ft C ⊢
  rw [Array.toList_push] at r;have el1:ElemsOf (PySem.strKind P w) B.toList:=(c.push O G).perm r
  have J:=λi=>mem_push_iff O hm r i
  have sz:B.size=n+1:=by rw [<-Array.length_toList,r.length_eq,length_append,Array.length_toList,hn];rfl
  have p:B.size<scanBound:=by rw [sz];exact M
  have gw:∀(b:Bool) {s1:Shared} {R:Unit->Shared->Prop},R () s1->wpAny (model P w) A (match b with | true=>rule "set.scan.the-table-gave-way" | false=>pure ()) R E s1:=λb s1 R y=>by
   cases b
   ·exact Nt y
   ·exact wpAny_rule y
  have d:∀U,Heap.SameBut a s.heap U->SetU P w U a (λi=>S i||decide (i=k)) B.size->∀b,Q b { s with heap:=U }:=λU sb y=>by
   have:=h U sb
   rw [sk] at this;rw [sz] at y;exact this y
  have tail:∀t2:SetTable,t2.fits B.size=true->Tb (dv w) t2->∀{R:Option Bool->Shared->Prop},(∀U,(∀b,Q b { s with heap:=U })->R (some true) { s with heap:=U })->wpAny (model P w) A (do
    storeSet a B t2
    if (!X&&t2.tooFull)=true then do
      (match (relayAll t2 B (SetTable.grown B.size)).2.2 with | true=>rule "set.scan.the-table-gave-way" | false=>pure ())
      storeSet a (relayAll t2 B (SetTable.grown B.size)).1 (relayAll t2 B (SetTable.grown B.size)).2.1
      pure (some true)
     else pure (some true)) R E s:=λt2 f2 tb2 R Y=>by
   refine Nr (wpAny_storeSet_of K F ?_ (fits_of_scanBound p))
   obtain ⟨v,s1⟩:=qt K l F el1 J p f2 tb2;have sb1:=Heap.SameBut.update s.heap a (Obj.putSet B t2)
   split
   ·have pr:=relayAll_perm t2 B (SetTable.grown B.size)
    have I:=relayAll_fits t2 B (SetTable.grown B.size)
    have tr:=tb2.relay B (SetTable.grown B.size)
    generalize relayAll t2 B (SetTable.grown B.size)=Rl at pr I tr ⊢
    obtain ⟨m,t3,g2⟩:=Rl;dsimp only at pr I tr ⊢
    have sz2:m.size=B.size:=by rw [<-Array.length_toList,pr.length_eq,Array.length_toList]
    have H:m.size<scanBound:=by rw [sz2];exact p
    refine Nr (gw _ (Nr (wpAny_storeSet_of v rfl ?_ (fits_of_scanBound H))))
    obtain ⟨_,N⟩:=qt (P:=P) (S:=λi=>S i||decide (i=k)) v l rfl (el1.perm pr) (λi=>(J i).trans ⟨λ⟨e,he,y⟩=>⟨e,pr.mem_iff.mpr he,y⟩,λ⟨e,he,y⟩=>⟨e,pr.mem_iff.mp he,y⟩⟩) H I tr
    rw [sz2] at N;exact Nt (Y _ (d _ (sb1.trans (Heap.SameBut.update _ a _)) N))
   ·exact Nt (Y _ (d _ sb1 s1))
  refine Nr (gw _ ?_)
  split
  ·refine Nr ?_
   rw [hashByValue_scannable 8 G];refine Nt ?_
   refine tail _ ?_ ?_ λU y=>?_
   ·split
    ·exact ft
    ·exact SetTable.fits_plain_off ft
   ·split
    ·exact C
    ·exact C.plain false
   ·exact Nt (y true)
  ·refine Nr (Nt ?_)
   simp only [if_true]
   exact tail _ ft C λU y=>Nt (y true)
end
noncomputable def dF (val:Nat->Str) (i:Nat):List Str:=((List.range i).map val).foldl step_dedup []
theorem EU (val:Nat->Str) (i:Nat):dF val (i+1)=step_dedup (dF val i) (val i):=by
 unfold dF;rw [range_succ,map_append,List.foldl_append];rfl
theorem nD (val:Nat->Str):∀i,(dF val i).length<=i
 | 0=>Nv 0
 | i+1=>by
  rw [EU];unfold step_dedup;have:=nD val i
  split
  ·omega
  ·rw [length_append]
   simp
   omega
theorem j8 (M:List Str) (v k:Str):(step_dedup M v).any (·==k)=(M.any (·==k)||decide (k=v)):=by
 unfold step_dedup;split
 ·rename_i h
  by_cases e:k=v
  ·subst e
   simp only [h,Bool.true_or]
  ·simp [e]
 ·rw [List.any_append]
  congr 1
  simp only [any_cons,List.any_nil,Bool.or_false]
  rw [Bool.eq_iff_iff,decide_eq_true_eq,beq_iff_eq];exact ⟨Eq.symm,Eq.symm⟩
theorem sy (M:List Str) (v:Str):(step_dedup M v).length=if M.any (·==v) then M.length else M.length+1:=by
 unfold step_dedup;split
 ·rfl
 ·rw [length_append,length_singleton]
theorem qr:∀{z:List Value} {ss:List Str},StrsAre z ss->∀(i:Nat) (v:Value),z[i]?=some v->∃t,v=.str (ss.getD i ⟨#[]⟩) t
 | _,_,.nil,i,v,h=>by simp at h
 | _,_,.cons y t r,i,v,h=>by
  cases i with
  | zero=>
   rw [List.getElem?_cons_zero] at h
   cases h;exact ⟨t,rfl⟩
  | succ i=>
   rw [List.getElem?_cons_succ] at h;rw [List.getD_cons_succ];exact qr r i v h
section
variable {P:Program} {w:World} {A:Around} {R:Result->Shared->Prop} {I:Addr} {fp wr:List Addr} {G:Array GenState->Array GenState->Prop} {n:Nat} {Pr:Nat->Value->Prop} {Sn:Nat->Shared->Prop}
theorem Fc (W:WalksS P w A.in1 I fp wr G n Pr Sn) (S:Addr) (y:S∉fp) (val:Nat->Str) (m:∀i v,Pr i v->∃t,v=.str (val i) t) (Z:n+1<scanBound):∀(k i:Nat) (s:Shared),n-i=k->i<=n->Sn i s->SetU P w s.heap S (λz=>(dF val i).any (·==z)) (dF val i).length ->
   (∀j,Moved (S::wr) G s j->SetU P w j.heap S (λz=>(dF val n).any (·==z)) (dF val n).length->R (.ok (.ret .none)) j)->codeAny (model P w) A (.builtin "set.update.loop" ⟨[.ref S,.ref I],[]⟩) R s:=by
 have h:S∉wr:=λz=>y (W.sub _ z)
 have C:∀b∈wr,b∈S::wr:=λb z=>Nn _ z
 intro k;induction k with
 | zero=>
  intro i s O l st x Y;obtain rfl:i=n:=by omega
  refine codeAny_builtin F.entry_set_update_loop ?_
  rw [Around.under_plainId F.plain_set_update_loop _];refine Nr (W.done s _ _ st λj d=>?_)
  exact Nt (Y j (d.mono C) (x.at λo e=>d.heap S o h e))
 | succ k f=>
  intro i s O l st x Y;have lt:i<n:=by omega
  refine codeAny_builtin F.entry_set_update_loop ?_
  rw [Around.under_plainId F.plain_set_update_loop _];refine Nr (W.item i s _ _ lt st λv j pv q d=>?_)
  obtain ⟨t,rfl⟩:=m i v pv;have p:=x.at λo e=>d.heap S o h e
  refine Nr (wpAny_holding ?_)
  unfold setAdd;refine wpAny_holding (Nr ((PySem.strKind P w).pyHash (k:=val i) (strKind_is _ _ _ _) ?_))
  have a:(dF val i).length+1<scanBound:=by have:=nD val i;omega
  refine HL (s:={ j with toks:=j.toks+1 }) (strKind_is _ _ _ _) rfl p a λU M r b=>?_
  have u:SetU P w U S (λz=>(dF val (i+1)).any (·==z)) (dF val (i+1)).length:=r.congr (λz=>by rw [EU,j8]) (by rw [EU,sy])
  refine Nt ⟨plainId_quiet F.plain_set_update_loop _,f (i+1) _ (by omega) lt (W.frame _ j _ _ q (Nat.le_succ _) λc J o e=>?_) u λN g B=>?_⟩
  ·rw [M.2 c λz=>y (by rw [<-z];exact J)]
   exact e
  ·refine Y N (Moved.trans W.gtrans ((d.mono C).then_heap (Nat.le_succ _) λc o J e=>?_) g) B
   rw [M.2 c λz=>J (by rw [z];exact mem_cons_self)]
   exact e
end
section
variable {P:Program} {w:World} {A:Around} {E:Value->Shared->Prop} {s:Shared}
theorem zf {h:Heap} {a:Addr} (e:h.get? a=some (iN w)):SetU P w h a (λ_=>false) 0:=
 ⟨_,#[],0,_,e,⟨rfl,rfl,rfl⟩,rfl,λe R=>by simp at R,λk=>by simp,by decide,rfl,rfl,Tb.fresh⟩
theorem pO {l:Addr} {g:Array Value} {ns:List Str} {Q:Value->Shared->Prop} (H:A.handled=none) (N:s.heap.IsList l g) (hi:StrsAre g.toList ns) (Z:g.size+1<scanBound)
  (h:∀(U:Heap) (G:Nat),SetU P w U s.heap.objs.size (λz=>(dF (λi=>ns.getD i ⟨#[]⟩) g.size).any (·==z)) (dF (λi=>ns.getD i ⟨#[]⟩) g.size).length->(∀b o,s.heap.get? b=some o->U.get? b=some o)->Q (.ref s.heap.objs.size) { s with heap:=U,toks:=G }) :
  wpAny (model P w) A (call (.type "set") [.ref l]) Q E s:=by
 obtain ⟨c,O,mro⟩:=F.called_set.mro;have made:=F.called_set.made
 have sub:=F.called_set.sub
 refine wpAny_call (codeAny_of_tree ?_)
 show wpAny _ _ (callAny (.type "set") _) _ _ _
 refine Nt ⟨Code.quiet_builtin _ (by decide +kernel),codeAny_builtin F.entry_type_call ?_⟩
 rw [Around.under_plain (weight_type_call_type "set" [.ref l] []) rfl]
 have h1:=F.called_set.notType
 have C:=F.called_set.canCreate
 have ct:=F.typeCall_set_1 (.ref l)
 repeat (any_goals (first | assumption | wp_step))
 refine codeAny_mono (GI (.ref l) (E:=E) (Q:=λI s1=>I=.ref s.heap.objs.size/\s1={ s with heap:=s.heap.push (iN w) }) ⟨rfl,rfl⟩) λr s1 M=>?_
 cases r with
 | error e=>exact M
 | ok q=>
  cases q with
  | ret I=>
   obtain ⟨rfl,rfl⟩:=M;have gS:(s.heap.push (iN w)).get? s.heap.objs.size=some (iN w):=Heap.get?_push_size _ rfl
   have ty:Shared.TypeIs { s with heap:=s.heap.push (iN w) } (.ref s.heap.objs.size) "set":=⟨_,gS,rfl⟩
   have li:=F.called_set.init.lookup
   have bi:=F.called_set.init.bind (.ref s.heap.objs.size)
   repeat (any_goals (first | assumption | wp_step))
   refine codeAny_mono (codeAny_call_builtin (R:=wants (λr s2=>r=.none/\∃U G,s2={ s with heap:=U,toks:=G }/\SetU P w U s.heap.objs.size (λz=>(dF (λi=>ns.getD i ⟨#[]⟩) g.size).any (·==z)) (dF (λi=>ns.getD i ⟨#[]⟩) g.size).length/\(∀b o,s.heap.get? b=some o->U.get? b=some o)) E) F.called_set.init.plain F.entry_set_init (check_set_init_1 ty ?_)) λk s2 p=>?_
   ·have a:=N
    obtain ⟨ol,gl,L,nl,dl⟩:=N;obtain ⟨oc,od,odt,X⟩:=ol;simp only at L dl
    subst L dl;have gl':(s.heap.push (iN w)).get? l=some { cls:=.type "list",dict:=od,data:=.seq g nl,slots:=X }:=Nu _ gl
    have s1:=F.sub_list_set
    have s2:=F.sub_list_frozenset
    have ne:(Value.type "list"==Value.type "dict")=false:=by decide
    have J:(s.heap.push (iN w)).IsList l g:=⟨_,gl',rfl,nl,rfl⟩
    unfold Builtin.«set.__init__» noKeywords Builtin.Frozenset.updateFrom
    generalize hPI:pyIter=PI
    wp_walk
    subst hPI;refine wpAny_pyIter_list J (Nr (wpAny_runValue ?_))
    have lS:l<s.heap.objs.size:=Heap.lt_size gl
    have n:A.in1.in1.in1.handled=none:=by simp [H]
    have nI:l≠(s.heap.push (iN w)).objs.size:=by
     rw [Heap.size_push];exact Nat.ne_of_lt (Nat.lt_succ_of_lt lS)
    have nf:s.heap.objs.size∉[(s.heap.push (iN w)).objs.size,l]:=by
     rw [Heap.size_push];simp only [mem_cons,not_mem_nil,or_false,not_or]
     exact ⟨Nat.ne_of_lt (Nat.lt_succ_self _),Nat.ne_of_gt lS⟩
    refine Fc ((Walks.list n _ l nI g).toS) s.heap.objs.size nf (λi=>ns.getD i ⟨#[]⟩) (λi v e=>qr hi i v (by rw [Array.getElem?_toList];exact e)) Z (g.size-0) 0 _ (by omega) (Nat.zero_le _) ⟨⟨_,Heap.get?_push_size _ rfl,rfl,rfl⟩,J.push _⟩ ?_ λj d x=>?_
    ·exact (zf (Nu _ gS)).congr (λ_=>rfl) rfl
    ·obtain ⟨U,g',Y,tk',K⟩:=j
     have B:g'=s.gens:=d.gens
     have m:Y=s.drawn:=d.drawn
     have e3:K=s.os:=d.os
     subst B m e3;refine Nt (Nt ⟨rfl,U,tk',rfl,x,λb o e=>?_⟩)
     have u:b≠s.heap.objs.size:=Nat.ne_of_lt (Heap.lt_size e)
     have y:b≠(s.heap.push (iN w)).objs.size:=by
      rw [Heap.size_push];exact Nat.ne_of_lt (Nat.lt_succ_of_lt (Heap.lt_size e))
     exact d.heap b o (by simp only [mem_cons,not_mem_nil,or_false,not_or];exact ⟨u,y⟩) (Nu _ (Nu _ e))
   ·cases k with
    | error e=>exact p
    | ok t=>
     cases t with
     | ret r=>
      obtain ⟨rfl,U,G,rfl,x,f⟩:=p;repeat (any_goals (first | assumption | wp_step))
      exact h _ _ x f
     | _=>exact p.elim
  | _=>exact M.elim
end
theorem qq:∀{U:List Str} {us:List Value},Vals (U.map V.str) us->StrsAre us U
 | [],_,.nil=>.nil
 | n::U,_,.cons ⟨t,e⟩ q=>by subst e;exact .cons n t (qq q)
theorem mr:∀{U:List Str} {us:List Value},StrsAre us U->Vals (U.map V.str) us
 | _,_,.nil=>.nil
 | _,_,.cons n t q=>.cons ⟨t,rfl⟩ (mr q)
noncomputable def AD (U:List Str):List Str:=dF (λi=>U.getD i ⟨#[]⟩) U.length
theorem ES (val:Nat->Str):∀i,(dF val i).Nodup
 | 0=>nodup_nil
 | i+1=>by
  rw [EU];unfold step_dedup;split
  ·exact ES val i
  ·rename_i h
   rw [List.nodup_append];refine ⟨ES val i,by simp,λa U b Z e=>h ?_⟩
   rw [List.mem_singleton] at Z;subst Z e;exact List.any_eq_true.mpr ⟨_,U,by simp⟩
theorem nE (val:Nat->Str) (k:Str):∀i,k∈dF val i↔∃j,j<i/\val j=k
 | 0=>by
  show k∈([]:List Str)↔_
  simp
 | i+1=>by
  have f:=nE val k i
  have a:=j8 (dF val i) (val i) k
  rw [EU];have b:∀l:List Str,l.any (·==k)=true↔k∈l:=λl=>by simp
  rw [<-b,a,Bool.or_eq_true,b,f,decide_eq_true_eq];constructor
  ·rintro (⟨j,R,C⟩ | h)
   ·exact ⟨j,by omega,C⟩
   ·exact ⟨i,by omega,h.symm⟩
  ·rintro ⟨j,R,C⟩
   by_cases c:j=i
   ·subst c
    exact .inr C.symm
   ·exact .inl ⟨j,by omega,C⟩
theorem ddS_mem {U:List Str} {k:Str}:k∈AD U↔k∈U:=by
 unfold AD;rw [nE];constructor
 ·rintro ⟨j,R,C⟩
  rw [Nm,Nl R] at C;rw [<-C];exact getElem_mem R
 ·intro h
  obtain ⟨j,R,C⟩:=getElem_of_mem h;exact ⟨j,R,by rw [Nm,Nl R];exact C⟩
theorem j5 {P:Program} {w:World}:∀(z:List Value),(∀u∈z,∃k,(PySem.strKind P w).is k u=true)->∃U,StrsAre z U
 | [],_=>⟨[],.nil⟩
 | u::z,h=>by
  obtain ⟨k,e⟩:=h u mem_cons_self;obtain ⟨t,rfl⟩:=Value.isStrOf_shape e;obtain ⟨U,x⟩:=j5 z λv a=>h v (Nn _ a)
  exact ⟨_,.cons _ _ x⟩
theorem mC {P:Program} {w:World} {k:Str}:∀{z:List Value} {ns:List Str},StrsAre z ns->((∃u∈z,(PySem.strKind P w).is k u=true)↔k∈ns)
 | _,_,.nil=>by simp
 | _,_,.cons i t x=>by
  have f:=mC (k:=k) (P:=P) (w:=w) x
  rw [mem_cons,<-f];constructor
  ·rintro ⟨u,J,e⟩
   rcases Nk J with rfl | J
   ·obtain ⟨O,a⟩:=Value.isStrOf_shape (show Value.isStrOf k (Value.str i t)=true from e)
    cases a
    exact .inl rfl
   ·exact .inr ⟨u,J,e⟩
  ·rintro (rfl | ⟨u,J,e⟩)
   ·exact ⟨_,mem_cons_self,strKind_is P w k t⟩
   ·exact ⟨u,Nn _ J,e⟩
theorem fS:∀(l m:List Str),l.Nodup->(∀x∈l,x∈m)->m.length=l.length->m.Perm l
 | [],m,_,_,h=>by rw [List.length_eq_zero_iff.mp h]
 | a::l,m,nd,hm,h=>by
  have U:a∈m:=hm a mem_cons_self
  obtain ⟨F,b⟩:=List.nodup_cons.mp nd;have f:=fS l (m.erase a) b (λx G=>(List.mem_erase_of_ne (λe:x=a=>F (e▸G))).mpr (hm x (Nn _ G))) (by rw [List.length_erase_of_mem U,h,length_cons];omega)
  exact (List.perm_cons_erase U).trans (f.cons a)
theorem ke:∀(l m:List Str),l.Nodup->(∀x∈l,x∈m)->l.length<=m.length
 | [],m,_,_=>Nat.zero_le _
 | a::l,m,nd,hm=>by
  have U:a∈m:=hm a mem_cons_self
  obtain ⟨F,b⟩:=List.nodup_cons.mp nd;have f:=ke l (m.erase a) b λx G=>(List.mem_erase_of_ne (λe:x=a=>F (e▸G))).mpr (hm x (Nn _ G))
  rw [List.length_erase_of_mem U] at f;have:=length_pos_of_mem U
  rw [length_cons];omega
theorem mD:∀{z:List Value} {ns:List Str},StrsAre z ns->z.length=ns.length
 | _,_,.nil=>rfl
 | _,_,.cons _ _ x=>by rw [length_cons,length_cons,mD x]
noncomputable abbrev Jf (a b:Str):Prop:=a.cps.toList<=b.cps.toList
theorem FP:∀(p:Str) (l:List Str),risingS p l=true->(p::l).Pairwise Jf
 | p,[],_=>by simp
 | p,x::r,h=>by
  have U:(!ltCps x.cps.toList p.cps.toList&&risingS x r)=true:=h
  rw [Bool.and_eq_true,Bool.not_eq_true',ltCps_eq,decide_eq_false_iff_not,List.not_lt] at U;have f:=FP x r U.2
  refine List.pairwise_cons.mpr ⟨λy o=>?_,f⟩
  rcases Nk o with rfl | o
  ·exact U.1
  ·exact List.le_trans U.1 ((List.pairwise_cons.mp f).1 y o)
theorem mG:∀(l:List Str),sortedS l=true->l.Pairwise Jf
 | [],_=>List.Pairwise.nil
 | p::l,h=>FP p l h
theorem vU {a b:Str} (h:Jf a b) (U:Jf b a):a=b:=by
 have:=List.le_antisymm h U
 cases a
 cases b;simp only [Str.mk.injEq]
 exact Array.toList_inj.mp this
noncomputable def risL (L:List Str):Bool:=sortedS L&&decide L.Nodup
noncomputable def dD (L U:List Str):List Str:=L.filter λc=>U.contains c
theorem Bp {L e d:List Str} (P:risL L=true) (Y:∀c∈e,c∈L) (g:d.Perm (AD e)) (w:sortedS d=true):d=dD L e:=by
 unfold risL at P;rw [Bool.and_eq_true,decide_eq_true_eq] at P;refine List.Perm.eq_of_pairwise (λa b _ _ h U=>vU h U) (mG d w) ((mG L P.1).sublist filter_sublist) (g.trans ?_)
 refine (List.perm_ext_iff_of_nodup (ES _ _) (P.2.sublist filter_sublist)).mpr λa=>?_
 rw [show dF (λi=>e.getD i ⟨#[]⟩) e.length=AD e from rfl,ddS_mem,mem_filter,contains_iff_mem]
 exact ⟨λh=>⟨Y a h,h⟩,λh=>h.2⟩
noncomputable def gP:List Nw->Option (List Str)
 | []=>some []
 | .str x::r=>(gP r).map (x :: ·)
 | _=>none
theorem mE:∀{N:List Nw} {ns:List Str},gP N=some ns->N=ns.map .str
 | [],ns,h=>by
  unfold gP at h
  cases h;rfl
 | d::r,ns,h=>by
  cases d with
  | str x=>
   unfold gP at h;obtain ⟨m,R,rfl⟩:=Option.map_eq_some_iff.mp h;rw [mE R];rfl
  | _=>cases h
theorem j6:∀(U:List Str),gP (U.map .str)=some U
 | []=>rfl
 | n::U=>by
  show (gP (U.map .str)).map (n :: ·)=_
  rw [j6 U];rfl
noncomputable def fJ:List Nw->Option (List Str)
 | [.list ds]=>gP ds
 | _=>none
theorem oN {N:List Nw} {U:List Str} (h:fJ N=some U):N=[.list (U.map .str)]:=by
 unfold fJ at h;split at h
 ·rw [mE h]
 ·cases h
noncomputable def Me (K:Fg) (L:List Str) (d:TA):TE:=λM H Q=>d M H λa Z=>∃(p:Addr) (ns:List Str),a=[.ref p]/\SqL K Z p (ns.map V.str)/\ns.length<64/\(∀c∈ns,c∈L)/\L.length<4000/\risL L=true/\∀l,Z l=none->Q (.ref l) (aR Z l (.lst ((dD L ns).map V.str)))
theorem vz {X:Cx} {L:List Str} {a:Expr} {d:TA} {p f pos l:Pos} (E:Gl X "sorted") (hm:X.mg "sorted"=none) (hg2:Gl X "set") (hm2:X.mg "set"=none) (J:X.calm=true) (U:PA X [a] d) (Y:starEach [a] X.env=[(false,eval a X.env)])
  (hs1:starEach [.Call (.Name "set" f) [a] [] l] X.env=[(false,eval (.Call (.Name "set" f) [a] [] l) X.env)]):PE X (.Call (.Name "sorted" p) [.Call (.Name "set" f) [a] [] l] [] pos) (Me X.K L d):=by
 intro B s M H Q I h;refine wpAny_Call_Name_kw (xj I E hm oz (PyProof.Rows.callWith_builtin1 ?_ hs1 rfl))
 rw [hs1];show wpAny _ _ (spliced ((false,eval (.Call (.Name "set" f) [a] [] l) X.env)::[])) _ _ s
 refine Calls.spliced_cons (Call_ (xj I hg2 hm2 HF (PyProof.Rows.callWith_type1 (bt (U l B s M H _ I h) λz A ⟨vs,H1,I1,r1,q1⟩=>?_) Y rfl)))
 obtain ⟨pa,ns,e,hS,q1,x,q2,hL,q⟩:=q1;subst e;obtain ⟨u,rfl,ru⟩:=r1.one
 cases ru;obtain ⟨g,r,pl,hz⟩:=I1.list hS;have hI:=qq r
 have N:g.length=ns.length:=by rw [<-r.length,length_map]
 have hl':g.toArray.size=ns.length:=by rw [size_toArray,N]
 refine pO (ns:=ns) (I.ok.hd J) pl.isList (by simpa using hI) (by rw [hl'];have:scanBound=4096:=rfl;omega) λR tk1 st kp1=>?_
 rw [hl'] at st;refine Calls.spliced_nil ?_
 have i:L2.Inv X B M H1 { A with heap:=R,toks:=tk1 }:=I1.kept (t':=tk1) kp1
 obtain ⟨o,j,ep,t,K,hex,F,hel,hmem,Z,hf,y,tb⟩:=st;refine Calls.call_function_entry kind_sorted plain_sorted entry_sorted (args_sorted1 _) ?_
 unfold Builtin.«sorted»
 refine Nr (m:=checkCount "sorted" 1 1 _) (Nt ?_)
 refine Nr (ot (I.ok.hd J) K hex.1 F hf Z tb λh' tk dr z O pm=>?_)
 have hlu:z.length=(AD ns).length:=by
  rw [pm.length_eq,length_map,Array.length_toList,y];rfl
 obtain ⟨zs,hZ⟩:=j5 (P:=X.prog) (w:=X.w) z λu hu=>by
  obtain ⟨e,he,rfl⟩:=List.mem_map.mp (pm.mem_iff.mp hu);obtain ⟨k,O,_⟩:=(hel e he).1;exact ⟨k,O⟩
 have hdl:(AD ns).length<=ns.length:=ke _ _ (ES _ _) λc J=>ddS_mem.mp J
 have hpz:zs.Perm (AD ns):=by
  refine (fS (AD ns) zs (ES _ _) (λk O=>?_) ?_)
  ·obtain ⟨e,he,G⟩:=(hmem k).mp (List.any_eq_true.mpr ⟨k,O,by simp⟩)
   exact (mC (P:=X.prog) (w:=X.w) hZ).mp ⟨e.2,pm.mem_iff.mpr (List.mem_map.mpr ⟨e,he,rfl⟩),G⟩
  ·rw [<-hlu,mD hZ]
 refine Nr (wpAny_newList ?_ (by rw [hlu,sizeLine_eq];omega))
 have hoL:(h'.push { cls:=.type "list",data:=.seq z.toArray }).get? h'.objs.size=some (seqObj "list" z.toArray 0):=Heap.get?_push_size _ rfl
 refine Nr (wpAny_holding (wpAny_call_entry slot_list_sort ⟨_,hoL,rfl⟩ entry_list_sort (list_sort_treeK strKind_oneLt hoL hZ.keysOf (λv1 v rest e=>keyKind_strs (by rw [<-e];exact hZ)) (by rw [hlu];omega) λst' hp hs'=>⟨_,rfl,?_⟩) (args_list_sort _)))
 obtain ⟨ns',a1,a2,a3⟩:=sorted_out_str hZ hp hs'
 generalize (arrOf st').map (·.2)=out at a1
 have e:=Bp hL x (a2.trans hpz) a3
 subst e;have hlen:(dD L ns).length<=L.length:=length_filter_le _ _
 obtain ⟨n,C⟩:=sortedHeap_at (out:=out) hoL
 have I3:L2.Inv X B M H1 { A with heap:=h',toks:=tk,drawn:=dr }:=L2Inv.drawn (i.kept (t':=tk) O) dr
 have kk:∀b o,h'.get? b=some o->(sortedHeap (h'.push { cls:=.type "list",data:=.seq z.toArray }) h'.objs.size z out).get? b=some o:=λb o e=>by
  have hlt:=Heap.lt_size e
  rw [sortedHeap_old (Nat.ne_of_lt hlt) (by rw [Heap.size_push];exact Nat.lt_succ_of_lt hlt)]
  exact Nu _ e
 exact Nt ⟨_,rfl,.ref h'.objs.size,aR H1 h'.objs.size (.lst ((dD L ns).map V.str)),I3.laid (t':=tk) kk (Nv _) ⟨by rw [length_map,sizeLine_eq];omega,out.toList,n,mr a1,by simpa [seqObj] using C⟩,rfl,q _ (I3.hok.fresh (Nv _))⟩
noncomputable def lj (L U:List Str):Bool:=decide (U.length<64)&&(U.all λc=>L.contains c)&&decide (L.length<4000)&&risL L
section
variable {K:Fg} {W:XW} {σ:St} {H:Hp} {Q:VK} {fa:F1} {fl:FL}
noncomputable def eH (L:List Str) (q:FL):F1:=λB=>(q B).bind λJ I=>match fJ (J.map (·.d)) with
 | some U=>if lj L U then .ok ⟨.lst .leaf,.list ((dD L U).map .str)⟩ I else .no
 | none=>.no
theorem va {L:List Str} (h:tE K W (eH L fl) σ H Q):Me K L (tA K W fl) σ H Q:=by
 obtain ⟨f,O,t,B,E,h⟩:=h;refine ⟨f,O,t,B,E,?_⟩
 unfold eH at h
 cases e:fl B with
 | er c I=>rw [e] at h;exact h
 | no=>rw [e] at h;exact h
 | ok J X=>
  rw [e] at h;intro o Z b Y A;have r:=A.reps
  have h:Wants K W f O t H σ Q (match fJ (J.map (·.d)) with | some U=>if lj L U then .ok ⟨.lst .leaf,.list ((dD L U).map .str)⟩ X else .no | none=>.no):=h
  cases m:fJ (J.map (·.d)) with
   | none=>rw [m] at h;exact h.elim
   | some U=>
    rw [m] at h;rw [oN m] at r;have h:Wants K W f O t H σ Q (if lj L U then .ok ⟨.lst .leaf,.list ((dD L U).map .str)⟩ X else .no):=h
    by_cases y:lj L U=true
    case neg=>rw [if_neg y] at h;exact h.elim
    rw [if_pos y] at h;unfold lj at y;simp only [Bool.and_eq_true,decide_eq_true_eq,all_eq_true,contains_iff_mem] at y
    obtain ⟨⟨⟨k,s⟩,w⟩,n⟩:=y;have N:=r.1
    match o,N with
    | [v],_=>
     have q:=r.2 0 v (.list (U.map .str)) rfl rfl
     cases q with
     | @lst p ws _ hq hwl hw=>
      have G:ws=U.map V.str:=by
       apply ext_getElem?
       intro i;by_cases j:i<ws.length
       ·have a:i<U.length:=by rw [length_map] at hwl;omega
        have q:=hw i (ws[i]'j) (.str (U[i]'a)) (Nl _) (by rw [getElem?_map,Nl a];rfl)
        rw [Nl j,getElem?_map,Nl a];generalize ws[i]'j=u at q
        cases q;rfl
       ·rw [getElem?_eq_none (by omega),getElem?_eq_none (by rw [length_map] at hwl ⊢;omega)]
      rw [G] at hq;refine ⟨p,U,rfl,hq,k,s,w,n,λl N=>h _ _ _ _ (A.newSc E.ndO N (by simp) λi v d F g=>?_)⟩
      rw [getElem?_map] at F g
      cases M:(dD L U)[i]? with
      | none=>rw [M] at F;cases F
      | some z=>
       rw [M] at F g
       cases F
       cases g;exact .str z
end
section
variable {X:Cx} {N gl:List Str} {vs cs ls lo gs:List Nat} {W:XW} {a:Expr} {p pos:Pos} {fl:FL}
theorem cb_sortX {f l:Pos} (L:List Str) (S:Cp X N gl vs cs ls lo gs) (j k:Nat) (A:gl[j]?=some ("sorted":Str)) (E:gs.contains j=true) (G:X.mg "sorted"=none) (O:gl[k]?=some ("set":Str)) (y:gs.contains k=true) (R:X.mg "set"=none) (U:PA X [a] (tA X.K W fl)) (Y:starEach [a] X.env=[(false,eval a X.env)])
  (r:starEach [.Call (.Name "set" f) [a] [] l] X.env=[(false,eval (.Call (.Name "set" f) [a] [] l) X.env)]):PE X (.Call (.Name "sorted" p) [.Call (.Name "set" f) [a] [] l] [] pos) (tE X.K W (eH L fl)):=
 bh (vz (S.g A E).1 G (S.g O y).1 R S.calm U Y r) λ_ _ _=>va
end
end T
namespace TQ
open PySem PySem.Spec L2 T
open PyProof.Rows hiding St
section
variable {X:Cx} {N gl:List Str} {vs cs ls lo gs:List Nat} {W:XW} {a:Expr} {p pos:Pos} {fl:FL}
theorem oJ {f l:Pos} (L:List Str) (S:Cp X N gl vs cs ls lo gs) (j k:Nat) (A:gl[j]?=some ("sorted":Str)) (E:gs.contains j=true) (G:X.mg "sorted"=none) (O:gl[k]?=some ("set":Str)) (y:gs.contains k=true) (R:X.mg "set"=none) (U:Q (PA X [a] (tA X.K W fl))) (Y:starEach [a] X.env=[(false,eval a X.env)])
  (r:starEach [.Call (.Name "set" f) [a] [] l] X.env=[(false,eval (.Call (.Name "set" f) [a] [] l) X.env)]):Q (PE X (.Call (.Name "sorted" p) [.Call (.Name "set" f) [a] [] l] [] pos) (tE X.K W (eH L fl))):=⟨T.cb_sortX L S j k A E G O y R U.p Y r⟩
end
end TQ
namespace T
open PySem PySem.Spec L2
open PyProof.Rows hiding St
noncomputable def yW:Sh->Bool
 | .lst .leaf=>true
 | _=>false
section
variable {X:Cx} {N gl:List Str} {vs cs ls lo gs:List Nat} {W:XW}
structure Ap (X:Cx) (o a:Expr) (apos cpos:Pos) (epos:Pos):Prop where
 hbase:attributeBase o "append" X.env (eval o X.env)=eval o X.env
 hline:(apos.endLine==cpos.line)=true
 hfew:((backTo cpos (starEach [a] X.env)).all (λx=>!x.1)&&(backToKw cpos (keywordEach [] X.env)).all (λx=>x.1.isSome)&&decide ([a].length+([]:List Keyword).length+(if ([]:List Keyword).isEmpty then 0 else 1)<30))=true
 hsw:swapsWith (.Call (.Attribute o "append" apos) [a] [] cpos) none epos.line X.env=pure false
 hst:starEach [a] X.env=[(false,eval a X.env)]
end
mutual
noncomputable def rz:Nw->Nat
 | .none=>4
 | .bool _=>5
 | .int _=>1921
 | .str _=>20000000
 | .list Y=>2+rzL Y
 | .tuple Y=>3+rzL Y
 | .dict _=>20000000
noncomputable def rzL:List Nw->Nat
 | []=>0
 | x::xs=>(rz x+2)+rzL xs
end
noncomputable def GV:Nw->Bool
 | .list _=>true
 | .tuple _=>true
 | _=>false
noncomputable def pz:List Nw->Option Nw
 | [d]=>if GV d&&d.canLay0&&d.showable&&decide (d.depth<=50)&&decide (d.shown.length<=sizeLine) then some (.str d.shown) else none
 | _=>none
noncomputable def oW (K:Fg):List V->Hp->VK->Prop:=λY H Q=>∃(p:Addr) (d:Nw),Y=[.ref p]/\Rep K H (.ref p) d/\d.canLay0=true/\d.showable=true/\d.depth<=50/\d.shown.length<=sizeLine/\Q (.str d.shown) H
theorem wt {K:Fg}:GCall K (oW K) pz:=by
 intro L H Q N d r e k;unfold pz at e;split at e
 case h_2=>cases e
 rename_i b
 cases J:(GV b&&b.canLay0&&b.showable&&decide (b.depth<=50)&&decide (b.shown.length<=sizeLine)) with
 | false=>rw [J] at e;cases e
 | true=>
  rw [J] at e
  cases e;simp only [Bool.and_eq_true,decide_eq_true_eq] at J
  obtain ⟨⟨⟨⟨z,c⟩,j⟩,l⟩,a⟩:=J;obtain ⟨v,rfl,f⟩:=r.one;obtain ⟨p,rfl⟩:∃p,v=.ref p:=by
   cases f with
   | lst=>exact ⟨_,rfl⟩
   | tup=>exact ⟨_,rfl⟩
   | _=>cases z
  exact ⟨p,b,rfl,f,c,j,l,a,k _ (.str _)⟩
mutual
noncomputable def MR:Nw->Nat
 | .none=>4
 | .bool _=>5
 | .int _=>1921
 | .str x=>(PyData.str x).shown.length
 | .dict k=>(PyData.dict k).shown.length
 | .list Y=>2+rzSL Y
 | .tuple Y=>3+rzSL Y
noncomputable def rzSL:List Nw->Nat
 | []=>0
 | x::xs=>(MR x+2)+rzSL xs
end
mutual
noncomputable def Kv:Nw->Bool
 | .none=>true
 | .bool _=>true
 | .int _=>true
 | .str x=>PyData.strOk (PyData.str x).shown
 | .dict _=>false
 | .list Y=>txOkL Y
 | .tuple Y=>txOkL Y
noncomputable def txOkL:List Nw->Bool
 | []=>true
 | x::xs=>Kv x&&txOkL xs
end
noncomputable def Br:Sh->Sh->Bool
 | .leaf,.leaf=>true
 | .lst s,.lst t=>yW (.lst s)&&yW (.lst t)
 | .tup ss,.tup ts=>ss.all yW&&ts.all yW&&decide (ss.length=ts.length)
 | _,_=>false
noncomputable def Ll:List Sh->List PV->Bool
 | [],[]=>true
 | s::ss,p::ps=>Br p.s s&&Ll ss ps
 | _,_=>false
noncomputable abbrev fE (x:Str) (s:Stmt) (J:List Str) (z:List Value):Prop:=∀(kV i r:Value) (an:Option Addr) (cdv ct:Value),bindArgs (PySem.W.fnOf x x (eV s) (bC s) (aD s) .none kV i r an cdv ct) ⟨z,[]⟩=pure (J.zip z)
noncomputable abbrev dz (x:Str) (s:Stmt) (J:List Str):Prop:=∀z:List Value,z.length=J.length->fE x s J z
section
variable {x:Str} {s:Stmt} {p1 p2 p3 p4 p5 p6:Str}
theorem rR (h:∀a,fE x s [p1] [a]:=by exact λ_ _ _ _ _ _ _=>rfl):dz x s [p1]:=λz N=>match z,N with | [_],_=>h _
theorem AE (h:∀a b,fE x s [p1,p2] [a,b]:=by exact λ_ _ _ _ _ _ _ _=>rfl):dz x s [p1,p2]:=λz N=>match z,N with | [_,_],_=>h _ _
theorem xp (h:∀a b c,fE x s [p1,p2,p3] [a,b,c]:=by exact λ_ _ _ _ _ _ _ _ _=>rfl):dz x s [p1,p2,p3]:=λz N=>match z,N with | [_,_,_],_=>h _ _ _
theorem LN (h:∀a b c d,fE x s [p1,p2,p3,p4] [a,b,c,d]:=by exact λ_ _ _ _ _ _ _ _ _ _=>rfl):dz x s [p1,p2,p3,p4]:=λz N=>match z,N with | [_,_,_,_],_=>h _ _ _ _
theorem Na (h:∀a b c d e,fE x s [p1,p2,p3,p4,p5] [a,b,c,d,e]:=by exact λ_ _ _ _ _ _ _ _ _ _ _=>rfl):dz x s [p1,p2,p3,p4,p5]:=λz N=>match z,N with | [_,_,_,_,_],_=>h _ _ _ _ _
theorem M9 (h:∀a b c d e f,fE x s [p1,p2,p3,p4,p5,p6] [a,b,c,d,e,f]:=by exact λ_ _ _ _ _ _ _ _ _ _ _ _=>rfl):dz x s [p1,p2,p3,p4,p5,p6]:=λz N=>match z,N with | [_,_,_,_,_,_],_=>h _ _ _ _ _ _
end
noncomputable def Ft (K:Fg) (I:Str->Option Value) (n:Str) (s:Stmt):Prop:=∃f o,I n=some (.ref f)/\Fun K n n s f o
theorem ft {K:Fg} {h:Heap} {I:Str->Option Value} {n:Str} {s:Stmt} {f:Addr} {U an:Option Addr} {R:Array (Option Value)} {C kV b r M ct:Value} (X:K.In h) (G:h.Ns mainGlobals I) (a:PySem.W.nsIn K mainGlobals n=some (some (.ref f))) (l:K.lookup f=some ⟨C,U,.func (PySem.W.fnOf n n (eV s) (bC s) (aD s) .none kV b r an M ct),R⟩) (c:PySem.W.codeIn K M n=true) (k:PySem.W.keepIn K (.ref f)=true):Ft K I n s:=⟨f,_,PySem.W.mg_of X G a,C8 (st:=s) l c k⟩
theorem xt {K:Fg} {x:Str} {st:Stmt} {f:Addr} {o:FuncData} {J:List Str} (F:Fun K x x st f o) (b:dz x st J):Binds K o J []:=F.binds λkV i r an a ct z N=>b z N kV i r an a ct
noncomputable def Cz (L u:List Nat):List Nat:=L.filter λi=>!u.contains i
noncomputable def fB (N gl J:List Str) (L u t:List Nat) (s:Stmt):Bool:=kF N gl L u L (Cz L u) t (aD s)&&ux N gl&&(!(aD s).isCoroutine&&!(aD s).isGenerator&&decide (N.take J.length=J)&&(J.all λx=>eD (aD s) [.local,.cell] (some x))&&((aD s).names.all λy=>!decide (y.2=.free)))
theorem Hd {N gl J:List Str} {L u t:List Nat} {s:Stmt} (h:fB N gl J L u t s=true):kF N gl L u L (Cz L u) t (aD s)=true/\ux N gl=true/\bZ N J (aD s):=by
 unfold fB at h;simp only [Bool.and_eq_true,decide_eq_true_eq,all_eq_true,Bool.not_eq_true',decide_eq_false_iff_not] at h
 obtain ⟨⟨R,C⟩,⟨⟨⟨n,f⟩,F⟩,I⟩,a⟩:=h;refine ⟨R,C,(Jp R).kind,n,f,(vM C).1,F,λx G=>?_,a⟩
 obtain ⟨k,O,q⟩:=Eb (I x G);simp only [mem_cons,not_mem_nil,or_false] at O
 rcases O with rfl | rfl
 ·exact .inl q
 ·exact .inr q
structure In (p:Fg->(Str->Option Value)->Prop) (X:Cx) (P:Program) (w:World) (K:Fg) (mg:Str->Option Value) (base:Heap) (k:Nat):Prop where
 e1:X.prog=P
 e2:X.w=w
 e3:X.K=K
 e4:X.mg=mg
 e5:X.base=base
 rm:Room k X.A
 pp:p K mg
section
variable {p:Fg->(Str->Option Value)->Prop} {X Y:Cx} {P:Program} {w:World} {K:Fg} {mg:Str->Option Value} {base:Heap} {j k n:Nat} {x:Str} {s:Stmt} {ps:List Str} {g:FS} {den:List Nw->bA} {ss:List Sh}
theorem In.r (I:In p X P w K mg base k):Rm X:=I.rm.units
theorem In.e (I:In p X P w K mg base k):p X.K X.mg:=by rw [I.e3,I.e4];exact I.pp
theorem In.c (I:In p X P w K mg base k) (h:DefOk P w K mg base j x n den) (A:decide (j<=k)=true:=by first | exact rfl | exact decide_eq_true (by omega)):oE X x n den:=by
 obtain ⟨rfl,rfl,rfl,rfl,rfl,r,_⟩:=I;exact h.cal r A
theorem Fx.i (F:Fx X Y) (I:In p X P w K mg base k):In p Y P w K mg base k:=⟨F.prog.trans I.e1,F.w.trans I.e2,F.K.trans I.e3,F.mg.trans I.e4,F.base.trans I.e5,by rw [F.A];exact I.rm,I.pp⟩
noncomputable abbrev Bd (p:Fg->(Str->Option Value)->Prop) (P:Program) (w:World) (K:Fg) (I:Str->Option Value) (m:Heap) (k:Nat) (N gl:List Str) (L u t:List Nat) (s:Stmt) (g:FS):Prop:=∀X:Cx,Cp X N gl L u L (Cz L u) t->In p X P w K I m k->PassesOwn (model X.prog X.w) X.A X.env X.xe->TQ.Q (PSs X (bC s) (tS X.K W0 g))
theorem Je (F:Ft K mg x s) (b:dz x s ps):DefOk P w K mg base j x ps.length (λ_=>.no):=by
 obtain ⟨f,o,G,F⟩:=F;exact ⟨f,o,ps,G8,G,F.kp,xt F b⟩
theorem My {f:Addr} {o:FuncData} (F:Fun K x x s f o) (e:p K mg) (N gl:List Str) (L u t:List Nat) (h:fB N gl ps L u t s=true) (Z:Bd p P w K mg base k N gl L u t s g):cC P w K mg base g5 (k+1) f o ps (qu K ps.length (aB N.length g)):=by
 obtain ⟨R,C,b⟩:=Hd h;exact C9 F b λa A B s H E M=>(Z _ (Cp.fn R C) ⟨rfl,rfl,rfl,rfl,rfl,M,e⟩ PassesOwn.never).p
theorem mk (F:Ft K mg x s) (e:p K mg) (J:List Str) (b:dz x s J) (y gl:List Str) (L u t:List Nat) (Z:Bd p P w K mg base k (J++y) gl L u t s g) (h:fB (J++y) gl J L u t s=true:=by kernel_rfl):DefOk P w K mg base (k+1) x J.length (aB (J++y).length g):=by
 obtain ⟨f,o,G,F⟩:=F;exact ⟨f,o,J,My F e _ gl L u t h Z,G,F.kp,xt F b⟩
theorem MW {z:Addr} (F:Ft K mg x s) (e:p K mg) (q:Str) (b:dz x s [q]) (c:mg x=some (.ref z)) (y gl:List Str) (L u t:List Nat) (Z:∀base,Bd p P w K mg base k ([q]++y) gl L u t s g) (h:fB ([q]++y) gl [q] L u t s=true:=by kernel_rfl) :
  ∃o:FuncData,(∀(s:Shared) (v:Value),BindsTo s o ⟨[v],[]⟩ [(q,v)])/\∀base:Heap,K.In base->base.Ns mainGlobals mg->cC P w K mg base g5 (k+1) z o [q] (qu K 1 (aB ([q]++y).length g)):=by
 obtain ⟨f,o,G,F⟩:=F;have J:=c.symm.trans G
 cases J
 refine ⟨o,λs v=>?_,λbase _ _=>My F e _ gl L u t h (Z base)⟩
 obtain ⟨C,U,kV,i,r,an,a,ct,d,rfl,m,l⟩:=F.ex;exact .of_eq (b [v] rfl kV i r an a ct)
section
variable {h:Heap} {a:Addr} {dd:Option Addr} {its:Array Value} {n:Nat} {sl:Array (Option Value)} {ds:List Nw} (KX:K.In h) (G:h.Ns mainGlobals mg)
include KX G
theorem gn (z:PySem.W.nsIn K mainGlobals x=some none):mg x=none:=PySem.W.mg_none_of KX G z
theorem gi {i:Int} {t:Tok} (z:PySem.W.nsIn K mainGlobals x=some (some (.int i t))):jT K mg x (.int i):=zv (PySem.W.mg_of KX G z)
theorem gt (z:PySem.W.nsIn K mainGlobals x=some (some (.ref a))) (l:K.lookup a=some ⟨.type "tuple",dd,.seq its n,sl⟩) (c:Dv its ds=true):jT K mg x (.tuple ds):=zu (PySem.W.mg_of KX G z) l c
end
theorem walkG {m:List Nw->bA} {l:PySem.W.OpenLaw} {q:Program} {b:List Str} {H:(Str->Option Value)->Heap->Prop} {B:World->Heap->Prop} {d:DefRec} {K:Params->Fg} (lt:∀U:List Int,U.length<=63->m [.list (U.map .int)]=.ok ⟨.leaf,.bool true⟩) (M:Room j callerA) (y:l.most=some 63) (R:d.params.defaults=[])
  (c:∀(w:World) (h:Heap),B w h->(K w.params).In h)
  (F:∀(w:World) (mg:Str->Option Value) (fa:Addr) (h:Heap),(K w.params).In h->h.Ns mainGlobals mg->mg d.name=some (.ref fa) ->
   ∃o:FuncData,(∀(s:Shared) (u:Value),BindsTo s o ⟨[u],[]⟩ [("script",u)])/\∀base:Heap,(K w.params).In base->base.Ns mainGlobals mg->cC l.prog w (K w.params) mg base g5 j fa o ["script"] (qu (K w.params) 1 m)) :
  PySem.W.WalkO q b H B l.row.toRowW d [] (λf L=>PySem.call f L):=
 L2.walk_of (n:=63) (k:=j) (x := "script") (CX:=λ_=>g5) (sp:=λw=>qu (K w.params) 1 m) y (by decide) R M c F (λ_ _ a U N _ e=>CD (lt U N) e) λ_ _ _ _ _ z=>z
end
end T
namespace TQ
open PySem PySem.Spec L2 T
open PyProof.Rows hiding St
section
variable {X:Cx} {N gl:List Str} {vs cs ls lo gs:List Nat} {W:XW} {a b c e:Expr} {es:List Expr} {pos p:Pos} {fa fb fc:F1} {fl:FL} {ga gb:FB} {g1 g2 g:FS}
theorem av (S:Cp X N gl vs cs ls lo gs) (i:Nat) {x:Str} (O:N[i]?=some x:=by exact rfl) (P:vs.contains i=true:=by exact rfl):Q (PE X (.Name x pos) (tE X.K W (ae i))):=w_cv S i O P
theorem bK (U:Q (PE X e (tE X.K W fa))) (M:Q (PA X es (tA X.K W fl))) (Y:eF e=false:=by exact rfl):Q (PA X (e::es) (tA X.K W (ab fa fl))):=w_da_cons U M (aZ Y)
theorem bg (U:Q (PE X e (tE X.K W fa))) (Y:eF e=false:=by exact rfl):Q (PA X [e] (tA X.K W (ab fa af))):=w_da_cons U w_da_nil (aZ Y)
theorem bQ (U:Q (PE X a (tE X.K W fa))) (Z:Q (PE X b (tE X.K W fb))) (Y:md b:=by exact λ_ _=>rfl):Q (PE X (.Subscript a b pos) (tE X.K W (ah fa fb))):=w_de_idx U Z Y
theorem dM {x:Str} {n:Nat} {u:List Nw->bA} (S:Cp X N gl vs cs ls lo gs) (j:Nat) (C:oE X x n u) (U:Q (PA X (e::es) (tA X.K W fl))) (A:gl[j]?=some x:=by exact rfl) (E:gs.contains j=true:=by exact rfl) (R:eF e=false:=by exact rfl) (Y:(backTo pos (starEach es X.env)).any (·.1)=false:=by exact rfl):Q (PE X (.Call (.Name x p) (e::es) [] pos) (tE X.K W (ag n u fl))):=w_cc S j A E C U (aZ R) Y
theorem d3 (S:Cp X N gl vs cs ls lo gs) (own:Bool) (i:Nat) {x:Str} {r:Pos} (U:Q (PE X a (tE X.K W fa))) (l:N[i]?=some x:=by exact rfl) (d:ls.contains i=true:=by exact rfl) (Y:swapsWith a (some (.Name x r)) pos.line X.env=pure false:=by exact rfl):Q (PS X (.Assign [.Name x r] a pos) (tS X.K W (ax own i fa))):=mj S own i l d Y U
theorem iw (S:Cp X N gl vs cs ls lo gs) (j:Nat) (G:X.mg "len"=none) (U:Q (PA X (e::es) (tA X.K W fl))) (A:gl[j]?=some ("len":Str):=by exact rfl) (E:gs.contains j=true:=by exact rfl) (R:eF e=false:=by exact rfl) (Y:(backTo pos (starEach es X.env)).any (·.1)=false:=by exact rfl):Q (PE X (.Call (.Name "len" p) (e::es) [] pos) (tE X.K W (bb aQ fl))):=w_cb_len S j A E G U (aZ R) Y
theorem cT {f:CmpOp} {r:R2} {g:Nw->Nw->Option Nw} (k:Ck X f r g) (U:Q (PE X a (tE X.K W fa))) (Z:Q (PE X b (tE X.K W fb))) (G:behindInMarks f b=false:=by with_unfolding_all rfl):Q (PT X (.Compare a [f] [b] pos) (tT X.K W (aM ai (ar g fa fb)))):=w_ct k U Z G
theorem ji {f:CmpOp} {r:R2} {g:Nw->Nw->Option Nw} (k:Ck X f r g) (U:Q (PE X a (tE X.K W fa))) (Z:Q (PE X b (tE X.K W fb))) (G:behindInMarks f b=false:=by with_unfolding_all rfl):Q (PE X (.Compare a [f] [b] pos) (tE X.K W (ar g fa fb))):=Kq k U Z G
theorem dA (U:Q (PE X a (tE X.K W fa))):Q (PSs X [.Return (some a) pos] (tS X.K W (aE fa))):=w_ds_one (uC U)
theorem jh {d:Scope} {x:Str} {I:Pos} {z l:Expr} {u:List Expr} {A:FI} {v:F1} {E:FB} (k m j:List Nat) (S:Cp X N gl vs cs ls lo gs) (i:Nat) (q:Q (PI X (.Name x I) z (tI X.K W A))) (J:AN X N gl k m [i] [] j λY=>Q (PF Y u (tT Y.K W0 E))) (f:AN X N gl k m [i] [] j λY=>Q (PE Y l (tE Y.K W0 v))) (G:N[i]?=some x:=by exact rfl) (R:kH N i cs d=true:=by kernel_rfl) (C:kF N gl k m [i] [] j d=true:=by kernel_rfl) (h:∀x,foldedSetIterable z X.env x=pure x:=by exact λ_=>rfl):Q (PE X (.ListComp l [⟨.Name x I,z,u,0⟩] d pos) (tE X.K W (aq .leaf i A E v))):=w_co S .leaf i G R C q J f h
end
end TQ
namespace T
open PySem PySem.Spec L2
open PyProof.Rows hiding St
noncomputable abbrev bk (d c:Str):F1:=eK (.bool (d==c))
noncomputable def stB (x y:Str) (i:Int):Bool:=decide (fromIndex x.length i+y.length<=x.length)&&Builtin.Str.subAt x y (fromIndex x.length i)
section
variable {X:Cx} {N gl:List Str} {vs cs ls lo gs:List Nat} {W:XW}
theorem vL (S:Cp X N gl vs cs ls lo gs) (i:Nat) {x:Str} {p:Pos} (l:N[i]?=some x) (P:vs.contains i=true):PE X (.Name x p) (aG i):=by
 have m:=S.nm x (mem_of_getElem? l)
 exact Ew (by rw [S.hN];exact l) (S.vis i x l P) m.1 m.2
end
section
variable {K:Fg} {H:Hp} {O:List Addr} {σ:St} {Γ Γ1:Ev} {W:XW} {f:F1} {fb:FB} {Q:VK} {QB:Bool->Hp->Prop}
theorem JR:∀n:Nat,(List.replicate n ([]:List Addr)).flatten=[]
 | 0=>rfl
 | n+1=>by rw [List.replicate_succ,flatten_cons,JR n];rfl
theorem zk (J:O.Nodup) (g:∀a∈O,H a≠none) (N:σ.length=Γ.length) (Y:∀(i:Nat) p,Γ[i]?=some (some p)->p.s=.leaf/\∃v,σ[i]?=some (some v)/\Rep K (aS H O) v p.d):EnvOk K H O (List.replicate Γ.length []) H σ Γ:=by
 have e:=JR Γ.length
 refine ⟨N,List.length_replicate,Same.refl H,by rw [e,append_nil];exact J,by rw [e,append_nil];exact g,by rw [e];exact λ_ z=>(nomatch z),λi p h=>?_⟩
 obtain ⟨R,v,C,n⟩:=Y i p h;have l:i<Γ.length:=(Nq h).1
 refine ⟨by rw [R];rfl,v,[],C,by rw [getElem?_replicate,if_pos l],?_⟩
 rw [R,e,append_nil];exact .leaf n
theorem Da {b:Bool} (E:EnvOk K H O (List.replicate Γ.length []) H σ Γ) (m:fb Γ=.ok b Γ1) (q:∀F,Same H F->QB b F):tT K W fb σ H QB:=by
 refine ⟨_,_,_,_,E,?_⟩
 rw [m];exact λF y s _ _=>q F s
theorem uJ {K:Fg} {H:Hp} {L:List V} {Y:List Int} (N:L.length=(Y.map PySem.PyData.int).length) (M:∀(i:Nat) v d,L[i]?=some v->(Y.map PySem.PyData.int)[i]?=some d->Rep K H v d):L=Y.map V.int:=by
 rw [length_map] at N;apply ext_getElem?
 intro i;by_cases l:i<L.length
 ·have a:i<Y.length:=by omega
  have q:=M i L[i] (.int Y[i]) (Nl l) (by rw [getElem?_map,Nl a];rfl)
  rw [Nl l,getElem?_map,Nl a];generalize L[i]=u at q
  cases q;rfl
 ·rw [getElem?_eq_none (by omega),getElem?_eq_none (by rw [length_map];omega)]
theorem M4 {Y:List Int} (E:EnvOk K H O (List.replicate Γ.length []) H σ Γ) (m:f Γ=.ok ⟨.leaf,.list (Y.map .int)⟩ Γ1) (q:∀p F,Same H F->SqL K F p (Y.map V.int)->Q (.ref p) F):tE K W f σ H Q:=by
 refine ⟨_,_,_,_,E,?_⟩
 rw [m];intro v F G y A
 cases A.own with
 | leaf r=>
  cases r with
  | @lst p vs _ hq hl hr=>
   rw [uJ hl hr] at hq;exact q p F A.same (hid_le.seq hq)
end
theorem Im {H:Hp} {O e:List Addr} (s:∀a∈O,a∈e):Same (aS H e) (aS H O):=λb o Z=>by
 unfold aS at Z ⊢
 split at Z
 ·cases Z
 ·rename_i n
  rw [if_neg λz=>n (s b z)]
  exact Z
theorem qM {K:Fg} {O e:List Addr} {H:Hp} {s:Sh} {F:List Addr} {v:V} {d:D} (o:Own K e H s F v d):s.isView=false->(∀a∈F,a∉O)->(∀a∈O,a∈e)->Rep K (aS H O) v d:=by
 induction o with
 | view _=>intro h;cases h
 | leaf r=>intro _ _ h;exact r.mono (Im h)
 | @lst s p vs ds Fs hv hp hl _ _ hi ih=>
  intro _ m B;refine .lst (.inl (.inl (qb hp (m p mem_cons_self)))) hl λi v d R C=>?_
  have c:i<Fs.length:=by have:=(Nq C).1;omega
  exact ih i v d Fs[i] R C (Nl c) hv (λa U=>m a (Nn _ (List.mem_flatten.mpr ⟨_,getElem_mem c,U⟩))) B
 | @tup ss p vs ds Fs hv hp np hl hl2 hl3 _ hi ih=>
  intro _ m B;refine .tup (.inl (.inl (qb hp λz=>np (B p z)))) hl λi v d R C=>?_
  have b:=(Nq C).1
  have c:i<Fs.length:=by omega
  have y:i<ss.length:=by omega
  exact ih i v d Fs[i] ss[i] R C (Nl c) (Nl y) (hv _ (getElem_mem y)) (λa U=>m a (List.mem_flatten.mpr ⟨_,getElem_mem c,U⟩)) B
theorem uy {K:Fg} {H:Hp} {O:List Addr} {M:St} {B X:Ev} {W:XW} {f:F1} {Q:VK} {p:PV} (g:∀a∈O,H a≠none) (E:EnvOk K H O (List.replicate B.length []) H M B) (m:f B=.ok p X) (P:p.s.isView=false) (q:∀v F,Same H F->Rep K (aS F O) v p.d->Q v F):tE K W f M H Q:=by
 refine ⟨_,_,_,_,E,?_⟩
 rw [m];intro v F G b A
 refine q v F A.same (qM A.own P (λa U z=>?_) λa U=>Ni _ (Nh _ U))
 rcases A.new a (Ni _ U) with y | y
 ·rw [JR] at y;cases y
 ·exact g a z y
section
variable {prog:Program} {w:World} {A:Around} {E:Value->Shared->Prop} {s:Shared}
noncomputable def EAt (h:Heap) (d:Addr) (bs:List Addr) (N:Nat):Prop:=∃o j,h.get? d=some o/\o.ExactDict/\o.data=.dict j N/\j.toList.map (·.key)=bs.map Value.ref
theorem EAt.ty {d:Addr} {bs:List Addr} {N:Nat} (x:EAt s.heap d bs N):s.TypeIs (.ref d) "dict":=let ⟨o,_,K,J,_⟩:=x;⟨o,K,J.1⟩
theorem EAt.lt {h:Heap} {d:Addr} {bs:List Addr} {N:Nat} (x:EAt h d bs N):d<h.objs.size:=let ⟨_,_,K,_⟩:=x;Heap.lt_size K
theorem EAt.size {j:Array DictEntry} {bs:List Addr} (h:j.toList.map (·.key)=bs.map Value.ref):j.size=bs.length:=by
 have:=congrArg List.length h
 simpa using this
theorem GU {d:Addr} {bs:List Addr} {N:Nat} {Q:Value->Shared->Prop} (F:(d==sysModules)=false) (G:EAt s.heap d bs N)
  (k:Q (.ref s.heap.objs.size) { s with heap:=s.heap.push { cls:=.type "dict_keyiterator",data:=.fields #[.ref d,.int 0 0,.int bs.length 0,.int N 0] } }):wpAny (model prog w) A (pyIter (.ref d)) Q E s:=by
 have C:=G.ty
 obtain ⟨o,j,K,J,a,O⟩:=G;have x:=EAt.size O
 refine wpAny_pyIter_slot C PySem.F.slot_dict_iter (wpAny_call_entry PySem.F.slot_dict_iter C PySem.F.entry_dict_iter ?_ (PySem.F.args_dict_iter_1 _))
 unfold Builtin.«dict.__iter__» Builtin.Dict.dictSlotNone
 refine Nr (Nr (wpAny_notOrdered_dict C ?_))
 show wpAny _ _ (pure (Value.ref d)) _ _ s
 refine Nt ?_
 show wpAny _ _ (Builtin.Dict.showsAll d >>= _) _ _ s
 unfold Builtin.Dict.showsAll;rw [if_neg (by rw [F];exact Bool.false_ne_true)]
 refine Nr (Nt (Nr (wpAny_dictEntries K a (Nr (wpAny_dictEpoch K a ?_)))))
 refine Nr (wpAny_newObj_type (Nt ⟨_,rfl, "dict_keyiterator",_,⟨_,Heap.get?_push_size _ rfl,rfl⟩,PySem.F.slot_dict_keyiterator_next.lookup,?_⟩))
 simpa [rawInt,x] using k
theorem GH {L d:Addr} {i N:Nat} {bs:List Addr} {b:Addr} {Q:Option Value->Shared->Prop} (r:s.heap.IsKeyIter L d i bs.length N) (h:EAt s.heap d bs N) (G:bs[i]?=some b)
  (k:∀U,U.IsKeyIter L d (i+1) bs.length N->Heap.SameBut L s.heap U->Q (some (.ref b)) { s with heap:=U }):wpAny (model prog w) A (pyNext (.ref L)) Q E s:=by
 have ty:=r.typeIs
 obtain ⟨o,K,J,F⟩:=r;obtain ⟨l,j,e,g,c,O⟩:=h;have x:=EAt.size O
 unfold pyNext;refine Nr (wpAny_attempt (wpAny_callSpecial?_slot (name:=Str.ofString "__next__") ty PySem.F.slot_dict_keyiterator_next
  (wpAny_call_entry PySem.F.slot_dict_keyiterator_next ty PySem.F.entry_dict_keyiterator_next ?_ (PySem.F.args_dict_keyiterator_next_1 _))))
 refine Nr (Nt (Nr (Nr ?_)))
 first | refine Nr (wpAny_typeNameOfWhole_keyiter ty (Nt ?_)) | refine Nr (wpAny_typeNameOf_keyiter ty (Nt ?_))
 refine Nr (wpAny_fieldsOf K F ?_)
 simp only [show Builtin.Dict_items.ownsTuple "dict_keyiterator"=false by decide,Bool.false_eq_true,if_false]
 show wpAny _ _ (if (Value.ref d==Value.none)=true then _ else _) _ _ s
 rw [if_neg (show ¬((Value.ref d==Value.none)=true) from Bool.false_ne_true)];refine Nr (Nt (Nr (wpAny_dictEntries e c ?_)))
 rw [if_neg (by rw [x];simp)]
 refine Nr (Nt (Nr (wpAny_dictEpoch e c ?_)))
 rw [if_neg (by simp)]
 refine Nt ?_
 have X:i<j.size:=by rw [x];exact (Nq G).1
 have f:j[i].key=.ref b:=by
  have q:(j.toList.map (·.key))[i]?=some (Value.ref b):=by rw [O,getElem?_map,G];rfl
  rw [getElem?_map,Array.getElem?_toList,Array.getElem?_eq_getElem X] at q;exact Option.some.inj q
 simp only [show ¬((i:Int)<0) from by omega,if_false,Int.toNat_natCast,Array.getElem?_eq_getElem X]
 refine Nr ?_
 first | refine Nr (wpAny_typeNameOfWhole_keyiter ty (Nt ?_)) | refine Nr (wpAny_typeNameOf_keyiter ty (Nt ?_))
 refine Nr (wpAny_isOneOf_keyiter ty ?_)
 show wpAny _ _ (setField (.ref L) 1 (rawInt ((i:Int)+1)) >>= _) _ _ s
 refine Nr (wpAny_setField K F (by simp) ?_)
 have a:(s.heap.update L (Obj.mapFields (·.setIfInBounds 1 (rawInt ((i:Int)+1))))).IsKeyIter L d (i+1) bs.length N:=
  ⟨_,Heap.get?_update_self _ K (Obj.isFreed_of_fields (Obj.data_mapFields F _)),(Obj.cls_mapFields ..).trans J,by rw [Obj.data_mapFields F];simp [rawInt]⟩
 refine Nr (wpAny_holding (Nr (wpAny_isOneOf_keyiter (s:={ s with heap:=s.heap.update L (Obj.mapFields (·.setIfInBounds 1 (rawInt ((i:Int)+1)))) }) a.typeIs ?_)))
 show wpAny _ _ (pure j[i].key) _ _ _
 rw [f];exact Nt (Nt ⟨_,rfl,Nt (k _ a (Heap.SameBut.update ..))⟩)
theorem LI {L d:Addr} {i N:Nat} {bs:List Addr} {Q:Option Value->Shared->Prop} (H:A.handled=none) (r:s.heap.IsKeyIter L d i bs.length N) (f:EAt s.heap d bs N) (G:bs.length<=i)
  (k:∀U,Heap.ExtBut L s.heap U->Q none { s with heap:=U }):wpAny (model prog w) A (pyNext (.ref L)) Q E s:=by
 have ty:=r.typeIs
 obtain ⟨o,K,J,F⟩:=r;obtain ⟨h,j,e,g,c,O⟩:=f;have x:=EAt.size O
 unfold pyNext;refine Nr (wpAny_attempt (wpAny_callSpecial?_slot (name:=Str.ofString "__next__") ty PySem.F.slot_dict_keyiterator_next
  (wpAny_call_entry PySem.F.slot_dict_keyiterator_next ty PySem.F.entry_dict_keyiterator_next ?_ (PySem.F.args_dict_keyiterator_next_1 _))))
 refine Nr (Nt (Nr (Nr ?_)))
 first | refine Nr (wpAny_typeNameOfWhole_keyiter ty (Nt ?_)) | refine Nr (wpAny_typeNameOf_keyiter ty (Nt ?_))
 refine Nr (wpAny_fieldsOf K F ?_)
 simp only [show Builtin.Dict_items.ownsTuple "dict_keyiterator"=false by decide,Bool.false_eq_true,if_false]
 show wpAny _ _ (if (Value.ref d==Value.none)=true then _ else _) _ _ s
 rw [if_neg (show ¬((Value.ref d==Value.none)=true) from Bool.false_ne_true)];refine Nr (Nt (Nr (wpAny_dictEntries e c ?_)))
 rw [if_neg (by rw [x];simp)]
 refine Nr (Nt (Nr (wpAny_dictEpoch e c ?_)))
 rw [if_neg (by simp)]
 refine Nt ?_
 simp only [show ¬((i:Int)<0) from by omega,if_false,Int.toNat_natCast,Array.getElem?_eq_none (show j.size<=i by rw [x];exact G)]
 refine Nr ?_
 first | refine Nr (wpAny_typeNameOfWhole_keyiter ty (Nt ?_)) | refine Nr (wpAny_typeNameOf_keyiter ty (Nt ?_))
 show wpAny _ _ (setField (.ref L) 0 .none >>= _) _ _ s
 refine Nr (wpAny_setField K F (by simp) ?_)
 show wpAny _ _ (newExc (.type "StopIteration") [] >>= _) _ _ _
 refine Nr ?_
 simp only [newExc,newTuple]
 refine Nr (wpAny_newObj_type ?_ (by size_fits))
 refine Nr (m:=firstArgMember _ _) (wpAny_of_eq (a:=Value.none) (by first | rfl | (simp only [firstArgMember];rfl)) ?_)
 refine wpAny_newObj_type ?_ (by size_fits)
 simp only [raiseNew]
 refine Nr (wpAny_handled ?_)
 rw [show A.in1.handled=none from H];refine Nr (Nt (wpAny_throw ?_))
 refine Nr (wpAny_isInstance (T := "StopIteration") (b:=true) ⟨_,Heap.get?_push_size _ rfl,rfl⟩ isSubtype_stop ?_)
 exact Nt (k _ (((Heap.SameBut.update ..).extBut.push _).push _))
end
theorem GP {K:Fg} {H:Hp} {F:List Bool} {E:List (List It×V)} {Y:List (List It×Addr×Value)} (r:KX K H F E Y):Paired (λ(p:List It×V) b=>K2 K H p.1 b) E (Y.map (·.2.1)):=by
 induction r with
 | nil=>exact .nil
 | cons q _ f=>exact .cons q.2.2.1 f
noncomputable def ky (i j:Nat):List It:=[.inl (.inl (i:Int)),.inl (.inl (j:Int))]
theorem Ib {i j a b:Nat} (h:ky i j=ky a b):i=a/\j=b:=by
 simp only [ky,List.cons.injEq,Sum.inl.injEq,and_true] at h
 omega
noncomputable def ph (J:List (Nat×Nat)) (g:Nat->Nat->Bool):List (List It×V):=J.map λp=>(ky p.1 p.2,.bl (g p.1 p.2))
theorem vZ {g:Nat->Nat->Bool} {i j:Nat}:∀{J:List (Nat×Nat)},(i,j)∈J->dj (ph J g) (ky i j)=some (.bl (g i j))
 | (a,b)::J,h=>by
  by_cases e:ky a b=ky i j
  ·obtain ⟨rfl,rfl⟩:=Ib e
   exact Kh rfl
  ·refine (EM (p:=(ky a b,V.bl (g a b))) (r:=ph J g) e).trans (vZ ((Nk h).resolve_left λz=>e ?_))
   cases z;rfl
theorem JB {g:Nat->Nat->Bool} {i j:Nat}:∀{J:List (Nat×Nat)},(i,j)∉J->dj (ph J g) (ky i j)=none
 | [],_=>rfl
 | (a,b)::J,h=>by
  have e:¬ky a b=ky i j:=λe=>h (by obtain ⟨rfl,rfl⟩:=Ib e;exact mem_cons_self)
  exact (EM (p:=(ky a b,V.bl (g a b))) (r:=ph J g) e).trans (JB λz=>h (Nn _ z))
theorem Er {K:Fg} {H:Hp} {b:Addr} {i j:Nat}:K2 K (aR H b (.tup [.int (i:Int),.int (j:Int)])) (ky i j) b:=⟨_,.inl (.inl cL),.cons rfl (.cons rfl .nil)⟩
theorem GS {K:Fg} {H:Hp} {b:Addr} {i j:Nat} (h:K2 K H (ky i j) b):SqT K H b [.int (i:Int),.int (j:Int)]:=by
 obtain ⟨L,h,p⟩:=h
 cases p with
 | cons e p=>
  cases p with
  | cons m p=>
   cases p
   cases e
   cases m;exact h
noncomputable def C5:List Nw->Option Nw
 | [.int i]=>if i.natAbs.log2<1920 then some (.str (toString i)) else none
 | _=>none
theorem uf {X:Cx}:CallR X (.type "str") (λY H Q=>∃i:Int,Y=[.int i]/\i.natAbs.log2<1920/\Q (.str (toString i)) H):=by
 intro B s M H Y z Q I r h;obtain ⟨i,rfl,l,q⟩:=h;obtain ⟨u,rfl,t,rfl⟩:=vals1 r;exact PySem.P.str_of_int l ⟨.str _,H,I.tok _,⟨_,rfl⟩,q⟩
theorem C1 {K:Fg}:GCall K (λY H Q=>∃i:Int,Y=[.int i]/\i.natAbs.log2<1920/\Q (.str (toString i)) H) C5:=by
 intro L H Q N d y e k;unfold C5 at e;split at e
 ·rename_i i
  obtain ⟨v,rfl,r⟩:=y.one;split at e
  ·rename_i l
   cases e;cases r;exact ⟨i,rfl,l,k _ (.str _)⟩
  ·cases e
 ·cases e
noncomputable def rIxT (K:Fg):V->List V->Hp->VK->Prop:=λx Y H Q=>∃(l:Addr) (ns:List Str) (k:Str) (j:Nat),x=.ref l/\Y=[.str k]/\SqL K H l (ns.map V.str)/\ns[j]?=some k/\(∀m,m<j->ns[m]?≠some k)/\Q (.int j) H
noncomputable abbrev dh:List Nw->Option Nw:=λN=>(C5 N).or (pz N)
theorem ug {X:Cx} (b:Rm X) (E:X.A.guards=some []):CallR X (.type "str") (λY H Q=>(∃i:Int,Y=[.int i]/\i.natAbs.log2<1920/\Q (.str (toString i)) H)\/oW X.K Y H Q):=by
 intro B s M H Y z Q I f h;rcases h with h | h
 ·exact uf B s M H Y z Q I f h
 ·obtain ⟨p,d,rfl,r,c,j,l,a,q⟩:=h
  obtain ⟨u,rfl,C⟩:=vals1 f
  cases C;obtain ⟨g,R⟩:=r.reads I (.ref p) rfl;have J:X.A.units+64<cLine:=b
  exact str_of_reads R j (PyData.noDict_hsm (PyData.hasDict_of_canLay d c)) E (by omega) (λ_ _ e=>e) (λU u G O=>⟨.str d.shown,H,I.kept (t':=G) O,⟨u,rfl⟩,q⟩) a
theorem zb {K:Fg}:GCall K (λY H Q=>(∃i:Int,Y=[.int i]/\i.natAbs.log2<1920/\Q (.str (toString i)) H)\/oW K Y H Q) dh:=GCall.or C1 wt
section
variable {X:Cx} {N gl:List Str} {vs cs ls lo gs:List Nat} {W:XW} {e:Expr} {es:List Expr} {pos p:Pos} {fl:FL}
theorem cb_strA (S:Cp X N gl vs cs ls lo gs) (M:Rm X) (f:X.A.guards=some []) (j:Nat) (A:gl[j]?=some ("str":Str)) (E:gs.contains j=true) (G:X.mg "str"=none) (U:PA X (e::es) (tA X.K W fl)) (R:starEach (e::es) X.env=(false,eval e X.env)::starEach es X.env) (Y:(backTo pos (starEach es X.env)).any (·.1)=false) :
  PE X (.Call (.Name "str" p) (e::es) [] pos) (tE X.K W (bb dh fl)):=AC (ug M f) zb HE G U (S.g A E).1 (S.g A E).2.2 (S.g A E).2.1 R Y
end
theorem kd {u d:Type} {F:u->d->Prop}:∀{l:List u} {k:List d},Paired F l k->∀{m:Nat} {a:u} {b:d},l[m]?=some a->k[m]?=some b->F a b
 | _,_,.nil,m,a,b,h,_=>by simp at h
 | _,_,.cons f r,0,a,b,h1,h2=>by
  simp at h1 h2
  rw [<-h1,<-h2];exact f
 | _,_,.cons f r,m+1,a,b,h1,h2=>kd r (by simpa using h1) (by simpa using h2)
theorem JQ:∀{Y:List Nw} {d:Nw},PyData.canLayAll0 Y=true->d∈Y->d.canLay0=true
 | [],_,_,h=>by cases h
 | x::Y,d,h,hm=>by
  simp only [PyData.canLayAll0,Bool.and_eq_true] at h
  rcases Nk hm with rfl | hm
  ·exact h.1
  ·exact JQ h.2 hm
noncomputable def xo (d:Nw):List Nw->Option Nat
 | []=>none
 | n::r=>if PyData.eqv n d then some 0 else (xo d r).map (·+1)
theorem v9 {d:Nw}:∀{U:List Nw} {j:Nat},xo d U=some j->(∃n,U[j]?=some n/\PyData.eqv n d=true)/\∀m n,m<j->U[m]?=some n->PyData.eqv n d=false
 | [],_,h=>by cases h
 | n::r,j,h=>by
  unfold xo at h
  cases e:PyData.eqv n d with
  | true=>
   rw [e,if_pos rfl] at h
   cases h;exact ⟨⟨n,rfl,e⟩,λm _ G=>by omega⟩
  | false=>
   rw [e,if_neg (by decide)] at h
   cases M:xo d r with
   | none=>rw [M] at h;cases h
   | some b=>
    rw [M] at h
    cases h;obtain ⟨⟨f,R,a⟩,C⟩:=v9 M;refine ⟨⟨f,by simpa using R,a⟩,λm z G w=>?_⟩
    cases m with
    | zero=>
     simp at w
     rw [<-w];exact e
    | succ m=>exact C m z (by have:m+1<b+1:=G;omega) (by simpa using w)
noncomputable def BV (K:Fg):V->List V->Hp->VK->Prop:=λx Y H Q=>∃(l:Addr) (vs:List V) (ds:List Nw) (v:V) (d:Nw) (j:Nat),x=.ref l/\Y=[v]/\SqL K H l vs/\Reps K H vs ds/\Rep K H v d/\SeqAt.shaped d=true/\SeqAt.shaped (.list ds)=true/\d.depth<=50/\xo d ds=some j/\Q (.int j) H
open Classical in
theorem tH {X:Cx} (hr:Rm X):LY X "list.index" (BV X.K):=by
 intro B s M H x Y v us Q I P f h;obtain ⟨l,p,N,y,d,j,rfl,rfl,hS,hR,hd,sh1,sh2,dep,A,q⟩:=h
 cases P;obtain ⟨u,rfl,C⟩:=f.one;obtain ⟨g,r,Z,w⟩:=I.list hS;obtain ⟨bs,Rd⟩:=hd.reads I u C;have hl:g.length=N.length:=by rw [<-r.length];exact hR.1
 obtain ⟨⟨n0,hj1,hj2⟩,b⟩:=v9 A;have hjd:j<N.length:=(Nq hj1).1
 have hjl:j<g.toArray.size:=by rw [size_toArray,hl];exact hjd
 obtain ⟨p1,p2⟩:=ET sh2 (.inl rfl);have t:∀m (G:m<g.length),∃E,Reads s.heap g[m] (N[m]'(by omega)) E:=λm G=>by
  have hw:m<p.length:=by rw [r.length];exact G
  have R:=hR.2 m p[m] (N[m]'(by omega)) (Nl hw) (Nl (by omega))
  exact R.reads I g[m] (kd r (Nl hw) (Nl G))
 let e:Value->Bool:=λz=>decide (∃m,∃G:m<g.length,g[m]=z/\PyData.eqv (N[m]'(by omega)) d=true)
 have ev:∀m (G:m<g.length),e g[m]=PyData.eqv (N[m]'(by omega)) d:=λm G=>by
  rw [Bool.eq_iff_iff];simp only [e,decide_eq_true_eq]
  constructor
  ·rintro ⟨k,O,e1,e2⟩
   obtain ⟨a1,i⟩:=t k O;obtain ⟨a2,r2⟩:=t m G;rw [e1] at i;have:=SeqAt.Reads.unique _ _ _ _ _ (JQ p1 (getElem_mem _)) i r2
   rw [<-this];exact e2
  ·intro h
   exact ⟨m,G,rfl,h⟩
 obtain ⟨o,n,K,J,c,hdt⟩:=Z;obtain ⟨ocls,odict,odata,a⟩:=o;simp only at J c hdt
 subst J c hdt;have hsm:(j:Int)<2 ^ 63-1:=by
  have R:sizeLine<2 ^ 62:=by decide
  have:p.length=N.length:=hR.1
  omega
 refine call_meets F.slot_list_index ⟨_,K,rfl⟩ F.entry_list_index (F.args_list_index_2 _ _) (SeqAt.list_indexAt l g.toArray n none a u e j hjl hsm ?_ λm G hmj=>?_) ⟨K,λz w=>?_,⟨.int j,H,I.tok _,⟨_,rfl⟩,q⟩⟩
 ·have:=ev j (by simpa using hjl)
  have e0:n0=N[j]:=by
   have:=Nl hjd
   rw [hj1] at this;exact Option.some.inj this
  rw [<-e0,hj2] at this;simpa using this
 ·have U:m<g.length:=by simpa using G
  have:=ev m U
  rw [b m _ hmj (Nl (by omega))] at this
  simpa using this
 ·obtain ⟨m,G,rfl⟩:=List.mem_iff_getElem.mp (show z∈g by simpa using w)
  rw [ev m G];obtain ⟨E,Rm'⟩:=t m G;have hu:X.A.units+64<cLine:=hr
  have L:(N[m]'(by omega)).canLay0=true:=JQ p1 (getElem_mem _)
  exact SeqAt.eqAt_reads _ _ _ _ _ _ _ _ Rm' Rd L (SeqAt.canLay_of_shaped sh1) (by have:=Nat.min_le_right (N[m]'(by omega)).depth d.depth;show X.A.units+1+_<cLine;omega)
noncomputable def pF (i j:Nat):F1:=λB=>match B[i]?,B[j]? with
 | some (some ⟨.leaf,.list ds⟩),some (some ⟨.leaf,d⟩)=>if SeqAt.shaped d&&SeqAt.shaped (.list ds)&&decide (d.depth<=50) then (match xo d ds with
   | some m=>.ok ⟨.leaf,.int (m:Nat)⟩ B
   | none=>.no) else .no
 | _,_=>.no
section
variable {K:Fg} {W:XW} {σ:St} {H:Hp} {Q:VK}
theorem CC {f:Hp} {O:List Addr} {t:List (List Addr)} {B:Ev} {i:Nat} {d:Nw} (E:EnvOk K f O t H σ B) (h:B[i]?=some (Nx d)):∃v,σ[i]?=some (some v)/\Rep K H v d:=by
 obtain ⟨_,v,F,R,_,o⟩:=E.slot i _ h;exact ⟨v,R,o.rep⟩
theorem BG {i j:Nat} (h:tE K W (pF i j) σ H Q):Fn K "list" (BV K) (aG i) (aL (aG j) b5) σ H Q:=by
 obtain ⟨f,O,t,B,E,h⟩:=h;have h:Wants K W f O t H σ Q (pF i j B):=h
 unfold pF at h;split at h
 ·rename_i N d c e
  split at h
  ·rename_i J
   simp only [Bool.and_eq_true,decide_eq_true_eq] at J
   cases A:xo d N with
   | none=>rw [A] at h;exact h.elim
   | some m=>
    rw [A] at h;obtain ⟨l,L,F,P,o⟩:=yJ E c;obtain ⟨v,g,b⟩:=CC E e;exact ⟨.ref l,F,.inl ⟨rfl,_,P⟩,v,g,l,L,N,v,d,m,rfl,rfl,P,o,b,J.1.1,J.1.2,J.2,A,h _ _ _ _ (yM E (Same.refl _) (λa U=>.inl U) (.int _))⟩
  ·exact h.elim
 ·exact h.elim
end
section
variable {X:Cx} {N gl:List Str} {vs cs ls lo gs:List Nat} {W:XW}
theorem ce_ixD (S:Cp X N gl vs cs ls lo gs) (R:Rm X) (i j:Nat) {x y:Str} {g f h d:Pos} (l:N[i]?=some x) (P:vs.contains i=true) (A:N[j]?=some y) (O:vs.contains j=true)
  (m:attributeBase (.Name x g) "index" X.env (eval (.Name x g) X.env)=eval (.Name x g) X.env:=by rfl) (k:(h.endLine==d.line)=true:=by rfl) :
  PE X (.Call (.Attribute (.Name x g) "index" h) [.Name y f] [] d) (tE X.K W (pF i j)):=
 bh (qK (T := "list") (r:=BV X.K) F.plainAttrs_list F.slot_list_index F.type_list_index (tH R) (vL S i l P) (cI (vL S j A O) gz rfl) m rfl k rfl rfl) λ_ _ _=>BG
end
end T
namespace TQ
open PySem PySem.Spec L2 T
open PyProof.Rows hiding St
variable {X:Cx} {N gl:List Str} {vs cs ls lo gs:List Nat} {W:XW} {a b e:Expr} {es:List Expr} {fa fb:F1} {fl:FL} {pos p:Pos}
theorem jX (S:Cp X N gl vs cs ls lo gs) (M:Rm X) (f:X.A.guards=some []) (j:Nat) (A:gl[j]?=some ("str":Str)) (E:gs.contains j=true) (G:X.mg "str"=none) (U:Q (PA X (e::es) (tA X.K W fl))) (R:starEach (e::es) X.env=(false,eval e X.env)::starEach es X.env) (Y:(backTo pos (starEach es X.env)).any (·.1)=false) :
  Q (PE X (.Call (.Name "str" p) (e::es) [] pos) (tE X.K W (bb dh fl))):=⟨T.cb_strA S M f j A E G U.p R Y⟩
theorem uH (S:Cp X N gl vs cs ls lo gs) (R:Rm X) (i j:Nat) {x y:Str} {g f h d:Pos} (l:N[i]?=some x) (P:vs.contains i=true) (A:N[j]?=some y) (O:vs.contains j=true)
  (m:attributeBase (.Name x g) "index" X.env (eval (.Name x g) X.env)=eval (.Name x g) X.env:=by rfl) (k:(h.endLine==d.line)=true:=by rfl) :
  Q (PE X (.Call (.Attribute (.Name x g) "index" h) [.Name y f] [] d) (tE X.K W (pF i j))):=⟨T.ce_ixD S R i j l P A O m k⟩
end TQ
namespace KC
open PySem PySem.Spec L2 T PySem.SeqAt
open PyProof.Rows hiding St
noncomputable def jr (n i j:Nat):List (Nat×Nat):=((List.range i).flatMap λa=>(List.range n).map λb=>(a,b))++(List.range j).map λb=>(i,b)
noncomputable def B6 (n:Nat):List (Nat×Nat):=jr n n 0
theorem mem_psT {n i j a b:Nat}:(a,b)∈jr n i j↔(a<i/\b<n)\/(a=i/\b<j):=by
 unfold jr;rw [mem_append,List.mem_flatMap,mem_map];constructor
 ·rintro (⟨x,h1,h2⟩ | ⟨x,h1,h2⟩)
  ·obtain ⟨y,c,f⟩:=List.mem_map.mp h2
   cases f;exact .inl ⟨List.mem_range.mp h1,List.mem_range.mp c⟩
  ·cases h2
   exact .inr ⟨rfl,List.mem_range.mp h1⟩
 ·rintro (⟨h1,h2⟩ | ⟨rfl,h2⟩)
  ·exact .inl ⟨a,List.mem_range.mpr h1,List.mem_map.mpr ⟨b,List.mem_range.mpr h2,rfl⟩⟩
  ·exact .inr ⟨b,List.mem_range.mpr h2,rfl⟩
theorem mem_psN {n a b:Nat}:(a,b)∈B6 n↔a<n/\b<n:=by
 unfold B6;rw [mem_psT];constructor
 ·rintro (h | ⟨_,h⟩)
  ·exact h
  ·exact absurd h (Nat.not_lt_zero _)
 ·exact .inl
theorem mY {n i j:Nat}:jr n i (j+1)=jr n i j++[(i,j)]:=by
 unfold jr;rw [range_succ,map_append,append_assoc];rfl
theorem mZ {n i:Nat}:jr n (i+1) 0=jr n i n:=by
 unfold jr;rw [range_succ,List.flatMap_append];simp
theorem qV {n i j:Nat}:(jr n i j).length=i*n+j:=by
 unfold jr;rw [length_append,length_map,length_range];congr 1
 induction i with
 | zero=>simp
 | succ i f=>
  rw [range_succ,List.flatMap_append,length_append,f];simp [Nat.succ_mul]
noncomputable def cnt (J:List (Nat×Nat)) (g:Nat->Nat->Bool):Nat:=J.countP λp=>g p.1 p.2
noncomputable def tIt (K:Fg) (c:Int) (k:Nat):TE:=sx (BW K) (sx (BW K) (aG 0) (tC (.int c))) (aG k)
noncomputable def Fj (a b:Nat):TE:=mz (aL (aG a) (aL (aG b) b5))
noncomputable def Lj (K:Fg):List V->Hp->VK->Prop:=λY H Q=>∃p G,Y=[.ref p]/\(SqL K H p G\/SqT K H p G)/\Q (.int G.length) H
section
variable {P:Program} {w:World} {K:Fg} {Hb H:Hp} {v0:V} {wd:Wd} {d:Addr} {o:Bool}
theorem Gq {M:St} {c:Nat} {ds:List Nw} {Y:List Nw} {Q:VK} (R:wd.enc=.tuple ds) (J:ds[c]?=some (.list Y)) (r:Rep K Hb v0 wd.enc) (s:Same Hb H) (l:M[0]?=some (some v0)) (q:∀p L,SqL K Hb p L->L.length=Y.length->(∀(i:Nat) v d,L[i]?=some v->Y[i]?=some d->Rep K Hb v d)->Q (.ref p) H):sx (BW K) (aG 0) (tC (.int (c:Int))) M H Q:=by
 refine ⟨v0,l,?_⟩
 rw [R] at r
 cases r with
 | @tup p L _ hq hl hr=>
  have X:=(Nq J).1
  have f:c<L.length:=by omega
  have k:=hr c L[c] _ (Nl f) J
  refine .inr (.inl ⟨p,_,(c:Int),L[c],rfl,rfl,bB s hq,Jo (Nl f),?_⟩)
  generalize L[c]=u at k
  cases k with
  | @lst p2 rows _ hq2 f hr2=>exact q p2 rows hq2 f hr2
end
theorem yO {J:List (Nat×Nat)} {g:Nat->Nat->Bool}:(ph J g).length=J.length:=by unfold ph;rw [length_map]
section
variable {P:Program} {w:World} {K:Fg} {Hb H0 H:Hp} {v0:V} {wd:Wd} {d:Addr} {o:Bool}
theorem AU {a b:V}:([a,b]:List V).length<=sizeLine:=Nat.le_trans (by decide:2<=1000) (by decide)
end
noncomputable def Bc (K:Fg):TE:=xM (Lj K) (aL (sx (BW K) (aG 0) (tC (.int 0))) b5)
noncomputable abbrev sc (I:V) (o:Bool) (d f:Addr) (a:Option V):St:=[some I,some (.bl o),some (.ref d),some (.ref f),a,none,none]
section
variable {P:Program} {w:World} {K:Fg} {Hb H0 H:Hp} {v0:V} {wd:Wd} {d f:Addr} {o:Bool} {g:Nat->Nat->Bool}
theorem Af {M:St} {Q:VK} (ok:wd.Ok) (r:Rep K Hb v0 wd.enc) (a:Same Hb H) (l:M[0]?=some (some v0)) (q:Q (.int (wd.n:Int)) H):Bc K M H Q:=by
 refine Gq (wd:=wd) (c:=0) (ds:=[.list wd.os,.list (wd.m.map cP),.list (wd.s.map aT)]) rfl rfl r a l λp z n N b=>⟨p,z,rfl,.inl (a.seq n),?_⟩
 have e:wd.os.length=wd.n:=ok.g.lo
 rw [N,e];exact q
end
theorem KR {R S:List Nat} (h:aT R=aT S):R=S:=(map_inj_right (f:=rm) λa b e=>Int.ofNat_inj.mp (PyData.int.inj e)).mp (PyData.list.inj h)
theorem Ku {R S:List Str} (h:cP R=cP S):R=S:=(map_inj_right (f:=PyData.str) λa b e=>PyData.str.inj e).mp (PyData.list.inj h)
theorem Hf {w v:Wd} (ok:w.Ok) (c:v.Ok) (h:w.enc=v.enc):w=v:=by
 have h:=PyData.tuple.inj h
 injection h with R h
 injection h with C h
 injection h with n _
 have R:=PyData.list.inj R
 have C:=(map_inj_right (f:=cP) λa b e=>Ku e).mp (PyData.list.inj C)
 have n:=(map_inj_right (f:=aT) λa b e=>KR e).mp (PyData.list.inj n)
 have y:w.n=v.n:=by rw [<-ok.ls,<-c.ls,n]
 cases w
 cases v
 cases y
 cases R
 cases C
 cases n;rfl
end KC
namespace T
open PySem PySem.Spec L2
open PyProof.Rows hiding St
noncomputable def j0 (P:Program) (w:World) (K:Fg) (ty c:TE):TE:=λM H Q=>ty M H λy Z=>c M Z λx j=>∃a b F E U,x=.ref a/\y=.ref b/\D2 P w K j F a E/\K2 K j U b/\U.map ku=F/\Q (.bl (dj E U).isSome) j
section
variable {X:Cx} {o i e value:Expr} {pos pos' tpos:Pos} {td ty tv:TE}
theorem JC (J:X.A.units+2<cLine) (l:PE X i ty) (K:PE X o td):PC X .In i o (j0 X.prog X.w X.K ty td):=by
 intro B s M H Q I h;refine bt (l B s M H _ I h) λR A ⟨y,H1,I1,ry,q1⟩=>bt (K B A M H1 _ I1 q1) λu N ⟨x,H2,I2,rx,a,b,sh,kvs,ks,ex,ey,⟨xs,e,r,nd,hz,hd⟩,k,hsh,q2⟩=>?_
 subst ex ey;obtain rfl:u=Value.ref a:=rx
 obtain rfl:R=Value.ref b:=ry
 have E:=Ec I2 e r nd
 refine wpAny_in_heap (ka J) ⟨xA I2 k,hsh⟩ hd E ?_
 have q:=(r.val ks).isSome_eq
 rw [Option.isSome_map] at q;rw [<-q];exact ⟨.bl (dj kvs ks).isSome,H2,I2.tok _,rfl,q2⟩
end
theorem qX {M:St} {c:Nat} {v:V}:LZ (bj [c] M) ((bj [c] M).set c (some v)):=by
 refine ⟨by simp,λi u h=>?_⟩
 have y:=(J7 h).1
 rw [List.getElem?_set,if_neg (λz=>y (by rw [<-z];simp))]
 exact h
end T
namespace KC
open PySem PySem.Spec L2 T PySem.SeqAt
open PyProof.Rows hiding St
section
variable {P:Program} {w:World} {K:Fg} {H:Hp} {O:List Addr} {v0 v1:V} {wd:Wd} {d:Addr} {ps:List (Nat×Nat)} {g:Nat->Nat->Bool} {o:Bool} {i j:Nat}
theorem uS (ok:wd.Ok) {r:Nat}:(wd.stp r).length<=1000:=by
 unfold Wd.stp;rw [Nm]
 cases e:wd.s[r]? with
 | none=>simp
 | some z=>have:=(ok.st z (mem_of_getElem? e)).2.1;show z.length<=1000;omega
end
noncomputable def xm (p:Nat×Nat):D:=.tuple [rm p.1,rm p.2]
theorem sO {u:Type} {K:Fg} {σ:St} {H:Hp} {Q:VK} {c:Nat} {tl te:TE} {p:Addr} {ws:List V} {row:List u} {f:u->Bool} (N:∀C:VK,C (.ref p) H->tl σ H C) (g:SqL K H p ws) (O:ws.length=row.length) (y:row.length<=1000)
  (R:∀(k:Nat) v t,ws[k]?=some v->row[k]?=some t->∀j (C:VK),Same H j->(∀d,Same j d->C (.bl (f t)) d)->te ((bj [c] σ).set c (some v)) j C)
  (q:∀L j,Same H j->H L=none->j L=some (.lst ((row.map f).map V.bl))->Q (.ref L) j):eo [c] (cS K tl) (aP c) gO te σ H Q:=by
 refine N _ ⟨p,rfl,⟨_,g⟩,λL P=>?_⟩
 have Z:(1000:Nat)<=sizeLine:=by decide
 refine ⟨λk m G j=>m=row.length-k/\k<=row.length/\G=((row.take k).map f).map V.bl/\j L=some (.lst G)/\Same H j,⟨row.length,by simp,Nat.zero_le _,by simp,cL,dH P⟩,?_⟩
 rintro k m G j ⟨rfl,hk,rfl,hLs,sH⟩
 refine ⟨hLs,?_⟩
 have a:=sH.seq g
 by_cases X:k<row.length
 case neg=>
  left
  rw [take_of_length_le (by omega)] at hLs
  exact ⟨⟨_,a,by omega⟩,q L j sH P hLs⟩
 case pos=>
  right
  have e:k<ws.length:=by omega
  have B:ws[k]?=some ws[k]:=Nl e
  refine ⟨⟨_,_,a,B⟩,by rw [length_map,length_map,length_take];omega,?_⟩
  rintro v d ⟨rfl,hv⟩
  have b:v=ws[k]:=Option.some.inj ((hv _ a).symm.trans B)
  subst b;refine ⟨qX,Aq (R k ws[k] row[k] B (Nl X) _ _ sH λx U=>?_)⟩
  have h:=U _ _ hLs
  refine ⟨h,row.length-(k+1),by omega,rfl,X,?_,cL,λc o J=>?_⟩
  ·rw [take_succ,Nl X,map_append,map_append];rfl
  ·rw [cb (λz=>by subst z;rw [P] at J;cases J)]
   exact U c o (sH c o J)
theorem Jq {K:Fg} {H:Hp} {v:V} {p:Nat×Nat} (r:Rep K H v (xm p)):∃b,v=.ref b/\SqT K H b [.int (p.1:Int),.int (p.2:Int)]:=by
 unfold xm at r
 cases r with
 | @tup b vs _ hq hl hr=>
  match vs,hl with
  | [u0,u1],_=>
   have o:=hr 0 u0 _ rfl rfl
   have i:=hr 1 u1 _ rfl rfl
   cases o
   cases i;exact ⟨b,rfl,hq⟩
end KC
namespace T
open PySem PySem.Spec L2
open PyProof.Rows hiding St
noncomputable def D2H (P:Program) (w:World) (K:Fg) (H:Hp) (O:List Addr) (F:List Bool) (a:Addr) (E:List (List It×V)):Prop:=
 ∃Y,H a=some (o7 P w F a Y)/\KX K (aS H O) F E Y/\(Y.map (·.1)).Nodup/\Y.length<=1000/\(a==sysModules)=false
section
variable {P:Program} {w:World} {K:Fg} {H H':Hp} {O:List Addr} {sh:List Bool} {a:Addr} {kvs:List (List It×V)}
theorem D2H.d (h:D2H P w K H O sh a kvs):D2 P w K H sh a kvs:=let ⟨xs,R,C,n⟩:=h;⟨xs,R,C.mono λc xs=>bB hid_le,n⟩
theorem D2H.mono (x:D2H P w K H O sh a kvs) (e:H' a=H a) (m:∀c Y,SqT K (aS H O) c Y->SqT K (aS H' O) c Y):D2H P w K H' O sh a kvs:=let ⟨Y,R,C,n⟩:=x;⟨Y,e.trans R,C.mono m,n⟩
theorem J6 {c:Addr} {I:HO} (y:∀L,H a≠some (.tup L)) (X:∀L o,H a≠some (.frz o (.tup L))) {G:List V} (h:SqT K (aS H O) c G):SqT K (aS (aR H a I) O) c G:=by
 have N:∀u,aS H O c=some u->H a≠some u->aS (aR H a I) O c=some u:=λu J U=>by
  unfold aS at J ⊢
  split at J
  ·cases J
  ·rename_i b
   rw [if_neg b,cb (λz=>U (by rw [<-z];exact J))]
   exact J
 rcases h with (h | ⟨o,h⟩) | h
 ·exact .inl (.inl (N _ h (y _)))
 ·exact .inl (.inr ⟨o,N _ h (X _ _)⟩)
 ·exact .inr h
end
noncomputable def qm (P:Program) (w:World) (K:Fg) (F:List Bool) (G l:TE):TE:=λM H Q=>∃O,∀p I,H p=none->D2H P w K (aR H p I) O F p []->G M (aR H p I) λy Z=>l M Z λv j=>∃b U,y=.ref b/\D2H P w K j O F p []/\K2 K (aS j O) U b/\U.map ku=F/\∀d,D2H P w K (aR j p d) O F p [(U,v)]->Q (.ref p) (aR j p d)
noncomputable def qw (P:Program) (w:World) (K:Fg) (c ty l:TE):TS:=λD M H=>l M H λv Z=>c M Z λx j=>ty M j λy d=>∃a b F E U O,x=.ref a/\y=.ref b/\D2H P w K d O F a E/\K2 K (aS d O) U b/\U.map ku=F/\E.length<1000/\dj E U=none /\
 ∀I,D2H P w K (aR d a I) O F a (E++[(U,v)])->D.nx M (aR d a I)
section
variable {X:Cx} {o i e value:Expr} {pos pos' tpos:Pos} {td ty tv:TE}
theorem sY {k v:Expr} {tk l:TE} (F:List Bool) (hu:X.A.units+2<cLine) (hk:PE X k tk) (P:PE X v l):PE X (.Dict [some k] [v] pos) (qm X.prog X.w X.K F tk l):=by
 intro B s M H Q I q;obtain ⟨O,q⟩:=q;have hn:=I.hok.fresh (Nv s.heap.objs.size)
 have x:=I.laid (a:=s.heap.objs.size) (o:=o7 X.prog X.w F s.heap.objs.size []) (h':=s.heap.push { cls:=.type "dict",data:=.dict #[] }) (t':=s.toks) (λ_ _ q=>Nu _ q) (Nv _) (Eu ⟨_,#[],0,Heap.get?_push_size _ rfl,⟨rfl,rfl,rfl⟩,rfl,rfl⟩)
 have q0:=q _ _ hn ⟨[],cL,.nil,nodup_nil,by simp,beq_eq_false_iff_ne.mpr (Ne.symm (Nat.ne_of_lt I.big))⟩
 refine wpAny_Dict_any rfl rfl (by simp) (by show 1<=15;omega) (bt ((vt hk P yr) B _ M _ (λps j=>match ps with
  | [(y,v)]=>∃b U,y=.ref b/\D2H X.prog X.w X.K j O F s.heap.objs.size []/\K2 X.K (aS j O) U b/\U.map ku=F/\∀d,D2H X.prog X.w X.K (aR j s.heap.objs.size d) O F s.heap.objs.size [(U,v)]->Q (.ref s.heap.objs.size) (aR j s.heap.objs.size d)
  | _=>False) x q0) λp N ⟨ps,j,I2,rel,hq⟩=>?_)
 match ps,rel,hq with
 | [(y,v)],rel,⟨b,U,ey,⟨Y,e,r,nd,hz,hd⟩,hK,hsh,q2⟩=>
  subst ey
  cases rel with
  | @cons _ pr _ _ h t=>
   cases t;obtain ⟨Z,K⟩:=pr;obtain ⟨R,C⟩:=h;obtain rfl:Z=Value.ref b:=R
   cases r;have E:=Ec I2 e .nil nd
   have rm2:(dG X.prog X.w F).room X.A:=by show X.A.units+1<cLine;omega
   unfold storeAll;rw [List.forIn_cons];refine Nr (Nr (wpAny_dictSet_heap (hsz:=by simp) rm2 ⟨xA I2 (hK.mono λc Y=>bB hid_le),hsh⟩ E λh' g hs'=>Nt ?_))
   show wpAny _ _ (forIn [] PUnit.unit _) _ _ _
   rw [List.forIn_nil];refine Nt ?_
   rw [storedH_new rfl] at g;obtain ⟨L,es,ep,u,A,n,f,_,h5⟩:=g
   have m:∀c G,SqT X.K (aS j O) c G->SqT X.K (aS (aR j s.heap.objs.size (o7 X.prog X.w F s.heap.objs.size [(U,b,K)])) O) c G:=λc G J=>J6 (λ_ z=>by rw [e] at z;cases z) (λ_ _ z=>by rw [e] at z;cases z) J
   have w:=Jv (t':=N.toks+(dG X.prog X.w F).draws U) (ob:=o7 X.prog X.w F s.heap.objs.size [(U,b,K)]) I2 (by rw [e];exact True.intro) hs' ⟨L,u⟩ (Eu ⟨L,es,ep,u,A,n,f⟩)
   exact ⟨.ref s.heap.objs.size,_,w,rfl,q2 _ ⟨[(U,b,K)],cL,.cons ⟨rfl,hsh,hK.mono m,C⟩ .nil,h5,by simp,hd⟩⟩
theorem sV (hu:X.A.units+2<cLine) (K:PE X o td) (l:PE X i ty) (P:PE X value tv) (t:swapsWith value (some (.Subscript o i pos')) pos.line X.env=pure false) :
  PS X (.Assign [.Subscript o i pos'] value pos) (qw X.prog X.w X.K td ty tv):=by
 intro B s M H D I h;refine wpAny_Assign_Subscript (bt (P B s M H _ I h) λr A ⟨v,H1,I1,rv,q1⟩=>bt (K B A M H1 _ I1 q1) λu N ⟨x,H2,I2,rx,q2⟩=>bt (l B N M H2 _ I2 q2) λR s3 ⟨y,H3,I3,ry,a,b,sh,kvs,ks,O,ex,ey,⟨Y,e,rr,nd,hz,hd⟩,k,hsh,hl,hn,q3⟩=>?_) t
 subst ex ey;obtain rfl:u=Value.ref a:=rx
 obtain rfl:R=Value.ref b:=ry
 have p:=rr.mono λc Y=>bB hid_le
 have E:=Ec I3 e p nd
 have Z:(1000:Nat)<=sizeLine:=by decide
 have d:atKey Y ks=none:=by
  have q:=(rr.val ks).isSome_eq
  rw [hn,Option.isSome_map] at q
  cases z:atKey Y ks with
  | none=>rfl
  | some _=>rw [z] at q;cases q
 refine wpAny_setItem_heap (hsz:=by omega) (ka hu) ⟨xA I3 (k.mono λc Y=>bB hid_le),hsh⟩ E λU g L=>?_
 rw [storedH_new d] at g;obtain ⟨q,j,ep,n,C,h3,f,_,F⟩:=g
 have m:∀c G,SqT X.K (aS H3 O) c G->SqT X.K (aS (aR H3 a (o7 X.prog X.w sh a (Y++[(ks,b,r)]))) O) c G:=λc G J=>J6 (λ_ z=>by rw [e] at z;cases z) (λ_ _ z=>by rw [e] at z;cases z) J
 have w:=Jv (t':=s3.toks+(dG X.prog X.w sh).draws ks) (ob:=o7 X.prog X.w sh a (Y++[(ks,b,r)])) I3 (by rw [e];exact True.intro) L ⟨q,n⟩ (Eu ⟨q,j,ep,n,C,h3,f⟩)
 refine ⟨M,_,w,q3 _ ⟨Y++[(ks,b,r)],cL,?_,F,?_,hd⟩⟩
 ·exact Paired.snoc (rr.mono m) ⟨rfl,hsh,k.mono m,rv⟩
 ·rw [length_append,length_singleton,<-rr.len]
  omega
end
noncomputable def d5 (P:Program) (w:World) (F:List Bool) (a:Addr) (Y:List (List It×Addr×Value)) (N:Nat):HO:=.ext λh=>∃o j,h.get? a=some o/\o.ExactDict/\o.data=.dict j N/\j.toList=Y.map (entryOfKey (dG P w F))
noncomputable def Nc (P:Program) (w:World) (K:Fg) (H:Hp) (F:List Bool) (a:Addr) (E:List (List It×V)) (Y:List (List It×Addr×Value)) (N:Nat):Prop:=
 H a=some (d5 P w F a Y N)/\KX K H F E Y/\(Y.map (·.1)).Nodup/\Y.length<=1000/\(a==sysModules)=false
theorem yE {P:Program} {w:World} {H:Hp} {h:Heap} {F:List Bool} {a:Addr} {Y:List (List It×Addr×Value)} {N:Nat} (x:∃o j,h.get? a=some o/\o.ExactDict/\o.data=.dict j N/\j.toList=Y.map (entryOfKey (dG P w F))):ObjOk P w H h a (d5 P w F a Y N):=by
 refine ⟨x,let ⟨o,_,K,_⟩:=x;⟨o,K⟩,λR C ⟨o,j,K,r⟩ k=>⟨o,j,k o K,r⟩⟩
theorem tY {X:Cx} {B:List (Addr×Obj)} {M:St} {H:Hp} {s:Shared} {F:List Bool} {a:Addr} {E:List (List It×V)} {Y:List (List It×Addr×Value)} {N:Nat} (I:L2.Inv X B M H s) (e:H a=some (d5 X.prog X.w F a Y N)) (r:KX X.K H F E Y) (J:(Y.map (·.1)).Nodup):s.heap.DictOfH (dG X.prog X.w F) a Y:=by
 obtain ⟨⟨o,j,R,C,n,f⟩,_⟩:=(show ObjOk X.prog X.w H s.heap a (d5 X.prog X.w F a Y N) from I.hok a _ e);refine ⟨o,j,N,R,C,n,f,λx G=>?_,J⟩
 have all:∀{l:List (List It×V)} {m:List (List It×Addr×Value)},KX X.K H F l m->∀x∈m,(dG X.prog X.w F).is s.heap x.1 x.2.1:=by
  intro l m q;induction q with
  | nil=>intro x G;exact nomatch G
  | @cons p q ps qs hq t ih=>
   intro x G;rcases Nk G with e | G
   ·subst e
    exact ⟨by rw [<-hq.1];exact xA I hq.2.2.1,by rw [<-hq.1];exact hq.2.1⟩
   ·exact ih x G
 exact all r x G
noncomputable def qo (P:Program) (w:World) (K:Fg) (c ty:TE):TE:=λM H Q=>c M H λx Z=>ty M Z λy j=>∃a b F E U v Y N,x=.ref a/\y=.ref b/\Nc P w K j F a E Y N/\K2 K j U b/\U.map ku=F/\dj E U=some v/\Q v j
theorem sZ {X:Cx} {o i:Expr} {f:Pos} {c ty:TE} (J:X.A.units+2<cLine) (K:PE X o c) (l:PE X i ty) (Y:DI i):PE X (.Subscript o i f) (qo X.prog X.w X.K c ty):=by
 intro B s M H Q I h;refine qp PySem.F.slot_dict_getitem.lookup Y (bt (K B s M H _ I h) λu A ⟨x,H1,I1,rx,q1⟩=>bt (l B A M H1 _ I1 q1) λR N ⟨y,H2,I2,ry,a,b,sh,kvs,ks,v,xs,ep,ex,ey,⟨e,r,nd,hz,hd⟩,k,hsh,hv,q2⟩=>?_)
 subst ex ey;obtain rfl:u=Value.ref a:=rx
 obtain rfl:R=Value.ref b:=ry
 have E:=tY I2 e r nd
 refine ⟨E.typeIs,?_⟩
 obtain ⟨t,O,m⟩:=RelO.some_of (v:=v) (o:=(atKey xs ks).map (·.2)) (by rw [<-hv];exact r.val ks)
 obtain ⟨p,g,d⟩:=Option.map_eq_some_iff.mp O;refine wpAny_getItem_heap (ka J) ⟨xA I2 k,hsh⟩ E g ?_
 rw [d];exact ⟨v,H2,I2.tok _,m,q2⟩
noncomputable def ML (I:HO) (a:Addr) (bs:List Addr):L2.It:=
 ⟨λi H=>H a=some I/\i<bs.length,λi H x F=>F=H/\∃b,bs[i]?=some b/\x=.ref b,λi H=>H a=some I/\bs.length<=i⟩
theorem xJ {P:Program} {w:World} {K:Fg} {tg:Expr} {sh:List Bool} {xs:List (List It×Addr×Value)} {ep:Nat} (a L:Addr) (F:(a==sysModules)=false) (hz:xs.length<=1000):uo P w K tg (ML (d5 P w sh a xs ep) a (xs.map (·.2.1))) [L] L (λi h=>h.IsKeyIter L a i (xs.map (·.2.1)).length ep) where
 mem:=by simp
 obj:=λi h st b Z=>by
  have e:b=L:=by simpa using Z
  subst e;obtain ⟨o,e,c,d⟩:=st;exact ⟨o,e,λv z=>by rw [d] at z;cases z⟩
 keep:=λi h U st k=>st.at λo e=>k L (by simp) o e
 item:=by
  intro X hP O p J i B s M H E I m st hg;subst hP O p;obtain ⟨e,l⟩:=hg;obtain ⟨⟨o,j,R,C,n,f⟩,_⟩:=(show ObjOk X.prog X.w H s.heap a (d5 X.prog X.w sh a xs ep) from I.hok a _ e);have u:EAt s.heap a (xs.map (·.2.1)) ep:=⟨o,j,R,C,n,by rw [f,map_map,map_map];rfl⟩
  obtain ⟨r,A,t,f3,y,N⟩:=m L (by simp)
  have G:(xs.map (·.2.1))[i]?=some (xs.map (·.2.1))[i]:=Nl l
  generalize (xs.map (·.2.1))[i]=b at G
  refine GH st u G λU q sb=>?_
  have x:L2.Inv X B M H { s with heap:=U }:=I.turned (t':=s.toks) (λb o Z e=>(sb.2 b Z).trans e) r A f3 y N
  obtain ⟨o',e',c',Y⟩:=id q
  exact ⟨.ref b,rfl,rD (s:={ s with heap:=U }) e' c' Y (by decide) ⟨.ref b,H,x,rfl,⟨rfl,b,G,rfl⟩,q,λb Z=>(m b Z).1⟩⟩
 done:=by
  intro X hP O p J i B s M H E I m st hg;subst hP O p;obtain ⟨e,l⟩:=hg;obtain ⟨⟨o,j,R,C,n,f⟩,_⟩:=(show ObjOk X.prog X.w H s.heap a (d5 X.prog X.w sh a xs ep) from I.hok a _ e);have u:EAt s.heap a (xs.map (·.2.1)) ep:=⟨o,j,R,C,n,by rw [f,map_map,map_map];rfl⟩
  obtain ⟨r,A,t,f3,y,N⟩:=m L (by simp)
  exact LI (I.ok.hd J) st u l λU g=>⟨rfl,I.turned (t':=s.toks) (λb o Z e=>g b o Z e) r A f3 y N⟩
 self:=λ_ _ _ _ _ st h=>wpAny_pyIter_keyiter st h
noncomputable def MB (P:Program) (w:World) (K:Fg) (c:TE):TI:=λM H R=>c M H λx Z=>∃a F E,x=.ref a/\D2 P w K Z F a E/\∀Y N,KX K Z F E Y->(Y.map (·.1)).Nodup->Y.length<=1000->(a==sysModules)=false->Z a=some (o7 P w F a Y)->R (ML (d5 P w F a Y N) a (Y.map (·.2.1))) (aR Z a (d5 P w F a Y N))
theorem Gp {X:Cx} {l e:Expr} {c:TE} (N:PE X e c):PI X l e (MB X.prog X.w X.K c):=by
 intro B s M H R I h;refine bt (N B s M H _ I h) λv A ⟨x,H1,I1,r1,q1⟩=>?_
 obtain ⟨a,sh,E,P,⟨xs,e,r,J,w,F⟩,q⟩:=q1;subst P
 cases r1;obtain ⟨⟨o,j,ep,d,C,n,f⟩,_⟩:=(show ObjOk X.prog X.w H1 A.heap a (o7 X.prog X.w sh a xs) from I1.hok a _ e);have k:EAt A.heap a (xs.map (·.2.1)) ep:=⟨o,j,d,C,n,by rw [f,map_map,map_map];rfl⟩
 have i:L2.Inv X B M (aR H1 a (d5 X.prog X.w sh a xs ep)) { A with heap:=A.heap,toks:=A.toks }:=I1.write (x:=a) (e:=a) (o:=d5 X.prog X.w sh a xs ep) (t':=A.toks) (by rw [e];exact True.intro) (.inl rfl) (λb u _ q=>q) ⟨o,d⟩ (yE ⟨o,j,d,C,n,f⟩)
 refine GU F k ?_
 have K:a≠A.heap.objs.size:=Nat.ne_of_lt k.lt
 refine ⟨A.heap.objs.size,[A.heap.objs.size],_,_,aR H1 a (d5 X.prog X.w sh a xs ep),rfl,i.kept (t':=A.toks) λb o e=>Nu _ e,xJ (sh:=sh) (xs:=xs) (ep:=ep) a A.heap.objs.size F w,⟨_,Heap.get?_push_size _ rfl,rfl,rfl⟩,λb Z=>?_,q xs ep r J w F e⟩
 have g:b=A.heap.objs.size:=by simpa using Z
 subst g;exact i.fpOk (Nv _) (by rw [cb (Ne.symm K)];exact I1.hok.fresh (Nv _))
end T
namespace KC
open PySem PySem.Spec L2 T PySem.SeqAt
open PyProof.Rows hiding St
section
variable {α:Type} [DecidableEq α]
noncomputable def xP (p:List α×List α) (t:α):List α×List α:=if t∈p.1 then p else (p.1++[t],p.2++[t])
noncomputable def gA (q:List α) (p:List α×List α):List α×List α:=q.foldl xP p
noncomputable def C0 (sc:α->List α):Nat->List α×List α->List α
 | 0,p=>p.1
 | n+1,p=>match p.2.getLast? with
  | none=>p.1
  | some h=>C0 sc n (gA (sc h) (p.1,p.2.dropLast))
theorem iI:∀{ks L:List α},ks.Nodup->(∀x∈ks,x∈L)->ks.length<=L.length
 | [],_,_,_=>Nat.zero_le _
 | x::ks,L,nd,h=>by
  have G:=h x mem_cons_self
  obtain ⟨k,u⟩:=List.nodup_cons.mp nd;have f:=iI (ks:=ks) (L:=L.erase x) u λy o=>(List.mem_erase_of_ne (λz:y=x=>k (by rw [<-z];exact o))).mpr (h y (Nn _ o))
  have N:=List.length_erase_of_mem G
  have:0<L.length:=length_pos_of_mem G
  rw [length_cons];omega
structure WB (B:α->Prop) (p:List α×List α):Prop where
 nd:p.1.Nodup
 ok:∀x∈p.1,B x
 sub:∀x∈p.2,x∈p.1
 le:p.2.length<=p.1.length
structure WS (ts:List α) (p q:List α×List α):Prop where
 le:∀x∈p.1,x∈q.1
 ts:∀x∈ts,x∈q.1
 lw:∀x∈p.2,x∈q.2
 new:∀x∈q.1,x∈p.1\/x∈q.2
 len:q.2.length+p.1.length=p.2.length+q.1.length
theorem Bg {B:α->Prop} {p:List α×List α} {t:α} (h:WB B p) (L:B t):WB B (xP p t)/\WS [t] p (xP p t):=by
 unfold xP;split
 ·rename_i v
  exact ⟨h,λ_ z=>z,λx G=>by rw [List.mem_singleton.mp G];exact v,λ_ z=>z,λ_ z=>.inl z,rfl⟩
 ·rename_i y
  refine ⟨⟨List.nodup_append.mpr ⟨h.nd,by simp,λa U b Z z=>?_⟩,λx G=>?_,λx G=>?_,by have:=h.le;simp;omega⟩,λ_ z=>Ni _ z,λx G=>Nh _ G,λ_ z=>Ni _ z,λx G=>?_,?_⟩
  ·rw [List.mem_singleton.mp Z] at z
   rw [z] at U;exact y U
  ·rcases Nj G with z | z
   ·exact h.ok x z
   ·rw [List.mem_singleton.mp z];exact L
  ·rcases Nj G with z | z
   ·exact Ni _ (h.sub x z)
   ·exact Nh _ z
  ·rcases Nj G with z | z
   ·exact .inl z
   ·exact .inr (Nh _ z)
  ·simp;omega
theorem EF {B:α->Prop}:∀{ts:List α} {p:List α×List α},WB B p->(∀t∈ts,B t)->WB B (gA ts p)/\WS ts p (gA ts p)
 | [],p,h,_=>⟨h,λ_ z=>z,(λ_ z=>nomatch z),λ_ z=>z,λ_ z=>.inl z,rfl⟩
 | t::ts,p,h,hB=>by
  obtain ⟨R,A⟩:=Bg h (hB t mem_cons_self);obtain ⟨C,N⟩:=EF (ts:=ts) R λx G=>hB x (Nn _ G)
  refine ⟨C,λx G=>N.le x (A.le x G),λx G=>?_,λx G=>N.lw x (A.lw x G),λx G=>?_,?_⟩
  ·rcases Nk G with z | z
   ·rw [z];exact N.le t (A.ts t mem_cons_self)
   ·exact N.ts x z
  ·rcases N.new x G with z | z
   ·rcases A.new x z with y | y
    ·exact .inl y
    ·exact .inr (N.lw x y)
   ·exact .inr z
  ·have a:=A.len
   have b:=N.len
   show (gA ts (xP p t)).2.length+p.1.length=p.2.length+(gA ts (xP p t)).1.length
   omega
structure WI (B:α->Prop) (sc:α->List α) (a0:α) (p:List α×List α):Prop where
 b:WB B p
 a0:a0∈p.1
 cl:∀x∈p.1,x∈p.2\/∀y∈sc x,y∈p.1
section
variable {B:α->Prop} {sc:α->List α} {a0:α}
theorem vP {h x:α}:∀{p:List α},p.getLast?=some h->x∈p->x∈p.dropLast\/x=h:=λ{p} e hx=>by
 have:p=p.dropLast++[h]:=by
  have P:p≠[]:=λz=>by rw [z] at e;cases e
  have:=List.dropLast_concat_getLast P
  rw [List.getLast?_eq_some_getLast P] at e;rw [<-Option.some.inj e];exact this.symm
 rw [this] at hx;rcases Nj hx with z | z
 ·exact .inl z
 ·exact .inr (List.mem_singleton.mp z)
theorem WI.drop {p:List α×List α} (I:WI B sc a0 p):WB B (p.1,p.2.dropLast):=⟨I.b.nd,I.b.ok,λx G=>I.b.sub x ((List.dropLast_sublist _).subset G),by have:=I.b.le;simp only [length_dropLast];omega⟩
theorem WI.step {p:List α×List α} {h:α} (I:WI B sc a0 p) (u:∀x,B x->∀y∈sc x,B y) (e:p.2.getLast?=some h):WI B sc a0 (gA (sc h) (p.1,p.2.dropLast))/\(gA (sc h) (p.1,p.2.dropLast)).2.length+p.1.length+1=p.2.length+(gA (sc h) (p.1,p.2.dropLast)).1.length:=by
 have a:h∈p.2:=List.mem_of_getLast? e
 obtain ⟨b,s⟩:=EF I.drop (u h (I.b.ok h (I.b.sub h a)));refine ⟨⟨b,s.le _ I.a0,λx G=>?_⟩,?_⟩
 ·rcases s.new x G with z | z
  ·rcases I.cl x z with y | y
   ·rcases vP e y with y | y
    ·exact .inl (s.lw x y)
    ·rw [y];exact .inr λt L=>s.ts t L
   ·exact .inr λt L=>s.le t (y t L)
  ·exact .inl z
 ·have:=s.len
  simp only [length_dropLast] at this
  have:0<p.2.length:=length_pos_of_mem a
  omega
theorem Av {M:Nat} (v:∀U:List α,U.Nodup->(∀x∈U,B x)->U.length<=M) (u:∀x,B x->∀y∈sc x,B y):∀(m:Nat) (p:List α×List α),WI B sc a0 p->2*(M-p.1.length)+p.2.length<m->WI B sc a0 (C0 sc m p,[])
 | 0,_,_,h=>absurd h (Nat.not_lt_zero _)
 | m+1,p,I,h=>by
  unfold C0
  cases e:p.2.getLast? with
  | none=>
   have X:p.2=[]:=List.getLast?_eq_none_iff.mp e
   exact ⟨⟨I.b.nd,I.b.ok,(λ_ z=>nomatch z),Nat.zero_le _⟩,I.a0,λx G=>(I.cl x G).elim (λz=>by rw [X] at z;cases z) .inr⟩
  | some t=>
   obtain ⟨i,N⟩:=I.step u e;refine Av v u m _ i ?_
   have a:=v _ i.b.nd i.b.ok
   have b:=v _ I.b.nd I.b.ok
   have c:p.1.length<=(gA (t |> sc) (p.1,p.2.dropLast)).1.length:=iI I.b.nd (EF I.drop (u t (I.b.ok t (I.b.sub t (List.mem_of_getLast? e))))).2.le
   omega
end
end
noncomputable def ua:FS:=(ak (b8 (aM ai (ar (bx false) (ae 1) (ae 2))) (aE (ae 1)) aJ)
  (aE (ah (aq .leaf 3 (aU (ae 2)) (aM ai (ar bp (ah (ae 0) (ae 3)) (ah (ae 0) (ae 1)))) (ae 3)) (eK (.int 0)))))
noncomputable def kg:List Nw->bA:=aB 4 ua
noncomputable def d_pairs_behind:FS:=(ak (ax false 3 (ah (ah (ae 0) (eK (.int 2))) (ah (ae 2) (eK (.int 0)))))
  (ak (ax false 4 (ah (ah (ae 0) (eK (.int 2))) (ah (ae 2) (eK (.int 1)))))
  (ak (ax false 5 (aq .leaf 6 (aU (ae 3)) aK (bz (ab (ae 6) (ab (ag 3 kg (ab (ae 1) (ab (ae 6) (ab (ae 4) af)))) af)))))
  (aE (lK (ae 5) (aq .leaf 7 (aU (ae 4)) aK (bz (ab (ag 3 kg (ab (ae 1) (ab (ae 7) (ab (ae 3) af)))) (ab (ae 7) af)))))))))
noncomputable def m_pairs_behind:List Nw->bA:=aB 8 d_pairs_behind
end KC
namespace KC.Ap
open PySem PySem.Spec L2 T PySem.SeqAt
open PyProof.Rows hiding St
open KC
noncomputable def xn (c:Str):Nat:=letters.idxOf c
theorem CA:∀a∈letters,∀b∈letters,Cy (.str a) (.str b)=decide (xn a<xn b):=by decide +kernel
theorem CB:∀a∈letters,letters.getD (xn a) "a"=a:=by decide +kernel
theorem lix_rise:letters.Pairwise λa b=>xn a<xn b:=by decide +kernel
theorem kb:∀{a b:List Nat},a.Pairwise (· < ·)->b.Pairwise (· < ·)->(∀x,x∈a↔x∈b)->a=b
 | [],[],_,_,_=>rfl
 | [],y::b,_,_,h=>by have:=(h y).mpr mem_cons_self;cases this
 | x::a,[],_,_,h=>by have:=(h x).mp mem_cons_self;cases this
 | x::a,y::b,ha,hb,h=>by
  obtain ⟨F,g⟩:=List.pairwise_cons.mp ha;obtain ⟨p,H⟩:=List.pairwise_cons.mp hb;have e:x=y:=by
   rcases Nk ((h x).mp mem_cons_self) with z | z
   ·exact z
   ·rcases Nk ((h y).mpr mem_cons_self) with u | u
    ·exact u.symm
    ·have:=F y u
     have:=p x z
     omega
  subst e;congr 1
  refine kb g H λz=>⟨λw=>?_,λw=>?_⟩
  ·rcases Nk ((h z).mp (Nn _ w)) with u | u
   ·have:=F z w;omega
   ·exact u
  ·rcases Nk ((h z).mpr (Nn _ w)) with u | u
   ·have:=p z w;omega
   ·exact u
theorem fQ:∀{l:List Nat},(∀(k:Nat) a b,l[k]?=some a->l[k+1]?=some b->a<b)->l.Pairwise (· < ·)
 | [],_=>.nil
 | [a],_=>by simp
 | a::b::l,h=>by
  have d:=h 0 a b rfl rfl
  have f:=fQ (l:=b::l) λk x y B m=>h (k+1) x y (by simpa using B) (by simpa using m)
  refine List.pairwise_cons.mpr ⟨λc J=>?_,f⟩
  rcases Nk J with z | z
  ·rw [z];exact d
  ·have:=(List.pairwise_cons.mp f).1 c z
   omega
theorem Cv {w:Wd} (ok:w.Ok) {r:Nat} (M:r<w.n):(∀c∈w.mks r,c∈letters)/\((w.mks r).map xn).Pairwise (· < ·):=by
 obtain ⟨Y,R,_,_,f⟩:=ok.g.m (cP (w.mks r)) (List.mem_map.mpr ⟨_,(by
  unfold Wd.mks;rw [Nm,Nl (by rw [ok.lm];exact M)]
  exact getElem_mem _),rfl⟩)
 generalize w.mks r=l at R f
 have f:((l.map PyData.str).all pw&&fh (l.map PyData.str))=true:=f
 rw [Bool.and_eq_true] at f;have v:∀c∈l,c∈letters:=λc J=>by
  have:=List.all_eq_true.mp f.1 (.str c) (List.mem_map.mpr ⟨c,J,rfl⟩)
  unfold pw at this;unfold letters;simp only [any_cons,List.any_nil,Bool.or_false,Bool.or_eq_true,PyData.eqv,beq_iff_eq] at this
  simp only [mem_cons,not_mem_nil,or_false]
  rcases this with h | h | h | h | h | h<;>simp [<-h]
 refine ⟨v,fQ λk a b B m=>?_⟩
 have O:k+1<l.length:=by
  have:=(Nq m).1
  simpa using this
 have F:=f.2
 unfold fh at F;rw [all_eq_true] at F;have:=F (.int (1+(k:Nat))) (by
  unfold bS;exact List.mem_map.mpr ⟨k,List.mem_range.mpr (by rw [length_map];omega),rfl⟩)
 have:Cy ((l.map PyData.str).getD (1+(k:Int)-1).toNat .none) ((l.map PyData.str).getD (1+(k:Int)).toNat .none)=true:=this
 rw [show (1+(k:Int)-1).toNat=k by omega,show (1+(k:Int)).toNat=k+1 by omega,Nm,Nm,getElem?_map,getElem?_map,Nl (by omega),Nl O] at this
 have this:Cy (.str l[k]) (.str l[k+1])=true:=this
 rw [CA _ (v _ (getElem_mem _)) _ (v _ (getElem_mem _)),decide_eq_true_eq] at this;rw [getElem?_map,Nl (by omega)] at B
 rw [getElem?_map,Nl O] at m
 cases B
 cases m;exact this
theorem iO {w:Wd} (ok:w.Ok) {r:Nat} (M:r<w.n):∃P:Str->Bool,w.mks r=letters.filter P:=by
 obtain ⟨v,b⟩:=Cv ok M;refine ⟨λc=>(w.mks r).contains c,?_⟩
 have a:∀l:List Str,(∀c∈l,c∈letters)->(l.map xn).map (λk=>letters.getD k "a")=l:=λl N=>by
  rw [map_map];have:∀c∈l,((λk=>letters.getD k "a")∘xn) c=id c:=λc J=>CB c (N c J)
  rw [List.map_congr_left this,List.map_id]
 have e:(w.mks r).map xn=(letters.filter λc=>(w.mks r).contains c).map xn:=by
  refine kb b ?_ λx=>?_
  ·rw [pairwise_map]
   exact lix_rise.filter _
  ·rw [mem_map,mem_map]
   constructor
   ·rintro ⟨c,J,rfl⟩
    exact ⟨c,List.mem_filter.mpr ⟨v c J,List.contains_iff_mem.mpr J⟩,rfl⟩
   ·rintro ⟨c,J,rfl⟩
    exact ⟨c,List.contains_iff_mem.mp (List.mem_filter.mp J).2,rfl⟩
 exact (a _ v).symm.trans ((congrArg (List.map λk=>letters.getD k "a") e).trans (a _ λc J=>(List.mem_filter.mp J).1))
inductive Rsn where
 | mk (c:Str)
 | st (s t:Int)
deriving DecidableEq
noncomputable abbrev Row:=(Nat×Nat)×Rsn
noncomputable def bH:Rsn->D
 | .mk c=>.tuple [.str "mark",.str c]
 | .st s t=>.tuple [.str "step",.int s,.int t]
noncomputable def cz (r:Row):D:=.tuple [rm r.1.1,rm r.1.2,bH r.2]
noncomputable def rS (w:Wd) (i j:Nat) (c:Str):Bool:=(w.mks i).contains c != (w.mks j).contains c
noncomputable def cB (w:Wd) (i j s t:Nat):List (Nat×Nat):=if s=0 then (w.stp j).map λa=>(t,a) else (w.stp i).map λa=>(a,t)
noncomputable def jg (w:Wd) (K:List (Nat×Nat)) (i j s t:Nat):Bool:=(cB w i j s t).all λp=>decide (p∈K)
noncomputable def ox (w:Wd) (i j:Nat):List (Nat×Nat):=((w.stp i).map λt=>(0,t))++(w.stp j).map λt=>(1,t)
noncomputable def oF (w:Wd) (K:List (Nat×Nat)) (i j:Nat):Option Rsn:=match letters.find? (rS w i j) with
 | some c=>some (.mk c)
 | none=>((ox w i j).find? λp=>jg w K i j p.1 p.2).map λp=>.st (p.1:Int) (p.2:Int)
noncomputable def nx1 (w:Wd) (K:List (Nat×Nat)) (p:Nat×Nat):Option Row:=if p∈K then none else (oF w K p.1 p.2).map λr=>(p,r)
noncomputable def nxt (w:Wd) (K:List (Nat×Nat)):List Row:=(B6 w.n).filterMap (nx1 w K)
noncomputable def jR (w:Wd):Nat->List Row->List Row
 | 0,known=>known
 | f+1,known=>if (nxt w (known.map (·.1))).isEmpty then known else jR w f (known++nxt w (known.map (·.1)))
noncomputable def iX (l:List Nat) (t:Int):Bool:=l.any λa=>(a:Int)==t
noncomputable def fx (w:Wd) (K:List (Nat×Nat)) (r:Row):Bool:=match r.2 with
 | .mk c=>rS w r.1.1 r.1.2 c
 | .st s t=>decide (s=0\/s=1)&&iX (w.stp (if s=0 then r.1.1 else r.1.2)) t&&jg w K r.1.1 r.1.2 s.toNat t.toNat
noncomputable def df (w:Wd):List (Nat×Nat)->List Row->Bool
 | _,[]=>true
 | K,r::rs=>fx w K r&&df w (K++[r.1]) rs
section
variable {w:Wd} {K K':List (Nat×Nat)} {i j s t:Nat}
theorem rj {l:List Nat} {t:Nat}:iX l (t:Int)=true↔t∈l:=by
 unfold iX;rw [any_eq_true];constructor
 ·rintro ⟨a,U,e⟩
  have:(a:Int)=(t:Int):=by simpa using e
  have:a=t:=by omega
  rw [<-this];exact U
 ·intro h;exact ⟨t,h,by simp⟩
theorem inS_iff {l:List Nat} {t:Int}:iX l t=true↔∃a∈l,(a:Int)=t:=by
 unfold iX;rw [any_eq_true];simp
theorem wV (h:∀p∈K,p∈K') (b:jg w K i j s t=true):jg w K' i j s t=true:=by
 unfold jg at b ⊢
 rw [all_eq_true] at b ⊢;exact λp g=>decide_eq_true (h p (of_decide_eq_true (b p g)))
theorem sJ {r:Row} (h:∀p∈K,p∈K') (b:fx w K r=true):fx w K' r=true:=by
 unfold fx at b ⊢
 split at b
 ·exact b
 ·rw [Bool.and_eq_true] at b ⊢
  exact ⟨b.1,wV h b.2⟩
theorem EI {p:Nat×Nat} (h:p∈ox w i j):(p.1=0/\p.2∈w.stp i)\/(p.1=1/\p.2∈w.stp j):=by
 rcases Nj h with z | z
 ·obtain ⟨a,U,rfl⟩:=List.mem_map.mp z;exact .inl ⟨rfl,U⟩
 ·obtain ⟨a,U,rfl⟩:=List.mem_map.mp z;exact .inr ⟨rfl,U⟩
theorem sI {r:Rsn} (h:oF w K i j=some r):fx w K ((i,j),r)=true:=by
 unfold oF at h;split at h
 ·rename_i c e
  cases h;show rS w i j c=true
  exact find?_some e
 ·obtain ⟨p,g,rfl⟩:=Option.map_eq_some_iff.mp h
  have Z:=find?_some g
  have G:=EI (List.mem_of_find?_eq_some g)
  unfold fx;dsimp only;rw [Bool.and_eq_true,Bool.and_eq_true,decide_eq_true_eq,Int.toNat_natCast,Int.toNat_natCast];refine ⟨⟨by rcases G with z | z<;>omega,?_⟩,Z⟩
  rcases G with z | z
  ·rw [if_pos (by omega),rj];exact z.2
  ·rw [if_neg (by omega),rj];exact z.2
theorem ED {r:Row} (h:r∈nxt w K):r.1.1<w.n/\r.1.2<w.n/\r.1∉K/\fx w K r=true:=by
 obtain ⟨p,g,e⟩:=List.mem_filterMap.mp h;unfold nx1 at e;split at e
 ·cases e
 ·rename_i y
  obtain ⟨q,n,rfl⟩:=Option.map_eq_some_iff.mp e;obtain ⟨R,C⟩:=mem_psN.mp g;exact ⟨R,C,y,sI n⟩
theorem vq {n:Nat}:∀i,(jr n i 0).Nodup
 | 0=>by simp [jr]
 | i+1=>by
  rw [mZ];have N:∀j,j<=n->(jr n i j).Nodup:=by
   intro j;induction j with
   | zero=>intro _;exact vq i
   | succ j f=>
    intro A;rw [mY];refine List.nodup_append.mpr ⟨f (by omega),by simp,λa U b Z z=>?_⟩
    rw [List.mem_singleton.mp Z] at z;subst z;rcases mem_psT.mp U with y | y<;>omega
  exact N n (Nv _)
theorem qN:(nxt w K).map (·.1)=((B6 w.n).filter λp=>(nx1 w K p).isSome):=by
 unfold nxt;generalize B6 w.n=L
 induction L with
 | nil=>rfl
 | cons p L f=>
  rw [filterMap_cons,filter_cons]
  cases e:nx1 w K p with
  | none=>simp [f]
  | some r=>
   have:r.1=p:=by
    unfold nx1 at e;split at e
    ·cases e
    ·obtain ⟨q,_,rfl⟩:=Option.map_eq_some_iff.mp e;rfl
   simp [f,this]
theorem Co:((nxt w K).map (·.1)).Nodup:=by
 rw [qN];exact List.Nodup.sublist filter_sublist (vq w.n)
structure KI (w:Wd) (known:List Row):Prop where
 nd:(known.map (·.1)).Nodup
 lt:∀r∈known,r.1.1<w.n/\r.1.2<w.n
 ok:∀(k:Nat) r,known[k]?=some r->fx w ((known.take k).map (·.1)) r=true
theorem KI.nil:KI w []:=⟨nodup_nil,(λ_ z=>nomatch z),λk r e=>by simp at e⟩
theorem KI.step {c:List Row} (h:KI w c):KI w (c++nxt w (c.map (·.1))):=by
 refine ⟨?_,λr M=>?_,λk r e=>?_⟩
 ·rw [map_append]
  refine List.nodup_append.mpr ⟨h.nd,Co,λa U b Z z=>?_⟩
  obtain ⟨r,M,rfl⟩:=List.mem_map.mp Z;rw [z] at U;exact (ED M).2.2.1 U
 ·rcases Nj M with z | z
  ·exact h.lt r z
  ·exact ⟨(ED z).1,(ED z).2.1⟩
 ·by_cases O:k<c.length
  ·rw [getElem?_append_left O] at e
   rw [List.take_append_of_le_length (by omega)]
   exact h.ok k r e
  ·rw [getElem?_append_right (by omega)] at e
   have G:=mem_of_getElem? e
   refine sJ (λp g=>?_) (ED G).2.2.2
   rw [List.take_append,map_append];exact Ni _ (by rw [take_of_length_le (by omega)];exact g)
theorem KI.len {c:List Row} (h:KI w c) (E:w.n<=24):c.length<=576:=by
 have:=iI (L:=B6 w.n) h.nd λx G=>by
  obtain ⟨r,M,rfl⟩:=List.mem_map.mp G;exact mem_psN.mpr (h.lt r M)
 rw [length_map] at this;unfold B6 at this;rw [qV] at this;have:w.n*w.n<=24*24:=Nat.mul_le_mul E E
 omega
theorem rV (E:w.n<=24):∀(f:Nat) (known:List Row),KI w known->576-known.length<f->KI w (jR w f known)/\nxt w ((jR w f known).map (·.1))=[]
 | 0,_,_,h=>absurd h (Nat.not_lt_zero _)
 | f+1,known,I,h=>by
  unfold jR;split
  ·rename_i e
   exact ⟨I,List.isEmpty_iff.mp e⟩
  ·rename_i e
   refine rV E f _ I.step ?_
   have:=I.step.len E
   have:0<(nxt w (known.map (·.1))).length:=by
    cases q:nxt w (known.map (·.1)) with
    | nil=>rw [q] at e;exact absurd rfl e
    | cons a b=>simp
   rw [length_append] at *;omega
theorem zD (ok:w.Ok) {p:Nat×Nat} (L:t<w.n) (h:p∈cB w i j s t):p.1<w.n/\p.2<w.n:=by
 unfold cB at h;split at h
 ·obtain ⟨a,U,rfl⟩:=List.mem_map.mp h;exact ⟨L,ok.stp_lt U⟩
 ·obtain ⟨a,U,rfl⟩:=List.mem_map.mp h;exact ⟨ok.stp_lt U,L⟩
theorem vQ (ok:w.Ok) (l:i<w.n) (A:j<w.n) (h:∀c∈letters,(w.mks i).contains c=(w.mks j).contains c):w.mks i=w.mks j:=by
 have C:∀{r},r<w.n->∃P:Str->Bool,w.mks r=letters.filter P:=λ{r} hr=>iO ok hr
 obtain ⟨P,d⟩:=C l;obtain ⟨b,a⟩:=C A;rw [d,a];refine filter_congr λc J=>?_
 have:=h c J
 rw [d,a,Bool.eq_iff_iff,contains_iff_mem,contains_iff_mem,mem_filter,mem_filter] at this;rw [Bool.eq_iff_iff];exact ⟨λz=>(this.mp ⟨J,z⟩).2,λz=>(this.mpr ⟨J,z⟩).2⟩
end
noncomputable def eN (w:Wd) (r:Row):List (Nat×Nat):=match r.2 with
 | .mk _=>[]
 | .st s t=>cB w r.1.1 r.1.2 s.toNat t.toNat
noncomputable def gR (c:List Row) (p:Nat×Nat):Row:=(c.find? λr=>decide (r.1=p)).getD (p,.mk "a")
noncomputable def bM (w:Wd):List Row:=jR w 1000 []
noncomputable def o8 (w:Wd) (i j:Nat):List (Nat×Nat):=C0 (λp=>eN w (gR (bM w) p)) 2000 ([(i,j)],[(i,j)])
noncomputable def qx (w:Wd) (i j:Nat):List Row:=(bM w).filter λr=>decide (r.1∈o8 w i j)
section
variable {w:Wd} {i j:Nat}
theorem AR (ok:w.Ok):KI w (bM w)/\nxt w ((bM w).map (·.1))=[]:=rV ok.h24 1000 [] KI.nil (by simp)
theorem JY {c:List Row} (J:(c.map (·.1)).Nodup) {k:Nat} {r:Row} (h:c[k]?=some r):gR c r.1=r:=by
 unfold gR;have:(c.find? λt=>decide (t.1=r.1))=some r:=by
  induction c generalizing k with
  | nil=>simp at h
  | cons a l f=>
   rw [map_cons,List.nodup_cons] at J;rw [find?_cons]
   cases k with
   | zero=>
    have:a=r:=by simpa using h
    subst this;simp
   | succ k=>
    have O:l[k]?=some r:=by simpa using h
    have P:a.1≠r.1:=λe=>J.1 (by rw [e];exact List.mem_map.mpr ⟨r,mem_of_getElem? O,rfl⟩)
    rw [decide_eq_false P];exact f J.2 O
 rw [this];rfl
theorem wX {K:List (Nat×Nat)} {r:Row} (b:fx w K r=true):∀q∈eN w r,q∈K:=λq n=>by
 unfold fx at b;unfold eN at n;split at b
 ·rename_i c e;rw [e] at n;cases n
 ·rename_i s t e
  rw [e] at n;rw [Bool.and_eq_true] at b;have h:=b.2
  unfold jg at h;rw [all_eq_true] at h;exact of_decide_eq_true (h q n)
noncomputable def il (c:List Row) (k:Nat) (p:Nat×Nat):Prop:=∃m r,m<=k/\c[m]?=some r/\r.1=p
theorem EG {c:List Row} (I:KI w c) {k:Nat}:∀p,il c k p->∀q∈eN w (gR c p),il c k q:=by
 rintro p ⟨m,r,hm,e,rfl⟩ q hq
 rw [JY I.nd e] at hq;have:=wX (I.ok m r e) q hq
 obtain ⟨t,a,rfl⟩:=List.mem_map.mp this;obtain ⟨E,U,J⟩:=getElem_of_mem a
 rw [length_take] at U;rw [List.getElem_take] at J;exact ⟨E,t,by omega,by rw [Nl (by omega),J],rfl⟩
theorem Cs (ok:w.Ok) {k:Nat} {o:Row} (l:(bM w)[k]?=some o) (X:o.1=(i,j)):WI (il (bM w) k) (λp=>eN w (gR (bM w) p)) (i,j) (o8 w i j,[]):=by
 obtain ⟨I,_⟩:=AR ok;have u:il (bM w) k (i,j):=⟨k,o,Nv _,l,X⟩
 refine Av (M:=576) (λU J O=>?_) (λx G=>EG I x G) 2000 _ ⟨⟨by simp,λx G=>by rw [List.mem_singleton.mp G];exact u,λ_ z=>z,Nv _⟩,List.mem_singleton.mpr rfl,λx G=>.inl G⟩ (by simp)
 have:=iI (L:=(bM w).map (·.1)) J λx G=>by
  obtain ⟨m,r,_,e,rfl⟩:=O x G;exact List.mem_map.mpr ⟨r,mem_of_getElem? e,rfl⟩
 rw [length_map] at this;have:=I.len ok.h24
 omega
theorem gZ {S:Nat×Nat->Bool}:∀{rest:List Row} {K:List (Nat×Nat)},df w K rest=true->(∀r∈rest,S r.1=true->∀q∈eN w r,S q=true)->df w (K.filter S) (rest.filter λr=>S r.1)=true
 | [],K,_,_=>rfl
 | r::rest,K,h,cl=>by
  unfold df at h;rw [Bool.and_eq_true] at h;have f:=gZ (S:=S) h.2 λb a=>cl b (Nn _ a)
  rw [filter_append] at f;rw [filter_cons]
  cases e:S r.1 with
  | false=>
   rw [show [r.1].filter S=[] by simp [e],append_nil] at f
   exact f
  | true=>
   rw [show [r.1].filter S=[r.1] by simp [e]] at f
   rw [if_pos rfl,df,Bool.and_eq_true];refine ⟨?_,f⟩
   have R:=h.1
   have v:=wX R
   have F:=cl r mem_cons_self e
   unfold fx at R ⊢
   unfold eN at v F;split at R
   ·exact R
   ·rename_i s t m
    rw [m] at v F
    rw [Bool.and_eq_true] at R ⊢;refine ⟨R.1,?_⟩
    unfold jg;rw [all_eq_true];exact λq n=>decide_eq_true (List.mem_filter.mpr ⟨v q n,F q n⟩)
theorem KI.hold {c:List Row} (I:KI w c):df w [] c=true:=by
 have N:∀(rest d:List Row),c=d++rest->df w (d.map (·.1)) rest=true:=by
  intro rest;induction rest with
  | nil=>intro _ _;rfl
  | cons r rest f=>
   intro d e;unfold df;rw [Bool.and_eq_true];refine ⟨?_,?_⟩
   ·have:=I.ok d.length r (by rw [e,getElem?_append_right (Nv _),Nat.sub_self];rfl)
    rw [e,List.take_left] at this;exact this
   ·have:=f (d++[r]) (by rw [e];simp)
    rw [map_append] at this;exact this
 exact N c [] rfl
theorem uW (ok:w.Ok) (h:(i,j)∈(bM w).map (·.1)):df w [] (qx w i j)=true/\(∀r∈qx w i j,r.1.1<w.n/\r.1.2<w.n)/\(qx w i j).length<=576/\∃d r,qx w i j=d++[r]/\r.1=(i,j):=by
 obtain ⟨I,_⟩:=AR ok;obtain ⟨o,e,X⟩:=List.mem_map.mp h;obtain ⟨k,O,F⟩:=getElem_of_mem e;have l:(bM w)[k]?=some o:=by rw [Nl O,F]
 have W:=Cs ok l X
 have L:∀p∈o8 w i j,∀q∈eN w (gR (bM w) p),q∈o8 w i j:=λp g=>(W.cl p g).resolve_left nofun
 have f:=gZ (S:=λp=>decide (p∈o8 w i j)) I.hold λr M y q n=>by
  obtain ⟨m,G,c⟩:=getElem_of_mem M;have er:=JY I.nd (k:=m) (r:=r) (by rw [Nl G,c])
  exact decide_eq_true (L r.1 (of_decide_eq_true y) q (by rw [er];exact n))
 refine ⟨f,λr M=>I.lt r (List.mem_filter.mp M).1,Nat.le_trans (length_filter_le _ _) (I.len ok.h24),(qx w i (j)).dropLast,o,?_,X⟩
 have b:bM w=(bM w).take k++o::(bM w).drop (k+1):=by
  rw [<-F,<-drop_eq_getElem_cons O,take_append_drop]
 have B:qx w i j=((bM w).take k).filter (λr=>decide (r.1∈o8 w i j))++[o]:=by
  unfold qx;conv=>lhs;rw [b]
  rw [filter_append,filter_cons,if_pos (decide_eq_true (by rw [X];exact W.a0))]
  have:((bM w).drop (k+1)).filter (λr=>decide (r.1∈o8 w i j))=[]:=List.filter_eq_nil_iff.mpr λr M y=>by
   obtain ⟨m,G,c⟩:=getElem_of_mem M;rw [List.getElem_drop] at c;rw [length_drop] at G;obtain ⟨E,t,U,J,a⟩:=W.b.ok _ (of_decide_eq_true y);have R:=(Nq J).1
   have C:=(Nq J).2
   have:=(List.getElem_inj (xs:=(bM w).map (·.1)) (i:=E) (j:=k+1+m) (h₀:=by rw [length_map];omega) (h₁:=by rw [length_map];omega) I.nd).mp (by rw [List.getElem_map,List.getElem_map,C,c];exact a)
   omega
  rw [this]
 rw [B,List.dropLast_concat]
end
end KC.Ap
namespace KC
open PySem PySem.Spec L2 T PySem.SeqAt
open PyProof.Rows hiding St
section
variable {w:Wd} {o:Bool} {N:List Nat} {m:Nat}
theorem Ab (ok:w.Ok) {r:Nat} (M:r<w.n):(w.stp r).length<=30:=by
 have:w.stp r∈w.s:=by
  unfold Wd.stp;rw [Nm,Nl (by rw [ok.ls];exact M)]
  exact getElem_mem _
 exact (ok.st _ this).2.1
end
noncomputable abbrev Ei (a b:Nat):TE:=mz (aL (aG a) (aL (aG b) b5))
noncomputable def Mb (K:Fg):TT:=λM H Q=>aG 6 M H λx F=>∃k,w9 K x F k/\Q k F
noncomputable abbrev fPB:F1:=ag 3 m_pairs_behind (ab (ae 0) (ab (ae 4) (ab (ae 7) af)))
noncomputable def Ky (P:Program) (w:World) (K:Fg):L2.TS:=fK (tB (fL P w K (aG 8) (aG 5))) (bL (qw P w K (aG 5) (aG 8) (tC (.bl true))) (iA (Fn K "list" ir (aG 6) (aL (aG 8) b5)))) cU
noncomputable abbrev pv (p:Nat×Nat):List V:=[.int (p.1:Int),.int (p.2:Int)]
noncomputable abbrev kT:Nat->Nat->Bool:=λ_ _=>true
theorem hid_upd {H:Hp} {O:List Addr} {a:Addr} {I:HO} (h:a∈O):aS (aR H a I) O=aS H O:=by
 funext b
 unfold aS;split
 ·rfl
 ·rename_i n
  exact cb λz=>n (by rw [z];exact h)
theorem vX {U:List (Nat×Nat)} {q:Nat×Nat}:ph U kT++[(ky q.1 q.2,.bl true)]=ph (U++[q]) kT:=by
 unfold ph;rw [map_append];rfl
theorem vY {U:List (Nat×Nat)} {q:Nat×Nat}:(dj (ph U kT) (ky q.1 q.2)).isSome=decide (q∈U):=by
 by_cases h:q∈U
 ·rw [vZ (i:=q.1) (j:=q.2) h,decide_eq_true h];rfl
 ·rw [JB (i:=q.1) (j:=q.2) h,decide_eq_false h];rfl
structure IK (P:Program) (w:World) (K:Fg) (He:Hp) (O:List Addr) (d l:Addr) (H:Hp) (p:List (Nat×Nat)×List (Nat×Nat)):Prop where
 s:Same He H
 hD:D2H P w K H O [false,false] d (ph p.1 kT)
 bs:∃bs:List Addr,H l=some (.lst (bs.map V.ref))/\bs.length=p.2.length/\∀(k:Nat) b q,bs[k]?=some b->p.2[k]?=some q->SqT K (aS H (d::l::O)) b (pv q)
section
variable {P:Program} {w:World} {K:Fg} {He H H':Hp} {O:List Addr} {d l:Addr} {p:List (Nat×Nat)×List (Nat×Nat)}
theorem sub2:∀a∈O,a∈d::l::O:=λa h=>Nn _ (Nn _ h)
theorem D2H.grow {F:List Bool} {E:List (List T.It×V)} (x:D2H P w K H O F d E) (s:Same H H'):D2H P w K H' O F d E:=let ⟨Y,R,C,n⟩:=x;⟨Y,s _ _ R,C.mono λc Y=>bB (fF s λa h=>.inl h),n⟩
theorem IK.grow (I:IK P w K He O d l H p) (s:Same H H'):IK P w K He O d l H' p:=⟨I.s.trans s,D2H.grow I.hD s,let ⟨bs,R,C,n⟩:=I.bs;⟨bs,s _ _ R,C,λk b q a c=>bB (fF s λa h=>.inl h) (n k b q a c)⟩⟩
theorem D2H.ext {F:List Bool} {E:List (List T.It×V)} (x:D2H P w K H O F d E):∃A,H d=some (.ext A):=let ⟨_,h,_⟩:=x;⟨_,h⟩
theorem D2H.updL {F:List Bool} {E:List (List T.It×V)} {Y:List V} {I:HO} (x:D2H P w K H O F d E) (N:H l=some (.lst Y)):D2H P w K (aR H l I) O F d E:=by
 obtain ⟨A,X⟩:=D2H.ext x;refine D2H.mono x (cb λz=>by rw [z,N] at X;cases X) λc G h=>J6 (λL z=>by rw [N] at z;cases z) (λL o z=>by rw [N] at z;cases z) h
theorem FV {wd:Wd} {N:List Nat} {q:Nat×Nat} {b:Addr} {M:St} {D:dW} (I:IK P w K He O d l H p) (h:He d=none) (s:He l=none) (t:M[5]?=some (some (.ref d))) (G:M[6]?=some (some (.ref l))) (f:M[8]?=some (some (.ref b))) (Z:SqT K (aS H (d::l::O)) b (pv q)) (R:p.1.length<1000) (C:p.2.length<1000)
  (n:∀H',aS H' (d::l::O)=aS H (d::l::O)->IK P w K He O d l H' (xP p q)->D.nx M H'):Ky P w K D M H:=by
 have j:(1000:Nat)<=sizeLine:=by decide
 have u:SqT K (aS H O) b (pv q):=bB (Im sub2) Z
 have L:K2 K (aS H O) (ky q.1 q.2) b:=⟨_,u,.cons rfl (.cons rfl .nil)⟩
 refine ⟨.ref b,f,.ref d,t,d,b,[false,false],_,ky q.1 q.2,rfl,rfl,I.hD.d,L.mono (λc Y=>bB hid_le),rfl,_,rfl,?_⟩
 rw [vY];by_cases v:q∈p.1
 ·rw [decide_eq_true v]
  refine dq (n H rfl ?_)
  unfold xP;rw [if_pos v];exact I
 ·rw [decide_eq_false v]
  obtain ⟨bs,B,m,x⟩:=I.bs;obtain ⟨A,X⟩:=D2H.ext I.hD;have a:d≠l:=λz=>by rw [z,B] at X;cases X
  have y:dj (ph p.1 kT) (ky q.1 q.2)=none:=JB v
  refine dQ ⟨.ref d,t,.ref b,f,d,b,[false,false],_,ky q.1 q.2,O,rfl,rfl,I.hD,L,rfl,by rw [yO];exact R,y,λE e=>?_⟩
  rw [vX] at e;have i:aR H d E l=some (.lst (bs.map V.ref)):=by rw [cb (Ne.symm a)];exact B
  refine ⟨.ref l,G,.inl ⟨rfl,_,.of i⟩,.ref b,f,l,bs.map V.ref,.ref b,rfl,rfl,i,by rw [length_map,m];omega,n _ (by rw [hid_upd (by simp),hid_upd (by simp)]) ?_⟩
  unfold xP;rw [if_neg v];refine ⟨λc o J=>?_,D2H.updL e i,bs++[b],by rw [cL,map_append];rfl,by simp [m],λk c r F g=>?_⟩
  ·rw [cb (λz=>by subst z;rw [s] at J;cases J),cb (λz=>by subst z;rw [h] at J;cases J)]
   exact I.s c o J
  ·rw [hid_upd (by simp),hid_upd (by simp)]
   by_cases U:k<bs.length
   ·rw [getElem?_append_left U] at F
    rw [getElem?_append_left (by omega)] at g
    exact x k c r F g
   ·rw [getElem?_append_right (by omega)] at F
    rw [getElem?_append_right (by omega)] at g
    have:k-bs.length=0:=by
     have:=(Nq F).1
     simp at this
     omega
    rw [this] at F;rw [<-m,this] at g
    cases F
    cases g;exact Z
end
noncomputable abbrev sk (I a:V) (i j:Nat) (o:Bool) (d l:Addr) (y f:Option V):St:=[some I,some (.int (i:Int)),some (.int (j:Int)),some (.bl o),some a,some (.ref d),some (.ref l),y,f]
end KC
namespace KC.Ap
open PySem PySem.Spec L2 T PySem.SeqAt
open PyProof.Rows hiding St
open KC
noncomputable def tM (U:List (Nat×Nat)) (f:Nat×Nat->V):List (List T.It×V):=U.map λp=>(ky p.1 p.2,f p)
theorem DW {f:Nat×Nat->V} {p:Nat×Nat}:∀{U:List (Nat×Nat)},p∈U->dj (tM U f) (ky p.1 p.2)=some (f p)
 | q::U,h=>by
  by_cases e:ky q.1 q.2=ky p.1 p.2
  ·obtain ⟨B,m⟩:=Ib e
   have:q=p:=Prod.ext B m
   subst this;exact Kh rfl
  ·refine (EM (p:=(ky q.1 q.2,f q)) (r:=tM U f) e).trans (DW ((Nk h).resolve_left λz=>e ?_))
   rw [z]
theorem Io {f:Nat×Nat->V} {p:Nat×Nat}:∀{U:List (Nat×Nat)},p∉U->dj (tM U f) (ky p.1 p.2)=none
 | [],_=>rfl
 | q::U,h=>by
  have e:¬ky q.1 q.2=ky p.1 p.2:=λe=>h (by
   obtain ⟨B,m⟩:=Ib e;have:q=p:=Prod.ext B m
   rw [this];exact mem_cons_self)
  exact (EM (p:=(ky q.1 q.2,f q)) (r:=tM U f) e).trans (Io λz=>h (Nn _ z))
theorem JI {f:Nat×Nat->V} {p:Nat×Nat} {U:List (Nat×Nat)}:(dj (tM U f) (ky p.1 p.2)).isSome=decide (p∈U):=by
 by_cases h:p∈U
 ·rw [DW h,decide_eq_true h];rfl
 ·rw [Io h,decide_eq_false h];rfl
theorem qZ {f:Nat×Nat->V} {U:List (Nat×Nat)}:(tM U f).length=U.length:=by unfold tM;rw [length_map]
noncomputable def DF (P:Program) (w:World) (K:Fg) (H:Hp) (d:Addr) (U:List (Nat×Nat)) (f:Nat×Nat->V):Prop:=D2 P w K H [false,false] d (tM U f)
noncomputable def DK (P:Program) (w:World) (K:Fg) (H:Hp) (d:Addr) (U:List (Nat×Nat)):Prop:=∃f,DF P w K H d U f
theorem DF.grow {P:Program} {w:World} {K:Fg} {H F:Hp} {d:Addr} {U:List (Nat×Nat)} {f:Nat×Nat->V} (x:DF P w K H d U f) (s:Same H F):DF P w K F d U f:=by
 obtain ⟨Y,R,C,n⟩:=x;exact ⟨Y,s _ _ R,C.mono λc Y=>bB s,n⟩
theorem DK.grow {P:Program} {w:World} {K:Fg} {H F:Hp} {d:Addr} {U:List (Nat×Nat)} (x:DK P w K H d U) (s:Same H F):DK P w K F d U:=let ⟨f,h⟩:=x;⟨f,h.grow s⟩
noncomputable def jL:FS:=(ak (b8 (aM ai (ar bp (ae 3) (eK (.int 0)))) (aE (aq .leaf 5 (aU (ah (ah (ae 0) (eK (.int 2))) (ae 2))) aK (bz (ab (ae 4) (ab (ae 5) af))))) aJ)
  (aE (aq .leaf 5 (aU (ah (ah (ae 0) (eK (.int 2))) (ae 1))) aK (bz (ab (ae 5) (ab (ae 4) af))))))
noncomputable def bF:List Nw->bA:=aB 6 jL
noncomputable def lN:FS:=(aE (ar gy (ar (bx false) (ae 3) (ah (ah (ae 0) (eK (.int 1))) (ae 1))) (ar (bx false) (ae 3) (ah (ah (ae 0) (eK (.int 1))) (ae 2)))))
noncomputable def ck:List Nw->bA:=aB 4 lN
theorem CT {c:Str} {l:List Str} (J:PyData.strOk c=true) (N:∀x∈l,PyData.strOk x=true):bx false (.str c) (cP l)=some (.bool (l.contains c)):=by
 have A:shaped (.str c)=true:=DZ J
 have b:shaped (cP l)=true:=by
  have q:=Hu (xs:=l.map .str) λd F=>by
   obtain ⟨x,G,rfl⟩:=List.mem_map.mp F;exact ⟨x,rfl,N x G⟩
  unfold shaped;show (PyData.canLay0 (.list (l.map .str))&&decide (PyData.depth (.list (l.map .str))<=64))=true
  rw [PyData.canLay0,q.1,Bool.true_and,PyData.depth,q.2];rfl
 show (if shaped (.str c)&&shaped (.list (l.map .str)) then some (PyData.bool (if false=true then _ else (l.map .str).any λy=>PyData.eqv y (.str c))) else none)=_
 have a:shaped (.list (l.map PyData.str))=true:=b
 rw [A,a,Bool.and_self,if_pos rfl,if_neg Bool.false_ne_true];congr 2
 rw [Bool.eq_iff_iff,any_eq_true,contains_iff_mem];constructor
 ·rintro ⟨y,o,e⟩
  obtain ⟨x,G,rfl⟩:=List.mem_map.mp o;have:x=c:=by simpa [PyData.eqv] using e
  rw [<-this];exact G
 ·intro h
  exact ⟨.str c,List.mem_map.mpr ⟨c,h,rfl⟩,by simp [PyData.eqv]⟩
theorem Lo {a b:Bool}:gy (.bool a) (.bool b)=some (.bool (a != b)):=by cases a<;>cases b<;>kernel_rfl
theorem vO {X:Wd} (ok:X.Ok) {r:Nat}:∀x∈X.mks r,PyData.strOk x=true:=λx G=>by
 unfold Wd.mks at G;rw [Nm] at G
 cases e:X.m[r]? with
 | none=>rw [e] at G;cases G
 | some l=>rw [e] at G;exact ok.mc l (mem_of_getElem? e) x G
section
variable {wd:Wd} {i j:Nat}
theorem Dp (ok:wd.Ok) (l:i<wd.n) (A:j<wd.n) {c:Str} (J:PyData.strOk c=true):ck [wd.enc,rm i,rm j,.str c]=.ok ⟨.leaf,.bool (rS wd i j c)⟩:=
 aV (aX (aA (aA (aw (i:=3) rfl) (JJ ok (Γ:=aN 4 [wd.enc,rm i,rm j,.str c]) (i:=0) (fb:=ae 1) (s:=.leaf) rfl (aw rfl) l) (CT J (vO ok))) (aA (aw (i:=3) rfl) (JJ ok (i:=0) (fb:=ae 2) (s:=.leaf) rfl (aw rfl) A) (CT J (vO ok))) Lo) rfl)
theorem wJ (ok:wd.Ok) (l:i<wd.n) (A:j<wd.n) {s t:Nat} (Y:s<=1):bF [wd.enc,rm i,rm j,rm s,rm t]=.ok ⟨.lst .leaf,.list ((cB wd i j s t).map xm)⟩:=by
 have H:=cH (s:=.leaf) (aA (aw (Γ:=aN 6 [wd.enc,rm i,rm j,rm s,rm t]) (i:=3) (d:=rm s) rfl) (aO (d:=.int 0)) (KC.eq_int (a:=(s:Int)) (b:=0)))
 have J:=Ab ok l
 have q:=Ab ok A
 have F:=Iq ok (Γ:=aN 6 [wd.enc,rm i,rm j,rm s,rm t]) (i:=0) (fb:=ae 2) (s:=.leaf) (r:=j) rfl (aw rfl) A
 have g:=Iq ok (Γ:=aN 6 [wd.enc,rm i,rm j,rm s,rm t]) (i:=0) (fb:=ae 1) (s:=.leaf) (r:=i) rfl (aw rfl) l
 unfold cB;by_cases h:s=0
 ·subst h
  rw [if_pos rfl,map_map];exact aV (ur (bJ (t:=true) H (λ_=>aX (uA rm (wd.stp j) (λa=>⟨.tup [.leaf,.leaf],xm (t,a)⟩) (st:=true) (dB (s:=.leaf) F rfl) (by simp [aN]) rfl (by omega) λa U=>⟨cJ (az (aw (i:=4) rfl) (az (aw (i:=5) rfl) aj)) rfl rfl,rfl⟩) rfl) nofun))
 ·rw [if_neg h,map_map]
  have e:((s:Int)==0)=false:=by simpa using (by omega:(s:Int)≠0)
  rw [e] at H;exact aV (ay (bJ (t:=false) H nofun (λ_=>rfl)) (aX (uA rm (wd.stp i) (λa=>⟨.tup [.leaf,.leaf],xm (a,t)⟩) (st:=true) (dB (s:=.leaf) g rfl) (by simp [aN]) rfl (by omega) λa U=>⟨cJ (az (aw (i:=5) rfl) (az (aw (i:=4) rfl) aj)) rfl rfl,rfl⟩) rfl))
end
noncomputable abbrev oC:List Str:=["world", "one", "other", "side", "there", "known", "pair"]
noncomputable abbrev xg:List Str:=["all", "pairs_asked"]
noncomputable abbrev Jj:F1:=ag 5 bF (ab (ae 0) (ab (ae 1) (ab (ae 2) (ab (ae 3) (ab (ae 4) af)))))
noncomputable def KH (P:Program) (w:World) (K:Fg):L2.TS:=dC (xM (vj K false) (aL (eo [6] (cS K (tE K W0 Jj)) (aP 6) gO (j0 P w K (aG 6) (aG 5))) b5))
noncomputable def xT (P:Program) (w:World) (K:Fg):Sp:=λL H Q _=>∃(X:Wd) (O:List Addr) (v0:V) (d:Addr) (ks:List (Nat×Nat)) (i j s t:Nat),L=[v0,.int (i:Int),.int (j:Int),.int (s:Int),.int (t:Int),.ref d]/\X.Ok/\O.Nodup/\(∀a∈O,H a≠none)/\Rep K (aS H O) v0 X.enc/\DK P w K H d ks/\i<X.n/\j<X.n/\s<=1/\∀F,Same H F->Q (.bl (jg X ks i j s t)) F
theorem oA {X:Wd} (ok:X.Ok) {i j s t:Nat}:(cB X i j s t).length<=1000:=by
 unfold cB;split<;>(rw [length_map];exact uS ok)
section
variable {P:Program} {w:World} {K:Fg} {H:Hp}
theorem FX {M:List V} {Q:VK} {E:XK} {n:St->Hp->Prop} (h:xT P w K M H Q E):KH P w K { nx:=n,rt:=Q } (L2.start oC M) H:=by
 obtain ⟨X,O,I,d,U,i,j,s,t,rfl,ok,J,g,o,⟨f,e⟩,l,A,Y,q⟩:=h;show KH P w K { nx:=n,rt:=Q } [some I,some (.int (i:Int)),some (.int (j:Int)),some (.int (s:Int)),some (.int (t:Int)),some (.ref d),none] H
 have E0:EnvOk K H O (List.replicate (([Nx X.enc,Nx (rm i),Nx (rm j),Nx (rm s),Nx (rm t),none,none]:Ev)).length []) H [some I,some (.int (i:Int)),some (.int (j:Int)),some (.int (s:Int)),some (.int (t:Int)),some (.ref d),none] [Nx X.enc,Nx (rm i),Nx (rm j),Nx (rm s),Nx (rm t),none,none]:=by
  refine zk J g rfl λk x G=>?_
  match k,G with
  | 0,G=>cases G;exact ⟨rfl,_,rfl,o⟩
  | 1,G=>cases G;exact ⟨rfl,_,rfl,.int _⟩
  | 2,G=>cases G;exact ⟨rfl,_,rfl,.int _⟩
  | 3,G=>cases G;exact ⟨rfl,_,rfl,.int _⟩
  | 4,G=>cases G;exact ⟨rfl,_,rfl,.int _⟩
  | 5,G=>cases G
  | 6,G=>cases G
  | k+7,G=>cases G
 show tE K W0 Jj _ H _
 refine uy g E0 (cv (az (aw (i:=0) rfl) (az (aw (i:=1) rfl) (az (aw (i:=2) rfl) (az (aw (i:=3) rfl) (az (aw (i:=4) rfl) aj))))) (wJ ok l A Y) rfl rfl) rfl λv H1 R r1=>?_
 cases r1 with
 | @lst p ws _ hq hl hr=>
 rw [length_map] at hl;have F:=sO (K:=K) (σ:=[some I,some (.int (i:Int)),some (.int (j:Int)),some (.int (s:Int)),some (.int (t:Int)),some (.ref d),none]) (H:=H1) (Q:=λv z=>vj K false [v] z Q) (c:=6) (tl:=λ_ H Q=>Q (.ref p) H) (te:=j0 P w K (aG 6) (aG 5)) (p:=p) (ws:=ws) (row:=cB X i j s t) (f:=λq=>decide (q∈U)) (λC h=>h) (hid_le.seq hq) hl (oA ok) (λk v a B m z C N u=>?_) λL z N hL r=>?_
 ·exact F
 ·obtain ⟨b,rfl,Z⟩:=Jq (hr k v (xm a) B (by rw [getElem?_map,m];rfl))
  have y:SqT K z b (pv a):=bB (hid_le.trans N) Z
  refine ⟨.ref b,by simp [bj],.ref d,by simp [bj],d,b,[false,false],_,ky a.1 a.2,rfl,rfl,DF.grow e (R.trans N),⟨_,y,.cons rfl (.cons rfl .nil)⟩,rfl,?_⟩
  rw [JI];exact u z (Same.refl _)
 ·refine ⟨L,(cB X i j s t).map λq=>decide (q∈U),rfl,.inl (.inl r),?_⟩
  rw [if_neg Bool.false_ne_true,List.all_map];exact q z (R.trans N)
end
noncomputable def DQ (P:Program) (w:World) (K:Fg) (I:Str->Option Value) (m:Heap) (j:Nat):Prop:=
 ∃(f:Addr) (fd:FuncData) (ps:List Str),cC P w K I m g5 j f fd ps (xT P w K)/\I "is_by_step"=some (.ref f)/\PySem.W.keepIn K (.ref f)=true/\Binds K fd ps []
noncomputable abbrev L6 (X:Cx):Prop:=∃(k:Nat) (f:Addr) (fd:FuncData) (ps:List Str),cC X.prog X.w X.K X.mg X.base g5 k f fd ps (xT X.prog X.w X.K)/\Room k X.A/\X.mg "is_by_step"=some (.ref f)/\PySem.W.keepIn X.K (.ref f)=true/\Binds X.K fd ps []
noncomputable abbrev xb:List Str:=["world", "one", "other", "known", "letter", "side", "room", "there"]
noncomputable abbrev DN:List Str:=["LETTERS", "is_by_mark", "enumerate", "is_by_step"]
noncomputable abbrev rg:D:=.tuple [.str "a",.str "b",.str "c",.str "d",.str "e",.str "f"]
noncomputable abbrev MC:FB:=aM cF (ag 4 ck (ab (ae 0) (ab (ae 1) (ab (ae 2) (ab (ae 4) af)))))
noncomputable abbrev Lz:F1:=ah (ah (ae 0) (eK (.int 2))) (ae 6)
noncomputable def Ff (P:Program) (w:World) (K:Fg):L2.TS:=fK (tB (ff (xT P w K) [] L2.E0 (aL (aG 0) (aL (aG 1) (aL (aG 2) (aL (aG 5) (aL (aG 7) (aL (aG 3) b5)))))))) (dC (mz (aL (tC (.str "step")) (aL (aG 5) (aL (aG 7) b5))))) cU
noncomputable def KF (P:Program) (w:World) (K:Fg):L2.TS:=bL (eY (CU K (tE K W0 (eK rg))) (aP 4) (fK (tT K W0 MC) (dC (mz (aL (tC (.str "mark")) (aL (aG 4) b5)))) cU))
 (bL (eY (Au K (aL (uN (aL (aG 1) (aL (aG 2) b5))) b5)) (G4 K 2 (wx (aP 5) (wx (aP 6) G5))) (eY (cS K (tE K W0 Lz)) (aP 7) (Ff P w K))) (dC (tC .non)))
noncomputable def MS (o:Option Rsn):D:=match o with
 | none=>.none
 | some r=>bH r
noncomputable def xS (P:Program) (w:World) (K:Fg):Sp:=λL H Q _=>∃(X:Wd) (O:List Addr) (v0:V) (d:Addr) (ks:List (Nat×Nat)) (i j:Nat),L=[v0,.int (i:Int),.int (j:Int),.ref d]/\X.Ok/\O.Nodup/\(∀a∈O,H a≠none)/\Rep K (aS H O) v0 X.enc/\DK P w K H d ks/\i<X.n/\j<X.n/\∀v F,Same H F->Rep K (aS F O) v (MS (oF X ks i j))->Q v F
noncomputable abbrev sr (I:V) (i j:Nat) (d:Addr) (o C b y:Option V):St:=[some I,some (.int (i:Int)),some (.int (j:Int)),some (.ref d),o,C,b,y]
noncomputable abbrev GR (X:Wd) (i j:Nat) (o b:Option PV):Ev:=[Nx X.enc,Nx (rm i),Nx (rm j),none,o,none,b,none]
theorem wB {K:Fg} {a:Addr} {xs:List V} {g:TG} {u:L2.TS} {D:dW} {M:St} {H:Hp} (b:Nat->St->Hp->Prop) (l:b 0 M H) (f:∀i M H,i<=xs.length->b i M H->SqL K H a xs)
  (Y:∀(i:Nat) x M H T,xs[i]?=some x->b i M H->H T=none->g (.ref T) M (aR H T (.tup [.int (i:Int),x])) λw j=>u { D with nx:=b (i+1),ct:=b (i+1),bk:=D.nx } w j) (d:∀M H,b xs.length M H->D.nx M H) :
  ∃W:Nat->Nat->St->Hp->Prop,(∃m,W 0 m M H)/\∀i m M H,W i m M H ->
   ((Eo K a).stop i H/\D.nx M H)\/((Eo K a).go i H/\∃N:St->Hp->Prop,(∀A F,N A F->∃E,E<m/\W (i+1) E A F)/\∀x F,(Eo K a).yld i H x F->g x M F λw j=>u { D with nx:=N,ct:=N,bk:=D.nx } w j):=by
 refine ⟨λi m M H=>m=xs.length-i/\i<=xs.length/\b i M H,⟨xs.length,by simp,Nat.zero_le _,l⟩,?_⟩
 rintro i m M H ⟨rfl,hi,p⟩
 have q:=f i M H hi p
 by_cases X:i<xs.length
 ·refine .inr ⟨⟨xs,xs[i],q,Nl X⟩,b (i+1),λA F c=>⟨xs.length-(i+1),by omega,rfl,X,c⟩,λx F y=>?_⟩
  obtain ⟨T,v,rfl,C,rfl,P⟩:=y;have e:=P xs q
  exact Y i v M H T e p C
 ·have e:i=xs.length:=by omega
  subst e;exact .inl ⟨⟨xs,q,Nv _⟩,d M H p⟩
theorem rE {u:Type} {L:List u} {p:u->Bool} {m:Nat} {t:u} (h:∀x∈L.take m,p x=false) (e:L[m]?=some t) (g:p t=true):L.find? p=some t:=by
 have a:L=L.take m++t::L.drop (m+1):=by
  obtain ⟨R,C⟩:=Nq e
  rw [<-C,<-drop_eq_getElem_cons R,take_append_drop]
 rw [a,find?_append,List.find?_eq_none.mpr λx G=>by rw [h x G];exact Bool.false_ne_true]
 simp [g]
theorem zx {X:Wd} {U:List (Nat×Nat)} {i j k m t:Nat} (O:k<=1) (l:∀p∈ox X i j,p.1<k->jg X U i j p.1 p.2=false) (h:∀x∈(X.stp (if k=0 then i else j)).take m,jg X U i j k x=false) (e:(X.stp (if k=0 then i else j))[m]?=some t) (g:jg X U i j k t=true):((ox X i j).find? λp=>jg X U i j p.1 p.2)=some (k,t):=by
 unfold ox;rw [find?_append];match k,O with
 | 0,_=>
  rw [if_pos rfl] at h e
  rw [rE (L:=(X.stp i).map λt=>(0,t)) (m:=m) (t:=(0,t)) (λx G=>by
   rw [<-List.map_take] at G;obtain ⟨y,o,rfl⟩:=List.mem_map.mp G;exact h y o) (by rw [getElem?_map,e];rfl) g]
  rfl
 | 1,_=>
  rw [if_neg (by decide)] at h e
  rw [List.find?_eq_none.mpr (λx G=>by rw [l x (Ni _ G) (by obtain ⟨y,_,rfl⟩:=List.mem_map.mp G;exact Nat.zero_lt_one)];exact Bool.false_ne_true),rE (L:=(X.stp j).map λt=>(1,t)) (m:=m) (t:=(1,t)) (λx G=>by
   rw [<-List.map_take] at G;obtain ⟨y,o,rfl⟩:=List.mem_map.mp G;exact h y o) (by rw [getElem?_map,e];rfl) g]
  rfl
theorem yK:∀c∈letters,PyData.strOk c=true:=by decide +kernel
section
variable {P:Program} {w:World} {K:Fg} {H:Hp}
theorem FU {L:List V} {Q:VK} {E:XK} {Qn:St->Hp->Prop} (h:xS P w K L H Q E):KF P w K { nx:=Qn,rt:=Q } (L2.start xb L) H:=by
 obtain ⟨X,O,I,d,ks,i,j,rfl,ok,J,inH,r0,hD,hi,hj,q⟩:=h;show KF P w K { nx:=Qn,rt:=Q } (sr I i j d none none none none) H
 have iX:∀{F},Same H F->∀a∈O,F a≠none:=λ{F} s a U=>by
  cases e:H a with
  | none=>exact absurd e (inH a U)
  | some u=>rw [s a u e];exact Option.some_ne_none _
 have mono:∀{F},Same H F->Same (aS H O) (aS F O):=λs=>fF s λa U=>.inl U
 have EE:∀(F:Hp) (o x5 b y:Option V) (y4 y6:Option PV),Same H F->(∀p,y4=some p->p.s=.leaf/\∃v,o=some v/\Rep K (aS F O) v p.d)->(∀p,y6=some p->p.s=.leaf/\∃v,b=some v/\Rep K (aS F O) v p.d)->EnvOk K F O (List.replicate (GR X i j y4 y6).length []) F (sr I i j d o x5 b y) (GR X i j y4 y6):=λF o x5 b y y4 y6 s f h6=>by
  refine zk J (iX s) rfl λn x G=>?_
  match n,G with
  | 0,G=>cases G;exact ⟨rfl,_,rfl,r0.mono (mono s)⟩
  | 1,G=>cases G;exact ⟨rfl,_,rfl,.int _⟩
  | 2,G=>cases G;exact ⟨rfl,_,rfl,.int _⟩
  | 3,G=>cases G
  | 4,G=>
   have:y4=some x:=by simpa using G
   obtain ⟨a,v,e,r⟩:=f x this;exact ⟨a,v,by rw [e];rfl,r⟩
  | 5,G=>cases G
  | 6,G=>
   have:y6=some x:=by simpa using G
   obtain ⟨a,v,e,r⟩:=h6 x this;exact ⟨a,v,by rw [e];rfl,r⟩
  | 7,G=>cases G
  | n+8,G=>cases G
 refine uy (W:=W0) inH (EE H none none none none none none (Same.refl _) (λ_ z=>nomatch z) (λ_ z=>nomatch z)) (aO (d:=rg)) rfl λv Z s1 r1=>?_
 have r1:Rep K (aS Z O) v (.tuple (letters.map .str)):=r1
 cases r1 with
 | @tup pl ls _ hql hll hrl=>
 have hls:ls=letters.map V.str:=by
  apply ext_getElem?
  intro k;rw [length_map] at hll;by_cases hk:k<ls.length
  ·have hk2:k<letters.length:=by omega
   have rr:=hrl k ls[k] (.str letters[k]) (Nl hk) (by rw [getElem?_map,Nl hk2];rfl)
   rw [Nl hk,getElem?_map,Nl hk2];generalize ls[k]=u at rr
   cases rr;rfl
  ·rw [getElem?_eq_none (by omega),getElem?_eq_none (by rw [length_map];omega)]
 subst hls;refine ⟨pl,rfl,⟨_,bB hid_le hql⟩,?_⟩
 refine zg (xs:=letters.map V.str) (λk A F=>(∃o,A=sr I i j d o none none none)/\Same Z F/\(letters.take k).find? (rS X i j)=none) ⟨⟨_,rfl⟩,Same.refl _,rfl⟩ (λk A F _ h=>bB (hid_le.trans h.2.1) hql) (λk u A F e h=>?_) λA F h=>?_
 ·obtain ⟨⟨o,rfl⟩,s2,hno⟩:=h
  rw [getElem?_map] at e;obtain ⟨c,ec,rfl⟩:=Option.map_eq_some_iff.mp e;have hcl:c∈letters:=mem_of_getElem? ec
  have s12:=s1.trans s2
  show tT K W0 MC (sr I i j d (some (.str c)) none none none) F _
  refine Da (EE F (some (.str c)) none none none (Nx (.str c)) none s12 (λp z=>by cases z;exact ⟨rfl,_,rfl,.str c⟩) (λ_ z=>nomatch z)) (kN (s:=.leaf) (cv (az (aw (i:=0) rfl) (az (aw (i:=1) rfl) (az (aw (i:=2) rfl) (az (aw (i:=4) rfl) aj)))) (Dp ok hi hj (yK c hcl)) rfl rfl)) λH3 Y=>?_
  have B:letters.take (k+1)=letters.take k++[c]:=by rw [take_succ,ec];rfl
  cases eb:rS X i j c with
  | true=>
   have er:oF X ks i j=some (.mk c):=by
    unfold oF;have:letters.find? (rS X i j)=some c:=by
     have e2:letters=letters.take (k+1)++letters.drop (k+1):=(take_append_drop _ _).symm
     rw [e2,find?_append,B,find?_append,hno];simp [eb]
    rw [this]
   refine dQ ⟨_,rfl,Nat.le_trans (by decide:2<=1000) (by decide),λp g=>?_⟩
   refine q _ _ ((s12.trans Y).trans (dH g)) ?_
   rw [er];refine .tup (.inl (.inl (qb cL λz=>iX (s12.trans Y) p z g))) rfl λn x dd R C=>?_
   match n,R,C with
   | 0,R,C=>cases R;cases C;exact .str _
   | 1,R,C=>cases R;cases C;exact .str _
   | n+2,R,C=>cases R
  | false=>
   refine dq ⟨⟨_,rfl⟩,s2.trans Y,?_⟩
   rw [B,find?_append,hno];simp [eb]
 ·obtain ⟨⟨o,rfl⟩,s2,hno⟩:=h
  rw [length_map,take_length] at hno;have er:oF X ks i j=((ox X i j).find? λp=>jg X ks i j p.1 p.2).map λp=>.st (p.1:Int) (p.2:Int):=by
   unfold oF;rw [hno]
  rw [er] at q;have s12:=s1.trans s2
  refine ⟨_,rfl,_,rfl,Nat.le_trans (by decide:2<=1000) (by decide),λl N=>⟨l,rfl,⟨_,.inl (.inl cL)⟩,?_⟩⟩
  have hl2:aR F l (.lst [.int (i:Int),.int (j:Int)]) l=some (.lst [.int (i:Int),.int (j:Int)]):=cL
  have sl:Same H (aR F l (.lst [.int (i:Int),.int (j:Int)])):=s12.trans (dH N)
  generalize aR F l (.lst [.int (i:Int),.int (j:Int)])=H2 at *
  refine wB (xs:=[.int (i:Int),.int (j:Int)]) (λk A F=>(∃x5 b y,A=sr I i j d o x5 b y)/\Same H2 F/\∀p∈ox X i j,p.1<k->jg X ks i j p.1 p.2=false) ⟨⟨_,_,_,rfl⟩,Same.refl _,λp _ z=>absurd z (Nat.not_lt_zero _)⟩ (λk A F _ h=>.inl (.inl (h.2.1 _ _ hl2))) (λk u A F T e h hT=>?_) λA F h=>?_
  ·obtain ⟨⟨x5,b,y,rfl⟩,Y,hno2⟩:=h
   have hk:k<=1:=by
    have:=(Nq e).1
    simp at this
    omega
   have eu:u=.int ((if k=0 then i else j:Nat):Int):=by
    match k,hk with
    | 0,_=>cases e;rfl
    | 1,_=>cases e;rfl
   subst eu;have hrn:(if k=0 then i else j)<X.n:=by split<;>assumption
   have sT:Same H (aR F T (.tup [.int (k:Int),.int ((if k=0 then i else j:Nat):Int)])):=(sl.trans Y).trans (dH hT)
   have sT2:Same H2 (aR F T (.tup [.int (k:Int),.int ((if k=0 then i else j:Nat):Int)])):=Y.trans (dH hT)
   refine ⟨T,_,rfl,.inl (.inl cL),rfl,_,_,rfl,_,_,rfl,rfl,?_⟩
   generalize aR F T (.tup [.int (k:Int),.int ((if k=0 then i else j:Nat):Int)])=H3 at *
   generalize M:(if k=0 then i else j)=r at *
   show eY (cS K (tE K W0 Lz)) (aP 7) (Ff P w K) _ (sr I i j d o (some (.int (k:Int))) (some (.int (r:Int))) y) H3
   have ex:Lz (GR X i j none (Nx (rm r)))=.ok ⟨.leaf,.list (((X.stp r).map λt:Nat=>(t:Int)).map .int)⟩ (GR X i j none (Nx (rm r))):=by
    have e:PyData.list (((X.stp r).map λt:Nat=>(t:Int)).map .int)=aT (X.stp r):=by
     show PyData.list _=PyData.list _
     rw [map_map];rfl
    rw [e];exact Iq ok (i:=0) (s:=.leaf) rfl (aw (i:=6) rfl) hrn
   refine M4 (EE H3 o (some (.int (k:Int))) (some (.int (r:Int))) y none (Nx (rm r)) sT (λ_ z=>nomatch z) (λp z=>by cases z;exact ⟨rfl,_,rfl,.int _⟩)) ex λpa H4 s4 g=>?_
   have g:SqL K H4 pa ((X.stp r).map λt:Nat=>V.int (t:Int)):=by
    have:=g
    rw [map_map] at this;exact this
   refine ⟨pa,rfl,⟨_,g⟩,?_⟩
   refine Iw (xs:=(X.stp r).map λt:Nat=>V.int (t:Int)) (λm A F=>(∃y,A=sr I i j d o (some (.int (k:Int))) (some (.int (r:Int))) y)/\Same H4 F/\∀x∈(X.stp r).take m,jg X ks i j k x=false) ⟨⟨_,rfl⟩,Same.refl _,λx G=>by simp at G⟩ (λm A F _ h=>h.2.1.seq g) (λm u A F e h=>?_) λA F h=>?_
   ·obtain ⟨⟨y,rfl⟩,s5,hno3⟩:=h
    rw [getElem?_map] at e;obtain ⟨t,et,rfl⟩:=Option.map_eq_some_iff.mp e;have sA:Same H F:=(sT.trans s4).trans s5
    refine ⟨I,rfl,_,rfl,_,rfl,_,rfl,_,rfl,.ref d,rfl,X,O,I,d,ks,i,j,k,t,rfl,ok,J,iX sA,r0.mono (mono sA),hD.grow sA,hi,hj,hk,λH5 s6=>⟨_,rfl,?_⟩⟩
    cases eb:jg X ks i j k t with
    | true=>
     have ef:=zx hk hno2 (by rw [M];exact hno3) (by rw [M];exact et) eb
     refine dQ ⟨_,rfl,_,rfl,Nat.le_trans (by decide:3<=1000) (by decide),λp hpn=>?_⟩
     refine q _ _ ((sA.trans s6).trans (dH hpn)) ?_
     rw [ef];refine .tup (.inl (.inl (qb cL λz=>iX (sA.trans s6) p z hpn))) rfl λn x dd R C=>?_
     match n,R,C with
     | 0,R,C=>cases R;cases C;exact .str _
     | 1,R,C=>cases R;cases C;exact .int _
     | 2,R,C=>cases R;cases C;exact .int _
     | n+3,R,C=>cases R
    | false=>
     refine dq ⟨⟨_,rfl⟩,s5.trans s6,λx G=>?_⟩
     rw [take_succ,et] at G;rcases Nj G with z | z
     ·exact hno3 x z
     ·have:x=t:=by simpa using z
      rw [this];exact eb
   ·obtain ⟨⟨y,rfl⟩,s5,hno3⟩:=h
    rw [length_map,take_length] at hno3;refine ⟨⟨_,_,_,rfl⟩,(sT2.trans s4).trans s5,λp g hpk=>?_⟩
    by_cases hlt:p.1<k
    ·exact hno2 p g hlt
    ·have epk:p.1=k:=by omega
     rw [epk];refine hno3 p.2 ?_
     rw [<-M];rcases EI g with z | z
     ·rw [if_pos (by omega)];exact z.2
     ·rw [if_neg (by omega)];exact z.2
  ·obtain ⟨⟨x5,b,y,rfl⟩,Y,hno2⟩:=h
   refine q _ _ (sl.trans Y) ?_
   have:((ox X i j).find? λp=>jg X ks i j p.1 p.2)=none:=List.find?_eq_none.mpr λp g=>by
    rw [hno2 p g (by rcases EI g with z | z<;>(rw [z.1];simp))]
    exact Bool.false_ne_true
   rw [this];exact .non
end
noncomputable def DG (P:Program) (w:World) (K:Fg) (I:Str->Option Value) (m:Heap) (j:Nat):Prop:=
 ∃(f:Addr) (fd:FuncData) (ps:List Str),cC P w K I m g5 j f fd ps (xS P w K)/\I "reason_for"=some (.ref f)/\PySem.W.keepIn K (.ref f)=true/\Binds K fd ps []
noncomputable abbrev L5 (X:Cx):Prop:=∃(k:Nat) (f:Addr) (fd:FuncData) (ps:List Str),cC X.prog X.w X.K X.mg X.base g5 k f fd ps (xS X.prog X.w X.K)/\Room k X.A/\X.mg "reason_for"=some (.ref f)/\PySem.W.keepIn X.K (.ref f)=true/\Binds X.K fd ps []
noncomputable abbrev xa:List Str:=["world", "known", "rows", "one", "other", "reason"]
noncomputable abbrev DM:List Str:=["range", "len", "reason_for"]
noncomputable abbrev Ge:R2:=λx y H Q=>y=.non/\Q (.bl (!decide (x=.non))) H
noncomputable def KA (P:Program) (w:World) (K:Fg):TE:=KG (tB (j0 P w K (Fj 3 4) (aG 1))) (tC .non) (ff (xS P w K) [] L2.E0 (aL (aG 0) (aL (aG 3) (aL (aG 4) (aL (aG 1) b5)))))
noncomputable def Bb (P:Program) (w:World) (K:Fg):L2.TS:=bL (dm (KA P w K) (aP 5)) (fK (qi (sx Ge (aG 5) (tC .non))) (iA (Fn K "list" ir (aG 2) (aL (mz (aL (aG 3) (aL (aG 4) (aL (aG 5) b5)))) b5))) cU)
noncomputable def KD (P:Program) (w:World) (K:Fg):L2.TS:=bL (dm (uN b5) (aP 2)) (bL (eY (iY (aL (Bc K) b5)) (aP 3) (eY (iY (aL (Bc K) b5)) (aP 4) (Bb P w K))) (dC (aG 2)))
noncomputable def xR (P:Program) (w:World) (K:Fg):Sp:=λL H Q _=>∃(X:Wd) (O:List Addr) (v0:V) (d:Addr) (ks:List (Nat×Nat)),L=[v0,.ref d]/\X.Ok/\O.Nodup/\(∀a∈O,H a≠none)/\Rep K (aS H O) v0 X.enc/\DK P w K H d ks/\∀v F,Same H F->Rep K (aS F O) v (.list ((nxt X ks).map cz))->Q v F
theorem KU {K:Fg} {H:Hp} {p:Addr} {i j:Nat} {v:V} {r:Rsn} (h:SqT K H p [.int (i:Int),.int (j:Int),v]) (M:Rep K H v (bH r)):Rep K H (.ref p) (cz ((i,j),r)):=.tup h rfl λn x d R C=>by
 match n,R,C with
 | 0,R,C=>cases R;cases C;exact .int _
 | 1,R,C=>cases R;cases C;exact .int _
 | 2,R,C=>cases R;cases C;exact M
 | n+3,R,C=>cases R
theorem Cq {X:Wd} (E:X.n<=24) {ks:List (Nat×Nat)} {i j:Nat} (l:i<=X.n) (A:j<=X.n):((jr X.n i j).filterMap (nx1 X ks)).length<1000:=by
 have a:=List.length_filterMap_le (nx1 X ks) (jr X.n i j)
 rw [qV] at a;have:i*X.n<=24*24:=Nat.mul_le_mul (by omega) E
 omega
section
variable {P:Program} {w:World} {K:Fg} {H:Hp}
theorem FT {L:List V} {Q:VK} {E:XK} {Qn:St->Hp->Prop} (h:xR P w K L H Q E):KD P w K { nx:=Qn,rt:=Q } (L2.start xa L) H:=by
 obtain ⟨X,O,I,d,ks,rfl,ok,nd,inH,r0,hD,q⟩:=h;have h24:=ok.h24
 have hbz:(1000:Nat)<=sizeLine:=by decide
 show KD P w K { nx:=Qn,rt:=Q } [some I,some (.ref d),none,none,none,none] H
 refine ⟨Nat.zero_le _,λl N=>?_⟩
 have iX:∀{F},Same H F->∀a∈O,F a≠none:=λ{F} s a U=>by
  cases e:H a with
  | none=>exact absurd e (inH a U)
  | some u=>rw [s a u e];exact Option.some_ne_none _
 have hlO:l∉O:=λz=>inH l z N
 have nd2:(l::O).Nodup:=List.nodup_cons.mpr ⟨hlO,nd⟩
 have mo:∀{F},Same H F->Same (aS H O) (aS F (l::O)):=λs=>fF s λa U=>by
  rcases Nk U with rfl | U
  ·exact .inr N
  ·exact .inl U
 show eY (iY (aL (Bc K) b5)) (aP 3) (eY (iY (aL (Bc K) b5)) (aP 4) (Bb P w K)) _ [some I,some (.ref d),some (.ref l),none,none,none] _
 refine Af ok r0 (hid_le.trans (dH N)) rfl ⟨(X.n:Int),rfl,by omega,by omega,?_⟩
 let Z (F:Hp) (rows:List Row):Prop:=∃us:List V,F l=some (.lst us)/\us.length=rows.length/\∀(k:Nat) u r,us[k]?=some u->rows[k]?=some r->Rep K (aS F (l::O)) u (cz r)
 have Zg:∀{F H'':Hp} {rows},Z F rows->Same F H''->Z H'' rows:=λ⟨us,R,C,h3⟩ s=>⟨us,s _ _ R,C,λk u r B m=>(h3 k u r B m).mono (fF s λa U=>.inl U)⟩
 refine kz (n:=X.n) (λi A F=>(∃G x4 x5,A=[some I,some (.ref d),some (.ref l),G,x4,x5])/\Same H F/\Z F ((jr X.n i 0).filterMap (nx1 X ks))) ⟨⟨_,_,_,rfl⟩,dH N,[],cL,by simp [jr],λk u r e=>by simp at e⟩ (λi A F hi h=>?_) λA F h=>?_
 ·obtain ⟨⟨G,x4,x5,rfl⟩,s1,z1⟩:=h
  rw [Int.zero_add];show eY (iY (aL (Bc K) b5)) (aP 4) (Bb P w K) _ [some I,some (.ref d),some (.ref l),some (.int (i:Int)),x4,x5] F
  refine Af ok r0 (hid_le.trans s1) rfl ⟨(X.n:Int),rfl,by omega,by omega,?_⟩
  refine kz (n:=X.n) (λj A F=>(∃x4 x5,A=[some I,some (.ref d),some (.ref l),some (.int (i:Int)),x4,x5])/\Same H F/\Z F ((jr X.n i j).filterMap (nx1 X ks))) ⟨⟨_,_,rfl⟩,s1,z1⟩ (λj A F hj h=>?_) λA F h=>?_
  ·obtain ⟨⟨x4,x5,rfl⟩,s2,z2⟩:=h
   rw [Int.zero_add];have inS2:∀{H''},Same F H''->∀a∈l::O,H'' a≠none:=λ{H''} s a U=>by
    rcases Nk U with rfl | U
    ·obtain ⟨us,R,_⟩:=z2
     rw [s _ _ R];exact Option.some_ne_none _
    ·exact iX (s2.trans s) a U
   have enx:(jr X.n i (j+1)).filterMap (nx1 X ks)=(jr X.n i j).filterMap (nx1 X ks)++(nx1 X ks (i,j)).toList:=by
    rw [mY,List.filterMap_append];congr 1
   have nn:nx1 X ks (i,j)=if (i,j)∈ks then none else (oF X ks i j).map λr=>((i,j),r):=rfl
   obtain ⟨f,hDf⟩:=id hD;refine ⟨_,rfl,_,rfl,AU,λb hb=>⟨.ref d,rfl,d,b,[false,false],_,ky i j,rfl,rfl,DF.grow hDf (s2.trans (dH hb)),Er,rfl,_,rfl,?_⟩⟩
   have M:Same F (aR F b (.tup [.int (i:Int),.int (j:Int)])):=dH hb
   rw [JI (p:=(i,j))];generalize aR F b (.tup [.int (i:Int),.int (j:Int)])=H3 at M
   have s3:=s2.trans M
   by_cases v:(i,j)∈ks
   ·rw [decide_eq_true v]
    refine dQ ⟨_,rfl,rfl,_,rfl,dq ⟨⟨_,_,rfl⟩,s3,?_⟩⟩
    rw [enx,nn,if_pos v];simpa using Zg z2 M
   ·rw [decide_eq_false v]
    refine dq ⟨I,rfl,_,rfl,_,rfl,.ref d,rfl,X,l::O,I,d,ks,i,j,rfl,ok,nd2,inS2 M,r0.mono (mo s3),hD.grow s3,hi,hj,λv5 x s4 r5=>?_⟩
    have s34:=s3.trans s4
    have z4:=Zg z2 (M.trans s4)
    cases er:oF X ks i j with
    | none=>
     rw [er] at r5;have r5:Rep K (aS x (l::O)) v5 .none:=r5
     cases r5;refine ⟨_,rfl,rfl,_,rfl,dq ⟨⟨_,_,rfl⟩,s34,?_⟩⟩
     rw [enx,nn,if_neg v,er];simpa using z4
    | some r=>
     rw [er] at r5;have r5:Rep K (aS x (l::O)) v5 (bH r):=r5
     have hne:decide (v5=V.non)=false:=decide_eq_false λz=>by
      subst z
      cases r<;>(unfold bH at r5;cases r5)
     obtain ⟨us,u1,u2,u3⟩:=z4;refine ⟨v5,rfl,rfl,_,rfl,?_⟩
     rw [hne];refine dQ ⟨.ref l,rfl,.inl ⟨rfl,_,.of u1⟩,_,rfl,_,rfl,v5,rfl,Nat.le_trans (by decide:3<=1000) (by decide),λp g=>?_⟩
     have sp:Same x (aR x p (.tup [.int (i:Int),.int (j:Int),v5])):=dH g
     have Y:p≠l:=λz=>by rw [z,u1] at g;cases g
     have hlp:aR x p (.tup [.int (i:Int),.int (j:Int),v5]) l=some (.lst us):=sp _ _ u1
     refine ⟨l,us,.ref p,rfl,rfl,hlp,by rw [u2];have:=Cq h24 (ks:=ks) (i:=i) (j:=j) (by omega) (by omega);omega,⟨_,_,rfl⟩,λc o J=>?_,us++[.ref p],cL,?_,λk u t B m=>?_⟩
     ·rw [cb (λz=>by subst z;rw [N] at J;cases J)]
      exact sp c o (s34 c o J)
     ·rw [enx,nn,if_neg v,er]
      simp [u2]
     ·rw [hid_upd mem_cons_self]
      rw [enx,nn,if_neg v,er] at m;by_cases hk:k<us.length
      ·rw [getElem?_append_left hk] at B
       rw [getElem?_append_left (by omega)] at m
       exact (u3 k u t B m).mono (fF sp λa U=>.inl U)
      ·rw [getElem?_append_right (by omega)] at B
       rw [getElem?_append_right (by omega)] at m
       have h0:k-us.length=0:=by
        have:=(Nq B).1
        simp at this
        omega
       rw [h0] at B;rw [<-u2,h0] at m
       cases B
       cases m;have r5':Rep K (aS (aR x p (.tup [.int (i:Int),.int (j:Int),v5])) (l::O)) v5 (bH r):=r5.mono (fF sp λa U=>.inl U)
       refine KU (.inl (.inl (qb cL λz=>?_))) r5'
       rcases Nk z with y | y
       ·exact Y y
       ·exact iX s34 p y g
  ·obtain ⟨⟨x4,x5,rfl⟩,s2,z2⟩:=h
   refine ⟨⟨_,_,_,rfl⟩,s2,?_⟩
   rw [mZ];exact z2
 ·obtain ⟨⟨G,x4,x5,rfl⟩,s1,us,u1,u2,u3⟩:=h
  refine ⟨.ref l,rfl,q _ _ s1 (.lst (.inl (.inl (qb u1 hlO))) (by rw [length_map];exact u2) λk u dd B m=>?_)⟩
  rw [getElem?_map] at m;obtain ⟨r,er,rfl⟩:=Option.map_eq_some_iff.mp m;exact (u3 k u r B er).mono (Im λa U=>Nn _ U)
end
noncomputable def DD (P:Program) (w:World) (K:Fg) (I:Str->Option Value) (m:Heap) (j:Nat):Prop:=
 ∃(f:Addr) (fd:FuncData) (ps:List Str),cC P w K I m g5 j f fd ps (xR P w K)/\I "rows_next"=some (.ref f)/\PySem.W.keepIn K (.ref f)=true/\Binds K fd ps []
noncomputable abbrev HU (X:Cx):Prop:=∃(k:Nat) (f:Addr) (fd:FuncData) (ps:List Str),cC X.prog X.w X.K X.mg X.base g5 k f fd ps (xR X.prog X.w X.K)/\Room k X.A/\X.mg "rows_next"=some (.ref f)/\PySem.W.keepIn X.K (.ref f)=true/\Binds X.K fd ps []
noncomputable abbrev xc:List Str:=["world", "known", "fresh", "row"]
noncomputable abbrev DO:List Str:=["rows_next"]
noncomputable def Ma (K:Fg) (i:Nat):TT:=λM H Q=>aG i M H λx F=>∃k,w9 K x F k/\Q k F
noncomputable abbrev tIt (K:Fg) (v:Nat) (i:Int):TE:=sx (BW K) (aG v) (tC (.int i))
noncomputable abbrev Fh (K:Fg) (v:Nat):TE:=mz (aL (tIt K v 0) (aL (tIt K v 1) b5))
noncomputable abbrev uO (P:Program) (w:World) (K:Fg):TE:=ff (xR P w K) [] L2.E0 (aL (aG 0) (aL (aG 1) b5))
noncomputable def Fp (P:Program) (w:World) (K:Fg):L2.TS:=bL (eY (cS K (aG 2)) (aP 3) (oV P w K (aG 1) (Fh K 3) (aG 3))) (dm (uO P w K) (aP 2))
noncomputable def KJ (P:Program) (w:World) (K:Fg):L2.TS:=bL (dm (oO P w K [false,false]) (aP 1)) (bL (dm (uO P w K) (aP 2)) (bL (iz (Ma K 2) (Fp P w K)) (dC (aG 1))))
structure KV (P:Program) (w:World) (K:Fg) (H:Hp) (O:List Addr) (d:Addr) (known:List Row):Prop where
 h:∃f,DF P w K H d (known.map (·.1)) f/\∀r∈known,Rep K (aS H O) (f r.1) (cz r)
theorem nK {U:List (Nat×Nat)} {q:Nat×Nat} {f:Nat×Nat->V} {v:V} (h:q∉U):tM U f++[(ky q.1 q.2,v)]=tM (U++[q]) (λp=>if p=q then v else f p):=by
 unfold tM;rw [map_append];congr 1
 ·refine List.map_congr_left λp g=>?_
  show _=(ky p.1 p.2,if p=q then v else f p)
  rw [if_neg (λz:p=q=>h (by rw [<-z];exact g))]
 ·show _=[(ky q.1 q.2,if q=q then v else f q)]
  rw [if_pos rfl]
section
variable {P:Program} {w:World} {K:Fg} {H H':Hp} {O:List Addr} {d:Addr} {known:List Row}
theorem KV.grow (h:KV P w K H O d known) (s:Same H H'):KV P w K H' O d known:=let ⟨f,R,C⟩:=h.h;⟨f,R.grow s,λr M=>(C r M).mono (fF s λa U=>.inl U)⟩
theorem qC {v:V} {r:Row} (h:Rep K H v (cz r)):∃p u,v=.ref p/\SqT K H p [.int (r.1.1:Int),.int (r.1.2:Int),u]/\Rep K H u (bH r.2):=by
 cases h with
 | @tup p vs _ hq hl hr=>
 match vs,hl with
 | [a,b,c],_=>
  have l:=hr 0 a _ rfl rfl
  have R:=hr 1 b _ rfl rfl
  have C:=hr 2 c _ rfl rfl
  cases l
  cases R;exact ⟨p,c,rfl,hq,C⟩
noncomputable def xU (P:Program) (w:World) (K:Fg):Sp:=λL H Q _=>∃(X:Wd) (O:List Addr) (v0:V),L=[v0]/\X.Ok/\O.Nodup/\(∀a∈O,H a≠none)/\Rep K (aS H O) v0 X.enc/\∀d H',Same H H'->H d=none->KV P w K H' (d::O) d (bM X)->Q (.ref d) H'
theorem FZ {L:List V} {Q:VK} {E:XK} {Qn:St->Hp->Prop} (h:xU P w K L H Q E):KJ P w K { nx:=Qn,rt:=Q } (L2.start xc L) H:=by
 obtain ⟨X,O,v0,rfl,ok,nd,inH,r0,q⟩:=h;have h24:=ok.h24
 have hbz:(1000:Nat)<=sizeLine:=by decide
 show KJ P w K { nx:=Qn,rt:=Q } [some v0,none,none,none] H
 refine λd I F hD=>?_
 have hdO:d∉O:=λz=>inH d z F
 have nd2:(d::O).Nodup:=List.nodup_cons.mpr ⟨hdO,nd⟩
 have mo:∀{H'},Same H H'->Same (aS H O) (aS H' (d::O)):=λs=>fF s λa U=>by
  rcases Nk U with rfl | U
  ·exact .inr F
  ·exact .inl U
 have in2:∀{H'},Same H H'->H' d≠none->∀a∈d::O,H' a≠none:=λ{H'} s hd' a U=>by
  rcases Nk U with rfl | U
  ·exact hd'
  ·cases e:H a with
   | none=>exact absurd e (inH a U)
   | some u=>rw [s a u e];exact Option.some_ne_none _
 have ext:∀{H' known},KV P w K H' (d::O) d known->H' d≠none:=λk=>by
  obtain ⟨f,⟨xs,h,_⟩,_⟩:=k.h;rw [h];exact Option.some_ne_none _
 have k0:KV P w K (aR H d I) (d::O) d []:=⟨λ_=>.non,hD,λr z=>nomatch z⟩
 have s0:Same H (aR H d I):=dH F
 have call:∀(H':Hp) (known:List Row) (x2 G:Option V) (D:dW),Same H H'->KV P w K H' (d::O) d known->(∀v2 j,Same H' j->Rep K (aS j (d::O)) v2 (.list ((nxt X (known.map (·.1))).map cz))->D.nx [some v0,some (.ref d),some v2,G] j)->dm (uO P w K) (aP 2) D [some v0,some (.ref d),x2,G] H':=λH' known x2 G D s kv n=>by
  refine ⟨v0,rfl,.ref d,rfl,X,d::O,v0,d,known.map (·.1),rfl,ok,nd2,in2 s (ext kv),r0.mono (mo s),(let ⟨f,R,_⟩:=kv.h;⟨f,R⟩),λv j N r2=>n v j N r2⟩
 generalize aR H d I=H1 at k0 s0
 show bL (dm (uO P w K) (aP 2)) (bL (iz (Ma K 2) (Fp P w K)) (dC (aG 1))) _ [some v0,some (.ref d),none,none] H1
 refine call H1 [] none none _ s0 k0 λv2 j N r2=>?_
 refine ⟨λm M H'=>∃known v2 G,M=[some v0,some (.ref d),some v2,G]/\Same H H'/\KV P w K H' (d::O) d known/\Rep K (aS H' (d::O)) v2 (.list ((nxt X (known.map (·.1))).map cz))/\KI X known/\576-known.length<m/\jR X m known=bM X,⟨1000,[],v2,none,rfl,s0.trans N,k0.grow N,r2,KI.nil,by simp,rfl⟩,?_⟩
 rintro m M H' ⟨known,v2,G,rfl,s,kv,r,ki,hm,U⟩
 cases m with
 | zero=>exact absurd hm (Nat.not_lt_zero _)
 | succ m=>
 cases r with
 | @lst l us _ hl hlen hr=>
 rw [length_map] at hlen;refine ⟨.ref l,rfl,!us.isEmpty,.inl ⟨_,hid_le.seq hl,rfl⟩,?_⟩
 unfold jR at U
 cases us with
 | nil=>
  have e:nxt X (known.map (·.1))=[]:=List.length_eq_zero_iff.mp hlen.symm
  rw [e] at U;have U:known=bM X:=U
  subst U;exact dq ⟨.ref d,rfl,q d H' s F kv⟩
 | cons u0 us0=>
 generalize hus:u0::us0=us at *
 have hpos:0<us.length:=by rw [<-hus];simp
 have hne:(!us.isEmpty)=true:=by rw [<-hus];rfl
 have hfe:(nxt X (known.map (·.1))).isEmpty=false:=by
  cases e:nxt X (known.map (·.1)) with
  | nil=>rw [e] at hlen;simp at hlen;rw [hlen] at hpos;exact absurd hpos (Nat.lt_irrefl _)
  | cons a b=>rfl
 rw [hfe,if_neg Bool.false_ne_true] at U;rw [hne];refine dQ ⟨λA H'=>∃m',m'<m+1/\∃known v2 G,A=[some v0,some (.ref d),some v2,G]/\Same H H'/\KV P w K H' (d::O) d known/\Rep K (aS H' (d::O)) v2 (.list ((nxt X (known.map (·.1))).map cz))/\KI X known/\576-known.length<m'/\jR X m' known=bM X,λA H' z=>z,?_⟩
 have kst:=ki.step
 have klen:=kst.len h24
 generalize hfr:nxt X (known.map (·.1))=fr at *
 have ndA:=kst.nd
 refine ⟨.ref l,rfl,l,rfl,⟨_,hid_le.seq hl⟩,?_⟩
 refine Iw (xs:=us) (λk A H'=>(∃G,A=[some v0,some (.ref d),some (.ref l),G])/\Same H H'/\Same (aS H' (d::O)) (aS H' (d::O))/\KV P w K H' (d::O) d (known++fr.take k)/\SqL K (aS H' (d::O)) l us/\∀(i:Nat) v r,us[i]?=some v->fr[i]?=some r->Rep K (aS H' (d::O)) v (cz r)) ⟨⟨_,rfl⟩,s,Same.refl _,by simpa using kv,hl,λi v r R C=>hr i v _ R (by rw [getElem?_map,C];rfl)⟩ (λk A H' _ h=>hid_le.seq h.2.2.2.2.1) (λk v A H3 e h=>?_) λA H3 h=>?_
 ·obtain ⟨⟨G,rfl⟩,Y,_,kv3,hl3,hr3⟩:=h
  have hk:k<fr.length:=by rw [<-hlen];exact (Nq e).1
  have er:fr[k]?=some fr[k]:=Nl hk
  have B:fr.take (k+1)=fr.take k++[fr[k]]:=by rw [take_succ,er];rfl
  have rv:=hr3 k v _ e er
  have hnew:fr[k].1∉(known++fr.take k).map (·.1):=λz=>by
   have e2:known++fr=(known++fr.take k)++fr[k]::fr.drop (k+1):=by
    rw [<-drop_eq_getElem_cons hk,append_assoc,take_append_drop]
   rw [e2,map_append,map_cons] at ndA;exact (Np ndA).2.2 _ z _ mem_cons_self rfl
  generalize fr[k]=r at *
  obtain ⟨p,u,rfl,g,hu⟩:=qC rv;have hpH:SqT K H3 p _:=bB hid_le g
  refine ⟨.ref p,rfl,.ref d,rfl,.ref p,rfl,.inr (.inl ⟨p,_,0,_,rfl,rfl,hpH,rfl,.ref p,rfl,.inr (.inl ⟨p,_,1,_,rfl,rfl,hpH,rfl,AU,λb Z=>?_⟩)⟩)⟩
  have sb:Same H3 (aR H3 b (.tup [.int (r.1.1:Int),.int (r.1.2:Int)])):=dH Z
  have kv4:=kv3.grow sb
  have k2:K2 K (aR H3 b (.tup [.int (r.1.1:Int),.int (r.1.2:Int)])) (ky r.1.1 r.1.2) b:=Er
  have sh:=fF (O:=d::O) (O':=d::O) sb λa U=>.inl U
  generalize aR H3 b (.tup [.int (r.1.1:Int),.int (r.1.2:Int)])=x at *
  obtain ⟨f,hf,hv⟩:=kv4.h;have hlt:((known++fr.take k).map (·.1)).length<1000:=by
   rw [length_map,length_append,length_take];rw [length_append] at klen;omega
  refine ⟨d,b,[false,false],_,ky r.1.1 r.1.2,rfl,rfl,hf,k2,rfl,by rw [qZ];exact hlt,Io hnew,λI hD2=>?_⟩
  rw [nK hnew] at hD2;have hu2:aS (aR x d I) (d::O)=aS x (d::O):=hid_upd mem_cons_self
  refine ⟨⟨_,rfl⟩,λc o J=>?_,Same.refl _,⟨λp'=>if p'=r.1 then .ref p else f p',?_,λt hr'=>?_⟩,?_,λi v t R C=>?_⟩
  ·rw [cb (λz=>by subst z;rw [F] at J;cases J)]
   exact sb c o (Y c o J)
  ·rw [B,<-append_assoc,map_append (l₂:=[r])]
   exact hD2
  ·rw [hu2]
   rw [B,<-append_assoc] at hr';rcases Nj hr' with z | z
   ·show Rep K _ (if t.1=r.1 then V.ref p else f t.1) _
    rw [if_neg (λy=>hnew (by rw [<-y];exact List.mem_map.mpr ⟨t,z,rfl⟩))]
    exact hv t z
   ·rw [List.mem_singleton.mp z]
    show Rep K _ (if r.1=r.1 then V.ref p else f r.1) _
    rw [if_pos rfl];exact rv.mono sh
  ·rw [hu2]
   exact sh.seq hl3
  ·rw [hu2]
   exact (hr3 i v t R C).mono sh
 ·obtain ⟨⟨G,rfl⟩,Y,_,kv3,_,_⟩:=h
  rw [hlen,take_length] at kv3;refine call H3 _ _ _ _ Y kv3 λv2 x s4 r4=>⟨m,Nat.lt_succ_self _,_,v2,G,rfl,Y.trans s4,kv3.grow s4,r4,kst,?_,U⟩
  rw [length_append,<-hlen];rw [length_append,<-hlen] at klen;omega
end
noncomputable def DR (P:Program) (w:World) (K:Fg) (I:Str->Option Value) (m:Heap) (j:Nat):Prop:=
 ∃(f:Addr) (fd:FuncData) (ps:List Str),cC P w K I m g5 j f fd ps (xU P w K)/\I "all_rows"=some (.ref f)/\PySem.W.keepIn K (.ref f)=true/\Binds K fd ps []
noncomputable abbrev L7 (X:Cx):Prop:=∃(k:Nat) (f:Addr) (fd:FuncData) (ps:List Str),cC X.prog X.w X.K X.mg X.base g5 k f fd ps (xU X.prog X.w X.K)/\Room k X.A/\X.mg "all_rows"=some (.ref f)/\PySem.W.keepIn X.K (.ref f)=true/\Binds X.K fd ps []
noncomputable def d_pairs_behind:FS:=(aE (oG (aM ai (ar bp (ah (ah (ae 1) (eK (.int 2))) (eK (.int 0))) (eK (.str "mark")))) (aW .leaf af) (ag 5 bF (ab (ae 0) (ab (ah (ae 1) (eK (.int 0))) (ab (ah (ae 1) (eK (.int 1))) (ab (ah (ah (ae 1) (eK (.int 2))) (eK (.int 1))) (ab (ah (ah (ae 1) (eK (.int 2))) (eK (.int 2))) af))))))))
noncomputable def m_pairs_behind:List Nw->bA:=aB 2 d_pairs_behind
theorem zU {c:FB} {z e:F1} {B:Ev} {t:Bool} {p:PV} (J:c B=.ok t B) (U:t=true->z B=.ok p B) (Z:t=false->e B=.ok p B):oG c z e B=.ok p B:=by
 unfold oG;rw [J];simp only [xw]
 cases t with
 | true=>exact U rfl
 | false=>exact Z rfl
noncomputable def LW:Rsn->Prop
 | .mk _=>True
 | .st s t=>∃a b:Nat,s=(a:Int)/\t=(b:Int)/\a<=1
theorem mQ {X:Wd} {U:List (Nat×Nat)} {r:Row} (h:fx X U r=true):LW r.2:=by
 unfold fx at h;split at h
 ·rename_i c e;rw [e];exact True.intro
 ·rename_i s t e
  rw [e];rw [Bool.and_eq_true,Bool.and_eq_true] at h;obtain ⟨b,_,g⟩:=inS_iff.mp h.1.2;have Y:=of_decide_eq_true h.1.1
  rcases Y with z | z
  ·exact ⟨0,b,z,g.symm,by omega⟩
  ·exact ⟨1,b,z,g.symm,by omega⟩
theorem rK {X:Wd} {r:Row} (ok:X.Ok) (R:r.1.1<X.n) (C:r.1.2<X.n) (M:LW r.2):m_pairs_behind [X.enc,cz r]=.ok ⟨.lst .leaf,.list ((eN X r).map xm)⟩:=by
 obtain ⟨⟨i,j⟩,y⟩:=r;have f:ae 1 (aN 2 [X.enc,cz ((i,j),y)])=.ok ⟨.leaf,cz ((i,j),y)⟩ (aN 2 [X.enc,cz ((i,j),y)]):=aw rfl
 have g:ah (ae 1) (eK (.int 2)) (aN 2 [X.enc,cz ((i,j),y)])=.ok ⟨.leaf,bH y⟩ (aN 2 [X.enc,cz ((i,j),y)]):=eX (j:=2) (ds:=[rm i,rm j,bH y]) f (aO (d:=.int 2)) rfl rfl rfl
 cases y with
 | mk c=>
  have F:=eX (j:=0) (ds:=[.str "mark",.str c]) g (aO (d:=.int 0)) rfl rfl rfl
  exact aV (aX (zU (t:=true) (cH (s:=.leaf) (aA F (aO (d:=.str "mark")) (by kernel_rfl))) (λ_=>pY aj rfl rfl rfl) nofun) rfl)
 | st s t=>
  obtain ⟨a,b,rfl,rfl,U⟩:=M;have F:=eX (j:=0) (ds:=[.str "step",.int (a:Int),.int (b:Int)]) g (aO (d:=.int 0)) rfl rfl rfl
  have Y:=eX (j:=1) (ds:=[.str "step",rm a,rm b]) g (aO (d:=.int 1)) rfl rfl rfl
  have L:=eX (j:=2) (ds:=[.str "step",rm a,rm b]) g (aO (d:=.int 2)) rfl rfl rfl
  have e:eN X ((i,j),.st (a:Int) (b:Int))=cB X i j a b:=by
   show cB X i j (a:Int).toNat (b:Int).toNat=_
   rw [Int.toNat_natCast,Int.toNat_natCast]
  rw [e];exact aV (aX (zU (t:=false) (cH (s:=.leaf) (aA F (aO (d:=.str "mark")) (by kernel_rfl))) nofun (λ_=>cv (az (aw (i:=0) rfl) (az (eX (j:=0) (ds:=[rm i,rm j,bH (.st a b)]) f (aO (d:=.int 0)) rfl rfl rfl) (az (eX (j:=1) (ds:=[rm i,rm j,bH (.st a b)]) f (aO (d:=.int 1)) rfl rfl rfl) (az Y (az L aj))))) (wJ ok R C U) rfl rfl)) rfl)
noncomputable abbrev pW:List Str:=["world", "one", "other", "rows", "zz", "needed", "waiting", "pair", "behind"]
noncomputable abbrev zN:List Str:=["all_rows", "pairs_behind"]
noncomputable def Mc (P:Program) (w:World) (K:Fg):L2.TS:=bL (dm (Fm K "list" Gd (aG 6)) (aP 7)) (eY (cS K (ff (qu K 2 m_pairs_behind) [] L2.E0 (aL (aG 0) (aL (fw P w K (aG 3) (aG 7)) b5)))) (aP 8) (Ky P w K))
noncomputable def Fi (P:Program) (w:World) (K:Fg):TE:=eo [7] (MB P w K (aG 3)) (aP 7) (tB (j0 P w K (aG 7) (aG 5))) (qo P w K (aG 3) (aG 7))
noncomputable def KB (P:Program) (w:World) (K:Fg):L2.TS:=bL (dm (ff (xU P w K) [] L2.E0 (aL (aG 0) b5)) (aP 3)) (bL (fK (tB (fL P w K (Ei 1 2) (aG 3))) (dC (tC .non)) cU)
 (bL (dm (qm P w K [false,false] (Ei 1 2) (tC (.bl true))) (aP 5))
 (bL (dm (uN (aL (Ei 1 2) b5)) (aP 6))
 (bL (iz (Mb K) (Mc P w K))
 (dC (Fi P w K))))))
noncomputable abbrev sR (I:V) (i j:Nat) (B d l:Addr) (y f:Option V):St:=[some I,some (.int (i:Int)),some (.int (j:Int)),some (.ref B),none,some (.ref d),some (.ref l),y,f]
theorem mw {X:Wd} (ok:X.Ok) {k:Nat} {U:List (Nat×Nat)} (J:U.Nodup) (h:∀x∈U,il (bM X) k x):U.length<=576:=by
 have:=iI (L:=(bM X).map (·.1)) J λx G=>by
  obtain ⟨m,r,_,e,rfl⟩:=h x G;exact List.mem_map.mpr ⟨r,mem_of_getElem? e,rfl⟩
 rw [length_map] at this;have:=(AR ok).1.len ok.h24
 omega
noncomputable abbrev AF (X:Wd) (p:Nat×Nat):List (Nat×Nat):=eN X (gR (bM X) p)
section
variable {P:Program} {w:World} {K:Fg} {He H H':Hp} {O:List Addr} {d1 d l:Addr} {p:List (Nat×Nat)×List (Nat×Nat)} {wd:Wd} {i j kk:Nat} {v0:V}
theorem yd {q:Nat×Nat} {b:Addr} {x8:Option V} {D:dW} (ok:wd.Ok) (o:Rep K (aS He O) v0 wd.enc) (kv:KV P w K He O d1 (bM wd)) (nd:O.Nodup) (inO:∀a∈O,He a≠none) (hd0:He d=none) (s:He l=none) (I:IK P w K He O d l H p) (Z:SqT K (aS H (d::l::O)) b (pv q)) (hq:il (bM wd) kk q) (wb:WB (il (bM wd) kk) p)
  (k:∀H' x8,IK P w K He O d l H' (gA (AF wd q) p)->D.nx (sR v0 i j d1 d l (some (.ref b)) x8) H'):eY (cS K (ff (qu K 2 m_pairs_behind) [] L2.E0 (aL (aG 0) (aL (fw P w K (aG 3) (aG 7)) b5)))) (aP 8) (Ky P w K) D (sR v0 i j d1 d l (some (.ref b)) x8) H:=by
 obtain ⟨g,_⟩:=AR ok;obtain ⟨bs,B,e2,M⟩:=I.bs;obtain ⟨φ,X⟩:=D2H.ext I.hD;have hdl:d≠l:=λz=>by rw [z,B] at X;cases X
 have nd2:(d::l::O).Nodup:=List.nodup_cons.mpr ⟨λz=>(Nk z).elim hdl λy=>inO d y hd0,List.nodup_cons.mpr ⟨λy=>inO l y s,nd⟩⟩
 have in2:∀a∈d::l::O,H a≠none:=λa U=>by
  rcases Nk U with rfl | U
  ·rw [X];exact Option.some_ne_none _
  rcases Nk U with rfl | U
  ·rw [B];exact Option.some_ne_none _
  ·cases e:He a with
   | none=>exact absurd e (inO a U)
   | some u=>rw [I.s a u e];exact Option.some_ne_none _
 have mo:Same (aS He O) (aS H (d::l::O)):=fF I.s λa U=>by
  rcases Nk U with rfl | U
  ·exact .inr hd0
  rcases Nk U with rfl | U
  ·exact .inr s
  ·exact .inl U
 obtain ⟨m,r,hm,er,rfl⟩:=id hq;have era:=JY g.nd er
 have hrm:r∈bM wd:=mem_of_getElem? er
 obtain ⟨f,hf,hv⟩:=kv.h;have F:∀t∈AF wd r.1,il (bM wd) kk t:=EG g _ hq
 have hden:=rK ok (g.lt r hrm).1 (g.lt r hrm).2 (mQ (g.ok m r er))
 have ebh:AF wd r.1=eN wd r:=by show eN wd (gR (bM wd) r.1)=_;rw [era]
 rw [ebh] at k F
 refine ⟨v0,rfl,.ref d1,rfl,.ref b,rfl,d1,b,[false,false],_,ky r.1.1 r.1.2,f r.1,rfl,rfl,hf.grow I.s,⟨_,bB hid_le Z,.cons rfl (.cons rfl .nil)⟩,rfl,DW (List.mem_map.mpr ⟨r,hrm,rfl⟩),?_⟩
 refine ⟨rfl,d::l::O,[wd.enc,cz r],nd2,in2,⟨rfl,λn v E R C=>?_⟩,?_⟩
 ·match n,R,C with
  | 0,R,C=>cases R;cases C;exact o.mono mo
  | 1,R,C=>cases R;cases C;exact (hv r hrm).mono mo
  | n+2,R,C=>cases R
 rw [hden];intro v H3 G ret;have Y:=ret.same
 have r:Rep K (aS H3 (d::l::O)) v (.list ((eN wd r).map xm)):=qM ret.own rfl (λa U z=>in2 a z (ret.fresh a U)) (λa U=>Nh _ U)
 generalize eN wd _=ts at r k F
 cases r with
 | @lst qa vs _ hqL hl hr=>
 rw [length_map] at hl;refine ⟨qa,rfl,⟨_,hid_le.seq hqL⟩,?_⟩
 refine Iw (xs:=vs) (λk A H'=>(∃x8,A=sR v0 i j d1 d l (some (.ref b)) x8)/\Same (aS H3 (d::l::O)) (aS H' (d::l::O))/\IK P w K He O d l H' (gA (ts.take k) p)) ⟨⟨_,rfl⟩,Same.refl _,I.grow Y⟩ (λk A H' _ h=>hid_le.seq (h.2.1.seq hqL)) (λk v A H' e h=>?_) λA H' h=>?_
 ·obtain ⟨⟨x8,rfl⟩,sm,I2⟩:=h
  have hk:k<ts.length:=by rw [<-hl];exact (Nq e).1
  have et:ts[k]?=some ts[k]:=Nl hk
  have htk:ts.take (k+1)=ts.take k++[ts[k]]:=by rw [take_succ,et];rfl
  have rp:=hr k v (xm ts[k]) e (by rw [getElem?_map,et];rfl)
  generalize ts[k]=t at htk rp
  obtain ⟨c,rfl,J⟩:=Jq rp;obtain ⟨wbk,_⟩:=EF (ts:=ts.take k) wb λt L=>F t (List.mem_of_mem_take L)
  have b1:=mw ok wbk.nd wbk.ok
  have b2:=wbk.le
  refine FV (wd:=wd) (N:=[]) (q:=t) (b:=c) I2 hd0 s rfl rfl rfl (bB sm J) (by omega) (by omega) λx eh I4=>⟨⟨_,rfl⟩,by rw [eh];exact sm,?_⟩
  rw [htk];unfold gA;rw [List.foldl_append];exact I4
 ·obtain ⟨⟨x8,rfl⟩,sm,I2⟩:=h
  rw [hl,take_of_length_le (Nv _)] at I2;exact k H' x8 I2
theorem By {y f:Option V} {D:dW} (ok:wd.Ok) (o:Rep K (aS He O) v0 wd.enc) (Z:KV P w K He O d1 (bM wd)) (nd:O.Nodup) (v:∀a∈O,He a≠none) (h:He d=none) (s:He l=none) (I:IK P w K He O d l H ([(i,j)],[(i,j)])) (Y:il (bM wd) kk (i,j))
  (k:∀H' y f,IK P w K He O d l H' (o8 wd i j,[])->D.nx (sR v0 i j d1 d l y f) H'):iz (Mb K) (Mc P w K) D (sR v0 i j d1 d l y f) H:=by
 obtain ⟨KI1,_⟩:=AR ok;refine ⟨λE M H=>∃p y f,M=sR v0 i j d1 d l y f/\IK P w K He O d l H p/\WI (il (bM wd) kk) (AF wd) (i,j) p/\C0 (AF wd) E p=o8 wd i j/\2*(576-p.1.length)+p.2.length<E,⟨2000,_,_,_,rfl,I,⟨⟨by simp,λx G=>by rw [List.mem_singleton.mp G];exact Y,λ_ z=>z,Nv _⟩,List.mem_singleton.mpr rfl,λx G=>.inl G⟩,rfl,by simp⟩,?_⟩
 rintro E M H ⟨p,y,f,rfl,I,wi,hg,hm⟩
 obtain ⟨bs,B,m,e3⟩:=I.bs;refine ⟨.ref l,rfl,!(bs.map V.ref).isEmpty,.inl ⟨_,.of B,rfl⟩,?_⟩
 cases E with
 | zero=>exact absurd hm (Nat.not_lt_zero _)
 | succ E=>
 unfold C0 at hg
 cases e:p.2.getLast? with
 | none=>
  rw [e] at hg;have X:p.2=[]:=List.getLast?_eq_none_iff.mp e
  rw [X] at m;have:bs=[]:=List.length_eq_zero_iff.mp m
  subst this;refine dq (k H y f ?_)
  have:p=(o8 wd i j,[]):=Prod.ext hg X
  rw [<-this];exact I
 | some t=>
  rw [e] at hg;have hne:p.2≠[]:=λz=>by rw [z] at e;cases e
  have hnb:bs≠[]:=λz=>hne (List.length_eq_zero_iff.mp (by rw [<-m,z];rfl))
  have R:(!(bs.map V.ref).isEmpty)=true:=by cases bs with | nil=>exact absurd rfl hnb | cons a r=>rfl
  rw [R];refine dQ ⟨λA H'=>∃N,N<E+1/\∃p y f,A=sR v0 i j d1 d l y f/\IK P w K He O d l H' p/\WI (il (bM wd) kk) (AF wd) (i,j) p/\C0 (AF wd) N p=o8 wd i j/\2*(576-p.1.length)+p.2.length<N,λA H' z=>z,?_⟩
  have n:0<bs.length:=List.length_pos_iff.mpr hnb
  have hlb:bs.length-1<bs.length:=by omega
  have C:(bs.map V.ref)[(bs.map V.ref).length-1]?=some (.ref bs[bs.length-1]):=by rw [length_map,getElem?_map,Nl hlb];rfl
  have hbt:=e3 (bs.length-1) bs[bs.length-1] t (Nl hlb) (by rw [m,<-List.getLast?_eq_getElem?];exact e)
  generalize bs[bs.length-1]=b at C hbt
  refine ⟨.ref l,rfl,.inl ⟨rfl,_,.of B⟩,l,_,.ref b,rfl,rfl,B,C,?_⟩
  have U:=wi.b.sub t (List.mem_of_getLast? e)
  have I2:IK P w K He O d l (aR H l (.lst (bs.map V.ref).dropLast)) (p.1,p.2.dropLast):=⟨λc u J=>by
    rw [cb (λz=>by subst z;rw [s] at J;cases J)]
    exact I.s c u J,D2H.updL I.hD B,bs.dropLast,by rw [cL,List.map_dropLast],by simp [m],λk c q F g=>by
    rw [hid_upd (by simp)]
    have hk1:=(Nq F).1
    rw [length_dropLast] at hk1;rw [List.getElem?_dropLast,if_pos (by omega)] at F
    rw [List.getElem?_dropLast,if_pos (by omega)] at g
    exact e3 k c q F g⟩
  refine yd (i:=i) (j:=j) (kk:=kk) ok o Z nd v h s I2 (by rw [hid_upd (by simp)];exact hbt) (wi.b.ok t U) wi.drop λH' f L=>⟨E,Nat.lt_succ_self _,_,_,_,rfl,L,(wi.step (λx G=>EG KI1 x G) e).1,hg,?_⟩
  obtain ⟨wi2,hl2⟩:=wi.step (λx G=>EG KI1 x G) e
  have a:=mw ok wi2.b.nd wi2.b.ok
  have c:p.1.length<=(gA (AF wd t) (p.1,p.2.dropLast)).1.length:=iI wi.b.nd (EF wi.drop (EG KI1 _ (wi.b.ok t U))).2.le
  omega
end
theorem vE {K:Fg} {H:Hp} {g:Nat×Nat->V} {J:List (Nat×Nat)} {bs:List Addr} (h:Paired (λ(p:List T.It×V) b=>K2 K H p.1 b) (tM J g) bs):bs.length=J.length/\∀(k:Nat) (p:Nat×Nat),J[k]?=some p->∃b,bs[k]?=some b/\SqT K H b (pv p):=by
 induction J generalizing bs with
 | nil=>cases h;exact ⟨rfl,λk p e=>by simp at e⟩
 | cons q J f=>
  cases h with
  | @cons _ b _ bs h1 h2=>
   obtain ⟨l,r⟩:=f h2;refine ⟨by simp [l],λk p e=>?_⟩
   cases k with
   | zero=>cases e;exact ⟨b,rfl,GS h1⟩
   | succ k=>exact r k p (by simpa using e)
noncomputable def Bv (w:Wd) (i j:Nat):PV:=if (i,j)∈(bM w).map (·.1) then ⟨.lst .leaf,.list ((qx w i j).map cz)⟩ else ⟨.leaf,.none⟩
noncomputable def MH (N:List Nw):Prop:=∃x:Wd×Nat×Nat,N=[x.1.enc,rm x.2.1,rm x.2.2]/\x.1.Ok/\x.2.1<x.1.n/\x.2.2<x.1.n
open Classical in
noncomputable def bu (N:List Nw):bA:=if h:MH N then .ok (Bv h.choose.1 h.choose.2.1 h.choose.2.2) else .no
theorem lL {w:Wd} {i j:Nat} (ok:w.Ok) (l:i<w.n) (A:j<w.n):bu [w.enc,rm i,rm j]=.ok (Bv w i j):=by
 have H:MH [w.enc,rm i,rm j]:=⟨(w,i,j),rfl,ok,l,A⟩
 unfold bu;rw [dif_pos H];obtain ⟨e,k,_,_⟩:=H.choose_spec;injection e with e1 e
 injection e with e2 e
 injection e with e3 _
 rw [<-Hf ok k e1,<-Int.ofNat_inj.mp (PyData.int.inj e2),<-Int.ofNat_inj.mp (PyData.int.inj e3)]
theorem yH {N:List Nw} {p:PV} (h:bu N=.ok p):∃w i j,N=[w.enc,rm i,rm j]/\w.Ok/\i<w.n/\j<w.n/\p=Bv w i j:=by
 unfold bu at h;split at h
 ·rename_i H
  cases h;obtain ⟨e,k,L,a⟩:=H.choose_spec;exact ⟨_,_,_,e,k,L,a,rfl⟩
 ·cases h
section
variable {P:Program} {w:World} {K:Fg} {H:Hp} {O:List Addr} {wd:Wd} {i j:Nat}
theorem FR {vs:List V} {Q:VK} {Qn:St->Hp->Prop} (ok:wd.Ok) (hi:i<wd.n) (A:j<wd.n) (nd:O.Nodup) (g:∀a∈O,H a≠none) (rs:Reps K (aS H O) vs [wd.enc,rm i,rm j])
  (k:∀v F G,RetOk K H O (Bv wd i j) v F G->Q v F):KB P w K { nx:=Qn,rt:=Q } (L2.start pW vs) H:=by
 have hvl:vs.length=3:=rs.1
 have hbz:(1000:Nat)<=sizeLine:=by decide
 match vs,hvl,rs with
 | [v0,v1,v2],_,rs=>
 have r0:=rs.2 0 v0 _ rfl rfl
 have r1:=rs.2 1 v1 _ rfl rfl
 have r2:=rs.2 2 v2 _ rfl rfl
 cases r1
 cases r2;obtain ⟨KI1,_⟩:=AR ok;have iX:∀{F},Same H F->∀a∈O,F a≠none:=λ{F} s a U=>by
  cases e:H a with
  | none=>exact absurd e (g a U)
  | some u=>rw [s a u e];exact Option.some_ne_none _
 show KB P w K { nx:=Qn,rt:=Q } [some v0,some (.int (i:Int)),some (.int (j:Int)),none,none,none,none,none,none] H
 refine ⟨v0,rfl,wd,O,v0,rfl,ok,nd,g,r0,λB He s0 hd1 kv=>?_⟩
 show bL (fK (tB (fL P w K (Ei 1 2) (aG 3))) (dC (tC .non)) cU) _ _ [some v0,some (.int (i:Int)),some (.int (j:Int)),some (.ref B),none,none,none,none,none] He
 obtain ⟨f,hf,hv⟩:=id kv.h;have hd1e:He B≠none:=by obtain ⟨Y,h,_⟩:=hf;rw [h];exact Option.some_ne_none _
 have hdO:B∉O:=λz=>g B z hd1
 have nd1:(B::O).Nodup:=List.nodup_cons.mpr ⟨hdO,nd⟩
 have r0e:Rep K (aS He (B::O)) v0 wd.enc:=r0.mono (fF s0 λa U=>by
  rcases Nk U with rfl | U
  ·exact .inr hd1
  ·exact .inl U)
 refine ⟨_,rfl,_,rfl,AU,λb Z=>⟨.ref B,rfl,B,b,[false,false],_,ky i j,rfl,rfl,DF.grow hf (dH Z),Er,rfl,_,rfl,?_⟩⟩
 rw [JI (p:=(i,j))];have M:Same He (aR He b (.tup [.int (i:Int),.int (j:Int)])):=dH Z
 generalize aR He b (.tup [.int (i:Int),.int (j:Int)])=H5 at M
 have s05:Same H H5:=s0.trans M
 unfold Bv at k;by_cases hin:(i,j)∈(bM wd).map (·.1)
 case neg=>
  rw [if_neg hin] at k;rw [decide_eq_false hin];exact dQ (k _ _ [] ⟨s05,(λ_ z=>nomatch z),(λ_ z=>nomatch z),nodup_nil,.leaf .non,rfl⟩)
 case pos=>
  rw [if_pos hin] at k;rw [decide_eq_true hin];obtain ⟨rr,hrr,err⟩:=List.mem_map.mp hin;obtain ⟨kk,hkk,ekk⟩:=getElem_of_mem hrr;have lk:il (bM wd) kk (i,j):=⟨kk,rr,Nv _,by rw [Nl hkk,ekk],err⟩
  have kv5:=kv.grow M
  have in5:∀a∈B::O,H5 a≠none:=λa U=>by
   rcases Nk U with rfl | U
   ·cases e:He a with
    | none=>exact absurd e hd1e
    | some u=>rw [M a u e];exact Option.some_ne_none _
   ·exact iX s05 a U
  have r05:=r0e.mono (fF (O':=B::O) M λa U=>.inl U)
  refine dq ⟨B::O,λd ob hd hD0=>⟨_,rfl,_,rfl,AU,λt0 ht0=>?_⟩⟩
  have ht0':H5 t0=none:=(dH hd).free ht0
  have hb0:SqT K (aS (aR (aR H5 d ob) t0 (.tup (pv (i,j)))) (B::O)) t0 (pv (i,j)):=.inl (.inl (qb cL λz=>in5 t0 z ht0'))
  refine ⟨t0,ky i j,rfl,D2H.grow hD0 (dH ht0),⟨_,hb0,.cons rfl (.cons rfl .nil)⟩,rfl,λob2 hD=>?_⟩
  have hD:D2H P w K (aR (aR (aR H5 d ob) t0 (.tup (pv (i,j)))) d ob2) (B::O) [false,false] d (ph [(i,j)] kT):=hD
  generalize eH6:aR (aR (aR H5 d ob) t0 (.tup (pv (i,j)))) d ob2=H6 at hD
  have s56:Same H5 H6:=λc u J=>by
   rw [<-eH6,cb (λz=>by subst z;rw [hd] at J;cases J),cb (λz=>by subst z;rw [ht0'] at J;cases J),cb (λz=>by subst z;rw [hd] at J;cases J)]
   exact J
  refine ⟨_,rfl,_,rfl,AU,λt1 ht1=>⟨Nat.le_trans (by decide:1<=1000) (by decide),λl hl0=>?_⟩⟩
  have ht1':H5 t1=none:=s56.free ht1
  have s67:Same H6 (aR H6 t1 (.tup (pv (i,j)))):=dH ht1
  have hl6:H6 l=none:=s67.free hl0
  have hl5:H5 l=none:=s56.free hl6
  have X:t1≠l:=λz=>by rw [<-z,cL] at hl0;cases hl0
  have htd1:t1≠d:=λz=>by
   obtain ⟨φ,hφ⟩:=D2H.ext hD;rw [z,hφ] at ht1
   cases ht1
  have s78:Same (aR H6 t1 (.tup (pv (i,j)))) (aR (aR H6 t1 (.tup (pv (i,j)))) l (.lst [.ref t1])):=dH hl0
  have I:IK P w K H5 (B::O) d l (aR (aR H6 t1 (.tup (pv (i,j)))) l (.lst [.ref t1])) ([(i,j)],[(i,j)]):=by
   refine ⟨(s56.trans s67).trans s78,D2H.grow (D2H.grow hD s67) s78,[t1],cL,rfl,λk b q a1 a2=>?_⟩
   match k,a1,a2 with
   | 0,a1,a2=>
    cases a1
    cases a2;refine .inl (.inl (qb (by rw [cb X,cL]) λz=>?_))
    rcases Nk z with z | z
    ·exact htd1 z
    rcases Nk z with z | z
    ·exact X z
    ·exact in5 t1 z ht1'
   | k+1,a1,a2=>simp at a1
  refine By (kk:=kk) ok r05 kv5 nd1 in5 hd hl5 I lk λH7 x7 x8 I7=>?_
  have sH7:Same H H7:=s05.trans I7.s
  obtain ⟨f7,hf7,hv7⟩:=(kv5.grow I7.s).h;have hD7:=D2H.d I7.hD
  refine ⟨.ref B,rfl,B,[false,false],_,rfl,hf7,λY N hkx hnd hlen hsys hat D hDn=>?_⟩
  have hdd1:d≠B:=λz=>in5 B mem_cons_self (by rw [<-z];exact hd)
  have tm:∀(ob:HO) c ys,SqT K H7 c ys->SqT K (aR H7 B ob) c ys:=λob c ys h=>by
   rcases h with (h | ⟨o,h⟩) | h
   ·exact .inl (.inl (by rw [cb (λz=>by rw [z,hat] at h;cases h)];exact h))
   ·exact .inl (.inr ⟨o,by rw [cb (λz=>by rw [z,hat] at h;cases h)];exact h⟩)
   ·exact .inr h
  have hkx8:KX K (aR H7 B (d5 P w [false,false] B Y N)) [false,false] (tM ((bM wd).map (·.1)) f7) Y:=hkx.mono (tm _)
  have hD8:D2 P w K (aR H7 B (d5 P w [false,false] B Y N)) [false,false] d (ph (o8 wd i j) kT):=by
   obtain ⟨ys,a1,a2,a3⟩:=hD7;exact ⟨ys,by rw [cb hdd1];exact a1,a2.mono (tm _),a3⟩
  have hat8:aR H7 B (d5 P w [false,false] B Y N) B=some (d5 P w [false,false] B Y N):=cL
  have s8:∀c u,c≠B->H7 c=some u->aR H7 B (d5 P w [false,false] B Y N) c=some u:=λc u J h=>by rw [cb J];exact h
  have hDn7:H7 D=none/\D≠B:=⟨by
   by_cases z:D=B
   ·rw [z,cL] at hDn;cases hDn
   ·rw [cb z] at hDn;exact hDn,λz=>by rw [z,cL] at hDn;cases hDn⟩
  generalize aR H7 B (d5 P w [false,false] B Y N)=H8 at *
  have gr:∀{L:HO} {L':HO},Same (H8) (aR (aR H8 D L) D L'):=λc u J=>by
   rw [cb (λz=>by subst z;rw [hDn] at J;cases J),cb (λz=>by subst z;rw [hDn] at J;cases J)]
   exact J
  obtain ⟨hbl,hbk⟩:=vE (GP hkx8);rw [length_map,length_map] at hbl;have hkl:(bM wd).length<=576:=KI1.len ok.h24
  let S:Row->Bool:=λr=>decide (r.1∈o8 wd i j)
  refine ⟨λn m ys F=>F=aR H8 D (.lst ys)/\m=(bM wd).length-n/\n<=(bM wd).length/\ys=(((bM wd).take n).filter S).map (λr=>f7 r.1),⟨_,rfl,rfl,Nat.zero_le _,rfl⟩,?_⟩
  rintro n m ys F ⟨rfl,rfl,hn,rfl⟩
  have s9:Same H8 (aR H8 D (.lst ((((bM wd).take n).filter S).map (λr=>f7 r.1)))):=dH hDn
  refine ⟨cL,?_⟩
  by_cases X:n<(bM wd).length
  ·refine .inr ⟨⟨s9 _ _ hat8,by rw [length_map,hbl];exact X⟩,?_,?_⟩
   ·rw [length_map]
    have:=length_filter_le S ((bM wd).take n)
    rw [length_take] at this;omega
   rintro x F ⟨rfl,b,eb,rfl⟩
   have er:(bM wd)[n]?=some (bM wd)[n]:=Nl X
   have htk:(bM wd).take (n+1)=(bM wd).take n++[(bM wd)[n]]:=by rw [take_succ,er];rfl
   obtain ⟨b',eb',hb'⟩:=hbk n (bM wd)[n].1 (by rw [getElem?_map,er];rfl)
   rw [eb] at eb'
   cases eb'
   have hrm:(bM wd)[n]∈bM wd:=getElem_mem _
   generalize (bM wd)[n]=r at *
   have k2:K2 K (aR H8 D (.lst ((((bM wd).take n).filter S).map (λr=>f7 r.1)))) (ky r.1.1 r.1.2) b:=⟨_,bB s9 hb',.cons rfl (.cons rfl .nil)⟩
   refine ⟨⟨by simp [bj],λq v e=>?_⟩,.ref b,rfl,.ref d,rfl,d,b,[false,false],ph (o8 wd i j) kT,ky r.1.1 r.1.2,rfl,rfl,?_,k2,rfl,_,rfl,?_⟩
   ·match q,e with
    | 0,e=>exact e
    | 1,e=>exact e
    | 2,e=>exact e
    | 3,e=>exact e
    | 4,e=>exact e
    | 5,e=>exact e
    | 6,e=>exact e
    | 7,e=>cases e
    | 8,e=>exact e
    | q+9,e=>cases e
   ·obtain ⟨ys,a1,a2,a3⟩:=hD8
    exact ⟨ys,s9 _ _ a1,a2.mono λc Y=>bB s9,a3⟩
   ·rw [vY]
    by_cases hS:r.1∈o8 wd i j
    ·rw [decide_eq_true hS]
     refine dQ ⟨.ref B,rfl,.ref b,rfl,B,b,[false,false],_,ky r.1.1 r.1.2,f7 r.1,Y,N,rfl,rfl,⟨s9 _ _ hat8,hkx8.mono λc Y=>bB s9,hnd,hlen,hsys⟩,k2,rfl,DW (List.mem_map.mpr ⟨r,hrm,rfl⟩),cL,(bM wd).length-(n+1),by omega,?_,rfl,X,?_⟩
     ·funext c
      by_cases z:c=D
      ·rw [z,cL,cL]
      ·rw [cb z,cb z,cb z]
     ·rw [htk,filter_append,map_append]
      have:[r].filter S=[r]:=by rw [filter_cons,if_pos (decide_eq_true hS)];rfl
      rw [this];rfl
    ·rw [decide_eq_false hS]
     refine dq ⟨(bM wd).length-(n+1),by omega,rfl,rfl,X,?_⟩
     ·rw [htk,filter_append]
      have:[r].filter S=[]:=by rw [filter_cons,if_neg (λz=>hS (of_decide_eq_true z))];rfl
      rw [this,append_nil]
  ·have e:n=(bM wd).length:=by omega
   subst e;refine .inl ⟨⟨s9 _ _ hat8,by rw [length_map,hbl];exact Nv _⟩,?_⟩
   rw [take_length];have sF:Same H (aR H8 D (.lst (((bM wd).filter S).map (λr=>f7 r.1)))):=λc u J=>by
    rw [cb (λz=>by subst z;rw [sH7 _ _ J] at hDn7;cases hDn7.1)]
    exact s8 c u (λz=>by subst z;rw [hd1] at J;cases J) (sH7 _ _ J)
   refine k _ _ [D] ⟨sF,λa U=>by rw [List.mem_singleton.mp U];exact sH7.free hDn7.1,λa U=>by rw [List.mem_singleton.mp U,cL];exact Option.some_ne_none _,by simp,?_,rfl⟩
   refine Own.mkLeaves cL (by rw [length_map,length_map];rfl) λn u E R C=>?_
   rw [getElem?_map] at R C
   obtain ⟨r,er,rfl⟩:=Option.map_eq_some_iff.mp R;obtain ⟨t,er',rfl⟩:=Option.map_eq_some_iff.mp C;have er':((bM wd).filter S)[n]?=some t:=er'
   rw [er] at er'
   cases er'
   refine (hv7 r (List.mem_filter.mp (mem_of_getElem? er)).1).mono λc u J=>?_
   unfold aS at J ⊢
   split at J
   ·cases J
   ·rename_i nc
    have c1:c≠B:=λz=>nc (by rw [z];exact mem_cons_self)
    have cD:c≠D:=λz=>by rw [z,hDn7.1] at J;cases J
    rw [if_neg (λz=>by
     rcases Nk z with y | y
     ·exact cD y
     ·exact nc (Nn _ y)),cb cD]
    exact s8 c u c1 J
end
noncomputable abbrev eR (v:Nat) (k:Int):F1:=ah (ae v) (eK (.int k))
noncomputable abbrev M1:FB:=aM ai (ar bp (eR 3 0) (eK (.str "mark")))
noncomputable def dS:FS:=(ak (dE (ag 2 bN (ab (ae 0) (ab (ae 1) af))))
  (dE (ag 2 bN (ab (ae 0) (ab (ae 2) af)))))
noncomputable def cn:List Nw->bA:=aB 3 dS
theorem Do {X:Wd} {i j:Nat} (ok:X.Ok) (l:i<X.n) (A:j<X.n):cn [X.enc,rm i,rm j]=.ok ⟨.leaf,.none⟩:=by
 have a:=cv (Γ:=aN 3 [X.enc,rm i,rm j]) (az (aw (i:=0) rfl) (az (aw (i:=1) rfl) aj)) (eJ ok l) rfl rfl
 have b:=cv (Γ:=aN 3 [X.enc,rm i,rm j]) (az (aw (i:=0) rfl) (az (aw (i:=2) rfl) aj)) (eJ ok A) rfl rfl
 have x:dS (aN 3 [X.enc,rm i,rm j])=.nx (aN 3 [X.enc,rm i,rm j]):=by
  refine ay (Γ1:=aN 3 [X.enc,rm i,rm j]) ?_ ?_
  ·have a:ag 2 bN _ _=_:=a
   unfold dE jo;rw [a]
  ·have b:ag 2 bN _ _=_:=b
   unfold dE jo;rw [b]
 show aB 3 dS _=_
 unfold aB;rw [x]
theorem u9 {u:Type} {K:Fg} {σ:St} {H:Hp} {Q:VK} {c:Nat} {tl te:TE} {p:Addr} {ws:List V} {row:List u} {f:u->V} (N:∀C:VK,C (.ref p) H->tl σ H C) (g:SqL K H p ws) (O:ws.length=row.length) (y:row.length<=1000)
  (R:∀(k:Nat) v t,ws[k]?=some v->row[k]?=some t->∀j (C:VK),Same H j->(∀d,Same j d->C (f t) d)->te ((bj [c] σ).set c (some v)) j C)
  (q:∀L j,Same H j->H L=none->j L=some (.lst (row.map f))->Q (.ref L) j):eo [c] (cS K tl) (aP c) gO te σ H Q:=by
 refine N _ ⟨p,rfl,⟨_,g⟩,λL P=>?_⟩
 have Z:(1000:Nat)<=sizeLine:=by decide
 refine ⟨λk m G j=>m=row.length-k/\k<=row.length/\G=(row.take k).map f/\j L=some (.lst G)/\Same H j,⟨row.length,by simp,Nat.zero_le _,by simp,cL,dH P⟩,?_⟩
 rintro k m G j ⟨rfl,hk,rfl,hLs,sH⟩
 refine ⟨hLs,?_⟩
 have a:=sH.seq g
 by_cases X:k<row.length
 case neg=>
  left
  rw [take_of_length_le (by omega)] at hLs
  exact ⟨⟨_,a,by omega⟩,q L j sH P hLs⟩
 case pos=>
  right
  have e:k<ws.length:=by omega
  have B:ws[k]?=some ws[k]:=Nl e
  refine ⟨⟨_,_,a,B⟩,by rw [length_map,length_take];omega,?_⟩
  rintro v d ⟨rfl,hv⟩
  have b:v=ws[k]:=Option.some.inj ((hv _ a).symm.trans B)
  subst b;refine ⟨qX,Aq (R k ws[k] row[k] B (Nl X) _ _ sH λx U=>?_)⟩
  have h:=U _ _ hLs
  refine ⟨h,row.length-(k+1),by omega,rfl,X,?_,cL,λc o J=>?_⟩
  ·rw [take_succ,Nl X,map_append];rfl
  ·rw [cb (λz=>by subst z;rw [P] at J;cases J)]
   exact U c o (sH c o J)
noncomputable def wO (a:List Nw->bA):FS:=(ak (ax false 1 (ar h9 (bb aQ (ab (ae 0) af)) (eK (.int 2))))
  (aE (oG (aM ai (ar bp (ae 1) (eK (.int 0)))) (ah (ae 0) (eK (.int 0))) (bz (ab (eK (.str "and")) (ab (ag 1 a (ab (lJ (λk=>(none,some k)) (ae 0) (ae 1)) af)) (ab (ag 1 a (ab (lJ (λk=>(some k,none)) (ae 0) (ae 1)) af)) af)))))))
noncomputable def fW:Nat->List Nw->bA
 | 0=>λ_=>.no
 | n+1=>aB 2 (wO (fW n))
noncomputable def eC:List Nw->bA:=fW 8
noncomputable def nZ:FS:=(ak (ax true 1 (aW .leaf af))
  (ak (dn 2 (aU (ae 0))
  (b8 (aM ai (ar (bx true) (ae 2) (ae 1))) (aF 1 (ae 2)) aJ))
  (aE (bX 1))))
noncomputable def b6:List Nw->bA:=aB 3 nZ
noncomputable abbrev pV:List Str:=["world", "row", "told", "reason", "mark", "behind", "pair", "each"]
noncomputable abbrev zM:List Str:=["pairs_behind", "all_of", "each_once", "opposite_of"]
noncomputable abbrev LB:F1:=bz (ab (eK (.str "mark")) (ab (eR 3 1) af))
noncomputable abbrev LC:F1:=oG (aM ai (ar (bx false) (eR 3 1) (ah (eR 0 1) (eR 1 0)))) (ae 4) (bz (ab (eK (.str "not")) (ab (ae 4) af)))
noncomputable abbrev fPB:F1:=ag 2 m_pairs_behind (ab (ae 0) (ab (ae 1) af))
noncomputable abbrev fZ:FB:=aM ai (ar bp (eR 3 1) (eK (.int 0)))
noncomputable abbrev G9:F1:=bz (ab (eK (.str "some next")) (ab (ag 1 eC (ab (ag 1 b6 (ab (ae 5) af)) af)) af))
noncomputable abbrev Ji:F1:=bz (ab (eK (.str "not")) (ab (bz (ab (eK (.str "some next")) (ab (ag 1 eC (ab (ag 1 b6 (ab (aq .leaf 7 (aU (ae 5)) aK (ag 1 bw (ab (ae 7) af))) af)) af)) af))) af))
noncomputable def Kz (P:Program) (w:World) (K:Fg):L2.TS:=bL (dm (tE K W0 (eR 1 2)) (aP 3)) (bL (fK (tT K W0 M1) (bL (dm (tE K W0 LB) (aP 4)) (dC (tE K W0 LC))) cU)
 (bL (dm (eo [6] (cS K (tE K W0 fPB)) (aP 6) gO (fw P w K (aG 2) (aG 6))) (aP 5)) (bL (fK (tT K W0 fZ) (dC (tE K W0 G9)) cU) (dC (tE K W0 Ji)))))
noncomputable abbrev GO (X:Wd) (r:Row) (G o C:Option PV):Ev:=[Nx X.enc,Nx (cz r),none,G,o,C,none,none]
noncomputable def pd:Out PV->Option D
 | .ok p _=>if p.s.isView then none else some p.d
 | _=>none
theorem vD {o:Out PV} {d:D} (h:pd o=some d):∃p B,o=.ok p B/\p.s.isView=false/\p.d=d:=by
 cases o with
 | ok p B=>
  have h:(if p.s.isView then none else some p.d)=some d:=h
  cases P:p.s.isView with
  | true=>rw [P] at h;cases h
  | false=>rw [P] at h;cases h;exact ⟨p,B,rfl,P,rfl⟩
 | er c B=>cases h
 | no=>cases h
noncomputable def Bi (X:Wd) (r:Row) (b:Nat×Nat->D):Option D:=match r.2 with
 | .mk c=>pd (LC (GO X r (Nx (bH (.mk c))) (Nx (.tuple [.str "mark",.str c])) none))
 | .st s t=>if s=0 then pd (G9 (GO X r (Nx (bH (.st s t))) none (Nx (.list ((eN X r).map b))))) else pd (Ji (GO X r (Nx (bH (.st s t))) none (Nx (.list ((eN X r).map b)))))
structure KS (P:Program) (w:World) (K:Fg) (H:Hp) (O:List Addr) (d:Addr) (ps:List (Nat×Nat)) (tt:Nat×Nat->D):Prop where
 h:∃f,DF P w K H d ps f/\∀p∈ps,Rep K (aS H O) (f p) (tt p)
noncomputable def xQ (P:Program) (w:World) (K:Fg):Sp:=λL H Q _=>∃(X:Wd) (O:List Addr) (v0 v1:V) (d:Addr) (ks:List (Nat×Nat)) (r:Row) (tt:Nat×Nat->D) (dd:D),L=[v0,v1,.ref d]/\X.Ok/\O.Nodup/\(∀a∈O,H a≠none)/\Rep K (aS H O) v0 X.enc/\Rep K (aS H O) v1 (cz r)/\KS P w K H O d ks tt/\r.1.1<X.n/\r.1.2<X.n/\LW r.2/\(∀p∈eN X r,p∈ks)/\(eN X r).length<=1000/\Bi X r tt=some dd/\∀v F,Same H F->Rep K (aS F O) v dd->Q v F
section
variable {P:Program} {w:World} {K:Fg} {H:Hp}
theorem KS.grow {F:Hp} {O:List Addr} {d:Addr} {J:List (Nat×Nat)} {b:Nat×Nat->D} (h:KS P w K H O d J b) (s:Same H F):KS P w K F O d J b:=let ⟨f,R,C⟩:=h.h;⟨f,R.grow s,λp g=>(C p g).mono (fF s λa U=>.inl U)⟩
theorem FQ {vs:List V} {Q:VK} {E:XK} {Qn:St->Hp->Prop} (h:xQ P w K vs H Q E):Kz P w K { nx:=Qn,rt:=Q } (L2.start pV vs) H:=by
 obtain ⟨X,O,v0,v1,d,ks,r,tt,dd,rfl,ok,nd,g,r0,r1,⟨f,hD,hV⟩,l,A,M,Z,hbl,R,q⟩:=h;show Kz P w K { nx:=Qn,rt:=Q } [some v0,some v1,some (.ref d),none,none,none,none,none] H
 have inS1:∀{F},Same H F->∀a∈O,F a≠none:=λ{F} s a U=>by
  cases e:H a with
  | none=>exact absurd e (g a U)
  | some u=>rw [s a u e];exact Option.some_ne_none _
 have mono:∀{F},Same H F->Same (aS H O) (aS F O):=λs=>fF s λa U=>.inl U
 have EE:∀(F:Hp) (x3 o C:Option (V×D)),Same H F->(∀u,x3=some u->Rep K (aS F O) u.1 u.2)->(∀u,o=some u->Rep K (aS F O) u.1 u.2)->(∀u,C=some u->Rep K (aS F O) u.1 u.2)->EnvOk K F O (List.replicate (GO X r (x3.map λu=>(⟨.leaf,u.2⟩:PV)) (o.map λu=>(⟨.leaf,u.2⟩:PV)) (C.map λu=>(⟨.leaf,u.2⟩:PV))).length []) F [some v0,some v1,some (.ref d),x3.map (·.1),o.map (·.1),C.map (·.1),none,none] (GO X r (x3.map λu=>(⟨.leaf,u.2⟩:PV)) (o.map λu=>(⟨.leaf,u.2⟩:PV)) (C.map λu=>(⟨.leaf,u.2⟩:PV))):=λF x3 o C s h3 h4 h5=>by
  refine zk nd (inS1 s) rfl λn x G=>?_
  match n,G with
  | 0,G=>cases G;exact ⟨rfl,_,rfl,r0.mono (mono s)⟩
  | 1,G=>cases G;exact ⟨rfl,_,rfl,r1.mono (mono s)⟩
  | 2,G=>cases G
  | 3,G=>
   cases x3 with
   | none=>cases G
   | some u=>cases G;exact ⟨rfl,_,rfl,h3 u rfl⟩
  | 4,G=>
   cases o with
   | none=>cases G
   | some u=>cases G;exact ⟨rfl,_,rfl,h4 u rfl⟩
  | 5,G=>
   cases C with
   | none=>cases G
   | some u=>cases G;exact ⟨rfl,_,rfl,h5 u rfl⟩
  | 6,G=>cases G
  | 7,G=>cases G
  | n+8,G=>cases G
 obtain ⟨⟨i,j⟩,y⟩:=r;have ro:∀x3 o C,ae 1 (GO X ((i,j),y) x3 o C)=.ok ⟨.leaf,cz ((i,j),y)⟩ (GO X ((i,j),y) x3 o C):=λx3 o C=>aw rfl
 refine uy g (EE H none none none (Same.refl _) (λ_ z=>nomatch z) (λ_ z=>nomatch z) (λ_ z=>nomatch z)) (eX (j:=2) (ds:=[rm i,rm j,bH y]) (ro none none none) (aO (d:=.int 2)) rfl rfl rfl) rfl λv3 H1 s1 r3=>?_
 have r3:Rep K (aS H1 O) v3 (bH y):=r3
 have r3':∀{F},Same H1 F->Rep K (aS F O) v3 (bH y):=λs=>r3.mono (fF s λa U=>.inl U)
 cases y with
 | mk c=>
  have R:pd (LC (GO X ((i,j),.mk c) (Nx (bH (.mk c))) (Nx (.tuple [.str "mark",.str c])) none))=some dd:=R
  have rv:ae 3 (GO X ((i,j),.mk c) (Nx (bH (.mk c))) none none)=.ok ⟨.leaf,bH (.mk c)⟩ _:=aw rfl
  refine Da (EE H1 (some (v3,bH (.mk c))) none none s1 (λu J=>by cases J;exact r3) (λ_ z=>nomatch z) (λ_ z=>nomatch z)) (cH (s:=.leaf) (aA (eX (j:=0) (ds:=[.str "mark",.str c]) rv (aO (d:=.int 0)) rfl rfl rfl) (aO (d:=.str "mark")) (by kernel_rfl))) λH2 N=>dQ ?_
  have s12:=s1.trans N
  refine uy (inS1 s12) (EE H2 (some (v3,bH (.mk c))) none none s12 (λu J=>by cases J;exact r3' N) (λ_ z=>nomatch z) (λ_ z=>nomatch z)) (cJ (az (aO (d:=.str "mark")) (az (eX (j:=1) (ds:=[.str "mark",.str c]) rv (aO (d:=.int 1)) rfl rfl rfl) aj)) rfl rfl) rfl λv4 H3 s3 r4=>?_
  have r4:Rep K (aS H3 O) v4 (.tuple [.str "mark",.str c]):=r4
  have s13:=s12.trans s3
  obtain ⟨p,I,e,hv,rfl⟩:=vD R;exact uy (inS1 s13) (EE H3 (some (v3,bH (.mk c))) (some (v4,.tuple [.str "mark",.str c])) none s13 (λu J=>by cases J;exact r3' (N.trans s3)) (λu J=>by cases J;exact r4) (λ_ z=>nomatch z)) e hv λv H4 s4 r5=>q v H4 (s13.trans s4) r5
 | st s t=>
  have R:(if s=0 then pd (G9 (GO X ((i,j),.st s t) (Nx (bH (.st s t))) none (Nx (.list ((eN X ((i,j),.st s t)).map tt))))) else pd (Ji (GO X ((i,j),.st s t) (Nx (bH (.st s t))) none (Nx (.list ((eN X ((i,j),.st s t)).map tt))))))=some dd:=R
  have rv:∀o C,ae 3 (GO X ((i,j),.st s t) (Nx (bH (.st s t))) o C)=.ok ⟨.leaf,bH (.st s t)⟩ (GO X ((i,j),.st s t) (Nx (bH (.st s t))) o C):=λ_ _=>aw rfl
  refine Da (EE H1 (some (v3,bH (.st s t))) none none s1 (λu J=>by cases J;exact r3) (λ_ z=>nomatch z) (λ_ z=>nomatch z)) (cH (s:=.leaf) (aA (eX (j:=0) (ds:=[.str "step",.int s,.int t]) (rv none none) (aO (d:=.int 0)) rfl rfl rfl) (aO (d:=.str "mark")) (by kernel_rfl))) λH2 N=>dq ?_
  have s12:=s1.trans N
  show tE K W0 fPB _ H2 _
  refine uy (inS1 s12) (EE H2 (some (v3,bH (.st s t))) none none s12 (λu J=>by cases J;exact r3' N) (λ_ z=>nomatch z) (λ_ z=>nomatch z)) (cv (az (aw (i:=0) rfl) (az (aw (i:=1) rfl) aj)) (rK ok l A M) rfl rfl) rfl λvp H3 s3 rp=>?_
  have s13:=s12.trans s3
  cases rp with
  | @lst p ws _ hq hl hrr=>
  rw [length_map] at hl;have key:=u9 (K:=K) (σ:=[some v0,some v1,some (.ref d),some v3,none,none,none,none]) (H:=H3) (Q:=λv H2=>aP 5 v [some v0,some v1,some (.ref d),some v3,none,none,none,none] H2 (bL (fK (tT K W0 fZ) (dC (tE K W0 G9)) cU) (dC (tE K W0 Ji)) { nx:=Qn,rt:=Q })) (c:=6) (tl:=λ_ H Q=>Q (.ref p) H) (te:=fw P w K (aG 2) (aG 6)) (p:=p) (ws:=ws) (row:=eN X ((i,j),.st s t)) (f:=f) (λQ' h=>h) (hid_le.seq hq) hl hbl (λk v a B m H4 Q' s4 kq=>?_) λL H4 s4 hL hL2=>?_
  ·exact key
  ·obtain ⟨b,rfl,hbb⟩:=Jq (hrr k v (xm a) B (by rw [getElem?_map,m];rfl))
   have hb2:SqT K H4 b (pv a):=bB (hid_le.trans s4) hbb
   have U:a∈ks:=Z a (mem_of_getElem? m)
   exact ⟨.ref d,by simp [bj],.ref b,by simp [bj],d,b,[false,false],_,ky a.1 a.2,f a,rfl,rfl,DF.grow hD (s13.trans s4),⟨_,hb2,.cons rfl (.cons rfl .nil)⟩,rfl,DW U,kq H4 (Same.refl _)⟩
  ·have s14:=s13.trans s4
   have hLO:L∉O:=λz=>inS1 s13 L z hL
   have r5:∀{F},Same H4 F->Rep K (aS F O) (.ref L) (.list ((eN X ((i,j),.st s t)).map tt)):=λ{F} sH=>by
    refine .lst (vs:=(eN X ((i,j),.st s t)).map f) (.inl (.inl (qb (sH _ _ hL2) hLO))) (by rw [length_map,length_map]) λk v dk B m=>?_
    rw [getElem?_map] at B m
    cases ea:(eN X ((i,j),.st s t))[k]? with
    | none=>rw [ea] at B;cases B
    | some a=>
     rw [ea] at B m
     cases B
     cases m;exact (hV a (Z a (mem_of_getElem? ea))).mono (fF (s14.trans sH) λa U=>.inl U)
   show fK (tT K W0 fZ) (dC (tE K W0 G9)) cU _ [some v0,some v1,some (.ref d),some v3,none,some (.ref L),none,none] H4
   refine Da (EE H4 (some (v3,bH (.st s t))) none (some (.ref L,.list ((eN X ((i,j),.st s t)).map tt))) s14 (λu J=>by cases J;exact r3' ((N.trans s3).trans s4)) (λ_ z=>nomatch z) (λu J=>by cases J;exact r5 (Same.refl _))) (cH (s:=.leaf) (aA (eX (j:=1) (ds:=[.str "step",.int s,.int t]) (rv none _) (aO (d:=.int 1)) rfl rfl rfl) (aO (d:=.int 0)) eq_int)) λH5 s5=>?_
   have s15:=s14.trans s5
   by_cases Y:s=0
   ·rw [if_pos Y] at R
    rw [show (s==0)=true by rw [Y];rfl]
    obtain ⟨p',I,e,hv,rfl⟩:=vD R;refine dQ ?_
    exact uy (inS1 s15) (EE H5 (some (v3,bH (.st s t))) none (some (.ref L,.list ((eN X ((i,j),.st s t)).map tt))) s15 (λu J=>by cases J;exact r3' (((N.trans s3).trans s4).trans s5)) (λ_ z=>nomatch z) (λu J=>by cases J;exact r5 s5)) e hv λv H6 s6 r6=>q v H6 (s15.trans s6) r6
   ·rw [if_neg Y] at R
    rw [show (s==0)=false by rw [beq_eq_false_iff_ne];exact Y]
    obtain ⟨p',I,e,hv,rfl⟩:=vD R;refine dq ?_
    exact uy (inS1 s15) (EE H5 (some (v3,bH (.st s t))) none (some (.ref L,.list ((eN X ((i,j),.st s t)).map tt))) s15 (λu J=>by cases J;exact r3' (((N.trans s3).trans s4).trans s5)) (λ_ z=>nomatch z) (λu J=>by cases J;exact r5 s5)) e hv λv H6 s6 r6=>q v H6 (s15.trans s6) r6
end
noncomputable def DC (P:Program) (w:World) (K:Fg) (I:Str->Option Value) (m:Heap) (j:Nat):Prop:=
 ∃(f:Addr) (fd:FuncData) (ps:List Str),cC P w K I m g5 j f fd ps (xQ P w K)/\I "sentence_of"=some (.ref f)/\PySem.W.keepIn K (.ref f)=true/\Binds K fd ps []
noncomputable abbrev L4 (X:Cx):Prop:=∃(k:Nat) (f:Addr) (fd:FuncData) (ps:List Str),cC X.prog X.w X.K X.mg X.base g5 k f fd ps (xQ X.prog X.w X.K)/\Room k X.A/\X.mg "sentence_of"=some (.ref f)/\PySem.W.keepIn X.K (.ref f)=true/\Binds X.K fd ps []
noncomputable abbrev xf:List Str:=["world", "one", "other", "rows", "told", "row"]
noncomputable abbrev DP:List Str:=["check_world", "check_pair", "len", "MOST_ROOMS_APART", "rows_for", "sentence_of"]
noncomputable abbrev v7:D:=.int 6
noncomputable abbrev M3:F1:=ag 1 bf (ab (ae 0) af)
noncomputable abbrev LD:F1:=ag 3 cn (ab (ae 0) (ab (ae 1) (ab (ae 2) af)))
noncomputable abbrev LF:FB:=aM ai (ar jf (bb aQ (ab (eR 0 0) af)) (eK v7))
noncomputable abbrev M0:F1:=ag 3 bu (ab (ae 0) (ab (ae 1) (ab (ae 2) af)))
noncomputable abbrev LA:FB:=aM ai (ar (fA false) (ae 3) (eK .none))
noncomputable def KL (P:Program) (w:World) (K:Fg):L2.TS:=bL (iA (tE K W0 M3)) (bL (iA (tE K W0 LD)) (bL (fK (tT K W0 LF) (tS K W0 FM) cU) (bL (dm (tE K W0 M0) (aP 3)) (bL (fK (tT K W0 LA) (dC (tC .non)) cU)
 (bL (dm (oO P w K [false,false]) (aP 4)) (bL (eY (cS K (aG 3)) (aP 5) (oV P w K (aG 4) (Fh K 5) (ff (xQ P w K) [] L2.E0 (aL (aG 0) (aL (aG 5) (aL (aG 4) b5)))))) (dC (fw P w K (aG 4) (Ei 1 2)))))))))
noncomputable def sts (X:Wd):List Row->(Nat×Nat->D)->Option (Nat×Nat->D)
 | [],g=>some g
 | r::L,g=>(Bi X r g).bind λE=>sts X L λp=>if p=r.1 then E else g p
noncomputable def w4 (X:Wd) (i j:Nat):Option D:=if (i,j)∈(bM X).map (·.1) then (sts X (qx X i j) λ_=>.none).map λg=>g (i,j) else some .none
theorem rn {X:Wd}:∀{L:List Row} {K:List (Nat×Nat)},df X K L=true->∀(k:Nat) r,L[k]?=some r->fx X (K++(L.take k).map (·.1)) r=true
 | [],_,_,k,r,e=>by simp at e
 | r0::L,K,h,0,r,e=>by
  simp at e
  unfold df at h;rw [Bool.and_eq_true] at h;rw [<-e];simpa using h.1
 | r0::L,K,h,k+1,r,e=>by
  unfold df at h;rw [Bool.and_eq_true] at h;have:=rn h.2 k r (by simpa using e)
  rw [append_assoc] at this;simpa using this
theorem wW {X:Wd} {K:List (Nat×Nat)} {r:Row} (h:fx X K r=true):∀p∈eN X r,p∈K:=λp g=>by
 obtain ⟨q,y⟩:=r
 cases y with
 | mk c=>cases g
 | st s t=>
  have h:(decide (s=0\/s=1)&&iX (X.stp (if s=0 then q.1 else q.2)) t&&jg X K q.1 q.2 s.toNat t.toNat)=true:=h
  simp only [Bool.and_eq_true] at h
  have:=List.all_eq_true.mp h.2 p g
  exact of_decide_eq_true this
section
variable {P:Program} {w:World} {K:Fg} {H:Hp} {O:List Addr} {wd:Wd} {i j:Nat}
theorem F0 {vs:List V} {Q:VK} {Qn:St->Hp->Prop} {dd:D} (ok:wd.Ok) (h6:wd.n<=6) (hi:i<wd.n) (hj:j<wd.n) (he:w4 wd i j=some dd) (nd:O.Nodup) (inH:∀a∈O,H a≠none) (rs:Reps K (aS H O) vs [wd.enc,rm i,rm j])
  (q:∀v F,Same H F->Rep K (aS F O) v dd->Q v F):KL P w K { nx:=Qn,rt:=Q } (L2.start xf vs) H:=by
 have hvl:vs.length=3:=rs.1
 match vs,hvl,rs with
 | [v0,v1,v2],_,rs=>
 have r0:=rs.2 0 v0 _ rfl rfl
 have r1:=rs.2 1 v1 _ rfl rfl
 have r2:=rs.2 2 v2 _ rfl rfl
 cases r1
 cases r2;show KL P w K { nx:=Qn,rt:=Q } [some v0,some (.int (i:Int)),some (.int (j:Int)),none,none,none] H
 have iX:∀{F},Same H F->∀a∈O,F a≠none:=λ{F} s a U=>by
  cases e:H a with
  | none=>exact absurd e (inH a U)
  | some u=>rw [s a u e];exact Option.some_ne_none _
 have mono:∀{F},Same H F->Same (aS H O) (aS F O):=λs=>fF s λa U=>.inl U
 have EE:∀(F:Hp) (x3:Option (V×D)),Same H F->(∀u,x3=some u->Rep K (aS F O) u.1 u.2)->EnvOk K F O (List.replicate (([Nx wd.enc,Nx (rm i),Nx (rm j),x3.map λu=>(⟨.leaf,u.2⟩:PV),none,none]:Ev)).length []) F [some v0,some (.int (i:Int)),some (.int (j:Int)),x3.map (·.1),none,none] [Nx wd.enc,Nx (rm i),Nx (rm j),x3.map λu=>(⟨.leaf,u.2⟩:PV),none,none]:=λF x3 s h3=>by
  refine zk nd (iX s) rfl λn x G=>?_
  match n,G with
  | 0,G=>cases G;exact ⟨rfl,_,rfl,r0.mono (mono s)⟩
  | 1,G=>cases G;exact ⟨rfl,_,rfl,.int _⟩
  | 2,G=>cases G;exact ⟨rfl,_,rfl,.int _⟩
  | 3,G=>
   cases x3 with
   | none=>cases G
   | some u=>cases G;exact ⟨rfl,_,rfl,h3 u rfl⟩
  | 4,G=>cases G
  | 5,G=>cases G
  | n+6,G=>cases G
 refine uy inH (EE H none (Same.refl _) (λ_ z=>nomatch z)) (cv (az (aw (i:=0) rfl) aj) ok.check rfl rfl) rfl λ_ H1 s1 _=>?_
 refine uy (iX s1) (EE H1 none s1 (λ_ z=>nomatch z)) (cv (az (aw (i:=0) rfl) (az (aw (i:=1) rfl) (az (aw (i:=2) rfl) aj))) (Do ok hi hj) rfl rfl) rfl λ_ H2 N _=>?_
 have s02:=s1.trans N
 refine Da (EE H2 none s02 (λ_ z=>nomatch z)) (cH (s:=.leaf) (b:=decide ((6:Int)<(wd.n:Int))) (aA (g:=jf) (b4 (d:=.int (wd.n:Int)) (az (eX (j:=0) (ds:=[.list wd.os,.list (wd.m.map cP),.list (wd.s.map aT)]) (aw (i:=0) rfl) (aO (d:=.int 0)) rfl rfl rfl) aj) (by show some (PyData.int (wd.os.length:Int))=_;rw [ok.g.lo])) (aO (d:=.int 6)) rfl)) λH3 s3=>?_
 rw [decide_eq_false (show ¬(6:Int)<(wd.n:Int) by omega)]
 refine dq ?_
 have s03:=s02.trans s3
 have rr:=lL ok hi hj
 by_cases hin:(i,j)∈(bM wd).map (·.1)
 case neg=>
  unfold w4 at he;rw [if_neg hin] at he
  cases he;unfold Bv at rr;rw [if_neg hin] at rr;refine uy (iX s03) (EE H3 none s03 (λ_ z=>nomatch z)) (cv (az (aw (i:=0) rfl) (az (aw (i:=1) rfl) (az (aw (i:=2) rfl) aj))) rr rfl rfl) rfl λv3 H4 s4 r3=>?_
  have r3:Rep K (aS H4 O) v3 .none:=r3
  have s04:=s03.trans s4
  refine Da (EE H4 (some (v3,.none)) s04 (λu hu=>by cases hu;exact r3)) (cH (s:=.leaf) (b:=true) (aA (aw (i:=3) rfl) (aO (d:=.none)) rfl)) λH5 s5=>dQ ?_
  exact q .non H5 (s04.trans s5) .non
 case pos=>
  unfold w4 at he;rw [if_pos hin] at he
  cases hst:sts wd (qx wd i j) (λ_=>.none) with
  | none=>rw [hst] at he;cases he
  | some gf=>
  rw [hst] at he;have he:gf (i,j)=dd:=Option.some.inj he
  unfold Bv at rr;rw [if_pos hin] at rr;obtain ⟨hold,X,hlen,pre,r9,hL9,hr9⟩:=uW ok hin;obtain ⟨KI1,_⟩:=AR ok;have ndL:((qx wd i j).map (·.1)).Nodup:=List.Sublist.nodup (List.Sublist.map (λr:Row=>r.1) (filter_sublist (l:=bM wd))) KI1.nd
  have hinL:(i,j)∈(qx wd i j).map (·.1):=by rw [hL9,map_append];exact Nh _ (by rw [<-hr9];simp)
  have hat:=rn hold
  generalize qx wd i j=L at *
  refine uy (iX s03) (EE H3 none s03 (λ_ z=>nomatch z)) (cv (az (aw (i:=0) rfl) (az (aw (i:=1) rfl) (az (aw (i:=2) rfl) aj))) rr rfl rfl) rfl λv3 H4 s4 r3=>?_
  have r3:Rep K (aS H4 O) v3 (.list (L.map cz)):=r3
  have s04:=s03.trans s4
  refine Da (EE H4 (some (v3,.list (L.map cz))) s04 (λu hu=>by cases hu;exact r3)) (cH (s:=.leaf) (b:=false) (aA (aw (i:=3) rfl) (aO (d:=.none)) rfl)) λH5 s5=>dq ?_
  have s05:=s04.trans s5
  have r35:Rep K (aS H5 O) v3 (.list (L.map cz)):=r3.mono (fF s5 λa U=>.inl U)
  intro d I hd hD0;have hdO:d∉O:=λz=>iX s05 d z hd
  have nd2:(d::O).Nodup:=List.nodup_cons.mpr ⟨hdO,nd⟩
  have hd0:H d=none:=s05.free hd
  have mo:∀{F},Same H F->Same (aS H O) (aS F (d::O)):=λs=>fF s λa U=>by
   rcases Nk U with rfl | U
   ·exact .inr hd0
   ·exact .inl U
  have sd:Same H5 (aR H5 d I):=dH hd
  have r36:Rep K (aS (aR H5 d I) (d::O)) v3 (.list (L.map cz)):=r35.mono (fF sd λa U=>by
   rcases Nk U with rfl | U
   ·exact .inr hd
   ·exact .inl U)
  cases r36 with
  | @lst pl ws _ hq hl hr=>
  rw [length_map] at hl;have s06:Same H (aR H5 d I):=s05.trans sd
  have in2:∀{F},Same H F->F d≠none->∀a∈d::O,F a≠none:=λ{F} s hd' a U=>by
   rcases Nk U with rfl | U
   ·exact hd'
   ·exact iX s a U
  have ext:∀{F ps tt},KS P w K F (d::O) d ps tt->F d≠none:=λk=>by
   obtain ⟨f,⟨xs,h,_⟩,_⟩:=k.h;rw [h];exact Option.some_ne_none _
  have k0:KS P w K (aR H5 d I) (d::O) d [] (λ_=>.none):=⟨λ_=>.non,hD0,λp z=>nomatch z⟩
  generalize aR H5 d I=H6 at *
  show bL (eY (cS K (aG 3)) (aP 5) _) _ _ [some v0,some (.int (i:Int)),some (.int (j:Int)),some (.ref pl),some (.ref d),none] H6
  refine ⟨_,rfl,pl,rfl,⟨_,hid_le.seq hq⟩,?_⟩
  refine Iw (xs:=ws) (λk A F=>(∃x5,A=[some v0,some (.int (i:Int)),some (.int (j:Int)),some (.ref pl),some (.ref d),x5])/\Same H F/\(∃g,KS P w K F (d::O) d ((L.take k).map (·.1)) g/\sts wd (L.drop k) g=some gf)/\SqL K (aS F (d::O)) pl ws/\∀(m:Nat) v r,ws[m]?=some v->L[m]?=some r->Rep K (aS F (d::O)) v (cz r)) ⟨⟨_,rfl⟩,s06,⟨_,by simpa using k0,by simpa using hst⟩,hq,λm v r B e2=>hr m v (cz r) B (by rw [getElem?_map,e2];rfl)⟩ (λk A F _ h=>hid_le.seq h.2.2.2.1) (λk v A F e h=>?_) λA F h=>?_
  ·obtain ⟨⟨x5,rfl⟩,s7,⟨g,kv,E⟩,hl7,hr7⟩:=h
   have hk:k<L.length:=by rw [<-hl];exact (Nq e).1
   have er:L[k]?=some L[k]:=Nl hk
   have htk:L.take (k+1)=L.take k++[L[k]]:=by rw [take_succ,er];rfl
   have hdr:L.drop k=L[k]::L.drop (k+1):=drop_eq_getElem_cons hk
   have rv:=hr7 k v _ e er
   have rb:=hat k _ er
   rw [nil_append] at rb;have hnew:L[k].1∉(L.take k).map (·.1):=λz=>by
    have e2:L=L.take k++L[k]::L.drop (k+1):=by rw [<-hdr,take_append_drop]
    rw [e2,map_append,map_cons] at ndL;have:=(Np ndL).2.2 _ (by simpa using z) _ mem_cons_self
    exact this (by simp)
   obtain ⟨l1,l2⟩:=X _ (getElem_mem hk);generalize L[k]=r at *
   rw [hdr] at E;obtain ⟨dk,hdk,hg2⟩:∃dk,Bi wd r g=some dk/\sts wd (L.drop (k+1)) (λp=>if p=r.1 then dk else g p)=some gf:=by
    unfold sts at E
    cases Y:Bi wd r g with
    | none=>rw [Y] at E;cases E
    | some dk=>rw [Y] at E;exact ⟨dk,rfl,E⟩
   have hbl:(eN wd r).length<=1000:=by
    obtain ⟨rq,oF⟩:=r
    cases oF with
    | mk c=>exact Nat.zero_le _
    | st s t=>exact oA ok
   refine ⟨v0,rfl,v,rfl,.ref d,rfl,wd,d::O,v0,v,d,_,r,g,dk,rfl,ok,nd2,in2 s7 (ext kv),r0.mono (mo s7),rv,kv,l1,l2,mQ rb,wW rb,hbl,hdk,λu H8 s8 ru=>?_⟩
   obtain ⟨p,z,rfl,hp,hz⟩:=qC rv;have hp8:SqT K H8 p _:=bB (hid_le.trans s8) hp
   refine ⟨.ref d,rfl,.ref p,rfl,.inr (.inl ⟨p,_,0,_,rfl,rfl,hp8,rfl,.ref p,rfl,.inr (.inl ⟨p,_,1,_,rfl,rfl,hp8,rfl,AU,λb Z=>?_⟩)⟩)⟩
   have M:Same H8 (aR H8 b (.tup [.int (r.1.1:Int),.int (r.1.2:Int)])):=dH Z
   have kv4:=(kv.grow s8).grow M
   have k2:K2 K (aR H8 b (.tup [.int (r.1.1:Int),.int (r.1.2:Int)])) (ky r.1.1 r.1.2) b:=Er
   have sh:=fF (O:=d::O) (O':=d::O) (s8.trans M) λa U=>.inl U
   have ru2:=ru.mono (fF (O:=d::O) (O':=d::O) M λa U=>.inl U)
   have s79:=(s7.trans s8).trans M
   generalize aR H8 b (.tup [.int (r.1.1:Int),.int (r.1.2:Int)])=H9 at *
   obtain ⟨f,hf,hv⟩:=kv4.h;have hlt9:((L.take k).map (·.1)).length<1000:=by
    rw [length_map,length_take];omega
   refine ⟨d,b,[false,false],_,ky r.1.1 r.1.2,rfl,rfl,hf,k2,rfl,by rw [qZ];exact hlt9,Io hnew,λob2 hD2=>?_⟩
   rw [nK hnew] at hD2;have hu2:aS (aR H9 d ob2) (d::O)=aS H9 (d::O):=hid_upd mem_cons_self
   refine ⟨⟨_,rfl⟩,λc o J=>?_,⟨λp'=>if p'=r.1 then dk else g p',⟨λp'=>if p'=r.1 then u else f p',?_,λp' hp'=>?_⟩,hg2⟩,?_,λm v r' R C=>?_⟩
   ·rw [cb (λz=>by subst z;rw [hd0] at J;cases J)]
    exact s79 c o J
   ·rw [htk,map_append]
    exact hD2
   ·rw [hu2]
    rw [htk,map_append] at hp';rcases Nj hp' with z | z
    ·show Rep K _ (if p'=r.1 then u else f p') (if p'=r.1 then dk else g p')
     rw [if_neg (λy=>hnew (by rw [<-y];exact z)),if_neg (λy=>hnew (by rw [<-y];exact z))]
     exact hv p' z
    ·have z:p'=r.1:=by simpa using z
     show Rep K _ (if p'=r.1 then u else f p') (if p'=r.1 then dk else g p')
     rw [if_pos z,if_pos z];exact ru2
   ·rw [hu2]
    exact sh.seq hl7
   ·rw [hu2]
    exact (hr7 m v r' R C).mono sh
  ·obtain ⟨⟨x5,rfl⟩,s7,⟨g,kv,E⟩,_,_⟩:=h
   rw [hl,List.drop_length] at E;rw [hl,take_length] at kv
   cases E;have kv':=kv
   obtain ⟨f,hf,hv⟩:=kv'.h
   refine ⟨.ref d,rfl,_,rfl,_,rfl,AU,λb Z=>?_⟩
   have M:Same F (aR F b (.tup [.int (i:Int),.int (j:Int)])):=dH Z
   refine ⟨d,b,[false,false],_,ky i j,f (i,j),rfl,rfl,DF.grow hf M,Er,rfl,DW hinL,q _ _ (s7.trans M) ?_⟩
   rw [<-he];refine ((hv (i,j) hinL).mono (fF (O':=d::O) M λa U=>.inl U)).mono λa o U=>?_
   exact Im (λc J=>Nn _ J) a o U
end
noncomputable def MP (N:List Nw):Prop:=∃x:Wd×Nat×Nat,N=[x.1.enc,rm x.2.1,rm x.2.2]/\x.1.Ok/\x.1.n<=6/\x.2.1<x.1.n/\x.2.2<x.1.n
open Classical in
noncomputable def cM (N:List Nw):bA:=if h:MP N then (match w4 h.choose.1 h.choose.2.1 h.choose.2.2 with | some d=>.ok ⟨.leaf,d⟩ | none=>.no) else .no
theorem Dq {w:Wd} {i j:Nat} {d:D} (ok:w.Ok) (I:w.n<=6) (l:i<w.n) (A:j<w.n) (h:w4 w i j=some d):cM [w.enc,rm i,rm j]=.ok ⟨.leaf,d⟩:=by
 have H:MP [w.enc,rm i,rm j]:=⟨(w,i,j),rfl,ok,I,l,A⟩
 unfold cM;rw [dif_pos H];obtain ⟨e,k,_⟩:=H.choose_spec;injection e with e1 e
 injection e with e2 e
 injection e with e3 _
 rw [<-Hf ok k e1,<-Int.ofNat_inj.mp (PyData.int.inj e2),<-Int.ofNat_inj.mp (PyData.int.inj e3),h]
theorem yI {N:List Nw} {p:PV} (h:cM N=.ok p):∃w i j d,N=[w.enc,rm i,rm j]/\w.Ok/\w.n<=6/\i<w.n/\j<w.n/\w4 w i j=some d/\p=⟨.leaf,d⟩:=by
 unfold cM at h;split at h
 ·rename_i H
  obtain ⟨e,k,a,Z,L⟩:=H.choose_spec
  cases U:w4 H.choose.1 H.choose.2.1 H.choose.2.2 with
  | none=>rw [U] at h;cases h
  | some d=>
   rw [U] at h
   cases h;exact ⟨_,_,_,d,e,k,a,Z,L,U,rfl⟩
 ·cases h
end KC.Ap
namespace KC.Ap
open PySem PySem.Spec L2 T
open PyProof.Rows hiding St
open KC
theorem bW {X:Cx} {N gl:List Str} {L u Z r t:List Nat} (S:Cp X N gl L u Z r t) (i:Nat) (x:Str) (K:Pos) (e:N[i]?=some x) (l:L.contains i=true):PE X (.Name x K) (aG i):=by
 have m:=S.nm x (mem_of_getElem? e)
 exact Ew (by rw [S.hN];exact e) (S.vis i x e l) m.1 m.2
theorem uw {X:Cx} {N gl:List Str} {L u Z r t:List Nat} (S:Cp X N gl L u Z r t) (i:Nat) (x:Str) (K:Pos) (e:N[i]?=some x) (l:Z.contains i=true):PG X (.Name x K) (aP i):=by
 have O:X.N.Nodup:=by rw [S.hN];exact S.nd
 exact Ip O (by rw [S.hN];exact e) (S.loc i x e l).1 (S.loc i x e l).2
theorem sC {X:Cx} {N gl:List Str} {L u Z r t:List Nat} (S:Cp X N gl L u Z r t) (i:Nat) {x:Str} {p f:Pos} {e:Expr} {z:TE} (G:N[i]?=some x) (l:Z.contains i=true) (h:PE X e z) (Y:swapsWith e (some (.Name x p)) f.line X.env=pure false):PS X (.Assign [.Name x p] e f) (dm z (aP i)):=by
 have O:X.N.Nodup:=by rw [S.hN];exact S.nd
 exact vo O (by rw [S.hN];exact G) (S.loc i x G l).1 h Y (S.loc i x G l).2
theorem El {X:Cx} {N gl:List Str} {L u Z r d:List Nat} {l:Sp} {x:Str} {e:Expr} {b:List Expr} {t:TA} {p K:Pos} (S:Cp X N gl L u Z r d) (j:Nat) (A:gl[j]?=some x) (E:d.contains j=true) (c:∃(k:Nat) (f:Addr) (o:FuncData) (J:List Str),cC X.prog X.w X.K X.mg X.base g5 k f o J l/\Room k X.A/\X.mg x=some (.ref f)/\PySem.W.keepIn X.K (.ref f)=true/\Binds X.K o J [])
  (U:PA X (e::b) t) (R:starEach (e::b) X.env=(false,eval e X.env)::starEach b X.env) (Y:(backTo K (starEach b X.env)).any (·.1)=false) (h:(x==("__debug__":Str))=false):PE X (.Call (.Name x p) (e::b) [] K) (ff l [] L2.E0 t):=by
 obtain ⟨k,f,o,J,F,M,i,g,a⟩:=c;exact qJ F M (S.g (j:=j) A E).1 i g a .nil Aj U h R Y
theorem Jg {X:Cx} {N gl:List Str} {L u Z r t:List Nat} (S:Cp X N gl L u Z r t) (i:Nat) {x:Str} {g f h:Pos} {k:Nat} {c:Int} (e:N[i]?=some x) (l:L.contains i=true):PE X (.Subscript (.Name x g) (.Constant (.int c) k f) h) (tIt X.K i c):=vA JG (bW S i _ _ e l) JK (λ_ _=>rfl)
noncomputable def cf:Stmt:=Bs 22
theorem FE:bZ oC ["world", "one", "other", "side", "there", "known"] (aD cf):=⟨rfl,rfl,rfl,by decide +kernel,rfl,by decide +kernel,by decide +kernel⟩
theorem Hr:kF oC xg [0,1,2,3,4,5] [5] [0,1,2,3,4,5] [0,1,2,3,4] [0,1] (aD cf)=true:=by kernel_rfl
theorem GE:ux oC xg=true:=by kernel_rfl
theorem bs_all {X:Cx} (S:Cp X oC xg [0,1,2,3,4,5] [5] [0,1,2,3,4,5] [0,1,2,3,4] [0,1]) (J:X.A.units+2<cLine) (e:X.mg "all"=none) {d:Scope} {L:Expr} {y g a h b K l:Pos} (r:PE X L (tE X.K W0 Jj))
  (R:ja oC [6] [5] d=true) (c:kF oC xg [5,6] [5] [6] [] [] d=true) (Y:∀z,foldedSetIterable L X.env z=pure z) :
  PE X (.Call (.Name "all" y) [.ListComp (.Compare (.Name "pair" g) [.In] [.Name "known" a] h) [⟨.Name "pair" b,L,[],0⟩] d K] [] l) (xM (vj X.K false) (aL (eo [6] (cS X.K (tE X.K W0 Jj)) (aP 6) gO (j0 X.prog X.w X.K (aG 6) (aG 5))) b5)):=by
 have B:=λf C t w P=>S.blk c f C t w P
 exact EK (kI S.calm) (S.g (j:=0) rfl rfl).1 e AI (cI (J0 (Ka S R) S.calm (AW r)
  (λf C t w P=>uw (B f C t w P) 6 _ _ rfl rfl)
  (λf C t w P=>JM)
  (λf C t w P=>B8 (JC (X:=L2.blk X d f C t w P) J (bW (B f C t w P) 6 _ _ rfl rfl) (bW (B f C t w P) 5 _ _ rfl rfl)) (by with_unfolding_all rfl)) Y) gz (aZ rfl)) (S.g (j:=0) rfl rfl).2.2 (S.g (j:=0) rfl rfl).2.1 (aZ rfl) rfl
theorem HB {X:Cx} (S:Cp X oC xg [0,1,2,3,4,5] [5] [0,1,2,3,4,5] [0,1,2,3,4] [0,1]) (R:Rm X) (e:X.mg "all"=none) (c:oE X "pairs_asked" 5 bF):PSs X (bC cf) (KH X.prog X.w X.K):=by
 have J:X.A.units+2<cLine:=Nat.lt_of_le_of_lt (by omega) R
 exact gK (pX (bs_all S J e (TQ.Q.p (TQ.w_cc S 1 rfl rfl c (TQ.w_da_cons (TQ.w_cv S 0 rfl rfl) (TQ.w_da_cons (TQ.w_cv S 1 rfl rfl) (TQ.w_da_cons (TQ.w_cv S 2 rfl rfl) (TQ.w_da_cons (TQ.w_cv S 3 rfl rfl) (TQ.w_da_cons (TQ.w_cv S 4 rfl rfl) TQ.w_da_nil (aZ rfl)) (aZ rfl)) (aZ rfl)) (aZ rfl)) (aZ rfl)) (aZ rfl) rfl)) (by kernel_rfl) (by kernel_rfl) (λ_=>rfl)))
theorem jw {P:Program} {w:World} {K:Fg} {I:Str->Option Value} {m:Heap} {f:Addr} {o:FuncData} {j k:Nat} (F:Fun K "is_by_step" "is_by_step" cf f o) (G:I "is_by_step"=some (.ref f)) (b:Binds K o ["world", "one", "other", "side", "there", "known"] []) (e:I "all"=none)
  (c:DefOk P w K I m j "pairs_asked" 5 bF) (d:decide (j<=k)=true):DQ P w K I m (k+1):=by
 refine ⟨f,o,_,F.ok FE (λL H Q E h=>?_) (λa A B s H L Q E M h=>?_),G,F.kp,b⟩
 ·obtain ⟨_,_,_,_,_,_,_,_,_,rfl,_⟩:=h
  rfl
 ·exact ⟨_,HB (Cp.fn Hr GE) M.units e (c.cal M d),FX h⟩
noncomputable def cc:Stmt:=Bs 23
theorem FD:bZ xb ["world", "one", "other", "known"] (aD cc):=⟨rfl,rfl,rfl,by decide +kernel,rfl,by decide +kernel,by decide +kernel⟩
noncomputable abbrev Nf (X:Cx):Prop:=Cp X xb DN [0,1,2,3,4,5,6,7] [] [0,1,2,3,4,5,6,7] [0,1,2,3,4,5,6,7] [0,1,2,3]
theorem Hq:kF xb DN [0,1,2,3,4,5,6,7] [] [0,1,2,3,4,5,6,7] [0,1,2,3,4,5,6,7] [0,1,2,3] (aD cc)=true:=by kernel_rfl
theorem GD:ux xb DN=true:=by kernel_rfl
theorem HA {X:Cx} (S:Nf X) (R:Rm X) (g:PassesOwn (model X.prog X.w) X.A X.env X.xe) (d:X.mg "enumerate"=none) (z:oE X "is_by_mark" 4 ck) (c:L6 X) (P:Con X "LETTERS" rg):PSs X (bC cc) (KF X.prog X.w X.K):=by
 refine fH (xv g S.calm (vx (TQ.Q.p (TQ.w_ck S 0 rfl rfl P))) (uw S 4 _ _ rfl rfl) ?_ (λ_=>rfl)) ?_
 ·exact gK (fj (TQ.Q.p (TQ.w_dt_tru (TQ.w_cc S 1 rfl rfl z (TQ.w_da_cons (TQ.w_cv S 0 rfl rfl) (TQ.w_da_cons (TQ.w_cv S 1 rfl rfl) (TQ.w_da_cons (TQ.w_cv S 2 rfl rfl) (TQ.w_da_cons (TQ.w_cv S 4 rfl rfl) TQ.w_da_nil (aZ rfl)) (aZ rfl)) (aZ rfl)) (aZ rfl)) (aZ rfl) rfl) (λ_=>rfl))) (gK (pX (xu (cI JL (cI (bW S 4 _ _ rfl rfl) gz (aZ rfl)) (aZ rfl))))) xh)
 refine fH (xv g S.calm (yt (S.g (j:=2) rfl rfl).1 d (cI (Ic (cI (bW S 1 _ _ rfl rfl) (cI (bW S 2 _ _ rfl rfl) gz (aZ rfl)) (aZ rfl))) gz (aZ rfl)) (fI rfl)) (B7 S.calm (m5 (uw S 5 _ _ rfl rfl) (m5 (uw S 6 _ _ rfl rfl) yu))) ?_ (λ_=>rfl)) (gK (pX DY))
 refine gK (xv g S.calm (AW (TQ.Q.p (TQ.w_de_idx (TQ.w_de_idx (TQ.w_cv S 0 rfl rfl) TQ.w_de_int (λ_ _=>rfl)) (TQ.w_cv S 6 rfl rfl) (λ_ _=>rfl)))) (uw S 7 _ _ rfl rfl) ?_ (λ_=>rfl))
 exact gK (fj (B3 (El S 3 rfl rfl c (cI (bW S 0 _ _ rfl rfl) (cI (bW S 1 _ _ rfl rfl) (cI (bW S 2 _ _ rfl rfl) (cI (bW S 5 _ _ rfl rfl) (cI (bW S 7 _ _ rfl rfl) (cI (bW S 3 _ _ rfl rfl) gz (aZ rfl)) (aZ rfl)) (aZ rfl)) (aZ rfl)) (aZ rfl)) (aZ rfl)) (aZ rfl) rfl (by decide)) (λ_=>rfl)) (gK (pX (xu (cI JL (cI (bW S 5 _ _ rfl rfl) (cI (bW S 7 _ _ rfl rfl) gz (aZ rfl)) (aZ rfl)) (aZ rfl))))) xh)
theorem jv {P:Program} {w:World} {K:Fg} {I:Str->Option Value} {m:Heap} {f:Addr} {o:FuncData} {U q k:Nat} (F:Fun K "reason_for" "reason_for" cc f o) (G:I "reason_for"=some (.ref f)) (b:Binds K o ["world", "one", "other", "known"] []) (d:I "enumerate"=none)
  (z:DefOk P w K I m U "is_by_mark" 4 ck) (c:DQ P w K I m q) (e:jT K I "LETTERS" rg) (R:decide (U<=k)=true) (C:decide (q<=k)=true):DG P w K I m (k+1):=by
 refine ⟨f,o,_,F.ok FD (λL H Q E h=>?_) (λa A B s H L Q E M h=>?_),G,F.kp,b⟩
 ·obtain ⟨_,_,_,_,_,_,_,rfl,_⟩:=h
  rfl
 ·obtain ⟨n,Y,u,x,Z,r,v⟩:=c
  exact ⟨_,HA (Cp.fn Hq GD) M.units PassesOwn.never d (z.cal M R) ⟨q,n,Y,u,x,M.mono (of_decide_eq_true C),Z,r,v⟩ e,FU h⟩
noncomputable def cy:Stmt:=Bs 24
theorem FC:bZ xa ["world", "known"] (aD cy):=⟨rfl,rfl,rfl,by decide +kernel,rfl,by decide +kernel,by decide +kernel⟩
noncomputable abbrev MO (X:Cx):Prop:=Cp X xa DM [0,1,2,3,4,5] [] [0,1,2,3,4,5] [0,1,2,3,4,5] [0,1,2]
theorem Ho:kF xa DM [0,1,2,3,4,5] [] [0,1,2,3,4,5] [0,1,2,3,4,5] [0,1,2] (aD cy)=true:=by kernel_rfl
theorem GC:ux xa DM=true:=by kernel_rfl
theorem u4 {X:Cx} (S:MO X) (q:X.mg "len"=none) {g f h N a:Pos} {Z:Nat}:PE X (.Call (.Name "len" g) [.Subscript (.Name "world" f) (.Constant (.int 0) Z h) N] [] a) (Bc X.K):=
 EK call_len_seq (S.g (j:=1) rfl rfl).1 q AG (cI (vA JG (bW S 0 _ _ rfl rfl) JK (λ_ _=>rfl)) gz (aZ rfl)) (S.g (j:=1) rfl rfl).2.2 (S.g (j:=1) rfl rfl).2.1 (aZ rfl) rfl
theorem Hz {X:Cx} (S:MO X) (R:Rm X) (g:PassesOwn (model X.prog X.w) X.A X.env X.xe) (d:X.mg "range"=none) (q:X.mg "len"=none) (c:L5 X):PSs X (bC cy) (KD X.prog X.w X.K):=by
 have J:X.A.units+2<cLine:=Nat.lt_of_le_of_lt (by omega) R
 refine fH (sC S 2 rfl rfl (Ic gz) rfl) ?_
 refine fH (xv g S.calm (Kf (S.g (j:=0) rfl rfl).1 d (cI (u4 S q) gz (aZ rfl)) (fI rfl)) (uw S 3 _ _ rfl rfl) (gK (xv g S.calm (Kf (S.g (j:=0) rfl rfl).1 d (cI (u4 S q) gz (aZ rfl)) (fI rfl)) (uw S 4 _ _ rfl rfl) ?_ (λ_=>rfl))) (λ_=>rfl)) (gK (pX (bW S 2 _ _ rfl rfl)))
 refine fH (sC S 5 rfl rfl (m6 (Ie (JC J (xu (cI (bW S 3 _ _ rfl rfl) (cI (bW S 4 _ _ rfl rfl) gz (aZ rfl)) (aZ rfl))) (bW S 1 _ _ rfl rfl)) (by with_unfolding_all rfl)) DY (El S 2 rfl rfl c (cI (bW S 0 _ _ rfl rfl) (cI (bW S 3 _ _ rfl rfl) (cI (bW S 4 _ _ rfl rfl) (cI (bW S 1 _ _ rfl rfl) gz (aZ rfl)) (aZ rfl)) (aZ rfl)) (aZ rfl)) (aZ rfl) rfl (by decide))) rfl) ?_
 exact gK (fj (qG yy (bW S 5 _ _ rfl rfl) DY (by with_unfolding_all rfl)) (gK (D7 (qK PySem.F.plainAttrs_list PySem.F.slot_list_append PySem.F.type_list_append IE (bW S 2 _ _ rfl rfl) (cI (xu (cI (bW S 3 _ _ rfl rfl) (cI (bW S 4 _ _ rfl rfl) (cI (bW S 5 _ _ rfl rfl) gz (aZ rfl)) (aZ rfl)) (aZ rfl))) gz (aZ rfl)) rfl rfl rfl (aZ rfl) rfl) rfl)) xh)
theorem lh {P:Program} {w:World} {K:Fg} {I:Str->Option Value} {m:Heap} {f:Addr} {o:FuncData} {j k:Nat} (F:Fun K "rows_next" "rows_next" cy f o) (G:I "rows_next"=some (.ref f)) (b:Binds K o ["world", "known"] []) (d:I "range"=none) (q:I "len"=none)
  (c:DG P w K I m j) (e:decide (j<=k)=true):DD P w K I m (k+1):=by
 refine ⟨f,o,_,F.ok FC (λL H Q E h=>?_) (λa A B s H L Q E M h=>?_),G,F.kp,b⟩
 ·obtain ⟨_,_,_,_,_,rfl,_⟩:=h
  rfl
 ·obtain ⟨n,Y,u,x,Z,r,v⟩:=c
  exact ⟨_,Hz (Cp.fn Ho GC) M.units PassesOwn.never d q ⟨j,n,Y,u,x,M.mono (of_decide_eq_true e),Z,r,v⟩,FT h⟩
noncomputable def cR:Stmt:=Bs 25
theorem FF:bZ xc ["world"] (aD cR):=⟨rfl,rfl,rfl,by decide +kernel,rfl,by decide +kernel,by decide +kernel⟩
noncomputable abbrev MN (X:Cx):Prop:=Cp X xc DO [0,1,2,3] [] [0,1,2,3] [0,1,2,3] [0]
theorem Hs:kF xc DO [0,1,2,3] [] [0,1,2,3] [0,1,2,3] [0] (aD cR)=true:=by kernel_rfl
theorem GF:ux xc DO=true:=by kernel_rfl
theorem AJ {X:Cx} (S:MN X) (c:HU X) {g f h N:Pos}:PE X (.Call (.Name "rows_next" g) [.Name "world" f,.Name "known" h] [] N) (uO X.prog X.w X.K):=El S 0 rfl rfl c (cI (bW S 0 _ _ rfl rfl) (cI (bW S 1 _ _ rfl rfl) gz (aZ rfl)) (aZ rfl)) (aZ rfl) rfl (by decide)
theorem HC {X:Cx} (S:MN X) (R:Rm X) (g:PassesOwn (model X.prog X.w) X.A X.env X.xe) (c:HU X):PSs X (bC cR) (KJ X.prog X.w X.K):=by
 have J:X.A.units+2<cLine:=Nat.lt_of_le_of_lt (by omega) R
 refine fH (sC S 1 rfl rfl (m7 [false,false]) rfl) ?_
 refine fH (sC S 2 rfl rfl (AJ S c) rfl) ?_
 refine fH (mW g (JV (bW S 2 _ _ rfl rfl) (λ_=>rfl)) ?_) (gK (pX (bW S 1 _ _ rfl rfl)))
 refine fH (xv g S.calm (AW (bW S 2 _ _ rfl rfl)) (uw S 3 _ _ rfl rfl) ?_ (λ_=>rfl)) (gK (sC S 2 rfl rfl (AJ S c) rfl))
 exact gK (mX J (bW S 1 _ _ rfl rfl) (xu (cI (Jg S 3 rfl rfl) (cI (Jg S 3 rfl rfl) gz (aZ rfl)) (aZ rfl))) (bW S 3 _ _ rfl rfl) rfl)
theorem m9 {P:Program} {w:World} {K:Fg} {I:Str->Option Value} {m:Heap} {f:Addr} {o:FuncData} {j k:Nat} (F:Fun K "all_rows" "all_rows" cR f o) (G:I "all_rows"=some (.ref f)) (b:Binds K o ["world"] [])
  (c:DD P w K I m j) (d:decide (j<=k)=true):DR P w K I m (k+1):=by
 refine ⟨f,o,_,F.ok FF (λL H Q E h=>?_) (λa A B s H L Q E M h=>?_),G,F.kp,b⟩
 ·obtain ⟨_,_,_,rfl,_⟩:=h
  rfl
 ·obtain ⟨n,Y,u,x,Z,r,v⟩:=c
  exact ⟨_,HC (Cp.fn Hs GF) M.units PassesOwn.never ⟨j,n,Y,u,x,M.mono (of_decide_eq_true d),Z,r,v⟩,FZ h⟩
noncomputable def cQ:Stmt:=Bs 27
theorem FA:bZ pW ["world", "one", "other"] (aD cQ):=⟨rfl,rfl,rfl,by decide +kernel,rfl,by decide +kernel,by decide +kernel⟩
noncomputable abbrev L3 (X:Cx):Prop:=Cp X pW zN [0,1,2,3,5,6,7,8] [3,5] [0,1,2,3,5,6,7,8] [0,1,2,6,7,8] [0,1]
theorem Hn:kF pW zN [0,1,2,3,5,6,7,8] [3,5] [0,1,2,3,5,6,7,8] [0,1,2,6,7,8] [0,1] (aD cQ)=true:=by kernel_rfl
theorem GB:ux pW zN=true:=by kernel_rfl
theorem uX {X:Cx} (S:L3 X) {g f h:Pos} {Z:Nat}:PE X (.Tuple [.Name "one" g,.Name "other" f] Z h) (Ei 1 2):=xu (cI (bW S 1 _ _ rfl rfl) (cI (bW S 2 _ _ rfl rfl) gz (aZ rfl)) (aZ rfl))
theorem FO {X:Cx} (S:L3 X) (J:X.A.units+2<cLine) {d:Scope} {g i h N a b e c K:Pos}
  (R:ja pW [7] [3,5] d=true) (j:kF pW zN [3,5,7] [3,5] [7] [] [] d=true) (Y:∀z,foldedSetIterable (.Name "rows" a) X.env z=pure z) :
  PE X (.ListComp (.Subscript (.Name "rows" g) (.Name "pair" i) h) [⟨.Name "pair" N,.Name "rows" a,[.Compare (.Name "pair" b) [.In] [.Name "needed" e] c],0⟩] d K) (Fi X.prog X.w X.K):=by
 have B:=λf C t w P=>S.blk j f C t w P
 exact J0 (Ka S R) S.calm (Gp (bW S 3 _ _ rfl rfl))
  (λf C t w P=>uw (B f C t w P) 7 _ _ rfl rfl)
  (λf C t w P=>vy (Ie (JC (X:=L2.blk X d f C t w P) J (bW (B f C t w P) 7 _ _ rfl rfl) (bW (B f C t w P) 5 _ _ rfl rfl)) (by with_unfolding_all rfl)))
  (λf C t w P=>sZ (X:=L2.blk X d f C t w P) J (bW (B f C t w P) 3 _ _ rfl rfl) (bW (B f C t w P) 7 _ _ rfl rfl) (λ_ _=>rfl)) Y
theorem Hy {X:Cx} (S:L3 X) (R:Rm X) (g:PassesOwn (model X.prog X.w) X.A X.env X.xe) (z:L7 X) (c:oE X "pairs_behind" 2 m_pairs_behind):PSs X (bC cQ) (KB X.prog X.w X.K):=by
 have J:X.A.units+2<cLine:=Nat.lt_of_le_of_lt (by omega) R
 refine fH (sC S 3 rfl rfl (El S 0 rfl rfl z (cI (bW S 0 _ _ rfl rfl) gz (aZ rfl)) (aZ rfl) rfl (by decide)) rfl) ?_
 refine fH (fj (Ie (iK J (uX S) (bW S 3 _ _ rfl rfl)) (by with_unfolding_all rfl)) (gK (pX DY)) xh) ?_
 refine fH (sC S 5 rfl rfl (sY [false,false] J (uX S) vC) rfl) ?_
 refine fH (sC S 6 rfl rfl (Ic (cI (uX S) gz (aZ rfl))) rfl) ?_
 refine fH (mW g (JV (bW S 6 _ _ rfl rfl) (λ_=>rfl)) ?_) (gK (pX (FO S J (by kernel_rfl) (by kernel_rfl) (λ_=>rfl))))
 refine fH (sC S 7 rfl rfl (B9 PySem.F.plainAttrs_list PySem.F.slot_list_pop PySem.F.type_list_pop Cu (bW S 6 _ _ rfl rfl) rfl rfl) rfl) ?_
 refine gK (xv g S.calm (AW (El S 1 rfl rfl c (cI (bW S 0 _ _ rfl rfl) (cI (JT J (bW S 3 _ _ rfl rfl) (bW S 7 _ _ rfl rfl) (λ_ _=>rfl)) gz (aZ rfl)) (aZ rfl)) (aZ rfl) rfl (by decide))) (uw S 8 _ _ rfl rfl) ?_ (λ_=>rfl))
 refine gK (fj (Ie (iK J (bW S 8 _ _ rfl rfl) (bW S 5 _ _ rfl rfl)) (by with_unfolding_all rfl)) ?_ xh)
 refine fH (sV J (bW S 5 _ _ rfl rfl) (bW S 8 _ _ rfl rfl) vC rfl) ?_
 exact gK (D7 (qK PySem.F.plainAttrs_list PySem.F.slot_list_append PySem.F.type_list_append IE (bW S 6 _ _ rfl rfl) (cI (bW S 8 _ _ rfl rfl) gz (aZ rfl)) rfl rfl rfl (aZ rfl) rfl) rfl)
theorem m8 {P:Program} {w:World} {K:Fg} {I:Str->Option Value} {m:Heap} {f:Addr} {o:FuncData} {U q k:Nat} (F:Fun K "rows_for" "rows_for" cQ f o) (G:I "rows_for"=some (.ref f)) (b:Binds K o ["world", "one", "other"] [])
  (z:DR P w K I m U) (d:DefOk P w K I m q "pairs_behind" 2 m_pairs_behind) (R:decide (U<=k)=true) (C:decide (q<=k)=true):DefOk P w K I m (k+1) "rows_for" 3 bu:=by
 refine ⟨f,o,_,F.ok FA (λL H Q E h=>h.1) (λa A B s H L Q E M h=>?_),G,F.kp,b⟩
 obtain ⟨hl,O,N,J,g,y,t⟩:=h
 cases e:bu N with
 | er c=>rw [e] at t;exact t.elim
 | no=>rw [e] at t;exact t.elim
 | ok p=>
  rw [e] at t;obtain ⟨X,i,j,rfl,ok,l,hj,rfl⟩:=yH e;obtain ⟨n,Y,u,x,Z,r,v⟩:=z;exact ⟨_,Hy (Cp.fn Hn GB) M.units PassesOwn.never ⟨U,n,Y,u,x,M.mono (of_decide_eq_true R),Z,r,v⟩ (d.cal M C),FR ok l hj J g y t⟩
noncomputable def bV:Stmt:=Bs 31
theorem Fz:bZ pV ["world", "row", "told"] (aD bV):=⟨rfl,rfl,rfl,by decide +kernel,rfl,by decide +kernel,by decide +kernel⟩
noncomputable abbrev MM (X:Cx):Prop:=Cp X pV zM [0,1,2,3,4,5] [2] [0,1,2,3,4,5] [0,1,3,4,5] [0,1,2]
theorem Hm:kF pV zM [0,1,2,3,4,5] [2] [0,1,2,3,4,5] [0,1,3,4,5] [0,1,2] (aD bV)=true:=by kernel_rfl
theorem GA:ux pV zM=true:=by kernel_rfl
theorem Fv {X:Cx} (S:MM X) (J:X.A.units+2<cLine) {d:Scope} {L:Expr} {g b h N K r p:Pos} (a:PE X L (tE X.K W0 fPB)) (m:(r.line==K.line)=true) (H:(d.names.any λ(n,k)=>n==("behind":Str)&&(k==NameKind.local||k==NameKind.cell))=false)
  (R:ja pV [6] [2] d=true) (c:kF pV zM [2,6] [2] [6] [] [] d=true) (Y:∀z,foldedSetIterable L X.env z=pure z) :
  PS X (.Assign [.Name "behind" r] (.ListComp (.Subscript (.Name "told" g) (.Name "pair" b) h) [⟨.Name "pair" N,L,[],0⟩] d K) p) (dm (eo [6] (cS X.K (tE X.K W0 fPB)) (aP 6) gO (fw X.prog X.w X.K (aG 2) (aG 6))) (aP 5)):=by
 have B:=λf C t w P=>S.blk c f C t w P
 have O:X.N.Nodup:=by rw [S.hN];exact S.nd
 exact iG O (by rw [S.hN];rfl) (S.loo 5 "behind" rfl rfl) (Ka S R) S.calm (AW a)
  (λf C t w P=>uw (B f C t w P) 6 _ _ rfl rfl)
  (λf C t w P=>JM)
  (λf C t w P=>JT (X:=L2.blk X d f C t w P) J (bW (B f C t w P) 2 _ _ rfl rfl) (bW (B f C t w P) 6 _ _ rfl rfl) (λ_ _=>rfl)) (iB S.kind (S.loo 5 "behind" rfl rfl) m H) Y
theorem Hw {X:Cx} (S:MM X) (R:Rm X) (z:oE X "pairs_behind" 2 m_pairs_behind) (c:oE X "all_of" 1 eC) (j:oE X "each_once" 1 b6) (l:oE X "opposite_of" 1 bw):PSs X (bC bV) (Kz X.prog X.w X.K):=by
 have J:X.A.units+2<cLine:=Nat.lt_of_le_of_lt (by omega) R
 refine fH (sC S 3 rfl rfl (TQ.Q.p (TQ.w_de_idx (TQ.w_cv S 1 rfl rfl) TQ.w_de_int (λ_ _=>rfl))) rfl) ?_
 refine fH (fj (TQ.Q.p (TQ.w_ct (b9 R) (TQ.w_de_idx (TQ.w_cv S 3 rfl rfl) TQ.w_de_int (λ_ _=>rfl)) TQ.w_de_str (by with_unfolding_all rfl))) ?_ xh) ?_
 ·refine fH (sC S 4 rfl rfl (TQ.Q.p (TQ.w_de_tup (TQ.w_da_cons TQ.w_de_str (TQ.w_da_cons (TQ.w_de_idx (TQ.w_cv S 3 rfl rfl) TQ.w_de_int (λ_ _=>rfl)) TQ.w_da_nil (aZ rfl)) (aZ rfl)))) rfl) ?_
  exact gK (pX (TQ.Q.p (TQ.w_de_if (TQ.w_ct (fR R) (TQ.w_de_idx (TQ.w_cv S 3 rfl rfl) TQ.w_de_int (λ_ _=>rfl)) (TQ.w_de_idx (TQ.w_de_idx (TQ.w_cv S 0 rfl rfl) TQ.w_de_int (λ_ _=>rfl)) (TQ.w_de_idx (TQ.w_cv S 1 rfl rfl) TQ.w_de_int (λ_ _=>rfl)) (λ_ _=>rfl)) (by with_unfolding_all rfl)) (TQ.w_cv S 4 rfl rfl) (TQ.w_de_tup (TQ.w_da_cons TQ.w_de_str (TQ.w_da_cons (TQ.w_cv S 4 rfl rfl) TQ.w_da_nil (aZ rfl)) (aZ rfl))))))
 refine fH (Fv S J (TQ.Q.p (TQ.w_cc S 0 rfl rfl z (TQ.w_da_cons (TQ.w_cv S 0 rfl rfl) (TQ.w_da_cons (TQ.w_cv S 1 rfl rfl) TQ.w_da_nil (aZ rfl)) (aZ rfl)) (aZ rfl) rfl)) rfl rfl (by kernel_rfl) (by kernel_rfl) (λ_=>rfl)) ?_
 refine fH (fj (TQ.Q.p (TQ.w_ct (b9 R) (TQ.w_de_idx (TQ.w_cv S 3 rfl rfl) TQ.w_de_int (λ_ _=>rfl)) TQ.w_de_int (by with_unfolding_all rfl))) (gK (pX (TQ.Q.p (TQ.w_de_tup (TQ.w_da_cons TQ.w_de_str (TQ.w_da_cons (TQ.w_cc S 1 rfl rfl c (TQ.w_da_cons (TQ.w_cc S 2 rfl rfl j (TQ.w_da_cons (TQ.w_cv S 5 rfl rfl) TQ.w_da_nil (aZ rfl)) (aZ rfl) rfl) TQ.w_da_nil (aZ rfl)) (aZ rfl) rfl) TQ.w_da_nil (aZ rfl)) (aZ rfl)))))) xh) ?_
 exact gK (pX (TQ.Q.p (TQ.w_de_tup (TQ.w_da_cons TQ.w_de_str (TQ.w_da_cons (TQ.w_de_tup (TQ.w_da_cons TQ.w_de_str (TQ.w_da_cons (TQ.w_cc S 1 rfl rfl c (TQ.w_da_cons (TQ.w_cc S 2 rfl rfl j (TQ.w_da_cons (TQ.w_co (vs':=[7]) (cs':=[]) (lo':=[]) (gs':=[3]) S .leaf 7 rfl (by kernel_rfl) (by kernel_rfl) (TQ.w_di_seq (TQ.w_cv S 5 rfl rfl)) (λ_ _ _=>TQ.w_df_nil) (λY b F=>TQ.w_cc b 3 rfl rfl (F.c l) (TQ.w_da_cons (TQ.w_cv b 7 rfl rfl) TQ.w_da_nil (aZ rfl)) (aZ rfl) rfl) (λ_=>rfl)) TQ.w_da_nil (aZ rfl)) (aZ rfl) rfl) TQ.w_da_nil (aZ rfl)) (aZ rfl) rfl) TQ.w_da_nil (aZ rfl)) (aZ rfl))) TQ.w_da_nil (aZ rfl)) (aZ rfl)))))
theorem iM {P:Program} {w:World} {K:Fg} {I:Str->Option Value} {m:Heap} {f:Addr} {o:FuncData} {U q e d k:Nat} (F:Fun K "sentence_of" "sentence_of" bV f o) (G:I "sentence_of"=some (.ref f)) (b:Binds K o ["world", "row", "told"] [])
  (z:DefOk P w K I m U "pairs_behind" 2 m_pairs_behind) (c:DefOk P w K I m q "all_of" 1 eC) (j:DefOk P w K I m e "each_once" 1 b6) (l:DefOk P w K I m d "opposite_of" 1 bw) (R:decide (U<=k)=true) (C:decide (q<=k)=true) (n:decide (e<=k)=true) (g:decide (d<=k)=true):DC P w K I m (k+1):=by
 refine ⟨f,o,_,F.ok Fz (λL H Q E h=>?_) (λa A B s H L Q E M h=>?_),G,F.kp,b⟩
 ·obtain ⟨_,_,_,_,_,_,_,_,_,rfl,_⟩:=h
  rfl
 ·exact ⟨_,Hw (Cp.fn Hm GA) M.units (z.cal M R) (c.cal M C) (j.cal M n) (l.cal M g),FQ h⟩
noncomputable def fz:D:=.int 6
noncomputable def fO:Stmt:=Bs 32
theorem FG:bZ xf ["world", "one", "other"] (aD fO):=⟨rfl,rfl,rfl,by decide +kernel,rfl,by decide +kernel,by decide +kernel⟩
noncomputable abbrev Nd (X:Cx):Prop:=Cp X xf DP [0,1,2,3,4,5] [] [0,1,2,3,4,5] [0,1,2,3,4,5] [0,1,2,3,4,5]
theorem Ht:kF xf DP [0,1,2,3,4,5] [] [0,1,2,3,4,5] [0,1,2,3,4,5] [0,1,2,3,4,5] (aD fO)=true:=by kernel_rfl
theorem GG:ux xf DP=true:=by kernel_rfl
theorem HD {X:Cx} (S:Nd X) (R:Rm X) (g:PassesOwn (model X.prog X.w) X.A X.env X.xe) (q:X.mg "len"=none) (z:oE X "check_world" 1 bf) (c:oE X "check_pair" 3 cn) (j:oE X "rows_for" 3 bu) (l:L4 X) (O:Con X "MOST_ROOMS_APART" v7):PSs X (bC fO) (KL X.prog X.w X.K):=by
 have J:X.A.units+2<cLine:=Nat.lt_of_le_of_lt (by omega) R
 refine fH (D7 (TQ.Q.p (TQ.w_cc S 0 rfl rfl z (TQ.w_da_cons (TQ.w_cv S 0 rfl rfl) TQ.w_da_nil (aZ rfl)) (aZ rfl) rfl)) rfl) ?_
 refine fH (D7 (TQ.Q.p (TQ.w_cc S 1 rfl rfl c (TQ.w_da_cons (TQ.w_cv S 0 rfl rfl) (TQ.w_da_cons (TQ.w_cv S 1 rfl rfl) (TQ.w_da_cons (TQ.w_cv S 2 rfl rfl) TQ.w_da_nil (aZ rfl)) (aZ rfl)) (aZ rfl)) (aZ rfl) rfl)) rfl) ?_
 refine fH (fj (TQ.Q.p (TQ.w_ct (sU R) (TQ.w_cb_len S 2 rfl rfl q (TQ.w_da_cons (TQ.w_de_idx (TQ.w_cv S 0 rfl rfl) TQ.w_de_int (λ_ _=>rfl)) TQ.w_da_nil (aZ rfl)) (aZ rfl) rfl) (TQ.w_ck S 3 rfl rfl O) (by with_unfolding_all rfl))) (TQ.Q.p (TQ.w_ds_one TQ.w_ds_no)) xh) ?_
 refine fH (sC S 3 rfl rfl (TQ.Q.p (TQ.w_cc S 4 rfl rfl j (TQ.w_da_cons (TQ.w_cv S 0 rfl rfl) (TQ.w_da_cons (TQ.w_cv S 1 rfl rfl) (TQ.w_da_cons (TQ.w_cv S 2 rfl rfl) TQ.w_da_nil (aZ rfl)) (aZ rfl)) (aZ rfl)) (aZ rfl) rfl)) rfl) ?_
 refine fH (fj (TQ.Q.p (TQ.w_ct (vm R) (TQ.w_cv S 3 rfl rfl) TQ.w_de_none (by with_unfolding_all rfl))) (gK (pX DY)) xh) ?_
 refine fH (sC S 4 rfl rfl (m7 [false,false]) rfl) ?_
 refine fH (xv g S.calm (AW (bW S 3 _ _ rfl rfl)) (uw S 5 _ _ rfl rfl) ?_ (λ_=>rfl)) (gK (pX (JT J (bW S 4 _ _ rfl rfl) (xu (cI (bW S 1 _ _ rfl rfl) (cI (bW S 2 _ _ rfl rfl) gz (aZ rfl)) (aZ rfl))) (λ_ _=>rfl))))
 exact gK (mX J (bW S 4 _ _ rfl rfl) (xu (cI (Jg S 5 rfl rfl) (cI (Jg S 5 rfl rfl) gz (aZ rfl)) (aZ rfl))) (El S 5 rfl rfl l (cI (bW S 0 _ _ rfl rfl) (cI (bW S 5 _ _ rfl rfl) (cI (bW S 4 _ _ rfl rfl) gz (aZ rfl)) (aZ rfl)) (aZ rfl)) (aZ rfl) rfl (by decide)) rfl)
theorem vH {P:Program} {w:World} {K:Fg} {I:Str->Option Value} {m:Heap} {f:Addr} {o:FuncData} {j1 j2 j3 j4 k:Nat} (F:Fun K "apart" "apart" fO f o) (G:I "apart"=some (.ref f)) (b:Binds K o ["world", "one", "other"] []) (q:I "len"=none)
  (c1:DefOk P w K I m j1 "check_world" 1 bf) (c2:DefOk P w K I m j2 "check_pair" 3 cn) (c3:DefOk P w K I m j3 "rows_for" 3 bu) (c4:DC P w K I m j4) (hk:jT K I "MOST_ROOMS_APART" v7) (R:decide (j1<=k)=true) (C:decide (j2<=k)=true) (n:decide (j3<=k)=true) (h4:decide (j4<=k)=true):DefOk P w K I m (k+1) "apart" 3 cM:=by
 refine ⟨f,o,_,F.ok FG (λL H Q E h=>h.1) (λa A B s H L Q E M h=>?_),G,F.kp,b⟩
 obtain ⟨hl,O,N,J,g,y,t⟩:=h
 cases e:cM N with
 | er c=>rw [e] at t;exact t.elim
 | no=>rw [e] at t;exact t.elim
 | ok p=>
  rw [e] at t;obtain ⟨X,i,j,d,rfl,ok,h6,l,hj,U,rfl⟩:=yI e;obtain ⟨f',Y,u,x,Z,b',c'⟩:=c4;exact ⟨_,HD (Cp.fn Ht GG) M.units PassesOwn.never q (c1.cal M R) (c2.cal M C) (c3.cal M n) ⟨j4,f',Y,u,x,M.mono (of_decide_eq_true h4),Z,b',c'⟩ hk,F0 ok h6 l hj U J g y λv H' s r=>t v H' [] ⟨s,(λ_ z=>nomatch z),(λ_ z=>nomatch z),nodup_nil,.leaf r,rfl⟩⟩
end KC.Ap
namespace KC.Ap.S
open PySem PySem.Spec L2 T PySem.SeqAt
open PyProof.Rows hiding St
open KC KC.Ap
noncomputable def Un (w:Wd):Nat->Nat->Nat->Prop
 | 0,i,j=>w.mks i≠w.mks j
 | k+1,i,j=>Un w k i j\/(∃t∈w.stp i,∀a∈w.stp j,Un w k t a)\/(∃t∈w.stp j,∀a∈w.stp i,Un w k a t)
section
variable {w:Wd} {i j k:Nat}
theorem Un.up {m:Nat} (h:Un w k i j) (l:k<=m):Un w m i j:=by
 induction l with
 | refl=>exact h
 | step _ f=>exact .inl f
theorem Un.irr:∀{k i:Nat},¬Un w k i i
 | 0,i,h=>h rfl
 | k+1,i,h=>by
  rcases h with h | ⟨t,ht,h⟩ | ⟨t,ht,h⟩
  ·exact Un.irr h
  ·exact Un.irr (h t ht)
  ·exact Un.irr (h t ht)
theorem Un.sym:∀{k i j:Nat},Un w k i j->Un w k j i
 | 0,i,j,h=>λe=>h e.symm
 | k+1,i,j,h=>by
  rcases h with h | ⟨t,ht,h⟩ | ⟨t,ht,h⟩
  ·exact .inl h.sym
  ·exact .inr (.inr ⟨t,ht,λa U=>(h a U).sym⟩)
  ·exact .inr (.inl ⟨t,ht,λa U=>(h a U).sym⟩)
theorem Un.co:∀{k i j:Nat} (x:Nat),Un w k i j->Un w k i x\/Un w k x j
 | 0,i,j,x,h=>by
  by_cases e:w.mks i=w.mks x
  ·exact .inr λm=>h (e.trans m)
  ·exact .inl e
 | k+1,i,j,x,h=>by
  rcases h with h | ⟨t,ht,h⟩ | ⟨t,ht,h⟩
  ·rcases h.co x with z | z
   ·exact .inl (.inl z)
   ·exact .inr (.inl z)
  ·by_cases e:∀a∈w.stp x,Un w k t a
   ·exact .inl (.inr (.inl ⟨t,ht,e⟩))
   ·have ⟨b,Z⟩:=Classical.not_forall.mp e
    have ⟨Z,n⟩:=Classical.not_imp.mp Z
    refine .inr (.inr (.inl ⟨b,Z,λa U=>?_⟩))
    exact ((h a U).co b).resolve_left n
  ·by_cases e:∀a∈w.stp x,Un w k a t
   ·exact .inr (.inr (.inr ⟨t,ht,e⟩))
   ·have ⟨b,Z⟩:=Classical.not_forall.mp e
    have ⟨Z,n⟩:=Classical.not_imp.mp Z
    refine .inl (.inr (.inr ⟨b,Z,λa U=>?_⟩))
    exact ((h a U).co b).resolve_right n
noncomputable def yc (w:Wd) (k i:Nat):Bool:=@decide (∀j,j<i->Un w k i j) (Classical.propDecidable _)
theorem JW {x:Nat}:yc w k x=true↔∀j,j<x->Un w k x j:=@decide_eq_true_iff _ (Classical.propDecidable _)
noncomputable def reps (w:Wd) (k:Nat):List Nat:=(List.range w.n).filter (yc w k)
theorem mem_reps {x:Nat}:x∈reps w k↔x<w.n/\∀j,j<x->Un w k x j:=by
 unfold reps;rw [mem_filter,mem_range,JW]
theorem u7:(reps w k).length<=w.n:=by
 have:=length_filter_le (yc w k) (List.range w.n)
 rw [length_range] at this;exact this
theorem Jz:∀(b:Nat),∀i,i<b->i<w.n->∃x∈reps w k,¬Un w k i x
 | 0,i,h,_=>absurd h (Nat.not_lt_zero _)
 | b+1,i,h,hi=>by
  by_cases e:∀j,j<i->Un w k i j
  ·exact ⟨i,mem_reps.mpr ⟨hi,e⟩,Un.irr⟩
  ·have ⟨j,A⟩:=Classical.not_forall.mp e
   have ⟨A,a⟩:=Classical.not_imp.mp A
   obtain ⟨x,G,nx⟩:=Jz b j (by omega) (by omega)
   exact ⟨x,G,λu=>(u.co j).elim a nx⟩
theorem yb {x y:Nat} (G:x∈reps w k) (o:y∈reps w k) (h:¬Un w k x y):x=y:=by
 have R:=(mem_reps.mp G).2 y
 have C:=(mem_reps.mp o).2 x
 rcases Nat.lt_trichotomy x y with l | l | l
 ·exact absurd (C l).sym h
 ·exact l
 ·exact absurd (R l) h
theorem u6:reps w k=(reps w (k+1)).filter (yc w k):=by
 unfold reps;rw [List.filter_filter];refine filter_congr λx _=>?_
 rw [Bool.eq_iff_iff,Bool.and_eq_true,JW,JW];exact ⟨λh=>⟨h,λj A=>Or.inl (h j A)⟩,λh=>h.1⟩
theorem Fq (ok:w.Ok) (h:(reps w (k+1)).length<=(reps w k).length) {i j:Nat} (l:i<w.n) (A:j<w.n) (n:¬Un w k i j):¬Un w (k+1) i j:=by
 have e:reps w k=reps w (k+1):=by
  rw [u6 (k:=k)] at h ⊢;exact List.filter_eq_self.mpr (List.length_filter_eq_length_iff.mp (Nat.le_antisymm (length_filter_le _ _) h))
 obtain ⟨x,G,nx⟩:=Jz (k:=k+1) (i+1) i (by omega) l
 obtain ⟨y,o,a⟩:=Jz (k:=k+1) (j+1) j (by omega) A
 have:x=y:=by
  rw [<-e] at G o
  refine yb G o λu=>?_
  rcases u.co i with z | z
  ·exact nx (.inl z.sym)
  ·rcases z.co j with z | z
   ·exact n z
   ·exact a (.inl z)
 subst this;exact λu=>(u.co x).elim nx λz=>a z.sym
theorem Ig (ok:w.Ok) (h:∀i j,i<w.n->j<w.n->Un w (k+1) i j->Un w k i j):∀(m:Nat),∀i j,i<w.n->j<w.n->Un w (k+m) i j->Un w k i j
 | 0,i,j,_,_,u=>u
 | m+1,i,j,hi,hj,u=>by
  refine h i j hi hj ?_
  rcases u with u | ⟨t,ht,u⟩ | ⟨t,ht,u⟩
  ·exact .inl (Ig ok h m i j hi hj u)
  ·exact .inr (.inl ⟨t,ht,λa U=>Ig ok h m t a (ok.stp_lt ht) (ok.stp_lt U) (u a U)⟩)
  ·exact .inr (.inr ⟨t,ht,λa U=>Ig ok h m a t (ok.stp_lt U) (ok.stp_lt ht) (u a U)⟩)
theorem rB (ok:w.Ok):∀k,k<=(reps w k).length\/∃m,m<k/\∀i j,i<w.n->j<w.n->Un w (m+1) i j->Un w m i j
 | 0=>.inl (Nat.zero_le _)
 | k+1=>by
  rcases rB ok k with h | ⟨m,hm,h⟩
  ·by_cases l:(reps w (k+1)).length<=(reps w k).length
   ·exact .inr ⟨k,by omega,λi j a A u=>Classical.byContradiction λn=>Fq ok l a A n u⟩
   ·exact .inl (by omega)
  ·exact .inr ⟨m,by omega,h⟩
theorem Dw (ok:w.Ok) (d:i<w.n) (A:j<w.n) (u:Un w k i j):∃m,m<=w.n/\m<=k/\Un w m i j/\∀l,l<m->¬Un w l i j:=by
 have a:∀k,Un w k i j->∃m,m<=k/\Un w m i j/\∀l,l<m->¬Un w l i j:=by
  intro k;induction k with
  | zero=>exact λu=>⟨0,Nv _,u,λl N=>absurd N (Nat.not_lt_zero _)⟩
  | succ k f=>
   intro u;by_cases c:Un w k i j
   ·obtain ⟨m,G,h⟩:=f c
    exact ⟨m,by omega,h⟩
   ·exact ⟨k+1,Nv _,u,λl N z=>c (z.up (by omega))⟩
 obtain ⟨m,G,b,g⟩:=a k u;refine ⟨m,?_,G,b,g⟩
 rcases rB (w:=w) ok (w.n+1) with h | ⟨q,hq,h⟩
 ·have:=u7 (w:=w) (k:=w.n+1)
  omega
 ·have:Un w q i j:=by
   by_cases c:m<=q
   ·exact b.up c
   ·have e:m=q+(m-q):=by omega
    rw [e] at b;exact Ig ok h _ i j d A b
  by_cases c:m<=q
  ·omega
  ·exact absurd this (g q (by omega))
end
noncomputable def mS (w:Wd):Nat->List Row
 | 0=>[]
 | k+1=>mS w k++nxt w ((mS w k).map (·.1))
noncomputable abbrev kn (w:Wd) (k:Nat):List (Nat×Nat):=(mS w k).map (·.1)
section
variable {w:Wd} {i j k:Nat}
theorem mR (h:nxt w (kn w k)=[]):∀m,mS w (k+m)=mS w k
 | 0=>rfl
 | m+1=>by
  show mS w (k+m)++nxt w ((mS w (k+m)).map (·.1))=_
  rw [mR h m];show mS w k++nxt w (kn w k)=_
  rw [h,append_nil]
theorem oB:∀(f k:Nat),jR w f (mS w k)=mS w (k+f)
 | 0,k=>rfl
 | f+1,k=>by
  unfold jR;split
  ·rename_i e
   exact (mR (List.isEmpty_iff.mp e) _).symm
  ·have:=oB f (k+1)
   rw [show k+1+f=k+(f+1) by omega] at this
   exact this
theorem rd:bM w=mS w 1000:=by
 have:=oB (w:=w) 1000 0
 rw [Nat.zero_add] at this;exact this
theorem j9 {r:Row}:∀{k:Nat},r∈mS w k->∃m,m<k/\r∈nxt w (kn w m)
 | 0,h=>nomatch h
 | k+1,h=>by
  rcases Nj h with z | z
  ·obtain ⟨m,G,h⟩:=j9 z
   exact ⟨m,by omega,h⟩
  ·exact ⟨k,by omega,z⟩
theorem kf (ok:w.Ok) (l:i<w.n) (A:j<w.n):(letters.find? (rS w i j)).isSome=true↔w.mks i≠w.mks j:=by
 constructor
 ·intro h e
  obtain ⟨c,J⟩:=Option.isSome_iff_exists.mp h;have:=find?_some J
  unfold rS at this;rw [e] at this;simp at this
 ·intro h
  cases e:letters.find? (rS w i j) with
  | some c=>rfl
  | none=>
   refine absurd (vQ ok l A λc J=>?_) h
   have:=List.find?_eq_none.mp e c J
   unfold rS at this;simpa using this
theorem bs_all {K:List (Nat×Nat)} {s t:Nat}:jg w K i j s t=true↔∀p∈cB w i j s t,p∈K:=by
 unfold jg;rw [all_eq_true];exact ⟨λh p g=>of_decide_eq_true (h p g),λh p g=>decide_eq_true (h p g)⟩
theorem qy (ok:w.Ok) (l:i<w.n) (A:j<w.n) {K:List (Nat×Nat)}:(oF w K i j).isSome=true↔w.mks i≠w.mks j\/(∃t∈w.stp i,∀a∈w.stp j,(t,a)∈K)\/(∃t∈w.stp j,∀a∈w.stp i,(a,t)∈K):=by
 have G:=kf ok l A
 unfold oF
 cases e:letters.find? (rS w i j) with
 | some c=>
  rw [e] at G;exact ⟨λ_=>.inl (G.mp rfl),λ_=>rfl⟩
 | none=>
  rw [e] at G;have m:¬w.mks i≠w.mks j:=λz=>nomatch (G.mpr z)
  show (Option.map _ _).isSome=true↔_
  rw [Option.isSome_map,List.find?_isSome];constructor
  ·rintro ⟨p,g,Z⟩
   have Z:=bs_all.mp Z
   rcases EI g with ⟨B,R⟩ | ⟨B,R⟩
   ·refine .inr (.inl ⟨p.2,R,λa U=>Z _ ?_⟩)
    unfold cB;rw [if_pos B];exact List.mem_map.mpr ⟨a,U,rfl⟩
   ·refine .inr (.inr ⟨p.2,R,λa U=>Z _ ?_⟩)
    unfold cB;rw [if_neg (by omega)]
    exact List.mem_map.mpr ⟨a,U,rfl⟩
  ·rintro (z | ⟨t,ht,h⟩ | ⟨t,ht,h⟩)
   ·exact absurd z m
   ·refine ⟨(0,t),Ni _ (List.mem_map.mpr ⟨t,ht,rfl⟩),bs_all.mpr λp g=>?_⟩
    obtain ⟨a,U,rfl⟩:=List.mem_map.mp g;exact h a U
   ·refine ⟨(1,t),Nh _ (List.mem_map.mpr ⟨t,ht,rfl⟩),bs_all.mpr λp g=>?_⟩
    obtain ⟨a,U,rfl⟩:=List.mem_map.mp g;exact h a U
theorem vJ {K:List (Nat×Nat)} (l:i<w.n) (A:j<w.n):(i,j)∈(nxt w K).map (·.1)↔(i,j)∉K/\(oF w K i j).isSome=true:=by
 rw [qN,mem_filter,mem_psN];unfold nx1;constructor
 ·rintro ⟨_,h⟩
  split at h
  ·cases h
  ·rename_i y
   exact ⟨y,by simpa using h⟩
 ·rintro ⟨R,C⟩
  refine ⟨⟨l,A⟩,?_⟩
  rw [if_neg R];simpa using C
theorem Es (ok:w.Ok):∀(k:Nat) {i j:Nat},i<w.n->j<w.n->((i,j)∈kn w (k+1)↔Un w k i j)
 | 0,i,j,hi,hj=>by
  show (i,j)∈(([]:List Row)++nxt w []).map (·.1)↔_
  rw [nil_append,vJ hi hj,qy ok hi hj];constructor
  ·rintro ⟨_,h | ⟨t,L,h⟩ | ⟨t,L,h⟩⟩
   ·exact h
   ·obtain ⟨a,U⟩:=exists_mem_of_ne_nil _ (ok.stp_ne hj)
    exact nomatch h a U
   ·obtain ⟨a,U⟩:=exists_mem_of_ne_nil _ (ok.stp_ne hi)
    exact nomatch h a U
  ·exact λh=>⟨by simp,.inl h⟩
 | k+1,i,j,hi,hj=>by
  have f:=@Es ok k
  show (i,j)∈(mS w (k+1)++nxt w (kn w (k+1))).map (·.1)↔_
  rw [map_append,mem_append,vJ hi hj,qy ok hi hj];have B:(∃t∈w.stp i,∀a∈w.stp j,(t,a)∈kn w (k+1))↔∃t∈w.stp i,∀a∈w.stp j,Un w k t a:=
   ⟨λ⟨t,L,h⟩=>⟨t,L,λa U=>(f (ok.stp_lt L) (ok.stp_lt U)).mp (h a U)⟩,λ⟨t,L,h⟩=>⟨t,L,λa U=>(f (ok.stp_lt L) (ok.stp_lt U)).mpr (h a U)⟩⟩
  have m:(∃t∈w.stp j,∀a∈w.stp i,(a,t)∈kn w (k+1))↔∃t∈w.stp j,∀a∈w.stp i,Un w k a t:=
   ⟨λ⟨t,L,h⟩=>⟨t,L,λa U=>(f (ok.stp_lt U) (ok.stp_lt L)).mp (h a U)⟩,λ⟨t,L,h⟩=>⟨t,L,λa U=>(f (ok.stp_lt U) (ok.stp_lt L)).mpr (h a U)⟩⟩
  rw [B,m];show (i,j)∈kn w (k+1)\/_↔_
  rw [f hi hj];constructor
  ·rintro (h | ⟨_,h | h⟩)
   ·exact .inl h
   ·exact .inl (Un.up (k:=0) h (Nat.zero_le _))
   ·exact .inr h
  ·rintro (h | h)
   ·exact .inl h
   ·by_cases c:Un w k i j
    ·exact .inl c
    ·exact .inr ⟨c,.inr h⟩
noncomputable def Rk (w:Wd) (k:Nat) (p:Nat×Nat):Prop:=Un w k p.1 p.2/\∀m,m<k->¬Un w m p.1 p.2
theorem uZ (ok:w.Ok) {r:Row} (h:r∈bM w):(∃c,r.2=.mk c/\Rk w 0 r.1/\c∈letters/\rS w r.1.1 r.1.2 c=true) \/
  (∃(m:Nat) (s t:Nat),r.2=.st (s:Int) (t:Int)/\Rk w (m+1) r.1/\((s=0/\t∈w.stp r.1.1)\/(s=1/\t∈w.stp r.1.2))/\(∀q∈eN w r,Un w m q.1 q.2)/\∀l,l<m->∃q∈eN w r,¬Un w l q.1 q.2):=by
 rw [rd] at h;obtain ⟨m,_,h⟩:=j9 h;obtain ⟨R,C,L,f⟩:=ED h;obtain ⟨⟨i,j⟩,I⟩:=r;obtain ⟨p,g,e⟩:=List.mem_filterMap.mp h;unfold nx1 at e;split at e
 ·cases e
 rename_i H;obtain ⟨q,n,e⟩:=Option.map_eq_some_iff.mp e
 cases e;have A:Un w m i j:=by
  have:=(Es ok m R C).mp (by
   show (i,j)∈(mS w m++nxt w (kn w m)).map (·.1)
   rw [map_append];exact Nh _ (List.mem_map.mpr ⟨_,h,rfl⟩))
  exact this
 have x:∀l,l<m->¬Un w l i j:=λl N u=>by
  obtain ⟨E,rfl⟩:∃E,m=E+1:=⟨m-1,by omega⟩
  exact H ((Es ok E R C).mpr (u.up (by omega)))
 unfold oF at n;dsimp only at n
 cases d:letters.find? (rS w i j) with
 | some c=>
  rw [d] at n
  cases n;left
  have F:Un w 0 i j:=(kf ok R C).mp (by rw [d];rfl)
  exact ⟨c,rfl,⟨F,λl N=>absurd N (Nat.not_lt_zero _)⟩,List.mem_of_find?_eq_some d,find?_some d⟩
 | none=>
  rw [d] at n;right
  obtain ⟨p,g,n⟩:=Option.map_eq_some_iff.mp n
  cases n;have Z:jg w (kn w m) i j p.1 p.2=true:=find?_some (p:=λp:Nat×Nat=>jg w (kn w m) i j p.1 p.2) g
  have Z:=bs_all.mp Z
  have J:=EI (List.mem_of_find?_eq_some g)
  have K:∃q,q∈cB w i j p.1 p.2:=by
   unfold cB;rcases J with ⟨z,_⟩ | ⟨z,_⟩
   ·rw [if_pos z]
    obtain ⟨a,U⟩:=exists_mem_of_ne_nil _ (ok.stp_ne C);exact ⟨_,List.mem_map.mpr ⟨a,U,rfl⟩⟩
   ·rw [if_neg (by omega)]
    obtain ⟨a,U⟩:=exists_mem_of_ne_nil _ (ok.stp_ne R);exact ⟨_,List.mem_map.mpr ⟨a,U,rfl⟩⟩
  have G:m≠0:=λz=>by
   subst z;obtain ⟨q,n⟩:=K;exact nomatch Z q n
  obtain ⟨E,rfl⟩:∃E,m=E+1:=⟨m-1,by omega⟩
  have B:eN w ((i,j),Rsn.st (p.1:Int) (p.2:Int))=cB w i j p.1 p.2:=rfl
  have v:∀q∈cB w i j p.1 p.2,q.1<w.n/\q.2<w.n:=λq n=>zD ok (by rcases J with ⟨_,z⟩ | ⟨_,z⟩<;>exact ok.stp_lt z) n
  refine ⟨E,p.1,p.2,rfl,⟨A,x⟩,J,λq n=>?_,λl N=>?_⟩
  ·rw [B] at n
   exact (Es ok E (v q n).1 (v q n).2).mp (Z q n)
  ·rw [B]
   refine Classical.byContradiction λz=>x (l+1) (by omega) ?_
   have o:∀q∈cB w i j p.1 p.2,Un w l q.1 q.2:=λq n=>Classical.byContradiction λy=>z ⟨q,n,y⟩
   rcases J with ⟨b,ct⟩ | ⟨b,ct⟩
   ·refine .inr (.inl ⟨p.2,ct,λa U=>o (p.2,a) ?_⟩)
    unfold cB;rw [if_pos b];exact List.mem_map.mpr ⟨a,U,rfl⟩
   ·refine .inr (.inr ⟨p.2,ct,λa U=>o (a,p.2) ?_⟩)
    unfold cB;rw [if_neg (by omega)]
    exact List.mem_map.mpr ⟨a,U,rfl⟩
end
noncomputable def Pl:Sn->Prop
 | .yes=>True
 | .mk c=>c∈letters
 | .un .not a=>Pl a
 | .un .sn a=>Pl a
 | .bi .and a b=>Pl a/\Pl b
 | _=>False
noncomputable def nx:Sn->Nat
 | .yes=>0
 | .mk _=>0
 | .un .sn a=>nx a+1
 | .un _ a=>nx a
 | .bi _ a b=>max (nx a) (nx b)
theorem Pl.ok:∀{s:Sn},Pl s->s.ok
 | .yes,_=>trivial
 | .mk c,h=>h
 | .un .not a,h=>Pl.ok (s:=a) h
 | .un .sn a,h=>Pl.ok (s:=a) h
 | .un .an a,h=>h.elim
 | .un .sa a,h=>h.elim
 | .un .aa a,h=>h.elim
 | .bi .and a b,h=>⟨Pl.ok h.1,Pl.ok h.2⟩
 | .bi .or a b,h=>h.elim
 | .bi .su a b,h=>h.elim
 | .bi .au a b,h=>h.elim
theorem vF {s:Sn} (h:Pl s):Pl (lg s)/\nx (lg s)=nx s/\(lg s).dep<=s.dep+1:=by
 rcases Ke s with ⟨a,rfl,e⟩ | ⟨_,e⟩
 ·rw [e]
  exact ⟨h,rfl,by show a.dep<=a.dep+1+1;omega⟩
 ·rw [e]
  exact ⟨h,rfl,Nv _⟩
noncomputable def uv (q:List Sn) (s:Sn):List Sn:=if s∈q then q else q++[s]
theorem qS {x:Sn}:∀{L q:List Sn},x∈L.foldl uv q↔x∈q\/x∈L
 | [],q=>by simp
 | s::L,q=>by
  rw [List.foldl_cons,qS (L:=L)];unfold uv;split
  ·rename_i h
   constructor
   ·rintro (z | z)
    ·exact .inl z
    ·exact .inr (Nn _ z)
   ·rintro (z | z)
    ·exact .inl z
    ·rcases Nk z with rfl | z
     ·exact .inl h
     ·exact .inr z
  ·rw [mem_append,List.mem_singleton,mem_cons,or_assoc]
theorem qW:∀{L acc:List Sn},(L.foldl uv acc).length<=acc.length+L.length
 | [],acc=>by simp
 | s::L,acc=>by
  rw [List.foldl_cons];have:=qW (L:=L) (acc:=uv acc s)
  have C:(uv acc s).length<=acc.length+1:=by
   unfold uv;split
   ·omega
   ·simp
  rw [length_cons];omega
noncomputable abbrev oZ (L:List Sn):List Sn:=L.foldl uv []
theorem mem_once {x:Sn} {L:List Sn}:x∈oZ L↔x∈L:=by rw [qS];simp
theorem Iz {L:List Sn}:(oZ L).length<=L.length:=by have:=qW (L:=L) (acc:=[]);simpa using this
noncomputable def dw:Nat->List Sn->Sn
 | 0,L=>L.headD .yes
 | f+1,L=>if L.length / 2=0 then L.headD .yes else .bi .and (dw f (L.take (L.length / 2))) (dw f (L.drop (L.length / 2)))
theorem AX {L:List Sn} (h:L≠[]):L.headD .yes∈L:=by
 cases L with
 | nil=>exact absurd rfl h
 | cons a l=>exact mem_cons_self
theorem Jy {L:List Sn} (h:L.length / 2≠0):L.take (L.length / 2)≠[]/\L.drop (L.length / 2)≠[]:=by
 refine ⟨λz=>?_,λz=>?_⟩
 ·have:=congrArg List.length z
  rw [length_take,length_nil] at this;omega
 ·have:=congrArg List.length z
  rw [length_drop,length_nil] at this;omega
theorem half_in {L:List Sn} {s:Sn}:s∈L↔s∈L.take (L.length / 2)\/s∈L.drop (L.length / 2):=by
 rw [<-mem_append,take_append_drop]
theorem EH {P:Sn->Prop} (Z:∀a b,P a->P b->P (.bi .and a b)):∀(f:Nat) {L:List Sn},L≠[]->(∀s∈L,P s)->P (dw f L)
 | 0,L,hn,h=>h _ (AX hn)
 | f+1,L,hn,h=>by
  unfold dw;split
  ·exact h _ (AX hn)
  ·rename_i N
   obtain ⟨k,u⟩:=Jy N;exact Z _ _ (EH Z f k λs Y=>h s (half_in.mpr (.inl Y))) (EH Z f u λs Y=>h s (half_in.mpr (.inr Y)))
theorem JZ {f l:Nat} (h:l<=2 ^ (f+1)):l / 2<=2 ^ f/\l-l / 2<=2 ^ f:=by
 rw [Nat.pow_succ] at h;omega
theorem Ir {P:Sn->Prop} (R:∀a b,P a->P (.bi .and a b)) (C:∀a b,P b->P (.bi .and a b)) {s:Sn}:∀(f:Nat) {L:List Sn},L.length<=2 ^ f->s∈L->P s->P (dw f L)
 | 0,L,hl,hs,hp=>by
  match L,hs,hl with
  | [a],hs,_=>
   have:s=a:=by simpa using hs
   subst this;exact hp
  | a::b::l,_,hl=>simp at hl
 | f+1,L,hl,hs,hp=>by
  unfold dw;obtain ⟨J,q⟩:=JZ hl;split
  ·rename_i w
   match L,hs,w with
   | [a],hs,_=>
    have:s=a:=by simpa using hs
    subst this;exact hp
   | a::b::l,_,w=>simp only [length_cons] at w;omega
  ·rcases half_in.mp hs with z | z
   ·exact R _ _ (Ir R C f (by rw [length_take];omega) z hp)
   ·exact C _ _ (Ir R C f (by rw [length_drop];omega) z hp)
theorem JN {M:Nat}:∀(f g:Nat) {L:List Sn},L≠[]->L.length<=2 ^ g->(∀s∈L,s.dep<=M)->(dw f L).dep<=g+M
 | 0,g,L,hn,_,h=>by
  have:=h _ (AX hn)
  show (L.headD .yes).dep<=_
  omega
 | f+1,g,L,hn,hl,h=>by
  unfold dw;split
  ·have:=h _ (AX hn)
   omega
  ·rename_i w
   obtain ⟨k,u⟩:=Jy w;match g,hl with
   | 0,hl=>simp at hl;omega
   | g+1,hl=>
    obtain ⟨J,q⟩:=JZ hl;have F:=JN f g (M:=M) k (by rw [length_take];omega) λs Y=>h s (half_in.mpr (.inl Y))
    have a:=JN f g (M:=M) u (by rw [length_drop];omega) λs Y=>h s (half_in.mpr (.inr Y))
    show max _ _+1<=_
    omega
theorem rU {w:Wd} {L:List Sn} {M m:Nat} (c:L≠[]) (N:L.length<=8) (h:∀s∈L,Pl s/\s.dep<=M/\nx s<=m) (G:∃s∈L,m<=nx s) :
  Pl (dw 7 L)/\(dw 7 L).dep<=M+3/\nx (dw 7 L)=m/\∀r,ez w (dw 7 L) r↔∀s∈L,ez w s r:=by
 refine ⟨EH (P:=Pl) (λa b U Z=>⟨U,Z⟩) 7 c λs Y=>(h s Y).1,?_,?_,λr=>⟨λz s Y=>?_,λz=>EH (P:=λs=>ez w s r) (λa b U Z=>⟨U,Z⟩) 7 c z⟩⟩
 ·have:=JN (M:=M) 7 3 c N λs Y=>(h s Y).2.1
  omega
 ·refine Nat.le_antisymm (EH (P:=λs=>nx s<=m) (λa b U Z=>Nat.max_le.mpr ⟨U,Z⟩) 7 c λs Y=>(h s Y).2.2) ?_
  obtain ⟨s,Y,G⟩:=G;exact Ir (P:=λs=>m<=nx s) (λa b U=>Nat.le_trans U (Nat.le_max_left _ _)) (λa b Z=>Nat.le_trans Z (Nat.le_max_right _ _)) 7 (by omega) Y G
 ·exact Classical.byContradiction λy=>Ir (P:=λs=>¬ez w s r) (λa b U d=>U d.1) (λa b Z d=>Z d.2) 7 (by omega) Y y z
theorem wQ {M:Nat}:∀{L:List Sn},(∀s∈L,s.ok/\s.dep<=M)->PyData.canLayAll0 (L.map Sn.enc)=true/\PyData.depthAll (L.map Sn.enc)<=M
 | [],_=>⟨by simp [PyData.canLayAll0],by simp [PyData.depthAll]⟩
 | s::L,h=>by
  obtain ⟨R,C⟩:=wQ (L:=L) λx G=>h x (Nn _ G)
  obtain ⟨F,g⟩:=h s mem_cons_self;obtain ⟨p,H⟩:=rH F;rw [map_cons,PyData.canLayAll0,PyData.depthAll,p,H,R];exact ⟨rfl,Nat.max_le.mpr ⟨g,C⟩⟩
theorem Bn {L:List Sn} (h:∀s∈L,s.ok/\s.dep<=50):shaped (.list (L.map Sn.enc))=true:=by
 obtain ⟨R,C⟩:=wQ h;unfold shaped;rw [PyData.canLay0,PyData.depth,R];simp
 omega
theorem CQ {L:List Sn} {s:Sn} (h:∀x∈L,x.ok/\x.dep<=50) (Y:s.ok) (F:s.dep<=50):bx true s.enc (.list (L.map Sn.enc))=some (.bool (!decide (s∈L))):=by
 unfold bx;dsimp only;rw [Dg Y (by omega),Bn h]
 simp only [Bool.and_self,if_true]
 congr 3
 rw [Bool.eq_iff_iff,any_eq_true,decide_eq_true_eq];constructor
 ·rintro ⟨y,o,e⟩
  obtain ⟨x,G,rfl⟩:=List.mem_map.mp o;rw [(rJ x s).mp e] at G;exact G
 ·exact λz=>⟨_,List.mem_map.mpr ⟨s,z,rfl⟩,(rJ s s).mpr rfl⟩
theorem nU {L:List Sn} (h:∀s∈L,s.ok/\s.dep<=50) (N:L.length<=800):b6 [.list (L.map Sn.enc)]=.ok ⟨.lst .leaf,.list ((oZ L).map Sn.enc)⟩:=by
 refine aV ?_
 refine ay (Γ1:=[Nx (.list (L.map Sn.enc)),some ⟨.lst .leaf,.list []⟩,none]) (DS (pY aj rfl rfl rfl) rfl (by show (1:Nat)<3;decide)) ?_
 obtain ⟨y,e,_⟩:=nQ (Inv:=λq r=>(∀s∈q,s.ok/\s.dep<=50)/\(∀s∈r,s.ok/\s.dep<=50)/\q.length+r.length<=800) Sn.enc uv (i:=2) (G:=λq x=>[Nx (.list (L.map Sn.enc)),some ⟨.lst .leaf,.list (q.map Sn.enc)⟩,x]) (body:=b8 (aM ai (ar (bx true) (ae 2) (ae 1))) (aF 1 (ae 2)) aJ) (λ_ _=>by simp) (λ_ _ _=>rfl) (λq a r hI=>by
  obtain ⟨b,d,c⟩:=hI;obtain ⟨F,g⟩:=d a mem_cons_self;rw [length_cons] at c;refine ⟨bJ (t:=!decide (a∈q)) (cH (s:=.leaf) (aA (aw (i:=2) rfl) (E9 (i:=1) rfl) (CQ b F g))) (λz=>?_) (λz=>?_),?_,λs Y=>d s (Nn _ Y),?_⟩
  ·have w:a∉q:=by simpa using z
   unfold uv;rw [if_neg w,map_append];exact ER (i:=1) rfl (aw (i:=2) rfl) rfl (by rw [length_map];omega)
  ·have w:a∈q:=by simpa using z
   unfold uv;rw [if_pos w];rfl
  ·unfold uv
   split
   ·exact b
   ·intro s Y
    rcases Nj Y with Y | Y
    ·exact b s Y
    ·rw [List.mem_singleton.mp Y];exact ⟨F,g⟩
  ·unfold uv
   split
   ·omega
   ·rw [length_append,length_singleton];omega) L [] none ⟨(λ_ z=>nomatch z),h,by simpa using N⟩
 refine ay (gN (dB (aw (i:=0) rfl) rfl) e) (aX (Ex (i:=1) rfl) rfl)
theorem Bk {l:List D} {k:Nat}:T.cutD l none (some (k:Int))=l.take k:=by
 unfold T.cutD;rw [HT.sIx_none,HT.sIx_nat,List.drop_zero,Nat.sub_zero];by_cases h:k<=l.length
 ·rw [Nat.min_eq_left h]
 ·rw [Nat.min_eq_right (by omega),take_of_length_le (Nv _),take_of_length_le (by omega)]
theorem Bl {l:List D} {k:Nat}:T.cutD l (some (k:Int)) none=l.drop k:=by
 unfold T.cutD;rw [HT.sIx_none,HT.sIx_nat];by_cases h:k<=l.length
 ·rw [Nat.min_eq_left h,take_of_length_le (by simp)]
 ·rw [Nat.min_eq_right (by omega),List.drop_of_length_le (by simp),List.drop_of_length_le (by omega)]
  simp
theorem zS {B X o:Ev} {g:Int->Option Int×Option Int} {z e:F1} {s j:Sh} {Y:List D} {k:Int} (U:z B=.ok ⟨s,.list Y⟩ X) (Z:e X=.ok ⟨j,.int k⟩ o) (K:aH ⟨s,.list Y⟩ Y=true):lJ g z e B=.ok ⟨.lst .leaf,.list (T.cutD Y (g k).1 (g k).2)⟩ o:=by
 unfold lJ aY;rw [U];simp only [Out.bind]
 rw [Z];simp only [Out.bind,K,if_true]
theorem rL:∀(f:Nat) {L:List Sn},L≠[]->L.length<=2 ^ f->∃F:Sh,F.isView=false/\fW (f+1) [.list (L.map Sn.enc)]=.ok ⟨F,(dw f L).enc⟩:=by
 intro f;induction f with
 | zero=>
  intro L y N;match L,y,N with
  | [a],_,_=>
   refine ⟨.leaf,rfl,aV (ay (Γ1:=[Nx (.list [a.enc]),Nx (.int 0)]) (dJ (p:=⟨.leaf,.int 0⟩) (aA (b4 (d:=.int 1) (az (aw (i:=0) rfl) aj) rfl) (aO (d:=.int 2)) (by kernel_rfl)) rfl (by show (1:Nat)<2;decide)) (aX (sj (t:=true) (cH (s:=.leaf) (aA (aw (i:=1) rfl) (aO (d:=.int 0)) (by kernel_rfl))) (λ_=>xy (j:=0) (ds:=[a.enc]) (aw (i:=0) rfl) (aO (d:=.int 0)) rfl rfl rfl) nofun) rfl))⟩
  | a::b::l,_,N=>simp at N
 | succ f e=>
  intro L y N;obtain ⟨J,q⟩:=JZ N;have c:ax false 1 (ar h9 (bb aQ (ab (ae 0) af)) (eK (.int 2))) (aN 2 [.list (L.map Sn.enc)])=.nx [Nx (.list (L.map Sn.enc)),Nx (.int ((L.length / 2:Nat):Int))]:=
   dJ (p:=⟨.leaf,.int ((L.length / 2:Nat):Int)⟩) (aA (b4 (d:=.int (L.length:Int)) (az (aw (i:=0) rfl) aj) (by show some _=_;rw [length_map])) (aO (d:=.int 2)) ((nT (by decide) (by decide)).trans (by rw [Int.natCast_ediv];rfl))) rfl (by show (1:Nat)<2;decide)
  by_cases w:L.length / 2=0
  ·match L,y,w with
   | [a],_,_=>
    have X:dw (f+1) [a]=a:=by rw [dw,if_pos (by show 1 / 2=0;decide)];rfl
    rw [X];refine ⟨.leaf,rfl,aV (ay c (aX (sj (t:=true) (cH (s:=.leaf) (aA (aw (i:=1) rfl) (aO (d:=.int 0)) (by kernel_rfl))) (λ_=>xy (j:=0) (ds:=[a.enc]) (aw (i:=0) rfl) (aO (d:=.int 0)) rfl rfl rfl) nofun) rfl))⟩
   | a::b::l,_,w=>simp only [length_cons] at w;omega
  ·obtain ⟨g,u⟩:=Jy w
   obtain ⟨A,Y,B⟩:=e g (by rw [length_take];omega)
   obtain ⟨h,v,m⟩:=e u (by rw [length_drop];omega)
   have X:dw (f+1) L=.bi .and (dw f (L.take (L.length / 2))) (dw f (L.drop (L.length / 2))):=by
    rw [dw,if_neg w]
   rw [X];have t1:lJ (λk=>(none,some k)) (ae 0) (ae 1) [Nx (.list (L.map Sn.enc)),Nx (.int ((L.length / 2:Nat):Int))]=.ok ⟨.lst .leaf,.list ((L.take (L.length / 2)).map Sn.enc)⟩ [Nx (.list (L.map Sn.enc)),Nx (.int ((L.length / 2:Nat):Int))]:=by
    rw [zS (aw (i:=0) rfl) (aw (i:=1) rfl) rfl,Bk,<-List.map_take]
   have t2:lJ (λk=>(some k,none)) (ae 0) (ae 1) [Nx (.list (L.map Sn.enc)),Nx (.int ((L.length / 2:Nat):Int))]=.ok ⟨.lst .leaf,.list ((L.drop (L.length / 2)).map Sn.enc)⟩ [Nx (.list (L.map Sn.enc)),Nx (.int ((L.length / 2:Nat):Int))]:=by
    rw [zS (aw (i:=0) rfl) (aw (i:=1) rfl) rfl,Bl,<-List.map_drop]
   refine ⟨_,rfl,aV (ay c (aX (sj (t:=false) (cH (s:=.leaf) (aA (aw (i:=1) rfl) (aO (d:=.int 0)) (by rw [KC.eq_int];congr 2;rw [beq_eq_false_iff_ne];omega))) nofun (λ_=>cJ (az (aO (d:=.str "and")) (az (cv (az t1 aj) B rfl rfl) (az (cv (az t2 aj) m rfl rfl) aj))) ?_ rfl)) ?_))⟩
   ·simp [tok,Y,v]
   ·rfl
section
variable {w:Wd} {i j k:Nat}
theorem Bf (ok:w.Ok) {r:Nat} (M:r<w.n):(w.stp r).Nodup:=by
 have G:w.stp r∈w.s:=by
  unfold Wd.stp;rw [Nm,Nl (by rw [ok.ls];exact M)]
  exact getElem_mem _
 obtain ⟨q,e,_,_,_,h⟩:=ok.g.s (aT (w.stp r)) (List.mem_map.mpr ⟨_,G,rfl⟩)
 have m:(w.stp r).map (λt:Nat=>(t:Int))=q:=by
  have c:(w.stp r).map rm=q.map .int:=by simpa using e
  have R:((w.stp r).map (λt:Nat=>(t:Int))).map PyData.int=q.map .int:=by rw [map_map];exact c
  exact (map_inj_right (λa b h=>by injection h)).mp R
 rw [<-m,pairwise_map] at h;exact h.imp λz e=>by omega
theorem uR (ok:w.Ok) {r:Nat} (M:r<w.n):(w.stp r).length<=w.n:=by
 have:=iI (Bf ok M) (L:=List.range w.n) λx G=>List.mem_range.mpr (ok.stp_lt G)
 rwa [length_range] at this
structure Good (w:Wd) (p:Nat×Nat) (S:Sn):Prop where
 pl:Pl S
 h:∃k,Rk w k p/\nx S=k/\S.dep<=6*k+2
 y:ez w S p.1
 n:¬ez w S p.2
theorem Rk.le {p:Nat×Nat} {k m:Nat} (h:Rk w k p) (u:Un w m p.1 p.2):k<=m:=Nat.le_of_not_lt λz=>h.2 m z u
theorem Rk.n (ok:w.Ok) {p:Nat×Nat} (R:p.1<w.n) (C:p.2<w.n) {k:Nat} (h:Rk w k p):k<=w.n:=by
 obtain ⟨m,G,_,u,_⟩:=Dw ok R C h.1;exact Nat.le_trans (h.le u) G
theorem Gn {T:Nat×Nat->D}:∀{B:List (Nat×Nat)},(∀q∈B,∃S,T q=S.enc/\Good w q S)->∃L:List Sn,B.map T=L.map Sn.enc/\(∀s∈L,∃q∈B,Good w q s)/\∀q∈B,∃s∈L,Good w q s
 | [],_=>⟨[],rfl,(λ_ z=>nomatch z),λ_ z=>nomatch z⟩
 | q::B,h=>by
  obtain ⟨L,e,R,C⟩:=Gn λx G=>h x (Nn _ G)
  obtain ⟨S,p,g⟩:=h q mem_cons_self;refine ⟨S::L,by rw [map_cons,map_cons,e,p],λs Y=>?_,λx G=>?_⟩
  ·rcases Nk Y with rfl | Y
   ·exact ⟨q,mem_cons_self,g⟩
   ·obtain ⟨x,G,g⟩:=R s Y
    exact ⟨x,Nn _ G,g⟩
  ·rcases Nk G with rfl | G
   ·exact ⟨S,mem_cons_self,g⟩
   ·obtain ⟨s,Y,g⟩:=C x G
    exact ⟨s,Nn _ Y,g⟩
theorem qL {o:Out PV} {s:Sh} {d:D} {B:Ev} (h:o=.ok ⟨s,d⟩ B) (P:s.isView=false):pd o=some d:=by
 rw [h];show (if s.isView then none else some d)=some d
 rw [P];rfl
theorem Fu (ok:w.Ok) (I:w.n<=6) {r:Row} (hr:r∈bM w) (R:r.1.1<w.n) (C:r.1.2<w.n) {T:Nat×Nat->D} (E:∀q∈eN w r,∃S,T q=S.enc/\Good w q S):∃S,Bi w r T=some S.enc/\Good w r.1 S:=by
 rcases uZ ok hr with ⟨c,e,O,J,Z⟩ | ⟨m,s,t,e,O,hst,hU,hl⟩
 ·obtain ⟨⟨i,j⟩,rs⟩:=r
  cases e;have cin:PyData.strOk c=true:=(Et J).1
  have ev:=JJ ok (Γ:=GO w ((i,j),.mk c) (Nx (bH (.mk c))) (Nx (.tuple [.str "mark",.str c])) none) (i:=0) (fb:=eR 1 0) (s:=.leaf) (r:=i) rfl (eX (j:=0) (ds:=[rm i,rm j,bH (.mk c)]) (aw (i:=1) rfl) (aO (d:=.int 0)) rfl rfl rfl) R
  have f:eR 3 1 (GO w ((i,j),.mk c) (Nx (bH (.mk c))) (Nx (.tuple [.str "mark",.str c])) none)=.ok ⟨.leaf,.str c⟩ _:=eX (j:=1) (ds:=[.str "mark",.str c]) (aw (i:=3) rfl) (aO (d:=.int 1)) rfl rfl rfl
  have H:=cH (s:=.leaf) (aA f ev (CT cin (vO ok)))
  have Z:((w.mks i).contains c != (w.mks j).contains c)=true:=Z
  cases v:(w.mks i).contains c with
  | true=>
   rw [v] at H Z
   have nj:¬c∈w.mks j:=by simpa using Z
   refine ⟨.mk c,qL (sj (t:=true) H (λ_=>aw (i:=4) rfl) nofun) rfl,J,⟨0,O,rfl,by show 1<=_;omega⟩,List.contains_iff_mem.mp v,nj⟩
  | false=>
   rw [v] at H Z
   have yj:c∈w.mks j:=by simpa using Z
   refine ⟨.un .not (.mk c),qL (sj (t:=false) H nofun (λ_=>cJ (az (aO (d:=.str "not")) (az (aw (i:=4) rfl) aj)) rfl rfl)) rfl,J,⟨0,O,rfl,by show 2<=_;omega⟩,?_,λz=>z yj⟩
   intro z;have:(w.mks i).contains c=true:=List.contains_iff_mem.mpr z
   rw [v] at this
   cases this
 ·obtain ⟨⟨i,j⟩,rs⟩:=r
  cases e;have R:i<w.n:=R
  have C:j<w.n:=C
  obtain ⟨L,eL,P,u⟩:=Gn E;have eb:eN w ((i,j),Rsn.st (s:Int) (t:Int))=cB w i j s t:=rfl
  have A:L.length<=6:=by
   have e9:=congrArg List.length eL
   rw [length_map,length_map,eb] at e9;rw [<-e9];unfold cB;have a1:=uR ok R
   have a2:=uR ok C
   split<;>(rw [length_map];omega)
  have hm6:m+1<=6:=Nat.le_trans (O.n ok R C) I
  have b:∀x∈L,Pl x/\x.dep<=6*m+2/\nx x<=m:=λx G=>by
   obtain ⟨q,n,g⟩:=P x G;obtain ⟨k,rq,B,e2⟩:=g.h;have:=rq.le (hU q n)
   exact ⟨g.pl,by omega,by omega⟩
  have K:L≠[]:=λz=>by
   have:(cB w i j s t)=[]:=by
    rw [z,eb] at eL;simpa using eL
   unfold cB at this;split at this
   ·exact ok.stp_ne C (by simpa using this)
   ·exact ok.stp_ne R (by simpa using this)
  have hmx:∃x∈L,m<=nx x:=by
   cases m with
   | zero=>exact ⟨_,AX K,Nat.zero_le _⟩
   | succ l=>
    obtain ⟨q,n,nu⟩:=hl l (by omega)
    obtain ⟨x,G,g⟩:=u q n;obtain ⟨k,rq,B,e2⟩:=g.h;refine ⟨x,G,?_⟩
    rw [B];exact Nat.lt_of_not_le λz=>nu (rq.1.up z)
  have Ll:∀x∈L,x.ok/\x.dep<=50:=λx G=>⟨(b x G).1.ok,by have:=(b x G).2.1;omega⟩
  rcases hst with ⟨rfl,ht⟩ | ⟨rfl,ht⟩
  ·have p:oZ L≠[]:=λz=>by
    have:=mem_once.mpr (AX K)
    rw [z] at this;exact nomatch this
   obtain ⟨p1,p2,h,N⟩:=rU (w:=w) (M:=6*m+2) (m:=m) p (Nat.le_trans Iz (by omega)) (λx G=>b x (mem_once.mp G)) (by obtain ⟨x,G,z⟩:=hmx;exact ⟨x,mem_once.mpr G,z⟩)
   obtain ⟨F,Y,da⟩:=rL 7 p (Nat.le_trans Iz (by omega))
   refine ⟨.un .sn (dw 7 (oZ L)),?_,p1,⟨m+1,O,by show nx _+1=_;rw [h],by show Sn.dep _+1<=_;omega⟩,⟨t,ht,(N t).mpr λx G=>?_⟩,?_⟩
   ·unfold Bi
    dsimp only;rw [if_pos (by rfl),eL]
    exact qL (cJ (az (aO (d:=.str "some next")) (az (cv (az (cv (az (aw (i:=5) rfl) aj) (nU Ll (by omega)) rfl rfl) aj) da rfl rfl) aj)) (by simp [tok,Y]) rfl) rfl
   ·obtain ⟨q,n,g⟩:=P x (mem_once.mp G)
    obtain ⟨a,U,rfl⟩:=List.mem_map.mp (show q∈(w.stp j).map λa=>(t,a) from n)
    exact g.y
   ·rintro ⟨a,U,z⟩
    obtain ⟨x,G,g⟩:=u (t,a) (List.mem_map.mpr ⟨a,U,rfl⟩)
    exact g.n ((N a).mp z x (mem_once.mpr G))
  ·have X:∀x∈L.map lg,Pl x/\x.dep<=6*m+3/\nx x<=m:=λx G=>by
    obtain ⟨y,o,rfl⟩:=List.mem_map.mp G;obtain ⟨a1,a2,a3⟩:=b y o;obtain ⟨b1,b2,b3⟩:=vF a1;exact ⟨b1,by omega,by omega⟩
   have okO:∀x∈L.map lg,x.ok/\x.dep<=50:=λx G=>⟨(X x G).1.ok,by have:=(X x G).2.1;omega⟩
   have hneO:L.map lg≠[]:=λz=>K (by simpa using z)
   have p:oZ (L.map lg)≠[]:=λz=>by
    have:=mem_once.mpr (AX hneO)
    rw [z] at this;exact nomatch this
   have lO:(L.map lg).length<=6:=by rw [length_map];exact A
   obtain ⟨p1,p2,h,N⟩:=rU (w:=w) (M:=6*m+3) (m:=m) p (Nat.le_trans Iz (by omega)) (λx G=>X x (mem_once.mp G)) (by
    obtain ⟨x,G,z⟩:=hmx;exact ⟨lg x,mem_once.mpr (List.mem_map.mpr ⟨x,G,rfl⟩),by rw [(vF (b x G).1).2.1];exact z⟩)
   obtain ⟨F,Y,da⟩:=rL 7 p (Nat.le_trans Iz (by omega))
   refine ⟨.un .not (.un .sn (dw 7 (oZ (L.map lg)))),?_,p1,⟨m+1,O,by show nx _+1=_;rw [h],by show Sn.dep _+1+1<=_;omega⟩,?_,λz=>z ⟨t,ht,(N t).mpr λx G=>?_⟩⟩
   ·unfold Bi
    dsimp only;rw [if_neg (by decide),eL]
    have cm:=uA (s:=.leaf) (i:=7) Sn.enc L (λx=>⟨(Jw x).choose,(lg x).enc⟩) (st:=true) (fi:=aU (ae 5)) (fe:=ag 1 bw (ab (ae 7) af)) (Γ:=GO w ((i,j),.st ((1:Nat):Int) (t:Int)) (Nx (bH (.st ((1:Nat):Int) (t:Int)))) none (Nx (.list (L.map Sn.enc)))) (dB (aw (i:=5) rfl) rfl) (by show (7:Nat)<8;decide) rfl (by omega) λx G=>⟨cv (az (aw (i:=7) rfl) aj) (Jw x).choose_spec.2 rfl rfl,by simp [coer,(Jw x).choose_spec.1]⟩
    have cm2:(L.map λx=>(lg x).enc)=(L.map lg).map Sn.enc:=by rw [map_map];rfl
    rw [cm2] at cm;exact qL (cJ (az (aO (d:=.str "not")) (az (cJ (az (aO (d:=.str "some next")) (az (cv (az (cv (az cm aj) (nU okO (by omega)) rfl rfl) aj) da rfl rfl) aj)) (by simp [tok,Y]) rfl) aj)) rfl rfl) rfl
   ·rintro ⟨a,U,z⟩
    obtain ⟨x,G,g⟩:=u (a,t) (List.mem_map.mpr ⟨a,U,rfl⟩)
    exact sat_opp.mp ((N a).mp z (lg x) (mem_once.mpr (List.mem_map.mpr ⟨x,G,rfl⟩))) g.y
   ·obtain ⟨y,o,rfl⟩:=List.mem_map.mp (mem_once.mp G)
    obtain ⟨q,n,g⟩:=P y o;obtain ⟨a,U,rfl⟩:=List.mem_map.mp (show q∈(w.stp i).map λa=>(a,t) from n)
    exact sat_opp.mpr g.n
theorem uP (ok:w.Ok) (I:w.n<=6):∀{L:List Row} {K:List (Nat×Nat)} {T:Nat×Nat->D},df w K L=true->(∀r∈L,r∈bM w/\r.1.1<w.n/\r.1.2<w.n)->(∀q∈K,∃S,T q=S.enc/\Good w q S) ->
  ∃g,sts w L T=some g/\∀q,(q∈K\/q∈L.map (·.1))->∃S,g q=S.enc/\Good w q S
 | [],K,T,_,_,hT=>⟨T,rfl,λq n=>by
   rcases n with n | n
   ·exact hT q n
   ·exact nomatch n⟩
 | r::L,K,T,hh,hr,hT=>by
  unfold df at hh;rw [Bool.and_eq_true] at hh;obtain ⟨F,h,a⟩:=hr r mem_cons_self;obtain ⟨S,e,g⟩:=Fu ok I F h a (T:=T) λq n=>hT q (wW hh.1 q n)
  obtain ⟨f,d,m⟩:=uP ok I (K:=K++[r.1]) (T:=λp=>if p=r.1 then S.enc else T p) hh.2 (λx G=>hr x (Nn _ G)) (λq n=>by
   show ∃b:Sn,(if q=r.1 then S.enc else T q)=b.enc/\_
   by_cases c:q=r.1
   ·rw [if_pos c,c]
    exact ⟨S,rfl,g⟩
   ·rw [if_neg c]
    rcases Nj n with z | z
    ·exact hT q z
    ·exact absurd (List.mem_singleton.mp z) c)
  refine ⟨f,?_,λq n=>m q ?_⟩
  ·unfold sts
   rw [e];exact d
  ·rcases n with n | n
   ·exact .inl (Ni _ n)
   ·rcases Nk n with rfl | n
    ·exact .inl (Nh _ (List.mem_singleton.mpr rfl))
    ·exact .inr n
theorem HK (ok:w.Ok) (I:w.n<=6) (l:i<w.n) (A:j<w.n):((∀k,¬Un w k i j)/\w4 w i j=some .none)\/∃S,w4 w i j=some S.enc/\Good w (i,j) S:=by
 unfold w4;by_cases h:(i,j)∈(bM w).map (·.1)
 ·rw [if_pos h]
  obtain ⟨hold,X,_,d,r,e,er⟩:=uW ok h;have C:∀r∈qx w i j,r∈bM w/\r.1.1<w.n/\r.1.2<w.n:=λr M=>⟨(List.mem_filter.mp M).1,X r M⟩
  obtain ⟨g,a,E⟩:=uP ok I (T:=λ_=>.none) hold C (λ_ z=>nomatch z)
  obtain ⟨S,p,G⟩:=E (i,j) (.inr (by rw [e,map_append,<-er];exact Nh _ (List.mem_singleton.mpr rfl)))
  exact .inr ⟨S,by rw [a];show some (g (i,j))=_;rw [p],G⟩
 ·rw [if_neg h]
  refine .inl ⟨λk u=>h ?_,rfl⟩
  obtain ⟨m,b,_,u,_⟩:=Dw ok l A u;rw [rd];exact (Es ok 999 l A).mpr (u.up (by omega))
end
end KC.Ap.S
namespace KC.Ap.S
open PySem PySem.Spec L2 T
open PyProof.Rows hiding St
open KC
noncomputable def keyTx:List Str:=["0", "1", "2", "3", "4", "5", "['a', 'b', 'c', 'd', 'e', 'f']", "['a', 'b', 'c', 'd', 'e']", "['a', 'b', 'c', 'd', 'f']", "['a', 'b', 'c', 'd']", "['a', 'b', 'c', 'e', 'f']", "['a', 'b', 'c', 'e']", "['a', 'b', 'c', 'f']", "['a', 'b', 'c']", "['a', 'b', 'd', 'e', 'f']", "['a', 'b', 'd', 'e']", "['a', 'b', 'd', 'f']", "['a', 'b', 'd']", "['a', 'b', 'e', 'f']", "['a', 'b', 'e']", "['a', 'b', 'f']", "['a', 'b']", "['a', 'c', 'd', 'e', 'f']", "['a', 'c', 'd', 'e']", "['a', 'c', 'd', 'f']", "['a', 'c', 'd']", "['a', 'c', 'e', 'f']", "['a', 'c', 'e']", "['a', 'c', 'f']", "['a', 'c']", "['a', 'd', 'e', 'f']", "['a', 'd', 'e']", "['a', 'd', 'f']", "['a', 'd']", "['a', 'e', 'f']", "['a', 'e']", "['a', 'f']", "['a']", "['b', 'c', 'd', 'e', 'f']", "['b', 'c', 'd', 'e']", "['b', 'c', 'd', 'f']", "['b', 'c', 'd']", "['b', 'c', 'e', 'f']", "['b', 'c', 'e']", "['b', 'c', 'f']", "['b', 'c']", "['b', 'd', 'e', 'f']", "['b', 'd', 'e']", "['b', 'd', 'f']", "['b', 'd']", "['b', 'e', 'f']", "['b', 'e']", "['b', 'f']", "['b']", "['c', 'd', 'e', 'f']", "['c', 'd', 'e']", "['c', 'd', 'f']", "['c', 'd']", "['c', 'e', 'f']", "['c', 'e']", "['c', 'f']", "['c']", "['d', 'e', 'f']", "['d', 'e']", "['d', 'f']", "['d']", "['e', 'f']", "['e']", "['f']", "[]"].map Str.ofString
noncomputable def m__law_judge:List Nw->bA:=bo 60
noncomputable def jP:FS:=(ak (ax false 3 (bO (ah (ae 0) (eK (.int 1)))))
  (ak (dn 4 (d6 (ab (ar aI (bb aQ (ab (ah (ae 0) (eK (.int 0))) af)) (eK (.int 1))) af))
  (ak (b8 (aM ai (ar gy (ah (ae 3) (ae 1)) (ah (ae 3) (ae 2)))) (aE (ae 4)) aJ)
  (ak (ax true 5 (aW .leaf af))
  (ak (dn 6 (d6 (ab (bb aQ (ab (ah (ae 0) (eK (.int 0))) af)) af))
  (ak (ax false 7 (aq .leaf 9 (aU (ah (ah (ae 0) (eK (.int 2))) (ae 6))) aK (bb dh (ab (ah (ae 3) (ae 9)) af))))
  (aF 5 (bz (ab (bb dh (ab (ah (ae 3) (ae 6)) af)) (ab (eH keyTx (ab (ae 7) af)) af))))))
  (mP 5 (ax false 3 (aq .leaf 8 (aU (ae 5)) aK (pF 5 8))))))))
  (aE (eK .none))))
noncomputable def bG:List Nw->bA:=aB 10 jP
noncomputable def lT (a:List Nw->bA):FS:=(ak (b8 (aM ai (ar (bx false) (ah (ae 0) (eK (.int 0))) (bz (ab (eK (.str "yes")) (ab (eK (.str "mark")) af))))) (aE (eK (.int 0))) aJ)
  (ak (ax false 1 (bb iZ (ab (aq .leaf 2 (gY (pE (ae 0) (eK (.int 1)))) aK (ag 1 a (ab (ae 2) af))) af)))
  (aE (ar aI (ae 1) (bb gF (ab (ar bp (ah (ae 0) (eK (.int 0))) (eK (.str "some next"))) af))))))
noncomputable def cj:Nat->List Nw->bA
 | 0=>λ_=>.no
 | n+1=>aB 3 (lT (cj n))
noncomputable def gc:List Nw->bA:=cj 60
noncomputable def lR (a:List Nw->bA):FS:=(ak (b8 (aM ai (ar bp (ah (ae 0) (eK (.int 0))) (eK (.str "yes")))) (aE (ar bp (bb aQ (ab (ae 0) af)) (eK (.int 1)))) aJ)
  (ak (b8 (aM ai (ar bp (ah (ae 0) (eK (.int 0))) (eK (.str "mark")))) (aE (e7 (ar bp (bb aQ (ab (ae 0) af)) (eK (.int 2))) (ar (bx false) (ah (ae 0) (eK (.int 1))) (aW .leaf (ab (eK (.str "a")) (ab (eK (.str "b")) (ab (eK (.str "c")) (ab (eK (.str "d")) (ab (eK (.str "e")) (ab (eK (.str "f")) af)))))))))) aJ)
  (ak (b8 (gp (aM ai (ar (bx true) (ah (ae 0) (eK (.int 0))) (bz (ab (eK (.str "not")) (ab (eK (.str "and")) (ab (eK (.str "some next")) af)))))) (aM ai (ar gy (bb aQ (ab (ae 0) af)) (ar aI (eK (.int 2)) (bb gF (ab (ar bp (ah (ae 0) (eK (.int 0))) (eK (.str "and"))) af)))))) (aE (eK (.bool false))) aJ)
  (aE (bb (eG false) (ab (aq .leaf 1 (gY (pE (ae 0) (eK (.int 1)))) aK (e7 (i5 "tuple" (ae 1)) (ag 1 a (ab (ae 1) af)))) af))))))
noncomputable def cg:Nat->List Nw->bA
 | 0=>λ_=>.no
 | n+1=>aB 2 (lR (cg n))
noncomputable def fY:List Nw->bA:=cg 60
noncomputable def d_law:FS:=(ak (ax false 1 (ag 3 bI (ab (ae 0) (ab (eK (.int 1)) (ab (eK (.int 6)) af)))))
  (ak (ax false 2 (ar cG (ag 2 aC (ab (ae 0) (ab (eK (.int 0)) af))) (bb aQ (ab (ah (ae 1) (eK (.int 0))) af))))
  (ak (ax false 3 (ar cG (ar h9 (ag 2 aC (ab (ae 0) (ab (eK (.int 0)) af))) (eK (.int 6))) (bb aQ (ab (ah (ae 1) (eK (.int 0))) af))))
  (ak (ax false 4 (ag 1 cZ (ab (ae 1) af)))
  (ak (ax false 5 (ag 3 cM (ab (ae 4) (ab (ae 2) (ab (ae 3) af)))))
  (ak (ax false 6 (ag 3 bG (ab (ae 1) (ab (ae 2) (ab (ae 3) af)))))
  (ak (b8 (gp (aM ai (ar (fA false) (ae 5) (eK .none))) (aM ai (ar (fA false) (ae 6) (eK .none)))) (aE (e7 (ar (fA false) (ae 5) (eK .none)) (e7 (ar (fA false) (ae 6) (eK .none)) (ar bp (ae 4) (ae 1))))) aJ)
  (ak (b8 (gp (eO (aM cF (i5 "tuple" (ae 5)))) (gp (eO (aM cF (ag 1 fY (ab (ae 5) af)))) (gp (aM ai (ar gy (ag 1 gc (ab (ae 5) af)) (ae 6))) (aM ai (ar gy (ae 4) (ae 1)))))) (aE (eK (.bool false))) aJ)
  (ak (ax false 7 (ag 2 m__law_judge (ab (ae 1) (ab (ae 5) af))))
  (aE (e7 (ar (bx false) (ae 2) (ae 7)) (ar (bx true) (ae 3) (ae 7)))))))))))))
noncomputable def m_law:List Nw->bA:=aB 8 d_law
open PySem.SeqAt
open KC.Ap
noncomputable def g6:List Str->List (List Str)
 | []=>[[]]
 | a::l=>(g6 l).map (a :: ·)++g6 l
theorem g0 {P:Str->Bool}:∀(l:List Str),l.filter P∈g6 l
 | []=>by simp [g6]
 | a::l=>by
  have f:=g0 (P:=P) l
  unfold g6
  cases h:P a with
  | true=>rw [List.filter_cons_of_pos h];exact Ni _ (List.mem_map.mpr ⟨_,f,rfl⟩)
  | false=>rw [filter_cons_of_neg (by rw [h];decide)];exact Nh _ f
noncomputable def Jh (o:Option D) (x:Str):Bool:=match o with
 | some (.str y)=>y==x
 | _=>false
theorem wg {o:Option D} {x:Str} (h:Jh o x=true):o=some (.str x):=by
 unfold Jh at h;split at h
 ·rw [eq_of_beq h]
 ·cases h
theorem t1:T.risL keyTx=true:=by decide +kernel
theorem t2:((g6 letters).all λl=>Jh (dh [cP l]) (cP l).shown&&keyTx.contains (cP l).shown&&shaped (cP l))=true:=by decide +kernel
theorem t3:((g6 letters).all λl=>(g6 letters).all λk=>(l==k)||!((cP l).shown==(cP k).shown))=true:=by decide +kernel
noncomputable def dg (k:Nat):Str:=toString (k:Int)
theorem t4:((List.range 6).all λk=>Jh (dh [.int (k:Int)]) (dg k)&&keyTx.contains (dg k))=true:=by decide +kernel
theorem t5:((List.range 6).all λl=>(List.range 6).all λk=>(l==k)||!(dg l==dg k))=true:=by decide +kernel
theorem t6:(keyTx.all PyData.strOk)=true:=by decide +kernel
section
variable {w:Wd} {i j k:Nat}
theorem D6 (ok:w.Ok) (l:i<w.n):w.mks i∈g6 letters:=by
 obtain ⟨P,e⟩:=iO ok l;rw [e];exact g0 _
theorem qR {l:List Str} (h:l∈g6 letters):dh [cP l]=some (.str (cP l).shown)/\(cP l).shown∈keyTx/\shaped (cP l)=true:=by
 have:=List.all_eq_true.mp t2 l h
 simp only [Bool.and_eq_true,contains_iff_mem] at this
 exact ⟨wg this.1.1,this.1.2,this.2⟩
theorem GK {l m:List Str} (h:l∈g6 letters) (U:m∈g6 letters) (e:(cP l).shown=(cP m).shown):l=m:=by
 have:=List.all_eq_true.mp (List.all_eq_true.mp t3 l h) m U
 rw [e] at this;simpa using this
theorem AB (h:k<6):dh [.int (k:Int)]=some (.str (dg k))/\dg k∈keyTx:=by
 have:=List.all_eq_true.mp t4 k (List.mem_range.mpr h)
 simp only [Bool.and_eq_true,contains_iff_mem] at this
 exact ⟨wg this.1,this.2⟩
theorem AA {l:Nat} (h:k<6) (U:l<6) (e:dg k=dg l):k=l:=by
 have:=List.all_eq_true.mp (List.all_eq_true.mp t5 k (List.mem_range.mpr h)) l (List.mem_range.mpr U)
 rw [e] at this;simpa using this
theorem rF {Y G:List D}:PyData.eqv (.list Y) (.list G)=PyData.eqvAll Y G:=by rw [PyData.eqv]
theorem Kc:∀{a b:List Str},PyData.eqvAll (a.map .str) (b.map .str)=decide (a=b)
 | [],[]=>by rw [map_nil,DT];simp
 | [],y::b=>by rw [map_nil,map_cons,EA];simp
 | x::a,[]=>by rw [map_nil,map_cons,HY];simp
 | x::a,y::b=>by
  rw [map_cons,map_cons,AQ,JD,Kc,Bool.eq_iff_iff];simp
theorem Cr {a b:List Str} (U:shaped (cP a)=true) (Z:shaped (cP b)=true):gy (cP a) (cP b)=some (.bool (decide (a≠b))):=by
 unfold gy;rw [U,Z];simp only [Bool.and_self,if_true]
 show some (PyData.bool (!PyData.eqv (.list (a.map .str)) (.list (b.map .str))))=_
 rw [rF,Kc];simp
noncomputable abbrev LK:=Str×List Str
noncomputable def en (p:LK):D:=.tuple [.str p.1,.list (p.2.map .str)]
theorem Dc {p q:LK}:PyData.eqv (en p) (en q)=decide (p=q):=by
 unfold en;rw [EC,AQ,AQ,DT,JD,rF,Kc,Bool.eq_iff_iff];obtain ⟨a,b⟩:=p;obtain ⟨c,d⟩:=q;simp
noncomputable def HR (p:LK):Prop:=PyData.strOk p.1=true/\∀c∈p.2,PyData.strOk c=true
theorem rO:∀{l:List Str},(∀c∈l,PyData.strOk c=true)->PyData.canLayAll0 (l.map .str)=true/\PyData.depthAll (l.map .str)<=0
 | [],_=>⟨by simp [PyData.canLayAll0],by simp [PyData.depthAll]⟩
 | c::l,h=>by
  obtain ⟨R,C⟩:=rO (l:=l) λx G=>h x (Nn _ G)
  rw [map_cons,PyData.canLayAll0,PyData.depthAll,PyData.canLay0,PyData.depth,h c mem_cons_self,R];exact ⟨rfl,Nat.max_le.mpr ⟨Nv _,C⟩⟩
theorem wR {p:LK} (h:HR p):PyData.canLay0 (en p)=true/\PyData.depth (en p)<=2:=by
 obtain ⟨R,C⟩:=rO h.2;unfold en;refine ⟨by simp [PyData.canLay0,PyData.canLayAll0,h.1,R],?_⟩
 simp only [PyData.depth,PyData.depthAll]
 omega
theorem rQ:∀{L:List LK},(∀p∈L,HR p)->PyData.canLayAll0 (L.map en)=true/\PyData.depthAll (L.map en)<=2
 | [],_=>⟨by simp [PyData.canLayAll0],by simp [PyData.depthAll]⟩
 | c::l,h=>by
  obtain ⟨R,C⟩:=rQ (L:=l) λx G=>h x (Nn _ G)
  obtain ⟨F,g⟩:=wR (h c mem_cons_self);rw [map_cons,PyData.canLayAll0,PyData.depthAll,F,R];exact ⟨rfl,Nat.max_le.mpr ⟨g,C⟩⟩
theorem Fy {p:LK} (h:HR p):shaped (en p)=true:=by
 obtain ⟨R,C⟩:=wR h;unfold shaped;rw [R];simp
 omega
theorem Bo {L:List LK} (h:∀p∈L,HR p):shaped (.list (L.map en))=true:=by
 obtain ⟨R,C⟩:=rQ h;unfold shaped;rw [PyData.canLay0,PyData.depth,R];simp
 omega
noncomputable def d7 (p:LK):List LK->Nat
 | []=>0
 | q::L=>if q=p then 0 else d7 p L+1
theorem EB {p:LK}:∀{L:List LK},p∈L->xo (en p) (L.map en)=some (d7 p L)/\L[d7 p L]?=some p
 | q::L,h=>by
  rw [map_cons];unfold xo d7;rw [Dc];by_cases e:q=p
  ·rw [decide_eq_true e,if_pos rfl,if_pos e,e]
   exact ⟨rfl,rfl⟩
  ·rw [decide_eq_false e,if_neg (by decide),if_neg e]
   obtain ⟨R,C⟩:=EB (p:=p) (L:=L) ((Nk h).resolve_left λz=>e z.symm)
   rw [R];exact ⟨rfl,by simpa using C⟩
theorem ze {p q:LK} {L:List LK} (g:p∈L) (n:q∈L) (h:d7 p L=d7 q L):p=q:=by
 have R:=(EB g).2
 rw [h,(EB n).2] at R;exact (Option.some.inj R).symm
theorem wz {p:LK} {L:List LK} (g:p∈L):d7 p L<L.length:=(Nq (EB g).2).1
noncomputable def jF (w:Wd) (f:Nat->Str) (i:Nat):LK:=(f i,dD keyTx ((w.stp i).map f))
noncomputable abbrev hJ (w:Wd) (f:Nat->Str):List LK:=(List.range w.n).map (jF w f)
theorem sel_mem {U:List Str} {c:Str}:c∈dD keyTx U↔c∈keyTx/\c∈U:=by
 unfold dD;rw [mem_filter,contains_iff_mem]
theorem Bq {a b:List Str} (U:∀c∈a,c∈keyTx) (Z:∀c∈b,c∈keyTx):dD keyTx a=dD keyTx b↔(∀c∈a,c∈b)/\∀c∈b,c∈a:=by
 constructor
 ·intro h
  refine ⟨λc J=>?_,λc J=>?_⟩
  ·have:c∈dD keyTx a:=sel_mem.mpr ⟨U c J,J⟩
   rw [h] at this;exact (sel_mem.mp this).2
  ·have:c∈dD keyTx b:=sel_mem.mpr ⟨Z c J,J⟩
   rw [<-h] at this;exact (sel_mem.mp this).2
 ·rintro ⟨R,C⟩
  unfold dD;refine filter_congr λc _=>?_
  rw [Bool.eq_iff_iff,contains_iff_mem,contains_iff_mem];exact ⟨R c,C c⟩
structure TK (w:Wd) (k:Nat) (tx:Nat->Str):Prop where
 kin:∀i,i<w.n->tx i∈keyTx
 un:∀i j,i<w.n->j<w.n->(tx i≠tx j↔Un w k i j)
theorem TK.step (ok:w.Ok) (I:w.n<=6) {f:Nat->Str} (h:TK w k f):TK w (k+1) λi=>dg (d7 (jF w f i) (hJ w f)):=by
 have pw:∀{i},i<w.n->jF w f i∈hJ w f:=λ{i} l=>List.mem_map.mpr ⟨i,List.mem_range.mpr l,rfl⟩
 have lt:∀{i},i<w.n->d7 (jF w f i) (hJ w f)<6:=λ{i} l=>by
  have:=wz (pw l)
  rw [length_map,length_range] at this;omega
 have o:∀{a b},a<w.n->b<w.n->(f a=f b↔¬Un w k a b):=λ{a b} U hb=>by
  rw [<-h.un a b U hb];exact ⟨λe z=>z e,λz=>Classical.byContradiction z⟩
 have d:∀{r},r<w.n->∀c∈(w.stp r).map f,c∈keyTx:=λ{r} hr c J=>by
  obtain ⟨t,L,rfl⟩:=List.mem_map.mp J;exact h.kin t (ok.stp_lt L)
 refine ⟨λi l=>(AB (lt l)).2,λi j l A=>?_⟩
 have B:(dg (d7 (jF w f i) (hJ w f))=dg (d7 (jF w f j) (hJ w f)))↔jF w f i=jF w f j:=
  ⟨λe=>ze (pw l) (pw A) (AA (lt l) (lt A) e),λe=>by rw [e]⟩
 have m:jF w f i=jF w f j↔f i=f j/\dD keyTx ((w.stp i).map f)=dD keyTx ((w.stp j).map f):=by
  unfold jF;rw [Prod.mk.injEq]
 show ¬(dg _=dg _)↔_
 rw [B,m,Bq (d l) (d A),o l A];constructor
 ·intro z
  refine Classical.byContradiction λy=>z ⟨λu=>y (.inl u),λc J=>?_,λc J=>?_⟩
  ·obtain ⟨t,L,rfl⟩:=List.mem_map.mp J
   refine Classical.byContradiction λx=>y (.inr (.inl ⟨t,L,λa U=>Classical.byContradiction λv=>x ?_⟩))
   exact List.mem_map.mpr ⟨a,U,((o (ok.stp_lt L) (ok.stp_lt U)).mpr v).symm⟩
  ·obtain ⟨t,L,rfl⟩:=List.mem_map.mp J
   refine Classical.byContradiction λx=>y (.inr (.inr ⟨t,L,λa U=>Classical.byContradiction λv=>x ?_⟩))
   exact List.mem_map.mpr ⟨a,U,(o (ok.stp_lt U) (ok.stp_lt L)).mpr v⟩
 ·rintro u ⟨n0,n1,n2⟩
  rcases u with u | ⟨t,L,u⟩ | ⟨t,L,u⟩
  ·exact n0 u
  ·obtain ⟨a,U,e⟩:=List.mem_map.mp (n1 (f t) (List.mem_map.mpr ⟨t,L,rfl⟩))
   exact (o (ok.stp_lt L) (ok.stp_lt U)).mp e.symm (u a U)
  ·obtain ⟨a,U,e⟩:=List.mem_map.mp (n2 (f t) (List.mem_map.mpr ⟨t,L,rfl⟩))
   exact (o (ok.stp_lt U) (ok.stp_lt L)).mp e (u a U)
end
structure KO (w:Wd) (k:Nat) (ks:List D) (tx:Nat->Str):Prop extends TK w k tx where
 len:ks.length=w.n
 st:∀i,i<w.n->∃d,ks[i]?=some d/\dh [d]=some (.str (tx i))
 ne:∀i j d e,i<w.n->j<w.n->ks[i]?=some d->ks[j]?=some e->gy d e=some (.bool (decide (tx i≠tx j)))
section
variable {w:Wd} {i j k:Nat}
theorem yP (ok:w.Ok):KO w 0 (w.m.map cP) λi=>(cP (w.mks i)).shown:=by
 have at1:∀i,i<w.n->(w.m.map cP)[i]?=some (cP (w.mks i)):=λi l=>by
  unfold Wd.mks;rw [getElem?_map,Nm,Nl (by rw [ok.lm];exact l)]
  rfl
 have inj:∀i j,i<w.n->j<w.n->((cP (w.mks i)).shown≠(cP (w.mks j)).shown↔w.mks i≠w.mks j):=λi j l A=>
  ⟨λh e=>h (by rw [e]),λh e=>h (GK (D6 ok l) (D6 ok A) e)⟩
 refine ⟨⟨λi l=>(qR (D6 ok l)).2.1,λi j l A=>inj i j l A⟩,by rw [length_map,ok.lm],λi l=>⟨_,at1 i l,(qR (D6 ok l)).1⟩,λi j d e l A R C=>?_⟩
 rw [at1 i l] at R;rw [at1 j A] at C
 cases R
 cases C;rw [Cr (qR (D6 ok l)).2.2 (qR (D6 ok A)).2.2];congr 2
 rw [Bool.eq_iff_iff,decide_eq_true_eq,decide_eq_true_eq];exact (inj i j l A).symm
theorem yQ (ok:w.Ok) (I:w.n<=6) {U:List D} {f:Nat->Str} (h:KO w k U f):KO w (k+1) ((hJ w f).map λp=>.int (d7 p (hJ w f):Nat)) λi=>dg (d7 (jF w f i) (hJ w f)):=by
 have pw:∀{i},i<w.n->jF w f i∈hJ w f:=λ{i} l=>List.mem_map.mpr ⟨i,List.mem_range.mpr l,rfl⟩
 have lt:∀{i},i<w.n->d7 (jF w f i) (hJ w f)<6:=λ{i} l=>by
  have:=wz (pw l)
  rw [length_map,length_range] at this;omega
 have at1:∀i,i<w.n->((hJ w f).map λp=>PyData.int (d7 p (hJ w f):Nat))[i]?=some (.int (d7 (jF w f i) (hJ w f):Nat)):=λi l=>by
  rw [getElem?_map,getElem?_map,List.getElem?_range l];rfl
 refine ⟨h.toTK.step ok I,by rw [length_map,length_map,length_range],λi l=>⟨_,at1 i l,(AB (lt l)).1⟩,λi j d e l A R C=>?_⟩
 rw [at1 i l] at R;rw [at1 j A] at C
 cases R
 cases C;rw [KC.ne_int];congr 2
 rw [Bool.eq_iff_iff,decide_eq_true_eq,Bool.not_eq_true',beq_eq_false_iff_ne];exact ⟨λz e=>z (by rw [AA (lt l) (lt A) e]),λz e=>z (by rw [Int.ofNat_inj.mp e])⟩
noncomputable abbrev GQ (w:Wd) (i j:Nat) (U:List D) (o C b y:Option PV):Ev:=[Nx w.enc,Nx (rm i),Nx (rm j),Nx (.list U),o,C,b,y,none,none]
noncomputable abbrev GN:FL:=ab (bb aQ (ab (ah (ae 0) (eK (.int 0))) af)) af
noncomputable abbrev Jl:FS:=ak (ax false 7 (aq .leaf 9 (aU (ah (ah (ae 0) (eK (.int 2))) (ae 6))) aK (bb dh (ab (ah (ae 3) (ae 9)) af))))
  (aF 5 (bz (ab (bb dh (ab (ah (ae 3) (ae 6)) af)) (ab (eH keyTx (ab (ae 7) af)) af))))
noncomputable abbrev HJ:FS:=mP 5 (ax false 3 (aq .leaf 8 (aU (ae 5)) aK (pF 5 8)))
noncomputable abbrev zC:FS:=ak (b8 (aM ai (ar gy (ah (ae 3) (ae 1)) (ah (ae 3) (ae 2)))) (aE (ae 4)) aJ)
  (ak (ax true 5 (aW .leaf af)) (ak (dn 6 (d6 GN) Jl) HJ))
theorem vT (ok:w.Ok) {U:List D} {o C b y:Option PV}:bb aQ (ab (ah (ae 0) (eK (.int 0))) af) (GQ w i j U o C b y)=.ok ⟨.leaf,.int (w.n:Int)⟩ (GQ w i j U o C b y):=
 b4 (az (eX (j:=0) (ds:=[.list w.os,.list (w.m.map cP),.list (w.s.map aT)]) (aw (i:=0) rfl) (aO (d:=.int 0)) rfl rfl rfl) aj) (by show some _=_;rw [ok.g.lo])
theorem JH {U:List D} {f:Nat->Str} (h:KO w k U f) {Γ:Ev} {v r:Nat} (n:Γ[3]?=some (Nx (.list U))) (P:Γ[v]?=some (Nx (rm r))) (M:r<w.n) {d:D} (F:U[r]?=some d):ah (ae 3) (ae v) Γ=.ok ⟨.leaf,d⟩ Γ:=
 xy (j:=r) (aw (i:=3) n) (aw (i:=v) P) (JF (by rw [h.len];exact M)) F rfl
theorem uQ {U:List D} {f:Nat->Str} (h:KO w k U f) {B:Ev} {v r:Nat} (n:B[3]?=some (Nx (.list U))) (P:B[v]?=some (Nx (rm r))) (M:r<w.n):bb dh (ab (ah (ae 3) (ae v)) af) B=.ok ⟨.leaf,.str (f r)⟩ B:=by
 obtain ⟨d,F,Y⟩:=h.st r M;exact b4 (az (JH h n P M F) aj) Y
theorem xH {B X:Ev} {q:FL} {L ns:List Str} {s:Sh} (h:q B=.ok [⟨s,.list (ns.map .str)⟩] X) (K:lj L ns=true):eH L q B=.ok ⟨.lst .leaf,.list ((dD L ns).map .str)⟩ X:=by
 unfold eH;rw [h];show (match gP (ns.map .str) with | some ns=>if lj L ns then Out.ok (⟨.lst .leaf,.list ((dD L ns).map .str)⟩:PV) X else .no | none=>.no)=_
 rw [j6];dsimp only;rw [if_pos K]
theorem yY (ok:w.Ok) (I:w.n<=6) {U:List D} {f:Nat->Str} (h:KO w k U f) {L:List LK} {o x7:Option PV} {r:Nat} (M:r<w.n) (P:L.length<=100) :
  Jl (GQ w i j U o (some ⟨.lst .leaf,.list (L.map en)⟩) (Nx (rm r)) x7)=.nx (GQ w i j U o (some ⟨.lst .leaf,.list ((L++[jF w f r]).map en)⟩) (Nx (rm r)) (Nx (.list (((w.stp r).map f).map .str)))):=by
 have g:=uR ok M
 have cm:=uA (s:=.leaf) (i:=9) rm (w.stp r) (λt=>⟨.leaf,.str (f t)⟩) (st:=true) (fi:=aU (ah (ah (ae 0) (eK (.int 2))) (ae 6))) (fe:=bb dh (ab (ah (ae 3) (ae 9)) af)) (Γ:=GQ w i j U o (some ⟨.lst .leaf,.list (L.map en)⟩) (Nx (rm r)) x7) (dB (s:=.leaf) (Iq ok (i:=0) (fb:=ae 6) (s:=.leaf) (r:=r) rfl (aw rfl) M) rfl) (by show (9:Nat)<10;decide) rfl (by omega) λt e=>⟨uQ h (v:=9) rfl rfl (ok.stp_lt e),rfl⟩
 have a:((w.stp r).map λt=>PyData.str (f t))=((w.stp r).map f).map .str:=by rw [map_map];rfl
 rw [a] at cm;refine ay (Γ1:=GQ w i j U o (some ⟨.lst .leaf,.list (L.map en)⟩) (Nx (rm r)) (Nx (.list (((w.stp r).map f).map .str)))) (dJ cm rfl (by show (7:Nat)<10;decide)) ?_
 have b:lj keyTx ((w.stp r).map f)=true:=by
  unfold lj;have F:keyTx.length<4000:=by decide +kernel
  simp only [Bool.and_eq_true,decide_eq_true_eq,all_eq_true,contains_iff_mem,length_map]
  refine ⟨⟨⟨by omega,λc J=>?_⟩,F⟩,t1⟩
  obtain ⟨t,e,rfl⟩:=List.mem_map.mp J;exact h.kin t (ok.stp_lt e)
 have d:=cJ (Γ:=GQ w i j U o (some ⟨.lst .leaf,.list (L.map en)⟩) (Nx (rm r)) (Nx (.list (((w.stp r).map f).map .str)))) (az (uQ h (v:=6) rfl rfl M) (az (xH (L:=keyTx) (ns:=(w.stp r).map f) (s:=.leaf) (az (aw (i:=7) rfl) aj) b) aj)) rfl rfl
 have m:=ER (i:=5) (s:=.leaf) (ds:=L.map en) rfl d rfl (by rw [length_map];omega)
 rw [m];rw [map_append];rfl
theorem CS (ok:w.Ok) (d:w.n<=6) {c:List D} {f:Nat->Str} (h:KO w k c f) {x4 x6 x7:Option PV} :
  ∃b o,dn 6 (d6 GN) Jl (GQ w i j c x4 (some ⟨.lst .leaf,.list []⟩) x6 x7)=.nx (GQ w i j c x4 (some ⟨.lst .leaf,.list ((hJ w f).map en)⟩) b o):=by
 obtain ⟨I,e,b,o,L,rfl,P⟩:=ID rm (i:=6) (body:=Jl) (Inv:=λrest B=>∃b o,∃L:List Nat,B=GQ w i j c x4 (some ⟨.lst .leaf,.list ((L.map (jF w f)).map en)⟩) b o/\L++rest=List.range w.n) (λa r B hI=>by
  obtain ⟨b,o,L,rfl,P⟩:=hI;have U:a<w.n:=List.mem_range.mp (by rw [<-P];exact Nh _ mem_cons_self)
  have N:L.length<=100:=by
   have:=congrArg List.length P
   rw [length_append,length_range] at this;omega
  refine ⟨by show (6:Nat)<10;decide,_,yY ok d h (L:=L.map (jF w f)) (x7:=o) U (by rw [length_map];exact N),_,_,L++[a],by rw [show (L++[a]).map (jF w f)=L.map (jF w f)++[jF w f a] by rw [map_append];rfl],by rw [append_assoc];exact P⟩) (List.range w.n) (GQ w i j c x4 (some ⟨.lst .leaf,.list []⟩) x6 x7) ⟨x6,x7,[],rfl,rfl⟩
 rw [append_nil] at P;subst P;exact ⟨b,o,gN (rW (s:=.leaf) (n:=w.n) (by omega) (az (vT ok) aj)) e⟩
theorem GM {f:Nat->Str} (h:TK w k f):∀p∈hJ w f,HR p:=λp g=>by
 obtain ⟨r,M,rfl⟩:=List.mem_map.mp g;have tok:=List.all_eq_true.mp t6
 exact ⟨tok _ (h.kin r (List.mem_range.mp M)),λc J=>tok c (sel_mem.mp J).1⟩
theorem De (ok:w.Ok) (I:w.n<=6) {U:List D} {f:Nat->Str} (h:KO w k U f) {o b a:Option PV} :
  HJ (GQ w i j U o (some ⟨.lst .leaf,.list ((hJ w f).map en)⟩) b a)=.nx (GQ w i j ((hJ w f).map λp=>.int (d7 p (hJ w f):Nat)) o (Nx (.list ((hJ w f).map en))) b a):=by
 refine EX (i:=5) rfl ?_
 have y:(hJ w f).length<=10000:=by rw [length_map,length_range];omega
 refine dJ (uA (s:=.leaf) (i:=8) en (hJ w f) (λp=>⟨.leaf,.int (d7 p (hJ w f):Nat)⟩) (st:=true) (dB (s:=.leaf) (aw (i:=5) rfl) rfl) (by show (8:Nat)<10;decide) rfl y λp g=>⟨?_,rfl⟩) rfl (by show (3:Nat)<10;decide)
 have r:=GM h.toTK
 show (if shaped (en p)&&shaped (.list ((hJ w f).map en))&&decide ((en p).depth<=50) then (match xo (en p) ((hJ w f).map en) with | some m=>Out.ok (⟨.leaf,.int (m:Nat)⟩:PV) _ | none=>.no) else .no)=_
 have:=(wR (r p g)).2
 rw [Fy (r p g),Bo r,decide_eq_true (show (en p).depth<=50 by omega),(EB g).1]
 rfl
theorem xI (ok:w.Ok) (I:w.n<=6) (l:i<w.n) (A:j<w.n) {U:List D} {f:Nat->Str} (h:KO w k U f) {x5 x6 x7:Option PV} :
  (Un w k i j->zC (GQ w i j U (Nx (rm k)) x5 x6 x7)=.rt ⟨.leaf,rm k⟩) /\
  (¬Un w k i j->∃a n p b o,KO w (k+1) a n/\zC (GQ w i j U (Nx (rm k)) x5 x6 x7)=.nx (GQ w i j a (Nx (rm k)) p b o)):=by
 obtain ⟨d,F,_⟩:=h.st i l;obtain ⟨e,R,_⟩:=h.st j A;have H:=cH (s:=.leaf) (aA (g:=gy) (JH h (Γ:=GQ w i j U (Nx (rm k)) x5 x6 x7) (v:=1) rfl rfl l F) (JH h (v:=2) rfl rfl A R) (h.ne i j d e l A F R))
 refine ⟨λu=>?_,λu=>?_⟩
 ·rw [decide_eq_true ((h.un i j l A).mpr u)] at H
  exact ur (bJ (t:=true) H (λ_=>aX (aw (i:=4) rfl) rfl) nofun)
 ·rw [decide_eq_false (λz=>u ((h.un i j l A).mp z))] at H
  obtain ⟨b,o,B⟩:=CS (i:=i) (j:=j) ok I h (x4:=some ⟨.leaf,rm k⟩) (x6:=x6) (x7:=x7)
  refine ⟨_,_,Nx (.list ((hJ w f).map en)),b,o,yQ ok I h,?_⟩
  refine ay (bJ (t:=false) H nofun (λ_=>rfl)) ?_
  refine ay (Γ1:=GQ w i j U (Nx (rm k)) (some ⟨.lst .leaf,.list []⟩) x6 x7) (DS (pY aj rfl rfl rfl) rfl (by show (5:Nat)<10;decide)) ?_
  exact ay B (De ok I h)
theorem zV (ok:w.Ok) (I:w.n<=6) (d:i<w.n) (A:j<w.n):∀(f k:Nat) {ks:List D} {tx:Nat->Str} (h:KO w k ks tx) (hk:∀l,l<k->¬Un w l i j) {x4 x5 x6 x7:Option PV},
  (∃m,m<k+f/\Rk w m (i,j)/\cu 4 zC ((List.range' k f).map rm) (GQ w i j ks x4 x5 x6 x7)=.rt ⟨.leaf,rm m⟩)\/((∀l,l<k+f->¬Un w l i j)/\∃B,cu 4 zC ((List.range' k f).map rm) (GQ w i j ks x4 x5 x6 x7)=.nx B)
 | 0,k,ks,tx,h,hk,x4,x5,x6,x7=>.inr ⟨hk,_,rfl⟩
 | f+1,k,ks,tx,h,hk,x4,x5,x6,x7=>by
  obtain ⟨t1,t2⟩:=xI ok I d A h (x5:=x5) (x6:=x6) (x7:=x7)
  have st:(List.range' k (f+1)).map rm=rm k::(List.range' (k+1) f).map rm:=by rw [List.range'_succ,map_cons]
  rw [st];have Y:(GQ w i j ks x4 x5 x6 x7).set 4 (Nx (rm k))=GQ w i j ks (Nx (rm k)) x5 x6 x7:=rfl
  by_cases u:Un w k i j
  ·refine .inl ⟨k,by omega,⟨u,hk⟩,?_⟩
   rw [cu,if_pos (show 4<List.length (GQ w i j ks x4 x5 x6 x7) from (by decide:(4:Nat)<10)),Y,t1 u]
  ·obtain ⟨a,n,p,b,o,U,e⟩:=t2 u
   have:=zV ok I d A f (k+1) U (λl N=>by
    by_cases c:l=k
    ·rw [c];exact u
    ·exact hk l (by omega)) (x4:=some ⟨.leaf,rm k⟩) (x5:=p) (x6:=b) (x7:=o)
   rw [cu,if_pos (show 4<List.length (GQ w i j ks x4 x5 x6 x7) from (by decide:(4:Nat)<10)),Y,e]
   rw [show k+1+f=k+(f+1) by omega] at this
   exact this
theorem i6 (ok:w.Ok) (I:w.n<=6) (a:i<w.n) (A:j<w.n):(∃m,m<=w.n/\Rk w m (i,j)/\bG [w.enc,rm i,rm j]=.ok ⟨.leaf,rm m⟩)\/((∀l,¬Un w l i j)/\bG [w.enc,rm i,rm j]=.ok ⟨.leaf,.none⟩):=by
 have c:ax false 3 (bO (ah (ae 0) (eK (.int 1)))) (aN 10 [w.enc,rm i,rm j])=.nx (GQ w i j (w.m.map cP) none none none none):=
  dJ (p:=⟨.lst .leaf,.list (w.m.map cP)⟩) (II (eX (j:=1) (ds:=[.list w.os,.list (w.m.map cP),.list (w.s.map aT)]) (aw (i:=0) rfl) (aO (d:=.int 1)) rfl rfl rfl) rfl) rfl (by show (3:Nat)<10;decide)
 have r:d6 (ab (ar aI (bb aQ (ab (ah (ae 0) (eK (.int 0))) af)) (eK (.int 1))) af) (GQ w i j (w.m.map cP) none none none none)=.ok ⟨(List.range' 0 (w.n+1)).map rm,true⟩ (GQ w i j (w.m.map cP) none none none none):=by
  rw [<-List.range_eq_range'];exact rW (s:=.leaf) (n:=w.n+1) (by omega) (az (aA (vT ok) (aO (d:=.int 1)) rfl) aj)
 rcases zV ok I a A (w.n+1) 0 (yP ok) (λl N=>absurd N (Nat.not_lt_zero _)) (x4:=none) (x5:=none) (x6:=none) (x7:=none) with ⟨m,G,O,e⟩ | ⟨no,Γ,e⟩
 ·exact .inl ⟨m,by omega,O,aV (ay c (ur (gN r e)))⟩
 ·refine .inr ⟨λl u=>?_,aV (ay c (ay (gN r e) (aX aO rfl)))⟩
  obtain ⟨m,G,_,u,_⟩:=Dw ok a A u;exact no m (by omega) u
end
inductive En:Sn->Prop
 | no {a}:En (.un .not a)
 | sn {a}:En (.un .sn a)
 | an {a b}:En (.bi .and a b)
theorem m4 {s:Sn} (h:Pl s):(s=.yes\/∃c,s=.mk c/\c∈letters)\/(En s/\∀a∈s.args,Pl a/\a.dep+1<=s.dep):=by
 cases s with
 | yes=>exact .inl (.inl rfl)
 | mk c=>exact .inl (.inr ⟨c,rfl,h⟩)
 | un k a=>
  cases k with
  | not=>exact .inr ⟨.no,λx G=>by rw [List.mem_singleton.mp G];exact ⟨h,Nv _⟩⟩
  | sn=>exact .inr ⟨.sn,λx G=>by rw [List.mem_singleton.mp G];exact ⟨h,Nv _⟩⟩
  | an=>exact h.elim
  | sa=>exact h.elim
  | aa=>exact h.elim
 | bi k a b=>
  cases k with
  | and=>
   refine .inr ⟨.an,λx G=>?_⟩
   rcases Nk G with rfl | G
   ·exact ⟨h.1,Nat.succ_le_succ (Nat.le_max_left _ _)⟩
   ·rw [List.mem_singleton.mp G]
    exact ⟨h.2,Nat.succ_le_succ (Nat.le_max_right _ _)⟩
  | or=>exact h.elim
  | su=>exact h.elim
  | au=>exact h.elim
theorem GW (a:Wr):bx false (.str a.t) (.tuple [.str "yes",.str "mark"])=some (.bool (decide (a=.yes\/a=.mark))):=by cases a<;>kernel_rfl
theorem zY {s:Sn} (h:En s) {r:Ev}:gY (pE (ae 0) (eK (.int 1))) (Nx s.enc::r)=.ok ⟨s.args.map Sn.enc,true⟩ (Nx s.enc::r):=by cases h<;>rfl
theorem yF {s:Sn} (h:En s):iZ [.list (s.args.map λa=>.int (nx a:Int))]=some (.int ((nx s:Int)-(if s.w=.sn then 1 else 0))):=by
 have one:∀x:Int,yG [x]=x:=λx=>rfl
 have two:∀x y:Nat,yG [(x:Int),(y:Int)]=(max x y:Nat):=λx y=>by
  show (if (x:Int)<(y:Int) then (y:Int) else (x:Int))=_
  split<;>omega
 cases h with
 | no=>show some (PyData.int (yG [_]))=_;rw [one];simp [nx,Sn.w,U5.w]
 | sn=>show some (PyData.int (yG [_]))=_;rw [one];congr 2;show _=((_+1:Nat):Int)-1;omega
 | an=>show some (PyData.int (yG [_,_]))=_;rw [two];simp [nx,Sn.w,B4.w]
theorem kE:∀(f:Nat) {s:Sn},Pl s->s.dep<=f->cj f [s.enc]=.ok ⟨.leaf,.int (nx s:Int)⟩
 | 0,s,_,hd=>absurd hd (by have:=s.dep1;omega)
 | f+1,s,hp,hd=>by
  have H:=cH (s:=.leaf) (aA (g:=bx false) (Bh (s:=s) (r:=[none,none])) (cJ (az (aO (d:=.str "yes")) (az (aO (d:=.str "mark")) aj)) rfl rfl) (GW s.w))
  rcases m4 hp with h | ⟨h2,ha⟩
  ·have e:decide (s.w=.yes\/s.w=.mark)=true:=by
    rcases h with rfl | ⟨c,rfl,_⟩<;>rfl
   have X:nx s=0:=by rcases h with rfl | ⟨c,rfl,_⟩<;>rfl
   rw [e] at H;rw [X];exact aV (ur (bJ (t:=true) H (λ_=>aX aO rfl) nofun))
  ·have e:decide (s.w=.yes\/s.w=.mark)=false:=by cases h2<;>rfl
   rw [e] at H;refine aV (ay (bJ (t:=false) H nofun (λ_=>rfl)) ?_)
   have cm:=uA (s:=.leaf) (i:=2) Sn.enc s.args (λa=>⟨.leaf,.int (nx a:Int)⟩) (fe:=ag 1 (cj f) (ab (ae 2) af)) (zY h2 (r:=[none,none])) (by show (2:Nat)<3;decide) rfl (by cases h2<;>simp [Sn.args]) λa G=>⟨cv (az (aw (i:=2) rfl) aj) (kE f (ha a G).1 (by have:=(ha a G).2;omega)) rfl rfl,rfl⟩
   refine ay (Γ1:=[Nx s.enc,Nx (.int ((nx s:Int)-(if s.w=.sn then 1 else 0))),none]) (dJ (p:=⟨.leaf,_⟩) (b4 (az cm aj) (yF h2)) rfl (by show (1:Nat)<3;decide)) ?_
   have b:ar aI (ae 1) (bb gF (ab (ar bp (ah (ae 0) (eK (.int 0))) (eK (.str "some next"))) af)) [Nx s.enc,Nx (.int ((nx s:Int)-(if s.w=.sn then 1 else 0))),none]=.ok ⟨.leaf,.int (nx s:Int)⟩ [Nx s.enc,Nx (.int ((nx s:Int)-(if s.w=.sn then 1 else 0))),none]:=by
    refine aA (g:=aI) (aw (i:=1) rfl) (b4 (g:=gF) (d:=.int (if s.w=.sn then 1 else 0)) (az (aA (g:=bp) (Bh (s:=s)) (aO (d:=.str "some next")) (cK s.w .sn)) aj) ?_) ?_
    ·cases h2<;>rfl
    ·show some (PyData.int (_-_+_))=_
     rw [Int.sub_add_cancel]
   exact aX b rfl
theorem tG (a:Wr):bx true (.str a.t) (.tuple [.str "not",.str "and",.str "some next"])=some (.bool (!decide (a=.not\/a=.and\/a=.sn))):=by cases a<;>kernel_rfl
theorem kD:∀(f:Nat) {s:Sn},Pl s->s.dep<=f->cg f [s.enc]=.ok ⟨.leaf,.bool true⟩
 | 0,s,_,hd=>absurd hd (by have:=s.dep1;omega)
 | f+1,s,hp,hd=>by
  have ty:=cH (s:=.leaf) (aA (g:=bp) (Bh (s:=s) (r:=[none])) (aO (d:=.str "yes")) (cK s.w .yes))
  have tm:=cH (s:=.leaf) (aA (g:=bp) (Bh (s:=s) (r:=[none])) (aO (d:=.str "mark")) (cK s.w .mark))
  rcases m4 hp with h | ⟨h2,ha⟩
  ·rcases h with rfl | ⟨c,rfl,J⟩
   ·exact aV (ur (bJ (t:=true) ty (λ_=>aX (aA (g:=bp) (b4 (g:=aQ) (d:=.int 1) (az (aw (i:=0) rfl) aj) rfl) (aO (d:=.int 1)) (by kernel_rfl)) rfl) nofun))
   ·refine aV (ay (bJ (t:=false) ty nofun (λ_=>rfl)) (ur (bJ (t:=true) tm (λ_=>aX (v_and (s:=.leaf) (a:=true) (b:=true) (aA (g:=bp) (b4 (g:=aQ) (d:=.int 2) (az (aw (i:=0) rfl) aj) rfl) (aO (d:=.int 2)) (by kernel_rfl)) ?_) rfl) nofun)))
    refine aA (g:=bx false) (eX (j:=1) (ds:=[.str "mark",.str c]) (aw (i:=0) rfl) (aO (d:=.int 1)) rfl rfl rfl) (pY (az aO (az aO (az aO (az aO (az aO (az aO aj)))))) rfl rfl rfl) ?_
    have:∀c∈letters,bx false (.str c) (.list [.str "a",.str "b",.str "c",.str "d",.str "e",.str "f"])=some (.bool true):=by
     intro c J;rw [yZ (Et J).1,(Et J).2]
    exact this c J
  ·have B:decide (s.w=.yes)=false:=by cases h2<;>rfl
   have m:decide (s.w=.mark)=false:=by cases h2<;>rfl
   rw [B] at ty;rw [m] at tm;refine aV (ay (bJ (t:=false) ty nofun (λ_=>rfl)) (ay (bJ (t:=false) tm nofun (λ_=>rfl)) ?_))
   have t3:=cH (s:=.leaf) (aA (g:=bx true) (Bh (s:=s) (r:=[none])) (cJ (az (aO (d:=.str "not")) (az (aO (d:=.str "and")) (az (aO (d:=.str "some next")) aj))) rfl rfl) (tG s.w))
   have M:(!decide (s.w=.not\/s.w=.and\/s.w=.sn))=false:=by cases h2<;>rfl
   rw [M] at t3;have p:aM ai (ar gy (bb aQ (ab (ae 0) af)) (ar aI (eK (.int 2)) (bb gF (ab (ar bp (ah (ae 0) (eK (.int 0))) (eK (.str "and"))) af)))) [Nx s.enc,none]=.ok false [Nx s.enc,none]:=by
    refine cH (s:=.leaf) (aA (g:=gy) (b4 (g:=aQ) (d:=.int (s.args.length+1:Nat)) (az (aw (i:=0) rfl) aj) ?_) (aA (g:=aI) (aO (d:=.int 2)) (b4 (g:=gF) (d:=.int (if s.w=.and then 1 else 0)) (az (aA (g:=bp) (Bh (s:=s)) (aO (d:=.str "and")) (cK s.w .and)) aj) ?_) rfl) ?_)
    ·cases h2<;>rfl
    ·cases h2<;>rfl
    ·cases h2<;>kernel_rfl
   refine ay (bJ (t:=false) (d8 (a:=false) (b:=false) t3 p) nofun (λ_=>rfl)) ?_
   have cm:=uA (s:=.leaf) (i:=1) Sn.enc s.args (λa=>⟨.leaf,.bool true⟩) (fe:=e7 (i5 "tuple" (ae 1)) (ag 1 (cg f) (ab (ae 1) af))) (zY h2 (r:=[none])) (by show (1:Nat)<2;decide) rfl (by cases h2<;>simp [Sn.args]) λa G=>⟨v_and (s:=.leaf) (a:=true) (b:=true) (zT (aw (i:=1) rfl) (by cases a<;>rfl)) (cv (az (aw (i:=1) rfl) aj) (kD f (ha a G).1 (by have:=(ha a G).2;omega)) rfl rfl),rfl⟩
   refine aX (b4 (g:=eG false) (az cm aj) ?_) rfl
   cases h2<;>rfl
noncomputable def kx (a:Int) (n:Nat):Nat:=(a % (n:Int)).toNat
theorem vW {a:Int} {n:Nat} (y:0<n):a % (n:Int)=(kx a n:Int)/\kx a n<n:=by
 have R:0<=a % (n:Int):=Int.emod_nonneg _ (by omega)
 have C:a % (n:Int)<n:=Int.emod_lt_of_pos _ (by omega)
 unfold kx;omega
theorem v_mod {B:Ev} {z e:F1} {s j:Sh} {a:Int} {n:Nat} (U:z B=.ok ⟨s,.int a⟩ B) (Z:e B=.ok ⟨j,.int (n:Int)⟩ B) (y:0<n):ar cG z e B=.ok ⟨.leaf,rm (kx a n)⟩ B:=by
 have:=aA (g:=cG) U Z (fo (a:=a) (b:=(n:Int)) (by omega))
 rw [(vW y).1] at this;exact this
theorem v_div {B:Ev} {z:F1} {s:Sh} {a b:Int} (U:z B=.ok ⟨s,.int a⟩ B) (R:0<b) (C:b<1073741824):ar h9 z (eK (.int b)) B=.ok ⟨.leaf,.int (a / b)⟩ B:=aA U (aO (d:=.int b)) (nT R C)
theorem xY {w:Wd} (ok:w.Ok):shaped w.enc=true:=by
 have h:=ok.g.wk (b:=24) ok.h24
 have o:=Hv h.o
 have m:=rP λr M=>let ⟨Y,e,q,_⟩:=h.m r M;⟨Y,e,Hu q⟩
 have s:=rP λr M=>let ⟨Y,e,q,_⟩:=h.s r M;⟨Y,e,Hv q⟩
 have N:PyData.canLay0 w.enc=true/\PyData.depth w.enc<=3:=by
  simp only [Wd.enc,iy,PyData.canLay0,PyData.canLayAll0,PyData.depth,PyData.depthAll,o.1,m.1,s.1,o.2,Bool.and_self,Bool.true_and,true_and]
  have:=m.2
  have:=s.2
  omega
 unfold shaped;rw [N.1,Bool.true_and];exact decide_eq_true (by have:=N.2;omega)
theorem HG {c f:FB} {B:Ev} (U:c B=.ok true B):gp c f B=.ok true B:=by unfold gp;rw [U];rfl
noncomputable abbrev GZ (Y:List D) (w:Wd) (i j:Nat) (C b y:Option PV):Ev:=[Nx (.list Y),Nx w.enc,Nx (rm i),Nx (rm j),Nx w.enc,C,b,y]
theorem zm {Y:List D} (G:gJ Y):m_law [.list Y]=.ok ⟨.leaf,.bool true⟩:=by
 obtain ⟨w,ok,v,B⟩:=t7 G (a:=1) (l:=6) (by omega) (by omega) (by omega)
 have R:=ok.h1
 have I:w.n<=6:=by omega
 obtain ⟨c,L⟩:=Iu G (k:=0) (by omega)
 have e:w.os.length=w.n:=ok.g.lo
 have u:=xY ok
 have x:bp w.enc w.enc=some (.bool true):=by
  unfold bp;rw [u,Bool.and_self,if_pos rfl];congr 2
  exact PySem.SeqAt.eqv_refl _ (canLay_of_shaped u)
 have z:gy w.enc w.enc=some (.bool false):=by
  unfold gy;rw [u,Bool.and_self,if_pos rfl];congr 2
  rw [PySem.SeqAt.eqv_refl _ (canLay_of_shaped u)];rfl
 refine aV (ay (Γ1:=[Nx (.list Y),Nx w.enc,none,none,none,none,none,none]) (dJ (cv (az (aw (i:=0) rfl) (az aO (az aO aj))) B rfl rfl) rfl (by simp [aN])) ?_)
 have p:∀r,bb aQ (ab (ah (ae 1) (eK (.int 0))) af) [Nx (.list Y),Nx w.enc,r,none,none,none,none,none]=.ok ⟨.leaf,.int (w.n:Int)⟩ [Nx (.list Y),Nx w.enc,r,none,none,none,none,none]:=λr=>b4 (az (eX (j:=0) (s2:=.leaf) (aw (i:=1) rfl) aO rfl rfl rfl) aj) (by show some (PyData.int _)=_;rw [e])
 refine ay (Γ1:=[Nx (.list Y),Nx w.enc,Nx (rm (kx c w.n)),none,none,none,none,none]) (dJ (v_mod (cv (az (aw (i:=0) rfl) (az aO aj)) L rfl rfl) (p none) (by omega)) rfl (by show (2:Nat)<8;decide)) ?_
 refine ay (Γ1:=[Nx (.list Y),Nx w.enc,Nx (rm (kx c w.n)),Nx (rm (kx (c / 6) w.n)),none,none,none,none]) (dJ (v_mod (v_div (cv (az (aw (i:=0) rfl) (az aO aj)) L rfl rfl) (by omega:(0:Int)<6) (by omega)) (p _) (by omega)) rfl (by show (3:Nat)<8;decide)) ?_
 have K:=(vW (a:=c) (n:=w.n) (by omega)).2
 have A:=(vW (a:=c / 6) (n:=w.n) (by omega)).2
 generalize kx c w.n=i at K ⊢
 generalize kx (c / 6) w.n=j at A ⊢
 refine ay (Γ1:=GZ Y w i j none none none) (dJ (cv (az (aw (i:=1) rfl) aj) (kC ok) rfl rfl) rfl (by show (4:Nat)<8;decide)) ?_
 have mS:∀{d:D} {x5:Option PV},bG [w.enc,rm i,rm j]=.ok ⟨.leaf,d⟩->ax false 6 (ag 3 bG (ab (ae 1) (ab (ae 2) (ab (ae 3) af)))) (GZ Y w i j x5 none none)=.nx (GZ Y w i j x5 (Nx d) none):=λ{d x5} h=>dJ (cv (az (aw (i:=1) rfl) (az (aw (i:=2) rfl) (az (aw (i:=3) rfl) aj))) h rfl rfl) rfl (by show (6:Nat)<8;decide)
 have app:∀{d:D},w4 w i j=some d->ax false 5 (ag 3 cM (ab (ae 4) (ab (ae 2) (ab (ae 3) af)))) (GZ Y w i j none none none)=.nx (GZ Y w i j (Nx d) none none):=λ{d} h=>dJ (cv (az (aw (i:=4) rfl) (az (aw (i:=2) rfl) (az (aw (i:=3) rfl) aj))) (Dq ok I K A h) rfl rfl) rfl (by show (5:Nat)<8;decide)
 rcases HK ok I K A with ⟨no,H⟩ | ⟨S,H,g⟩
 ·rcases i6 ok I K A with ⟨m,_,O,_⟩ | ⟨_,er⟩
  ·exact absurd O.1 (no m)
  ·refine ay (app H) (ay (mS er) (ur (bJ (t:=true) (HG (cH (s:=.leaf) (aA (aw (i:=5) rfl) (aO (d:=.none)) rfl))) (λ_=>aX (v_and (s:=.leaf) (a:=true) (b:=true) (aA (aw (i:=5) rfl) (aO (d:=.none)) rfl) (v_and (s:=.leaf) (a:=true) (b:=true) (aA (aw (i:=6) rfl) (aO (d:=.none)) rfl) (aA (aw (i:=4) rfl) (aw (i:=1) rfl) x))) rfl) nofun)))
 ·obtain ⟨k,O,en,J⟩:=g.h
  rcases i6 ok I K A with ⟨m,M,o,er⟩ | ⟨no,_⟩
  case inr=>exact absurd O.1 (no k)
  have C:m=k:=Nat.le_antisymm (o.le O.1) (O.le o.1)
  subst C;have f:S.dep<=60:=by omega
  refine ay (app H) (ay (mS er) ?_)
  refine ay (bJ (t:=false) (d8 (a:=false) (b:=false) (cH (s:=.leaf) (aA (aw (i:=5) rfl) (aO (d:=.none)) (by cases S<;>rfl))) (cH (s:=.leaf) (aA (aw (i:=6) rfl) (aO (d:=.none)) rfl))) nofun (λ_=>rfl)) ?_
  refine ay (bJ (t:=false) (d8 (a:=false) (b:=false) (kO (b:=true) (kN (s:=.leaf) (zT (aw (i:=5) rfl) (by cases S<;>rfl)))) (d8 (a:=false) (b:=false) (kO (b:=true) (kN (s:=.leaf) (cv (az (aw (i:=5) rfl) aj) (kD 60 g.pl f) rfl rfl))) (d8 (a:=false) (b:=false) (cH (s:=.leaf) (aA (g:=gy) (cv (az (aw (i:=5) rfl) aj) (kE 60 g.pl f) rfl rfl) (aw (i:=6) rfl) (by rw [en];show gy (.int (m:Int)) (.int (m:Int))=_;rw [KC.ne_int];simp))) (cH (s:=.leaf) (aA (aw (i:=4) rfl) (aw (i:=1) rfl) z))))) nofun (λ_=>rfl)) ?_
  obtain ⟨F,P,E⟩:=IB ok 60 S g.pl.ok f;refine ay (Γ1:=GZ Y w i j (Nx S.enc) (Nx (rm m)) (Nx (aT (bR w S)))) (dJ (cv (az (aw (i:=1) rfl) (az (aw (i:=5) rfl) aj)) E rfl rfl) (by simp [coer,P]) (by show (7:Nat)<8;decide)) ?_
  have y:(bR w S).contains i=true:=List.contains_iff_mem.mpr (mem_rof.mpr ⟨K,g.y⟩)
  have n:(bR w S).contains j=false:=by
   cases q:(bR w S).contains j with
   | false=>rfl
   | true=>exact absurd (mem_rof.mp (List.contains_iff_mem.mp q)).2 g.n
  exact aX (v_and (s:=.leaf) (a:=true) (b:=true) (aA (g:=bx false) (aw (i:=2) rfl) (aw (i:=7) rfl) (by rw [<-y];exact DV)) (aA (g:=bx true) (aw (i:=3) rfl) (aw (i:=7) rfl) (notin_rms.trans (by rw [n];rfl)))) rfl
theorem law_true (U:List Int) (N:U.length<=63):m_law [.list (U.map .int)]=.ok ⟨.leaf,.bool true⟩:=zm EL
end KC.Ap.S
namespace KC.Ap.S
open PySem PySem.Spec L2 T TQ
open PyProof.Rows hiding St
open KC
noncomputable def gQ (n:Nat):Stmt:=(PySem.Challenge.pw_foreseehall_k46_sentences_that_tell_apar.main.body)[n]!
noncomputable def mI:Stmt:=gQ 9
noncomputable def mM:Stmt:=gQ 10
noncomputable def mL:Stmt:=gQ 11
noncomputable def mK:Stmt:=gQ 12
noncomputable def oS:Stmt:=gQ 13
noncomputable def jm:Stmt:=gQ 14
noncomputable def kS:Stmt:=gQ 15
noncomputable def jl:Stmt:=gQ 17
noncomputable def jk:Stmt:=gQ 20
noncomputable def kR:Stmt:=gQ 21
noncomputable def iD:Stmt:=gQ 26
noncomputable def kU:Stmt:=gQ 28
noncomputable def uV:Stmt:=gQ 29
noncomputable def mJ:Stmt:=gQ 30
noncomputable def iE:Stmt:=gQ 34
noncomputable def mO:Stmt:=gQ 35
noncomputable def kW:Stmt:=gQ 36
noncomputable def mN:Stmt:=gQ 37
noncomputable def fP:Stmt:=gQ 38
noncomputable def g7:Stmt:=gQ 39
noncomputable def kX:Stmt:=gQ 40
noncomputable def la:Stmt:=gQ 41
noncomputable def jn:Stmt:=gQ 42
noncomputable def kZ:Stmt:=gQ 43
noncomputable def kY:Stmt:=gQ 44
noncomputable def FH:Stmt:=gQ 45
structure Gl (K:Fg) (mg:Str->Option Value):Prop where
 n0:mg "len"=none
 n1:mg "range"=none
 n2:mg "all"=none
 n3:mg "enumerate"=none
 n4:mg "int"=none
 n5:mg "list"=none
 n6:mg "sorted"=none
 n7:mg "str"=none
 n8:mg "set"=none
 n9:mg "max"=none
 n10:mg "isinstance"=none
 n11:mg "tuple"=none
 h0:jT K mg "LETTERS" b7
 h1:jT K mg "MOST_ROOMS" dP
 h2:jT K mg "PLAYERS" cw
 h3:jT K mg "MOST_ROOMS_APART" fz
structure Al (K:Fg) (mg:Str->Option Value):Prop where
 g:Gl K mg
 f0:Ft K mg "is_rising" mI
 f1:Ft K mg "are_marks" mM
 f2:Ft K mg "are_rooms" mL
 f3:Ft K mg "are_steps" mK
 f4:Ft K mg "is_world" oS
 f5:Ft K mg "check_world" jm
 f6:Ft K mg "check_room" kS
 f7:Ft K mg "opposite_of" jl
 f8:Ft K mg "pairs_asked" jk
 f9:Ft K mg "is_by_mark" kR
 f10:Ft K mg "is_by_step" cf
 f11:Ft K mg "reason_for" cc
 f12:Ft K mg "rows_next" cy
 f13:Ft K mg "all_rows" cR
 f14:Ft K mg "pairs_behind" iD
 f15:Ft K mg "rows_for" cQ
 f16:Ft K mg "check_pair" kU
 f17:Ft K mg "all_of" uV
 f18:Ft K mg "each_once" mJ
 f19:Ft K mg "sentence_of" bV
 f20:Ft K mg "apart" fO
 f21:Ft K mg "_law_cell_at" iE
 f22:Ft K mg "_law_draw" mO
 f23:Ft K mg "_law_world" kW
 f24:Ft K mg "_law_twin" mN
 f25:Ft K mg "_law_like_world" fP
 f26:Ft K mg "_law_steps_in" g7
 f27:Ft K mg "_law_until" kX
 f28:Ft K mg "_law_judge" la
 f29:Ft K mg "_law_rounds" jn
 f30:Ft K mg "_law_nexts" kZ
 f31:Ft K mg "_law_plain" kY
 f32:Ft K mg "law" FH
section
variable {P:Program} {w:World} {K:Fg} {mg:Str->Option Value} {base:Heap} (A:Al K mg)
include A
theorem gW:DefOk P w K mg base 1 "is_rising" 1 cW:=mk A.f0 A.g ["entries"] rR ["k"] ["len", "range", "all"] [0] [0] [0,1,2] λX S I g=>
 (dA (AY S 2 rfl rfl I.e.n2 (bg (jh [0,1] [0] [] S 1 (EZ S 1 rfl rfl I.e.n1 (bK w_de_int (bg (iw S 0 I.e.n0 (bg (av S 0))))) (uT rfl rfl) (fI rfl)) (λ_ _ _=>w_df_nil) (λc a F1=>have I:=F1.i I;(ji (vk I.r) (bQ (av a 0) (uD (av a 1) w_de_int)) (bQ (av a 0) (av a 1)))))) (aZ rfl) rfl))
theorem nr:DefOk P w K mg base 2 "are_marks" 1 cY:=mk A.f1 A.g ["entries"] rR ["entry"] ["LETTERS", "all", "is_rising"] [0] [] [1,2] λX S I g=>
 (dA (xB (AY S 1 rfl rfl I.e.n2 (bg (jh [1] [] [0] S 1 (w_di_seq (av S 0)) (λ_ _ _=>w_df_nil) (λc a F1=>have I:=F1.i I;(ji (fR I.r) (av a 1) (w_ck a 0 rfl rfl I.e.h0))))) (aZ rfl) rfl) (zQ (dM S 2 (I.c (gW A)) (bg (av S 0))))))
theorem nq:DefOk P w K mg base 2 "are_rooms" 2 eB:=mk A.f2 A.g ["entries", "size"] AE ["entry"] ["all", "is_rising"] [0,1] [1] [0,1] λX S I g=>
 (dA (xB (AY S 0 rfl rfl I.e.n2 (bg (jh [1,2] [1] [] S 2 (w_di_seq (av S 0)) (λ_ _ _=>w_df_nil) (λc a F1=>have I:=F1.i I;(E8 (Gi I.r) (vk I.r) w_de_int (av a 2) (av a 1) (by with_unfolding_all rfl))))) (aZ rfl) rfl) (zQ (dM S 1 (I.c (gW A)) (bg (av S 0))))))
theorem nk:DefOk P w K mg base 3 "are_steps" 2 cX:=mk A.f3 A.g ["entries", "size"] AE [] ["len", "are_rooms"] [0,1] [] [0,1] λX S I g=>
 (dA (xB (ji (sU I.r) (iw S 0 I.e.n0 (bg (av S 0))) w_de_int) (zQ (dM S 1 (I.c (nq A)) (bK (av S 0) (bg (av S 1)))))))
theorem o5:DefOk P w K mg base 4 "is_world" 3 dO:=mk A.f4 A.g ["owners", "marks", "steps"] xp ["size", "owner", "row"] ["len", "MOST_ROOMS", "PLAYERS", "all", "are_marks", "are_steps"] [0,1,2,3] [3] [0,1,3] λX S I g=>
 (bP (d3 S false 3 (iw S 0 I.e.n0 (bg (av S 0)))) (bP (gL (xi (uq (cT (vk I.r) (av S 3) w_de_int) (uq (cT (sU I.r) (av S 3) (w_ck S 1 rfl rfl I.e.h1)) (uq (cT (oX I.r) (iw S 0 I.e.n0 (bg (av S 1))) (av S 3)) (zP (cT (oX I.r) (iw S 0 I.e.n0 (bg (av S 2))) (av S 3))))))) (dA IG) gM) (bP (gL (Ed (w_dt_tru (AY S 3 rfl rfl I.e.n2 (bg (jh [4] [] [2] S 4 (w_di_seq (av S 0)) (λ_ _ _=>w_df_nil) (λc a F1=>have I:=F1.i I;(ji (fR I.r) (av a 4) (w_ck a 2 rfl rfl I.e.h2))))) (aZ rfl) rfl) (λ_=>rfl))) (dA IG) gM) (dA (xB (AY S 3 rfl rfl I.e.n2 (bg (jh [5] [] [4] S 5 (w_di_seq (av S 1)) (λ_ _ _=>w_df_nil) (λe b R=>have I:=R.i I;(dM b 4 (I.c (nr A)) (bg (av b 5)))))) (aZ rfl) rfl) (zQ (AY S 3 rfl rfl I.e.n2 (bg (jh [3,5] [3] [5] S 5 (w_di_seq (av S 2)) (λ_ _ _=>w_df_nil) (λo h d=>have I:=d.i I;(dM h 5 (I.c (nk A)) (bK (av h 5) (bg (av h 3))))))) (aZ rfl) rfl)))))))
theorem jz:DefOk P w K mg base 5 "check_world" 1 bf:=mk A.f5 A.g ["world"] rR [] ["is_world"] [0] [] [0] λX S I g=>
 (w_ds_one (gL (Ed (w_dt_tru (dM S 0 (I.c (o5 A)) (bK (bQ (av S 0) w_de_int) (bK (bQ (av S 0) w_de_int) (bg (bQ (av S 0) w_de_int))))) (λ_=>rfl))) (w_ds_one w_ds_no) gM))
theorem fT:DefOk P w K mg base 1 "check_room" 2 bN:=mk A.f6 A.g ["world", "room"] AE [] ["len"] [0,1] [] [0] λX S I g=>
 (w_ds_one (gL (Ed (EY (Gi I.r) (vk I.r) w_de_int (av S 1) (iw S 0 I.e.n0 (bg (bQ (av S 0) w_de_int))) (by with_unfolding_all rfl))) (w_ds_one w_ds_no) gM))
theorem jy:DefOk P w K mg base 1 "opposite_of" 1 bw:=mk A.f7 A.g ["sentence"] rR [] [] [0] [] [] λX S I g=>
 (dA (w_de_if (cT (b9 I.r) (bQ (av S 0) w_de_int) w_de_str) (bQ (av S 0) w_de_int) (w_de_tup (bK w_de_str (bg (av S 0))))))
theorem fm:DefOk P w K mg base 1 "pairs_asked" 5 bF:=mk A.f8 A.g ["world", "one", "other", "side", "there"] Na ["against"] [] [0,1,2,3,4] [4] [] λX S I g=>
 (bP (gL (cT (b9 I.r) (av S 3) w_de_int) (dA (jh [4,5] [4] [] S 5 (w_di_seq (bQ (bQ (av S 0) w_de_int) (av S 2))) (λ_ _ _=>w_df_nil) (λc a F1=>(w_de_tup (bK (av a 4) (bg (av a 5))))))) gM) (dA (jh [4,5] [4] [] S 5 (w_di_seq (bQ (bQ (av S 0) w_de_int) (av S 1))) (λ_ _ _=>w_df_nil) (λe b R=>(w_de_tup (bK (av b 5) (bg (av b 4))))))))
theorem lq:DefOk P w K mg base 1 "is_by_mark" 4 ck:=mk A.f9 A.g ["world", "one", "other", "letter"] LN [] [] [0,1,2,3] [] [] λX S I g=>
 (dA (ji (oX I.r) (ji (fR I.r) (av S 3) (bQ (bQ (av S 0) w_de_int) (av S 1))) (ji (fR I.r) (av S 3) (bQ (bQ (av S 0) w_de_int) (av S 2)))))
theorem lp:DQ P w K mg base 2:=match A.f10 with | ⟨_,_,hm,F⟩=>jw F hm (xt F M9) A.g.n2 (fm A) rfl
theorem ll:DG P w K mg base 3:=match A.f11 with | ⟨_,_,hm,F⟩=>jv F hm (xt F LN) A.g.n3 (lq A) (lp A) A.g.h0 rfl rfl
theorem nh:DD P w K mg base 4:=match A.f12 with | ⟨_,_,hm,F⟩=>lh F hm (xt F AE) A.g.n1 A.g.n0 (ll A) rfl
theorem o6:DR P w K mg base 5:=match A.f13 with | ⟨_,_,hm,F⟩=>m9 F hm (xt F rR) (nh A) rfl
theorem eA:DefOk P w K mg base 2 "pairs_behind" 2 m_pairs_behind:=mk A.f14 A.g ["world", "row"] AE [] ["pairs_asked"] [0,1] [] [0] λX S I g=>
 (dA (w_de_if (cT (b9 I.r) (bQ (bQ (av S 1) w_de_int) w_de_int) w_de_str) (p9 .leaf w_da_nil) (dM S 0 (I.c (fm A)) (bK (av S 0) (bK (bQ (av S 1) w_de_int) (bK (bQ (av S 1) w_de_int) (bK (bQ (bQ (av S 1) w_de_int) w_de_int) (bg (bQ (bQ (av S 1) w_de_int) w_de_int)))))))))
theorem o4:DefOk P w K mg base 6 "rows_for" 3 bu:=match A.f15 with | ⟨_,_,hm,F⟩=>m8 F hm (xt F xp) (o6 A) (eA A) rfl rfl
theorem lx:DefOk P w K mg base 2 "check_pair" 3 cn:=mk A.f16 A.g ["world", "one", "other"] xp [] ["check_room"] [0,1,2] [] [0] λX S I g=>
 (bP (jW (dM S 0 (I.c (fT A)) (bK (av S 0) (bg (av S 1)))) rfl) (w_ds_one (jW (dM S 0 (I.c (fT A)) (bK (av S 0) (bg (av S 2)))) rfl)))
theorem tw (n:Nat):DefOk P w K mg base (0+n) "all_of" 1 (fW n):=by
 induction n with
 | zero=>exact Je A.f17 rR
 | succ n f=>exact mk (k:=0+n) A.f17 A.g ["sentences"] rR ["half"] ["len", "all_of"] [0,1] [] [0,1] λX S I g=>
  (bP (d3 S false 1 (EN (iw S 0 I.e.n0 (bg (av S 0))) w_de_int)) (dA (w_de_if (cT (b9 I.r) (av S 1) w_de_int) (bQ (av S 0) w_de_int) (w_de_tup (bK w_de_str (bK (dM S 1 (I.c f) (bg (sf (av S 0) (av S 1)))) (bg (dM S 1 (I.c f) (bg (mm (av S 0) (av S 1)))))))))))
theorem vI:DefOk P w K mg base 8 "all_of" 1 eC:=tw A 8
theorem ni:DefOk P w K mg base 1 "each_once" 1 b6:=mk A.f18 A.g ["entries"] rR ["found", "entry"] [] [0,1,2] [] [] λX S I g=>
 (bP (d3 S true 1 (p9 .leaf w_da_nil)) (bP (AZ S 2 rfl rfl g (w_di_seq (av S 0)) (w_ds_one (gL (cT (D8 I.r) (av S 2) (av S 1)) (w_ds_one (Ef S 1 rfl rfl (av S 2) (fI rfl) rfl rfl rfl rfl)) gM)) (λ_=>rfl)) (dA (uG S 1 rfl rfl))))
theorem jx:DC P w K mg base 9:=match A.f19 with | ⟨_,_,hm,F⟩=>iM F hm (xt F xp) (eA A) (vI A) (ni A) (jy A) rfl rfl rfl rfl
theorem yD:DefOk P w K mg base 10 "apart" 3 cM:=match A.f20 with | ⟨_,_,hm,F⟩=>vH F hm (xt F xp) A.g.n0 (jz A) (lx A) (o4 A) (jx A) A.g.h3 rfl rfl rfl rfl
theorem EW:DefOk P w K mg base 1 "_law_cell_at" 2 aC:=mk A.f21 A.g ["script", "k"] AE [] ["len"] [0,1] [] [0] λX S I g=>
 (bP (gL (cT (vk I.r) (av S 1) (iw S 0 I.e.n0 (bg (av S 0)))) (dA (bQ (av S 0) (av S 1))) gM) (dA w_de_int))
theorem Ee:DefOk P w K mg base 1 "_law_draw" 3 ao:=mk A.f22 A.g ["cell", "k", "bound"] xp ["stir", "left", "j"] ["range"] [0,1,2,3,4,5] [] [0] λX S I g=>
 (bP (gL (cT (Lk I.r) (av S 0) (uE w_de_int w_de_int)) (bP (d3 S false 4 (av S 0)) (bP (AZ S 5 rfl rfl g (e8 S 0 rfl rfl I.e.n1 (bg (av S 1)) (fI rfl)) (w_ds_one (d3 S false 4 (EN (av S 4) (av S 2)))) (λ_=>rfl)) (dA (uB (av S 4) (av S 2))))) gM) (bP (d3 S false 3 (uB (EO (mf (mf (uB (av S 0) w_de_int) (EO w_de_int (av S 1))) w_de_int) w_de_int) w_de_int)) (bP (d3 S false 3 (uB (mf (mf (EO (av S 3) (av S 3)) (EO w_de_int (av S 1))) w_de_int) w_de_int)) (dA (uB (EN (uB (EO (av S 3) w_de_int) w_de_int) w_de_int) (av S 2))))))
theorem ly:DefOk P w K mg base 2 "_law_world" 3 m__law_world:=mk A.f23 A.g ["script", "at", "limit"] xp ["many", "owners", "marks", "steps", "room", "cell", "row", "there", "k"] ["_law_cell_at", "range", "_law_draw", "int"] [0,1,2,3,4,5,6,7,8,9] [3,8] [0,1,2] λX S I g=>
 (bP (d3 S false 3 (mf w_de_int (uB (dM S 0 (I.c (EW A)) (bK (av S 0) (bg (av S 1)))) (av S 2)))) (bP (d3 S true 4 (p9 .leaf w_da_nil)) (bP (d3 S true 5 (p9 .leaf w_da_nil)) (bP (d3 S true 6 (p9 .leaf w_da_nil)) (bP (AZ S 7 rfl rfl g (e8 S 1 rfl rfl I.e.n1 (bg (av S 3)) (fI rfl)) (bP (d3 S false 8 (dM S 0 (I.c (EW A)) (bK (av S 0) (bg (mf (mf (av S 1) w_de_int) (av S 7)))))) (bP (Ef S 4 rfl rfl (dM S 2 (I.c (Ee A)) (bK (av S 8) (bK w_de_int (bg w_de_int)))) (fI rfl) rfl rfl rfl rfl) (bP (Ef S 5 rfl rfl (jh [8,11] [8] [2] S 11 (e8 S 1 rfl rfl I.e.n1 (bg w_de_int) (fI rfl)) (λc a F1=>have I:=F1.i I;xC (cT (b9 I.r) (dM a 2 (I.c (Ee A)) (bK (av a 8) (bK (mf w_de_int (av a 11)) (bg w_de_int)))) w_de_int)) (λc a F1=>have I:=F1.i I;(bQ w_de_str (av a 11)))) (fI rfl) rfl rfl rfl rfl) (bP (IL (vs':=[3,8,10]) (cs':=[3,8]) (lo':=[]) (gs':=[2,3]) S false 9 .leaf 10 rfl rfl rfl rfl (by kernel_rfl) (by kernel_rfl) (by kernel_rfl) (e8 S 1 rfl rfl I.e.n1 (bg (av S 3)) (fI rfl)) (λe b R=>have I:=R.i I;xC (cT (b9 I.r) (dM b 2 (I.c (Ee A)) (bK (av b 8) (bK (mf w_de_int (av b 10)) (bg (mf w_de_int (Ki b 3 rfl rfl I.e.n4 (bg (ji (sU I.r) (av b 3) w_de_int)) (aZ rfl) rfl)))))) w_de_int)) (λe b R=>have I:=R.i I;(av b 10)) (λ_=>rfl)) (bP (gL (cT (b9 I.r) (av S 9) (p9 .leaf w_da_nil)) (w_ds_one (d3 S false 9 (p9 .leaf (bg (dM S 2 (I.c (Ee A)) (bK (av S 8) (bK (mf w_de_int (av S 3)) (bg (av S 3))))))))) gM) (w_ds_one (Ef S 6 rfl rfl (av S 9) (fI rfl) rfl rfl rfl rfl))))))) (λ_=>rfl)) (dA (w_de_tup (bK (uG S 4 rfl rfl) (bK (uG S 5 rfl rfl) (bg (uG S 6 rfl rfl)))))))))))
theorem gX:DefOk P w K mg base 1 "_law_twin" 1 cZ:=mk A.f24 A.g ["world"] rR ["row"] ["list"] [0] [] [0] λX S I g=>
 (dA (w_de_tup (bK (IF S 0 rfl rfl I.e.n5 (bQ (av S 0) w_de_int) (fI rfl)) (bK (jh [1] [] [0] S 1 (w_di_seq (bQ (av S 0) w_de_int)) (λ_ _ _=>w_df_nil) (λc a F1=>have I:=F1.i I;(IF a 0 rfl rfl I.e.n5 (av a 1) (fI rfl)))) (bg (jh [1] [] [0] S 1 (w_di_seq (bQ (av S 0) w_de_int)) (λ_ _ _=>w_df_nil) (λe b R=>have I:=R.i I;(IF b 0 rfl rfl I.e.n5 (av b 1) (fI rfl)))))))))
theorem fV:DefOk P w K mg base 3 "_law_like_world" 3 bI:=mk A.f25 A.g ["script", "at", "limit"] xp ["world", "cell", "few", "room"] ["_law_world", "_law_cell_at", "len", "range", "_law_draw", "_law_twin"] [0,1,2,3,4,5] [4,5] [0,1,2,3,5] λX S I g=>
 (bP (d3 S false 3 (dM S 0 (I.c (ly A)) (bK (av S 0) (bK (av S 1) (bg (av S 2)))))) (bP (d3 S false 4 (dM S 1 (I.c (EW A)) (bK (av S 0) (bg (mf (mf (av S 1) w_de_int) (av S 2)))))) (bP (gL (cT (sU I.r) (uB (av S 4) w_de_int) w_de_int) (bP (d3 S false 5 (p9 .leaf (bK (p9 .leaf (bg w_de_str)) (bK (p9 .leaf (bg w_de_str)) (bg (p9 .leaf (bg w_de_str))))))) (w_ds_one (d3 S false 3 (w_de_tup (bK (bQ (av S 3) w_de_int) (bK (jh [4,5,6] [4,5] [4] S 6 (e8 S 3 rfl rfl I.e.n1 (bg (iw S 2 I.e.n0 (bg (bQ (av S 3) w_de_int)))) (fI rfl)) (λ_ _ _=>w_df_nil) (λc a F1=>have I:=F1.i I;(bQ (av a 5) (dM a 4 (I.c (Ee A)) (bK (av a 4) (bK (av a 6) (bg w_de_int))))))) (bg (bQ (av S 3) w_de_int)))))))) gM) (bP (gL (cT (b9 I.r) (uB (av S 4) w_de_int) w_de_int) (w_ds_one (d3 S false 3 (w_de_tup (bK (jh [4,6] [4] [4] S 6 (e8 S 3 rfl rfl I.e.n1 (bg (iw S 2 I.e.n0 (bg (bQ (av S 3) w_de_int)))) (fI rfl)) (λ_ _ _=>w_df_nil) (λe b R=>have I:=R.i I;(EN (dM b 4 (I.c (Ee A)) (bK (av b 4) (bK (mf w_de_int (av b 6)) (bg w_de_int)))) w_de_int))) (bK (bQ (av S 3) w_de_int) (bg (bQ (av S 3) w_de_int))))))) gM) (dA (dM S 5 (I.c (gX A)) (bg (av S 3))))))))
theorem dX:DefOk P w K mg base 1 "_law_steps_in" 3 bE:=mk A.f26 A.g ["world", "rooms", "each"] xp ["found", "room", "into", "there"] ["len", "range"] [0,1,2,3,4,5] [1] [0,1] λX S I g=>
 (bP (d3 S true 3 (p9 .leaf w_da_nil)) (bP (AZ S 4 rfl rfl g (e8 S 1 rfl rfl I.e.n1 (bg (iw S 0 I.e.n0 (bg (bQ (av S 0) w_de_int)))) (fI rfl)) (bP (IL (vs':=[1,6]) (cs':=[1]) (lo':=[]) (gs':=[]) S false 5 .leaf 6 rfl rfl rfl rfl (by kernel_rfl) (by kernel_rfl) (by kernel_rfl) (w_di_seq (bQ (bQ (av S 0) w_de_int) (av S 4))) (λc a F1=>have I:=F1.i I;xC (cT (fR I.r) (av a 6) (av a 1))) (λc a F1=>have I:=F1.i I;(av a 6)) (λ_=>rfl)) (w_ds_one (gL (xi (uq (cT (b9 I.r) (iw S 0 I.e.n0 (bg (av S 5))) (iw S 0 I.e.n0 (bg (bQ (bQ (av S 0) w_de_int) (av S 4))))) (zP (xi (mh (Ed (w_dt_tru (av S 2) (λ_=>rfl))) (jV (cT (sU I.r) (iw S 0 I.e.n0 (bg (av S 5))) w_de_int))))))) (w_ds_one (Ef S 3 rfl rfl (av S 4) (fI rfl) rfl rfl rfl rfl)) gM))) (λ_=>rfl)) (dA (uG S 3 rfl rfl))))
theorem fU:DefOk P w K mg base 2 "_law_until" 4 cN:=mk A.f27 A.g ["world", "one", "other", "each"] LN ["found", "turn", "ahead", "room"] ["len", "range", "_law_steps_in", "sorted"] [0,1,2,3,4,5,6] [2,6] [0,1,2,3] λX S I g=>
 (bP (d3 S false 4 (av S 2)) (bP (AZ S 5 rfl rfl g (e8 S 1 rfl rfl I.e.n1 (bg (iw S 0 I.e.n0 (bg (bQ (av S 0) w_de_int)))) (fI rfl)) (bP (d3 S false 6 (dM S 2 (I.c (dX A)) (bK (av S 0) (bK (av S 4) (bg (av S 3)))))) (w_ds_one (d3 S false 4 (mq S 3 rfl rfl I.e.n6 (bg (uI (av S 2) (jh [2,6,7] [2,6] [] S 7 (w_di_seq (av S 1)) (λc a F1=>have I:=F1.i I;xC (xi (mh (cT (fR I.r) (av a 7) (av a 6)) (jV (cT (D8 I.r) (av a 7) (av a 2)))))) (λc a F1=>have I:=F1.i I;(av a 7))))) (aZ rfl) rfl)))) (λ_=>rfl)) (dA (av S 4))))
theorem ju (n:Nat):DefOk P w K mg base (2+n) "_law_judge" 2 (bo n):=by
 induction n with
 | zero=>exact Je A.f28 AE
 | succ n f=>exact mk (k:=2+n) A.f28 A.g ["world", "sentence"] AE ["whole", "word", "one", "outside", "other", "away", "room"] ["len", "list", "range", "_law_judge", "_law_steps_in", "_law_until"] [0,1,2,3,4,5,6,7] [0,1,4,6,7] [0,1,2,3,4,5] λX S I g=>
  (bP (d3 S false 2 (iu S 1 2 rfl rfl I.e.n5 rfl rfl I.e.n1 (bg (iw S 0 I.e.n0 (bg (bQ (av S 0) w_de_int)))) (fI rfl) (fI rfl))) (bP (d3 S false 3 (bQ (av S 1) w_de_int)) (bP (gL (cT (b9 I.r) (av S 3) w_de_str) (dA (av S 2)) gM) (bP (gL (cT (b9 I.r) (av S 3) w_de_str) (dA (jh [0,1,8] [0,1] [] S 8 (w_di_seq (av S 2)) (λc a F1=>have I:=F1.i I;xC (cT (fR I.r) (bQ (av a 1) w_de_int) (bQ (bQ (av a 0) w_de_int) (av a 8)))) (λc a F1=>have I:=F1.i I;(av a 8)))) gM) (bP (d3 S false 4 (dM S 3 (I.c f) (bK (av S 0) (bg (bQ (av S 1) w_de_int))))) (bP (IL (vs':=[4,8]) (cs':=[4]) (lo':=[]) (gs':=[]) S false 5 .leaf 8 rfl rfl rfl rfl (by kernel_rfl) (by kernel_rfl) (by kernel_rfl) (w_di_seq (av S 2)) (λe b R=>have I:=R.i I;xC (cT (D8 I.r) (av b 8) (av b 4))) (λe b R=>have I:=R.i I;(av b 8)) (λ_=>rfl)) (bP (gL (cT (b9 I.r) (av S 3) w_de_str) (dA (av S 5)) gM) (bP (gL (xi (uq (cT (b9 I.r) (av S 3) w_de_str) (zP (cT (b9 I.r) (av S 3) w_de_str)))) (dA (dM S 4 (I.c (dX A)) (bK (av S 0) (bK (av S 4) (bg (ji (b9 I.r) (av S 3) w_de_str)))))) gM) (bP (gL (xi (uq (cT (b9 I.r) (av S 3) w_de_str) (zP (cT (b9 I.r) (av S 3) w_de_str)))) (bP (d3 S false 7 (dM S 5 (I.c (fU A)) (bK (av S 0) (bK (av S 2) (bK (av S 5) (bg (ji (b9 I.r) (av S 3) w_de_str))))))) (dA (jh [7,8] [7] [] S 8 (w_di_seq (av S 2)) (λo h d=>have I:=d.i I;xC (cT (D8 I.r) (av h 8) (av h 7))) (λo h d=>have I:=d.i I;(av h 8))))) gM) (bP (d3 S false 6 (dM S 3 (I.c f) (bK (av S 0) (bg (bQ (av S 1) w_de_int))))) (bP (gL (cT (b9 I.r) (av S 3) w_de_str) (dA (jh [6,8] [6] [] S 8 (w_di_seq (av S 4)) (λq l j=>have I:=j.i I;xC (cT (fR I.r) (av l 8) (av l 6))) (λq l j=>have I:=j.i I;(av l 8)))) gM) (bP (gL (cT (b9 I.r) (av S 3) w_de_str) (dA (jh [4,6,8] [4,6] [] S 8 (w_di_seq (av S 2)) (λp i m=>have I:=m.i I;xC (xi (uq (cT (fR I.r) (av i 8) (av i 4)) (zP (cT (fR I.r) (av i 8) (av i 6)))))) (λp i m=>have I:=m.i I;(av i 8)))) gM) (dA (dM S 5 (I.c (fU A)) (bK (av S 0) (bK (av S 4) (bK (av S 6) (bg (ji (b9 I.r) (av S 3) w_de_str)))))))))))))))))))
theorem lB:DefOk P w K mg base 62 "_law_judge" 2 m__law_judge:=ju A 60
theorem jA:DefOk P w K mg base 1 "_law_rounds" 3 bG:=mk A.f29 A.g ["world", "one", "other"] xp ["keys", "turn", "looks", "room", "reach", "look", "there"] ["list", "len", "range", "str", "sorted", "set"] [0,1,2,3,4,5,6,7] [3,5] [0,1,2,3,4,5] λX S I g=>
 (bP (d3 S false 3 (IF S 0 rfl rfl I.e.n5 (bQ (av S 0) w_de_int) (fI rfl))) (bP (AZ S 4 rfl rfl g (e8 S 2 rfl rfl I.e.n1 (bg (mf (iw S 1 I.e.n0 (bg (bQ (av S 0) w_de_int))) w_de_int)) (fI rfl)) (bP (gL (cT (oX I.r) (bQ (av S 3) (av S 1)) (bQ (av S 3) (av S 2))) (dA (av S 4)) gM) (bP (d3 S true 5 (p9 .leaf w_da_nil)) (bP (AZ S 6 rfl rfl g (e8 S 2 rfl rfl I.e.n1 (bg (iw S 1 I.e.n0 (bg (bQ (av S 0) w_de_int)))) (fI rfl)) (bP (IL (vs':=[3,9]) (cs':=[3]) (lo':=[]) (gs':=[3]) S false 7 .leaf 9 rfl rfl rfl rfl (by kernel_rfl) (by kernel_rfl) (by kernel_rfl) (w_di_seq (bQ (bQ (av S 0) w_de_int) (av S 6))) (λ_ _ _=>w_df_nil) (λc a F1=>have I:=F1.i I;(jX a I.r I.rm.gd 3 rfl rfl I.e.n7 (bg (bQ (av a 3) (av a 9))) (aZ rfl) rfl)) (λ_=>rfl)) (w_ds_one (Ef S 5 rfl rfl (w_de_tup (bK (jX S I.r I.rm.gd 3 rfl rfl I.e.n7 (bg (bQ (av S 3) (av S 6))) (aZ rfl) rfl) (bg (oJ keyTx S 4 5 rfl rfl I.e.n6 rfl rfl I.e.n8 (bg (av S 7)) (fI rfl) (fI rfl))))) (fI rfl) rfl rfl rfl rfl))) (λ_=>rfl)) (uF 5 (w_ds_one (mj S false 3 rfl rfl (mB (S.cel 3 _ rfl rfl)) (jh [5,8] [5] [] S 8 (w_di_seq (av S 5)) (λ_ _ _=>w_df_nil) (λe b R=>have I:=R.i I;(uH b I.r 5 8 rfl rfl rfl rfl))))))))) (λ_=>rfl)) (dA w_de_none)))
theorem jt (n:Nat):DefOk P w K mg base (0+n) "_law_nexts" 1 (cj n):=by
 induction n with
 | zero=>exact Je A.f30 rR
 | succ n f=>exact mk (k:=0+n) A.f30 A.g ["sentence"] rR ["within", "piece"] ["_law_nexts", "max", "int"] [0,1] [] [1,2] λX S I g=>
  (bP (gL (cT (fR I.r) (bQ (av S 0) w_de_int) (w_de_tup (bK w_de_str (bg w_de_str)))) (dA w_de_int) gM) (bP (d3 S false 1 (sg S 1 rfl rfl I.e.n9 (bg (jh [2] [] [0] S 2 (mi (ml (av S 0) w_de_int)) (λ_ _ _=>w_df_nil) (λc a F1=>have I:=F1.i I;(dM a 0 (I.c f) (bg (av a 2)))))) (aZ rfl) rfl)) (dA (mf (av S 1) (Ki S 2 rfl rfl I.e.n4 (bg (ji (b9 I.r) (bQ (av S 0) w_de_int) w_de_str)) (aZ rfl) rfl)))))
theorem lA:DefOk P w K mg base 60 "_law_nexts" 1 gc:=jt A 60
theorem js (n:Nat):DefOk P w K mg base (0+n) "_law_plain" 1 (cg n):=by
 induction n with
 | zero=>exact Je A.f31 rR
 | succ n f=>exact mk (k:=0+n) A.f31 A.g ["sentence"] rR ["piece"] ["len", "int", "isinstance", "tuple", "_law_plain", "all"] [0] [] [0,1,5] λX S I g=>
  (bP (gL (cT (b9 I.r) (bQ (av S 0) w_de_int) w_de_str) (dA (ji (b9 I.r) (iw S 0 I.e.n0 (bg (av S 0))) w_de_int)) gM) (bP (gL (cT (b9 I.r) (bQ (av S 0) w_de_int) w_de_str) (dA (xB (ji (b9 I.r) (iw S 0 I.e.n0 (bg (av S 0))) w_de_int) (zQ (ji (fR I.r) (bQ (av S 0) w_de_int) (p9 .leaf (bK w_de_str (bK w_de_str (bK w_de_str (bK w_de_str (bK w_de_str (bg w_de_str))))))))))) gM) (bP (gL (xi (uq (cT (D8 I.r) (bQ (av S 0) w_de_int) (w_de_tup (bK w_de_str (bK w_de_str (bg w_de_str))))) (zP (cT (oX I.r) (iw S 0 I.e.n0 (bg (av S 0))) (mf w_de_int (Ki S 1 rfl rfl I.e.n4 (bg (ji (b9 I.r) (bQ (av S 0) w_de_int) w_de_str)) (aZ rfl) rfl)))))) (dA IG) gM) (dA (AY S 5 rfl rfl I.e.n2 (bg (jh [1] [] [2,3,4] S 1 (mi (ml (av S 0) w_de_int)) (λ_ _ _=>w_df_nil) (λc a F1=>have I:=F1.i I;(xB (mn a 2 3 rfl rfl rfl rfl rfl rT I.e.n10 I.e.n11 (av a 1) (aZ rfl) (aZ rfl) rfl) (zQ (dM a 4 (I.c f) (bg (av a 1)))))))) (aZ rfl) rfl)))))
theorem lz:DefOk P w K mg base 60 "_law_plain" 1 fY:=js A 60
theorem o_law {z:Addr} (c:mg "law"=some (.ref z)):∃o:FuncData,(∀(s:Shared) (v:Value),BindsTo s o ⟨[v],[]⟩ [("script",v)])/\∀base:Heap,K.In base->base.Ns mainGlobals mg->cC P w K mg base g5 63 z o ["script"] (qu K 1 m_law):=MW A.f32 A.g "script" rR c ["world", "one", "other", "handed", "found", "due", "rooms"] ["_law_like_world", "_law_cell_at", "len", "_law_twin", "apart", "_law_rounds", "isinstance", "tuple", "_law_plain", "_law_nexts", "_law_judge"] [0,1,2,3,4,5,6,7] [] [0,1,2,3,4,5,6,7,8,9,10] λbase X S I g=>
 (bP (d3 S false 1 (dM S 0 (I.c (fV A)) (bK (av S 0) (bK w_de_int (bg w_de_int))))) (bP (d3 S false 2 (uB (dM S 1 (I.c (EW A)) (bK (av S 0) (bg w_de_int))) (iw S 2 I.e.n0 (bg (bQ (av S 1) w_de_int))))) (bP (d3 S false 3 (uB (EN (dM S 1 (I.c (EW A)) (bK (av S 0) (bg w_de_int))) w_de_int) (iw S 2 I.e.n0 (bg (bQ (av S 1) w_de_int))))) (bP (d3 S false 4 (dM S 3 (I.c (gX A)) (bg (av S 1)))) (bP (d3 S false 5 (dM S 4 (I.c (yD A)) (bK (av S 4) (bK (av S 2) (bg (av S 3)))))) (bP (d3 S false 6 (dM S 5 (I.c (jA A)) (bK (av S 1) (bK (av S 2) (bg (av S 3)))))) (bP (gL (xi (uq (cT (vm I.r) (av S 5) w_de_none) (zP (cT (vm I.r) (av S 6) w_de_none)))) (dA (xB (ji (vm I.r) (av S 5) w_de_none) (xB (ji (vm I.r) (av S 6) w_de_none) (zQ (ji (b9 I.r) (av S 4) (av S 1)))))) gM) (bP (gL (xi (uq (Ed (w_dt_tru (mn S 6 7 rfl rfl rfl rfl rfl rT I.e.n10 I.e.n11 (av S 5) (aZ rfl) (aZ rfl) rfl) (λ_=>rfl))) (uq (Ed (w_dt_tru (dM S 8 (I.c (lz A)) (bg (av S 5))) (λ_=>rfl))) (uq (cT (oX I.r) (dM S 9 (I.c (lA A)) (bg (av S 5))) (av S 6)) (zP (cT (oX I.r) (av S 4) (av S 1))))))) (dA IG) gM) (bP (d3 S false 7 (dM S 10 (I.c (lB A)) (bK (av S 1) (bg (av S 5))))) (dA (xB (ji (fR I.r) (av S 2) (av S 7)) (zQ (ji (D8 I.r) (av S 3) (av S 7))))))))))))))
end
end KC.Ap.S
open PySem PySem.W PyProof.Rows
def PySem.W.Fast.tw15960139712397076643:=0
def PySem.W.Fast.tw12872211127856799852:=0
def PySem.W.Fast.tw3553332284833126252:=0
def PySem.W.Fast.tw2045095597997264046:=0
def PySem.W.Fast.tw9864147602163573745:=0
def PySem.W.Fast.tw15524779513113926674:=0
def PySem.W.Fast.tw11611966798506261526:=0
def PySem.W.Fast.tw11284825167019434008:=0
def PySem.W.Fast.tw10031755386795948219:=0
def PySem.W.Fast.tw13935654934021331675:=0
def PySem.W.Fast.tw4848758655731411900:=0
def PySem.W.Fast.tw12190166061288996989:=0
set_option maxRecDepth 100000 in
set_option maxHeartbeats 0 in
theorem PySem.Challenge.cw_foreseehall_k46_sentences_that_tell_apar_holds : PySem.Challenge.rw_foreseehall_k46_sentences_that_tell_apar.Holds := by
 w_on;o_law;k_head;(case hw=>w_witness2)
 k_fill
 refine T.walkG (j:=63) (l:=PySem.Challenge.rw_foreseehall_k46_sentences_that_tell_apar) KC.Ap.S.law_true ⟨rfl,by decide,by decide,rfl⟩ rfl rfl (λw h Y=>PySem.W.kIn_of Y) ?F
 case F=>
  intro w mg fa h KX G hmg;refine' KC.Ap.S.o_law (.mk (.mk (T.gn KX G ?z0) (T.gn KX G ?z1) (T.gn KX G ?z2) (T.gn KX G ?z3) (T.gn KX G ?z4) (T.gn KX G ?z5) (T.gn KX G ?z6) (T.gn KX G ?z7) (T.gn KX G ?z8) (T.gn KX G ?z9) (T.gn KX G ?z10) (T.gn KX G ?z11) (T.gt KX G ?e0 ?q0 ?v0) (T.gi KX G ?e1) (T.gt KX G ?e2 ?q2 ?v2) (T.gi KX G ?e3)) (T.ft KX G ?a0 ?l0 ?c0 ?k0) (T.ft KX G ?a1 ?l1 ?c1 ?k1) (T.ft KX G ?a2 ?l2 ?c2 ?k2) (T.ft KX G ?a3 ?l3 ?c3 ?k3) (T.ft KX G ?a4 ?l4 ?c4 ?k4) (T.ft KX G ?a5 ?l5 ?c5 ?k5) (T.ft KX G ?a6 ?l6 ?c6 ?k6) (T.ft KX G ?a7 ?l7 ?c7 ?k7) (T.ft KX G ?a8 ?l8 ?c8 ?k8) (T.ft KX G ?a9 ?l9 ?c9 ?k9) (T.ft KX G ?a10 ?l10 ?c10 ?k10) (T.ft KX G ?a11 ?l11 ?c11 ?k11) (T.ft KX G ?a12 ?l12 ?c12 ?k12) (T.ft KX G ?a13 ?l13 ?c13 ?k13) (T.ft KX G ?a14 ?l14 ?c14 ?k14) (T.ft KX G ?a15 ?l15 ?c15 ?k15) (T.ft KX G ?a16 ?l16 ?c16 ?k16) (T.ft KX G ?a17 ?l17 ?c17 ?k17) (T.ft KX G ?a18 ?l18 ?c18 ?k18) (T.ft KX G ?a19 ?l19 ?c19 ?k19) (T.ft KX G ?a20 ?l20 ?c20 ?k20) (T.ft KX G ?a21 ?l21 ?c21 ?k21) (T.ft KX G ?a22 ?l22 ?c22 ?k22) (T.ft KX G ?a23 ?l23 ?c23 ?k23) (T.ft KX G ?a24 ?l24 ?c24 ?k24) (T.ft KX G ?a25 ?l25 ?c25 ?k25) (T.ft KX G ?a26 ?l26 ?c26 ?k26) (T.ft KX G ?a27 ?l27 ?c27 ?k27) (T.ft KX G ?a28 ?l28 ?c28 ?k28) (T.ft KX G ?a29 ?l29 ?c29 ?k29) (T.ft KX G ?a30 ?l30 ?c30 ?k30) (T.ft KX G ?a31 ?l31 ?c31 ?k31) (T.ft KX G ?a32 ?l32 ?c32 ?k32)) hmg
  case a0|l0|c0|k0|a1|l1|c1|k1|a2|l2|c2|k2|a3|l3|c3|k3|a4|l4|c4|k4|a5|l5|c5|k5|a6|l6|c6|k6|a7|l7|c7|k7|a8|l8|c8|k8|a9|l9|c9|k9|a10|l10|c10|k10|a11|l11|c11|k11|a12|l12|c12|k12|a13|l13|c13|k13|a14|l14|c14|k14|a15|l15|c15|k15|a16|l16|c16|k16|a17|l17|c17|k17|a18|l18|c18|k18|a19|l19|c19|k19|a20|l20|c20|k20|a21|l21|c21|k21|a22|l22|c22|k22|a23|l23|c23|k23|a24|l24|c24|k24|a25|l25|c25|k25|a26|l26|c26|k26|a27|l27|c27|k27|a28|l28|c28|k28|a29|l29|c29|k29|a30|l30|c30|k30|a31|l31|c31|k31|a32|l32|c32|k32|z0|z1|z2|z3|z4|z5|z6|z7|z8|z9|z10|z11|e0|q0=>k_is
  case v0=>kernel_rfl
  case e1|e2|q2=>k_is
  case v2=>kernel_rfl
  case e3=>k_is
