import PyProof.Rows.All
import Wide.All
import OpenK.AllK
import Wide.FinOn
import Lean
import PyProof.EqAt
import PyProof.EqKinds
import PyProof.TupleCall
import PyProof.ZipIter
import PyProof.WalksMore
import PyProof.CompFree
import PyProof.NeKinds
import KE.KRevIter
import PyProof.Rows.Range3
import KE.KIntText
import OpenK.KOwn
import PyProof.NsDelKeeps
import KE.KIsAll
import PyProof.CompMap
import PyProof.Cells
import PyProof.ConsumeWalk
import PyProof.SumWalk
import PyProof.Rows.SortShell
import PyProof.MeetsStr
import PyProof.StrOps2
import PyProof.DictWalks
import PyProof.Rows.SetFrom
import PyProof.SetRoads
import PyProof.ListRange
import PyProof.ListNew
import PySem.Challenge.RW_partsmith_k22_instruments
local macro_rules|`(tactic|omega)=>`(tactic|lia)
local macro_rules|`(nofun)=>`(by omega)
set_option Elab.async false
set_option linter.all false
set_option maxRecDepth 100000
set_option maxHeartbeats 8000000
def qa_1(h:True:=by first | exact .inl rfl | exact .inr rfl | assumption):=h
def qa_:=qa_1._auto_1
def qb_1(h:True:=by decide):=h
def qb_:=qb_1._auto_1
def qc_1(h:True:=by first | exact Fo _ (by decide) (by decide) | rfl):=h
def qc_:=qc_1._auto_1
def qd_1(h:True:=by intro _;rfl):=h
def qd_:=qd_1._auto_1
def qe_1(h:True:=by rfl):=h
def qe_:=qe_1._auto_1
def qf_1(h:True:=by with_unfolding_all rfl):=h
def qf_:=qf_1._auto_1
def qg_1(h:True:=by first | exact Or.inl rfl | exact Or.inr (Or.inl rfl) | exact Or.inr (Or.inr rfl)):=h
def qg_:=qg_1._auto_1
def qh_1(h:True:=by repeat constructor):=h
def qh_:=qh_1._auto_1
def qi_1(h:True:=by first | exact Or.inl rfl | exact Or.inr rfl):=h
def qi_:=qi_1._auto_1
def qj_1(h:True:=by intro vs H Q E h;(repeat (first | (obtain⟨rfl,_⟩:=h;rfl) | obtain⟨_,h⟩:=h))):=h
def qj_:=qj_1._auto_1
def qk_1(h:True:=by decide +kernel):=h
def qk_:=qk_1._auto_1
def ql_1(h:True:=by repeat' (first | exact trivial | exact .inl rfl | exact rfl | constructor)):=h
def ql_:=ql_1._auto_1
def qm_1(h:True:=by k_is):=h
def qm_:=qm_1._auto_1
def qn_1(h:True:=by intros;rfl):=h
def qn_:=qn_1._auto_1
def za:=@List.length_map
def zb:=@List.getElem?_eq_getElem
def zd:=@decide_eq_false
def ze:=@decide_eq_true
def zg:=@List.length_append
def zh:=@List.map_cons
def zj:=@List.map_append
def zk:=@Nat.le_refl
def zm:=@List.mem_cons_of_mem
def zp:=@List.mem_cons_self
def zr:=@Int.emod_lt_of_pos
def zt:=@List.length_cons
def zv:=@Int.emod_nonneg
def zw:=@List.getElem?_eq_some_iff
def zy:=@List.mem_singleton
def zA:=@List.map_map
def zB:=@List.mem_of_getElem?
def zC:=@List.mem_cons
def zD:=@List.not_mem_nil
def zE:=@List.append_assoc
def zF:=@List.mem_append
def zG:=@List.mem_map
def zH:=@List.mem_append_right
def zI:=@List.mem_append_left
def zJ:=@List.getElem?_map
def zK:=@Bool.false_ne_true
def zL:=@Nat.le_trans
def zM:=@List.take_length
def zN:=@Bool.and_eq_true
def zO:=@List.mem_map_of_mem
def zP:=@List.length_take
def zQ:=@List.length_range
def zR:=@List.nodup_append
def zT:=@List.pairwise_append
def zU:=@List.append_nil
def zV:=@Int.ediv_nonneg
def zW:=@Int.ediv_le_self
def zX:=@List.foldl_append
def zY:=@List.take_append_drop
def zZ:=@List.getElem?_append_right
def z9:=@List.flatten_cons
def ya:=@List.size_toArray
def yb:=@Nat.lt_of_lt_of_le
def yc:=@List.nodup_cons
def yd:=@of_decide_eq_true
def ye:=@Nat.lt_irrefl
def yf:=@Nat.zero_le
def yg:=@Nat.le_of_lt
def yh:=@Nat.ne_of_gt
def yi:=@Nat.ne_of_lt
def yj:=@Option.some.inj
def yk:=@List.getElem_mem
def ym:=@List.map_nil
def yn:=@List.any_eq_true
def yo:=@List.all_eq_true
def yp:=@List.lookup_cons
def yq:=@List.length_pos_iff
def yr:=@List.length_eq_zero_iff
def yt:=@PySem.wpAny_bind
def yu:=@PySem.Heap.get?_push_of_some
def yv:=@PySem.wpAny_pure
def yw:=@PySem.Heap.get?_push_size
def yx:=@PySem.Heap.lt_size
def yy:=@PySem.Heap.get?_update_other
def yz:=@PySem.Heap.get?_update_self
abbrev yA:=PySem.W.Frag
def yB:=@PySem.sizeLine_eq
namespace L2
open PySem PySem.Spec PyProof.Rows
abbrev Key:=Sum Int Str
def BV:Key->Value->Bool
 | .inl k,v=>Value.isInt k v
 | .inr x,v=>Value.isStrOf x v
def Sl (w:World):Key->Int
 | .inl k=>hashInt k
 | .inr x=>hashStr w x
theorem df:∀{k:Key} {v:Value},BV k v=true->(∃i t,k=Sum.inl i/\v=Value.int i t)\/(∃x t,k=Sum.inr x/\v=Value.str x t)
 | .inl i,v,h=>by
  obtain⟨t,e⟩:=Value.isInt_shape (k:=i) (v:=v) h;exact .inl ⟨i,t,rfl,e⟩
 | .inr x,v,h=>by
  obtain⟨t,e⟩:=Value.isStrOf_shape (x:=x) (v:=v) h;exact .inr ⟨x,t,rfl,e⟩
theorem JQ (i:Int) (t:Tok):BV (.inl i) (.int i t)=true:=by simp[BV,Value.isInt]
theorem oH (x:Str) (t:Tok):BV (.inr x) (.str x t)=true:=by simp[BV,Value.isStrOf]
theorem PJ (a b:Int):decide ((Sum.inl a:Key)=Sum.inl b)=(a == b):=by
 by_cases e:a=b
 ·subst e;simp
 ·have h:¬(Sum.inl a:Key)=Sum.inl b:=fun q=>e (Sum.inl.inj q)
  rw[zd h];exact(beq_eq_false_iff_ne.mpr e).symm
theorem PD (a b:Str):decide ((Sum.inr a:Key)=Sum.inr b)=decide (a=b):=by
 by_cases e:a=b
 ·subst e;simp
 ·have h:¬(Sum.inr a:Key)=Sum.inr b:=fun q=>e (Sum.inr.inj q)
  rw[zd h,zd e]
theorem PH (a:Int) (b:Str):decide ((Sum.inl a:Key)=Sum.inr b)=false:=zd (fun q=>nomatch q)
theorem PF (a:Str) (b:Int):decide ((Sum.inr a:Key)=Sum.inl b)=false:=zd (fun q=>nomatch q)
def cY (prog:Program) (w:World):PySem.KeyKind prog w Key where
 is:=BV
 hash:=Sl w
 inj:=fun v a b ha hb=>by
  rcases df ha with⟨i,t,rfl,rfl⟩ | ⟨x,t,rfl,rfl⟩
  ·rcases df hb with⟨j,u,rfl,e⟩ | ⟨y,u,rfl,e⟩
   ·injection e with e1 _;rw[e1]
   ·exact nomatch e
  ·rcases df hb with⟨j,u,rfl,e⟩ | ⟨y,u,rfl,e⟩
   ·exact nomatch e
   ·injection e with e1 _;rw[e1]
 byValue:=fun k v h=>by
  rcases df h with⟨i,t,rfl,rfl⟩ | ⟨x,t,rfl,rfl⟩ <;> rfl
 pyHash:=fun hv h=>by
  rcases df hv with⟨i,t,rfl,rfl⟩ | ⟨x,t,rfl,rfl⟩
  ·exact wpAny_pyHash_int h
  ·exact wpAny_pyHash_str h
 eqBool:=fun hu hv h=>by
  rcases df hu with⟨i,t,rfl,rfl⟩ | ⟨x,t,rfl,rfl⟩
  ·rcases df hv with⟨j,u,rfl,rfl⟩ | ⟨y,u,rfl,rfl⟩
   ·rw[PJ] at h;exact wpAny_eqBool_int h
   ·rw[PH] at h;exact SeqAt.EqAt.int_str i t y u _ _ _ _ h
  ·rcases df hv with⟨j,u,rfl,rfl⟩ | ⟨y,u,rfl,rfl⟩
   ·rw[PF] at h;exact SeqAt.EqAt.str_int x t j u _ _ _ _ h
   ·rw[PD] at h;exact wpAny_eqBool_str h
 «strs»:=fun k x t v h=>by
  rcases df h with⟨i,u,rfl,e⟩ | ⟨y,u,rfl,e⟩
  ·exact nomatch e
  ·injection e with e1 _
   subst e1;cases v <;> rfl
theorem Fq (prog:Program) (w:World) (i:Int) (t:Tok):(cY prog w).is (.inl i) (.int i t)=true:=JQ i t
theorem vb (prog:Program) (w:World) (x:Str) (t:Tok):(cY prog w).is (.inr x) (.str x t)=true:=oH x t
end L2
namespace L2
open PySem PySem.Spec PyProof.Rows
inductive V where
 | bE | bl (b:Bool) | int (i:Int) | str (x:Str) | IX (b:Array UInt8) | NM (b:UInt64) | ref (a:Addr) | ty (n:String)
 deriving DecidableEq
def RelV:V->Value->Prop
 | .bE,u=>u=Value.none
 | .bl b,u=>u=Value.bool b
 | .int i,u=>∃t,u=Value.int i t
 | .str x,u=>∃t,u=Value.str x t
 | .IX b,u=>∃t,u=Value.bytes b t
 | .NM b,u=>∃t,u=Value.float b t
 | .ref a,u=>u=Value.ref a
 | .ty n,u=>u=Value.type n
abbrev Vals:List V->List Value->Prop:=Paired RelV
theorem Vals.length (r:Vals xs us):xs.length=us.length:=Paired.length r
theorem Vals.get:∀{xs:List V} {us:List Value} {i:Nat} {x:V},Vals xs us->xs[i]?=some x->∃u,us[i]?=some u/\RelV x u
 | _,_,_,_,.nil,e=>by simp at e
 | _,_,0,_,.cons r _,e=>by simp at e;subst e;exact⟨_,rfl,r⟩
 | _,_,i+1,x,.cons _ t,e=>by
  obtain⟨u,h1,h2⟩:=Vals.get (i:=i) (x:=x) t (by simpa using e);exact⟨u,by simpa using h1,h2⟩
theorem Vals.append:∀{xs ys:List V} {us ws:List Value},Vals xs us->Vals ys ws->Vals (xs++ys) (us++ws)
 | _,_,_,_,.nil,s=>s
 | _,_,_,_,.cons r t,s=>.cons r (Vals.append t s)
theorem Vals.take:∀{xs:List V} {us:List Value} (n:Nat),Vals xs us->Vals (xs.take n) (us.take n)
 | _,_,0,_=>.nil
 | _,_,_+1,.nil=>.nil
 | _,_,n+1,.cons r t=>.cons r (Vals.take n t)
theorem Vals.drop:∀{xs:List V} {us:List Value} (n:Nat),Vals xs us->Vals (xs.drop n) (us.drop n)
 | _,_,0,r=>r
 | _,_,_+1,.nil=>.nil
 | _,_,n+1,.cons _ t=>Vals.drop n t
def l0:Option V->Option Value->Prop
 | some v,some u=>RelV v u
 | none,none=>True
 | _,_=>False
def KV:List (κ×V)->List (κ×Value)->Prop:=Paired fun(p:κ×V) (q:κ×Value)=>p.1=q.1/\RelV p.2 q.2
def kV:Key->V
 | .inl i=>.int i
 | .inr x=>.str x
inductive HO where
 | lst (xs:List V)
 | tup (xs:List V)
 | dK (kvs:List (Key×V)) | dT (kvs:List (List Key×V))
 | set (S:Int->Bool) (n:Nat)
 | ins (C dx:Addr) (fs:List (Str×V))
 | own (x:Addr)
 | xd (fs:List (Str×V))
 | met (f x:Addr)
 | JA (lo hi:Int)
 | mW (o:Obj) (u:HO)
 | KW (ps:Array Value)
 | ext (φ:Heap->Prop)
abbrev Hp:=Addr->Option HO
def upd (H:Hp) (a:Addr) (o:HO):Hp:=fun b=>if b=a then some o else H b
theorem aF:upd H a o a=some o:=by unfold upd;rw[if_pos rfl]
theorem aG (h:b≠a):upd H a o b=H b:=by unfold upd;rw[if_neg h]
theorem bo {H:Hp} {a b:Addr} {o u:HO} (h:H a=some o) (h':H b=some u) (d:o≠u):a≠b:=by
 intro e;subst e;rw[h] at h';exact d (yj h')
theorem bu {H:Hp} {a b:Addr} {o:HO} (h:H a=some o) (h':H b=none):a≠b:=by
 intro e;subst e;rw[h] at h';cases h'
section
variable (P:Program) (w:World)
def cz (H:Hp) (h:Heap) (a:Addr):HO->Prop
 | .lst xs=>xs.length<=sizeLine/\∃(its:List Value) (n:Nat),Vals xs its/\h.get? a=some {cls:=.type "list",data:=.seq its.toArray n}
 | .tup xs=>xs.length<=sizeLine/\∃its:List Value,Vals xs its/\IsTup h a its.toArray
 | .dK kvs=>kvs.length<=sizeLine/\(a == sysModules)=false/\∃vs,KV kvs vs/\h.DictOf (cY P w) a vs
 | .dT kvs=>kvs.length<=sizeLine/\(a == sysModules)=false/\∃xs:List (List Key×Addr×Value),
   Paired (fun(p:List Key×V) (q:List Key×Addr×Value)=>p.1=q.1/\H q.2.1=some (.tup (p.1.map kV))/\RelV p.2 q.2.2) kvs xs/\
   ∃o es ep,h.get? a=some o/\o.ExactDict/\o.data=.dict es ep/\es.toList=xs.map (entryOfKey (tupleKind (cY P w)))/\(xs.map (·.1)).Nodup
 | .set S n=>h.SetOf (intKind P w) a S n
 | .ins C dx fs=>H dx=some (.own a)/\fs.length<=1000/\dx≠a/\h.get? a=some (PySem.W.instObj C dx)/\
   ∃mA,h.Ns1 dx mA/\(∀f,l0 (fs.lookup f) (mA f))/\PySem.Within mA (fs.map (·.1))
 | .own _=>∃o,h.get? a=some o
 | .xd fs=>∃mA,h.Ns1 a mA/\∀f,l0 (fs.lookup f) (mA f)
 | .JA lo hi=>∃t u v,h.get? a=some {cls:=.type "range",data:=.fields #[.int lo t,.int hi u,.int 1 v]}
 | .mW o u=>h.get? a=some o/\cz H h a u
 | .KW ps=>h.get? a=some {cls:=.none,data:=.fields ps}
 | .met f x=>h.get? a=some (PySem.W.methodObj (.ref f) (.ref x))
 | .ext φ=>φ h/\(∃o,h.get? a=some o)/\∀h1 h2:Heap,φ h1->(∀o,h1.get? a=some o->h2.get? a=some o)->φ h2
def qO (H:Hp) (h:Heap):Prop:=∀a o,H a=some o->cz P w H h a o
end
section
variable {P:Program} {w:World} {H H':Hp} {h h':Heap} {a:Addr} {o:HO}
theorem cz.lt (x:cz P w H h a o):a<h.objs.size:=by
 cases o with
 | lst xs=>obtain⟨_,_,_,_,e⟩:=x;exact yx e
 | tup xs=>obtain⟨_,_,_,p⟩:=x;exact p.lt
 | dK kvs=>obtain⟨_,_,_,_,o,_,_,e,_⟩:=x;exact yx e
 | dT kvs=>obtain⟨_,_,_,_,o,_,_,e,_⟩:=x;exact yx e
 | set S n=>obtain⟨o,_,_,_,e,_⟩:=x;exact yx e
 | ins C dx fs=>obtain⟨_,_,_,e,_⟩:=x;exact yx e
 | own y=>obtain⟨_,e⟩:=x;exact yx e
 | xd fs=>obtain⟨_,⟨_,_,_,e,_⟩,_⟩:=x;exact yx e
 | JA lo hi=>obtain⟨_,_,_,e⟩:=x;exact yx e
 | mW ob u=>obtain⟨e,_⟩:=x;exact yx e
 | KW ps=>exact yx (show h.get? a=some _ from x)
 | met f y=>exact yx (show h.get? a=some _ from x)
 | ext φ=>obtain⟨_,⟨_,e⟩,_⟩:=x;exact yx e
theorem Paired.Py:∀{l₁:List α} {l₂:List β},Paired F l₁ l₂->(∀a b,F a b->G a b)->Paired G l₁ l₂
 | _,_,.nil,_=>.nil
 | _,_,.cons r t,f=>.cons (f _ _ r) (Paired.Py t f)
theorem cz.lg (x:cz P w H h a o) (k:∀b u,(b=a\/H b=some (.own a))->h.get? b=some u->h'.get? b=some u)
  (ho:∀b,H b=some (.own a)->H' b=some (.own a)) (ht:∀b xs,H b=some (.tup xs)->H' b=some (.tup xs)):cz P w H' h' a o:=by
 induction o with
 | lst xs=>obtain⟨z,its,n,r,e⟩:=x;exact⟨z,its,n,r,k _ _ (.inl rfl) e⟩
 | tup xs=>obtain⟨z,its,r,ob,e,c⟩:=x;exact⟨z,its,r,ob,k _ _ (.inl rfl) e,c⟩
 | dK kvs=>obtain⟨z,y,vs,r,ob,es,ep,e,c⟩:=x;exact⟨z,y,vs,r,ob,es,ep,k _ _ (.inl rfl) e,c⟩
 | dT kvs=>
  obtain⟨z,y,xs,r,ob,es,ep,e,c⟩:=x;exact⟨z,y,xs,Paired.Py r fun p q z=>⟨z.1,ht _ _ z.2.1,z.2.2⟩,ob,es,ep,k _ _ (.inl rfl) e,c⟩
 | set S n=>obtain⟨ob,es,ep,t,e,c⟩:=x;exact⟨ob,es,ep,t,k _ _ (.inl rfl) e,c⟩
 | ins C dx fs=>
  obtain⟨d,z,ne,e,mA,⟨od,es,ep,e2,c⟩,r⟩:=x;exact⟨ho _ d,z,ne,k _ _ (.inl rfl) e,mA,⟨od,es,ep,k _ _ (.inr d) e2,c⟩,r⟩
 | own y=>obtain⟨ob,e⟩:=x;exact⟨ob,k _ _ (.inl rfl) e⟩
 | xd fs=>obtain⟨mA,⟨od,es,ep,e,c⟩,r⟩:=x;exact⟨mA,⟨od,es,ep,k _ _ (.inl rfl) e,c⟩,r⟩
 | JA lo hi=>obtain⟨t,u,v,e⟩:=x;exact⟨t,u,v,k _ _ (.inl rfl) e⟩
 | mW ob u ih=>obtain⟨e,q⟩:=x;exact⟨k _ _ (.inl rfl) e,ih q⟩
 | KW ps=>
  have e:h.get? a=some {cls:=.none,data:=.fields ps}:=x;show h'.get? a=some {cls:=.none,data:=.fields ps};exact k a _ (.inl rfl) e
 | met f y=>
  have e:h.get? a=some (PySem.W.methodObj (.ref f) (.ref y)):=x;show h'.get? a=some (PySem.W.methodObj (.ref f) (.ref y));exact k a _ (.inl rfl) e
 | ext φ=>obtain⟨p,⟨o,e⟩,st⟩:=x;exact⟨st _ _ p fun o q=>k _ _ (.inl rfl) q,⟨o,k _ _ (.inl rfl) e⟩,st⟩
theorem qO.lt (x:qO P w H h) (e:H a=some o):a<h.objs.size:=(x a o e).lt
theorem qO.fresh (x:qO P w H h) (e:h.objs.size<=a):H a=none:=by
 cases q:H a with
 | none=>rfl
 | some u=>exact absurd (yb (x.lt q) e) (ye _)
theorem qO.kept (x:qO P w H h) (k:∀b u,h.get? b=some u->h'.get? b=some u):qO P w H h':=fun a o e=>
 (x a o e).lg (fun b u _ q=>k b u q) (fun _ q=>q) fun _ _ q=>q
theorem qO.laid (x:qO P w H h) (k:∀b u,h.get? b=some u->h'.get? b=some u) (hp:h.objs.size<=a) (new:cz P w (upd H a o) h' a o):qO P w (upd H a o) h':=fun b u e=>by
 have hn:=x.fresh hp
 by_cases hb:b=a
 ·subst hb;rw[aF] at e;cases e;exact new
 ·rw[aG hb] at e
  exact(x b u e).lg (fun c v _ q=>k c v q) (fun c q=>by rw[aG (bu q hn)];exact q) fun c xs q=>by rw[aG (bu q hn)];exact q
end
def Rd (H:Hp) (a:Addr) (u:HO):Prop:=H a=some u\/∃o,H a=some (.mW o u)
theorem Rd.ok (r:Rd H a u) (x:qO P w H h):cz P w H h a u:=by
 rcases r with r | ⟨o,r⟩
 ·exact x a u r
 ·obtain⟨_,q⟩:=x a _ r
  exact q
def Ra:Option HO->Prop
 | some (.lst _)=>True
 | some (.dK _)=>True
 | some (.dT _)=>True
 | some (.set _ _)=>True
 | some (.ins _ _ _)=>True
 | some (.ext _)=>True
 | _=>False
section
variable {P:Program} {w:World} {H:Hp} {h h':Heap} {x e:Addr} {o':HO}
theorem qO.write (ok:qO P w H h) (mu:Ra (H x)) (he:e=x\/H e=some (.own x)) (k:∀b u,b≠e->h.get? b=some u->h'.get? b=some u) (heo:∃u,h'.get? e=some u)
  (new:cz P w (upd H x o') h' x o'):qO P w (upd H x o') h':=fun b u q=>by
 have nown:∀c y,H c=some (.own y)->c≠x:=fun c y r z=>by subst z;rw[r] at mu;exact mu
 have ntup:∀c xs,H c=some (.tup xs)->c≠x:=fun c xs r z=>by subst z;rw[r] at mu;exact mu
 by_cases hb:b=x
 ·subst hb;rw[aF] at q;cases q;exact new
 ·rw[aG hb] at q
  by_cases hbe:b=e
  ·have q':H b=some (.own x):=by
    rcases he with z | z
    ·exact absurd (hbe.trans z) hb
    ·rw[hbe];exact z
   rw[q] at q';cases q';obtain⟨v,hv⟩:=heo;exact⟨v,by rw[hbe];exact hv⟩
  ·refine(ok b u q).lg (fun c v hc r=>k c v ?_ r) (fun c r=>by rw[aG (nown c b r)];exact r) fun c xs r=>by rw[aG (ntup c xs r)];exact r
   rcases hc with rfl | hc
   ·exact hbe
   ·rintro rfl
    rcases he with z | z
    ·exact nown c b hc z
    ·rw[hc] at z;cases z;exact hb rfl
end
structure Un (fs ex:List Addr) (H H':Hp) (h h':Heap):Prop where
 keep:∀b o,h.get? b=some o->H b=none->b∉fs->b∉ex->h'.get? b=some o
 slot:∀b o,h.get? b=some o->H b=none->b∈fs->b∉ex->∃sl,h'.get? b=some {o with slots:=sl}
 free:∀b o,h.get? b=some o->H b=none->b∉ex->H' b=none
 there:∀b o,h.get? b=some o->b∉ex->∃o',h'.get? b=some o'
 oN:∀b xs,H b=some (.tup xs)->H' b=some (.tup xs)
 mR:∀b o u,H b=some (.mW o u)->H' b=some (.mW o u)
 oO:∀b ps,H b=some (.KW ps)->∃more,H' b=some (.KW (ps++more))
section
variable {fs fs' ex ex':List Addr} {H H1 H2:Hp} {h h1 h2 h':Heap} {a x e:Addr} {o:HO}
theorem Un.any (u:Un fs ex H H1 h h1) (q:h.get? b=some ob) (n:H b=none) (hx:b∉ex):∃sl,h1.get? b=some {ob with slots:=sl}:=by
 by_cases hb:b∈fs
 ·exact u.slot b ob q n hb hx
 ·exact⟨ob.slots,u.keep b ob q n hb hx⟩
theorem Un.kept (k:∀b u,h.get? b=some u->h'.get? b=some u):Un fs ex H H h h':=
 ⟨fun b ob q _ _ _=>k b ob q,fun b ob q _ _ _=>⟨ob.slots,k b ob q⟩,fun _ _ _ n _=>n,fun b ob q _=>⟨ob,k b ob q⟩,fun _ _ q=>q,fun _ _ _ q=>q,fun _ ps q=>⟨#[],by rw[q];simp⟩⟩
theorem Un.refl:Un fs ex H H h h:=Un.kept fun _ _ q=>q
theorem Un.laid (k:∀b u,h.get? b=some u->h'.get? b=some u) (hp:h.objs.size<=a) (hn:H a=none):Un fs ex H (upd H a o) h h' where
 keep:=fun b u q _ _ _=>k b u q
 slot:=fun b u q _ _ _=>⟨u.slots,k b u q⟩
 free:=fun b u q n _=>by rw[aG (yi (yb (yx q) hp))];exact n
 there:=fun b u q _=>⟨u,k b u q⟩
 oN:=fun b xs q=>by rw[aG (bu q hn)];exact q
 mR:=fun b u xs q=>by rw[aG (bu q hn)];exact q
 oO:=fun b ps q=>⟨#[],by rw[aG (bu q hn),q];simp⟩
theorem Un.write (mu:Ra (H x)) (he:e=x\/H e=some (.own x)) (k:∀b u,b≠e->h.get? b=some u->h'.get? b=some u) (heo:∃u,h'.get? e=some u):Un fs ex H (upd H x o) h h':=by
 have hx:∀b,H b=none->b≠x:=fun b n z=>by subst z;rw[n] at mu;exact mu
 have hb:∀b,H b=none->b≠e:=fun b n z=>by
  subst z;rcases he with r | r
  ·exact hx b n r
  ·rw[n] at r;cases r
 have hm:∀b u,H b=some u->¬Ra (some u)->b≠x:=fun b u q nm z=>by subst z;rw[q] at mu;exact nm mu
 refine⟨fun b u q n _ _=>k b u (hb b n) q,fun b u q n _ _=>⟨u.slots,k b u (hb b n) q⟩,fun b u q n _=>by rw[aG (hx b n)];exact n,fun b u q _=>?_,
  fun b xs q=>by rw[aG (hm b _ q fun z=>z)];exact q,fun b u xs q=>by rw[aG (hm b _ q fun z=>z)];exact q,fun b ps q=>⟨#[],by rw[aG (hm b _ q fun z=>z),q];simp⟩⟩
 by_cases hbe:b=e
 ·subst hbe;exact heo
 ·exact⟨u,k b u hbe q⟩
end
def Rn (h:Heap) (H:Hp):List Addr:=(List.range h.objs.size).filter fun a=>(H a).isSome
def Di (h:Heap) (H:Hp):Heap:=PySem.W.hideAll h (Rn h H)
theorem JV (h:Heap) (H:Hp):(Di h H).objs.size=h.objs.size:=PySem.W.hideAll_size _ _
theorem Mc (e:h.get? b=some o) (n:H b=none):(Di h H).get? b=some o:=
 PySem.W.hideAll_get _ e fun hm=>by
  have q:(H b).isSome=true:=(List.mem_filter.mp hm).2;rw[n] at q;simp at q
theorem NA (e:(Di h H).get? b=some o):h.get? b=some o/\H b=none:=by
 have e':h.get? b=some o:=PySem.W.of_hideAll (Rn h H) e;refine⟨e',?_⟩;cases q:H b with
 | none=>rfl
 | some x=>
  have hm:b∈Rn h H:=List.mem_filter.mpr ⟨List.mem_range.mpr (yx e'),by simp[q]⟩;have z:(Di h H).get? b=none:=PySem.W.hideAll_none (Rn h H) hm;rw[z] at e;cases e
end L2
namespace L2
open PySem PySem.Spec PyProof.Rows
structure Mod (K:yA) (mg:Str->Option Value) (base:Heap):Prop where
 PB:K.In base
 glob:base.Ns mainGlobals mg
 blt:∃mb,base.Ns builtinsNs mb/\∀x:Str,x≠ "__name__"->mb x=bootBuiltins x
 nolimit:base.NoLimit
set_option genInjectivity false in
structure Cx where
 prog:Program
 w:World
 K:yA
 mg:Str->Option Value
 base:Heap
 A:Around
 N:List Str
 s₀:Shared
 H₀:Hp
 env:Env
 outer:List Env
 stack:List Env
 ex:List Addr
 fn:Str->Bool
 calm:Bool
 pn:List (Addr×Obj)
 xe:Value->Shared->Prop
def pN (l:List Env):List Addr:=l.filterMap (·.frame)
abbrev Cx.fs (X:Cx):List Addr:=pN X.outer
def P8 (sc:Scope) (x:Str):Prop:=sc.names.lookup x=some .local\/sc.names.lookup x=some .cell\/sc.names.lookup x=some .free
def Loc (sc:Scope) (x:Str):Prop:=sc.names.lookup x=some .local\/sc.names.lookup x=some .cell
def Look (env:Env) (h:Heap) (m:Str->Option Value) (x:Str) (u:Value):Prop:=
 (env.kindOf x=some .local/\m x=some u)\/((env.kindOf x=some .cell\/env.kindOf x=some .free)/\∃c,env.cells.lookup x=some c/\h.IsCell c (some u))
structure Cx.Ok (X:Cx):Prop where
 mod:Mod X.K X.mg X.base
 kind:X.env.scope.kind=.function
 glob:X.env.globals=mainGlobals
 blt:X.env.builtins=builtinsNs
 above:X.s₀.heap.objs.size<=X.env.locals
 inj:∀x y c,X.env.cells.lookup x=some c->X.env.cells.lookup y=some c->x=y
 has:∀x,(X.env.kindOf x=some .cell\/X.env.kindOf x=some .free)->∃c,X.env.cells.lookup x=some c
 P5:∀x c,X.fn x=true->X.env.cells.lookup x=some c->X.s₀.heap.objs.size<=c
 hd:X.calm=true->X.A.handled=none
 frames:X.A.frames=some X.stack
 Qf:X.stack=X.outer\/(X.stack=X.env::X.outer/\X.env.frame=some X.env.locals)
 Rq:∀b∈X.ex,b≠X.env.locals/\∀x c,X.env.cells.lookup x=some c->c≠b
 bs:∀b o,X.base.get? b=some o->X.s₀.heap.get? b=some o/\X.H₀ b=none
 Kw:X.base.objs.size<=X.s₀.heap.objs.size
 vT:∀b o,X.base.get? b=some o->b∉X.ex
 Hr:∀b∈X.ex,b∉X.fs
 oV:X.s₀.heap.FunFrames X.base X.outer
 FD:∀b∈X.fs,X.H₀ b=none
structure Inv (X:Cx) (pins:List (Addr×Obj)) (σ:List (Option V)) (H:Hp) (s:Shared):Prop where
 ok:X.Ok
 os:s.os=X.s₀.os
 bare:AllBare s.gens
 base:Un X.fs X.ex X.H₀ H X.s₀.heap s.heap
 loc:∃m,s.heap.Ns X.env.locals m/\∀(i:Nat) (x:Str) (v:V),X.N[i]?=some x->σ[i]?=some (some v)->P8 X.env.scope x->∃u,RelV v u/\Look X.env s.heap m x u
 cell:∀x c,X.env.cells.lookup x=some c->∃v,s.heap.IsCell c v
 free:H X.env.locals=none
 jY:∀x c,X.env.cells.lookup x=some c->H c=none
 pin:∀p∈X.pn++pins,s.heap.get? p.1=some p.2/\H p.1=none/\p.1≠X.env.locals/\p.1∉X.fs/\∀v,p.2.data≠.cell v
 bZ:qO X.prog X.w H s.heap
 len:σ.length=X.N.length
section
variable {X:Cx} {pins:List (Addr×Obj)} {σ:List (Option V)} {H H':Hp} {s:Shared} {h':Heap}
theorem Cx.Ok.Sj (ok:X.Ok) (e:X.base.get? b=some o):b∉X.fs:=fun hb=>by
 have:=(ok.oV.mem hb).1;rw[e] at this;cases this
theorem Inv.bs (I:Inv X pins σ H s):∀b o,X.base.get? b=some o->s.heap.get? b=some o/\H b=none:=fun b o e=>
 ⟨I.base.keep b o (I.ok.bs b o e).1 (I.ok.bs b o e).2 (I.ok.Sj e) (I.ok.vT b o e),I.base.free b o (I.ok.bs b o e).1 (I.ok.bs b o e).2 (I.ok.vT b o e)⟩
theorem Inv.bk (I:Inv X pins σ H s):∀b o,X.base.get? b=some o->s.heap.get? b=some o:=fun b o e=>(I.bs b o e).1
theorem Inv.mod (I:Inv X pins σ H s):Mod X.K X.mg X.base:=I.ok.mod
theorem Inv.sr (I:Inv X pins σ H s):X.K.In s.heap:=I.ok.mod.PB.keeps I.bk
theorem Inv.lt (I:Inv X pins σ H s):X.env.locals<s.heap.objs.size:=let ⟨_,hn,_⟩:=I.loc;hn.lt
theorem Inv.sz (I:Inv X pins σ H s):X.s₀.heap.objs.size<=s.heap.objs.size:=zL I.ok.above (yg I.lt)
theorem Inv.QK (I:Inv X pins σ H s) (h:s.heap.objs.size<=a):a∉X.fs:=fun hb=>by
 obtain⟨_,o,ho,_⟩:=I.ok.oV.mem hb;exact absurd (yb (yx ho) (zL I.sz h)) (ye _)
theorem Inv.MR (I:Inv X pins σ H s):∀x c,X.env.cells.lookup x=some c->c≠X.env.locals:=fun x c e z=>by
 obtain⟨v,o,ho,hd⟩:=I.cell x c e;obtain⟨m,⟨o',es,ep,ho',hd',_⟩,_⟩:=I.loc;rw[z,ho'] at ho;cases ho;rw[hd'] at hd;cases hd
theorem Inv.oV (I:Inv X pins σ H s):s.heap.FunFrames X.base X.outer:=by
 have all:∀(l:List Env),(∀b∈pN l,b∈X.fs)->X.s₀.heap.FunFrames X.base l->s.heap.FunFrames X.base l:=by
  intro l
  induction l with
  | nil=>intro _ _;trivial
  | cons env r ih=>
   intro hs hl;obtain⟨hk,⟨L,o,hf,hn,ho,hd⟩,hr⟩:=hl;have hL:L∈X.fs:=hs L (by unfold pN;rw[List.filterMap_cons,hf];exact zp);obtain⟨sl,e⟩:=I.base.slot L o ho (I.ok.FD L hL) hL fun z=>I.ok.Hr L z hL;exact⟨hk,⟨L,_,hf,hn,e,hd⟩,ih (fun b hb=>hs b (by unfold pN;rw[List.filterMap_cons,hf];exact zm _ hb)) hr⟩
 exact all X.outer (fun _ hb=>hb) I.ok.oV
theorem Inv.stack (I:Inv X pins σ H s):s.heap.FunFrames X.base X.stack:=by
 rcases I.ok.Qf with e | ⟨e,hf⟩
 ·rw[e];exact I.oV
 ·rw[e]
  obtain⟨m,hn,_⟩:=I.loc;refine .cons (by rw[I.ok.kind];decide) hf hn ?_ I.oV;exact Heap.get?_none_of_le (zL I.ok.Kw I.ok.above)
theorem Inv.Cs (I:Inv X pins σ H s):∀b∈pN X.stack,b∈X.env.locals::X.fs:=fun b hb=>by
 rcases I.ok.Qf with e | ⟨e,hf⟩
 ·rw[e] at hb;exact zm _ hb
 ·rw[e] at hb
  unfold pN at hb;rw[List.filterMap_cons,hf] at hb;exact hb
theorem Inv.qT (I:Inv X pins σ H s):∀b∈pN X.stack,H b=none:=fun b hb=>by
 rcases zC.mp (I.Cs b hb) with e | hb
 ·rw[e];exact I.free
 ·obtain⟨_,o,ho,_⟩:=I.ok.oV.mem hb
  exact I.base.free b o ho (I.ok.FD b hb) fun z=>I.ok.Hr b z hb
theorem Inv.step {g':Array GenState} {t':Nat} {d':Drawn} {ch:List Addr} (I:Inv X pins σ H s)
  (hch:∀b∈ch,(b∈X.ex\/X.s₀.heap.objs.size<=b)/\b≠X.env.locals/\(∀x c,X.env.cells.lookup x=some c->c≠b)/\∀p∈X.pn++pins,p.1≠b)
  (keep:∀b o,b≠X.env.locals->b∉X.fs->b∉ch->s.heap.get? b=some o->H b=none->h'.get? b=some o)
  (slot:∀b o,b≠X.env.locals->b∈X.fs->b∉ch->s.heap.get? b=some o->H b=none->∃sl,h'.get? b=some {o with slots:=sl}) (free:∀b o,b∉ch->s.heap.get? b=some o->H b=none->H' b=none)
  (there:∀b o,b∉ch->s.heap.get? b=some o->∃o',h'.get? b=some o')
  (oN:∀b xs,H b=some (.tup xs)->H' b=some (.tup xs)) (mR:∀b o u,H b=some (.mW o u)->H' b=some (.mW o u)) (oO:∀b ps,H b=some (.KW ps)->∃more,H' b=some (.KW (ps++more)))
  (ns:∀m,s.heap.Ns X.env.locals m->h'.Ns X.env.locals m) (bZ:qO X.prog X.w H' h') (hg:AllBare g') :
  Inv X pins σ H' {s with heap:=h',gens:=g',drawn:=d',toks:=t'}:=by
 have neL:∀b o,X.s₀.heap.get? b=some o->b≠X.env.locals:=fun b o e=>yi (yb (yx e) I.ok.above);have neC:∀b o,X.s₀.heap.get? b=some o->b∉X.ex->b∉ch:=fun b o e hx hb=>by
  rcases(hch b hb).1 with z | z
  ·exact hx z
  ·exact absurd (yb (yx e) z) (ye _)
 have cellK:∀x c,X.env.cells.lookup x=some c->∀v,s.heap.IsCell c v->h'.IsCell c v:=fun x c e v ⟨o,ho,hd⟩=>by
  have nch:c∉ch:=fun z=>(hch c z).2.2.1 x c e rfl
  by_cases hc:c∈X.fs
  ·obtain⟨sl,q⟩:=slot c o (I.MR x c e) hc nch ho (I.jY x c e)
   exact⟨_,q,hd⟩
  ·exact⟨o,keep c o (I.MR x c e) hc nch ho (I.jY x c e),hd⟩
 refine⟨I.ok,I.os,hg,⟨fun b o e n hb hx=>?_,fun b o e n hb hx=>?_,fun b o e n hx=>?_,fun b o e hx=>?_,fun b xs e=>oN b xs (I.base.oN b xs e),fun b o xs e=>mR b o xs (I.base.mR b o xs e),fun b ps e=>?_⟩,?_,fun x c e=>?_,?_,fun x c e=>?_,fun p hp=>?_,bZ,I.len⟩
 ·exact keep b o (neL b o e) hb (neC b o e hx) (I.base.keep b o e n hb hx) (I.base.free b o e n hx)
 ·obtain⟨sl,e1⟩:=I.base.slot b o e n hb hx
  obtain⟨sl',e2⟩:=slot b _ (neL b o e) hb (neC b o e hx) e1 (I.base.free b o e n hx);exact⟨sl',e2⟩
 ·obtain⟨o',e1⟩:=I.base.there b o e hx
  exact free b o' (neC b o e hx) e1 (I.base.free b o e n hx)
 ·obtain⟨o',e1⟩:=I.base.there b o e hx
  exact there b o' (neC b o e hx) e1
 ·obtain⟨m1,e1⟩:=I.base.oO b ps e
  obtain⟨m2,e2⟩:=oO b _ e1;exact⟨m1++m2,by rw[e2,Array.append_assoc]⟩
 ·obtain⟨m,hn,hl⟩:=I.loc
  refine⟨m,ns m hn,fun i x v e1 e2 e3=>?_⟩;obtain⟨u,r,l⟩:=hl i x v e1 e2 e3;refine⟨u,r,?_⟩;rcases l with l | ⟨k,c,e,z⟩
  ·exact .inl l
  ·exact .inr ⟨k,c,e,cellK x c e _ z⟩
 ·obtain⟨v,z⟩:=I.cell x c e
  exact⟨v,cellK x c e v z⟩
 ·obtain⟨m,⟨o,_,_,ho,_⟩,_⟩:=I.loc
  exact free _ o (fun z=>(hch _ z).2.1 rfl) ho I.free
 ·obtain⟨v,o,ho,hd⟩:=I.cell x c e
  exact free c o (fun z=>(hch c z).2.2.1 x c e rfl) ho (I.jY x c e)
 ·obtain⟨e,n,ne,nf,d⟩:=I.pin p hp
  have nch:p.1∉ch:=fun z=>(hch p.1 z).2.2.2 p hp rfl;exact⟨keep p.1 p.2 ne nf nch e n,free p.1 p.2 nch e n,ne,nf,d⟩
theorem Inv.un {t':Nat} (I:Inv X pins σ H s) (u:Un X.fs [] H H' s.heap h') (bZ:qO X.prog X.w H' h'):Inv X pins σ H' {s with heap:=h',toks:=t'}:=by
 obtain⟨m,⟨o,es,ep,ho,r⟩,_⟩:=id I.loc;obtain⟨sl,hL⟩:=u.any ho I.free (by simp);exact I.step (g':=s.gens) (d':=s.drawn) (ch:=[]) (fun _ z=>nomatch z) (fun b o _ hb _ e n=>u.keep b o e n hb (by simp)) (fun b o _ hb _ e n=>u.slot b o e n hb (by simp)) (fun b o _ e n=>u.free b o e n (by simp)) (fun b o _ e=>u.there b o e (by simp)) u.oN u.mR u.oO (fun m' hm=>by
  obtain⟨o',es',ep',ho',r'⟩:=hm;rw[ho] at ho';cases ho';exact⟨_,es',ep',hL,r'⟩) bZ I.bare
theorem Inv.call {g':Array GenState} {t':Nat} {d':Drawn} {ch:List Addr} (I:Inv X pins σ H s) (u:Un (pN X.stack) ch H H' s.heap h') (bZ:qO X.prog X.w H' h') (hg:AllBare g')
  (hch:∀b∈ch,(b∈X.ex\/X.s₀.heap.objs.size<=b)/\b≠X.env.locals/\(∀x c,X.env.cells.lookup x=some c->c≠b)/\∀p∈X.pn++pins,p.1≠b) :
  Inv X pins σ H' {s with heap:=h',gens:=g',drawn:=d',toks:=t'}:=by
 obtain⟨m,⟨o,es,ep,ho,r⟩,_⟩:=id I.loc;obtain⟨sl,hL⟩:=u.any ho I.free fun z=>(hch _ z).2.1 rfl;exact I.step (ch:=ch) hch (fun b o hL hb hc e n=>u.keep b o e n (fun z=>(zC.mp (I.Cs b z)).elim hL hb) hc) (fun b o _ _ hc e n=>u.any e n hc) (fun b o hc e n=>u.free b o e n hc) (fun b o hc e=>u.there b o e hc) u.oN u.mR u.oO (fun m' hm=>by
  obtain⟨o',es',ep',ho',r'⟩:=hm;rw[ho] at ho';cases ho';exact⟨_,es',ep',hL,r'⟩) bZ hg
theorem Inv.turned {t':Nat} {it:Addr} (I:Inv X pins σ H s) (k:∀b o,b≠it->s.heap.get? b=some o->h'.get? b=some o) (hn:H it=none) (hL:it≠X.env.locals)
  (h1:it∈X.ex\/X.s₀.heap.objs.size<=it) (h2:∀x c,X.env.cells.lookup x=some c->c≠it) (h3:∀p∈X.pn++pins,p.1≠it):Inv X pins σ H {s with heap:=h',toks:=t'}:=by
 have nit:∀b u,H b=some u->b≠it:=fun b u e z=>by rw[z,hn] at e;cases e
 refine I.step (g':=s.gens) (d':=s.drawn) (ch:=[it]) (fun b hb=>?_) (fun b o _ _ hc e _=>k b o (fun z=>hc (by simp[z])) e) (fun b o _ _ hc e _=>⟨o.slots,k b o (fun z=>hc (by simp[z])) e⟩) (fun _ _ _ _ n=>n)
  (fun b o hc e=>⟨o,k b o (fun z=>hc (by simp[z])) e⟩) (fun _ _ e=>e) (fun _ _ _ e=>e) (fun b ps e=>⟨#[],by rw[e];simp⟩) (fun m hm=>?_) (fun b u e=>?_) I.bare
 ·have e:b=it:=by simpa using hb
  subst e;exact⟨h1,hL,h2,h3⟩
 ·obtain⟨o,es,ep,ho,r⟩:=hm
  exact⟨o,es,ep,k _ o (Ne.symm hL) ho,r⟩
 ·refine(I.bZ b u e).lg (fun c v hc q=>k c v ?_ q) (fun _ q=>q) fun _ _ q=>q
  rcases hc with z | z
  ·rw[z];exact nit b u e
  ·exact nit c _ z
theorem Inv.tok (I:Inv X pins σ H s) (t:Nat):Inv X pins σ H {s with toks:=t}:=I.un (h':=s.heap) (t':=t) Un.refl I.bZ
theorem Inv.kept (I:Inv X pins σ H s) (k:∀b u,s.heap.get? b=some u->h'.get? b=some u):Inv X pins σ H {s with heap:=h',toks:=t'}:=I.un (Un.kept k) (I.bZ.kept k)
theorem Inv.laid (I:Inv X pins σ H s) (k:∀b u,s.heap.get? b=some u->h'.get? b=some u) (hp:s.heap.objs.size<=a) (new:cz X.prog X.w (upd H a o) h' a o) :
  Inv X pins σ (upd H a o) {s with heap:=h',toks:=t'}:=I.un (Un.laid k hp (I.bZ.fresh hp)) (I.bZ.laid k hp new)
theorem Inv.write (I:Inv X pins σ H s) (mu:Ra (H x)) (he:e=x\/H e=some (.own x)) (k:∀b u,b≠e->s.heap.get? b=some u->h'.get? b=some u) (heo:∃u,h'.get? e=some u)
  (new:cz X.prog X.w (upd H x o) h' x o):Inv X pins σ (upd H x o) {s with heap:=h',toks:=t'}:=I.un (Un.write mu he k heo) (I.bZ.write mu he k heo new)
theorem Inv.oB (I:Inv X pins σ H s) (h:∀p∈pins',s.heap.get? p.1=some p.2/\H p.1=none/\p.1≠X.env.locals/\p.1∉X.fs/\∀v,p.2.data≠.cell v):Inv X pins' σ H s:=
 ⟨I.ok,I.os,I.bare,I.base,I.loc,I.cell,I.free,I.jY,fun p hp=>(zF.mp hp).elim (fun z=>I.pin p (zI _ z)) (h p),I.bZ,I.len⟩
theorem Fm {N:List Str} (hN:N.Nodup) {i j:Nat} {x:Str} (a:N[i]?=some x) (b:N[j]?=some x):i=j:=by
 obtain⟨h1,e1⟩:=zw.mp a;obtain⟨h2,e2⟩:=zw.mp b;exact(List.getElem_inj hN).mp (e1.trans e2.symm)
theorem BD {M:Model} {A:Around} {E:Value->Shared->Prop} {i:Nat} {x:Str} {v:V} {u:Value} {Q:Unit->Shared->Prop} (I:Inv X pins σ H s) (hN:X.N.Nodup) (hi:X.N[i]?=some x) (hx:Loc X.env.scope x) (r:RelV v u)
  (h:∀s',Inv X pins (σ.set i (some v)) H s'->(∃a,Heap.SameBut a s.heap s'.heap/\(a=X.env.locals\/X.env.cells.lookup x=some a))->Q () s') (hf:autoParam (X.fn x=true\/X.env.scope.names.lookup x=some .local) qa_):wpAny M A (storeName X.env x u) Q E s:=by
 obtain⟨m,hn,hl⟩:=id I.loc;have hcls:(X.env.scope.kind == .class||(X.env.scope.kind == .module&&X.env.locals != X.env.globals))=false:=by rw[I.ok.kind];rfl
 have hiσ:i<σ.length:=by rw[I.len];exact(zw.mp hi).1
 have MR:=I.MR;have tracked:∀{a:Addr} {h':Heap},(∃o,s.heap.get? a=some o/\H a=none)->Heap.SameBut a s.heap h'->qO X.prog X.w H h':=fun {a h'} ha hs b ob e=>by
  obtain⟨_,_,hfree⟩:=ha;refine(I.bZ b ob e).lg (fun c w' hc q=>(hs.2 c ?_).trans q) (fun _ q=>q) fun _ _ q=>q;rintro rfl;rcases hc with rfl | hc
  ·rw[hfree] at e;cases e
  ·rw[hfree] at hc;cases hc
 rcases hx with hk | hk
 ·refine wpAny_storeName_local hk hn (fun h' hn' hs=>?_) hcls
  obtain⟨oL,_,_,hoL,_⟩:=id hn;refine h _ ⟨I.ok,I.os,I.bare,⟨fun b o e n hb hx=>?_,fun b o e n hb hx=>?_,I.base.free,fun b o e hx=>?_,I.base.oN,I.base.mR,I.base.oO⟩,⟨_,hn',fun j y v' e1 e2 e3=>?_⟩,fun y c e=>?_,I.free,I.jY,fun p hp=>?_,tracked ⟨oL,hoL,I.free⟩ hs,by simpa using I.len⟩ ⟨_,hs,.inl rfl⟩
  ·exact(hs.2 b (yi (yb (yx e) I.ok.above))).trans (I.base.keep b o e n hb hx)
  ·obtain⟨sl,e1⟩:=I.base.slot b o e n hb hx
   exact⟨sl,(hs.2 b (yi (yb (yx e) I.ok.above))).trans e1⟩
  ·obtain⟨o',e1⟩:=I.base.there b o e hx
   exact⟨o',(hs.2 b (yi (yb (yx e) I.ok.above))).trans e1⟩
  ·by_cases hj:j=i
   ·subst hj
    rw[hi] at e1;cases e1;rw[List.getElem?_set_self hiσ] at e2;cases e2;exact⟨u,r,.inl ⟨hk,by simp⟩⟩
   ·rw[List.getElem?_set_ne (Ne.symm hj)] at e2
    obtain⟨u',r',q⟩:=hl j y v' e1 e2 e3;refine⟨u',r',?_⟩;rcases q with⟨k,e⟩ | ⟨k,c,e,z⟩
    ·refine .inl ⟨k,?_⟩
     have:y≠x:=fun e=>hj (Fm hN e1 (e▸hi));simp[this,e]
    ·exact .inr ⟨k,c,e,z.sameBut hs (MR y c e)⟩
  ·obtain⟨w',z⟩:=I.cell y c e
   exact⟨w',z.sameBut hs (MR y c e)⟩
  ·obtain⟨e,n,ne,nf,d⟩:=I.pin p hp
   exact⟨(hs.2 p.1 ne).trans e,n,ne,nf,d⟩
 ·have hfn:X.fn x=true:=by
   rcases hf with z | z
   ·exact z
   ·rw[z] at hk;cases hk
  obtain⟨c,hc⟩:=I.ok.has x (.inl hk);obtain⟨w',z⟩:=I.cell x c hc;refine wpAny_storeName_cell I.ok.kind hk hc z (fun h' hc' hs=>?_);obtain⟨oc,hoc,hocd⟩:=id z;refine h {s with heap:=h'} ⟨I.ok,I.os,I.bare,⟨fun b o e n hb hx=>?_,fun b o e n hb hx=>?_,I.base.free,fun b o e hx=>?_,I.base.oN,I.base.mR,I.base.oO⟩,⟨m,hn.sameBut hs (Ne.symm (MR x c hc)),fun j y v' e1 e2 e3=>?_⟩,fun y c' e=>?_,I.free,I.jY,fun p hp=>?_,tracked ⟨oc,hoc,I.jY x c hc⟩ hs,by simpa using I.len⟩ ⟨c,hs,.inr hc⟩
  ·exact(hs.2 b (yi (yb (yx e) (I.ok.P5 x c hfn hc)))).trans (I.base.keep b o e n hb hx)
  ·obtain⟨sl,e1⟩:=I.base.slot b o e n hb hx
   exact⟨sl,(hs.2 b (yi (yb (yx e) (I.ok.P5 x c hfn hc)))).trans e1⟩
  ·obtain⟨o',e1⟩:=I.base.there b o e hx
   exact⟨o',(hs.2 b (yi (yb (yx e) (I.ok.P5 x c hfn hc)))).trans e1⟩
  ·by_cases hj:j=i
   ·subst hj
    rw[hi] at e1;cases e1;rw[List.getElem?_set_self hiσ] at e2;cases e2;exact⟨u,r,.inr ⟨.inl hk,c,hc,hc'⟩⟩
   ·rw[List.getElem?_set_ne (Ne.symm hj)] at e2
    obtain⟨u',r',q⟩:=hl j y v' e1 e2 e3;refine⟨u',r',?_⟩;rcases q with q | ⟨k,c',e,z'⟩
    ·exact .inl q
    ·refine .inr ⟨k,c',e,z'.sameBut hs ?_⟩
     rintro rfl;exact hj (Fm hN e1 (I.ok.inj _ _ _ e hc▸hi))
  ·by_cases hcc:c'=c
   ·subst hcc;exact⟨_,hc'⟩
   ·obtain⟨w2,z2⟩:=I.cell y c' e
    exact⟨w2,z2.sameBut hs hcc⟩
  ·obtain⟨e,n,ne,nf,d⟩:=I.pin p hp
   refine⟨(hs.2 p.1 ?_).trans e,n,ne,nf,d⟩;intro q;rw[q,hoc] at e;have q':oc=p.2:=yj e;exact d w' (by rw[<-q'];exact hocd)
theorem m6 (I:Inv X pins σ H s) (hN:X.N.Nodup) (hi:X.N[i]?=some x) (hx:Loc X.env.scope x) (r:RelV v u)
  (h:∀s',Inv X pins (σ.set i (some v)) H s'->Q () s') (hf:autoParam (X.fn x=true\/X.env.scope.names.lookup x=some .local) qa_):wpAny M A (storeName X.env x u) Q E s:=
 BD I hN hi hx r (fun s' I' _=>h s' I') hf
theorem Inv.Mx (I:Inv X pins σ H s) (ho:s'.os=s.os) (u:Un (pN X.stack) ch H H' s.heap s'.heap) (bZ:qO X.prog X.w H' s'.heap) (hg:AllBare s'.gens)
  (hch:∀b∈ch,(b∈X.ex\/X.s₀.heap.objs.size<=b)/\b≠X.env.locals/\(∀x c,X.env.cells.lookup x=some c->c≠b)/\∀p∈X.pn++pins,p.1≠b):Inv X pins σ H' s':=by
 obtain⟨h',g',d',t',o'⟩:=s';have e:o'=s.os:=ho;subst e;exact I.call (g':=g') (t':=t') (d':=d') u bZ hg hch
end
abbrev XK:=Value->Option Addr->Hp->Prop
abbrev St:=List (Option V)
abbrev VK:=V->Hp->Prop
abbrev TE:=St->Hp->VK->Prop
abbrev TT:=St->Hp->(Bool->Hp->Prop)->Prop
abbrev TA:=St->Hp->(List V->Hp->Prop)->Prop
structure Ends where
 nx:St->Hp->Prop
 rt:VK
 bk:St->Hp->Prop:=fun _ _=>False
 ct:St->Hp->Prop:=fun _ _=>False
abbrev TS:=Ends->St->Hp->Prop
def EP (X:Cx) (pins:List (Addr×Obj)) (σ:St) (Q:VK) (u:Value) (s':Shared):Prop:=∃v H',Inv X pins σ H' s'/\RelV v u/\Q v H'
def TP (X:Cx) (pins:List (Addr×Obj)) (σ:St) (Q:Bool->Hp->Prop) (b:Bool) (s':Shared):Prop:=∃H',Inv X pins σ H' s'/\Q b H'
def AP (X:Cx) (pins:List (Addr×Obj)) (σ:St) (Q:List V->Hp->Prop) (us:List Value) (s':Shared):Prop:=∃vs H',Inv X pins σ H' s'/\Vals vs us/\Q vs H'
def SP (X:Cx) (pins:List (Addr×Obj)) (D:Ends) (f:Flow) (s':Shared):Prop:=
 match f with
 | .next=>∃σ' H',Inv X pins σ' H' s'/\D.nx σ' H'
 | .brk=>∃σ' H',Inv X pins σ' H' s'/\D.bk σ' H'
 | .cont=>∃σ' H',Inv X pins σ' H' s'/\D.ct σ' H'
 | .ret u=>∃v σ' H',Inv X pins σ' H' s'/\RelV v u/\D.rt v H'
def PE (X:Cx) (e:Expr) (t:TE):Prop:=
 ∀(pins:List (Addr×Obj)) (s:Shared) (σ:St) (H:Hp) (Q:VK),Inv X pins σ H s->t σ H Q->wpAny (model X.prog X.w) X.A (eval e X.env) (EP X pins σ Q) X.xe s
def PT (X:Cx) (e:Expr) (t:TT):Prop:=
 ∀(pins:List (Addr×Obj)) (s:Shared) (σ:St) (H:Hp) (Q:Bool->Hp->Prop),Inv X pins σ H s->t σ H Q->wpAny (model X.prog X.w) X.A (isTrue e X.env (eval e X.env)) (TP X pins σ Q) X.xe s
def PW (X:Cx) (e:Expr) (t:TT):Prop:=
 ∀(whole:Sem Value) (pins:List (Addr×Obj)) (s:Shared) (σ:St) (H:Hp) (Q:Bool->Hp->Prop),Inv X pins σ H s->t σ H Q->wpAny (model X.prog X.w) X.A (isTrue e X.env whole) (TP X pins σ Q) X.xe s
theorem PW.pt (h:PW X e t):PT X e t:=h _
def PA (X:Cx) (es:List Expr) (t:TA):Prop:=
 ∀(pos:Pos) (pins:List (Addr×Obj)) (s:Shared) (σ:St) (H:Hp) (Q:List V->Hp->Prop),Inv X pins σ H s->t σ H Q->wpAny (model X.prog X.w) X.A (spliced (backTo pos (starEach es X.env))) (AP X pins σ Q) X.xe s
def PS (X:Cx) (st:Stmt) (t:TS):Prop:=
 ∀(pins:List (Addr×Obj)) (s:Shared) (σ:St) (H:Hp) (D:Ends),Inv X pins σ H s->t D σ H->wpAny (model X.prog X.w) X.A (exec st X.env) (SP X pins D) X.xe s
def Eb (X:Cx) (st:List Stmt) (t:TS):Prop:=
 ∀(pins:List (Addr×Obj)) (s:Shared) (σ:St) (H:Hp) (D:Ends),Inv X pins σ H s->t D σ H->wpAny (model X.prog X.w) X.A (execs st X.env) (SP X pins D) X.xe s
theorem cS (h:wpAny M A t Q E s) (hQ:∀a s,Q a s->Q' a s):wpAny M A t Q' E s:=wpAny_mono h hQ fun _ _ x=>x
end L2
namespace L2
open PySem PySem.Spec PyProof.Rows
section
variable {X:Cx}
def bj (i:Nat):TE:=fun σ H Q=>∃v,σ[i]?=some (some v)/\Q v H
def tC (v:V):TE:=fun _ H Q=>Q v H
theorem Pj (hN:X.N[i]?=some x) (hv:P8 X.env.scope x) (hd:autoParam ((x == ("__debug__": Str))=false) qb_) (hcd:autoParam ((x == ("__classdict__": Str))=false) qb_):PE X (.Name x pos) (bj i):=by
 intro pins s σ H Q I h;obtain⟨v,e,h⟩:=h;obtain⟨m,hn,hl⟩:=I.loc;obtain⟨u,r,l⟩:=hl i x v hN e hv;have fin:EP X pins σ Q u s:=⟨v,H,I,r,h⟩
 rcases l with⟨hk,hm⟩ | ⟨hk,c,hc,hcell⟩
 ·exact wpAny_Name (wpAny_loadName_local I.ok.kind hk hn hm fin) hd
 ·rcases hk with hk | hk
  ·exact wpAny_Name (wpAny_loadName_cell I.ok.kind hk hc hcell fin) hd
  ·exact wpAny_Name (wpAny_loadName_free I.ok.kind hk hc hcell fin hcd) hd
theorem ae:PE X (.Constant (.int i) j pos) (tC (.int i)):=fun _ _ _ H _ I h=>wpAny_Constant_int ⟨.int i,H,I.tok _,⟨_,rfl⟩,h⟩
theorem nU:PE X (.Constant (.bool b) j pos) (tC (.bl b)):=fun _ _ _ H _ I h=>Constant_bool ⟨.bl b,H,I,rfl,h⟩
theorem aU:PE X (.Constant .none j pos) (tC .bE):=fun _ _ _ H _ I h=>Constant_none ⟨.bE,H,I,rfl,h⟩
theorem aM:PE X (.Constant (.str x) j pos) (tC (.str x)):=fun _ _ _ H _ I h=>Calls.Constant_str ⟨.str x,H,I.tok _,⟨_,rfl⟩,h⟩
def Gl (X:Cx) (x:Str):Prop:=X.env.kindOf x=some .globalImplicit
theorem jV (I:Inv X pins σ H s) (hg:Gl X x) (hm:X.mg x=some u) (h:Q u s)
  (hd:autoParam ((x == ("__debug__": Str))=false) qb_):wpAny (model X.prog X.w) X.A (eval (.Name x pos) X.env) Q E s:=
 Calls.Name_function_global I.ok.kind hg (Calls.loadGlobal_global (by rw[I.ok.glob];exact I.mod.glob.keeps I.bk) hm h) hd
theorem jn (I:Inv X pins σ H s) (hg:Gl X x) (hm:X.mg x=none) (hv:bootBuiltins x=some u) (h:Q u s)
  (hn:autoParam (x≠ "__name__") qb_) (hd:autoParam ((x == ("__debug__": Str))=false) qb_):wpAny (model X.prog X.w) X.A (eval (.Name x pos) X.env) Q E s:=by
 obtain⟨mb,h1,h2⟩:=I.mod.blt;exact Calls.Name_function_global I.ok.kind hg (Calls.loadGlobal_builtin (by rw[I.ok.glob];exact I.mod.glob.keeps I.bk) hm (by rw[I.ok.blt];exact h1.keeps I.bk) ((h2 x hn).trans hv) h) hd
theorem bU (hg:Gl X x) (hm:X.mg x=some u) (r:RelV v u) (hd:autoParam ((x == ("__debug__": Str))=false) qb_):PE X (.Name x pos) (tC v):=
 fun _ _ _ H _ I h=>jV I hg hm ⟨v,H,I,r,h⟩ hd
theorem Nu (hg:Gl X x) (hm:X.mg x=none) (hv:bootBuiltins x=some u) (r:RelV v u) (hn:autoParam (x≠ "__name__") qb_) (hd:autoParam ((x == ("__debug__": Str))=false) qb_):PE X (.Name x pos) (tC v):=
 fun _ _ _ H _ I h=>jn I hg hm hv ⟨v,H,I,r,h⟩ hn hd
variable {a b:Expr} {ta tb:TE} {pos:Pos}
def PC (X:Cx) (op:CmpOp) (a b:Expr) (t:TE):Prop:=
 ∀(pins:List (Addr×Obj)) (s:Shared) (σ:St) (H:Hp) (Q:VK),Inv X pins σ H s->t σ H Q->
  wpAny (model X.prog X.w) X.A (eval a X.env) (fun v s₁=>wpAny (model X.prog X.w) X.A (eval b X.env) (fun u s₂=>wpAny (model X.prog X.w) X.A (compareOp op v u) (EP X pins σ Q) X.xe s₂) X.xe s₁) X.xe s
theorem Fo (b:Expr) (h:op≠.In) (h2:op≠.NotIn):behindInMarks op b=false:=by
 have e1:(op == CmpOp.In)=false:=by cases op <;> first | rfl | exact absurd rfl h
 have e2:(op == CmpOp.NotIn)=false:=by cases op <;> first | rfl | exact absurd rfl h2
 cases b <;> simp[behindInMarks,e1,e2]
def K1 (ta:TE):TE:=fun σ H Q=>ta σ H fun x H1=>Q (.bl (decide (x=.bE))) H1
def K0 (ta:TE):TE:=fun σ H Q=>ta σ H fun x H1=>Q (.bl (!decide (x=.bE))) H1
theorem RelV.Fl (r:RelV x v):(v == Value.none)=decide (x=.bE):=by
 cases x with
 | bE=>cases r;rfl
 | bl _=>cases r;rfl
 | int _=>obtain⟨t,rfl⟩:=r;rfl
 | str _=>obtain⟨t,rfl⟩:=r;rfl
 | IX _=>obtain⟨t,rfl⟩:=r;rfl
 | NM _=>obtain⟨t,rfl⟩:=r;rfl
 | ref _=>cases r;rfl
 | ty _=>cases r;rfl
theorem cA (ha:PE X a ta):PC X .Is a (.Constant .none j pos') (K1 ta):=by
 intro pins s σ H Q I h;refine cS (ha pins s σ H _ I h) fun v s1 ⟨x,H1,I1,r1,q1⟩=>?_;exact Constant_none (is_none_gen ⟨.bl _,H1,I1,by rw[r1.Fl];rfl,q1⟩)
theorem fE (ha:PE X a ta):PC X .IsNot a (.Constant .none j pos') (K0 ta):=by
 intro pins s σ H Q I h;refine cS (ha pins s σ H _ I h) fun v s1 ⟨x,H1,I1,r1,q1⟩=>?_;exact Constant_none (isnot_none_gen ⟨.bl _,H1,I1,by rw[r1.Fl];rfl,q1⟩)
def tB (t:TE):TT:=fun σ H Q=>t σ H fun x H1=>∃c,x=.bl c/\Q c H1
theorem tO (h:PC X op a b t) (h1:autoParam (behindInMarks op b=false) qc_):PE X (.Compare a [op] [b] pos) t:=fun pins s σ H Q I hw=>wpAny_Compare1 (h pins s σ H Q I hw) h1
theorem bA (h:PC X op a b t) (h1:autoParam (behindInMarks op b=false) qc_):PT X (.Compare a [op] [b] pos) (tB t):=by
 intro pins s σ H Q I hw;refine wpAny_isTrue_Compare1 (cS (h pins s σ H _ I hw) fun v s1 h1=>cS h1 fun u s2 h2=>cS h2 fun c s3 ⟨x,H1,I1,r1,q1⟩=>?_) h1;obtain⟨d,rfl,q⟩:=q1;cases r1;exact wpAny_truthy_bool ⟨H1,I1,q⟩
theorem cW (h:PE X e t) (he:autoParam (∀whole,isTrue e X.env whole=(do let v <-whole;standAt e.pos;holding [v] (truthy v))) qd_):PT X e (tB t):=by
 intro pins s σ H Q I hw;refine isTrue_plain (cS (h pins s σ H _ I hw) fun v s1 ⟨x,H1,I1,r1,q1⟩=>?_) (he _);obtain⟨d,rfl,q⟩:=q1;cases r1;exact wpAny_truthy_bool ⟨H1,I1,q⟩
variable {tA tB':TT} {rest:List Expr}
def O3 (t u:TT):TT:=fun σ H Q=>t σ H fun c H1=>if c=true then u σ H1 Q else Q false H1
def R1 (t u:TT):TT:=fun σ H Q=>t σ H fun c H1=>if c=true then Q true H1 else u σ H1 Q
def MY (t:TT):TT:=fun σ H Q=>t σ H fun c H1=>Q (!c) H1
theorem cK (ha:PT X a tA):PW X (.BoolOp .And [a] pos) tA:=by
 intro wh pins s σ H Q I h;refine isTrue_and (cS (ha pins s σ H Q I h) fun c s1 e=>?_);cases c with
 | true=>exact isTrue_and_nil e
 | false=>exact e
theorem dw (ha:PT X a tA):PW X (.BoolOp .Or [a] pos) tA:=by
 intro wh pins s σ H Q I h;refine isTrue_or (cS (ha pins s σ H Q I h) fun c s1 e=>?_);cases c with
 | false=>exact isTrue_or_nil e
 | true=>exact e
theorem cV (ha:PT X a tA) (hb:PW X (.BoolOp .And (b::rest) pos) tB'):PW X (.BoolOp .And (a::b::rest) pos) (O3 tA tB'):=by
 intro wh pins s σ H Q I h;refine isTrue_and (cS (ha pins s σ H _ I h) fun c s1 ⟨H1,I1,q1⟩=>?_);cases c with
 | true=>exact hb wh pins s1 σ H1 Q I1 q1
 | false=>exact⟨H1,I1,q1⟩
theorem eJ (ha:PT X a tA) (hb:PW X (.BoolOp .Or (b::rest) pos) tB'):PW X (.BoolOp .Or (a::b::rest) pos) (R1 tA tB'):=by
 intro wh pins s σ H Q I h;refine isTrue_or (cS (ha pins s σ H _ I h) fun c s1 ⟨H1,I1,q1⟩=>?_);cases c with
 | true=>exact⟨H1,I1,q1⟩
 | false=>exact hb wh pins s1 σ H1 Q I1 q1
theorem fG (ha:PT X a tA):PT X (.UnaryOp .Not a pos) (MY tA):=by
 intro pins s σ H Q I h;exact isTrue_not (ha pins s σ H (fun c H1=>Q (!c) H1) I h)
def Oa (ta tb:TE):TE:=fun σ H Q=>ta σ H fun x H1=>∃c,x=.bl c/\if c=true then tb σ H1 Q else Q (.bl false) H1
def Qv (ta tb:TE):TE:=fun σ H Q=>ta σ H fun x H1=>∃c,x=.bl c/\if c=true then Q (.bl true) H1 else tb σ H1 Q
def Qw (ta:TE):TE:=fun σ H Q=>ta σ H fun x H1=>∃c,x=.bl c/\Q (.bl (!c)) H1
theorem qx (h:PE X a t):PE X (.BoolOp op [a] pos) t:=fun pins s σ H Q I hw=>BoolOp_one (h pins s σ H Q I hw)
theorem tP (ha:PE X a ta) (hb:PE X (.BoolOp .And (b::rest) pos) tb):PE X (.BoolOp .And (a::b::rest) pos) (Oa ta tb):=by
 intro pins s σ H Q I h;refine BoolOp_and (cS (ha pins s σ H _ I h) fun v s1 ⟨x,H1,I1,r1,q1⟩=>?_);obtain⟨c,rfl,q1⟩:=q1;cases r1;refine wpAny_truthy_bool ?_;cases c with
 | true=>exact hb pins s1 σ H1 Q I1 q1
 | false=>exact⟨.bl false,H1,I1,rfl,q1⟩
theorem LH (ha:PE X a ta) (hb:PE X (.BoolOp .Or (b::rest) pos) tb):PE X (.BoolOp .Or (a::b::rest) pos) (Qv ta tb):=by
 intro pins s σ H Q I h;refine BoolOp_or (cS (ha pins s σ H _ I h) fun v s1 ⟨x,H1,I1,r1,q1⟩=>?_);obtain⟨c,rfl,q1⟩:=q1;cases r1;refine wpAny_truthy_bool ?_;cases c with
 | false=>exact hb pins s1 σ H1 Q I1 q1
 | true=>exact⟨.bl true,H1,I1,rfl,q1⟩
def SI (t:TT) (ta tb:TE):TE:=fun σ H Q=>t σ H fun c H1=>if c=true then ta σ H1 Q else tb σ H1 Q
theorem E1 (hc:PT X c tA) (ha:PE X a ta) (hb:PE X b tb):PE X (.IfExp c a b pos) (SI tA ta tb):=by
 intro pins s σ H Q I h;refine wpAny_IfExp (cS (hc pins s σ H _ I h) fun d s1 ⟨H1,I1,q1⟩=>?_);cases d with
 | true=>exact ha pins s1 σ H1 Q I1 q1
 | false=>exact hb pins s1 σ H1 Q I1 q1
end
end L2
namespace L2
open PySem PySem.Spec PyProof.Rows
def aL (K:yA) (H:Hp) (a:Addr) (xs:List V):Prop:=
 Rd H a (.lst xs)\/
  ∃(o:Obj) (its:Array Value) (n:Nat),K.lookup a=some o/\o.cls=.type "list"/\o.dict=none/\o.data=.seq its n/\its.size<=sizeLine/\Vals xs its.toList
def dB (K:yA) (H:Hp) (a:Addr) (xs:List V):Prop:=
 Rd H a (.tup xs)\/
  ∃(o:Obj) (its:Array Value) (n:Nat),K.lookup a=some o/\o.cls=.type "tuple"/\o.data=.seq its n/\its.size<=sizeLine/\Vals xs its.toList
def SD:Value->Option V
 | .none=>some .bE
 | .bool b=>some (.bl b)
 | .int i _=>some (.int i)
 | .str x _=>some (.str x)
 | .bytes b _=>some (.IX b)
 | .float b _=>some (.NM b)
 | .ref a=>some (.ref a)
 | .type n=>some (.ty n)
 | _=>none
theorem RelV.abs (r:RelV x u):SD u=some x:=by
 cases x with
 | bE=>cases r;rfl
 | bl _=>cases r;rfl
 | int _=>obtain⟨t,rfl⟩:=r;rfl
 | str _=>obtain⟨t,rfl⟩:=r;rfl
 | IX _=>obtain⟨t,rfl⟩:=r;rfl
 | NM _=>obtain⟨t,rfl⟩:=r;rfl
 | ref _=>cases r;rfl
 | ty _=>cases r;rfl
theorem RelV.inj (r:RelV x u) (q:RelV y u):x=y:=yj (r.abs.symm.trans q.abs)
theorem Vals.inj:∀{xs ys:List V} {us:List Value},Vals xs us->Vals ys us->xs=ys
 | _,_,_,.nil,.nil=>rfl
 | _,_,_,.cons r t,.cons r' t'=>by rw[r.inj r',Vals.inj t t']
section
variable {X:Cx} {pins:List (Addr×Obj)} {σ:St} {H:Hp} {s:Shared} {a:Addr} {xs ys:List V}
theorem aL.of {K:yA} (h:H a=some (.lst xs)):aL K H a xs:=.inl (.inl h)
theorem dB.of {K:yA} (h:H a=some (.tup xs)):dB K H a xs:=.inl (.inl h)
theorem Inv.list (I:Inv X pins σ H s) (h:aL X.K H a xs):∃its:List Value,Vals xs its/\PlainL s.heap a its.toArray/\xs.length<=sizeLine:=by
 rcases h with h | ⟨o,its,n,hk,hc,hd,hs,hz,r⟩
 ·obtain⟨z,its,n,r,e⟩:=h.ok I.bZ
  exact⟨its,r,⟨_,n,e,rfl,rfl,rfl⟩,z⟩
 ·refine⟨its.toList,r,⟨o,n,I.sr a o hk,hc,hd,by simpa using hs⟩,?_⟩
  have e:=r.length;simp only[Array.length_toList] at e;omega
theorem Inv.tuple (I:Inv X pins σ H s) (h:dB X.K H a xs):∃its:List Value,Vals xs its/\IsTup s.heap a its.toArray/\xs.length<=sizeLine:=by
 rcases h with h | ⟨o,its,n,hk,hc,hs,hz,r⟩
 ·obtain⟨z,its,r,p⟩:=h.ok I.bZ
  exact⟨its,r,p,z⟩
 ·refine⟨its.toList,r,⟨o,I.sr a o hk,hc,n,by simpa using hs⟩,?_⟩
  have e:=r.length;simp only[Array.length_toList] at e;omega
theorem Inv.yF (I:Inv X pins σ H s) (h:aL X.K H a xs) (h':aL X.K H a ys):xs=ys:=by
 obtain⟨its,r,⟨o,n,e,_,_,d⟩,_⟩:=I.list h;obtain⟨its',r',⟨o',n',e',_,_,d'⟩,_⟩:=I.list h';rw[e] at e';cases e';rw[d] at d';injection d' with d1 _;have:its=its':=by simpa using congrArg Array.toList d1
 subst this;exact r.inj r'
theorem Inv.BC (I:Inv X pins σ H s) (h:dB X.K H a xs) (h':dB X.K H a ys):xs=ys:=by
 obtain⟨its,r,⟨o,e,_,n,d⟩,_⟩:=I.tuple h;obtain⟨its',r',⟨o',e',_,n',d'⟩,_⟩:=I.tuple h';rw[e] at e';cases e';rw[d] at d';injection d' with d1 _;have:its=its':=by simpa using congrArg Array.toList d1
 subst this;exact r.inj r'
end
abbrev Cx.qQ (X:Cx) (E:Value->Shared->Prop):Cx:={X with xe:=E}
abbrev Cx.IE (X:Cx):Cx:=X.qQ fun _ _=>False
theorem Cx.Ok.qQ {X:Cx} (ok:X.Ok) (E:Value->Shared->Prop):(X.qQ E).Ok:=
 ⟨ok.mod,ok.kind,ok.glob,ok.blt,ok.above,ok.inj,ok.has,ok.P5,ok.hd,ok.frames,ok.Qf,ok.Rq,ok.bs,ok.Kw,ok.vT,ok.Hr,ok.oV,ok.FD⟩
theorem Cx.Ok.gZ {X:Cx} {E:Value->Shared->Prop} (ok:(X.qQ E).Ok):X.Ok:=
 ⟨ok.mod,ok.kind,ok.glob,ok.blt,ok.above,ok.inj,ok.has,ok.P5,ok.hd,ok.frames,ok.Qf,ok.Rq,ok.bs,ok.Kw,ok.vT,ok.Hr,ok.oV,ok.FD⟩
section
variable {X:Cx} {pins:List (Addr×Obj)} {σ:St} {H:Hp} {s:Shared} {E:Value->Shared->Prop}
theorem Inv.qQ (I:Inv X pins σ H s) (E:Value->Shared->Prop):Inv (X.qQ E) pins σ H s:=⟨I.ok.qQ E,I.os,I.bare,I.base,I.loc,I.cell,I.free,I.jY,I.pin,I.bZ,I.len⟩
theorem Inv.gZ (I:Inv (X.qQ E) pins σ H s):Inv X pins σ H s:=⟨I.ok.gZ,I.os,I.bare,I.base,I.loc,I.cell,I.free,I.jY,I.pin,I.bZ,I.len⟩
theorem SP.gZ (h:SP (X.qQ E) pins D f s'):SP X pins D f s':=by
 cases f with
 | next=>obtain⟨σ',H',I,q⟩:=h;exact⟨σ',H',I.gZ,q⟩
 | brk=>obtain⟨σ',H',I,q⟩:=h;exact⟨σ',H',I.gZ,q⟩
 | cont=>obtain⟨σ',H',I,q⟩:=h;exact⟨σ',H',I.gZ,q⟩
 | ret u=>obtain⟨v,σ',H',I,r,q⟩:=h;exact⟨v,σ',H',I.gZ,r,q⟩
theorem Eb.IE {st:List Stmt} {t:TS} (h:Eb X.IE st t):Eb X st t:=fun pins s σ H D I hw=>
 wpAny_mono (h pins s σ H D (I.qQ _) hw) (fun _ _ q=>q.gZ) fun _ _ z=>False.elim z
end
section
variable {X:Cx} {st:Stmt} {rest:List Stmt} {t u:TS} {e:Expr} {te:TE} {pos:Pos}
def N8:TS:=fun D σ H=>D.nx σ H
def OR (t u:TS):TS:=fun D σ H=>t {D with nx:=u D} σ H
theorem aB:Eb X [] N8:=fun _ _ σ H _ I h=>wpAny_execs_nil ⟨σ,H,I,h⟩
theorem ag (h1:PS X st t) (h2:Eb X rest u):Eb X (st::rest) (OR t u):=by
 intro pins s σ H D I h;refine wpAny_execs_cons (cS (h1 pins s σ H {D with nx:=u D} I h) fun f s1 q=>?_);cases f with
 | next=>
  obtain⟨σ',H',I',q⟩:=q;exact h2 pins s1 σ' H' D I' q
 | ret v=>exact q
 | brk=>exact q
 | cont=>exact q
theorem aj (h1:PS X st t):Eb X [st] t:=by
 intro pins s σ H D I h;refine wpAny_execs_cons (cS (h1 pins s σ H D I h) fun f s1 q=>?_);cases f with
 | next=>exact wpAny_execs_nil q
 | ret v=>exact q
 | brk=>exact q
 | cont=>exact q
theorem Inv.quiet (I:Inv X pins σ H s):interactive X.env=false:=by simp[interactive,I.ok.kind]
def N9 (te:TE):TS:=fun D σ H=>te σ H fun _ H1=>D.nx σ H1
theorem bT (he:PE X e te) (hs:autoParam (swapsWith e none pos.line X.env=pure false) qe_):PS X (.Expr e pos) (N9 te):=by
 intro pins s σ H D I h;exact wpAny_Expr_any (cS (he pins s σ H _ I h) fun v s1 ⟨x,H1,I1,r1,q1⟩=>⟨σ,H1,I1,q1⟩) I.quiet hs
def OS (te:TE):TS:=fun D σ H=>te σ H D.rt
theorem aq (he:PE X e te):PS X (.Return (some e) pos) (OS te):=by
 intro pins s σ H D I h;exact wpAny_Return_some (cS (he pins s σ H _ I h) fun v s1 ⟨x,H1,I1,r1,q1⟩=>⟨x,σ,H1,I1,r1,q1⟩)
def MZ (c:TT) (t u:TS):TS:=fun D σ H=>c σ H fun b H1=>if b=true then t D σ H1 else u D σ H1
theorem aI (hc:PT X c tc) (ha:Eb X a t) (hb:Eb X b u):PS X (.If c a b pos) (MZ tc t u):=by
 intro pins s σ H D I h;refine wpAny_If (cS (hc pins s σ H _ I h) fun d s1 ⟨H1,I1,q1⟩=>?_);cases d with
 | true=>exact ha pins s1 σ H1 D I1 q1
 | false=>exact hb pins s1 σ H1 D I1 q1
def OU:TS:=fun _ _ _=>False
theorem xT:PS X st OU:=fun _ _ _ _ _ _ h=>h.elim
end
abbrev TG:=V->St->Hp->(St->Hp->Prop)->Prop
abbrev Q8:=List V->St->Hp->(St->Hp->Prop)->Prop
def PG (X:Cx) (target:Expr) (t:TG):Prop:=
 ∀(pins:List (Addr×Obj)) (s:Shared) (σ:St) (H:Hp) (v:V) (u:Value) (Q:St->Hp->Prop),Inv X pins σ H s->RelV v u->t v σ H Q->
  wpAny (model X.prog X.w) X.A (assign target X.env u) (fun _ s'=>∃σ' H',Inv X pins σ' H' s'/\Q σ' H') X.xe s
def Ru (X:Cx) (ts:List Expr) (t:Q8):Prop:=
 ∀(pins:List (Addr×Obj)) (s:Shared) (σ:St) (H:Hp) (vs:List V) (us:List Value) (Q:St->Hp->Prop),Inv X pins σ H s->Vals vs us->t vs σ H Q->
  wpAny (model X.prog X.w) X.A (assignInOrder ((assignEach ts X.env).map (·.2)) us) (fun _ s'=>∃σ' H',Inv X pins σ' H' s'/\Q σ' H') X.xe s
section
variable {X:Cx} {pos:Pos}
def bc (i:Nat):TG:=fun v σ H Q=>Q (σ.set i (some v)) H
theorem Np (hN:X.N.Nodup) (hi:X.N[i]?=some x) (hx:Loc X.env.scope x) (hf:autoParam (X.fn x=true\/X.env.scope.names.lookup x=some .local) qa_):PG X (.Name x pos) (bc i):=by
 intro pins s σ H v u Q I r h;exact wpAny_assign_Name (m6 I hN hi hx r (fun s' I'=>⟨_,H,I',h⟩) hf)
def FC:Q8:=fun vs σ H Q=>vs=[]/\Q σ H
def fZ (t:TG) (u:Q8):Q8:=fun vs σ H Q=>∃v r,vs=v::r/\t v σ H fun σ' H'=>u r σ' H' Q
theorem cX:Ru X [] FC:=by
 intro pins s σ H vs us Q I r h;obtain⟨e,h⟩:=h;subst e;cases r;exact assignInOrder_nil ⟨σ,H,I,h⟩
theorem aO (h1:PG X e t) (h2:Ru X es u)
  (hs:autoParam ((assignEach (e::es) X.env).map (·.2)=assign e X.env::(assignEach es X.env).map (·.2)) qe_):Ru X (e::es) (fZ t u):=by
 intro pins s σ H vs us Q I r h;obtain⟨v,vr,e1,h⟩:=h;subst e1;cases r with
 | cons r rr=>
  rw[hs];refine assignInOrder_cons (cS (h1 pins s σ H _ _ _ I r h) fun _ s1 ⟨σ1,H1,I1,q1⟩=>?_);exact h2 pins s1 σ1 H1 _ _ Q I1 rr q1
def FA (K:yA) (n:Nat) (t:Q8):TG:=fun v σ H Q=>∃a xs,v=.ref a/\dB K H a xs/\xs.length=n/\t xs σ H Q
theorem dY (hc:X.calm=true) (h:Ru X es t)
  (hn:autoParam ((assignEach es X.env).length=n) qe_) (hst:autoParam ((assignEach es X.env).findIdx? (·.1)=none) qe_):PG X (.Tuple es k pos) (FA X.K n t):=by
 intro pins s σ H v u Q I r hw;obtain⟨a,xs,e1,hq,hl,hw⟩:=hw;subst e1;cases r;obtain⟨its,rv,ht,hz⟩:=I.tuple hq;refine assign_Tuple_tuple (I.ok.hd hc) ht (by simp[hn,<-hl,rv.length]) hst fun h' hx=>?_;have I1:Inv X pins σ H {s with heap:=h'}:=I.kept (t':=s.toks) fun b o e=>hx b o (yi (yx e)) e;exact h pins _ σ H xs _ Q I1 (by simpa using rv) hw
def Ey (te:TE) (g:TG):TS:=fun D σ H=>te σ H fun x H1=>g x σ H1 D.nx
theorem Lz (hN:X.N.Nodup) (hi:X.N[i]?=some x) (hx:Loc X.env.scope x) (he:PE X e te) (hs:autoParam (swapsWith e (some (.Name x pos')) pos.line X.env=pure false) qe_) (hf:autoParam (X.fn x=true\/X.env.scope.names.lookup x=some .local) qa_) :
  PS X (.Assign [.Name x pos'] e pos) (Ey te (bc i)):=by
 intro pins s σ H D I h;refine wpAny_Assign_Name (cS (he pins s σ H _ I h) fun v s1 ⟨y,H1,I1,r1,q1⟩=>?_) hs;exact m6 I1 hN hi hx r1 (fun s2 I2=>⟨_,H1,I2,q1⟩) hf
def R0 (i j:Nat) (ta:TA):TS:=fun D σ H=>ta σ H fun vs H1=>∃v w,vs=[v,w]/\D.nx ((σ.set i (some v)).set j (some w)) H1
theorem LA (hc:X.calm=true) (hN:X.N.Nodup) (hi:X.N[i]?=some x) (hj:X.N[j]?=some y) (hij:i≠j)
  (hx:X.env.scope.names.lookup x=some .local) (hy:X.env.scope.names.lookup y=some .local) (ha:PA X [a,b] ta)
  (hw:swappedStores [.Tuple [.Name x px,.Name y py] kt pt] (.Tuple [a,b] k2 pt2) X.env=pure (some [x,y]))
  (hs:autoParam (swapsWithSole [.Tuple [.Name x px,.Name y py] kt pt] (.Tuple [a,b] k2 pt2) pos.line X.env=pure false) qe_) :
  PS X (.Assign [.Tuple [.Name x px,.Name y py] kt pt] (.Tuple [a,b] k2 pt2) pos) (R0 i j ta):=by
 intro pins s σ H D I h;rw[exec_Assign_arm];refine yt (wpAny_standAt ?_);rw[hs];refine yt (yv ?_);rw[if_neg (by decide)];refine yt (Tuple_ (cS (ha _ pins s σ H _ I h) fun us s1 ⟨vs,H1,I1,r1,q1⟩=>?_));obtain⟨v,w,e1,q1⟩:=q1;subst e1;obtain⟨u1,u2,rfl,rv,rw'⟩:∃u1 u2,us=[u1,u2]/\RelV v u1/\RelV w u2:=by
  cases r1 with
  | cons p q=>
   cases q with
   | cons p' q'=>
    cases q';exact⟨_,_,rfl,p,p'⟩
 refine wpAny_newObj_type ?_ (by show 2<=sizeLine;decide);have I2:Inv X pins σ H1 {s1 with heap:=s1.heap.push {cls:=.type "tuple",data:=.seq [u1,u2].toArray}}:=I1.kept (t':=s1.toks) fun b o e=>yu _ e;rw[hw];refine yt (yv ?_);show wpAny (model X.prog X.w) X.A (do rule "assign.swapped-stores";let items <-unpackItems (.ref s1.heap.objs.size) 2 none;assignInOrder [fun v=>bindName X.env y v,fun v=>bindName X.env x v] items.reverse;pure Flow.next) _ _ _;refine yt (wpAny_rule (yt (unpackItems_tuple (items:=#[u1,u2]) (I.ok.hd hc) (IsTup.new s1.heap _) fun h' hx'=>?_)));have I3:=I2.kept (h':=h') (t':=s1.toks) fun b o e=>hx' b o (yi (yx e)) e;show wpAny _ _ (assignInOrder [fun v=>bindName X.env y v,fun v=>bindName X.env x v] [u2,u1] >>= fun _=>pure Flow.next) _ _ _;refine yt (assignInOrder_cons (wpAny_bindName (m6 I3 hN hj (.inl hy) rw' (fun s2 I4=>?_) (.inr hy))));refine assignInOrder_cons (wpAny_bindName (m6 I4 hN hi (.inl hx) rv (fun s3 I5=>assignInOrder_nil (yv ?_)) (.inr hx)));rw[List.set_comm _ _ (Ne.symm hij)] at I5;exact⟨_,H1,I5,q1⟩
end
section
variable {X:Cx} {pos:Pos}
def KY (c:TT) (tb:TS):TS:=fun D σ H=>∃W:Nat->St->Hp->Prop,(∃m,W m σ H)/\∀m σ H,W m σ H->
 c σ H fun b H1=>if b=true then∃N:St->Hp->Prop,(∀σ' H',N σ' H'->∃m',m'<m/\W m' σ' H')/\tb {D with nx:=N,ct:=N,bk:=D.nx} σ H1 else D.nx σ H1
theorem xS (hp:PassesOwn (model X.prog X.w) X.A X.env X.xe) (hc:PT X c tc) (hb:Eb X body tb):PS X (.While c body [] pos) (KY tc tb):=by
 intro pins s σ H D I h;obtain⟨W,⟨m0,w0⟩,turn⟩:=h;refine wpAny_While (codeAny_whileLoop (fun n s'=>∃σ' H',Inv X pins σ' H' s'/\W n σ' H') ?_ m0 ⟨σ,H,I,w0⟩);rintro n s1 ⟨σ1,H1,I1,w1⟩;refine wpAny_passesOwn hp (cS (hc pins s1 σ1 H1 _ I1 (turn n σ1 H1 w1)) fun b s2 ⟨H2,I2,q2⟩=>?_);cases b with
 | true=>
  obtain⟨N,hN,q2⟩:=q2;rw[if_pos rfl];refine wpAny_passesOwn hp (cS (hb pins s2 σ1 H2 _ I2 q2) fun f s3 q3=>?_);cases f with
  | next=>
   obtain⟨σ3,H3,I3,n3⟩:=q3;obtain⟨m',hm,w3⟩:=hN σ3 H3 n3;exact⟨m',hm,σ3,H3,I3,w3⟩
  | cont=>
   obtain⟨σ3,H3,I3,n3⟩:=q3;obtain⟨m',hm,w3⟩:=hN σ3 H3 n3;exact⟨m',hm,σ3,H3,I3,w3⟩
  | brk=>exact q3
  | ret v=>exact q3
 | false=>
  rw[if_neg zK];exact wpAny_execs_nil ⟨σ1,H2,I2,q2⟩
end
structure It where
 go:Nat->Hp->Prop
 Ji:Nat->Hp->V->Hp->Prop
 stop:Nat->Hp->Prop
def qP (X:Cx) (pins:List (Addr×Obj)) (H:Hp) (b:Addr):Prop:=
 H b=none/\b≠X.env.locals/\b∉X.fs/\(b∈X.ex\/X.s₀.heap.objs.size<=b)/\(∀x c,X.env.cells.lookup x=some c->c≠b)/\∀p∈X.pn++pins,p.1≠b
theorem Inv.vX (I:Inv X pins σ H s) (hb:s.heap.objs.size<=b) (hn:H' b=none):qP X pins H' b:=by
 refine⟨hn,yh (yb I.lt hb),I.QK hb,.inr (zL I.sz hb),fun x c e z=>?_,fun p hp z=>?_⟩
 ·obtain⟨v,q⟩:=I.cell x c e
  exact absurd (yb q.lt (by rw[z];exact hb)) (ye _)
 ·exact absurd (yb (yx (I.pin p hp).1) (by rw[z];exact hb)) (ye _)
structure Turn (P:Program) (w:World) (K:yA) (tg:Expr) (J:It) (fp:List Addr) (it:Addr) (tn:Nat->Heap->Prop):Prop where
 mem:it∈fp
 obj:∀i h,tn i h->∀b∈fp,∃o,h.get? b=some o/\∀v,o.data≠.cell v
 keep:∀i h h',tn i h->(∀b∈fp,∀o,h.get? b=some o->h'.get? b=some o)->tn i h'
 item:∀(X:Cx),X.prog=P->X.w=w->X.K=K->X.calm=true->∀(i:Nat) (pins:List (Addr×Obj)) (s:Shared) (σ:St) (H:Hp) (E:Value->Shared->Prop),Inv X pins σ H s->(∀b∈fp,qP X pins H b)->tn i s.heap->J.go i H->
  wpAny (model P w) X.A (pyNext (.ref it)) (fun r s1=>∃u,r=some u/\
   wpAny (model P w) X.A (letOwnedTupleGo tg (.ref it) u) (fun _ s2=>∃x H',Inv X pins σ H' s2/\RelV x u/\J.Ji i H x H'/\tn (i+1) s2.heap/\∀b∈fp,H' b=none) E s1) E s
 done:∀(X:Cx),X.prog=P->X.w=w->X.K=K->X.calm=true->∀(i:Nat) (pins:List (Addr×Obj)) (s:Shared) (σ:St) (H:Hp) (E:Value->Shared->Prop),Inv X pins σ H s->(∀b∈fp,qP X pins H b)->tn i s.heap->J.stop i H->
  wpAny (model P w) X.A (pyNext (.ref it)) (fun r s1=>r=none/\Inv X pins σ H s1) E s
 self:∀(A:Around) (i:Nat) (s:Shared) (Q:Value->Shared->Prop) (E:Value->Shared->Prop),tn i s.heap->Q (.ref it) s->wpAny (model P w) A (pyIter (.ref it)) Q E s
abbrev TI:=St->Hp->(It->Hp->Prop)->Prop
def SO (X:Cx) (pins:List (Addr×Obj)) (σ:St) (tg:Expr) (R:It->Hp->Prop) (itv:Value) (s2:Shared):Prop:=
 ∃(it:Addr) (fp:List Addr) (tn:Nat->Heap->Prop) (J:It) (H':Hp),itv=.ref it/\Inv X pins σ H' s2/\Turn X.prog X.w X.K tg J fp it tn/\tn 0 s2.heap/\(∀b∈fp,qP X pins H' b)/\R J H'
def PI (X:Cx) (tg iter:Expr) (wi:TI):Prop:=
 ∀(pins:List (Addr×Obj)) (s:Shared) (σ:St) (H:Hp) (R:It->Hp->Prop),Inv X pins σ H s->wi σ H R->
  wpAny (model X.prog X.w) X.A (eval iter X.env) (fun v s1=>wpAny (model X.prog X.w) X.A (pyIter v) (SO X pins σ tg R) X.xe s1) X.xe s
theorem B3 (ho:s.heap.get? it=some o) (hc:o.cls=.type n) (hd:o.data=.fields vs)
    (hn:["enumerate","zip","dict_itemiterator","dict_reverseitemiterator","odict_iterator","itertools.zip_longest","itertools.pairwise"].contains n=false) (hQ:Q () s):wpAny M A (letOwnedTupleGo tg (.ref it) u) Q E s:=by
  unfold letOwnedTupleGo;cases tg <;> first
    | exact yv hQ
    | (cases u <;> first
        | exact yv hQ
        | (refine yt (wpAny_load ho ?_)
           rw[hc,hd];show wpAny M A (if(["enumerate","zip","dict_itemiterator","dict_reverseitemiterator","odict_iterator","itertools.zip_longest","itertools.pairwise"].contains n&&vs[0]? == some (rawInt _))=true then _ else _) Q E s;rw[if_neg (by intro h;rw[hn,Bool.false_and] at h;cases h)];exact yv hQ))
def MK (K:yA) (a:Addr):It:=
 ⟨fun i H=>∃xs x,aL K H a xs/\xs[i]?=some x,fun i H x H'=>H'=H/\∀xs,aL K H a xs->xs[i]?=some x,fun i H=>∃xs,aL K H a xs/\xs.length<=i⟩
def OE (K:yA) (a:Addr):It:=
 ⟨fun i H=>∃xs x,dB K H a xs/\xs[i]?=some x,fun i H x H'=>H'=H/\∀xs,dB K H a xs->xs[i]?=some x,fun i H=>∃xs,dB K H a xs/\xs.length<=i⟩
def MJ (lo:Int) (n:Nat):It:=⟨fun i _=>i<n,fun i H x H'=>H'=H/\x=.int (lo+i),fun i _=>n<=i⟩
theorem Jl {P:Program} {w:World} {K:yA} {tg:Expr} (a it:Addr):Turn P w K tg (MK K a) [it] it (fun i h=>h.IsListIter it a i) where
 mem:=by simp
 obj:=fun i h st b hb=>by
  have e:b=it:=by simpa using hb
  subst e;obtain⟨o,e,c,d⟩:=st;exact⟨o,e,fun v z=>by rw[d] at z;cases z⟩
 keep:=fun i h h' st k=>st.at fun o e=>k it (by simp) o e
 item:=by
  intro X hP hw hK hc i pins s σ H E I hf st hg;subst hP hw hK;obtain⟨xs,x,hq,hx⟩:=hg;obtain⟨its,rv,p,hz⟩:=I.list hq;obtain⟨u,hu,ru⟩:=rv.get hx;obtain⟨f0,f1,f2,f3,f4,f5⟩:=hf it (by simp);refine wpAny_pyNext_list_item st p.isList (x:=u) (by simpa using hu) fun h' st' sb=>?_;have I1:Inv X pins σ H {s with heap:=h'}:=I.turned (t':=s.toks) (fun b o hb e=>(sb.2 b hb).trans e) f0 f1 f3 f4 f5;obtain⟨o,e,c,d⟩:=id st';exact⟨u,rfl,B3 (s:={s with heap:=h'}) e c d (by decide) ⟨x,H,I1,ru,⟨rfl,fun ys hy=>by rw[I.yF hy hq];exact hx⟩,st',fun b hb=>(hf b hb).1⟩⟩
 done:=by
  intro X hP hw hK hc i pins s σ H E I hf st hg;subst hP hw hK;obtain⟨xs,hq,hx⟩:=hg;obtain⟨its,rv,p,hz⟩:=I.list hq;obtain⟨f0,f1,f2,f3,f4,f5⟩:=hf it (by simp);have hl:=rv.length;exact wpAny_pyNext_list_end (I.ok.hd hc) st p.isList (by simp;omega) fun h' eb=>⟨rfl,I.turned (t':=s.toks) (fun b o hb e=>eb b o hb e) f0 f1 f3 f4 f5⟩
 self:=fun _ _ _ _ _ st h=>wpAny_pyIter_listiter st h
theorem GF {P:Program} {w:World} {K:yA} {tg:Expr} (a it:Addr):Turn P w K tg (OE K a) [it] it (fun i h=>h.IsTupleIter it a i) where
 mem:=by simp
 obj:=fun i h st b hb=>by
  have e:b=it:=by simpa using hb
  subst e;obtain⟨o,e,c,d⟩:=st;exact⟨o,e,fun v z=>by rw[d] at z;cases z⟩
 keep:=fun i h h' st k=>st.at fun o e=>k it (by simp) o e
 item:=by
  intro X hP hw hK hc i pins s σ H E I hf st hg;subst hP hw hK;obtain⟨xs,x,hq,hx⟩:=hg;obtain⟨its,rv,p,hz⟩:=I.tuple hq;obtain⟨u,hu,ru⟩:=rv.get hx;obtain⟨f0,f1,f2,f3,f4,f5⟩:=hf it (by simp);refine wpAny_pyNext_tuple_item st (show s.heap.IsTuple a its.toArray from p) (x:=u) (by simpa using hu) fun h' st' sb=>?_;have I1:Inv X pins σ H {s with heap:=h'}:=I.turned (t':=s.toks) (fun b o hb e=>(sb.2 b hb).trans e) f0 f1 f3 f4 f5;obtain⟨o,e,c,d⟩:=id st';exact⟨u,rfl,B3 (s:={s with heap:=h'}) e c d (by decide) ⟨x,H,I1,ru,⟨rfl,fun ys hy=>by rw[I.BC hy hq];exact hx⟩,st',fun b hb=>(hf b hb).1⟩⟩
 done:=by
  intro X hP hw hK hc i pins s σ H E I hf st hg;subst hP hw hK;obtain⟨xs,hq,hx⟩:=hg;obtain⟨its,rv,p,hz⟩:=I.tuple hq;obtain⟨f0,f1,f2,f3,f4,f5⟩:=hf it (by simp);have hl:=rv.length;exact wpAny_pyNext_tuple_end (I.ok.hd hc) st (show s.heap.IsTuple a its.toArray from p) (by simp;omega) fun h' eb=>⟨rfl,I.turned (t':=s.toks) (fun b o hb e=>eb b o hb e) f0 f1 f3 f4 f5⟩
 self:=fun _ _ _ _ _ st h=>wpAny_pyIter_tupleiter st h
theorem GG {P:Program} {w:World} {K:yA} {tg:Expr} (it:Addr) (lo:Int) (n:Nat):Turn P w K tg (MJ lo n) [it] it (fun i h=>IsRangeIter h it (lo+(i:Nat)*1) ((n:Int)-(i:Nat)) 1) where
 mem:=by simp
 obj:=fun i h st b hb=>by
  have e:b=it:=by simpa using hb
  subst e;exact⟨_,st,fun v z=>by
   have z':Data.fields _=Data.cell v:=z;cases z'⟩
 keep:=fun i h h' st k=>k it (by simp) _ st
 item:=by
  intro X hP hw hK hc i pins s σ H E I hf st hg;subst hP hw hK;obtain⟨f0,f1,f2,f3,f4,f5⟩:=hf it (by simp);have W:=Walks.range (prog:=X.prog) (w:=X.w) (I.ok.hd hc) it lo 1 n;refine W.item i s _ _ hg st fun v h' tk hv st' kk=>?_;obtain⟨t,rfl⟩:=hv;have I1:Inv X pins σ H {s with heap:=h',toks:=tk}:=I.turned (fun b o hb e=>kk b o (by simpa using hb) e) f0 f1 f3 f4 f5;refine⟨_,rfl,B3 (s:={s with heap:=h',toks:=tk}) (n:="range_iterator") st' rfl rfl (by decide) ⟨.int (lo+i),H,I1,⟨t,?_⟩,⟨rfl,rfl⟩,st',fun b hb=>(hf b hb).1⟩⟩;rw[Int.mul_one]
 done:=by
  intro X hP hw hK hc i pins s σ H E I hf st hg;subst hP hw hK;obtain⟨f0,f1,f2,f3,f4,f5⟩:=hf it (by simp);exact wpAny_pyNext_range_end (I.ok.hd hc) st (by have:n<=i:=hg;omega) fun h' eb=>⟨rfl,I.turned (t':=s.toks) (fun b o hb e=>eb b o hb e) f0 f1 f3 f4 f5⟩
 self:=fun _ _ _ _ _ st h=>wpAny_pyIter_rangeiter st h
end L2
namespace L2
open PySem PySem.Spec PyProof.Rows
section
variable {X:Cx} {tg:Expr}
def IJ (K:yA) (tl:TE):TI:=fun σ H R=>tl σ H fun x H1=>∃a,x=.ref a/\(∃xs,aL K H1 a xs)/\R (MK K a) H1
def So (K:yA) (tl:TE):TI:=fun σ H R=>tl σ H fun x H1=>∃a,x=.ref a/\(∃xs,dB K H1 a xs)/\R (OE K a) H1
theorem bz {l:Expr} {tl:TE} (hl:PE X l tl):PI X tg l (IJ X.K tl):=by
 intro pins s σ H R I h;refine cS (hl pins s σ H _ I h) fun v s1 ⟨x,H1,I1,r1,q1⟩=>?_;obtain⟨a,e,⟨xs,hq⟩,q⟩:=q1;subst e;cases r1;obtain⟨its,rv,p,hz⟩:=I1.list hq;refine wpAny_pyIter_list p.isList ?_;refine⟨s1.heap.objs.size,[s1.heap.objs.size],_,_,H1,rfl,I1.kept (t':=s1.toks) fun b o e=>yu _ e,Jl a _,⟨_,yw _ rfl,rfl,rfl⟩,fun b hb=>?_,q⟩;have e:b=s1.heap.objs.size:=by simpa using hb
 subst e;exact I1.vX (zk _) (I1.bZ.fresh (zk _))
theorem ke {l:Expr} {tl:TE} (hl:PE X l tl):PI X tg l (So X.K tl):=by
 intro pins s σ H R I h;refine cS (hl pins s σ H _ I h) fun v s1 ⟨x,H1,I1,r1,q1⟩=>?_;obtain⟨a,e,⟨xs,hq⟩,q⟩:=q1;subst e;cases r1;obtain⟨its,rv,p,hz⟩:=I1.tuple hq;refine wpAny_pyIter_tuple (show s1.heap.IsTuple a its.toArray from p) ?_;refine⟨s1.heap.objs.size,[s1.heap.objs.size],_,_,H1,rfl,I1.kept (t':=s1.toks) fun b o e=>yu _ e,GF a _,⟨_,yw _ rfl,rfl,rfl⟩,fun b hb=>?_,q⟩;have e:b=s1.heap.objs.size:=by simpa using hb
 subst e;exact I1.vX (zk _) (I1.bZ.fresh (zk _))
theorem EV {pins:List (Addr×Obj)} {σ:St} {H:Hp} {s:Shared} {R:It->Hp->Prop} {E:Value->Shared->Prop} {lo hi:Int} {t u v:Tok} {tk:Nat} (I:Inv X pins σ H s) (h1:-(2^62)<=lo) (h2:lo<2^62) (h3:-(2^62)<=hi) (h4:hi<2^62)
  (q:R (MJ lo (hi-lo).toNat) H):wpAny (model X.prog X.w) X.A (pyIter (.ref s.heap.objs.size)) (SO X pins σ tg R) E {s with heap:=s.heap.push {cls:=.type "range",data:=.fields #[.int lo t,.int hi u,.int 1 v]},toks:=tk}:=by
 refine wpAny_pyIter_range (IsRange.new ..) (small_one h1 h2 h3 h4) ?_;have I1:Inv X pins σ H {s with heap:=s.heap.push {cls:=.type "range",data:=.fields #[.int lo t,.int hi u,.int 1 v]},toks:=tk}:=I.kept fun b o e=>yu _ e;refine⟨(s.heap.push {cls:=.type "range",data:=.fields #[.int lo t,.int hi u,.int 1 v]}).objs.size,[(s.heap.push {cls:=.type "range",data:=.fields #[.int lo t,.int hi u,.int 1 v]}).objs.size],_,_,H,rfl,
  I1.kept (t':=tk) fun b o e=>yu _ e,GG _ lo (hi-lo).toNat,?_,fun b hb=>?_,q⟩
 ·have e1:lo+((0:Nat):Int)*1=lo:=by simp
  have e2:(((hi-lo).toNat:Nat):Int)-((0:Nat):Int)=Builtin.Range.rangeSize lo hi 1:=by rw[rangeSize_one];split <;> omega
  show IsRangeIter _ _ (lo+((0:Nat):Int)*1) ((((hi-lo).toNat:Nat):Int)-((0:Nat):Int)) 1;rw[e1,e2];exact yw _ rfl
 ·have e:b=(s.heap.push {cls:=.type "range",data:=.fields #[.int lo t,.int hi u,.int 1 v]}).objs.size:=by simpa using hb
  subst e;exact I1.vX (zk _) (I1.bZ.fresh (zk _))
def Mb (ta:TA):TI:=fun σ H R=>ta σ H fun vs H1=>∃j:Int,vs=[.int j]/\-(2^62)<=j/\j<2^62/\R (MJ 0 j.toNat) H1
def QW (ta:TA):TI:=fun σ H R=>ta σ H fun vs H1=>∃i j:Int,vs=[.int i,.int j]/\(-(2^62)<=i/\i<2^62/\-(2^62)<=j/\j<2^62)/\R (MJ i (j-i).toNat) H1
theorem cO {a:Expr} {ta:TA} {p pos:Pos} (hg:Gl X "range") (hm:X.mg "range"= none) (ha:PA X [a] ta) (hs:autoParam (starEach [a] X.env=[(false,eval a X.env)]) qe_):PI X tg (.Call (.Name "range" p) [a] [] pos) (Mb ta):=by
 intro pins s σ H R I h;refine Call_ (jn I hg hm boot_range (PyProof.Rows.callWith_type1 (cS (ha pos pins s σ H _ I h) fun us s1 ⟨vs,H1,I1,r1,q1⟩=>?_) hs rfl));obtain⟨j,e,q1,q2,q⟩:=q1;subst e;cases r1 with
 | cons r rr=>
  cases rr;obtain⟨t,rfl⟩:=r;exact call_range_1 (EV I1 nofun nofun q1 q2 (by simpa using q))
theorem BM (hg:Gl X "range") (hm:X.mg "range"= none) (ha:PA X [a,b] ta) (hs:autoParam (starEach [a,b] X.env=[(false,eval a X.env),(false,eval b X.env)]) qe_) (hs2:autoParam (starEach [b] X.env=[(false,eval b X.env)]) qe_) :
  PI X tg (.Call (.Name "range" p) [a,b] [] pos) (QW ta):=by
 intro pins s σ H R I h;refine Call_ (jn I hg hm boot_range (PyProof.Rows.callWith_type1 (cS (ha pos pins s σ H _ I h) fun us s1 ⟨vs,H1,I1,r1,q1⟩=>?_) (by rw[hs,hs2]) (by rw[hs2];rfl)));obtain⟨i,j,e,⟨q1,q2,q3,q4⟩,q⟩:=q1;subst e;cases r1 with
 | cons r rr=>
  cases rr with
  | cons r' rr=>
   cases rr;obtain⟨t,rfl⟩:=r;obtain⟨t',rfl⟩:=r';exact call_range_2 (EV I1 q1 q2 q3 q4 q)
def OX (wi:TI) (g:TG) (tb:TS):TS:=fun D σ H=>wi σ H fun J H1=>∃W:Nat->Nat->St->Hp->Prop,(∃m,W 0 m σ H1)/\∀i m σ H,W i m σ H->
 (J.stop i H/\D.nx σ H)\/(J.go i H/\∃N:St->Hp->Prop,(∀σ' H',N σ' H'->∃m',m'<m/\W (i+1) m' σ' H')/\∀x H',J.Ji i H x H'->g x σ H' fun σ2 H2=>tb {D with nx:=N,ct:=N,bk:=D.nx} σ2 H2)
def tN (fp:List Addr) (h:Heap):List (Addr×Obj):=fp.filterMap fun b=>(h.get? b).map fun o=>(b,o)
theorem gw (hb:b∈fp) (e:h.get? b=some o):(b,o)∈tN fp h:=List.mem_filterMap.mpr ⟨b,hb,by rw[e];rfl⟩
theorem JI (hp:p∈tN fp h):p.1∈fp/\h.get? p.1=some p.2:=by
 obtain⟨b,hb,e⟩:=List.mem_filterMap.mp hp;cases q:h.get? b with
 | none=>rw[q] at e;cases e
 | some o=>
  rw[q] at e;have e':(b,o)=p:=yj e;subst e';exact⟨hb,q⟩
theorem Inv.pinned (I:Inv X pins σ H s) (hf:∀b∈fp,qP X pins H b) (ho:∀b∈fp,∃o,s.heap.get? b=some o/\∀v,o.data≠.cell v):Inv X (pins++tN fp s.heap) σ H s:=
 I.oB fun p hp=>(zF.mp hp).elim (fun z=>I.pin p (zH _ z)) fun z=>by
  obtain⟨hb,e⟩:=JI z;obtain⟨f0,f1,f2,_⟩:=hf p.1 hb;obtain⟨o,e',d⟩:=ho p.1 hb;rw[e] at e';cases e';exact⟨e,f0,f1,f2,d⟩
theorem Inv.wY (I:Inv X (pins++pl) σ H s):Inv X pins σ H s:=I.oB fun p hp=>I.pin p (zH _ (zI _ hp))
theorem cE (hp:PassesOwn (model X.prog X.w) X.A X.env X.xe) (hc:X.calm=true) (hi:PI X tg iter wi) (hg:PG X tg g) (hb:Eb X body tb)
  (hs:autoParam (∀x,foldedSetIterable iter X.env x=pure x) qd_):PS X (.For tg iter body [] pos) (OX wi g tb):=by
 intro pins s σ H D I h;refine wpAny_For (cS (hi pins s σ H _ I h) fun v s1 h1=>cS h1 fun itv s2 h2=>?_) hs;obtain⟨it,fp,tn,J,H2,e,I2,T,st2,f2,W,⟨m0,w0⟩,turn⟩:=h2;subst e;have stat:∀{H':Hp},(∀b∈fp,H' b=none)->∀b∈fp,qP X pins H' b:=fun hn b hb=>⟨hn b hb,(f2 b hb).2⟩
 refine codeAny_forLoop_any (fun n s'=>∃i σ' H',Inv X pins σ' H' s'/\tn i s'.heap/\(∀b∈fp,H' b=none)/\W i n σ' H') ?_ m0 ⟨0,σ,H2,I2,st2,fun b hb=>(f2 b hb).1,w0⟩;rintro n s3 ⟨i,σ3,H3,I3,st3,fr3,w3⟩;rcases turn i n σ3 H3 w3 with⟨stop,qn⟩ | ⟨go,N,hN,step⟩
 ·refine wpAny_passesOwn hp (cS (T.done X rfl rfl rfl hc i pins s3 σ3 H3 X.xe I3 (stat fr3) st3 stop) fun r s4 ⟨hr,I4⟩=>?_)
  subst hr;exact wpAny_execs_nil ⟨σ3,H3,I4,qn⟩
 ·refine wpAny_passesOwn hp (cS (T.item X rfl rfl rfl hc i pins s3 σ3 H3 X.xe I3 (stat fr3) st3 go) fun r s4 ⟨u,hr,h4⟩=>?_)
  subst hr;refine wpAny_passesOwn hp (cS h4 fun _ s5 ⟨x,H5,I5,r5,y5,st5,fr5⟩=>?_);have I5':=I5.pinned (stat fr5) (T.obj _ _ st5);refine wpAny_passesOwn hp (cS (hg _ s5 σ3 H5 x u _ I5' r5 (step x H5 y5)) fun _ s6 ⟨σ6,H6,I6,q6⟩=>?_);refine wpAny_passesOwn hp (cS (hb _ s6 σ6 H6 _ I6 q6) fun f s7 q7=>?_);have again:∀{σ7:St} {H7:Hp},Inv X (pins++tN fp s5.heap) σ7 H7 s7->N σ7 H7->∃m,m<n/\∃i σ' H',Inv X pins σ' H' s7/\tn i s7.heap/\(∀b∈fp,H' b=none)/\W i m σ' H':=fun {σ7 H7} I7 n7=>by
   obtain⟨m',hm,w7⟩:=hN σ7 H7 n7;refine⟨m',hm,i+1,σ7,H7,I7.wY,T.keep _ _ _ st5 fun b hb o e=>(I7.pin (b,o) (zH _ (zH _ (gw hb e)))).1,fun b hb=>?_,w7⟩;obtain⟨o,e,d⟩:=T.obj _ _ st5 b hb;exact(I7.pin (b,o) (zH _ (zH _ (gw hb e)))).2.1
  cases f with
  | next=>obtain⟨σ7,H7,I7,n7⟩:=q7;exact again I7 n7
  | cont=>obtain⟨σ7,H7,I7,n7⟩:=q7;exact again I7 n7
  | brk=>obtain⟨σ7,H7,I7,q7⟩:=q7;exact⟨σ7,H7,I7.wY,q7⟩
  | ret v=>obtain⟨x7,σ7,H7,I7,r7,q7⟩:=q7;exact⟨x7,σ7,H7,I7.wY,r7,q7⟩
end
theorem dX {K:yA} {a:Addr} {xs:List V} {g:TG} {tb:TS} {D:Ends} {σ:St} {H:Hp} (Pv:Nat->St->Hp->Prop) (h0:Pv 0 σ H) (hl:∀i σ H,i<=xs.length->Pv i σ H->aL K H a xs)
  (hs:∀i x σ H,xs[i]?=some x->Pv i σ H->g x σ H fun σ2 H2=>tb {D with nx:=Pv (i+1),ct:=Pv (i+1),bk:=D.nx} σ2 H2) (hd:∀σ H,Pv xs.length σ H->D.nx σ H) :
  ∃W:Nat->Nat->St->Hp->Prop,(∃m,W 0 m σ H)/\∀i m σ H,W i m σ H->
   ((MK K a).stop i H/\D.nx σ H)\/((MK K a).go i H/\∃N:St->Hp->Prop,(∀σ' H',N σ' H'->∃m',m'<m/\W (i+1) m' σ' H')/\∀x H',(MK K a).Ji i H x H'->g x σ H' fun σ2 H2=>tb {D with nx:=N,ct:=N,bk:=D.nx} σ2 H2):=by
 refine⟨fun i m σ H=>m=xs.length-i/\i<=xs.length/\Pv i σ H,⟨xs.length,by simp,yf _,h0⟩,?_⟩;rintro i m σ H ⟨rfl,hi,p⟩;have q:=hl i σ H hi p
 by_cases hlt:i<xs.length
 ·refine .inr ⟨⟨xs,xs[i],q,by simp[hlt]⟩,Pv (i+1),fun σ' H' p'=>⟨xs.length-(i+1),nofun,rfl,hlt,p'⟩,fun x H' y=>?_⟩
  obtain⟨e,y⟩:=y;subst e;exact hs i x σ _ (y xs q) p
 ·have e:i=xs.length:=nofun
  subst e;exact .inl ⟨⟨xs,q,zk _⟩,hd σ H p⟩
theorem IL {K:yA} {a:Addr} {xs:List V} {g:TG} {tb:TS} {D:Ends} {σ:St} {H:Hp} (Pv:Nat->St->Hp->Prop) (h0:Pv 0 σ H) (hl:∀i σ H,i<=xs.length->Pv i σ H->dB K H a xs)
  (hs:∀i x σ H,xs[i]?=some x->Pv i σ H->g x σ H fun σ2 H2=>tb {D with nx:=Pv (i+1),ct:=Pv (i+1),bk:=D.nx} σ2 H2) (hd:∀σ H,Pv xs.length σ H->D.nx σ H) :
  ∃W:Nat->Nat->St->Hp->Prop,(∃m,W 0 m σ H)/\∀i m σ H,W i m σ H->
   ((OE K a).stop i H/\D.nx σ H)\/((OE K a).go i H/\∃N:St->Hp->Prop,(∀σ' H',N σ' H'->∃m',m'<m/\W (i+1) m' σ' H')/\∀x H',(OE K a).Ji i H x H'->g x σ H' fun σ2 H2=>tb {D with nx:=N,ct:=N,bk:=D.nx} σ2 H2):=by
 refine⟨fun i m σ H=>m=xs.length-i/\i<=xs.length/\Pv i σ H,⟨xs.length,by simp,yf _,h0⟩,?_⟩;rintro i m σ H ⟨rfl,hi,p⟩;have q:=hl i σ H hi p
 by_cases hlt:i<xs.length
 ·refine .inr ⟨⟨xs,xs[i],q,by simp[hlt]⟩,Pv (i+1),fun σ' H' p'=>⟨xs.length-(i+1),nofun,rfl,hlt,p'⟩,fun x H' y=>?_⟩
  obtain⟨e,y⟩:=y;subst e;exact hs i x σ _ (y xs q) p
 ·have e:i=xs.length:=nofun
  subst e;exact .inl ⟨⟨xs,q,zk _⟩,hd σ H p⟩
theorem gy {lo:Int} {n:Nat} {g:TG} {tb:TS} {D:Ends} {σ:St} {H:Hp} (Pv:Nat->St->Hp->Prop) (h0:Pv 0 σ H)
  (hs:∀i σ H,i<n->Pv i σ H->g (.int (lo+i)) σ H fun σ2 H2=>tb {D with nx:=Pv (i+1),ct:=Pv (i+1),bk:=D.nx} σ2 H2) (hd:∀σ H,Pv n σ H->D.nx σ H) :
  ∃W:Nat->Nat->St->Hp->Prop,(∃m,W 0 m σ H)/\∀i m σ H,W i m σ H->
   ((MJ lo n).stop i H/\D.nx σ H)\/((MJ lo n).go i H/\∃N:St->Hp->Prop,(∀σ' H',N σ' H'->∃m',m'<m/\W (i+1) m' σ' H')/\∀x H',(MJ lo n).Ji i H x H'->g x σ H' fun σ2 H2=>tb {D with nx:=N,ct:=N,bk:=D.nx} σ2 H2):=by
 refine⟨fun i m σ H=>m=n-i/\i<=n/\Pv i σ H,⟨n,by simp,yf _,h0⟩,?_⟩;rintro i m σ H ⟨rfl,hi,p⟩
 by_cases hlt:i<n
 ·refine .inr ⟨hlt,Pv (i+1),fun σ' H' p'=>⟨n-(i+1),nofun,rfl,hlt,p'⟩,fun x H' y=>?_⟩
  obtain⟨e,y⟩:=y;subst e y;exact hs i σ _ hlt p
 ·have e:i=n:=nofun
  subst e;exact .inl ⟨zk _,hd σ H p⟩
end L2
namespace L2
open PySem PySem.Spec PyProof.Rows
abbrev R2:=V->V->Hp->VK->Prop
def oX (X:Cx) (f:Value->Value->Sem Value) (r:R2):Prop:=
 ∀(pins:List (Addr×Obj)) (s:Shared) (σ:St) (H:Hp) (x y:V) (v u:Value) (Q:VK),Inv X pins σ H s->RelV x v->RelV y u->r x y H Q->
  wpAny (model X.prog X.w) X.A (f v u) (EP X pins σ Q) X.xe s
def SE (X:Cx) (f:Value->Sem Value) (r:V->Hp->VK->Prop):Prop:=
 ∀(pins:List (Addr×Obj)) (s:Shared) (σ:St) (H:Hp) (x:V) (v:Value) (Q:VK),Inv X pins σ H s->RelV x v->r x H Q->
  wpAny (model X.prog X.w) X.A (f v) (EP X pins σ Q) X.xe s
def fO (X:Cx) (f:Value) (r:List V->Hp->VK->Prop):Prop:=
 ∀(pins:List (Addr×Obj)) (s:Shared) (σ:St) (H:Hp) (xs:List V) (us:List Value) (Q:VK),Inv X pins σ H s->Vals xs us->r xs H Q->
  wpAny (model X.prog X.w) X.A (call f us) (EP X pins σ Q) X.xe s
def fQ (r:R2) (ta tb:TE):TE:=fun σ H Q=>ta σ H fun x H1=>tb σ H1 fun y H2=>r x y H2 Q
def S5 (r:V->Hp->VK->Prop) (ta:TE):TE:=fun σ H Q=>ta σ H fun x H1=>r x H1 Q
def rI (C:Int->Int->Prop) (g:Int->Int->V):R2:=fun x y H Q=>∃i j,x=.int i/\y=.int j/\C i j/\Q (g i j) H
def vK (g:Int->Int->V):R2:=fun x y H Q=>∃i j,x=.int i/\y=.int j/\Q (g i j) H
def rU (g:Int->V):V->Hp->VK->Prop:=fun x H Q=>∃i,x=.int i/\Q (g i) H
section
variable {X:Cx} {a b c:Expr} {ta tb tc:TE} {pos:Pos}
theorem P6 (ha:PE X a ta) (hb:PE X b tb) {pins:List (Addr×Obj)} {s:Shared} {σ:St} {H:Hp} {R:V->V->Hp->Prop} (I:Inv X pins σ H s)
  (h:ta σ H fun x H1=>tb σ H1 fun y H2=>R x y H2) {Q:Value->Shared->Prop} {f:Value->Value->Sem Value}
  (hf:∀v u s2 x y H2,Inv X pins σ H2 s2->RelV x v->RelV y u->R x y H2->wpAny (model X.prog X.w) X.A (f v u) Q X.xe s2) :
  wpAny (model X.prog X.w) X.A (eval a X.env) (fun v s₁=>wpAny (model X.prog X.w) X.A (eval b X.env) (fun u s₂=>wpAny (model X.prog X.w) X.A (f v u) Q X.xe s₂) X.xe s₁) X.xe s:=by
 refine cS (ha pins s σ H _ I h) fun v s1 ⟨x,H1,I1,r1,q1⟩=>?_;refine cS (hb pins s1 σ H1 _ I1 q1) fun u s2 ⟨y,H2,I2,r2,q2⟩=>?_;exact hf v u s2 x y H2 I2 r1 r2 q2
theorem ar {op:Operator} {r:R2} (ho:oX X (binaryOp op) r) (ha:PE X a ta) (hb:PE X b tb):PE X (.BinOp a op b pos) (fQ r ta tb):=by
 intro pins s σ H Q I h;exact wpAny_BinOp (P6 ha hb I h fun v u s2 x y H2 I2 rx ry q=>ho pins s2 σ H2 x y v u Q I2 rx ry q)
theorem rT (ho:SE X (unaryOp op) r) (ha:PE X a ta):PE X (.UnaryOp op a pos) (S5 r ta):=by
 intro pins s σ H Q I h;exact UnaryOp_ (cS (ha pins s σ H _ I h) fun v s1 ⟨x,H1,I1,r1,q1⟩=>ho pins s1 σ H1 x v Q I1 r1 q1)
theorem Qh {f:Value->Value->Sem Value} {C:Int->Int->Prop} {g:Int->Int->Int}
  (rule:∀(i j:Int) (t u:Tok) (s:Shared) (Q:Value->Shared->Prop) (E:Value->Shared->Prop),C i j->Q (.int (g i j) s.toks) {s with toks:=s.toks+1}->wpAny (model X.prog X.w) X.A (f (.int i t) (.int j u)) Q E s) :
  oX X f (rI C fun i j=>.int (g i j)):=by
 intro pins s σ H x y v u Q I rx ry h;obtain⟨i,j,rfl,rfl,hc,q⟩:=h;obtain⟨t,rfl⟩:=rx;obtain⟨t',rfl⟩:=ry;exact rule i j t t' s _ _ hc ⟨.int (g i j),H,I.tok _,⟨_,rfl⟩,q⟩
theorem Pu {f:Value->Value->Sem Value} {g:Int->Int->Int}
  (rule:∀(i j:Int) (t u:Tok) (s:Shared) (Q:Value->Shared->Prop) (E:Value->Shared->Prop),Q (.int (g i j) s.toks) {s with toks:=s.toks+1}->wpAny (model X.prog X.w) X.A (f (.int i t) (.int j u)) Q E s) :
  oX X f (vK fun i j=>.int (g i j)):=by
 intro pins s σ H x y v u Q I rx ry h;obtain⟨i,j,rfl,rfl,q⟩:=h;obtain⟨t,rfl⟩:=rx;obtain⟨t',rfl⟩:=ry;exact rule i j t t' s _ _ ⟨.int (g i j),H,I.tok _,⟨_,rfl⟩,q⟩
theorem Nz {f:Value->Value->Sem Value} {g:Int->Int->Bool}
  (rule:∀(i j:Int) (t u:Tok) (s:Shared) (Q:Value->Shared->Prop) (E:Value->Shared->Prop),Q (.bool (g i j)) s->wpAny (model X.prog X.w) X.A (f (.int i t) (.int j u)) Q E s) :
  oX X f (vK fun i j=>.bl (g i j)):=by
 intro pins s σ H x y v u Q I rx ry h;obtain⟨i,j,rfl,rfl,q⟩:=h;obtain⟨t,rfl⟩:=rx;obtain⟨t',rfl⟩:=ry;exact rule i j t t' s _ _ ⟨.bl (g i j),H,I,rfl,q⟩
def Qe (i j:Int):Prop:=0<j/\j<1073741824
def Ku (i j:Int):Prop:=(-(2^64)<i/\i<2^64)\/(-(2^64)<j/\j<2^64)
theorem Ku.ok (h:Ku i j):IntMulOk i j:=by
 rcases h with⟨h1,h2⟩ | ⟨h1,h2⟩
 ·exact .of_left (intBits_le_64 h1 h2)
 ·exact .of_right (intBits_le_64 h1 h2)
theorem GD (k:Nat):(0:Int)<=2^k:=by
 rw[two_pow_cast];exact Int.natCast_nonneg _
theorem bg:oX X (binaryOp .Add) (vK fun i j=>.int (i+j)):=Pu fun _ _ _ _ _ _ _ q=>add_int q
theorem kf:oX X (binaryOp .Sub) (vK fun i j=>.int (i-j)):=Pu fun _ _ _ _ _ _ _ q=>sub_int q
theorem d5:oX X (binaryOp .Mult) (rI Ku fun i j=>.int (i*j)):=Qh fun _ _ _ _ _ _ _ hc q=>mul_int q hc.ok
theorem aW:oX X (binaryOp .FloorDiv) (rI Qe fun i j=>.int (i/j)):=Qh fun i j _ _ _ _ _ hc q=>by
 have h1:(0:Int)<j:=hc.1;have h2:j<1073741824:=hc.2;exact floordiv_int nofun (by rw[Int.fdiv_eq_ediv_of_nonneg i nofun];exact q) (.inl (PyProof.noPylong_small nofun))
theorem aV:oX X (binaryOp .Mod) (rI (fun _ j=>0<j) fun i j=>.int (i%j)):=Qh fun i j _ _ _ _ _ hc q=>by
 have h1:(0:Int)<j:=hc;exact mod_int' nofun (by rw[Int.fmod_eq_emod_of_nonneg i nofun];exact q)
theorem Pr:oX X (binaryOp .RShift) (rI (fun _ j=>0<=j) fun i j=>.int (i/2^j.toNat)):=Qh fun i j _ _ _ _ _ hc q=>
 rshift_int hc (by rw[Int.fdiv_eq_ediv_of_nonneg i (GD _)];exact q)
theorem Pt:oX X (binaryOp .BitAnd) (vK fun i j=>.int (Builtin.bitAnd i j)):=Pu fun _ _ _ _ _ _ _ q=>and_int q
theorem SY {f:Value->Sem Value} {g:Int->Int}
  (rule:∀(i:Int) (t:Tok) (s:Shared) (Q:Value->Shared->Prop) (E:Value->Shared->Prop),Q (.int (g i) s.toks) {s with toks:=s.toks+1}->wpAny (model X.prog X.w) X.A (f (.int i t)) Q E s) :
  SE X f (rU fun i=>.int (g i)):=by
 intro pins s σ H x v Q I rx h;obtain⟨i,rfl,q⟩:=h;obtain⟨t,rfl⟩:=rx;exact rule i t s _ _ ⟨.int (g i),H,I.tok _,⟨_,rfl⟩,q⟩
theorem kY:SE X (unaryOp .USub) (rU fun i=>.int (-i)):=SY fun _ _ _ _ _ q=>neg_int q
end
def M9:V->V->Bool
 | .bE,.bE=>true | .bE,.int _=>true | .int _,.bE=>true | .bE,.bl _=>true | .bl _,.bE=>true | .bE,.str _=>true | .str _,.bE=>true
 | .int _,.int _=>true | .bl _,.bl _=>true | .str _,.str _=>true | .IX _,.IX _=>true
 | .int _,.str _=>true | .str _,.int _=>true | .bl _,.str _=>true | .str _,.bl _=>true
 | _,_=>false
def Sf:R2:=fun x y H Q=>M9 x y=true/\Q (.bl (decide (x=y))) H
def Sd:R2:=fun x y H Q=>M9 x y=true/\Q (.bl (!decide (x=y))) H
theorem Dp:decide (V.int i=V.int j)=(i == j):=by
 rw[Bool.eq_iff_iff];simp
theorem Mt:decide (V.bl i=V.bl j)=(i == j):=by
 rw[Bool.eq_iff_iff];simp
theorem Dm:decide (V.str i=V.str j)=(i == j):=by
 rw[Bool.eq_iff_iff];simp
theorem IS:decide (V.IX i=V.IX j)=(i.toList == j.toList):=by
 rw[Bool.eq_iff_iff];cases i;cases j;simp
section
variable {X:Cx} {a b c:Expr} {ta tb tc:TE} {pos:Pos}
theorem b8 (I:Inv X pins σ H s) (q:Q (.bl k) H) (e:k=k'):EP X pins σ Q (.bool k') s:=by
 subst e;exact⟨.bl k,H,I,rfl,q⟩
theorem de:oX X (compareOp .Eq) Sf:=by
 intro pins s σ H x y v u Q I rx ry h;obtain⟨hs,q⟩:=h;cases x with
 | bE=>
  cases rx;cases y with
  | bE=>cases ry;exact PySem.EqNone.eq_none_none (b8 I q (by simp))
  | bl j=>cases ry;exact PySem.EqNone.eq_none_bool (b8 I q (by simp))
  | int j=>obtain⟨t',rfl⟩:=ry;exact PySem.EqNone.eq_none_int (b8 I q (by simp))
  | str j=>obtain⟨t',rfl⟩:=ry;exact PySem.EqNone.eq_none_str (b8 I q (by simp))
  | _=>exact absurd (show false=true from hs) zK
 | bl i=>
  cases rx;cases y with
  | bE=>cases ry;exact PySem.EqNone.eq_bool_none (b8 I q (by simp))
  | bl j=>cases ry;exact eq_bool (b8 I q Mt)
  | str j=>obtain⟨t',rfl⟩:=ry;exact PySem.EqMixed.eq_bool_str (b8 I q (by simp))
  | _=>exact absurd (show false=true from hs) zK
 | int i=>
  obtain⟨t,rfl⟩:=rx;cases y with
  | bE=>cases ry;exact PySem.EqNone.eq_int_none (b8 I q (by simp))
  | int j=>obtain⟨t',rfl⟩:=ry;exact eq_int (b8 I q Dp)
  | str j=>obtain⟨t',rfl⟩:=ry;exact PySem.EqMixed.eq_int_str (b8 I q (by simp))
  | _=>exact absurd (show false=true from hs) zK
 | str i=>
  obtain⟨t,rfl⟩:=rx;cases y with
  | bE=>cases ry;exact PySem.EqNone.eq_str_none (b8 I q (by simp))
  | bl j=>cases ry;exact PySem.EqMixed.eq_str_bool (b8 I q (by simp))
  | int j=>obtain⟨t',rfl⟩:=ry;exact PySem.EqMixed.eq_str_int (b8 I q (by simp))
  | str j=>obtain⟨t',rfl⟩:=ry;exact eq_str (b8 I q Dm)
  | _=>exact absurd (show false=true from hs) zK
 | IX i=>
  obtain⟨t,rfl⟩:=rx;cases y with
  | IX j=>obtain⟨t',rfl⟩:=ry;exact PySem.W.eq_bytes (b8 I q IS)
  | _=>exact absurd (show false=true from hs) zK
 | _=>cases y <;> exact absurd (show false=true from hs) zK
theorem jR:oX X (compareOp .NotEq) Sd:=by
 intro pins s σ H x y v u Q I rx ry h;obtain⟨hs,q⟩:=h;cases x with
 | bE=>
  cases rx;cases y with
  | bE=>cases ry;exact PySem.EqNone.ne_none_none (b8 I q (by simp))
  | bl j=>cases ry;exact PySem.EqNone.ne_none_bool (b8 I q (by simp))
  | int j=>obtain⟨t',rfl⟩:=ry;exact PySem.EqNone.ne_none_int (b8 I q (by simp))
  | str j=>obtain⟨t',rfl⟩:=ry;exact PySem.EqNone.ne_none_str (b8 I q (by simp))
  | _=>exact absurd (show false=true from hs) zK
 | bl i=>
  cases rx;cases y with
  | bE=>cases ry;exact PySem.EqNone.ne_bool_none (b8 I q (by simp))
  | bl j=>cases ry;exact ne_bool (b8 I q (congrArg not Mt))
  | str j=>obtain⟨t',rfl⟩:=ry;exact PySem.EqMixed.ne_bool_str (b8 I q (by simp))
  | _=>exact absurd (show false=true from hs) zK
 | int i=>
  obtain⟨t,rfl⟩:=rx;cases y with
  | bE=>cases ry;exact PySem.EqNone.ne_int_none (b8 I q (by simp))
  | int j=>obtain⟨t',rfl⟩:=ry;exact ne_int (b8 I q (congrArg not Dp))
  | str j=>obtain⟨t',rfl⟩:=ry;exact PySem.EqMixed.ne_int_str (b8 I q (by simp))
  | _=>exact absurd (show false=true from hs) zK
 | str i=>
  obtain⟨t,rfl⟩:=rx;cases y with
  | bE=>cases ry;exact PySem.EqNone.ne_str_none (b8 I q (by simp))
  | bl j=>cases ry;exact PySem.EqMixed.ne_str_bool (b8 I q (by simp))
  | int j=>obtain⟨t',rfl⟩:=ry;exact PySem.EqMixed.ne_str_int (b8 I q (by simp))
  | str j=>obtain⟨t',rfl⟩:=ry;exact ne_str (b8 I q (congrArg not Dm))
  | _=>exact absurd (show false=true from hs) zK
 | IX i=>
  obtain⟨t,rfl⟩:=rx;cases y with
  | IX j=>obtain⟨t',rfl⟩:=ry;exact PySem.W.ne_bytes (b8 I q (congrArg not IS))
  | _=>exact absurd (show false=true from hs) zK
 | _=>cases y <;> exact absurd (show false=true from hs) zK
theorem fg:oX X (compareOp .Lt) (vK fun i j=>.bl (decide (i<j))):=Nz fun _ _ _ _ _ _ _ q=>lt_int q
theorem gn:oX X (compareOp .LtE) (vK fun i j=>.bl (decide (i<=j))):=Nz fun _ _ _ _ _ _ _ q=>le_int q
theorem fu:oX X (compareOp .Gt) (vK fun i j=>.bl (decide (j<i))):=Nz fun _ _ _ _ _ _ _ q=>gt_int q
theorem BR:oX X (compareOp .GtE) (vK fun i j=>.bl (decide (j<=i))):=Nz fun _ _ _ _ _ _ _ q=>ge_int q
theorem BQ:oX X (compareOp .In) (fun x y H Q=>∃i j,x=.str i/\y=.str j/\Q (.bl (!(Builtin.Str.occurrences j i 0 j.length 1).isEmpty)) H):=by
 intro pins s σ H x y v u Q I rx ry h;obtain⟨i,j,rfl,rfl,q⟩:=h;obtain⟨t,rfl⟩:=rx;obtain⟨t',rfl⟩:=ry;exact in_str (b8 I q rfl)
theorem aE (b:Expr) (h:autoParam (op≠.In) qb_) (h2:autoParam (op≠.NotIn) qb_):behindInMarks op b=false:=by
 have e1:(op == CmpOp.In)=false:=by cases op <;> first | rfl | exact absurd rfl h
 have e2:(op == CmpOp.NotIn)=false:=by cases op <;> first | rfl | exact absurd rfl h2
 cases b <;> simp[behindInMarks,e1,e2]
theorem dZ (ho:oX X (compareOp op) r) (ha:PE X a ta) (hb:PE X b tb) (hm:behindInMarks op b=false):PE X (.Compare a [op] [b] pos) (fQ r ta tb):=by
 intro pins s σ H Q I h;exact wpAny_Compare1 (P6 ha hb I h fun v u s2 x y H2 I2 rx ry q=>ho pins s2 σ H2 x y v u Q I2 rx ry q) hm
def oY (t:TE):TT:=fun σ H Q=>t σ H fun x H'=>∃k,x=.bl k/\Q k H'
theorem ay (ho:oX X (compareOp op) r) (ha:PE X a ta) (hb:PE X b tb) (hm:behindInMarks op b=false):PT X (.Compare a [op] [b] pos) (oY (fQ r ta tb)):=by
 intro pins s σ H Q I h;refine wpAny_isTrue_Compare1 (cS (ha pins s σ H _ I h) fun v s1 ⟨x,H1,I1,r1,q1⟩=>cS (hb pins s1 σ H1 _ I1 q1) fun u s2 ⟨y,H2,I2,r2,q2⟩=>
  cS (ho pins s2 σ H2 x y v u _ I2 r1 r2 q2) fun c s3 ⟨z,H3,I3,r3,k,e,q3⟩=>?_) hm
 subst e;cases r3;exact wpAny_truthy_bool ⟨H3,I3,q3⟩
def xh (r r':R2) (ta tb tc:TE):TE:=fun σ H Q=>ta σ H fun x H1=>tb σ H1 fun y H2=>r x y H2 fun z H3=>∃k,z=.bl k/\
 (if k=true then tc σ H3 fun w' H4=>r' y w' H4 Q else Q (.bl false) H3)
theorem E4 (ho:oX X (compareOp op) r) (ho':oX X (compareOp op') r') (ha:PE X a ta) (hb:PE X b tb) (hc:PE X c tc)
  (hm:autoParam (lastMarks [op,op'] [b,c]=false) qf_):PE X (.Compare a [op,op'] [b,c] pos) (xh r r' ta tb tc):=by
 intro pins s σ H Q I h;refine Compare_chain (cS (ha pins s σ H _ I h) fun v s1 ⟨x,H1,I1,r1,q1⟩=>chain_link (cS (hb pins s1 σ H1 _ I1 q1) fun u s2 ⟨y,H2,I2,r2,q2⟩=>
  cS (ho pins s2 σ H2 x y v u _ I2 r1 r2 q2) fun d s3 ⟨z,H3,I3,r3,k,e,q3⟩=>?_)) hm
 subst e;cases r3;refine wpAny_truthy_bool ?_;cases k with
 | false=>exact ite_ff ⟨.bl false,H3,I3,rfl,q3⟩
 | true=>exact ite_tt (chain_last (cS (hc pins s3 σ H3 _ I3 q3) fun w' s4 ⟨z',H4,I4,r4,q4⟩=>ho' pins s4 σ H4 y z' u w' Q I4 r2 r4 q4))
theorem Ly (ho:oX X (compareOp op) r) (ho':oX X (compareOp op') r') (ha:PE X a ta) (hb:PE X b tb) (hc:PE X c tc)
  (hm:autoParam (lastMarks [op,op'] [b,c]=false) qf_):PT X (.Compare a [op,op'] [b,c] pos) (oY (xh r r' ta tb tc)):=by
 intro pins s σ H Q I h;refine isTrue_chain (cS (ha pins s σ H _ I h) fun v s1 ⟨x,H1,I1,r1,q1⟩=>test_link (cS (hb pins s1 σ H1 _ I1 q1) fun u s2 ⟨y,H2,I2,r2,q2⟩=>
  cS (ho pins s2 σ H2 x y v u _ I2 r1 r2 q2) fun d s3 ⟨z,H3,I3,r3,k,e,q3⟩=>?_)) hm
 subst e;cases r3;refine wpAny_truthy_bool ?_;cases k with
 | false=>
  obtain⟨k',e',q'⟩:=q3;cases e';exact ite_ff ⟨H3,I3,q'⟩
 | true=>
  refine ite_tt (test_last (cS (hc pins s3 σ H3 _ I3 q3) fun w' s4 ⟨z',H4,I4,r4,q4⟩=>cS (ho' pins s4 σ H4 y z' u w' _ I4 r2 r4 q4) fun d' s5 ⟨z2,H5,I5,r5,k2,e2,q5⟩=>?_));subst e2;cases r5;exact wpAny_truthy_bool ⟨H5,I5,q5⟩
theorem yG:(sizeLine:Nat)<2^63:=by rw[yB];decide
theorem bS:oX X (binaryOp .Add) (fun x y H Q=>∃i j,x=.str i/\y=.str j/\i.length+j.length<=sizeLine/\Q (.str (i++j)) H):=by
 intro pins s σ H x y v u Q I rx ry h;obtain⟨i,j,rfl,rfl,hz,q⟩:=h;obtain⟨t,rfl⟩:=rx;obtain⟨t',rfl⟩:=ry;exact add_str (fun t' tk=>⟨.str (i++j),H,I.tok _,⟨_,rfl⟩,q⟩) hz
theorem vals1 (r:Vals [x] us):∃u,us=[u]/\RelV x u:=by
 cases r with
 | cons r1 r2=>cases r2;exact⟨_,rfl,r1⟩
theorem vals2 (r:Vals [x,y] us):∃u w',us=[u,w']/\RelV x u/\RelV y w':=by
 cases r with
 | cons r1 r2=>
  cases r2 with
  | cons r3 r4=>cases r4;exact⟨_,_,rfl,r1,r3⟩
theorem Ga:fO X (.builtin "abs") (fun xs H Q=>∃i,xs=[.int i]/\Q (.int (if i<0 then -i else i)) H):=by
 intro pins s σ H xs us Q I r h;obtain⟨i,rfl,q⟩:=h;obtain⟨u,rfl,t,rfl⟩:=vals1 r;exact call_abs_int fun u tk=>⟨.int (if i<0 then -i else i),H,I.tok _,⟨_,rfl⟩,q⟩
theorem Kc (hc:X.calm=true):fO X (.builtin "min") (fun xs H Q=>∃i j,xs=[.int i,.int j]/\Q (.int (if j<i then j else i)) H):=by
 intro pins s σ H xs us Q I r h;obtain⟨i,j,rfl,q⟩:=h;obtain⟨u,w',rfl,⟨t,rfl⟩,⟨t',rfl⟩⟩:=vals2 r;refine min_two_ints (I.ok.hd hc) fun h' tk k=>⟨_,H,I.kept k,?_,q⟩
 by_cases hj:j<i
 ·rw[if_pos hj,if_pos hj];exact⟨_,rfl⟩
 ·rw[if_neg hj,if_neg hj];exact⟨_,rfl⟩
theorem aX:fO X (.type "str") (fun xs H Q=>∃i,xs=[.int i]/\i.natAbs.log2<1920/\Q (.str (toString i)) H):=by
 intro pins s σ H xs us Q I r h;obtain⟨i,rfl,hz,q⟩:=h;obtain⟨u,rfl,t,rfl⟩:=vals1 r;exact PySem.P.str_of_int hz ⟨.str _,H,I.tok _,⟨_,rfl⟩,q⟩
end
end L2
namespace L2
open PySem PySem.Spec PyProof.Rows
structure Kq (h:Heap) (x dx C:Addr) (mA:Str->Option Value):Prop where
 obj:h.get? x=some (PySem.W.instObj C dx)
 ns:h.Ns1 dx mA
 ne:dx≠x
theorem JN {h:Heap} {dx:Addr} {mA:Str->Option Value} (n:h.Ns1 dx mA):∃od,h.get? dx=some od/\∀name,PySem.W.lookIn name od=some (mA name):=by
 obtain⟨o,es,ep,ho,hd,hk,_,hm⟩:=n;refine⟨o,ho,fun name=>?_⟩;have e:=hm name;unfold nsFind findBy at e;rw[<-Array.find?_toList] at e;unfold PySem.W.lookIn;rw[hd];dsimp only;split
 ·rename_i y q
  rw[q] at e;exact congrArg some e
 ·rename_i q
  rw[q] at e;have a:es.toList.any (·.refKey)=false:=by
   rw[List.any_eq_false];intro y hy;obtain⟨z,t,hkey⟩:=hk y (Array.mem_toList_iff.mp hy);simp[DictEntry.refKey,hkey]
  have a':¬es.toList.any (·.refKey)=true:=by rw[a];exact zK
  rw[if_neg a'];exact congrArg some e
theorem Kq.look (I:Kq h x dx C mA):∃od,PySem.W.InstAt h x (PySem.W.instObj C dx) C (some od)/\∀name,PySem.W.lookIn name od=some (mA name):=
 let ⟨od,ho,hl⟩:=JN I.ns
 ⟨od,⟨I.obj,rfl,rfl,ho⟩,hl⟩
section
variable {prog:Program} {w:World} {A:Around} {E:Value->Shared->Prop} {s:Shared} {K:yA} {x dx C f:Addr} {mA:Str->Option Value} {name:Str} {v:Value}
theorem get_map (X:K.In s.heap) (I:Kq s.heap x dx C mA) (hg:PySem.W.plainGet K C name=true) (hh:PySem.W.hasDictIn K C=true)
  (ha:PySem.W.findIn K (.ref C) name=some none) (hv:mA name=some v) (hv':PySem.W.handedIn v=true) (h:Q v {s with toks:=s.toks+1}) :
  wpAny (model prog w) A (getAttr (.ref x) name expr) Q E s:=by
 obtain⟨od,J,hl⟩:=I.look;exact PySem.W.get_value X J (PySem.W.plainGet_of hg).1 (PySem.W.findObj_own hh ha rfl (by rw[hl,hv])) hv' h
theorem M8 (X:K.In s.heap) (I:Kq s.heap x dx C mA)
  (hs:PySem.W.findIn K (.ref C) "__setattr__"= some (some (.builtin "object.__setattr__"))) (hp:PySem.W.plainOver K C=true) (ht:PySem.W.takerIn K C name=some none) (hh:PySem.W.hasDictIn K C=true)
  (hw:PySem.Within mA ns) (hsz:ns.length<=sizeLine)
  (h:∀h',Kq h' x dx C (fun y=>if y=name then some v else mA y)->Heap.SameBut dx s.heap h'->Q () {s with heap:=h',toks:=s.toks+2}) :
  wpAny (model prog w) A (setAttr (.ref x) name v) Q E s:=by
 obtain⟨od,J,hl⟩:=I.look;refine PySem.W.set_plain X J hs (PySem.W.osa_open (s:={s with toks:=s.toks+1}) (r:=none) X J hp ht fun b=>?_);obtain⟨cd,hc,hd'⟩:=PySem.W.any_some hh;have hx:s.heap.get? x=some ⟨.ref C,some dx,.plain,#[]⟩:=I.obj;refine yt (yv (yt (yt (wpAny_loadPart hx (yt (PySem.W.Looks.here (s:={s with toks:=s.toks+1}) (PySem.W.looks_clsIn X hc) ?_))))));rw[hd'];refine yv (a:=some dx) (yt (yv (yt ?_)));refine wpAny_nsSet1 (s:={s with toks:=s.toks+1}) I.ns fun h' hn2 hs2=>?_;obtain⟨oD,esD,epD,hoD,hdD,hcD⟩:=hn2.count (PySem.Within.cons name v hw);refine yt (wpAny_lookBehind hoD (by rw[hdD];exact pastItsLine_dict (zL hcD (by rw[zt];omega))) ?_);exact yv (h _ ⟨(hs2.2 _ (Ne.symm I.ne)).trans I.obj,hn2,I.ne⟩ hs2)
theorem LV (X:K.In s.heap) (hm:PySem.W.makesIn K C=true)
  (hi:PySem.W.findIn K (.ref C) "__init__"= some (some (.ref f))) (hf:PySem.W.typeIn K (.ref f)=some (.type "function"))
  (h:codeAny (model prog w) (A.under (.builtin "type.__call__" ⟨.ref C::vs,kw⟩)) (.call (.ref f) ⟨.ref (s.heap.objs.size+1)::vs,kw⟩) (PySem.W.InitBack (s.heap.objs.size+1) R)
   {s with heap:=(s.heap.push PySem.W.emptyDict).push (PySem.W.instObj C s.heap.objs.size)}) :
  codeAny (model prog w) A (.call (.ref C) ⟨vs,kw⟩) R s:=by
 obtain⟨hh,g,d,t,os⟩:=s;exact PySem.W.make_core (PySem.W.makes_of X hm) (PySem.W.looks_findIn X hi) (fun self=>PySem.W.bind_fn X self hf) (.inl rfl) h
end
def aY (f:Str) (v:V):List (Str×V)->List (Str×V)
 | []=>[(f,v)]
 | (g,x)::r=>if g=f then(g,v)::r else(g,x)::aY f v r
theorem vd (f g:Str) (v:V):∀fs:List (Str×V),(aY f v fs).lookup g=if g=f then some v else fs.lookup g
 | []=>by
  show List.lookup g [(f,v)]=_
  by_cases h:g=f
  ·have hb:(g == f)=true:=beq_iff_eq.mpr h
   simp only[List.lookup,hb,if_pos h]
  ·have hb:(g == f)=false:=beq_eq_false_iff_ne.mpr h
   simp only[List.lookup,hb,if_neg h]
 | (k,x)::r=>by
  have ih:=vd f g v r;rw[show aY f v ((k,x)::r)=(if k=f then(k,v)::r else(k,x)::aY f v r) from rfl]
  by_cases hk:k=f
  ·rw[if_pos hk]
   by_cases h:g=k
   ·have hb:(g == k)=true:=beq_iff_eq.mpr h
    simp only[List.lookup,hb,if_pos (h.trans hk)]
   ·have hb:(g == k)=false:=beq_eq_false_iff_ne.mpr h
    simp only[List.lookup,hb,if_neg (fun e:g=f=>h (e.trans hk.symm))]
  ·rw[if_neg hk]
   by_cases h:g=k
   ·have hb:(g == k)=true:=beq_iff_eq.mpr h
    simp only[List.lookup,hb,if_neg (fun e:g=f=>hk (h.symm.trans e))]
   ·have hb:(g == k)=false:=beq_eq_false_iff_ne.mpr h
    simp only[List.lookup,hb];exact ih
theorem uc (f:Str) (v:V):∀fs:List (Str×V),f∈(aY f v fs).map (·.1)/\∀g,g∈fs.map (·.1)->g∈(aY f v fs).map (·.1)
 | []=>⟨by simp[aY],fun g h=>by simp at h⟩
 | (k,x)::r=>by
  obtain⟨i1,i2⟩:=uc f v r;rw[show aY f v ((k,x)::r)=(if k=f then(k,v)::r else(k,x)::aY f v r) from rfl]
  by_cases hk:k=f
  ·rw[if_pos hk]
   subst hk;exact⟨by simp,fun g h=>by simpa using h⟩
  ·rw[if_neg hk]
   refine⟨?_,fun g h=>?_⟩
   ·rw[zh]
    exact zm _ i1
   ·rw[zh] at h ⊢
    rcases zC.mp h with e | e
    ·exact zC.mpr (.inl e)
    ·exact zm _ (i2 g e)
theorem vf (f:Str) (v:V):∀fs:List (Str×V),(aY f v fs).length<=fs.length+1
 | []=>by simp[aY]
 | (k,x)::r=>by
  have ih:=vf f v r;rw[show aY f v ((k,x)::r)=(if k=f then(k,v)::r else(k,x)::aY f v r) from rfl]
  by_cases hk:k=f
  ·rw[if_pos hk,zt,zt];omega
  ·rw[if_neg hk,zt,zt];omega
theorem l0.some_of (r:l0 (some v) o):∃u,o=some u/\RelV v u:=by
 cases o with
 | none=>exact(show False from r).elim
 | some u=>exact⟨u,rfl,r⟩
theorem JW (r:RelV v u):PySem.W.handedIn u=true:=by
 cases v with
 | bE=>cases(show u=Value.none from r);rfl
 | bl b=>cases(show u=Value.bool b from r);rfl
 | int i=>obtain⟨t,e⟩:=(show∃t,u=Value.int i t from r);cases e;rfl
 | str x=>obtain⟨t,e⟩:=(show∃t,u=Value.str x t from r);cases e;rfl
 | IX b=>obtain⟨t,e⟩:=(show∃t,u=Value.bytes b t from r);cases e;rfl
 | NM b=>obtain⟨t,e⟩:=(show∃t,u=Value.float b t from r);cases e;rfl
 | ref a=>cases(show u=Value.ref a from r);rfl
 | ty n=>cases(show u=Value.type n from r);rfl
section
variable {P:Program} {w:World} {H H':Hp} {h h':Heap} {a C dx:Addr} {fs fs':List (Str×V)}
theorem Dg (bZ:qO P w H h) (e:H a=some (.ins C dx fs)):∃mA,Kq h a dx C mA/\(∀f,l0 (fs.lookup f) (mA f))/\PySem.Within mA (fs.map (·.1))/\fs.length<=1000/\H dx=some (.own a):=by
 obtain⟨d,z,ne,ob,mA,n,r,q⟩:=(show cz P w H h a (.ins C dx fs) from bZ a _ e)
 exact⟨mA,⟨ob,n,ne⟩,r,q,z,d⟩
end
structure N7 (K:yA) (C:Addr):Prop where
 pg:PySem.W.plainGet K C Str.empty=true
 hd:PySem.W.hasDictIn K C=true
 po:PySem.W.plainOver K C=true
 sa:PySem.W.findIn K (.ref C) "__setattr__"= some (some (.builtin "object.__setattr__"))
theorem N7.get {K:yA} {C:Addr} (c:N7 K C) (f:Str):PySem.W.plainGet K C f=true:=c.pg
def eW (K:yA) (C:Addr) (f:Str):Prop:=PySem.W.findIn K (.ref C) f=some none
theorem eW.Qs {K:yA} {C:Addr} {f:Str} (n:eW K C f):PySem.W.takerIn K C f=some none:=by
 unfold PySem.W.takerIn;rw[show PySem.W.findIn K (.ref C) f=some none from n];rfl
section
variable {X:Cx} {pins:List (Addr×Obj)} {σ:St} {H:Hp} {s:Shared} {a C dx:Addr} {fs:List (Str×V)} {f:Str} {v:V} {A:Around} {E:Value->Shared->Prop}
theorem Hn (I:Inv X pins σ H s) (e:H a=some (.ins C dx fs)) (c:N7 X.K C) (n:eW X.K C f) (l:fs.lookup f=some v)
  (h:∀u s',Inv X pins σ H s'->RelV v u->Q u s'):wpAny (model X.prog X.w) A (getAttr (.ref a) f b) Q E s:=by
 obtain⟨mA,O,r,_,_,_⟩:=Dg I.bZ e;obtain⟨u,hu,ru⟩:=l0.some_of (v:=v) (o:=mA f) (by rw[<-l];exact r f);exact get_map I.sr O (c.get f) c.hd n hu (JW ru) (h u _ (I.tok _) ru)
theorem GQ (I:Inv X pins σ H s) (e:H a=some (.ins C dx fs)) (c:N7 X.K C) (n:eW X.K C f) (hl:fs.length<1000) (ry:RelV y u)
  (h:∀s',Inv X pins σ (upd H a (.ins C dx (aY f y fs))) s'->Q () s'):wpAny (model X.prog X.w) A (setAttr (.ref a) f u) Q E s:=by
 obtain⟨mA,O,r,wi,_,ho⟩:=Dg I.bZ e;have hz:(fs.map (·.1)).length<=sizeLine:=by rw[za,yB];omega
 refine M8 I.sr O c.sa c.po n.Qs c.hd wi hz fun h' O' sb=>h _ ?_;have hd:∃o,h'.get? dx=some o:=let ⟨o,_,_,e',_⟩:=O'.ns;⟨o,e'⟩;refine I.write (x:=a) (e:=dx) (by rw[e];exact True.intro) (.inr ho) (fun b q hb z=>(sb.2 b hb).trans z) hd ?_;refine⟨by rw[aG O.ne];exact ho,?_,O.ne,O'.obj,_,O'.ns,fun g=>?_,fun g hg=>?_⟩
 ·have:=vf f y fs;omega
 ·show l0 ((aY f y fs).lookup g) (if g=f then some u else mA g)
  rw[vd]
  by_cases q:g=f
  ·rw[if_pos q,if_pos q];exact ry
  ·rw[if_neg q,if_neg q];exact r g
 ·by_cases q:g=f
  ·rw[q];exact(uc f y fs).1
  ·refine(uc f y fs).2 g (wi g fun z=>hg ?_)
   show(if g=f then some u else mA g)=none;rw[if_neg q];exact z
theorem Inv.made (I:Inv X pins σ H s):Inv X pins σ (upd (upd H s.heap.objs.size (.own (s.heap.objs.size+1))) (s.heap.objs.size+1) (.ins C s.heap.objs.size []))
  {s with heap:=(s.heap.push PySem.W.emptyDict).push (PySem.W.instObj C s.heap.objs.size)}:=by
 have e1:(s.heap.push PySem.W.emptyDict).get? s.heap.objs.size=some PySem.W.emptyDict:=yw s.heap rfl;have e2:((s.heap.push PySem.W.emptyDict).push (PySem.W.instObj C s.heap.objs.size)).get? (s.heap.objs.size+1)=some (PySem.W.instObj C s.heap.objs.size):=by
  have:=yw (s.heap.push PySem.W.emptyDict) (o:=PySem.W.instObj C s.heap.objs.size) rfl
  rwa [Heap.size_push] at this
 have e3:(s.heap.push PySem.W.emptyDict).Ns s.heap.objs.size (fun _=>none):=⟨PySem.W.emptyDict,#[],_,e1,rfl,(fun e he=>absurd he (by simp)),fun _=>rfl⟩
 have I1:=I.laid (a:=s.heap.objs.size) (o:=.own (s.heap.objs.size+1)) (h':=s.heap.push PySem.W.emptyDict) (t':=s.toks) (fun b u q=>yu _ q) (zk _) ⟨_,e1⟩;refine I1.laid (a:=s.heap.objs.size+1) (o:=.ins C s.heap.objs.size []) (t':=s.toks) (fun b u q=>yu _ q) (Nat.le_of_eq (Heap.size_push _ _)) ?_;have ne:s.heap.objs.size≠s.heap.objs.size+1:=yi (Nat.lt_succ_self _);refine⟨by rw[aG ne,aF],yf _,ne,e2,fun _=>none,(Heap.Ns1.of_empty e3).at fun o q=>yu _ q,fun _=>True.intro,fun y hy=>absurd rfl hy⟩
theorem NX (hb:attributeBase e f env (eval e env)=eval e env)
  (h:wpAny (model prog w) A (eval e env) (fun o s₁=>wpAny (model prog w) A (getAttr o f true) Q E s₁) E s):wpAny (model prog w) A (eval (.Attribute e f pos) env) Q E s:=
 Attribute_any_ h (by rw[arm_eval_Attribute,hb])
end
def M0 (K:yA) (ta:TE) (f:Str):TE:=fun σ H Q=>ta σ H fun x H1=>∃a C dx fs v,x=.ref a/\H1 a=some (.ins C dx fs)/\N7 K C/\eW K C f/\fs.lookup f=some v/\Q v H1
def Sa (K:yA) (ta tv:TE) (f:Str):TS:=fun D σ H=>tv σ H fun y H1=>ta σ H1 fun x H2=>∃a C dx fs,x=.ref a/\H2 a=some (.ins C dx fs)/\N7 K C/\eW K C f/\fs.length<1000/\
 D.nx σ (upd H2 a (.ins C dx (aY f y fs)))
section
variable {X:Cx} {o e value:Expr} {f:Str} {pos pos' tpos:Pos} {ta tv:TE}
theorem bI (he:PE X e ta) (hb:attributeBase e f X.env (eval e X.env)=eval e X.env):PE X (.Attribute e f pos) (M0 X.K ta f):=by
 intro pins s σ H Q I h;refine NX hb (cS (he pins s σ H _ I h) fun u s1 ⟨x,H1,I1,rx,a,C,dx,fs,v,ex,ea,c,n,l,q⟩=>?_);subst ex;obtain rfl:u=Value.ref a:=rx;exact Hn I1 ea c n l fun u' s2 I2 ru=>⟨v,H1,I2,ru,q⟩
theorem jh (ha:PE X o ta) (hv:PE X value tv) (hs:swapsWith value (some (.Attribute o f pos')) pos.line X.env=pure false):PS X (.Assign [.Attribute o f pos'] value pos) (Sa X.K ta tv f):=by
 intro pins s σ H D I h;refine plainObj_wpAny_Assign_Attribute (cS (hv pins s σ H _ I h) fun u s1 ⟨y,H1,I1,ry,q⟩=>cS (ha pins s1 σ H1 _ I1 q) fun ov s2 ⟨x,H2,I2,rx,a,C,dx,fs,ex,ea,c,n,l,q2⟩=>?_) hs;subst ex;obtain rfl:ov=Value.ref a:=rx;exact GQ I2 ea c n l ry fun s3 I3=>⟨σ,_,I3,q2⟩
end
section
variable {X:Cx} {pins:List (Addr×Obj)} {σ:St} {H:Hp} {s:Shared} {A:Around} {E:Value->Shared->Prop} {Q:Value->Shared->Prop} {c:Value} {b:Bool}
inductive uE (K:yA) (H:Hp):V->Value->Prop where
 | bE:uE K H .bE (.type "NoneType")
 | bl (x:Bool):uE K H (.bl x) (.type "bool")
 | int (i:Int):uE K H (.int i) (.type "int")
 | str (x:Str):uE K H (.str x) (.type "str")
 | NM (x:UInt64):uE K H (.NM x) (.type "float")
 | lst {a:Addr} {xs:List V} (e:H a=some (.lst xs)):uE K H (.ref a) (.type "list")
 | mW {a:Addr} {o:Obj} {xs:List V} (e:H a=some (.mW o (.lst xs))):uE K H (.ref a) (.type "list")
 | tup {a:Addr} {xs:List V} (e:H a=some (.tup xs)):uE K H (.ref a) (.type "tuple")
 | dK {a:Addr} {kvs:List (Key×V)} (e:H a=some (.dK kvs)):uE K H (.ref a) (.type "dict")
 | dT {a:Addr} {kvs:List (List Key×V)} (e:H a=some (.dT kvs)):uE K H (.ref a) (.type "dict")
 | ins {a C dx:Addr} {fs:List (Str×V)} (e:H a=some (.ins C dx fs)) (cl:N7 K C) (ha:PySem.W.findIn K (.ref C) "__class__"= some (some (.builtin "object.__class__")))
   (hn:PySem.W.specialIn K (.builtin "object.__class__") "__get__"= some (some (.builtin "getset_descriptor.__get__"))) (htk:PySem.W.takesIn K (.builtin "object.__class__")=some true)
   (hm:PySem.W.mroIn K C (.type "object")=some true):uE K H (.ref a) (.ref C)
theorem JS (I:Inv X pins σ H s) (rx:RelV x u) (ty:uE X.K H x t) (e:PySem.W.kitOne X.K t c=some b) (h:∀tk,Q (.bool b) {s with toks:=tk}) :
  wpAny (model X.prog X.w) A (call (.builtin "isinstance") [u,c]) Q E s:=by
 cases ty with
 | bE=>cases(show u=Value.none from rx);exact PySem.W.kia_one PySem.W.kitx_none I.sr True.intro e (fun z=>nomatch z) h
 | bl y=>cases(show u=Value.bool y from rx);exact PySem.W.kia_one PySem.W.kitx_bool I.sr True.intro e (fun z=>nomatch z) h
 | int i=>obtain⟨t,q⟩:=(show∃t,u=Value.int i t from rx);cases q;exact PySem.W.kia_one PySem.W.kitx_int I.sr True.intro e (fun z=>nomatch z) h
 | str y=>obtain⟨t,q⟩:=(show∃t,u=Value.str y t from rx);cases q;exact PySem.W.kia_one PySem.W.kitx_str I.sr True.intro e (fun z=>nomatch z) h
 | NM y=>obtain⟨t,q⟩:=(show∃t,u=Value.float y t from rx);cases q;exact PySem.W.kia_one PySem.W.kitx_float I.sr True.intro e (fun z=>nomatch z) h
 | @lst a xs ea=>
  cases(show u=Value.ref a from rx);obtain⟨_,_,n,_,h1⟩:=(show cz X.prog X.w H s.heap a (.lst xs) from I.bZ a _ ea)
  exact PySem.W.kia_one PySem.W.kitx_list I.sr ⟨_,h1,rfl⟩ e (fun z=>nomatch z) h
 | @mW a ob xs ea=>
  cases(show u=Value.ref a from rx);obtain⟨_,_,_,n,_,h1⟩:=(show cz X.prog X.w H s.heap a (.mW ob (.lst xs)) from I.bZ a _ ea)
  exact PySem.W.kia_one PySem.W.kitx_list I.sr ⟨_,h1,rfl⟩ e (fun z=>nomatch z) h
 | @tup a xs ea=>
  cases(show u=Value.ref a from rx);obtain⟨_,_,_,p⟩:=(show cz X.prog X.w H s.heap a (.tup xs) from I.bZ a _ ea)
  obtain⟨o,h1,h2,_⟩:=p;exact PySem.W.kia_one PySem.W.kitx_tuple I.sr ⟨o,h1,h2⟩ e (fun z=>nomatch z) h
 | @dK a kvs ea=>
  cases(show u=Value.ref a from rx);obtain⟨_,_,vs,_,p⟩:=(show cz X.prog X.w H s.heap a (.dK kvs) from I.bZ a _ ea)
  obtain⟨o,es,ep,h1,h2,_⟩:=p;exact PySem.W.kia_one PySem.W.kitx_dict I.sr ⟨o,h1,h2.1⟩ e (fun z=>nomatch z) h
 | @dT a kvs ea=>
  cases(show u=Value.ref a from rx);obtain⟨_,_,xs,_,o,es,ep,h1,h2,_⟩:=(show cz X.prog X.w H s.heap a (.dT kvs) from I.bZ a _ ea)
  exact PySem.W.kia_one PySem.W.kitx_dict I.sr ⟨o,h1,h2.1⟩ e (fun z=>nomatch z) h
 | @ins a C dx fs ea cl ha hn htk hm=>
  cases(show u=Value.ref a from rx);obtain⟨mA,O,_⟩:=Dg I.bZ ea;obtain⟨od,J,_⟩:=O.look;exact PySem.W.kia_one (PySem.W.kitx_own (cl.get _) cl.hd ha hn htk hm) I.sr J e (fun z=>nomatch z) h
end
end L2
namespace L2
open PySem PySem.Spec PyProof.Rows
structure gj (k:Nat) (A:Around):Prop where
 hd:A.handled=none
 dp:A.depth+3*k+5<recursionLimit
 un:A.units+16*k+200<cLine
theorem gj.mono (r:gj k A) (h:j<=k):gj j A:=⟨r.hd,by have:=r.dp;omega,by have:=r.un;omega⟩
theorem gj.deeper (r:gj (k+1) A) (env:Env):gj k (A.deeper env):=
 ⟨r.hd,by have:=r.dp;show A.depth+1+3*k+5<_;omega,by have:=r.un;show A.units+3+16*k+200<_;omega⟩
theorem Hi {A:Around} {C:Addr} {us:List Value} {kw:List (Str×Value)}:(A.under (.builtin "type.__call__" ⟨.ref C::us,kw⟩)).depth=A.depth+1:=by
 first | rfl | simp[Around.under,Code.weight,Code.isCreation,Code.isGuard,Code.isCaller,Code.frames,Code.isFrame,guardIds]
theorem Hh {A:Around} {C:Addr} {us:List Value} {kw:List (Str×Value)}:(A.under (.builtin "type.__call__" ⟨.ref C::us,kw⟩)).units=A.units+1:=by
 first | rfl | simp[Around.under,Code.cUnits,Code.frames,Code.isFrame]
theorem gj.make (r:gj (k+1) A) (C:Addr) (us:List Value) (kw:List (Str×Value)):gj k (A.under (.builtin "type.__call__" ⟨.ref C::us,kw⟩)):=
 ⟨r.hd,by have:=r.dp;rw[Hi];omega,by have:=r.un;rw[Hh];omega⟩
theorem gj.depth (r:gj k A):A.depth<recursionLimit:=by have:=r.dp;omega
theorem gj.units (r:gj k A):A.units+64<cLine:=by have:=r.un;omega
def eO:TA:=fun _ H Q=>Q [] H
def bQ (ta:TE) (tr:TA):TA:=fun σ H Q=>ta σ H fun x H1=>tr σ H1 fun xs H2=>Q (x::xs) H2
section
variable {X:Cx} {e:Expr} {es:List Expr} {te:TE} {t:TA} {pos:Pos}
theorem af:PA X [] eO:=fun _ _ _ _ H Q I h=>Calls.spliced_nil ⟨[],H,I,.nil,h⟩
theorem ah (ha:PE X e te) (hr:PA X es t) (hs:autoParam (starEach (e::es) X.env=(false,eval e X.env)::starEach es X.env) qe_):PA X (e::es) (bQ te t):=by
 intro pos pins s σ H Q I h;rw[hs];show wpAny _ _ (spliced ((false,eval e X.env)::backTo pos (starEach es X.env))) _ _ s;refine Calls.spliced_cons (cS (ha pins s σ H _ I h) fun u s1 ⟨x,H1,I1,r1,q1⟩=>?_);exact cS (hr pos pins s1 σ H1 _ I1 q1) fun us s2 ⟨xs,H2,I2,r2,q2⟩=>⟨x::xs,H2,I2,.cons r1 r2,q2⟩
def Eu (t:TA):TE:=fun σ H Q=>t σ H fun xs H1=>xs.length<=sizeLine/\∀p,H1 p=none->Q (.ref p) (upd H1 p (.tup xs))
def Ex (t:TA):TE:=fun σ H Q=>t σ H fun xs H1=>xs.length<=sizeLine/\∀p,H1 p=none->Q (.ref p) (upd H1 p (.lst xs))
theorem bK {x1} (h:PA X es t):PE X (.Tuple es x1 pos) (Eu t):=by
 intro pins s σ H Q I hq;refine wpAny_Tuple_spliced (cS (h pos pins s σ H _ I hq) fun us s1 ⟨xs,H1,I1,r,z,q⟩=>⟨by rw[<-r.length];exact z,?_⟩);have hf:H1 s1.heap.objs.size=none:=I1.bZ.fresh (zk _);refine⟨.ref s1.heap.objs.size,upd H1 s1.heap.objs.size (.tup xs),I1.laid (t':=s1.toks) (fun b u e=>yu _ e) (zk _) ?_,rfl,q _ hf⟩;exact⟨z,us,r,⟨_,yw _ rfl,rfl,_,rfl⟩⟩
theorem bD (h:PA X es t):PE X (.List es pos) (Ex t):=by
 intro pins s σ H Q I hq;refine wpAny_List_spliced (cS (h pos pins s σ H _ I hq) fun us s1 ⟨xs,H1,I1,r,z,q⟩=>⟨by rw[<-r.length];exact z,?_⟩);have hf:H1 s1.heap.objs.size=none:=I1.bZ.fresh (zk _);refine⟨.ref s1.heap.objs.size,upd H1 s1.heap.objs.size (.lst xs),I1.laid (t':=s1.toks) (fun b u e=>yu _ e) (zk _) ?_,rfl,q _ hf⟩;exact⟨z,us,0,r,yw _ rfl⟩
end
abbrev Sp:=List V->Hp->VK->XK->Prop
abbrev Ih:=List Env->Hp->Shared->XK->Value->Shared->Prop
structure Gu (P:Program) (w:World) (K:yA) (mg:Str->Option Value) (base:Heap) (A:Around) (outer:List Env) (s:Shared) (H:Hp):Prop where
 frames:A.frames=some outer
 mod:Mod K mg base
 bs:∀b o,base.get? b=some o->s.heap.get? b=some o/\H b=none
 Kw:base.objs.size<=s.heap.objs.size
 oV:s.heap.FunFrames base outer
 FD:∀b∈pN outer,H b=none
 bZ:qO P w H s.heap
 bare:AllBare s.gens
def CE (outer:List Env) (P:Program) (w:World) (H:Hp) (s:Shared) (Q:VK) (u:Value) (s':Shared):Prop:=
 ∃v H',s'.os=s.os/\AllBare s'.gens/\Un (pN outer) [] H H' s.heap s'.heap/\qO P w H' s'.heap/\RelV v u/\Q v H'
def CR (CX:Ih) (outer:List Env) (P:Program) (w:World) (H:Hp) (s:Shared) (Q:VK) (E:XK) (r:Result) (s':Shared):Prop:=
 match r with
 | .ok (.ret u)=>CE outer P w H s Q u s'
 | .ok _=>False
 | .error e=>CX outer H s E e s'
structure dM (P:Program) (w:World) (K:yA) (mg:Str->Option Value) (base:Heap) (CX:Ih) (k:Nat) (f:Addr) (fd:FuncData) (ps:List Str) (sp:Sp):Prop where
 len:∀vs H Q E,sp vs H Q E->vs.length=ps.length
 run:∀(A:Around) (outer:List Env) (s:Shared) (H:Hp) (args:Args) (us:List Value) (vs:List V) (Q:VK) (E:XK),gj k A->Gu P w K mg base A outer s H->BindsTo s fd args (ps.zip us)->Vals vs us->sp vs H Q E->
  codeAny (model P w) A (.call (.ref f) args) (CR CX outer P w H s Q E) s
theorem dM.mono {P:Program} {w:World} {K:yA} {mg:Str->Option Value} {base:Heap} {CX:Ih} {j k:Nat} {f:Addr} {fd:FuncData} {ps:List Str} {sp:Sp} (F:dM P w K mg base CX j f fd ps sp) (h:j<=k) :
  dM P w K mg base CX k f fd ps sp:=⟨F.len,fun A outer s H args us vs Q E hr=>F.run A outer s H args us vs Q E (hr.mono h)⟩
theorem Gu.make {P:Program} {w:World} {K:yA} {mg:Str->Option Value} {base:Heap} {A:Around} {outer:List Env} {s:Shared} {H:Hp} (e:Gu P w K mg base A outer s H) (C:Addr) (us:List Value) (kw:List (Str×Value)) :
  Gu P w K mg base (A.under (.builtin "type.__call__" ⟨.ref C::us,kw⟩)) outer s H:=⟨by first | exact e.frames | (simpa[Around.under,Code.envs,Code.isFrame,pushEnvs] using e.frames),e.mod,e.bs,e.Kw,e.oV,e.FD,e.bZ,e.bare⟩
section
variable {X:Cx} {pins:List (Addr×Obj)} {σ:St} {H:Hp} {s s':Shared}
theorem Inv.NP (I:Inv X pins σ H s):Gu X.prog X.w X.K X.mg X.base X.A X.stack s H:=
 ⟨I.ok.frames,I.ok.mod,I.bs,zL I.ok.Kw I.sz,I.stack,I.qT,I.bZ,I.bare⟩
theorem Inv.after (I:Inv X pins σ H s) (h:CE X.stack X.prog X.w H s Q u s'):EP X pins σ Q u s':=by
 obtain⟨v,H',os,bare,un,bZ,r,q⟩:=h;obtain⟨hh,g,d,t,os'⟩:=s';obtain rfl:os'=s.os:=os;exact⟨v,H',I.call (h':=hh) (g':=g) (d':=d) (t':=t) (ch:=[]) un bZ bare (fun b z=>absurd z (by simp)),r,q⟩
end
def gQ (sp:Sp) (dvs:List V) (E:XK) (t:TA):TE:=fun σ H Q=>t σ H fun vs H1=>sp (vs++dvs) H1 Q E
def Qx (C:Addr) (sp:Sp) (dvs:List V) (E:XK) (t:TA):TE:=fun σ H Q=>t σ H fun vs H1=>∀x dx,H1 x=none->H1 dx=none->dx≠x->
 sp (.ref x::(vs++dvs)) (upd (upd H1 dx (.own x)) x (.ins C dx [])) (fun v H2=>v=.bE/\Q (.ref x) H2) E
def Binds (K:yA) (fd:FuncData) (ps:List Str) (ds:List Value):Prop:=
 ∀(s:Shared) (us:List Value),K.In s.heap->(us++ds).length=ps.length->BindsTo s fd ⟨us,[]⟩ (ps.zip (us++ds))
theorem Binds.all {K:yA} {fd:FuncData} {ps:List Str} (h:∀us:List Value,us.length=ps.length->bindArgs fd ⟨us,[]⟩=pure (ps.zip us)):Binds K fd ps []:=fun s us _ hl=>by
 rw[zU] at hl ⊢;exact .of_eq (h us hl)
def Passes (CX:Ih) (X:Cx) (E:XK):Prop:=∀(pins:List (Addr×Obj)) (σ:St) (H:Hp) (s:Shared) (e:Value) (s':Shared),Inv X pins σ H s->CX X.stack H s E e s'->X.xe e s'
section
variable {X:Cx} {CX:Ih} {k:Nat} {f C:Addr} {fd:FuncData} {ps:List Str} {sp:Sp} {dvs:List V} {ds:List Value} {E:XK} {x m:Str} {p pos apos:Pos} {e o:Expr} {es:List Expr} {ta:TE} {t:TA}
theorem Lh (F:dM X.prog X.w X.K X.mg X.base CX k f fd ps sp) (hr:gj k X.A) (hb:Binds X.K fd ps ds) (hd:Vals dvs ds) (hx:Passes CX X E)
  (I:Inv X pins σ H s) (r:Vals vs us) (h:sp (vs++dvs) H Q E):wpAny (model X.prog X.w) X.A (call (.ref f) us) (EP X pins σ Q) X.xe s:=by
 have r2:Vals (vs++dvs) (us++ds):=r.append hd;have hl:(us++ds).length=ps.length:=by rw[<-r2.length];exact F.len _ _ _ _ h
 refine wpAny_call (codeAny_mono (F.run X.A X.stack s H ⟨us,[]⟩ (us++ds) (vs++dvs) Q E hr I.NP (hb s us I.sr hl) r2 h) fun r s' hq=>?_);cases r with
 | error e=>exact hx pins σ H s e s' I hq
 | ok fl=>
  cases fl with
  | ret u=>exact I.after hq
  | next=>exact False.elim hq
  | brk=>exact False.elim hq
  | cont=>exact False.elim hq
theorem Nt (F:dM X.prog X.w X.K X.mg X.base CX k f fd ps sp) (hr:gj k X.A) (hg:Gl X x) (hm:X.mg x=some (.ref f)) (hk:PySem.W.keepIn X.K (.ref f)=true) (hb:Binds X.K fd ps ds) (hd:Vals dvs ds) (hx:Passes CX X E)
  (ha:PA X (e::es) t) (hdb:autoParam ((x == ("__debug__": Str))=false) qb_) (he:autoParam (starEach (e::es) X.env=(false,eval e X.env)::starEach es X.env) qe_) (hpl:autoParam ((backTo pos (starEach es X.env)).any (·.1)=false) qe_) :
  PE X (.Call (.Name x p) (e::es) [] pos) (gQ sp dvs E t):=by
 intro pins s σ H Q I h;refine wpAny_Call_Name_kw (jV I hg hm ?_ hdb);refine PySem.W.callWith_K (h₀:=X.base) I.ok.mod.PB hk (cS (ha pos pins s σ H _ I h) fun us s1 ⟨vs,H1,I1,r,q⟩=>⟨I1.sr,?_⟩) he hpl;exact Lh F hr hb hd hx I1 r q
structure Mk (K:yA) (C f:Addr):Prop where
 makes:PySem.W.makesIn K C=true
 init:PySem.W.findIn K (.ref C) "__init__"= some (some (.ref f))
 fn:PySem.W.isFn K (.ref f)=true
 kp:PySem.W.keepIn K (.ref C)=true
theorem Lg (M:Mk X.K C f) (F:dM X.prog X.w X.K X.mg X.base CX k f fd ps sp) (hr:gj (k+1) X.A) (hb:Binds X.K fd ps ds) (hd:Vals dvs ds)
  (hx:Passes CX X E) (I:Inv X pins σ H s) (r:Vals vs us)
  (h:∀x dx,H x=none->H dx=none->dx≠x->sp (.ref x::(vs++dvs)) (upd (upd H dx (.own x)) x (.ins C dx [])) (fun v H2=>v=.bE/\Q (.ref x) H2) E) :
  wpAny (model X.prog X.w) X.A (call (.ref C) us) (EP X pins σ Q) X.xe s:=by
 have hq:=h (s.heap.objs.size+1) s.heap.objs.size (I.bZ.fresh (Nat.le_succ _)) (I.bZ.fresh (zk _)) (yi (Nat.lt_succ_self _));have I2:=Inv.made (C:=C) I;have r2:Vals (V.ref (s.heap.objs.size+1)::(vs++dvs)) (Value.ref (s.heap.objs.size+1)::(us++ds)):=.cons rfl (r.append hd);have hl:(Value.ref (s.heap.objs.size+1)::us++ds).length=ps.length:=by
  have e:=r2.length;rw[F.len _ _ _ _ hq] at e;exact e.symm
 refine wpAny_call (LV (f:=f) I.sr M.makes M.init (beq_iff_eq.mp M.fn) (codeAny_mono (F.run _ X.stack _ _ ⟨Value.ref (s.heap.objs.size+1)::us,[]⟩ (Value.ref (s.heap.objs.size+1)::(us++ds)) _ _ E (hr.make C us [])
  (I2.NP.make C us []) (hb _ (Value.ref (s.heap.objs.size+1)::us) I2.sr hl) r2 hq) fun r s' hq'=>?_))
 cases r with
 | error e=>exact hx pins σ _ _ e s' I2 hq'
 | ok fl=>
  cases fl with
  | ret u=>
   obtain⟨v,H',I3,rv,ev,q3⟩:=I2.after hq';subst ev;exact⟨rv,⟨V.ref (s.heap.objs.size+1),H',I3,rfl,q3⟩⟩
  | next=>exact False.elim hq'
  | brk=>exact False.elim hq'
  | cont=>exact False.elim hq'
theorem LI (M:Mk X.K C f) (F:dM X.prog X.w X.K X.mg X.base CX k f fd ps sp) (hr:gj (k+1) X.A) (hg:Gl X x) (hm:X.mg x=some (.ref C)) (hb:Binds X.K fd ps ds) (hd:Vals dvs ds) (hx:Passes CX X E)
  (hdb:autoParam ((x == ("__debug__": Str))=false) qb_):PE X (.Call (.Name x p) [] [] pos) (Qx C sp dvs E eO):=by
 intro pins s σ H Q I h;refine wpAny_Call_Name_kw (jV I hg hm ?_ hdb);exact PySem.W.callWith_K0 I.sr M.kp (Lg (us:=[]) M F hr hb hd hx I .nil h)
end
section
variable {X:Cx} {CX:Ih} {k:Nat} {f C:Addr} {fd:FuncData} {ps ks:List Str} {sp:Sp} {E:XK} {x m:Str} {p pos apos kpos:Pos} {e o:Expr} {es:List Expr} {kws:List Keyword} {te ta:TE} {t tk:TA} {nm:Option Str}
variable {g:List Value->List Value->List Value} {gV:List V->List V->List V}
end
structure aD (N P:List Str) (sc:Scope):Prop where
 kind:sc.kind=.function
 co:sc.isCoroutine=false
 gen:sc.isGenerator=false
 nd:N.Nodup
 pre:N.take P.length=P
 par:∀x∈P,sc.names.lookup x=some .local\/sc.names.lookup x=some .cell
 Px:∀y∈sc.names,y.2≠.free
theorem Cc {kindOf:Str->Option NameKind} {x:Str}:∀{binds:List (Str×Value)} {m:Str->Option Value},(∀v,(x,v)∉binds)->bindL kindOf binds m x=m x
 | [],_,_=>rfl
 | (n,v)::r,m,h=>by
  unfold bindL;rw[Cc fun w hw=>h w (zm _ hw)];split
  ·have:x≠n:=by rintro rfl;exact h v zp
   simp[this]
  ·rfl
theorem Ce {kindOf:Str->Option NameKind} {x:Str}:∀{binds:List (Str×Value)} {m:Str->Option Value},(∀v,(x,v)∉binds)->bindC kindOf binds m x=m x
 | [],_,_=>rfl
 | (n,v)::r,m,h=>by
  unfold bindC;rw[Ce fun w hw=>h w (zm _ hw)];split
  ·rfl
  ·have:x≠n:=by rintro rfl;exact h v zp
   simp[this]
theorem Cd {kindOf:Str->Option NameKind} {x:Str} {v:Value}:∀{P:List Str} {vs:List Value} {i:Nat} {m:Str->Option Value},P.Nodup->P[i]?=some x->vs[i]?=some v->kindOf x=some .local->
  bindL kindOf (P.zip vs) m x=some v
 | [],_,_,_,_,h,_,_=>by simp at h
 | _::_,[],_,_,_,_,h,_=>by simp at h
 | p::P,w::vs,0,m,nd,h1,h2,hk=>by
  simp at h1 h2;subst h1;subst h2;show bindL kindOf ((p,w)::P.zip vs) m p=_;unfold bindL;rw[Cc fun v hv=>(yc.mp nd).1 (List.of_mem_zip hv).1,if_pos hk];simp
 | p::P,w::vs,i+1,m,nd,h1,h2,hk=>by
  show bindL kindOf ((p,w)::P.zip vs) m x=_;unfold bindL;exact Cd (i:=i) (yc.mp nd).2 (by simpa using h1) (by simpa using h2) hk
theorem Cg {kindOf:Str->Option NameKind} {x:Str} {v:Value}:∀{P:List Str} {vs:List Value} {i:Nat} {m:Str->Option Value},P.Nodup->P[i]?=some x->vs[i]?=some v->kindOf x≠some .local->
  bindC kindOf (P.zip vs) m x=some v
 | [],_,_,_,_,h,_,_=>by simp at h
 | _::_,[],_,_,_,_,h,_=>by simp at h
 | p::P,w::vs,0,m,nd,h1,h2,hk=>by
  simp at h1 h2;subst h1;subst h2;show bindC kindOf ((p,w)::P.zip vs) m p=_;unfold bindC;rw[Ce fun v hv=>(yc.mp nd).1 (List.of_mem_zip hv).1,if_neg hk];simp
 | p::P,w::vs,i+1,m,nd,h1,h2,hk=>by
  show bindC kindOf ((p,w)::P.zip vs) m x=_;unfold bindC;exact Cg (i:=i) (yc.mp nd).2 (by simpa using h1) (by simpa using h2) hk
def start (N:List Str) (vs:List V):St:=vs.map some++List.replicate (N.length-vs.length) none
def kR (CX:Ih) (P:Program) (w:World) (K:yA) (mg:Str->Option Value) (base:Heap) (N:List Str) (qual:Str) (scope:Scope) (f:Addr) (cd:Value) (A:Around) (outer:List Env) (s:Shared) (H:Hp) (E:XK):Cx where
 prog:=P
 w:=w
 K:=K
 mg:=mg
 base:=base
 A:=A.deeper (envOfC qual scope s.heap.objs.size f cd)
 N:=N
 s₀:=s
 H₀:=H
 env:=envOfC qual scope s.heap.objs.size f cd
 outer:=outer
 stack:=envOfC qual scope s.heap.objs.size f cd::outer
 ex:=[]
 calm:=true
 fn:=fun _=>true
 pn:=[]
 xe:=fun e s'=>wpAny (model P w) (A.deeper (envOfC qual scope s.heap.objs.size f cd)) (leaving (envOfC qual scope s.heap.objs.size f cd) e) (fun _ s''=>CX outer H s E e s'') (fun e' s''=>CX outer H s E e' s'') s'
theorem F9 {sc:Scope} {n:Nat} {x:Str} (h:sc.names.lookup x=some .cell):∃c,(cellsFrom n sc.names []).lookup x=some c:=by
 have q:=PySem.W.cellsFrom_some sc.names n [] (.inl h);exact Option.isSome_iff_exists.mp q
theorem JT {CX:Ih} {P:Program} {w:World} {K:yA} {mg:Str->Option Value} {base:Heap} {N ps:List Str} {qual:Str} {scope:Scope} {f:Addr} {cd:Value} {A:Around} {outer:List Env} {s s1:Shared} {H:Hp} {E:XK} {us:List Value} {vs:List V}
  (S:aD N ps scope) (hd:A.handled=none) (e0:Gu P w K mg base A outer s H) (hl:vs.length=ps.length) (r:Vals vs us)
  (x:InCallC s s.heap.objs.size (bindL (envOfC qual scope s.heap.objs.size f cd).kindOf (ps.zip us) fun _=>none) (cellsFrom (s.heap.objs.size+1) scope.names []) (bindC (envOfC qual scope s.heap.objs.size f cd).kindOf (ps.zip us) fun _=>none) s1) :
  Inv (kR CX P w K mg base N qual scope f cd A outer s H E) [] (start N vs) H s1:=by
 have hpl:ps.length<=N.length:=by have:=congrArg List.length S.pre;rw[zP] at this;omega
 obtain⟨h1,tk,rfl,hk⟩:=x.done;have noA:∀b:Addr,b∉(kR CX P w K mg base N qual scope f cd A outer s H E).ex:=fun b z=>absurd (show b∈([]:List Addr) from z) (by simp);refine⟨⟨e0.mod,S.kind,rfl,rfl,zk _,fun y z c h1 h2=>?_,fun y hy=>?_,fun y c _ h=>?_,fun _=>hd,Around.frames_deeper e0.frames,.inr ⟨rfl,rfl⟩,fun b z=>absurd z (noA b),e0.bs,e0.Kw,fun b _ _=>noA b,fun b z=>absurd z (noA b),e0.oV,e0.FD⟩,
  rfl,e0.bare,Un.kept hk,⟨_,x.toInCall.ns,fun i y v h1 h2 h3=>?_⟩,fun y c h=>⟨_,x.cell y c h⟩,e0.bZ.fresh (zk _),fun y c h=>?_,fun p hp=>absurd (show p∈([]:List (Addr×Obj)) from hp) (by simp),e0.bZ.kept hk,?_⟩
 ·exact name_of_addr x.apart (PySem.mem_of_lookup h1) (PySem.mem_of_lookup h2)
 ·have hy:scope.names.lookup y=some .cell\/scope.names.lookup y=some .free:=hy
  rcases hy with hy | hy
  ·exact F9 hy
  ·exact absurd rfl (S.Px _ (PySem.mem_of_lookup hy))
 ·exact yg (x.above y c (PySem.mem_of_lookup h))
 ·have hi:i<vs.length:=by
   unfold start at h2
   by_cases hi:i<vs.length
   ·exact hi
   ·rw[zZ (by simpa using hi)] at h2
    rw[List.getElem?_replicate] at h2;split at h2 <;> cases h2
  have ha:vs[i]?=some v:=by
   unfold start at h2;rw[List.getElem?_append_left (by simpa using hi),zJ] at h2;cases e:vs[i]? with
   | none=>rw[e] at h2;cases h2
   | some a=>rw[e] at h2;cases h2;rfl
  obtain⟨u,hu,rv⟩:=r.get ha;have hp:ps[i]?=some y:=by
   rw[<-S.pre,List.getElem?_take_of_lt nofun];exact h1
  have ndP:ps.Nodup:=by rw[<-S.pre];exact S.nd.sublist (List.take_sublist _ _)
  refine⟨u,rv,?_⟩;rcases S.par y (zB hp) with k | k
  ·exact .inl ⟨k,Cd ndP hp hu k⟩
  ·obtain⟨c,e⟩:=F9 (n:=s.heap.objs.size+1) k
   refine .inr ⟨.inl k,c,e,?_⟩;have q:=x.cell y c e;rw[Cg ndP hp hu (by show scope.names.lookup y≠_;rw[k];decide)] at q;exact q
 ·exact e0.bZ.fresh (yg (x.above y c (PySem.mem_of_lookup h)))
 ·unfold start
  show _=N.length;rw[zg,za,List.length_replicate];omega
theorem Ox {CX:Ih} {P:Program} {w:World} {K:yA} {mg:Str->Option Value} {base:Heap} {k:Nat} {f:Addr} {name qual:Str} {params:Arguments} {body:List Stmt} {scope:Scope} {dV kV doc pm cdv ct oc:Value} {an od:Option Addr}
  {osl:Array (Option Value)} {N ps:List Str} {sp:Sp} (lk:K.lookup f=some ⟨oc,od,.func (PySem.W.fnOf name qual params body scope dV kV doc pm an cdv ct),osl⟩) (hcd:PySem.W.codeIn K cdv qual=true) (S:aD N ps scope)
  (len:∀vs H Q E,sp vs H Q E->vs.length=ps.length)
  (hbody:∀(A:Around) (outer:List Env) (s:Shared) (H:Hp) (vs:List V) (Q:VK) (E:XK),gj k (A.deeper (envOfC qual scope s.heap.objs.size f cdv))->sp vs H Q E->
   ∃t,Eb (kR CX P w K mg base N qual scope f cdv A outer s H E) body t/\t {nx:=fun _ H'=>Q .bE H',rt:=Q} (start N vs) H) :
  dM P w K mg base CX (k+1) f (PySem.W.fnOf name qual params body scope dV kV doc pm an cdv ct) ps sp:=by
 refine⟨len,fun A outer s H args us vs Q E hr e0 hb r hsp=>?_⟩;have hl:=len _ _ _ _ hsp;have KX:K.In s.heap:=e0.mod.PB.keeps fun b o e=>(e0.bs b o e).1;have lim:s.heap.NoLimit:=e0.mod.nolimit.keeps fun b o e=>(e0.bs b o e).1;have hkind:∀y∈ps.zip us,scope.names.lookup y.1=some .local\/(scope.names.lookup y.1=some .cell/\((cellsFrom (s.heap.objs.size+1) scope.names []).lookup y.1).isSome=true):=fun⟨n,v⟩ hy=>by
  rcases S.par n (List.of_mem_zip hy).1 with q | q
  ·exact .inl q
  ·exact .inr ⟨q,PySem.W.cellsFrom_some _ _ _ (.inl q)⟩
 refine codeAny_call_function hr.depth (KX _ _ lk) rfl S.co S.gen rfl (PySem.W.codeRec_of KX hcd) (hb _ _ _ _ ?_);refine wpAny_newFunctionEnv_cells S.kind hkind fun env he s1 x=>?_;subst he;refine⟨lim.keeps x.toInCall.keep,codeAny_func ?_⟩;obtain⟨t,ht,hq⟩:=hbody A outer s H vs Q E (hr.deeper _) hsp;have I:Inv (kR CX P w K mg base N qual scope f cdv A outer s H E) [] (start N vs) H s1:=JT S hr.hd e0 hl r x;refine wpAny_mono (ht [] s1 (start N vs) H _ I hq) (fun fl s' hs=>?_) fun e s' hs=>hs;have fin:∀{σ':St} {H':Hp} {v:V} {u:Value},Inv (kR CX P w K mg base N qual scope f cdv A outer s H E) [] σ' H' s'->RelV v u->Q v H'->CE outer P w H s Q u s':=
  fun {σ' H' v u} J rv q=>⟨v,H',J.os,J.bare,J.base,J.bZ,rv,q⟩
 cases fl with
 | ret u=>
  obtain⟨v,σ',H',J,rv,q⟩:=hs;exact fin J rv q
 | next=>
  obtain⟨σ',H',J,q⟩:=hs;exact fin (v:=V.bE) (u:=Value.none) J rfl q
 | brk=>
  obtain⟨_,_,_,q⟩:=hs;exact False.elim q
 | cont=>
  obtain⟨_,_,_,q⟩:=hs;exact False.elim q
end L2
namespace L2
open PySem PySem.Spec PyProof.Rows
section
variable {X:Cx} {x:Str} {p pos:Pos} {e:Expr} {es:List Expr} {t:TA} {id T:String} {r:List V->Hp->VK->Prop}
def Jq (r:List V->Hp->VK->Prop) (t:TA):TE:=fun σ H Q=>t σ H fun vs H1=>r vs H1 Q
theorem E6 (hc:fO X (.builtin id) r) (hg:Gl X x) (hm:X.mg x=none) (hv:bootBuiltins x=some (.builtin id)) (ha:PA X (e::es) t) (hn:autoParam (x≠ "__name__") qb_) (hdb:autoParam ((x == ("__debug__": Str))=false) qb_)
  (he:autoParam (starEach (e::es) X.env=(false,eval e X.env)::starEach es X.env) qe_) (hpl:autoParam ((backTo pos (starEach es X.env)).any (·.1)=false) qe_):PE X (.Call (.Name x p) (e::es) [] pos) (Jq r t):=by
 intro pins s σ H Q I h;refine wpAny_Call_Name_kw (jn I hg hm hv ?_ hn hdb);exact PyProof.Rows.callWith_builtin1 (cS (ha pos pins s σ H _ I h) fun us s1 ⟨vs,H1,I1,r1,q1⟩=>hc pins s1 σ H1 vs us Q I1 r1 q1) he hpl
theorem JH (hc:fO X (.type T) r) (hg:Gl X x) (hm:X.mg x=none) (hv:bootBuiltins x=some (.type T)) (ha:PA X (e::es) t) (hn:autoParam (x≠ "__name__") qb_) (hdb:autoParam ((x == ("__debug__": Str))=false) qb_)
  (he:autoParam (starEach (e::es) X.env=(false,eval e X.env)::starEach es X.env) qe_) (hpl:autoParam ((backTo pos (starEach es X.env)).any (·.1)=false) qe_):PE X (.Call (.Name x p) (e::es) [] pos) (Jq r t):=by
 intro pins s σ H Q I h;refine wpAny_Call_Name_kw (jn I hg hm hv ?_ hn hdb);exact PyProof.Rows.callWith_type1 (cS (ha pos pins s σ H _ I h) fun us s1 ⟨vs,H1,I1,r1,q1⟩=>hc pins s1 σ H1 vs us Q I1 r1 q1) he hpl
end
end L2
namespace HT
open PySem PyProof.Rows
section
open PySem.SeqAt
open PySem.AutoSeq1 (wpAny_loadPart')
open PySem.MeetsSeq PySem.MeetsSeq2 PySem.MeetsSeq3
end
section
variable {prog:Program} {w:World} {A:Around} {E:Value->Shared->Prop} {s:Shared}
def fo (n d:Nat):Option Int->Nat
 | none=>d
 | some v=>if v<0 then(v+(n:Int)).toNat else min v.toNat n
theorem EN (n d:Nat):fo n d none=d:=rfl
theorem O7 (n d:Nat) (hd:d<=n) (o:Option Int):fo n d o<=n:=by
 cases o with
 | none=>exact hd
 | some v=>
  show(if v<0 then(v+(n:Int)).toNat else min v.toNat n)<=n
  by_cases hv:v<0
  ·rw[if_pos hv];omega
  ·rw[if_neg hv];exact Nat.min_le_right _ _
theorem IW (v:Int) (n d:Nat):(if v<0 then max (v+(n:Int)) 0 else min v (n:Int))=((fo n d (some v):Nat):Int):=by
 show(if v<0 then max (v+(n:Int)) 0 else min v (n:Int))=(((if v<0 then(v+(n:Int)).toNat else min v.toNat n):Nat):Int)
 by_cases hv:v<0
 ·simp only[if_pos hv];omega
 ·simp only[if_neg hv];omega
theorem HP (lo hi:Option Int) (n:Nat):Builtin.Slice.sliceAdjust lo hi 1 (n:Int)=(((fo n 0 lo:Nat):Int),((fo n n hi:Nat):Int)):=by
 have h1:¬((1:Int)<0):=nofun
 unfold Builtin.Slice.sliceAdjust;simp only[h1,if_false];refine Prod.ext ?_ ?_
 ·cases lo with
  | none=>rfl
  | some v=>exact IW v n 0
 ·cases hi with
  | none=>rfl
  | some v=>exact IW v n n
theorem G0 (i j:Nat):Builtin.Slice.slicePlaces (i:Int) (j:Int) 1=j-i:=by
 unfold Builtin.Slice.slicePlaces;have h1:(1:Int)>0:=nofun
 simp only[h1,if_true,Int.ediv_one];split <;> omega
theorem xn (p:IsPart v o) (h:Q o s):wpAny (model prog w) A (Builtin.Slice.slicePartIndex v) Q E s:=by
 cases p with
 | none=>exact slicePart_none h
 | int i t=>exact slicePart_int h
theorem kD {sl:Addr} {vl vu:Value} {lo hi:Option Int} {n:Nat} {Q:Int×Int×Nat->Shared->Prop} (hs:s.heap.IsSliceOf sl vl vu .none) (pl:IsPart vl lo) (pu:IsPart vu hi)
  (h:Q (((fo n 0 lo:Nat):Int),1,fo n n hi-fo n 0 lo) s):wpAny (model prog w) A (Builtin.Slice.sliceApplied (.ref sl) (pure (n:Int))) Q E s:=by
 obtain⟨os,hos,hcs,hds⟩:=id hs;unfold Builtin.Slice.sliceApplied Builtin.Slice.sliceFields;refine yt (yt (wpAny_field hos hds (x:=vl) rfl (yt (wpAny_field hos hds (x:=vu) rfl (yt (wpAny_field hos hds (x:=.none) rfl (yv ?_)))))));refine yt (slicePart_none ?_);show wpAny _ _ (if((1:Int) == 0)=true then _ else _) _ _ s;rw[if_neg (by decide)];refine yt (xn pl (yt (xn pu (yt (yv ?_)))));show wpAny _ _ (match Builtin.Slice.sliceAdjust lo hi 1 (n:Int) with | (lo,hi)=>pure (lo,(1:Int),Builtin.Slice.slicePlaces lo hi 1)) _ _ s;rw[HP lo hi n];show wpAny _ _ (pure (((fo n 0 lo:Nat):Int),(1:Int),Builtin.Slice.slicePlaces ((fo n 0 lo:Nat):Int) ((fo n n hi:Nat):Int) 1)) _ _ s;rw[G0];exact yv h
theorem LD (xs:Array Value) (i k:Nat):((List.range k).filterMap fun(m:Nat)=>xs[((i:Int)+(m:Int)*1).toNat]?).toArray=((xs.toList.drop i).take k).toArray:=by
 have e:(fun(m:Nat)=>xs[((i:Int)+(m:Int)*1).toNat]?)=fun m=>xs[i+m]?:=by
  funext m
  have:((i:Int)+(m:Int)*1).toNat=i+m:=nofun
  rw[this]
 rw[e];have:=pick_run xs i k;rw[List.filterMap_map] at this;have e2:((fun x=>xs[x]?)∘fun x=>i+x)=fun m=>xs[i+m]?:=rfl;rw[e2] at this;rw[this]
theorem sE {t sl:Addr} {items:Array Value} {vl vu:Value} {lo hi:Option Int} {Q:Value->Shared->Prop} (ht:IsTup s.heap t items) (hs:s.heap.IsSliceOf sl vl vu .none) (pl:IsPart vl lo) (pu:IsPart vu hi)
  (hw:¬(fo items.size 0 lo=0/\fo items.size items.size hi=items.size))
  (h:Q (.ref s.heap.objs.size) {s with heap:=s.heap.push {cls:=.type "tuple",data:=.seq ((items.toList.drop (fo items.size 0 lo)).take (fo items.size items.size hi-fo items.size 0 lo)).toArray}})
  (hsz:items.size<=sizeLine):wpAny (model prog w) A (getItem (.ref t) (.ref sl)) Q E s:=by
 have htake:sizeOk (.seq ((items.toList.drop (fo items.size 0 lo)).take (fo items.size items.size hi-fo items.size 0 lo)).toArray):=by
  show((items.toList.drop (fo items.size 0 lo)).take (fo items.size items.size hi-fo items.size 0 lo)).toArray.size<=sizeLine;rw[ya,zP,List.length_drop,Array.length_toList];omega
 have hj:fo items.size items.size hi<=items.size:=O7 _ _ (zk _) hi;obtain⟨os,hos,hcs,hds⟩:=id hs;have hTs:s.TypeIs (.ref sl) "slice":=⟨os,hos,hcs⟩
 unfold getItem
 try with_reducible refine wpAny_holding ?_
 first | refine yt (yv ?_) | skip
 refine yt (wpAny_sequenceKey ht.typeIs (by decide) ?_);refine yt (wpAny_callSpecial?_slot (name:=Str.ofString "__getitem__") ht.typeIs PyProof.Rows.slot_tuple_getitem
  (wpAny_call_entry PyProof.Rows.slot_tuple_getitem ht.typeIs entry_tuple_getitem ?_ (args_tuple_getitem _ _)))
 show wpAny _ _ (Builtin.Tuple.tupleItemsOf (.ref t) >>= _) _ _ s;refine yt (tupleItemsOf_ ht ?_);refine yt (wpAny_typeOf hTs ?_);rw[if_pos (by decide)];refine yt (kD hs pl pu ?_);have hno:¬((((fo items.size 0 lo:Nat):Int) == 0&&(1:Int) == 1&&(fo items.size items.size hi-fo items.size 0 lo) == items.size)=true):=by
  intro q;rw[zN,zN] at q;have q1:((fo items.size 0 lo:Nat):Int)=0:=eq_of_beq q.1.1;have q2:fo items.size items.size hi-fo items.size 0 lo=items.size:=eq_of_beq q.2;exact hw ⟨nofun,nofun⟩
 show wpAny _ _ (if(((fo items.size 0 lo:Nat):Int) == 0&&(1:Int) == 1&&(fo items.size items.size hi-fo items.size 0 lo) == items.size)=true then _ else _) _ _ s;rw[if_neg hno,LD]
 first
  | exact yt (m:=Builtin.Tuple.tupleExact _) (wpAny_newObj_type (yv ⟨_,rfl,yv h⟩) htake)
  | exact yt (m:=Builtin.Tuple.tupleExact _) (wpAny_newObj_type (yt (yv (yv ⟨_,rfl,yv h⟩))) htake)
  | exact yt (yt (m:=Builtin.Tuple.tupleExact _) (wpAny_newObj_type (yv (yv ⟨_,rfl,yv h⟩)) htake))
  | exact yt (yt (m:=Builtin.Tuple.tupleExact _) (wpAny_newObj_type (yv ⟨_,rfl,yv h⟩) htake))
end
end HT
namespace L2
open PySem PySem.Spec PyProof.Rows
abbrev TO:=St->Hp->(Option Int->Hp->Prop)->Prop
def PO (X:Cx) (e:Option Expr) (t:TO):Prop:=
 ∀(pins:List (Addr×Obj)) (s:Shared) (σ:St) (H:Hp) (Q:Option Int->Hp->Prop),Inv X pins σ H s->t σ H Q->
  wpAny (model X.prog X.w) X.A (evalPart e X.env) (fun u s'=>∃o H',Inv X pins σ H' s'/\IsPart u o/\Q o H') X.xe s
def Cq:TO:=fun _ H Q=>Q none H
def KZ (t:TE):TO:=fun σ H Q=>t σ H fun x H1=>∃i,x=.int i/\Q (some i) H1
theorem intsAre_of:∀{us:List Value},Vals (ns.map V.int) us->IntsAre us ns:=by
 induction ns with
 | nil=>intro us r;rw[ym] at r;cases r;exact .nil
 | cons n ns ih=>
  intro us r;rw[zh] at r;cases r with
  | cons r1 r2=>
   obtain⟨t,e⟩:=r1;subst e;exact .cons n t (ih r2)
section
variable {X:Cx} {e:Expr} {te:TE} {lo hi:Option Expr} {tl th:TO} {pos p2:Pos}
theorem eL:PO X none Cq:=by
 intro pins s σ H Q I h;rw[evalPart_none];exact yv ⟨none,H,I,.none,h⟩
theorem eK (h:PE X e te):PO X (some e) (KZ te):=by
 intro pins s σ H Q I hw;rw[evalPart_some];refine cS (h pins s σ H _ I hw) fun u s1 ⟨x,H1,I1,r1,q1⟩=>?_;obtain⟨i,rfl,q⟩:=q1;obtain⟨t,rfl⟩:=r1;exact⟨some i,H1,I1,.int i t,q⟩
def MH (X:Cx) (r:V->Option Int->Option Int->Hp->VK->Prop):Prop:=
 ∀(pins:List (Addr×Obj)) (s:Shared) (σ:St) (H:Hp) (x:V) (v vl vu:Value) (lo hi:Option Int) (sl:Addr) (Q:VK),Inv X pins σ H s->RelV x v->s.heap.IsSliceOf sl vl vu .none->IsPart vl lo->IsPart vu hi->r x lo hi H Q->
  ∃T id,typeLookup (.type T) "__getitem__"= pure (some (.builtin id))/\s.TypeIs v T/\wpAny (model X.prog X.w) X.A (getItem v (.ref sl)) (EP X pins σ Q) X.xe s
theorem MH.or (h:MH X r) (h':MH X r'):MH X (fun x lo hi H Q=>r x lo hi H Q\/r' x lo hi H Q):=by
 intro pins s σ H x v vl vu lo hi sl Q I rx hs pl pu q;rcases q with q | q
 ·exact h pins s σ H x v vl vu lo hi sl Q I rx hs pl pu q
 ·exact h' pins s σ H x v vl vu lo hi sl Q I rx hs pl pu q
def RZ (r:V->Option Int->Option Int->Hp->VK->Prop) (te:TE) (tl th:TO):TE:=fun σ H Q=>te σ H fun x H1=>tl σ H1 fun l H2=>th σ H2 fun u H3=>r x l u H3 Q
theorem dF (hr:MH X r) (he:PE X e te) (hl:PO X lo tl) (hu:PO X hi th):PE X (.Subscript e (.Slice lo hi none p2) pos) (RZ r te tl th):=by
 intro pins s σ H Q I h;refine Subscript_ (cS (he pins s σ H _ I h) fun v s1 ⟨x,H1,I1,r1,q1⟩=>?_);refine wpAny_Slice (cS (hl pins s1 σ H1 _ I1 q1) fun vl s2 ⟨l,H2,I2,pl,q2⟩=>cS (hu pins s2 σ H2 _ I2 q2) fun vu s3 ⟨u,H3,I3,pu,q3⟩=>?_);rw[evalPart_none];refine yv ?_;have I4:Inv X pins σ H3 {s3 with heap:=s3.heap.push {cls:=.type "slice",data:=.fields #[vl,vu,.none]}}:=I3.kept (t':=s3.toks) fun b ob q=>yu _ q;obtain⟨T,id,hT,ht,hg⟩:=hr pins {s3 with heap:=s3.heap.push {cls:=.type "slice",data:=.fields #[vl,vu,.none]}} σ H3 x v vl vu l u s3.heap.objs.size Q I4 r1 (Heap.IsSliceOf.new ..) pl pu q3;show wpAny (model X.prog X.w) X.A (subscriptTail e (.Slice lo hi none p2) v (.ref s3.heap.objs.size)) (EP X pins σ Q) X.xe {s3 with heap:=s3.heap.push {cls:=.type "slice",data:=.fields #[vl,vu,.none]}};exact tail_any (ops:=[.ref s3.heap.objs.size,v]) ht hT hg (by with_unfolding_all rfl)
def kr (xs:List V) (lo hi:Option Int):List V:=(xs.drop (HT.fo xs.length 0 lo)).take (HT.fo xs.length xs.length hi-HT.fo xs.length 0 lo)
theorem vm (xs:List V) (lo hi:Option Int):(kr xs lo hi).length<=xs.length:=by
 unfold kr;rw[zP,List.length_drop];omega
def QF (K:yA):V->Option Int->Option Int->Hp->VK->Prop:=fun x lo hi H Q=>∃a xs,x=.ref a/\dB K H a xs/\
 ¬(HT.fo xs.length 0 lo=0/\HT.fo xs.length xs.length hi=xs.length)/\∀p,H p=none->Q (.ref p) (upd H p (.tup (kr xs lo hi)))
theorem O5:MH X (QF X.K):=by
 intro pins s σ H x v vl vu lo hi sl Q I rx hs pl pu h;obtain⟨a,xs,rfl,hx,hw,q⟩:=h;cases rx;obtain⟨its,r,ht,hz⟩:=I.tuple hx;have hlen:its.toArray.size=xs.length:=by rw[ya];exact r.length.symm
 refine⟨"tuple",_,PyProof.Rows.slot_tuple_getitem.lookup,ht.typeIs,?_⟩;refine HT.sE ht hs pl pu (by rw[hlen];exact hw) ?_ (by rw[hlen];exact hz);rw[hlen];refine⟨.ref s.heap.objs.size,_,I.laid (t':=s.toks) (o:=.tup (kr xs lo hi)) (fun b ob q=>yu _ q) (zk _) ?_,rfl,q _ (I.bZ.fresh (zk _))⟩;exact⟨zL (vm xs lo hi) hz,_,(r.drop (HT.fo xs.length 0 lo)).take (HT.fo xs.length xs.length hi-HT.fo xs.length 0 lo),IsTup.new _ _⟩
end
end L2
namespace L2
open PySem PySem.Spec PyProof.Rows
def Oo (n:Nat) (i:Int):Option Nat:=if 0<=i then(if i<n then some i.toNat else none) else if -(n:Int)<=i then some (i+n).toNat else none
def Ci (xs:List α) (i:Int):Option α:=(Oo xs.length i).bind fun j=>xs[j]?
theorem NJ (h:Oo n i=some j):seqIndex? i n=some j/\j<n/\-(n:Int)<=i/\i<n:=by
 unfold Oo at h
 by_cases h0:0<=i
 ·rw[if_pos h0] at h
  by_cases h1:i<n
  ·rw[if_pos h1] at h
   have e:i.toNat=j:=yj h;exact⟨by rw[seqIndex_of h0 h1,e],nofun,nofun,h1⟩
  ·rw[if_neg h1] at h;cases h
 ·rw[if_neg h0] at h
  by_cases h1:-(n:Int)<=i
  ·rw[if_pos h1] at h
   have e:(i+n).toNat=j:=yj h;exact⟨by rw[seqIndex_neg nofun h1,e],nofun,h1,nofun⟩
  ·rw[if_neg h1] at h;cases h
theorem DN (h:Ci xs i=some v):∃j,seqIndex? i xs.length=some j/\xs[j]?=some v/\j<xs.length/\-(xs.length:Int)<=i/\i<xs.length:=by
 unfold Ci at h;cases e:Oo xs.length i with
 | none=>rw[e] at h;cases h
 | some j=>
  rw[e] at h;obtain⟨h1,h2,h3,h4⟩:=NJ e;exact⟨j,h1,h,h2,h3,h4⟩
theorem bF {α:Type} {xs:List α} {j:Nat} {v:α} (h:xs[j]?=some v):Ci xs (j:Int)=some v:=by
 have hj:j<xs.length:=(zw.mp h).1;have e:Oo xs.length (j:Int)=some j:=by
  unfold Oo;rw[if_pos nofun,if_pos nofun];simp
 unfold Ci;rw[e];exact h
theorem Al (xs:List α) (v:α):Ci (xs++[v]) (-1)=some v:=by
 have hl:(xs++[v]).length=xs.length+1:=by simp
 have e:Oo (xs++[v]).length (-1)=some xs.length:=by
  unfold Oo;rw[hl,if_neg (by decide),if_pos nofun]
  congr 1
  omega
 unfold Ci;rw[e];show(xs++[v])[xs.length]?=some v;simp
def Ea (b:Expr):Prop:=∀o i,subscripted b false o i=operate [o,i] (getItem o i)
def Rw (X:Cx) (r:R2):Prop:=
 ∀(value slice:Expr) (pins:List (Addr×Obj)) (s:Shared) (σ:St) (H:Hp) (x y:V) (v u:Value) (Q:VK),Inv X pins σ H s->RelV x v->RelV y u->r x y H Q->
  subscripted slice false v u=operate [v,u] (getItem v u)->wpAny (model X.prog X.w) X.A (subscriptTail value slice v u) (EP X pins σ Q) X.xe s
def SQ (X:Cx) (id:String) (r:V->List V->Hp->VK->Prop):Prop:=
 ∀(pins:List (Addr×Obj)) (s:Shared) (σ:St) (H:Hp) (x:V) (xs:List V) (v:Value) (us:List Value) (Q:VK),Inv X pins σ H s->RelV x v->Vals xs us->r x xs H Q->
  wpAny (model X.prog X.w) X.A (call (.builtin id) (v::us)) (EP X pins σ Q) X.xe s
section
variable {X:Cx} {a b:Expr} {ta tb:TE} {pos:Pos}
theorem ax (hr:Rw X r) (ha:PE X a ta) (hb:PE X b tb) (hs:Ea b):PE X (.Subscript a b pos) (fQ r ta tb):=by
 intro pins s σ H Q I h;exact Subscript_ (P6 ha hb I h fun v u s2 x y H2 I2 rx ry q=>hr a b pins s2 σ H2 x y v u Q I2 rx ry q (hs _ _))
def Pd (K:yA):R2:=fun x y H Q=>∃p xs i v,x=.ref p/\y=.int i/\aL K H p xs/\Ci xs i=some v/\Q v H
def rP (K:yA):R2:=fun x y H Q=>∃p xs i v,x=.ref p/\y=.int i/\dB K H p xs/\Ci xs i=some v/\Q v H
def Ni:R2:=fun x y H Q=>∃z i c,x=.str z/\y=.int i/\z.length<=sizeLine/\Ci z.cps.toList i=some c/\Q (.str ⟨#[c]⟩) H
theorem aN:Rw X (Pd X.K):=by
 intro value slice pins s σ H x y v u Q I rx ry h hs;obtain⟨p,xs,i,z,rfl,rfl,hq,he,q⟩:=h;cases rx;obtain⟨t,rfl⟩:=ry;obtain⟨its,r,pl,hz⟩:=I.list hq;obtain⟨j,h1,h2,h3,h4,h5⟩:=DN he;obtain⟨w,ew,rw'⟩:=r.get h2;have hl:=r.length;have hn:=yG;have fin:EP X pins σ Q w s:=⟨z,H,I,rw',q⟩
 by_cases h0:0<=i
 ·have hj:i.toNat=j:=by
   rw[seqIndex_of h0 h5] at h1;exact yj h1
  exact item_listR pl.isList h0 nofun (by rw[hj];simpa using ew) fin hs
 ·have hj:(i+(its.toArray.size:Int)).toNat=j:=by
   rw[seqIndex_neg nofun h4] at h1;rw[ya,<-hl];exact yj h1
  exact subscriptTail_builtinR (x:=w) pl.isList.typeIs slot_list_getitem.lookup
   (wpAny_getItem_list_neg (Q:=fun r s'=>r=w/\EP X pins σ Q r s') pl.isList nofun (by rw[ya] <;> omega) nofun (by rw[hj];simpa using ew) ⟨rfl,fin⟩) hs
theorem aA:Rw X (rP X.K):=by
 intro value slice pins s σ H x y v u Q I rx ry h hs;obtain⟨p,xs,i,z,rfl,rfl,hq,he,q⟩:=h;cases rx;obtain⟨t,rfl⟩:=ry;obtain⟨its,r,pl,hz⟩:=I.tuple hq;obtain⟨j,h1,h2,h3,h4,h5⟩:=DN he;obtain⟨w,ew,rw'⟩:=r.get h2;have hl:=r.length;have hn:=yG;have fin:EP X pins σ Q w s:=⟨z,H,I,rw',q⟩
 exact subscriptTail_builtinR (x:=w) pl.typeIs slot_tuple_getitem.lookup
  (getItem_tuple (j:=j) (Q:=fun r s'=>r=w/\EP X pins σ Q r s') pl nofun nofun (by rw[ya,<-hl];exact h1) (by simpa using ew) ⟨rfl,fin⟩) hs
theorem De:Rw X Ni:=by
 intro value slice pins s σ H x y v u Q I rx ry h hs;obtain⟨z,i,c,rfl,rfl,hz,he,q⟩:=h;obtain⟨t,rfl⟩:=rx;obtain⟨t',rfl⟩:=ry;obtain⟨j,h1,h2,h3,h4,h5⟩:=DN he;have hl:z.cps.toList.length=z.length:=by simp[Str.length]
 rw[hl] at h1 h4 h5;have hn:=yG;exact tail_any (typeIs_str s z t) slot_str_getitem.lookup (getItem_str (c:=c) (by
  have e1:decide (i < -(2^63:Int))=false:=zd nofun;have e2:decide (i≥2^63)=false:=zd nofun;rw[e1,e2,Bool.or_false]) (by rw[h1];simpa using h2) ⟨.str ⟨#[c]⟩,H,I.tok _,⟨_,rfl⟩,q⟩) hs
theorem CG (lo hi:Option Int) (n:Nat):(sliceBounds lo hi none n).1=((HT.fo n 0 lo:Nat):Int)/\(sliceBounds lo hi none n).2.1=((HT.fo n n hi:Nat):Int)/\(sliceBounds lo hi none n).2.2=1:=by
 refine⟨?_,?_,rfl⟩
 ·cases lo with
  | none=>simp[sliceBounds,HT.fo]
  | some i=>
   simp only[sliceBounds,HT.fo,Option.getD_none,show(1:Int)>0 by decide,if_true]
   by_cases h:i<0
   ·simp only[h,if_true] <;> omega
   ·simp only[h,if_false] <;> omega
 ·cases hi with
  | none=>simp[sliceBounds,HT.fo]
  | some i=>
   simp only[sliceBounds,HT.fo,Option.getD_none,show(1:Int)>0 by decide,if_true]
   by_cases h:i<0
   ·simp only[h,if_true] <;> omega
   ·simp only[h,if_false] <;> omega
theorem AR (its:List Value) (lo hi:Option Int):slicePick its.toArray lo hi none=((its.drop (HT.fo its.length 0 lo)).take (HT.fo its.length its.length hi-HT.fo its.length 0 lo)).toArray:=by
 obtain⟨h1,h2,h3⟩:=CG lo hi its.toArray.size;unfold slicePick;rw[h1,h2,h3];simp only[sliceRange_one,pick_run,ya] <;> rfl
def Sb (K:yA):V->Option Int->Option Int->Hp->VK->Prop:=fun x lo hi H Q=>∃a xs,x=.ref a/\aL K H a xs/\∀p,H p=none->Q (.ref p) (upd H p (.lst (kr xs lo hi)))
theorem gH:MH X (Sb X.K):=by
 intro pins s σ H x v vl vu lo hi sl Q I rx hs pl pu h;obtain⟨a,xs,rfl,hx,q⟩:=h;cases rx;obtain⟨its,r,ht,hz⟩:=I.list hx;have hlen:=r.length;refine⟨"list",_,slot_list_getitem.lookup,ht.isList.typeIs,?_⟩;refine wpAny_getItem_list_slice ht.isList hs pl pu .none (by simp) ?_ (by rw[ya] <;> omega);rw[AR,<-hlen];refine⟨.ref s.heap.objs.size,_,I.laid (t':=s.toks) (o:=.lst (kr xs lo hi)) (fun b ob q=>yu _ q) (zk _) ?_,rfl,q _ (I.bZ.fresh (zk _))⟩;exact⟨zL (vm xs lo hi) hz,_,0,(r.drop (HT.fo xs.length 0 lo)).take (HT.fo xs.length xs.length hi-HT.fo xs.length 0 lo),yw _ rfl⟩
def mL:V->Bool
 | .bE=>true
 | .bl _=>true
 | .int _=>true
 | .str _=>true
 | _=>false
def Hs:V->V->Bool
 | .bE,.bE=>true
 | .bl a,.bl b=>a == b
 | .bl a,.int b=>(if a then 1 else 0) == b
 | .int a,.bl b=>a == (if b then 1 else 0)
 | .int a,.int b=>a == b
 | .str a,.str b=>a == b
 | _,_=>false
theorem Mo (ry:RelV y u) (rx:RelV x v) (fy:mL y=true) (fx:mL x=true):SeqAt.EqAt A s u v (Hs y x):=by
 cases y with
 | bE=>
  cases ry;cases x with
  | bE=>cases rx;exact SeqAt.EqAt.same _
  | bl b=>cases rx;exact SeqAt.EqAt.none_bool b
  | int b=>obtain⟨t,rfl⟩:=rx;exact SeqAt.EqAt.none_int b t
  | str b=>obtain⟨t,rfl⟩:=rx;exact SeqAt.EqAt.none_str b t
  | _=>exact absurd (show false=true from fx) zK
 | bl a=>
  cases ry;cases x with
  | bE=>cases rx;exact SeqAt.EqAt.bool_none a
  | bl b=>cases rx;exact SeqAt.EqAt.bool_bool a b
  | int b=>obtain⟨t,rfl⟩:=rx;exact SeqAt.EqAt.bool_int a b t
  | str b=>obtain⟨t,rfl⟩:=rx;exact SeqAt.EqAt.bool_str a b t
  | _=>exact absurd (show false=true from fx) zK
 | int a=>
  obtain⟨t',rfl⟩:=ry;cases x with
  | bE=>cases rx;exact SeqAt.EqAt.int_none a t'
  | bl b=>cases rx;exact SeqAt.EqAt.int_bool a t' b
  | int b=>obtain⟨t,rfl⟩:=rx;exact SeqAt.EqAt.int_int a t' b t
  | str b=>obtain⟨t,rfl⟩:=rx;exact SeqAt.EqAt.int_str a t' b t
  | _=>exact absurd (show false=true from fx) zK
 | str a=>
  obtain⟨t',rfl⟩:=ry;cases x with
  | bE=>cases rx;exact SeqAt.EqAt.str_none a t'
  | bl b=>cases rx;exact SeqAt.EqAt.str_bool a t' b
  | int b=>obtain⟨t,rfl⟩:=rx;exact SeqAt.EqAt.str_int a t' b t
  | str b=>obtain⟨t,rfl⟩:=rx;exact SeqAt.EqAt.str_str a t' b t
  | _=>exact absurd (show false=true from fx) zK
 | _=>exact absurd (show false=true from fy) zK
def Ht (x:V) (u:Value):Bool:=match u with
 | .none=>Hs .bE x
 | .bool b=>Hs (.bl b) x
 | .int i _=>Hs (.int i) x
 | .str z _=>Hs (.str z) x
 | _=>false
theorem Mn (r:RelV y u) (f:mL y=true):Ht x u=Hs y x:=by
 cases y with
 | bE=>cases r;rfl
 | bl b=>cases r;rfl
 | int i=>obtain⟨t,rfl⟩:=r;rfl
 | str z=>obtain⟨t,rfl⟩:=r;rfl
 | _=>exact absurd (show false=true from f) zK
theorem sQ:∀{xs:List V} {us:List Value},Vals xs us->xs.all mL=true->us.any (Ht x)=xs.any fun y=>Hs y x
 | _,_,.nil,_=>rfl
 | y::xs,u::us,.cons r t,f=>by
  rw[List.all_cons,zN] at f;rw[List.any_cons,List.any_cons,Mn r f.1,sQ t f.2]
theorem oa (rx:RelV x v) (fx:mL x=true):∀{xs:List V} {us:List Value},Vals xs us->xs.all mL=true->∀u∈us,SeqAt.EqAt A s u v (Ht x u)
 | _,_,.nil,_=>fun u hu=>by cases hu
 | y::xs,u::us,.cons r t,f=>fun u' hu=>by
  rw[List.all_cons,zN] at f;rcases zC.mp hu with rfl | hu
  ·rw[Mn r f.1];exact Mo r rx f.1 fx
  ·exact oa rx fx t f.2 u' hu
def Eg (x:V) (xs:List V):Bool:=xs.any fun y=>Hs y x
def Qg (K:yA) (neg:Bool):R2:=fun x y H Q=>∃p xs,y=.ref p/\(aL K H p xs\/dB K H p xs)/\mL x=true/\xs.all mL=true/\Q (.bl (if neg then !Eg x xs else Eg x xs)) H
theorem oC:oX X (compareOp .In) (Qg X.K false):=by
 intro pins s σ H x y v u Q I rx ry h;obtain⟨p,xs,rfl,hq,fx,fs,q⟩:=h;cases ry;rcases hq with hq | hq
 ·obtain⟨its,r,pl,hz⟩:=I.list hq
  refine SeqAt.in_listAt (Ht x) pl.isList (fun w hw=>oa rx fx r fs w (by simpa using hw)) ⟨.bl _,H,I,rfl,?_⟩;rw[show its.toArray.any (Ht x)=its.any (Ht x) by simp,sQ r fs];exact q
 ·obtain⟨its,r,pl,hz⟩:=I.tuple hq
  refine SeqAt.in_tupleAt (Ht x) pl (fun w hw=>oa rx fx r fs w (by simpa using hw)) ⟨.bl _,H,I,rfl,?_⟩;rw[show its.toArray.any (Ht x)=its.any (Ht x) by simp,sQ r fs];exact q
theorem d4:oX X (compareOp .NotIn) (Qg X.K true):=by
 intro pins s σ H x y v u Q I rx ry h;obtain⟨p,xs,rfl,hq,fx,fs,q⟩:=h;cases ry;rcases hq with hq | hq
 ·obtain⟨its,r,pl,hz⟩:=I.list hq
  refine SeqAt.notIn_listAt (Ht x) pl.isList (fun w hw=>oa rx fx r fs w (by simpa using hw)) ⟨.bl _,H,I,rfl,?_⟩;rw[show its.toArray.any (Ht x)=its.any (Ht x) by simp,sQ r fs];exact q
 ·obtain⟨its,r,pl,hz⟩:=I.tuple hq
  refine SeqAt.notIn_tupleAt (Ht x) pl (fun w hw=>oa rx fx r fs w (by simpa using hw)) ⟨.bl _,H,I,rfl,?_⟩;rw[show its.toArray.any (Ht x)=its.any (Ht x) by simp,sQ r fs];exact q
theorem aC:fO X (.builtin "len") (fun xs H Q=>∃p ys,xs=[.ref p]/\(aL X.K H p ys\/dB X.K H p ys)/\Q (.int ys.length) H):=by
 intro pins s σ H xs us Q I r h;obtain⟨p,ys,rfl,hq,q⟩:=h;obtain⟨u,rfl,rx⟩:=vals1 r;cases rx;have hn:=yG;rcases hq with hq | hq
 ·obtain⟨its,r',pl,hz⟩:=I.list hq
  have hlen:=r'.length;exact Calls.call_len_list pl.isList (by simp only[ya] <;> omega) ⟨.int ys.length,H,I.tok _,⟨s.toks+1,by rw[ya,hlen]⟩,q⟩
 ·obtain⟨its,r',pl,hz⟩:=I.tuple hq
  have hlen:=r'.length;exact len_tuple pl (by simp only[ya] <;> omega) ⟨.int ys.length,H,I.tok _,⟨s.toks+1,by rw[ya,hlen]⟩,q⟩
theorem gf:fO X (.builtin "len") (fun xs H Q=>∃z,xs=[.str z]/\z.length<=sizeLine/\Q (.int z.length) H):=by
 intro pins s σ H xs us Q I r h;obtain⟨z,rfl,hz,q⟩:=h;obtain⟨u,rfl,t,rfl⟩:=vals1 r;have hn:=yG;exact len_str nofun ⟨.int z.length,H,I.tok _,⟨_,rfl⟩,q⟩
theorem iO:fO X (.type "list") (fun xs H Q=>∃p ys,xs=[.ref p]/\(aL X.K H p ys\/dB X.K H p ys)/\∀l,H l=none->Q (.ref l) (upd H l (.lst ys))):=by
 intro pins s σ H xs us Q I r h;obtain⟨p,ys,rfl,hq,q⟩:=h;obtain⟨u,rfl,rx⟩:=vals1 r;cases rx;have fin:∀(its:List Value),Vals ys its->ys.length<=sizeLine->∀(h':Heap) (c':Nat),(∀b o',s.heap.get? b=some o'->h'.get? b=some o')->
   h'.get? s.heap.objs.size=some {cls:=.type "list",dict:=none,data:=.seq its.toArray c',slots:=#[]}->EP X pins σ Q (.ref s.heap.objs.size) {s with heap:=h'}:=fun its r' hz h' c' kp e=>
  ⟨.ref s.heap.objs.size,_,I.laid (t':=s.toks) kp (zk _) (show cz X.prog X.w _ h' _ (.lst ys) from⟨hz,its,c',r',e⟩),rfl,q _ (I.bZ.fresh (zk _))⟩
 rcases hq with hq | hq
 ·obtain⟨its,r',pl,hz⟩:=I.list hq
  have hlen:=r'.length;obtain⟨o,ho,hc,n,hd⟩:=pl.isList;exact call_list_seq p (.inl rfl) ho hc hd (fun h' c' kp e=>fin its r' hz h' c' kp e) (by simp only[ya] <;> omega)
 ·obtain⟨its,r',pl,hz⟩:=I.tuple hq
  have hlen:=r'.length;obtain⟨o,ho,hc,n,hd⟩:=pl;exact call_list_seq p (.inr rfl) ho hc hd (fun h' c' kp e=>fin its r' hz h' c' kp e) (by simp only[ya] <;> omega)
theorem cL:fO X (.type "tuple") (fun xs H Q=>∃p ys,xs=[.ref p]/\((aL X.K H p ys/\∀l,H l=none->Q (.ref l) (upd H l (.tup ys)))\/(dB X.K H p ys/\Q (.ref p) H))):=by
 intro pins s σ H xs us Q I r h;obtain⟨p,ys,rfl,h⟩:=h;obtain⟨u,rfl,rx⟩:=vals1 r;cases rx;rcases h with⟨hq,q⟩ | ⟨hq,q⟩
 ·obtain⟨its,r',pl,hz⟩:=I.list hq
  have hlen:=r'.length;refine call_tuple_list pl.isList (fun h' kp=>?_) (by simp only[ya] <;> omega);have I1:Inv X pins σ H {s with heap:=h'}:=I.kept (t':=s.toks) kp;have I2:Inv X pins σ (upd H h'.objs.size (.tup ys)) {s with heap:=h'.push {cls:=.type "tuple",data:=.seq its.toArray}}:=
   I1.laid (t':=s.toks) (fun b o e=>yu _ e) (zk _) (show cz X.prog X.w _ _ _ (.tup ys) from⟨hz,its,r',IsTup.new _ _⟩)
  exact⟨.ref h'.objs.size,_,I2,rfl,q _ (I1.bZ.fresh (zk _))⟩
 ·obtain⟨its,r',pl,hz⟩:=I.tuple hq
  exact call_tuple_same pl ⟨.ref p,H,I,rfl,q⟩
def Rm (K:yA) (T:String) (x:V) (H:Hp):Prop:=match x with
 | .str _=>T ="str"
 | .int _=>T ="int"
 | .ref p=>(T ="list"/\∃xs,aL K H p xs)\/(T ="tuple"/\∃o,K.lookup p=some o/\o.cls=.type "tuple"/\o.dict=none)\/
   (T ="dict"/\((∃kvs,H p=some (.dK kvs))\/∃kvs,H p=some (.dT kvs)))\/(T ="set"/\∃S n,H p=some (.set S n))
 | _=>False
theorem KO (I:Inv X pins σ H s) (r:RelV x v) (ty:Rm X.K T x H) :
  s.TypeIs v T/\∀a,v=.ref a->∃ob,s.heap.get? a=some ob/\ob.dict=none:=by
 cases x with
 | str z=>
  obtain⟨t,rfl⟩:=r;cases(show T ="str" from ty);exact⟨typeIs_str s z t,fun _ e=>nomatch e⟩
 | int i=>
  obtain⟨t,rfl⟩:=r;cases(show T ="int" from ty);exact⟨typeIs_int s i t,fun _ e=>nomatch e⟩
 | ref p=>
  cases r;rcases ty with⟨rfl,xs,hq⟩ | ⟨rfl,o,hk,hc,hd⟩ | ⟨rfl,hk⟩ | ⟨rfl,S,n,hk⟩
  ·obtain⟨its,_,pl,_⟩:=I.list hq
   refine⟨pl.isList.typeIs,fun a e=>?_⟩;cases e;obtain⟨o,n,e,c,hd,_⟩:=pl;exact⟨o,e,hd⟩
  ·refine⟨⟨o,I.sr p o hk,hc⟩,fun a e=>?_⟩
   cases e;exact⟨o,I.sr _ o hk,hd⟩
  ·have z:∃o,s.heap.get? p=some o/\o.ExactDict:=by
    rcases hk with⟨kvs,hk⟩ | ⟨kvs,hk⟩
    ·obtain⟨_,_,_,_,o,_,_,e,ex,_⟩:=I.bZ p _ hk
     exact⟨o,e,ex⟩
    ·obtain⟨_,_,_,_,o,_,_,e,ex,_⟩:=I.bZ p _ hk
     exact⟨o,e,ex⟩
   obtain⟨o,e,ex⟩:=z;refine⟨⟨o,e,ex.1⟩,fun a e2=>?_⟩;cases e2;exact⟨o,e,ex.2.1⟩
  ·obtain⟨o,_,_,_,e,ex,_⟩:=I.bZ p _ hk
   refine⟨⟨o,e,ex.1⟩,fun a e2=>?_⟩;cases e2;exact⟨o,e,ex.2.1⟩
 | _=>exact False.elim ty
def R5 (K:yA) (T:String) (r:V->List V->Hp->VK->Prop) (to:TE):TE:=fun σ H Q=>to σ H fun x H1=>Rm K T x H1/\r x [] H1 Q
def Rp (K:yA) (T:String) (r:V->List V->Hp->VK->Prop) (to:TE) (t:TA):TE:=fun σ H Q=>to σ H fun x H1=>Rm K T x H1/\t σ H1 fun xs H2=>r x xs H2 Q
variable {o e:Expr} {es:List Expr} {to:TE} {t:TA} {name:Str} {apos cpos:Pos} {T id:String} {r:V->List V->Hp->VK->Prop}
theorem Po (pa:PlainAttrs T) (slot:Slot T name id) (hty:typeOf (.builtin id)=pure (.type "method_descriptor")) (hm:SQ X id r) (ho:PE X o to)
  (hbase:autoParam (attributeBase o name X.env (eval o X.env)=eval o X.env) qe_) (hline:autoParam ((apos.endLine == cpos.line)=true) qe_):PE X (.Call (.Attribute o name apos) [] [] cpos) (R5 X.K T r to):=by
 intro pins s σ H Q I h;refine wpAny_Call_method0_late hbase hline (cS (ho pins s σ H _ I h) fun v s1 ⟨x,H1,I1,r1,ty,q1⟩=>?_);obtain⟨h1,h2⟩:=KO I1 r1 ty;exact⟨T,id,pa,slot,hty,h1,h2,Calls.callWith_builtin rfl (PySem.evalArgs_none (hm pins s1 σ H1 x [] v [] Q I1 r1 .nil q1))⟩
theorem cu (pa:PlainAttrs T) (slot:Slot T name id) (hty:typeOf (.builtin id)=pure (.type "method_descriptor")) (hm:SQ X id r) (ho:PE X o to) (ha:PA X (e::es) t)
  (hbase:autoParam (attributeBase o name X.env (eval o X.env)=eval o X.env) qe_)
  (hfew:autoParam (((backTo cpos (starEach (e::es) X.env)).all (fun x=>!x.1)&&(backToKw cpos (keywordEach [] X.env)).all (fun x=>x.1.isSome)
   &&decide ((e::es).length+([]:List Keyword).length+(if([]:List Keyword).isEmpty then 0 else 1)<30))=true) qe_)
  (hline:autoParam ((apos.endLine == cpos.line)=true) qe_) (hs:autoParam (starEach (e::es) X.env=(false,eval e X.env)::starEach es X.env) qe_) (hplain:autoParam ((backTo cpos (starEach es X.env)).any (·.1)=false) qe_) :
  PE X (.Call (.Attribute o name apos) (e::es) [] cpos) (Rp X.K T r to t):=by
 intro pins s σ H Q I h;refine wpAny_Call_method_late hbase hfew hline rfl (cS (ho pins s σ H _ I h) fun v s1 ⟨x,H1,I1,r1,ty,q1⟩=>?_);obtain⟨h1,h2⟩:=KO I1 r1 ty;refine⟨T,id,pa,slot,hty,h1,h2,?_⟩;have hA:=ha cpos pins s1 σ H1 _ I1 q1;rw[hs] at hA ⊢;refine Calls.callWith_builtin (by show(false||(backTo cpos (starEach es X.env)).any (·.1))=false;rw[hplain] <;> rfl) (Calls.evalArgs_plain ?_);exact cS hA fun us s2 ⟨vs,H2,I2,r2,q2⟩=>hm pins s2 σ H2 x vs v us Q I2 r1 r2 q2
end
end L2
namespace L2
open PySem PySem.Spec PyProof.Rows
def OC (X:Cx) (id:String) (r:V->List V->Hp->VK->Prop):Prop:=
 ∀(pins:List (Addr×Obj)) (s:Shared) (σ:St) (H:Hp) (x:V) (xs:List V) (v:Value) (us:List Value) (Q:VK),Inv X pins σ H s->RelV x v->Vals xs us->r x xs H Q->
  wpAny (model X.prog X.w) X.A (call (.builtin id) (v::us)) (EP X pins σ Q) X.xe s
theorem Vals.one:∀{x:V} {us:List Value},Vals [x] us->∃u,us=[u]/\RelV x u
 | _,_,.cons r .nil=>⟨_,rfl,r⟩
theorem Vals.zero:∀{us:List Value},Vals [] us->us=[]
 | _,.nil=>rfl
theorem Vals.reverse (h:Vals xs us):Vals xs.reverse us.reverse:=by
 induction h with
 | nil=>exact .nil
 | cons r t ih=>rw[List.reverse_cons,List.reverse_cons];exact Vals.append ih (.cons r .nil)
section
variable {X:Cx} {pins:List (Addr×Obj)} {σ:St} {H:Hp} {s:Shared} {l b:Addr} {xs ys zs:List V}
theorem Inv.NF {its its':List Value} {n:Nat} {f:Array Value->Array Value} {t':Nat} (I:Inv X pins σ H s) (hH:H l=some (.lst xs))
  (e:s.heap.get? l=some {cls:=.type "list",data:=.seq its.toArray n}) (hf:f its.toArray=its'.toArray) (hv:Vals ys its') (hz:ys.length<=sizeLine) :
  Inv X pins σ (upd H l (.lst ys)) {s with heap:=s.heap.update l (Obj.mapSeq f),toks:=t'}:=by
 have q:=PySem.IsL.update e f;rw[hf] at q;refine I.write (x:=l) (e:=l) (by rw[hH];exact trivial) (.inl rfl) (fun b' u hb hu=>(yy s.heap (Obj.mapSeq f) (Ne.symm hb)).trans hu) ⟨_,q⟩ ?_;exact⟨hz,its',_,hv,q⟩
theorem Inv.QP (I:Inv X pins σ H s) (hv:Vals ys its) (hz:ys.length<=sizeLine) :
  Inv X pins σ (upd H s.heap.objs.size (.lst ys)) {s with heap:=s.heap.push {cls:=.type "list",data:=.seq its.toArray},toks:=t'}:=
 I.laid (fun _ _ q=>yu _ q) (zk _) ⟨hz,its,0,hv,yw _ rfl⟩
theorem Inv.fresh (I:Inv X pins σ H s):H s.heap.objs.size=none:=I.bZ.fresh (zk _)
theorem Inv.LW (I:Inv X pins σ H s) (hH:H l=some (.lst xs)):xs.length<=sizeLine/\∃(its:List Value) (n:Nat),Vals xs its/\xs.length=its.length/\s.heap.get? l=some {cls:=.type "list",data:=.seq its.toArray n}:=by
 obtain⟨z,its,n,r,e⟩:=I.bZ l _ hH;exact⟨z,its,n,r,r.length,e⟩
theorem Fj (h:n<=sizeLine):Builtin.List.listTooLong n=false:=by
 unfold Builtin.List.listTooLong;exact zd nofun
end
section
variable {X:Cx}
def Nj:V->List V->Hp->VK->Prop:=fun x vs H Q=>∃l xs y,x=.ref l/\vs=[y]/\H l=some (.lst xs)/\xs.length<sizeLine/\Q .bE (upd H l (.lst (xs++[y])))
theorem bM:OC X "list.append" Nj:=by
 intro pins s σ H x vs v us Q I rx rv h;obtain⟨l,xs,y,rfl,rfl,hH,hz,q⟩:=h;cases rx;obtain⟨u,rfl,ru⟩:=rv.one;obtain⟨z,its,n,r,hl,e⟩:=I.LW hH;refine call_meets F.slot_list_append ⟨_,e,rfl⟩ F.entry_list_append (F.args_list_append_2 _ _) (PySem.list_append l its.toArray n u (by rw[ya];omega)) ⟨e,?_⟩;refine⟨.bE,_,I.NF (its':=its++[u]) hH e (by simp) (r.append (.cons ru .nil)) ?_,rfl,q⟩;rw[zg,List.length_singleton];omega
def IB:V->List V->Hp->VK->Prop:=fun x vs H Q=>∃l b xs zs,x=.ref l/\vs=[.ref b]/\H l=some (.lst xs)/\H b=some (.lst zs)/\xs.length+zs.length<=sizeLine/\Q .bE (upd H l (.lst (xs++zs)))
theorem JK:OC X "list.extend" IB:=by
 intro pins s σ H x vs v us Q I rx rv h;obtain⟨l,b,xs,zs,rfl,rfl,hH,hB,hz,q⟩:=h;cases rx;obtain⟨u,rfl,ru⟩:=rv.one;cases ru;obtain⟨z,its,n,r,hl,e⟩:=I.LW hH;obtain⟨z2,its2,n2,r2,hl2,e2⟩:=I.LW hB;have hsz:its.toArray.size+its2.toArray.size<=sizeLine:=by rw[ya,ya];omega
 have hlong:¬(!its.toArray.isEmpty&&Builtin.List.listTooLong (its.toArray.size+its2.toArray.size))=true:=by
  rw[Fj hsz,Bool.and_false];exact zK
 refine call_meets F.slot_list_extend ⟨_,e,rfl⟩ F.entry_list_extend (F.args_list_extend_2 _ _)
  (AutoSeq1.list_extend_list_list_0 l its.toArray n b its2.toArray n2 hlong (by rw[ya];omega) nofun) ⟨e,e2,?_⟩
 refine⟨.bE,_,I.NF (its':=its++its2) hH e (by simp) (r.append r2) ?_,rfl,q⟩;rw[zg];omega
def Lv:V->List V->Hp->VK->Prop:=fun x vs H Q=>∃l xs,x=.ref l/\vs=[]/\H l=some (.lst xs)/\Q .bE (upd H l (.lst xs.reverse))
theorem G7:OC X "list.reverse" Lv:=by
 intro pins s σ H x vs v us Q I rx rv h;obtain⟨l,xs,rfl,rfl,hH,q⟩:=h;cases rx;have hus:=rv.zero;subst hus;obtain⟨z,its,n,r,hl,e⟩:=I.LW hH;refine call_meets F.slot_list_reverse ⟨_,e,rfl⟩ F.entry_list_reverse (F.args_list_reverse_1 _) (AutoSeq1.list_reverse_list_0 l its.toArray n (by rw[ya];omega)) ⟨e,?_⟩;refine⟨.bE,_,I.NF (its':=its.reverse) hH e (by simp) r.reverse ?_,rfl,q⟩;rw[List.length_reverse];omega
end
section
variable {prog:Program} {w:World} {A:Around} {E:Value->Shared->Prop} {s:Shared}
end
section
variable {X:Cx}
end
end L2
namespace SV
open PySem PySem.W PySem.Calls PyProof.Rows
theorem vW:∀(ns:List Int) (vs:List Value),WellAll P h vs (ns.map WData.int)->IntsAre vs ns:=by
 intro ns
 induction ns with
 | nil=>
  intro vs w;rw[ym] at w;cases w;exact .nil
 | cons n ns ih=>
  intro vs w;rw[zh] at w;cases w with
  | cons a b=>
   cases a;exact .cons _ _ (ih _ b)
theorem Jv {l:OpenLaw} {n:Nat} (hn:l.most=some n) {P:Params} {h:Heap} {args:List WData} {vals:List Value}
  (hpre:l.row.toRowW.claim.pre args=true) (hwl:WellAll P h vals args) :
  ∃a vs ns,vals=[Value.ref a]/\args=[WData.list (ns.map WData.int)]/\h.get? a=some {cls:=.type "list",data:=.seq vs.toArray}/\IntsAre vs ns/\ns.length<=n:=by
 have hsh:WShape.hasAll [] args [.list .int]=true:=(pre_splitW hpre).1;have hc:l.pre.holds [] {args:=args}=true:=(pre_splitW hpre).2;obtain⟨d,r,rfl,h1,h2⟩:=hasAllW_cons hsh;obtain rfl:=hasAllW_nil h2;obtain⟨xs,rfl,h3⟩:=hasW_list h1;obtain⟨ns,rfl⟩:=items_int h3;have hlen:ns.length<=n:=by
  unfold OpenLaw.pre at hc;have h4:(WTm.not (.lt (.lit (.int (n:Int))) (.len (.arg 0)))).holds [] {args:=[.list (ns.map .int)]}=true:=by
   have h4:=(holds_andW hc).1;rw[hn] at h4;exact h4
  have h5:=condW_of h4 (w_not (w_lt w_lit (w_len_list (w_arg rfl))));rw[za] at h5;refine Nat.le_of_not_lt fun q=>?_;have q':(n:Int)<((ns.length:Nat):Int):=nofun
  first
   | (rw[ze q'] at h5;exact absurd h5 (by decide))
   | (simp at h5;omega)
 cases hwl with
 | cons w1 w2=>
  cases w2;cases w1 with
  | list ho hall=>exact⟨_,_,ns,rfl,rfl,ho,vW ns _ hall,hlen⟩
theorem JD (l:OpenLaw) (args:List WData):l.row.toRowW.claim.post args (.bool true) args=true:=
 postW_of (r:=l.row.toRowW) (X:=(true == true))
  (show WShape.has [] (.bool true) .bool=true by first | rfl | decide | simp[WShape.has,WShape.arms,WShape.armsAll])
  (show(WTm.eq .res (.lit (.bool true))).value [] {args:=args,res:=some (.bool true),after:=args}=some (.bool (true == true)) from w_eq_bool (w_res rfl) w_lit) rfl
theorem Gd {l:OpenLaw} {n:Nat} {q:Program} {loose:List Str} {XP:(Str->Option Value)->Heap->Prop} {YP:World->Heap->Prop} {d:DefRec}
  (hn:l.most=some n) (hdf:d.params.defaults=[])
  (call:∀(w:World) (s₀ s₁:Shared) (mg mb:Str->Option Value) (fa:Addr) (o:Obj) (pm cd doc:Value) (a:Addr) (vs:List Value) (ns:List Int),
   Ground q loose [] XP w s₀ mg mb s₁.heap->YP w s₁.heap->
   s₁.heap.get? fa=some o->o.data=.func (docDef d.name d.params d.body d.scope pm cd doc)->s₁.heap.CodeRec cd d.name->mg d.name=some (.ref fa)->
   s₁.heap.get? a=some {cls:=.type "list",data:=.seq vs.toArray}->IntsAre vs ns->ns.length<=n->s₁.gens=#[]->
   codeAny (model l.prog w) callerA (.call (.ref fa) ⟨[.ref a],[]⟩) (fun r s'=>r=.ok (.ret (.bool true))/\OldK s₁.heap s'.heap/\s'.os=s₁.os/\AllBare s'.gens) s₁) :
  WalkO q loose XP YP l.row.toRowW d [] (fun f vs=>PySem.call f vs):=by
 intro w s₀ s₁ mg mb G Y fa o pm cd doc dV kV ho hd hcd hD hmg hg args vals as hpre hlay hrd hwl hlo;obtain rfl:dV=.none:=Dflts.none hD hdf;obtain rfl:kV=.none:=Dflts.noKw hD;obtain⟨a,vs,ns,rfl,rfl,hobj,hints,hlen⟩:=Jv hn hpre hwl;refine enter_call (codeAny_mono (call w s₀ s₁ mg mb fa o pm cd doc a vs ns G Y ho (fd_plain hd) hcd hmg hobj hints hlen hg) fun r s' hq=>?_);obtain⟨rfl,h2,h3,h4⟩:=hq;exact⟨.inl ⟨.bool true,.bool true,[],rfl,fun _=>rfl,.bool true,JD l _,fun _=>⟨List.Pairwise.nil,fun _ hm=>(nomatch hm)⟩⟩,h2,h3,h4⟩
section
variable {prog:Program} {w:World} {A:Around} {E:Value->Shared->Prop} {s:Shared} {K:Frag}
end
end SV
namespace L2
open PySem PySem.Spec PyProof.Rows
theorem BB:∀{vs:List Value} {ns:List Int},IntsAre vs ns->Vals (ns.map V.int) vs
 | _,_,.nil=>.nil
 | _,_,.cons n t h=>.cons ⟨t,rfl⟩ (BB h)
def Qa (H:Hp):Prop:=∀b,H b=none\/∃o xs,H b=some (.mW o (.lst xs))
theorem L7 {P:Program} {w:World} {K:yA} {mg mb:Str->Option Value} {CX:Ih} {k:Nat} {fa a:Addr} {fd:FuncData} {x:Str} {sp:Sp} {s₁:Shared} {vs:List Value} {ns:List Int}
  (KX:K.In s₁.heap) (hns:s₁.heap.Ns mainGlobals mg) (hb:s₁.heap.Ns builtinsNs mb) (hbb:∀x:Str,x≠ "__name__"->mb x=bootBuiltins x) (hlim:s₁.heap.NoLimit) (hg:s₁.gens=#[])
  (ha:s₁.heap.get? a=some {cls:=.type "list",data:=.seq vs.toArray}) (hi:IntsAre vs ns) (hl:ns.length<=sizeLine) (hr:gj k callerA)
  (F:∀base:Heap,K.In base->base.Ns mainGlobals mg->dM P w K mg base CX k fa fd [x] sp) (hbind:∀(s:Shared) (u:Value),BindsTo s fd ⟨[u],[]⟩ [(x,u)])
  (hsp:∀H:Hp,Qa H->aL K H a (ns.map V.int)->sp [.ref a] H (fun v _=>v=.bl true) fun _ _ _=>False)
  (hCX:∀H e s',CX [] H s₁ (fun _ _ _=>False) e s'->False) :
  codeAny (model P w) callerA (.call (.ref fa) ⟨[.ref a],[]⟩) (fun r s'=>r=.ok (.ret (.bool true))/\OldK s₁.heap s'.heap/\s'.os=s₁.os/\AllBare s'.gens) s₁:=by
 have rv:=BB hi;have lenV:=hi.length;have core:∀H:Hp,Qa H->aL K H a (ns.map V.int)->qO P w H s₁.heap->(∀b,H b≠none->b=a)->(H a≠none->K.lookup a=none)->
   codeAny (model P w) callerA (.call (.ref fa) ⟨[.ref a],[]⟩) (fun r s'=>r=.ok (.ret (.bool true))/\OldK s₁.heap s'.heap/\s'.os=s₁.os/\AllBare s'.gens) s₁:=by
  intro H hO hS bZ hA hK;have base_of:∀{b:Addr} {o:Obj},s₁.heap.get? b=some o->H b=none->(Di s₁.heap H).get? b=some o:=fun e n=>Mc e n;have noA:∀{b:Addr} {o:Obj} {es:Array DictEntry} {ep:Nat},s₁.heap.get? b=some o->o.data=.dict es ep->H b=none:=fun {b o es ep} e d=>by
   cases q:H b with
   | none=>rfl
   | some u=>
    have e':b=a:=hA b (by rw[q];simp);subst e';rw[ha] at e;cases e;have d':Data.seq vs.toArray _=Data.dict es ep:=d;cases d'
  have nsK:∀{b:Addr} {m:Str->Option Value},s₁.heap.Ns b m->(Di s₁.heap H).Ns b m:=fun {b m} ⟨o,es,ep,e,d,r⟩=>⟨o,es,ep,base_of e (noA e d),d,r⟩
  have hKb:K.In (Di s₁.heap H):=fun b o e=>base_of (KX b o e) (by
   cases q:H b with
   | none=>rfl
   | some u=>
    have e':b=a:=hA b (by rw[q];simp);subst e';rw[hK (by rw[q];simp)] at e;cases e)
  have hM:Mod K mg (Di s₁.heap H):=⟨hKb,nsK hns,⟨mb,nsK hb,hbb⟩,let ⟨mc,h1,h2⟩:=hlim;⟨mc,nsK h1,h2⟩⟩
  have e0:Gu P w K mg (Di s₁.heap H) callerA [] s₁ H:=⟨rfl,hM,fun b o e=>NA e,Nat.le_of_eq (JV _ _),trivial,fun b hb=>absurd (show b∈([]:List Addr) from hb) (by simp),bZ,.of_eq hg⟩
  refine codeAny_mono ((F _ hKb (nsK hns)).run callerA [] s₁ H ⟨[.ref a],[]⟩ [.ref a] [.ref a] _ _ hr e0 (hbind s₁ (.ref a)) (.cons rfl .nil) (hsp H hO hS)) fun r s' h=>?_;cases r with
  | error e=>exact(hCX H e s' h).elim
  | ok fl=>
   cases fl with
   | next=>exact False.elim h
   | brk=>exact False.elim h
   | cont=>exact False.elim h
   | ret u=>
    obtain⟨v,H',os,bare,un,hok',r',q⟩:=h;have q':v=.bl true:=q;subst q';obtain rfl:u=Value.bool true:=r';refine⟨rfl,OldK.of_keep fun b o e=>?_,os,bare⟩;cases q:H b with
    | none=>exact un.keep b o e q (by intro z;exact absurd (show b∈([]:List Addr) from z) (by simp)) (by simp)
    | some u=>
     rcases hO b with z | ⟨ob,xs,z⟩
     ·rw[q] at z;cases z
     ·have z2:=un.mR b ob _ z
      obtain⟨e1,_⟩:=bZ b _ z;obtain⟨e2,_⟩:=hok' b _ z2;rw[e] at e1;cases e1;exact e2
 cases hk:K.lookup a with
 | some o=>
  have e:=KX a o hk;rw[ha] at e;cases e;refine core (fun _=>none) (fun _=>.inl rfl) (.inr ⟨_,vs.toArray,_,hk,rfl,rfl,rfl,by rw[ya,lenV];exact hl,by simpa using rv⟩) (fun b u z=>by have z':(none:Option HO)=some u:=z;cases z') (fun b z=>absurd rfl z) fun z=>absurd rfl z
 | none=>
  refine core (fun b=>if b=a then some (.mW {cls:=.type "list",data:=.seq vs.toArray} (.lst (ns.map V.int))) else none) (fun b=>?_) (.inl (.inr ⟨{cls:=.type "list",data:=.seq vs.toArray},if_pos rfl⟩)) (fun b u z=>?_) (fun b z=>?_) fun _=>hk
  ·by_cases hb:b=a
   ·exact .inr ⟨_,_,if_pos hb⟩
   ·exact .inl (if_neg hb)
  ·by_cases hb:b=a
   ·have z':=(if_pos hb).symm.trans z
    cases z';subst hb;exact⟨ha,by rw[za];exact hl,vs,_,rv,ha⟩
   ·have z':=(if_neg hb).symm.trans z
    cases z'
  ·by_cases hb:b=a
   ·exact hb
   ·exact absurd (if_neg hb) z
end L2
namespace L2
open PySem PySem.Spec PyProof.Rows
theorem MW {l:PySem.W.OpenLaw} {n k:Nat} {q:Program} {loose:List Str} {XP:(Str->Option Value)->Heap->Prop} {YP:World->Heap->Prop} {d:DefRec} {K:Params->yA} {CX:World->Ih} {sp:World->Sp} {x:Str}
  (hn:l.most=some n) (hn2:n<=sizeLine) (hdf:d.params.defaults=[]) (hr:gj k callerA)
  (hY:∀(w:World) (h:Heap),YP w h->(K w.params).In h)
  (F:∀(w:World) (mg:Str->Option Value) (fa:Addr) (h:Heap),(K w.params).In h->h.Ns mainGlobals mg->mg d.name=some (.ref fa)->
   ∃fd:FuncData,(∀(s:Shared) (u:Value),BindsTo s fd ⟨[u],[]⟩ [(x,u)])/\
    ∀base:Heap,(K w.params).In base->base.Ns mainGlobals mg->dM l.prog w (K w.params) mg base (CX w) k fa fd [x] (sp w))
  (hsp:∀(w:World) (H:Hp) (a:Addr) (ns:List Int),ns.length<=n->Qa H->aL (K w.params) H a (ns.map V.int)->sp w [.ref a] H (fun v _=>v=.bl true) fun _ _ _=>False)
  (hCX:∀(w:World) (H:Hp) (s:Shared) (e:Value) (s':Shared),CX w [] H s (fun _ _ _=>False) e s'->False) :
  PySem.W.WalkO q loose XP YP l.row.toRowW d [] (fun f vs=>PySem.call f vs):=by
 refine SV.Gd hn hdf fun w s₀ s₁ mg mb fa o pm cd doc a vs ns G Y ho hd hcd hmg hobj hints hlen hg=>?_;have KX:=hY w _ Y;obtain⟨fd,hb,hF⟩:=F w mg fa _ KX G.T.g hmg;exact L7 KX G.T.g G.T.b G.T.builtins G.T.nolimit hg hobj hints (zL hlen hn2) hr hF hb (fun H hO hS=>hsp w H a ns hlen hO hS) fun H e s'=>hCX w H s₁ e s'
end L2
namespace L2
open PySem PySem.Spec PyProof.Rows
def inClass (s:Stmt) (j:Nat):Stmt:=match s with
 | .ClassDef _ _ _ body _ _ _ _ _ _ _=>body.getD j (.Pass ⟨0,0,0,0⟩)
 | _=>.Pass ⟨0,0,0,0⟩
def cZ (s:Stmt):Arguments:=match s with
 | .FunctionDef _ a _ _ _ _ _ _ _ _=>a
 | _=>{posonlyargs:=[],args:=[],vararg:=none,kwonlyargs:=[],kw_defaults:=[],kwarg:=none,defaults:=[]}
def cC (s:Stmt):List Stmt:=match s with
 | .FunctionDef _ _ b _ _ _ _ _ _ _=>b
 | _=>[]
def ao (s:Stmt):Scope:=match s with
 | .FunctionDef _ _ _ _ _ _ sc _ _ _=>sc
 | _=>{kind:=.function,names:=[],isGenerator:=false,isCoroutine:=false}
abbrev Ii:Ih:=fun _ _ _ _ _ _=>False
abbrev E0:XK:=fun _ _ _=>False
theorem IC:Passes Ii X E0:=fun _ _ _ _ _ _ _ h=>h.elim
structure MM (K:yA) (x qual:Str) (st:Stmt) (f:Addr) (fd:FuncData):Prop where
 ex:∃(oc:Value) (od:Option Addr) (kV doc pm:Value) (an:Option Addr) (cdv ct:Value) (osl:Array (Option Value)),
  fd=PySem.W.fnOf x qual (cZ st) (cC st) (ao st) .none kV doc pm an cdv ct/\K.lookup f=some ⟨oc,od,.func fd,osl⟩/\PySem.W.codeIn K cdv qual=true
 kp:PySem.W.keepIn K (.ref f)=true
section
variable {P:Program} {w:World} {K:yA} {mg:Str->Option Value} {base:Heap}
theorem MM.ok {x qual:Str} {st:Stmt} {f:Addr} {fd:FuncData} {N ps:List Str} {k:Nat} {sp:Sp} (F:MM K x qual st f fd) (S:aD N ps (ao st)) (len:∀vs H Q E,sp vs H Q E->vs.length=ps.length)
  (hbody:∀(cdv:Value) (A:Around) (outer:List Env) (s:Shared) (H:Hp) (vs:List V) (Q:VK) (E:XK),gj k (A.deeper (envOfC qual (ao st) s.heap.objs.size f cdv))->sp vs H Q E->
   ∃t,Eb (kR Ii P w K mg base N qual (ao st) f cdv A outer s H E).IE (cC st) t/\t {nx:=fun _ H'=>Q .bE H',rt:=Q} (start N vs) H):dM P w K mg base Ii (k+1) f fd ps sp:=by
 obtain⟨oc,od,kV,doc,pm,an,cdv,ct,osl,rfl,lk,hcd⟩:=F.ex;refine Ox lk hcd S len fun A outer s H vs Q E hr hsp=>?_;obtain⟨t,h,q⟩:=hbody cdv A outer s H vs Q E hr hsp;exact⟨t,h.IE,q⟩
theorem MM.binds {x qual:Str} {st:Stmt} {f:Addr} {fd:FuncData} {ps:List Str} (F:MM K x qual st f fd)
  (h:∀(kV doc pm:Value) (an:Option Addr) (cdv ct:Value) (us:List Value),us.length=ps.length->bindArgs (PySem.W.fnOf x qual (cZ st) (cC st) (ao st) .none kV doc pm an cdv ct) ⟨us,[]⟩=pure (ps.zip us)):Binds K fd ps []:=by
 obtain⟨oc,od,kV,doc,pm,an,cdv,ct,osl,rfl,lk,hcd⟩:=F.ex;exact .all (h kV doc pm an cdv ct)
theorem km {x qual:Str} {st:Stmt} {f:Addr} {oc:Value} {od an:Option Addr} {osl:Array (Option Value)} {kV doc pm cdv ct:Value} (l:K.lookup f=some ⟨oc,od,.func (PySem.W.fnOf x qual (cZ st) (cC st) (ao st) .none kV doc pm an cdv ct),osl⟩)
  (c:PySem.W.codeIn K cdv qual=true) (k:PySem.W.keepIn K (.ref f)=true):MM K x qual st f (PySem.W.fnOf x qual (cZ st) (cC st) (ao st) .none kV doc pm an cdv ct):=⟨⟨oc,od,kV,doc,pm,an,cdv,ct,osl,rfl,l,c⟩,k⟩
end
theorem mK (hr:gj k A):A.units+1<cLine:=Nat.lt_of_le_of_lt (Nat.add_le_add_left (by decide:1<=64) _) hr.units
section
variable {X:Cx}
theorem pv (i:Nat) (hN:autoParam (X.N[i]?=some x) qe_) (hv:autoParam (P8 X.env.scope x) qg_) (hd:autoParam ((x == ("__debug__": Str))=false) qb_)
  (hcd:autoParam ((x == ("__classdict__": Str))=false) qb_):PE X (.Name x pos) (bj i):=Pj hN hv hd hcd
end
theorem QS {A B:Prop} (h:B):if false=true then A else B:=by
 rw[if_neg zK];exact h
theorem Sm {A B:Prop} (h:A):if true=true then A else B:=by
 rw[if_pos rfl];exact h
theorem vV {c A B:Prop} [Decidable c] (h1:c->A) (h2:¬c->B):if c then A else B:=by
 by_cases h:c
 ·rw[if_pos h]
  exact h1 h
 ·rw[if_neg h]
  exact h2 h
theorem Oq {c A B:Prop} [Decidable c] (hc:c) (h:B):if(!decide c)=true then A else B:=by
 rw[ze hc];exact QS h
def au (H H':Hp):Prop:=∀b o,H b=some o->H' b=some o
theorem au.refl (H:Hp):au H H:=fun _ _ h=>h
theorem au.trans (a:au H H1) (b:au H1 H2):au H H2:=fun c o h=>b c o (a c o h)
theorem au.seq {K:yA} {H H':Hp} {a:Addr} {xs:List V} (e:au H H') (h:aL K H a xs):aL K H' a xs:=by
 rcases h with(h | ⟨o,h⟩) | h
 ·exact .inl (.inl (e _ _ h))
 ·exact .inl (.inr ⟨o,e _ _ h⟩)
 ·exact .inr h
end L2
namespace Lm
def red (t b:Int):Int×Int:=(t/(Int.gcd t b:Int),b/(Int.gcd t b:Int))
theorem wM {t b:Int} (hb:0<b):0<(Int.gcd t b:Int):=by
 have:0<Int.gcd t b:=Int.gcd_pos_of_ne_zero_right t nofun;omega
theorem rM {t b k:Int} (hk:0<k) (hb:0<b):red (k*t) (k*b)=red t b:=by
 have g0:=wM (t:=t) hb;have e:(Int.gcd (k*t) (k*b):Int)=k*(Int.gcd t b:Int):=by
  rw[Int.gcd_mul_left];simp only[Int.natCast_mul];rw[Int.natAbs_of_nonneg nofun]
 unfold red;rw[e,Int.mul_ediv_mul_of_pos _ _ hk,Int.mul_ediv_mul_of_pos _ _ hk]
theorem lB {t b:Int} (hb:0<b):∃g,0<g/\t=g*(red t b).1/\b=g*(red t b).2/\0<(red t b).2/\(red t b).2<=b:=by
 have g0:=wM (t:=t) hb;have d1:(Int.gcd t b:Int) ∣ t:=Int.gcd_dvd_left ..;have d2:(Int.gcd t b:Int) ∣ b:=Int.gcd_dvd_right ..;have e1:(Int.gcd t b:Int)*(t/(Int.gcd t b:Int))=t:=Int.mul_ediv_cancel' d1;have e2:(Int.gcd t b:Int)*(b/(Int.gcd t b:Int))=b:=Int.mul_ediv_cancel' d2;refine⟨_,g0,e1.symm,e2.symm,?_,?_⟩
 ·exact Int.ediv_pos_of_pos_of_dvd hb nofun d2
 ·exact zW _ nofun
theorem xM {t b:Int} (ht:0<=t):0<=(red t b).1:=zV ht (Int.natCast_nonneg _)
theorem xN {t b:Int} (ht:0<=t):(red t b).1<=t:=zW _ ht
theorem Nf {t b:Int} (hb:0<b):red (red t b).1 (red t b).2=red t b:=by
 obtain⟨g,g0,e1,e2,p,_⟩:=lB (t:=t) hb;have h:=rM (t:=(red t b).1) (b:=(red t b).2) g0 p;rw[<-e1,<-e2] at h;exact h.symm
def add (x y:Int×Int):Int×Int:=red (x.1*y.2+y.1*x.2) (x.2*y.2)
theorem NZ {t b s c:Int} (hb:0<b) (hc:0<c):add (red t b) (red s c)=red (t*c+s*b) (b*c):=by
 obtain⟨g,g0,e1,e2,p,_⟩:=lB (t:=t) hb;obtain⟨k,k0,f1,f2,q,_⟩:=lB (t:=s) hc;unfold add;generalize hx:red t b=x at *;generalize hy:red s c=y at *;have h:=rM (t:=x.1*y.2+y.1*x.2) (b:=x.2*y.2) (Int.mul_pos g0 k0) (Int.mul_pos p q);rw[<-h]
 congr 1
 ·rw[e1,e2,f1,f2,Int.mul_add]
  congr 1 <;> simp only[Int.mul_assoc,Int.mul_left_comm,Int.mul_comm]
 ·rw[e2,f2];simp only[Int.mul_assoc,Int.mul_left_comm,Int.mul_comm]
end Lm
namespace Lm
def Rd (x:Int×Int):Prop:=∃t b,0<=t/\0<b/\x=red t b
theorem Rd.of {t b:Int} (ht:0<=t) (hb:0<b):Rd (red t b):=⟨t,b,ht,hb,rfl⟩
theorem Rd.pos {x:Int×Int} (h:Rd x):0<=x.1/\0<x.2/\red x.1 x.2=x:=by
 obtain⟨t,b,ht,hb,rfl⟩:=h;obtain⟨g,g0,e1,e2,p,_⟩:=lB (t:=t) hb;exact⟨xM ht,p,Nf hb⟩
theorem Rd.zero:Rd (0,1):=⟨0,1,by decide,by decide,by decide⟩
theorem Rd.add {x y:Int×Int} (h:Rd x) (k:Rd y):Rd (add x y):=by
 obtain⟨a,b,_⟩:=h.pos;obtain⟨c,d,_⟩:=k.pos;refine⟨_,_,?_,Int.mul_pos b d,rfl⟩;exact Int.add_nonneg (Int.mul_nonneg a nofun) (Int.mul_nonneg c nofun)
theorem Fz {x y:Int} (hx:0<=x) (hy:0<y):Int.gcd y (x%y)=Int.gcd x y:=by
 have e:(x%y).natAbs=x.natAbs%y.natAbs:=by
  obtain⟨a,rfl⟩:=Int.eq_ofNat_of_zero_le hx;obtain⟨b,rfl⟩:=Int.eq_ofNat_of_zero_le (Int.le_of_lt hy);rfl
 show Nat.gcd y.natAbs (x%y).natAbs=Nat.gcd x.natAbs y.natAbs;rw[e,Nat.gcd_comm x.natAbs,Nat.gcd_rec y.natAbs x.natAbs,Nat.gcd_comm]
theorem Mf {t b:Int} (hb:0<b):(Int.gcd t b:Int)<=b:=by
 have h:Int.gcd t b<=b.natAbs:=Nat.gcd_le_right _ nofun;omega
end Lm
namespace Lm
end Lm
namespace Lm
theorem IV {c:Nat}:∀{p q A B:List Nat},c∉p->c∉q->p++c::A=q++c::B->p=q/\A=B
 | [],[],A,B,_,_,h=>⟨rfl,by simpa using h⟩
 | [],y::q,A,B,_,hq,h=>by
  simp at h;exact absurd (by rw[h.1];exact zp) hq
 | x::p,[],A,B,hp,_,h=>by
  simp at h;exact absurd (by rw[<-h.1];exact zp) hp
 | x::p,y::q,A,B,hp,hq,h=>by
  simp only[List.cons_append,List.cons.injEq] at h;obtain⟨e,h⟩:=h;obtain⟨e1,e2⟩:=IV (fun z=>hp (zm _ z)) (fun z=>hq (zm _ z)) h;exact⟨by rw[e,e1],e2⟩
theorem Md:∀(n:Nat),0<n->∃c r,Nat.toDigits 10 n=c::r/\c≠'0':=by
 intro n
 induction n using Nat.strongRecOn with
 | _ n ih=>
  intro hn
  by_cases h:n<10
  ·rw[Nat.toDigits_of_lt_base h]
   refine⟨_,[],rfl,?_⟩
   match n,h,hn with
   | 1,_,_=>decide
   | 2,_,_=>decide
   | 3,_,_=>decide
   | 4,_,_=>decide
   | 5,_,_=>decide
   | 6,_,_=>decide
   | 7,_,_=>decide
   | 8,_,_=>decide
   | 9,_,_=>decide
  ·have hd:n%10<10:=Nat.mod_lt _ (by decide)
   obtain⟨c,r,e,hc⟩:=ih (n/10) nofun nofun;have t:=Nat.toDigits_append_toDigits (b:=10) (n:=n/10) (d:=n%10) (by decide) nofun hd;rw[Nat.div_add_mod,e] at t;exact⟨c,r++Nat.toDigits 10 (n%10),by rw[<-t];rfl,hc⟩
theorem Pz {n k:Nat} (hk:0<k):n<10^k->(Nat.toDigits 10 n).length<=k:=by
 intro h
 induction k generalizing n with
 | zero=>omega
 | succ k ih=>
  by_cases h10:n<10
  ·rw[Nat.toDigits_of_lt_base h10];simp
  ·have hd:n%10<10:=Nat.mod_lt _ (by decide)
   have hk0:0<k:=by
    rcases Nat.eq_zero_or_pos k with rfl | z
    ·simp at h;omega
    ·exact z
   have:=ih hk0 (n:=n/10) (by rw[Nat.div_lt_iff_lt_mul (by decide)];rw[Nat.pow_succ] at h;exact h);have t:=Nat.toDigits_append_toDigits (b:=10) (n:=n/10) (d:=n%10) (by decide) nofun hd;rw[Nat.div_add_mod] at t;rw[<-t,zg,Nat.toDigits_of_lt_base hd];simp;omega
end Lm
namespace L2
open PySem
def fm (t:Bool) (h:Heap) (a:Addr) (items:Array Value):Prop:=match t with
 | true=>h.IsTuple a items
 | false=>h.IsList a items
def dr (t:Bool) (h:Heap) (it a:Addr) (k:Nat):Prop:=match t with
 | true=>h.IsTupleIter it a k
 | false=>h.IsListIter it a k
def sA (t:Bool) (a:Addr):Obj:=match t with
 | true=>{cls:=.type "tuple_iterator",data:=.fields #[.ref a,.int 0 0]}
 | false=>{cls:=.type "list_iterator",data:=.fields #[.ref a,.int 0 0]}
theorem fm.at {t:Bool} {h h':Heap} {a:Addr} {items:Array Value} (x:fm t h a items) (e:∀o,h.get? a=some o->h'.get? a=some o):fm t h' a items:=by
 cases t
 ·exact Heap.IsList.at x e
 ·obtain⟨o,ho,r⟩:=x;exact⟨o,e o ho,r⟩
theorem dr.at {t:Bool} {h h':Heap} {it a:Addr} {k:Nat} (x:dr t h it a k) (e:∀o,h.get? it=some o->h'.get? it=some o):dr t h' it a k:=by
 cases t
 ·exact Heap.IsListIter.at x e
 ·exact Heap.IsTupleIter.at x e
theorem fm.but {t:Bool} {h h':Heap} {a b:Addr} {items:Array Value} (x:fm t h a items) (hs:Heap.SameBut b h h') (n:a≠b):fm t h' a items:=x.at fun o e=>hs.extBut a o n e
theorem dr.but {t:Bool} {h h':Heap} {it a b:Addr} {k:Nat} (x:dr t h it a k) (hs:Heap.SameBut b h h') (n:it≠b):dr t h' it a k:=x.at fun o e=>hs.extBut it o n e
theorem dr.get {t:Bool} {h:Heap} {it a:Addr} {k:Nat} (x:dr t h it a k):∃o,h.get? it=some o/\∀v,o.data≠.cell v:=by
 cases t
 ·obtain⟨o,e,_,d⟩:=x;exact⟨o,e,fun v z=>by rw[d] at z;cases z⟩
 ·obtain⟨o,e,_,d⟩:=x;exact⟨o,e,fun v z=>by rw[d] at z;cases z⟩
theorem dr.new (t:Bool) (h:Heap) (a:Addr):dr t (h.push (sA t a)) h.objs.size a 0:=by
 cases t
 ·exact⟨_,yw _ rfl,rfl,rfl⟩
 ·exact⟨_,yw _ rfl,rfl,rfl⟩
section
variable {prog:Program} {w:World} {A:Around} {E:Value->Shared->Prop} {s:Shared}
theorem Iv {t:Bool} {a:Addr} {items:Array Value} {Q:Value->Shared->Prop} (hl:fm t s.heap a items) (hQ:Q (.ref s.heap.objs.size) {s with heap:=s.heap.push (sA t a)}) :
  wpAny (model prog w) A (pyIter (.ref a)) Q E s:=by
 cases t
 ·exact wpAny_pyIter_list hl hQ
 ·exact wpAny_pyIter_tuple hl hQ
theorem qU {t:Bool} {it a:Addr} {i:Nat} {items:Array Value} {x:Value} {Q:Value->Shared->Prop} (hit:dr t s.heap it a i) (hl:fm t s.heap a items) (hx:items[i]?=some x)
  (hQ:∀h',dr t h' it a (i+1)->Heap.SameBut it s.heap h'->Q x {s with heap:=h'}):wpAny (model prog w) A (Builtin.SmallTypes.nextOf (.ref it)) Q E s:=by
 cases t
 ·exact wpAny_nextOf_list_item hit hl hx hQ
 ·have hit':s.heap.IsTupleIter it a i:=hit
  obtain⟨o,ho,hc,hd⟩:=id hit';obtain⟨ol,hol,_,nl,hdl⟩:=(show s.heap.IsTuple a items from hl)
  unfold Builtin.SmallTypes.nextOf;refine yt (wpAny_callSpecial?_slot (name:=Str.ofString "__next__") hit'.typeIs F.slot_tuple_iterator_next (wpAny_call_entry F.slot_tuple_iterator_next hit'.typeIs F.entry_tuple_iterator_next ?_ (F.args_tuple_iterator_next_1 _)));show wpAny _ _ (field (.ref it) 0 >>= _) _ _ s;refine yt (wpAny_field ho hd (x:=.ref a) rfl ?_);show wpAny _ _ (if(Value.ref a == Value.none)=true then _ else _) _ _ s;rw[if_neg (show¬((Value.ref a == Value.none)=true) from zK)];show wpAny _ _ (field (.ref it) 1 >>= _) _ _ s;refine yt (wpAny_field ho hd (x:=.int i 0) rfl ?_);show wpAny _ _ (seqItems? (.ref a) >>= _) _ _ s;refine yt (wpAny_seqItems hol hdl ?_);simp only[Int.toNat_natCast,hx];refine yt (wpAny_setField ho hd (by simp) (yv ⟨x,rfl,yv (hQ _ ?_ (Heap.SameBut.update ..))⟩));exact⟨_,yz _ ho (Obj.isFreed_of_fields (Obj.data_mapFields hd _)),(Obj.cls_mapFields ..).trans hc,by rw[Obj.data_mapFields hd];simp[rawInt]⟩
theorem Cu {t:Bool} {it a:Addr} {i:Nat} {items:Array Value} {Q:Value->Shared->Prop} (hh:A.handled=none) (hit:dr t s.heap it a i) (hl:fm t s.heap a items) (hx:items[i]?=none)
  (hE:∀h' e,Heap.ExtBut it s.heap h'->(∃o,h'.get? e=some o/\o.cls=.type "StopIteration")->E (.ref e) {s with heap:=h'}):wpAny (model prog w) A (Builtin.SmallTypes.nextOf (.ref it)) Q E s:=by
 cases t
 ·exact wpAny_nextOf_list_end hh hit hl hx hE
 ·have hit':s.heap.IsTupleIter it a i:=hit
  obtain⟨o,ho,hc,hd⟩:=id hit';obtain⟨ol,hol,_,nl,hdl⟩:=(show s.heap.IsTuple a items from hl)
  unfold Builtin.SmallTypes.nextOf;refine yt (wpAny_callSpecial?_slot (name:=Str.ofString "__next__") hit'.typeIs F.slot_tuple_iterator_next (wpAny_call_entry F.slot_tuple_iterator_next hit'.typeIs F.entry_tuple_iterator_next ?_ (F.args_tuple_iterator_next_1 _)));show wpAny _ _ (field (.ref it) 0 >>= _) _ _ s;refine yt (wpAny_field ho hd (x:=.ref a) rfl ?_);show wpAny _ _ (if(Value.ref a == Value.none)=true then _ else _) _ _ s;rw[if_neg (show¬((Value.ref a == Value.none)=true) from zK)];show wpAny _ _ (field (.ref it) 1 >>= _) _ _ s;refine yt (wpAny_field ho hd (x:=.int i 0) rfl ?_);show wpAny _ _ (seqItems? (.ref a) >>= _) _ _ s;refine yt (wpAny_seqItems hol hdl ?_);simp only[Int.toNat_natCast,hx];refine yt (wpAny_rule (yt (wpAny_setField ho hd (by simp) ?_)));show wpAny _ _ (newExc (.type "StopIteration") [] >>= _) _ _ _;refine yt ?_;simp only[newExc,newTuple];refine yt (wpAny_newObj_type ?_ (by size_fits));refine yt (m:=firstArgMember _ _) (wpAny_of_eq (a:=Value.none) (by first | rfl | (simp only[firstArgMember];rfl)) (wpAny_newObj_type ?_ (by size_fits)));simp only[raiseNew];refine yt (wpAny_handled ?_)
  first | rw[show A.in1.handled=none from hh] | rw[hh]
  exact yt (yv (wpAny_throw (hE _ _ (((Heap.SameBut.update ..).extBut.push _).push _) ⟨_,yw _ rfl,rfl⟩)))
structure Kn (z TI TO i1 i2:Addr):Prop where
 a1:TI≠z
 a2:TO≠z
 a3:i1≠z
 a4:i2≠z
 a5:TI≠TO
 a6:TI≠i1
 a7:TI≠i2
 a8:TO≠i1
 a9:TO≠i2
 b1:i1≠i2
structure AD (l z TO i1 i2:Addr):Prop where
 a1:l≠z
 a2:l≠TO
 a3:l≠i1
 a4:l≠i2
def sV (z TO i1 i2:Addr) (h h':Heap):Prop:=∀c o,c≠z->c≠TO->c≠i1->c≠i2->h.get? c=some o->h'.get? c=some o
structure MS (t1 t2:Bool) (h:Heap) (z TI TO i1 i2 l1 l2:Addr) (k:Nat) (f0:Value):Prop where
 z:IsZip h z TI TO f0
 ti:IsPair h TI (.ref i1) (.ref i2)
 to:∃a b,IsPair h TO a b
 i1:dr t1 h i1 l1 k
 i2:dr t2 h i2 l2 k
theorem KG {t1 t2:Bool} {z TI TO i1 i2 l1 l2:Addr} {k:Nat} {xs ys:Array Value} {x y:Value} {Q:Value->Shared->Prop} (D:Kn z TI TO i1 i2) (L1:AD l1 z TO i1 i2) (L2:AD l2 z TO i1 i2)
  (S:MS t1 t2 s.heap z TI TO i1 i2 l1 l2 k .none) (hl1:fm t1 s.heap l1 xs) (hl2:fm t2 s.heap l2 ys) (hx:xs[k]?=some x) (hy:ys[k]?=some y)
  (hQ:∀h',MS t1 t2 h' z TI TO i1 i2 l1 l2 (k+1) (rawInt s.heap.objs.size)->IsPair h' s.heap.objs.size x y->sV z TO i1 i2 s.heap h'->Q (.ref s.heap.objs.size) {s with heap:=h'}) :
  wpAny (model prog w) A (Builtin.«zip.__next__» ⟨[.ref z],[]⟩) (fun fin s'=>∃v,fin=.done (.ret v)/\Q v s') E s:=by
 obtain⟨hz,hTI,⟨a,b,hTO⟩,h1,h2⟩:=S;show wpAny _ _ (field (.ref z) 2 >>= _) _ _ _;refine yt (wpAny_field hz rfl (x:=.bool false) rfl ?_);show wpAny _ _ (field (.ref z) 3 >>= _) _ _ _;refine yt (wpAny_field hz rfl (x:=.ref TI) rfl (yt (wpAny_seqItems hTI rfl ?_)));show wpAny _ _ (Builtin.SmallTypes.ownedTupleIsFree (.ref z) >>= _) _ _ _;refine yt ?_;unfold Builtin.SmallTypes.ownedTupleIsFree;refine yt (wpAny_field hz rfl (x:=.none) rfl (yv ?_));simp only[if_true];refine yt (wpAny_rule (yt (wpAny_field hz rfl (x:=.ref TO) rfl (yt (wpAny_setField_rec hz (by simp) fun g1 z1 q1=>?_)))));replace z1:IsZip g1 z TI TO .ellipsis:=z1;refine yt ?_;simp only[List.zipIdx_cons,List.zipIdx_nil,List.forIn_cons,List.forIn_nil];refine yt (yt (wpAny_onRaise ?_));show wpAny _ _ (Builtin.SmallTypes.nextOf (.ref i1) >>= _) _ _ _;refine yt (qU (h1.but q1 D.a3) (hl1.but q1 L1.a1) hx fun g2 p2 q2=>yv ?_);have o2:IsPair g2 TO a b:=q2.extBut _ _ D.a8 (q1.extBut _ _ D.a2 hTO);refine yt (wpAny_seqItems o2 rfl (yt (wpAny_updateSeq_pair o2 fun g3 o3 q3=>yt (wpAny_letGo (yv (yt (yt (wpAny_onRaise ?_))))))));replace o3:IsPair g3 TO x b:=o3;show wpAny _ _ (Builtin.SmallTypes.nextOf (.ref i2) >>= _) _ _ _;refine yt (qU (((h2.but q1 D.a4).but q2 D.b1.symm).but q3 D.a9.symm) (((hl2.but q1 L2.a1).but q2 L2.a3).but q3 L2.a2) hy fun g4 p4 q4=>yv ?_);have o4:IsPair g4 TO x b:=q4.extBut _ _ D.a9 o3;refine yt (wpAny_seqItems o4 rfl (yt (wpAny_updateSeq_pair o4 fun g5 o5 q5=>yt (wpAny_letGo (yv (yv ?_))))));replace o5:IsPair g5 TO x y:=o5;refine yt (wpAny_seqItems o5 rfl (yt (wpAny_newTuple ?_)));have sz:g5.objs.size=s.heap.objs.size:=by rw[q5.1,q4.1,q3.1,q2.1,q1.1]
 have z5:IsZip g5 z TI TO .ellipsis:=q5.extBut _ _ D.a2.symm (q4.extBut _ _ D.a4.symm (q3.extBut _ _ D.a2.symm (q2.extBut _ _ D.a3.symm z1)));have k5:sV z TO i1 i2 s.heap g5:=fun c o c1 c2 c3 c4 e=>q5.extBut _ _ c2 (q4.extBut _ _ c4 (q3.extBut _ _ c2 (q2.extBut _ _ c3 (q1.extBut _ _ c1 e))));have r1:dr t1 g5 i1 l1 (k+1):=((p2.but q3 D.a8.symm).but q4 D.b1).but q5 D.a8.symm;have r2:dr t2 g5 i2 l2 (k+1):=p4.but q5 D.a9.symm;have zl:z<g5.objs.size:=yx z5;show wpAny _ _ (Builtin.SmallTypes.ownedTupleHandOut (.ref z) (.ref g5.objs.size) >>= _) _ _ _;refine yt ?_;unfold Builtin.SmallTypes.ownedTupleHandOut;have z6:IsZip (g5.push {cls:=.type "tuple",data:=.seq #[x,y]}) z TI TO .ellipsis:=yu _ z5;refine yt (wpAny_setField_rec z6 (by simp) fun g7 z7 q7=>?_);replace z7:IsZip g7 z TI TO (rawInt g5.objs.size):=z7;refine wpAny_setField_rec z7 (by simp) fun g8 z8 q8=>?_;replace z8:IsZip g8 z TI TO (rawInt g5.objs.size):=z8;have up:∀c o,c≠z->g5.get? c=some o->g8.get? c=some o:=fun c o c1 e=>q8.extBut _ _ c1 (q7.extBut _ _ c1 (yu _ e));have t8:IsPair g8 g5.objs.size x y:=q8.extBut _ _ (yh zl) (q7.extBut _ _ (yh zl) (yw _ rfl));rw[sz] at z8 t8;refine yv ⟨_,rfl,?_⟩;show Q (.ref g5.objs.size) _;rw[sz];exact hQ g8 ⟨z8,up _ _ D.a1 (k5 _ _ D.a1 D.a5 D.a6 D.a7 hTI),⟨_,_,up _ _ D.a2 o5⟩,r1.at fun o e=>up _ o D.a3 e,r2.at fun o e=>up _ o D.a4 e⟩ t8 fun c o c1 c2 c3 c4 e=>up c o c1 (k5 c o c1 c2 c3 c4 e)
theorem KC {t1 t2:Bool} {z TI TO i1 i2 l1 l2:Addr} {k:Nat} {xs ys:Array Value} {Q:Fin->Shared->Prop} (hh:A.handled=none) (D:Kn z TI TO i1 i2) (L1:AD l1 z TO i1 i2) (L2:AD l2 z TO i1 i2)
  (S:MS t1 t2 s.heap z TI TO i1 i2 l1 l2 k .none) (hl1:fm t1 s.heap l1 xs) (hl2:fm t2 s.heap l2 ys) (hend:xs[k]?=none\/ys[k]?=none)
  (hE:∀h' e,sV z TO i1 i2 s.heap h'->(∃o,h'.get? e=some o/\o.cls=.type "StopIteration")->E (.ref e) {s with heap:=h'}) :
  wpAny (model prog w) A (Builtin.«zip.__next__» ⟨[.ref z],[]⟩) Q E s:=by
 obtain⟨hz,hTI,⟨a,b,hTO⟩,h1,h2⟩:=S;show wpAny _ _ (field (.ref z) 2 >>= _) _ _ _;refine yt (wpAny_field hz rfl (x:=.bool false) rfl ?_);show wpAny _ _ (field (.ref z) 3 >>= _) _ _ _;refine yt (wpAny_field hz rfl (x:=.ref TI) rfl (yt (wpAny_seqItems hTI rfl ?_)));show wpAny _ _ (Builtin.SmallTypes.ownedTupleIsFree (.ref z) >>= _) _ _ _;refine yt ?_;unfold Builtin.SmallTypes.ownedTupleIsFree;refine yt (wpAny_field hz rfl (x:=.none) rfl (yv ?_));simp only[if_true];refine yt (wpAny_rule (yt (wpAny_field hz rfl (x:=.ref TO) rfl (yt (wpAny_setField_rec hz (by simp) fun g1 z1 q1=>?_)))));replace z1:IsZip g1 z TI TO .ellipsis:=z1;refine yt ?_;simp only[List.zipIdx_cons,List.zipIdx_nil,List.forIn_cons,List.forIn_nil];refine yt (yt (wpAny_onRaise ?_));show wpAny _ _ (Builtin.SmallTypes.nextOf (.ref i1) >>= _) _ _ _;cases hx:xs[k]? with
 | none=>
  refine yt (Cu hh (h1.but q1 D.a3) (hl1.but q1 L1.a1) hx fun g2 e q2 he=>?_);obtain⟨oe,hoe,hce⟩:=he;have z2:IsZip g2 z TI TO .ellipsis:=q2 _ _ D.a3.symm z1;have hez:e≠z:=fun x=>by subst x;rw[z2] at hoe;cases hoe;simp at hce
  exact wpAny_setField_rec z2 (by simp) fun g3 _ q3=>hE g3 e (fun c o c1 _ c3 _ x=>q3.extBut _ _ c1 (q2 _ _ c3 (q1.extBut _ _ c1 x))) ⟨oe,q3.extBut _ _ hez hoe,hce⟩
 | some x=>
  have hy:ys[k]?=none:=by rcases hend with h | h;rw[hx] at h;cases h;exact h
  refine yt (qU (h1.but q1 D.a3) (hl1.but q1 L1.a1) hx fun g2 p2 q2=>yv ?_);have o2:IsPair g2 TO a b:=q2.extBut _ _ D.a8 (q1.extBut _ _ D.a2 hTO);refine yt (wpAny_seqItems o2 rfl (yt (wpAny_updateSeq_pair o2 fun g3 o3 q3=>yt (wpAny_letGo (yv (yt (yt (wpAny_onRaise ?_))))))));show wpAny _ _ (Builtin.SmallTypes.nextOf (.ref i2) >>= _) _ _ _;refine yt (Cu hh (((h2.but q1 D.a4).but q2 D.b1.symm).but q3 D.a9.symm) (((hl2.but q1 L2.a1).but q2 L2.a3).but q3 L2.a2) hy fun g4 e q4 he=>?_);obtain⟨oe,hoe,hce⟩:=he;have z4:IsZip g4 z TI TO .ellipsis:=q4 _ _ D.a4.symm (q3.extBut _ _ D.a2.symm (q2.extBut _ _ D.a3.symm z1));have hez:e≠z:=fun x=>by subst x;rw[z4] at hoe;cases hoe;simp at hce
  exact wpAny_setField_rec z4 (by simp) fun g5 _ q5=>hE g5 e (fun c o c1 c2 c3 c4 x=>q5.extBut _ _ c1 (q4 _ _ c4 (q3.extBut _ _ c2 (q2.extBut _ _ c3 (q1.extBut _ _ c1 x))))) ⟨oe,q5.extBut _ _ hez hoe,hce⟩
theorem Em {t1 t2:Bool} {z TI TO i1 i2 l1 l2:Addr} {k:Nat} {xs ys:Array Value} {x y:Value} {Q:Option Value->Shared->Prop} (D:Kn z TI TO i1 i2) (L1:AD l1 z TO i1 i2) (L2:AD l2 z TO i1 i2)
  (S:MS t1 t2 s.heap z TI TO i1 i2 l1 l2 k .none) (hl1:fm t1 s.heap l1 xs) (hl2:fm t2 s.heap l2 ys) (hx:xs[k]?=some x) (hy:ys[k]?=some y)
  (hQ:∀h',MS t1 t2 h' z TI TO i1 i2 l1 l2 (k+1) (rawInt s.heap.objs.size)->IsPair h' s.heap.objs.size x y->sV z TO i1 i2 s.heap h'->Q (some (.ref s.heap.objs.size)) {s with heap:=h'}) :
  wpAny (model prog w) A (pyNext (.ref z)) Q E s:=by
 have hT:s.TypeIs (.ref z) "zip":=⟨_,S.z,rfl⟩
 unfold pyNext;exact yt (wpAny_attempt (wpAny_callSpecial?_slot (name:=Str.ofString "__next__") hT F.slot_zip_next (wpAny_call_entry F.slot_zip_next hT F.entry_zip_next (KG D L1 L2 S hl1 hl2 hx hy fun h' a1 a2 a3=>yv (hQ h' a1 a2 a3)) (F.args_zip_next_1 _))))
theorem Ek {t1 t2:Bool} {z TI TO i1 i2 l1 l2:Addr} {k:Nat} {xs ys:Array Value} {Q:Option Value->Shared->Prop} (hh:A.handled=none) (D:Kn z TI TO i1 i2) (L1:AD l1 z TO i1 i2) (L2:AD l2 z TO i1 i2)
  (S:MS t1 t2 s.heap z TI TO i1 i2 l1 l2 k .none) (hl1:fm t1 s.heap l1 xs) (hl2:fm t2 s.heap l2 ys) (hend:xs[k]?=none\/ys[k]?=none)
  (hQ:∀h',sV z TO i1 i2 s.heap h'->Q none {s with heap:=h'}):wpAny (model prog w) A (pyNext (.ref z)) Q E s:=by
 have hT:s.TypeIs (.ref z) "zip":=⟨_,S.z,rfl⟩
 unfold pyNext;refine yt (wpAny_attempt (wpAny_callSpecial?_slot (name:=Str.ofString "__next__") hT F.slot_zip_next (wpAny_call_entry F.slot_zip_next hT F.entry_zip_next (KC hh D L1 L2 S hl1 hl2 hend fun h' e hk he=>?_) (F.args_zip_next_1 _))));obtain⟨o,ho,hc⟩:=he;exact yt (wpAny_isInstance (T:="StopIteration") (b:=true) ⟨o,ho,hc⟩ isSubtype_stop (yv (hQ _ hk)))
end
abbrev Rl (t1:Bool) (h:Heap) (l1:Addr):Heap:=h.push (sA t1 l1)
abbrev Qi (t1 t2:Bool) (h:Heap) (l1 l2:Addr):Heap:=(Rl t1 h l1).push (sA t2 l2)
abbrev Rk (t1 t2:Bool) (h:Heap) (l1 l2:Addr):Heap:=(Qi t1 t2 h l1 l2).push {cls:=.type "tuple",data:=.seq #[.ref h.objs.size,.ref (Rl t1 h l1).objs.size]}
abbrev Rj (t1 t2:Bool) (h:Heap) (l1 l2:Addr):Heap:=(Rk t1 t2 h l1 l2).push {cls:=.type "tuple",data:=.seq #[.none,.none]}
abbrev OF (t1 t2:Bool) (h:Heap) (l1 l2:Addr):Heap:=(Rj t1 t2 h l1 l2).push {cls:=.type "zip",data:=.fields #[.none,.bool false,.bool false,.ref (Qi t1 t2 h l1 l2).objs.size,.ref (Rk t1 t2 h l1 l2).objs.size]}
theorem KI (t1 t2:Bool) (l1 l2:Addr) (xs ys:Array Value) :
  Meets (Builtin.«zip.__new__» ⟨[.type "zip",.ref l1,.ref l2],[]⟩) (fun _ R s=>fm t1 s.heap l1 xs/\fm t2 s.heap l2 ys/\R (.ok (.ret (.ref (Rj t1 t2 s.heap l1 l2).objs.size))) {s with heap:=OF t1 t2 s.heap l1 l2}):=
 .of_wp fun prog w A R s h=>by
  obtain⟨hp,g,d,tk,os⟩:=s;obtain⟨a1,a2,h⟩:=h;have hsub:=sub_zip;have b1:fm t1 (Shared.heap ⟨hp,g,d,tk,os⟩) l1 xs:=a1;have b2:fm t2 (Shared.heap ⟨hp.push (sA t1 l1),g,d,tk,os⟩) l2 ys:=a2.at fun o e=>yu _ e;wp_walk using Iv b1,Iv b2;exact⟨_,rfl,h⟩
theorem En {prog:Program} {w:World} {A:Around} {E:Value->Shared->Prop} {s:Shared} {t1 t2:Bool} {l1 l2:Addr} {xs ys:Array Value} {Q:Value->Shared->Prop} (hl1:fm t1 s.heap l1 xs) (hl2:fm t2 s.heap l2 ys)
  (h:∀h',MS t1 t2 h' (s.heap.objs.size+4) (s.heap.objs.size+2) (s.heap.objs.size+3) s.heap.objs.size (s.heap.objs.size+1) l1 l2 0 .none->(∀c o,s.heap.get? c=some o->h'.get? c=some o)->Q (.ref (s.heap.objs.size+4)) {s with heap:=h'}) :
  wpAny (model prog w) A (call (.type "zip") [.ref l1,.ref l2]) Q E s:=by
 refine callType_new F.called_zip (by decide) (F.typeCall_zip_2 _ _) (F.newCall_zip_2 _ _) (fun obj=>F.args_object_init_3 obj _ _) F.entry_zip_new (KI t1 t2 l1 l2 xs ys) ⟨hl1,hl2,?_⟩;have z1:(Rl t1 s.heap l1).objs.size=s.heap.objs.size+1:=Heap.size_push ..;have z2:(Qi t1 t2 s.heap l1 l2).objs.size=s.heap.objs.size+2:=by rw[Heap.size_push,z1]
 have z3:(Rk t1 t2 s.heap l1 l2).objs.size=s.heap.objs.size+3:=by rw[Heap.size_push,z2]
 have z4:(Rj t1 t2 s.heap l1 l2).objs.size=s.heap.objs.size+4:=by rw[Heap.size_push,z3]
 have up:∀c o,(Qi t1 t2 s.heap l1 l2).get? c=some o->(OF t1 t2 s.heap l1 l2).get? c=some o:=fun c o e=>yu _ (yu _ (yu _ e));have g5:(OF t1 t2 s.heap l1 l2).get? (Rj t1 t2 s.heap l1 l2).objs.size=some _:=yw _ rfl;have g4:(OF t1 t2 s.heap l1 l2).get? (Rk t1 t2 s.heap l1 l2).objs.size=some _:=yu _ (yw _ rfl);have g3:(OF t1 t2 s.heap l1 l2).get? (Qi t1 t2 s.heap l1 l2).objs.size=some _:=yu _ (yu _ (yw _ rfl));have g2:dr t2 (OF t1 t2 s.heap l1 l2) (Rl t1 s.heap l1).objs.size l2 0:=(dr.new t2 _ l2).at (up _);have g1:dr t1 (OF t1 t2 s.heap l1 l2) s.heap.objs.size l1 0:=((dr.new t1 _ l1).at fun o e=>yu _ e).at (up _);show _/\_;rw[z2,z3,z4] at g5;rw[z1,z2] at g3;rw[z3] at g4;rw[z1] at g2;rw[z4];exact⟨⟨_,g5,rfl⟩,h _ ⟨g5,g3,⟨_,_,g4⟩,g1,g2⟩ fun c o x=>up c o (yu _ (yu _ x))⟩
end L2
namespace L2
open PySem PySem.Spec PyProof.Rows
theorem aZ (h:H p=none):au H (upd H p o):=fun b u e=>by rw[aG (bu e h)];exact e
theorem laid {H:Hp} {o:HO} {Q:VK} (k:∀p H',au H H'->H' p=some o->Q (.ref p) H'):∀p,H p=none->Q (.ref p) (upd H p o):=fun p hp=>k p _ (aZ hp) aF
theorem au.tup {K:yA} {H H':Hp} {a:Addr} {xs:List V} (e:au H H') (h:dB K H a xs):dB K H' a xs:=by
 rcases h with(h | ⟨o,h⟩) | h
 ·exact .inl (.inl (e _ _ h))
 ·exact .inl (.inr ⟨o,e _ _ h⟩)
 ·exact .inr h
section
variable {X:Cx} {pins:List (Addr×Obj)} {σ:St} {H:Hp} {s:Shared} {h':Heap}
theorem Inv.wZ {T:Addr} {o:HO} {ch:List Addr} {t':Nat} (I:Inv X pins σ H s) (hf:∀b∈ch,qP X pins H b) (hT:s.heap.objs.size<=T) (k:∀b u,b∉ch->s.heap.get? b=some u->h'.get? b=some u)
  (new:cz X.prog X.w (upd H T o) h' T o):Inv X pins σ (upd H T o) {s with heap:=h',toks:=t'}:=by
 have hn:H T=none:=I.bZ.fresh hT;have neT:∀b u,s.heap.get? b=some u->b≠T:=fun b u e=>yi (yb (yx e) hT);have nch:∀b u,H b=some u->b∉ch:=fun b u e hb=>by rw[(hf b hb).1] at e;cases e
 refine I.step (g':=s.gens) (d':=s.drawn) (ch:=ch) (fun b hb=>?_) (fun b u _ _ hc e _=>k b u hc e) (fun b u _ _ hc e _=>⟨u.slots,k b u hc e⟩) (fun b u hc e n=>by rw[aG (neT b u e)];exact n) (fun b u hc e=>⟨u,k b u hc e⟩)
  (fun b xs e=>by rw[aG (bu e hn)];exact e) (fun b ob u e=>by rw[aG (bu e hn)];exact e) (fun b ps e=>⟨#[],by rw[aG (bu e hn),e];simp⟩) (fun m hm=>?_) (fun b u e=>?_) I.bare
 ·obtain⟨f0,f1,f2,f3,f4,f5⟩:=hf b hb
  exact⟨f3,f1,f4,f5⟩
 ·obtain⟨ob,es,ep,ho,r⟩:=hm
  exact⟨ob,es,ep,k _ _ (fun z=>(hf _ z).2.1 rfl) ho,r⟩
 ·by_cases hb:b=T
  ·subst hb;rw[aF] at e;cases e;exact new
  ·rw[aG hb] at e
   refine(I.bZ b u e).lg (fun c v hc q=>k c v ?_ q) (fun c q=>by rw[aG (bu q hn)];exact q) fun c xs q=>by rw[aG (bu q hn)];exact q
   rcases hc with z | z
   ·rw[z];exact nch b u e
   ·exact nch c _ z
theorem Inv.turns {ch:List Addr} {t':Nat} (I:Inv X pins σ H s) (hf:∀b∈ch,qP X pins H b) (k:∀b u,b∉ch->s.heap.get? b=some u->h'.get? b=some u):Inv X pins σ H {s with heap:=h',toks:=t'}:=by
 have nch:∀b u,H b=some u->b∉ch:=fun b u e hb=>by rw[(hf b hb).1] at e;cases e
 refine I.step (g':=s.gens) (d':=s.drawn) (ch:=ch) (fun b hb=>?_) (fun b u _ _ hc e _=>k b u hc e) (fun b u _ _ hc e _=>⟨u.slots,k b u hc e⟩) (fun b u hc e n=>n) (fun b u hc e=>⟨u,k b u hc e⟩)
  (fun b xs e=>e) (fun b ob u e=>e) (fun b ps e=>⟨#[],by rw[e];simp⟩) (fun m hm=>?_) (fun b u e=>?_) I.bare
 ·obtain⟨f0,f1,f2,f3,f4,f5⟩:=hf b hb
  exact⟨f3,f1,f4,f5⟩
 ·obtain⟨ob,es,ep,ho,r⟩:=hm
  exact⟨ob,es,ep,k _ _ (fun z=>(hf _ z).2.1 rfl) ho,r⟩
 ·refine(I.bZ b u e).lg (fun c v hc q=>k c v ?_ q) (fun c q=>q) fun c xs q=>q
  rcases hc with z | z
  ·rw[z];exact nch b u e
  ·exact nch c _ z
theorem DL:bootBuiltins "enumerate"= some (.type "enumerate"):=by decide +kernel
theorem Mz:bootBuiltins "zip"= some (.type "zip"):=by decide +kernel
def Qc (K:yA) (a:Addr):It:=
 ⟨fun i H=>∃xs x,aL K H a xs/\xs[i]?=some x,fun i H x H'=>∃p v,H p=none/\x=.ref p/\H'=upd H p (.tup [.int (i:Int),v])/\∀xs,aL K H a xs->xs[i]?=some v,fun i H=>∃xs,aL K H a xs/\xs.length<=i⟩
theorem Jn {P:Program} {w:World} {K:yA} {es:List Expr} {kt:Nat} {tp:Pos} (a it e:Addr) (hne:e≠it) :
  Turn P w K (.Tuple es kt tp) (Qc K a) [e,it] e (fun i h=>(∃old,IsEnum h e it (i:Int) old)/\h.IsListIter it a i) where
 mem:=by simp
 obj:=fun i h st b hb=>by
  obtain⟨⟨old,he⟩,o,e1,c,d⟩:=st;rcases zC.mp hb with z | z
  ·subst z;exact⟨_,he,fun v z=>by cases z⟩
  ·have z':b=it:=by simpa using z
   subst z';exact⟨o,e1,fun v z=>by rw[d] at z;cases z⟩
 keep:=fun i h h' st k=>⟨let ⟨old,he⟩:=st.1;⟨old,k e (by simp) _ he⟩,st.2.at fun o e=>k it (by simp) o e⟩
 item:=by
  intro X hP hw hK hc i pins s σ H E I hf st hg;subst hP hw hK;obtain⟨xs,x,hq,hx⟩:=hg;obtain⟨its,rv,p,hz⟩:=I.list hq;obtain⟨u,hu,ru⟩:=rv.get hx;obtain⟨⟨old,he⟩,hit⟩:=st;refine wpAny_pyNext_enum_item he hit p.isList (x:=u) (by simpa using hu) hne fun g1 ho hit1 hT hsz hk=>?_;refine⟨_,rfl,wpAny_letOwnedTupleGo_enum (s:={s with heap:=g1,toks:=s.toks+1}) ho fun g2 he2 hs2=>?_⟩;have hel:e<s.heap.objs.size:=yx he;have gT:g2.get? s.heap.objs.size=some {cls:=.type "tuple",data:=.seq #[.int i s.toks,u]}:=hs2.extBut _ _ (yh hel) hT;have I1:Inv X pins σ (upd H s.heap.objs.size (.tup [.int (i:Int),x])) {s with heap:=g2,toks:=s.toks+1}:=
   I.wZ hf (zk _) (fun b ob hb q=>hs2.extBut _ _ (fun z=>hb (by simp[z])) (hk b ob (fun z=>hb (by simp[z])) (fun z=>hb (by simp[z])) q))
    ⟨by show 2<=sizeLine;decide,[.int i s.toks,u],.cons ⟨_,rfl⟩ (.cons ru .nil),⟨_,gT,rfl,_,rfl⟩⟩
  refine⟨.ref s.heap.objs.size,_,I1,rfl,⟨_,x,I.bZ.fresh (zk _),rfl,rfl,fun ys hy=>by rw[I.yF hy hq];exact hx⟩,⟨⟨_,by simpa using he2⟩,hit1.at fun o q=>hs2.extBut _ _ hne.symm q⟩,fun b hb=>?_⟩;have hb':=(hf b hb).1;obtain⟨o,ho',_⟩:∃o,s.heap.get? b=some o/\True:=by
   rcases zC.mp hb with z | z
   ·subst z;exact⟨_,he,trivial⟩
   ·have z':b=it:=by simpa using z
    subst z';obtain⟨o,e1,_⟩:=hit;exact⟨o,e1,trivial⟩
  rw[aG (yi (yx ho'))];exact hb'
 done:=by
  intro X hP hw hK hc i pins s σ H E I hf st hg;subst hP hw hK;obtain⟨xs,hq,hx⟩:=hg;obtain⟨its,rv,p,hz⟩:=I.list hq;obtain⟨⟨old,he⟩,hit⟩:=st;have hl:=rv.length;exact wpAny_pyNext_enum_end (I.ok.hd hc) he hit p.isList (by simp;omega) fun g1 eb=>⟨rfl,I.turns (t':=s.toks) hf fun b o hb q=>eb b o (fun z=>hb (by simp[z])) q⟩
 self:=fun _ _ _ _ _ st h=>let ⟨_,he⟩:=st.1;wpAny_pyIter_enum he h
def Ot (K:yA) (ta:TA):TI:=fun σ H R=>ta σ H fun vs H1=>∃a xs,vs=[.ref a]/\aL K H1 a xs/\R (Qc K a) H1
theorem wF {a:Expr} {ta:TA} {es:List Expr} {kt:Nat} {tp p pos:Pos} (hg:Gl X "enumerate") (hm:X.mg "enumerate"= none) (ha:PA X [a] ta) (hs:autoParam (starEach [a] X.env=[(false,eval a X.env)]) qe_) :
  PI X (.Tuple es kt tp) (.Call (.Name "enumerate" p) [a] [] pos) (Ot X.K ta):=by
 intro pins s σ H R I h;refine Call_ (jn I hg hm DL (PyProof.Rows.callWith_type1 (cS (ha pos pins s σ H _ I h) fun us s1 ⟨vs,H1,I1,r1,q1⟩=>?_) hs rfl));obtain⟨l,xs,e,hq,q⟩:=q1;subst e;cases r1 with
 | cons r rr=>
  cases rr;cases r;obtain⟨its,rv,pl,hz⟩:=I1.list hq;refine call_enumerate_list pl.isList fun g he hit hsz hk=>?_;refine wpAny_pyIter_enum (s:={s1 with heap:=g}) he ?_;have I2:Inv X pins σ H1 {s1 with heap:=g}:=I1.kept (t':=s1.toks) hk;refine⟨s1.heap.objs.size+1,[s1.heap.objs.size+1,s1.heap.objs.size],_,Qc X.K l,H1,rfl,I2,Jn l s1.heap.objs.size (s1.heap.objs.size+1) (yh (Nat.lt_succ_self _)),⟨⟨_,by simpa using he⟩,hit⟩,fun b hb=>?_,q⟩;have hb':s1.heap.objs.size<=b:=by
   rcases zC.mp hb with z | z
   ·subst z;exact Nat.le_succ _
   ·have z':b=s1.heap.objs.size:=by simpa using z
    subst z';exact zk _
  exact I1.vX hb' (I1.bZ.fresh hb')
def Bx (t:Bool) (K:yA) (H:Hp) (a:Addr) (xs:List V):Prop:=match t with
 | true=>dB K H a xs
 | false=>aL K H a xs
theorem Inv.sq (I:Inv X pins σ H s) (h:Bx t X.K H a xs):∃its:List Value,Vals xs its/\fm t s.heap a its.toArray/\xs.length<=sizeLine:=by
 cases t
 ·obtain⟨its,r,p,z⟩:=I.list h;exact⟨its,r,p.isList,z⟩
 ·obtain⟨its,r,p,z⟩:=I.tuple h;exact⟨its,r,p,z⟩
theorem Inv.K9 (I:Inv X pins σ H s) (h:Bx t X.K H a xs) (h':Bx t X.K H a ys):xs=ys:=by
 cases t
 ·exact I.yF h h'
 ·exact I.BC h h'
theorem fm.lt (x:fm t h a items):a<h.objs.size:=by
 cases t
 ·obtain⟨o,e,_⟩:=x;exact yx e
 ·obtain⟨o,e,_⟩:=x;exact yx e
def Rx (t1 t2:Bool) (K:yA) (a b:Addr):It:=
  ⟨fun i H=>∃xs ys x y,Bx t1 K H a xs/\Bx t2 K H b ys/\xs[i]?=some x/\ys[i]?=some y,
   fun i H x H'=>∃p u v,H p=none/\x=.ref p/\H'=upd H p (.tup [u,v])/\(∀xs,Bx t1 K H a xs->xs[i]?=some u)/\∀ys,Bx t2 K H b ys->ys[i]?=some v,
   fun i H=>∃xs ys,Bx t1 K H a xs/\Bx t2 K H b ys/\(xs.length<=i\/ys.length<=i)⟩
theorem KQ {P:Program} {w:World} {K:yA} {es:List Expr} {kt:Nat} {tp:Pos} (t1 t2:Bool) (a b z TI TO i1 i2:Addr) (D:Kn z TI TO i1 i2) (L1:AD a z TO i1 i2) (L2:AD b z TO i1 i2) :
  Turn P w K (.Tuple es kt tp) (Rx t1 t2 K a b) [z,TI,TO,i1,i2] z (fun i h=>MS t1 t2 h z TI TO i1 i2 a b i .none) where
 mem:=by simp
 obj:=fun i h st c hc=>by
  obtain⟨hz,hi,⟨_,_,ho⟩,h1,h2⟩:=st;simp only[zC,zD,or_false] at hc;rcases hc with e | e | e | e | e
  ·subst e;exact⟨_,hz,fun v q=>by cases q⟩
  ·subst e;exact⟨_,hi,fun v q=>by cases q⟩
  ·subst e;exact⟨_,ho,fun v q=>by cases q⟩
  ·subst e;exact h1.get
  ·subst e;exact h2.get
 keep:=fun i h h' st k=>⟨k z (by simp) _ st.z,k TI (by simp) _ st.ti,let ⟨x,y,e⟩:=st.to;⟨x,y,k TO (by simp) _ e⟩,st.i1.at fun o e=>k i1 (by simp) o e,st.i2.at fun o e=>k i2 (by simp) o e⟩
 item:=by
  intro X hP hw hK hc i pins s σ H E I hf st hg;subst hP hw hK;obtain⟨xs,ys,x,y,hq,hq',hx,hy⟩:=hg;obtain⟨its,rv,p,hz⟩:=I.sq hq;obtain⟨jts,rw',p',hz'⟩:=I.sq hq';obtain⟨u,hu,ru⟩:=rv.get hx;obtain⟨u',hu',ru'⟩:=rw'.get hy;refine Em D L1 L2 st p p' (x:=u) (y:=u') (by simpa using hu) (by simpa using hu') fun g1 S1 hT hk=>?_;refine⟨_,rfl,wpAny_letOwnedTupleGo_zip (s:={s with heap:=g1}) S1.z fun g2 z2 hs2=>?_⟩;have zl:z<s.heap.objs.size:=yx st.z;have gT:g2.get? s.heap.objs.size=some {cls:=.type "tuple",data:=.seq #[u,u']}:=hs2.extBut _ _ (yh zl) hT;have I1:Inv X pins σ (upd H s.heap.objs.size (.tup [x,y])) {s with heap:=g2}:=
   I.wZ (t':=s.toks) hf (zk _) (fun c ob hb q=>hs2.extBut _ _ (fun e=>hb (by simp[e])) (hk c ob (fun e=>hb (by simp[e])) (fun e=>hb (by simp[e])) (fun e=>hb (by simp[e])) (fun e=>hb (by simp[e])) q))
    ⟨by show 2<=sizeLine;decide,[u,u'],.cons ru (.cons ru' .nil),⟨_,gT,rfl,_,rfl⟩⟩
  refine⟨.ref s.heap.objs.size,_,I1,rfl,⟨_,x,y,I.bZ.fresh (zk _),rfl,rfl,fun zs h=>by rw[I.K9 h hq];exact hx,fun zs h=>by rw[I.K9 h hq'];exact hy⟩,⟨z2,hs2.extBut _ _ D.a1 S1.ti,let ⟨x,y,e⟩:=S1.to;⟨x,y,hs2.extBut _ _ D.a2 e⟩,S1.i1.but hs2 D.a3,S1.i2.but hs2 D.a4⟩,fun c hc=>?_⟩;have hb':=(hf c hc).1;obtain⟨o,ho',_⟩:∃o,s.heap.get? c=some o/\True:=by
   obtain⟨hz,hi,⟨_,_,ho⟩,⟨q1,e1,_⟩,⟨q2,e2,_⟩⟩:_/\_/\_/\_/\_:=⟨st.z,st.ti,st.to,st.i1.get,st.i2.get⟩
   simp only[zC,zD,or_false] at hc;rcases hc with e | e | e | e | e
   ·subst e;exact⟨_,hz,trivial⟩
   ·subst e;exact⟨_,hi,trivial⟩
   ·subst e;exact⟨_,ho,trivial⟩
   ·subst e;exact⟨_,e1,trivial⟩
   ·subst e;exact⟨_,e2,trivial⟩
  rw[aG (yi (yx ho'))];exact hb'
 done:=by
  intro X hP hw hK hc i pins s σ H E I hf st hg;subst hP hw hK;obtain⟨xs,ys,hq,hq',hx⟩:=hg;obtain⟨its,rv,p,hz⟩:=I.sq hq;obtain⟨jts,rw',p',hz'⟩:=I.sq hq';have hl:=rv.length;have hl':=rw'.length;refine Ek (I.ok.hd hc) D L1 L2 st p p' ?_ fun g1 eb=>⟨rfl,I.turns (t':=s.toks) hf fun c o hb q=>eb c o (fun e=>hb (by simp[e])) (fun e=>hb (by simp[e])) (fun e=>hb (by simp[e])) (fun e=>hb (by simp[e])) q⟩
  rcases hx with h | h
  ·exact .inl (by simp;omega)
  ·exact .inr (by simp;omega)
 self:=fun _ _ _ _ _ st h=>wpAny_pyIter_zip st.z h
def Sn (K:yA) (ta:TA):TI:=fun σ H R=>ta σ H fun vs H1=>∃t1 t2 a b xs ys,vs=[.ref a,.ref b]/\Bx t1 K H1 a xs/\Bx t2 K H1 b ys/\R (Rx t1 t2 K a b) H1
theorem LF {a b:Expr} {ta:TA} {es:List Expr} {kt:Nat} {tp p pos:Pos} (hg:Gl X "zip") (hm:X.mg "zip"= none) (ha:PA X [a,b] ta)
  (hs:autoParam (starEach [a,b] X.env=[(false,eval a X.env),(false,eval b X.env)]) qe_) (hs2:autoParam (starEach [b] X.env=[(false,eval b X.env)]) qe_) :
  PI X (.Tuple es kt tp) (.Call (.Name "zip" p) [a,b] [] pos) (Sn X.K ta):=by
 intro pins s σ H R I h;refine Call_ (jn I hg hm Mz (PyProof.Rows.callWith_type1 (cS (ha pos pins s σ H _ I h) fun us s1 ⟨vs,H1,I1,r1,q1⟩=>?_) (by rw[hs,hs2]) (by rw[hs2];rfl)));obtain⟨t1,t2,a,b,xs,ys,e,hq,hq',q⟩:=q1;subst e;cases r1 with
 | cons r rr=>
  cases rr with
  | cons r' rr=>
   cases rr;cases r;cases r';obtain⟨its,rv,pl,hz⟩:=I1.sq hq;obtain⟨jts,rv',pl',hz'⟩:=I1.sq hq';have la:=pl.lt;have lb:=pl'.lt;refine En pl pl' fun g S hk=>?_;refine wpAny_pyIter_zip (s:={s1 with heap:=g}) S.z ?_;have I2:Inv X pins σ H1 {s1 with heap:=g}:=I1.kept (t':=s1.toks) hk;have D:Kn (s1.heap.objs.size+4) (s1.heap.objs.size+2) (s1.heap.objs.size+3) s1.heap.objs.size (s1.heap.objs.size+1):=by
    constructor <;> (show _≠(_:Nat)) <;> omega
   have L:∀c,c<s1.heap.objs.size->AD c (s1.heap.objs.size+4) (s1.heap.objs.size+3) s1.heap.objs.size (s1.heap.objs.size+1):=fun c hc=>by
    constructor <;> (show _≠(_:Nat)) <;> omega
   refine⟨s1.heap.objs.size+4,[_,_,_,_,_],_,Rx t1 t2 X.K a b,H1,rfl,I2,KQ t1 t2 a b _ _ _ _ _ D (L a la) (L b lb),S,fun c hc=>?_,q⟩;have hb':s1.heap.objs.size<=c:=by
    simp only[zC,zD,or_false] at hc;rcases hc with e | e | e | e | e <;> (subst e;first | exact Nat.le_add_right _ _ | exact zk _)
   exact I1.vX hb' (I1.bZ.fresh hb')
theorem CQ (bs:List Bool):((List.range bs.length).all fun i=>(bs[i]?).getD true)=bs.all id:=by
 rw[Bool.eq_iff_iff,yo,yo];constructor
 ·intro h b hb
  obtain⟨i,hi,e⟩:=List.mem_iff_getElem.mp hb;have:=h i (List.mem_range.mpr hi);rw[zb hi,e] at this;exact this
 ·intro h i hi
  have hi':=List.mem_range.mp hi;rw[zb hi'];exact h _ (yk hi')
theorem oK (hc:X.calm=true):fO X (.builtin "all") (fun xs H Q=>∃(a:Addr) (bs:List Bool),xs=[.ref a]/\aL X.K H a (bs.map V.bl)/\Q (.bl (bs.all id)) H):=by
 intro pins s σ H xs us Q I r h;obtain⟨a,bs,e,hq,q⟩:=h;subst e;cases r with
 | cons r rr=>
  cases rr;cases r;obtain⟨its,rv,p,hz⟩:=I.list hq;have hlt:a<s.heap.objs.size:=by obtain⟨o,n,e,_⟩:=p;exact yx e
  have hlen:bs.length=its.length:=by have:=rv.length;rw[za] at this;exact this
  refine call_all_walk (wpAny_pyIter_list p.isList ?_);refine⟨s.heap.objs.size,[s.heap.objs.size,a],[s.heap.objs.size],its.toArray.size,_,_,fun i=>(bs[i]?).getD true,rfl,Walks.list (A:=X.A.in1) (I.ok.hd hc) _ a (yi hlt) its.toArray,
   ⟨⟨_,yw _ rfl,rfl,rfl⟩,p.isList.push _⟩,fun i v s' Q' E' hP hQ=>?_,fun h' tk hk=>?_⟩
  ·have hP':its[i]?=some v:=by simpa using hP
   have hi:i<bs.length:=by rw[hlen];exact(zw.mp hP').1
   have hm:(bs.map V.bl)[i]?=some (.bl bs[i]):=by rw[zJ,zb hi];rfl
   obtain⟨u,hu,ru⟩:=rv.get hm;rw[hP'] at hu;cases hu;cases ru;dsimp only at hQ;rw[zb hi] at hQ;exact wpAny_truthy_bool hQ
  ·have e:((List.range its.toArray.size).all fun i=>(bs[i]?).getD true)=bs.all id:=by rw[ya,<-hlen];exact CQ bs
   rw[e];exact⟨.bl _,H,I.kept fun b o x=>hk b o (fun hm=>by rw[zy.mp hm] at x;exact ye _ (yx x)) (yu _ x),rfl,q⟩
end
section
variable {X:Cx} {pos:Pos}
end
inductive Ty where
 | bE | bl | int | str | tup | lst | Q5
def Ty.name:Ty->String
 | .bE=> "NoneType" | .bl=> "bool" | .int=> "int" | .str=> "str" | .tup=> "tuple" | .lst=> "list" | .Q5=> "dict"
def tag (H:Hp):V->Option Ty
 | .bE=>some .bE
 | .bl _=>some .bl
 | .int _=>some .int
 | .str _=>some .str
 | .ref a=>match H a with
  | some (.tup _)=>some .tup
  | some (.lst _)=>some .lst
  | some (.mW _ (.lst _))=>some .lst
  | some (.dK _)=>some .Q5
  | some (.dT _)=>some .Q5
  | _=>none
 | _=>none
theorem OQ {K:yA} {H:Hp} {x:V} {n:Ty} (h:tag H x=some n):uE K H x (.type n.name):=by
 cases x with
 | bE=>cases h;exact .bE
 | bl b=>cases h;exact .bl b
 | int i=>cases h;exact .int i
 | str y=>cases h;exact .str y
 | IX _=>cases h
 | NM _=>cases h
 | ty _=>cases h
 | ref a=>
  simp only[tag] at h;split at h
  ·cases h;exact .tup ‹_›
  ·cases h;exact .lst ‹_›
  ·cases h;exact .mW ‹_›
  ·cases h;exact .dK ‹_›
  ·cases h;exact .dT ‹_›
  ·cases h
def Ty.sub:Ty->Ty->Bool
 | .bl,.bl=>true | .int,.int=>true | .str,.str=>true | .tup,.tup=>true | .lst,.lst=>true | .Q5,.Q5=>true | .bE,.bE=>true
 | .bl,.int=>true
 | _,_=>false
theorem NI (K:yA) (a b:Ty):PySem.W.kitOne K (.type a.name) (.type b.name)=some (a.sub b):=by
 cases a <;> cases b <;> first | rfl | decide +kernel | kernel_rfl
def R3 (c:Ty) (ta:TE):TE:=fun σ H Q=>ta σ H fun x H1=>∃n,tag H1 x=some n/\Q (.bl (n.sub c)) H1
section
variable {X:Cx}
theorem Pn (c:Ty) (hx:bootBuiltins x=some (.type c.name)) (ha:PE X a ta) (hm:X.mg "isinstance"= none) (hm2:X.mg x=none)
  (hg:autoParam (Gl X "isinstance") qe_) (hg2:autoParam (Gl X x) qe_) (hn:autoParam (x≠ "__name__") qb_) (hd:autoParam ((x == ("__debug__": Str))=false) qb_)
  (hs:autoParam (starEach [a,.Name x p2] X.env=(false,eval a X.env)::starEach [.Name x p2] X.env) qe_) (hs2:autoParam (starEach [.Name x p2] X.env=[(false,eval (.Name x p2) X.env)]) qe_) :
  PE X (.Call (.Name "isinstance" p1) [a,.Name x p2] [] pos) (R3 c ta):=by
 have hc:fO X (.builtin "isinstance") (fun xs H Q=>∃v n,xs=[v,.ty c.name]/\tag H v=some n/\Q (.bl (n.sub c)) H):=by
  intro pins s σ H xs us Q I r h;obtain⟨v,n,e,ht,q⟩:=h;subst e;cases r with
  | cons r rr=>
   cases rr with
   | cons r' rr=>
    cases rr;cases r';exact JS I r (OQ ht) (NI _ _ _) fun tk=>⟨.bl _,H,I.tok tk,rfl,q⟩
 have hb:PE X (.Name x p2) (tC (.ty c.name)):=Nu (u:=.type c.name) hg2 hm2 hx rfl hn hd;have ht:=E6 (p:=p1) (pos:=pos) hc hg hm (by decide +kernel) (ah ha (ah hb af hs2) hs) (he:=hs) (hpl:=by rw[hs2];rfl);intro pins s σ H Q I h;have mono:ta σ H (fun x H1=>∃n,tag H1 x=some n/\Q (.bl (n.sub c)) H1)->Jq (fun xs H Q=>∃v n,xs=[v,.ty c.name]/\tag H v=some n/\Q (.bl (n.sub c)) H) (bQ ta (bQ (tC (.ty c.name)) eO)) σ H Q:=fun z=>by
  show ta σ H fun x H1=>∃v n,[x,V.ty c.name]=[v,.ty c.name]/\tag H1 v=some n/\Q (.bl (n.sub c)) H1;have e:(fun x H1=>∃n,tag H1 x=some n/\Q (.bl (n.sub c)) H1)=(fun(x:V) (H1:Hp)=>∃v n,[x,V.ty c.name]=[v,V.ty c.name]/\tag H1 v=some n/\Q (.bl (n.sub c)) H1):=by
   funext x H1
   apply propext;constructor
   ·rintro⟨n,h1,h2⟩;exact⟨x,n,rfl,h1,h2⟩
   ·rintro⟨v,n,e,h1,h2⟩;cases e;exact⟨n,h1,h2⟩
  rw[<-e];exact z
 exact ht pins s σ H Q I (mono h)
end
inductive Dt where
 | bE | bl (b:Bool) | int (i:Int) | str (x:Str) | tup (l:List Dt)
mutual
def Is (H:Hp):Dt->V->Prop
 | .bE,v=>v=.bE
 | .bl b,v=>v=.bl b
 | .int i,v=>v=.int i
 | .str x,v=>v=.str x
 | .tup l,v=>∃a vs,v=.ref a/\H a=some (.tup vs)/\IsL H l vs
def IsL (H:Hp):List Dt->List V->Prop
 | [],vs=>vs=[]
 | d::l,vs=>∃v r,vs=v::r/\Is H d v/\IsL H l r
end
mutual
theorem Is.mono (s:au H H'):∀{d:Dt} {v:V},Is H d v->Is H' d v
 | .bE,_,h=>by unfold Is at h ⊢;exact h
 | .bl _,_,h=>by unfold Is at h ⊢;exact h
 | .int _,_,h=>by unfold Is at h ⊢;exact h
 | .str _,_,h=>by unfold Is at h ⊢;exact h
 | .tup l,_,h=>by
  unfold Is at h ⊢;obtain⟨a,vs,e,ha,hl⟩:=h;exact⟨a,vs,e,s _ _ ha,IsL.mono s hl⟩
theorem IsL.mono (s:au H H'):∀{l:List Dt} {vs:List V},IsL H l vs->IsL H' l vs
 | [],_,h=>by unfold IsL at h ⊢;exact h
 | d::l,_,h=>by
  unfold IsL at h ⊢;obtain⟨v,r,e,hv,hr⟩:=h;exact⟨v,r,e,Is.mono s hv,IsL.mono s hr⟩
end
theorem IsL.len:∀{l:List Dt} {vs:List V},IsL H l vs->vs.length=l.length
 | [],_,h=>by unfold IsL at h;rw[h];rfl
 | d::l,_,h=>by
  unfold IsL at h;obtain⟨v,r,e,_,hr⟩:=h;rw[e,zt,zt,IsL.len hr]
theorem IsL.get:∀{l:List Dt} {vs:List V} {i:Nat} {v:V},IsL H l vs->vs[i]?=some v->∃d,l[i]?=some d/\Is H d v
 | [],_,i,v,h,e=>by unfold IsL at h;rw[h] at e;simp at e
 | d::l,_,i,v,h,e=>by
  unfold IsL at h;obtain⟨u,r,e1,hv,hr⟩:=h;subst e1;cases i with
  | zero=>simp at e;subst e;exact⟨d,rfl,hv⟩
  | succ i=>
   obtain⟨d',h1,h2⟩:=IsL.get (i:=i) hr (by simpa using e);exact⟨d',by simpa using h1,h2⟩
theorem au.lI (e:upd H p o=H') (h:H p=none):au H H':=e▸aZ h
theorem lS (e:upd H p o=H'):H' p=some o:=e▸aF
theorem cj {c:Bool} {A B:Prop} (h:c=true) (q:A):if c=true then A else B:=by rw[if_pos h];exact q
theorem cw {c:Bool} {A B:Prop} (h:c=false) (q:B):if c=true then A else B:=by rw[if_neg (by rw[h];decide)];exact q
theorem du:[a,b].length<=sizeLine:=by show 2<=sizeLine;decide
theorem ng:[a,b,c].length<=sizeLine:=by show 3<=sizeLine;decide
theorem iK (h:H p=some (.tup [.int a,.int b])):Is H (.tup [.int a,.int b]) (.ref p):=by
 unfold Is;exact⟨p,_,rfl,h,by simp only[IsL,Is];exact⟨_,_,rfl,rfl,_,_,rfl,rfl,rfl⟩⟩
theorem sF {K:yA} {a:Addr} {xs:List V} {g:TG} {tb:TS} {D:Ends} {σ:St} {H:Hp} (Pv:Nat->St->Hp->Prop) (h0:Pv 0 σ H) (hl:∀i σ H,i<=xs.length->Pv i σ H->aL K H a xs)
  (hs:∀i x σ H p H',xs[i]?=some x->Pv i σ H->au H H'->H' p=some (.tup [.int (i:Int),x])->g (.ref p) σ H' fun σ2 H2=>tb {D with nx:=Pv (i+1),ct:=Pv (i+1),bk:=D.nx} σ2 H2) (hd:∀σ H,Pv xs.length σ H->D.nx σ H) :
  ∃W:Nat->Nat->St->Hp->Prop,(∃m,W 0 m σ H)/\∀i m σ H,W i m σ H->
   ((Qc K a).stop i H/\D.nx σ H)\/((Qc K a).go i H/\∃N:St->Hp->Prop,(∀σ' H',N σ' H'->∃m',m'<m/\W (i+1) m' σ' H')/\∀x H',(Qc K a).Ji i H x H'->g x σ H' fun σ2 H2=>tb {D with nx:=N,ct:=N,bk:=D.nx} σ2 H2):=by
 refine⟨fun i m σ H=>m=xs.length-i/\i<=xs.length/\Pv i σ H,⟨xs.length,by simp,yf _,h0⟩,?_⟩;rintro i m σ H ⟨rfl,hi,p⟩;have q:=hl i σ H hi p
 by_cases hlt:i<xs.length
 ·refine .inr ⟨⟨xs,xs[i],q,by simp[hlt]⟩,Pv (i+1),fun σ' H' p'=>⟨xs.length-(i+1),nofun,rfl,hlt,p'⟩,fun x H' y=>?_⟩
  obtain⟨pp,v,hp,e1,e2,y⟩:=y;subst e1 e2;exact hs i v σ H pp _ (y xs q) p (aZ hp) aF
 ·have e:i=xs.length:=nofun
  subst e;exact .inl ⟨⟨xs,q,zk _⟩,hd σ H p⟩
section
variable {X:Cx} {pos:Pos}
theorem Inv.QQ (I2:Inv X pins σ2 H2 s2) (hC:s2.heap.objs.size<=C) (I:Inv X pins σ H s) (hn:H C=none) (hs:Heap.SameBut C s.heap h'):Inv X pins σ H {s with heap:=h'}:=by
 obtain⟨f0,f1,f2,f3,f4,f5⟩:=I2.vX hC hn;exact I.turned (t':=s.toks) (fun b o hb e=>hs.extBut b o hb e) f0 f1 f3 f4 f5
end
section
variable {X:Cx} {pins:List (Addr×Obj)} {σ:St} {H:Hp} {s:Shared}
def Sz (n:Nat) (i:Int):Prop:=i.natAbs<2^n
theorem Sz.mono (h:Sz n i) (k:n<=m):Sz m i:=yb h (Nat.pow_le_pow_right (by decide) k)
theorem Sz.mul (h:Sz n i) (k:Sz m j):Sz (n+m) (i*j):=by
 unfold Sz at *;rw[Int.natAbs_mul,Nat.pow_add];exact Nat.mul_lt_mul'' h k
theorem Sz.add (h:Sz n i) (k:Sz n j):Sz (n+1) (i+j):=by
 unfold Sz at *;have:=Int.natAbs_add_le i j;rw[Nat.pow_succ];omega
theorem Sz.le (h:Sz n j) (h0:0<=i) (hl:i<=j):Sz n i:=by
 unfold Sz at *;have:i.natAbs<=j.natAbs:=nofun
 omega
theorem Sz.bits (h:Sz n i):Builtin.Int.intBits i<=n:=by
 unfold Builtin.Int.intBits;split
 ·exact yf _
 ·rename_i hz
  have:i.natAbs≠0:=by
   intro e;have:i=0:=Int.natAbs_eq_zero.mp e;subst this;exact hz rfl
  have:=(Nat.log2_lt this).mpr h;omega
def Rh (i j:Int):Prop:=Sz 20000 i/\Sz 20000 j
def Ri (_ j:Int):Prop:=0<j/\Sz 8999 j
theorem rW:oX X (binaryOp .Mult) (rI Rh fun i j=>.int (i*j)):=Qh fun _ _ _ _ _ _ _ hc q=>mul_int q (.of_bits (zL hc.1.bits (by decide)) (zL hc.2.bits (by decide)))
theorem rX:oX X (binaryOp .FloorDiv) (rI Ri fun i j=>.int (i/j)):=Qh fun i j _ _ _ _ _ hc q=>by
 have h1:(0:Int)<j:=hc.1;refine floordiv_int nofun (by rw[Int.fdiv_eq_ediv_of_nonneg i nofun];exact q) (.inl (PyProof.noPylong_of_log2 ?_));have h2:j.natAbs<2^8999:=hc.2;have h3:j.natAbs≠0:=nofun
 exact Nat.lt_trans ((Nat.log2_lt h3).mpr h2) (by decide)
theorem MC {ns:List Int} {j:Int} (h0:0<=j) (h1:j<ns.length):Ci (ns.map V.int) j=some (.int (ns.getD j.toNat 0)):=by
 obtain⟨k,rfl⟩:=Int.eq_ofNat_of_zero_le h0;refine bF ?_;have hk:k<ns.length:=nofun
 rw[zJ,zb hk];simp[List.getD,hk]
end
section
variable {X:Cx} {pos:Pos}
def Oi (K:yA):R2:=fun x y H Q=>∃l b xs zs,x=.ref l/\y=.ref b/\aL K H l xs/\aL K H b zs/\xs.length+zs.length<=sizeLine/\∀p,H p=none->Q (.ref p) (upd H p (.lst (xs++zs)))
theorem gJ:oX X (binaryOp .Add) (Oi X.K):=by
 intro pins s σ H x y v u Q I rx ry h;obtain⟨l,b,xs,zs,rfl,rfl,hH,hB,hz,q⟩:=h;cases rx;cases ry;obtain⟨its,r,p,z⟩:=I.list hH;obtain⟨jts,r',p',z'⟩:=I.list hB;have l1:=r.length;have l2:=r'.length;obtain⟨⟨cls,dd,data,sl⟩,ho,hc,n,hd⟩:=id p.isList;obtain⟨⟨cls2,dd2,data2,sl2⟩,ho2,hc2,n2,hd2⟩:=id p'.isList;simp only at hc hd hc2 hd2;subst hc hd hc2 hd2;refine concat_meets ⟨_,ho,rfl⟩ ⟨_,ho2,rfl⟩ noFill_list_add seq_list_add PySem.F.slot_list_add PySem.F.entry_list_add (PySem.F.args_list_add_2 _ _) (list_addW l b its.toArray jts.toArray n n2 dd dd2 sl sl2 (by rw[ya,ya];omega)) ⟨ho,ho2,?_⟩;have ea:its.toArray++jts.toArray=(its++jts).toArray:=by simp
 rw[ea];exact⟨.ref _,_,I.QP (t':=s.toks) (r.append r') (by rw[zg];omega),rfl,q _ I.fresh⟩
end
def AF (n:Nat) (x:Int×Int):Prop:=Sz n x.1/\Sz n x.2
theorem AF.red (ht:0<=t) (hb:0<b) (h1:Sz n t) (h2:Sz n b):AF n (Lm.red t b):=by
 obtain⟨g,g0,_,_,p,l⟩:=Lm.lB (t:=t) hb;exact⟨h1.le (Lm.xM ht) (Lm.xN ht),h2.le (Int.le_of_lt p) l⟩
theorem AF.add (hx:Lm.Rd x) (hy:Lm.Rd y) (h:AF n x) (k:AF m y):AF (n+m+1) (Lm.add x y):=by
 obtain⟨a,b,_⟩:=hx.pos;obtain⟨c,d,_⟩:=hy.pos;refine AF.red (Int.add_nonneg (Int.mul_nonneg a nofun) (Int.mul_nonneg c nofun)) (Int.mul_pos b d) ?_ ((h.2.mul k.2).mono nofun);refine Sz.add (h.1.mul k.2) ?_;have:=k.1.mul h.2;rw[Nat.add_comm] at this;exact this
def dec (n:Int):Str:=Str.ofString (toString n)
theorem kZ {x y:Str} (h:x.cps.toList=y.cps.toList):x=y:=by
 cases x;cases y;simp only[Str.mk.injEq];exact Array.toList_inj.mp h
theorem cD (x y:Str):(x++y).cps.toList=x.cps.toList++y.cps.toList:=Array.toList_append ..
theorem len_app (x y:Str):(x++y).length=x.length+y.length:=Array.size_append ..
theorem Kf (x y z:Str):x++y++z=x++(y++z):=kZ (by rw[cD,cD,cD,cD,zE])
theorem wO (m:Nat):(dec (m:Int)).cps.toList=(Nat.toDigits 10 m).map Char.toNat:=PySem.W.KIN.signs_num m
theorem Dn (m:Nat):(dec (m:Int)).length=(Nat.toDigits 10 m).length:=by
 have h:=congrArg List.length (wO m);rw[za,Array.length_toList] at h;exact h
theorem NT (h:c∈(Nat.toDigits 10 m).map Char.toNat):48<=c/\c<=57:=by
 obtain⟨ch,hc,e⟩:=zG.mp h;have r:=Nat.isDigit_of_mem_toDigits (by decide) (by decide) hc;rw[<-e];simp only[Char.isDigit,zN,decide_eq_true_eq] at r;exact⟨r.1,r.2⟩
section
variable {X:Cx}
end
section
variable {X:Cx}
def Pb:V->Option Int->Option Int->Hp->VK->Prop:=fun x lo hi H Q=>∃t:Str,x=.str t/\t.length<=sizeLine/\Q (.str (PySem.Txt.slice t lo hi)) H
theorem GP:MH X Pb:=by
 intro pins s σ H x v vl vu lo hi sl Q I rx hs pl pu h;obtain⟨t,rfl,hz,q⟩:=h;obtain⟨tk,rfl⟩:=rx;obtain⟨o,ho,hc,hd⟩:=hs;have fin:∀(l u:Option (Int×Tok)),l.map (·.1)=lo->u.map (·.1)=hi->partValue l=vl->partValue u=vu->
   ∃T id,typeLookup (.type T) "__getitem__"= pure (some (.builtin id))/\s.TypeIs (.str t tk) T/\wpAny (model X.prog X.w) X.A (getItem (.str t tk) (.ref sl)) (EP X pins σ Q) X.xe s:=by
  intro l u e1 e2 e3 e4;subst e1 e2 e3 e4;exact⟨"str",_,F.slot_str_getitem.lookup,typeIs_str _ _ _,wpAny_getItem_str_slice (l:=l) (u:=u) (st:=none) ⟨o,ho,hc,hd⟩ rfl
   (post_val_or_str ⟨zL (PySem.Txt.slice_le t _ _) hz,fun t' k=>⟨.str _,H,I.tok _,⟨_,rfl⟩,q⟩⟩)⟩
 cases pl with
 | none=>
  cases pu with
  | none=>exact fin none none rfl rfl rfl rfl
  | int j tj=>exact fin none (some (j,tj)) rfl rfl rfl rfl
 | int i ti=>
  cases pu with
  | none=>exact fin (some (i,ti)) none rfl rfl rfl rfl
  | int j tj=>exact fin (some (i,ti)) (some (j,tj)) rfl rfl rfl rfl
def Rc (x:Str):It:=⟨fun i _=>i<x.length,fun i H v H'=>H'=H/\∃c,x.cps[i]?=some c/\v=.str ⟨#[c]⟩,fun i _=>x.length<=i⟩
theorem KR {P:Program} {w:World} {K:yA} {tg:Expr} (x:Str) (t:Tok) (it:Addr) (ty:String) (hty:ty ="str_ascii_iterator"\/ty ="str_iterator"):Turn P w K tg (Rc x) [it] it (fun i h=>i<=x.length/\h.IsStrIter it ty x t i) where
 mem:=by simp
 obj:=fun i h st b hb=>by
  have e:b=it:=by simpa using hb
  subst e;obtain⟨_,o,e,c,d⟩:=st;exact⟨o,e,fun v z=>by rw[d] at z;cases z⟩
 keep:=fun i h h' st k=>⟨st.1,let ⟨o,ho,r⟩:=st.2;⟨o,k it (by simp) o ho,r⟩⟩
 item:=by
  intro X hP hw hK hc i pins s σ H E I hf st hg;subst hP hw hK;have W:Walks X.prog X.w X.A it [it] [it] x.cps.size (SignAt x) (fun i h=>h.IsStrIter it ty x t i):=by
   rcases hty with rfl | rfl
   ·exact Walks.strAscii (I.ok.hd hc) it x t
   ·exact Walks.strWide (I.ok.hd hc) it x t
  refine W.item i s _ _ hg st.2 fun v h' tk hv z' kk=>?_;obtain⟨c,u,hcx,rfl⟩:=hv;have I1:Inv X pins σ H {s with heap:=h',toks:=tk}:=I.turns hf fun b o hb e=>kk b o (by simpa using hb) e;obtain⟨o,e,cc,d⟩:=id z';have hgl:i<x.length:=hg;refine⟨_,rfl,B3 (s:={s with heap:=h',toks:=tk}) (n:=ty) e cc d ?_ ⟨.str ⟨#[c]⟩,H,I1,⟨u,rfl⟩,⟨rfl,c,hcx,rfl⟩,⟨hgl,z'⟩,fun b hb=>(hf b hb).1⟩⟩;rcases hty with rfl | rfl <;> decide
 done:=by
  intro X hP hw hK hc i pins s σ H E I hf st hg;subst hP hw hK;have hi:i=x.cps.size:=Nat.le_antisymm st.1 hg;subst hi;have W:Walks X.prog X.w X.A it [it] [it] x.cps.size (SignAt x) (fun i h=>h.IsStrIter it ty x t i):=by
   rcases hty with rfl | rfl
   ·exact Walks.strAscii (I.ok.hd hc) it x t
   ·exact Walks.strWide (I.ok.hd hc) it x t
  exact W.done s _ _ st.2 fun h' tk eb=>⟨rfl,I.turns hf fun b o hb e=>eb b o (by simpa using hb) e⟩
 self:=fun A i s Q E z h=>by
  rcases hty with rfl | rfl
  ·exact wpAny_pyIter_striter_ascii z.2 h
  ·exact wpAny_pyIter_striter_wide z.2 h
def Sr (tl:TE):TI:=fun σ H R=>tl σ H fun x H1=>∃t,x=.str t/\R (Rc t) H1
theorem LG {tg l:Expr} {tl:TE} (hl:PE X l tl):PI X tg l (Sr tl):=by
 intro pins s σ H R I h;refine cS (hl pins s σ H _ I h) fun v s1 ⟨x,H1,I1,r1,q1⟩=>?_;obtain⟨t,e,q⟩:=q1;subst e;obtain⟨tk,rfl⟩:=r1;refine wpAny_pyIter_strU ?_;refine⟨s1.heap.objs.size,[s1.heap.objs.size],_,_,H1,rfl,I1.kept (t':=s1.toks) fun b o e=>yu _ e,KR t tk _ (strIterType t) ?_,⟨yf _,_,yw _ rfl,rfl,rfl⟩,fun b hb=>?_,q⟩
 ·unfold strIterType
  split
  ·exact .inl rfl
  ·exact .inr rfl
 ·have e:b=s1.heap.objs.size:=by simpa using hb
  subst e;exact I1.vX (zk _) (I1.bZ.fresh (zk _))
theorem BA:∀(l:List (Str×Tok)),Vals ((l.map (·.1)).map V.str) (strValues l)
 | []=>.nil
 | (x,t)::r=>.cons ⟨t,rfl⟩ (BA r)
def Pa:V->List V->Hp->VK->Prop:=fun x vs H Q=>∃(t y:Str),x=.str t/\vs=[.str y]/\y.length=1/\t.length+2<=sizeLine/\∀l,H l=none->Q (.ref l) (upd H l (.lst ((PySem.Txt.split t y).map V.str)))
theorem jk:OC X "str.split" Pa:=by
 intro pins s σ H x vs v us Q I rx rv h;obtain⟨t,y,rfl,rfl,hy,hz,q⟩:=h;obtain⟨tk,rfl⟩:=rx;obtain⟨u,rfl,tk',rfl⟩:=rv.one;have hy':(y.length == 0)=false:=by rw[hy];rfl
 have hle:=split_le t y;have fin:∀(l:List (Str×Tok)) (k:Nat),l.map (·.1)=PySem.Txt.split t y->
   EP X pins σ Q (.ref s.heap.objs.size) {s with heap:=s.heap.push {cls:=.type "list",data:=.seq (strValues l).toArray},toks:=k}:=fun l k e=>
  ⟨.ref _,_,I.QP (t':=k) (by rw[<-e];exact BA l) (by rw[za];omega),rfl,q _ I.fresh⟩
 cases h1:(decide (t.length<y.length)||decide (Builtin.Str.strKind t<Builtin.Str.strKind y))
 ·cases hf:(Builtin.Str.occurrences t y 0 t.length (t.length+1)).isEmpty
  ·have es:PySem.Txt.split t y=Builtin.Str.partsBetween t (Builtin.Str.occurrences t y 0 t.length (t.length+1)) y.length:=by
    unfold PySem.Txt.split;rw[h1,hf];rfl
   refine call_meets F.slot_str_split (typeIs_str s t tk) F.entry_str_split (F.args_str_split_2 _ _) (meets_str_split_sep t y tk tk' h1 hy' hf nofun (by rw[<-es];omega)) ?_;rw[strsFrom_eq];exact fin (numbered s.toks _) _ ((numbered_texts _ _).trans es.symm)
  ·have es:PySem.Txt.split t y=[t]:=by
    unfold PySem.Txt.split;rw[h1,hf];rfl
   refine call_meets F.slot_str_split (typeIs_str s t tk) F.entry_str_split (F.args_str_split_2 _ _) (meets_str_split_not_found t y tk tk' h1 hy' hf) ?_;exact fin [(t,tk)] _ es.symm
 ·have es:PySem.Txt.split t y=[t]:=by
   unfold PySem.Txt.split;rw[h1];rfl
  refine call_meets F.slot_str_split (typeIs_str s t tk) F.entry_str_split (F.args_str_split_2 _ _) (meets_str_split_cannot_occur t y tk tk' h1) ?_;exact fin [(t,tk)] _ es.symm
def Nh:V->List V->Hp->VK->Prop:=fun x vs H Q=>∃(t y:Str),x=.str t/\vs=[.str y]/\Q (.bl (decide (0+y.length<=t.length)&&Builtin.Str.subAt t y 0)) H
theorem A7:OC X "str.startswith" Nh:=by
 intro pins s σ H x vs v us Q I rx rv h;obtain⟨t,y,rfl,rfl,q⟩:=h;obtain⟨tk,rfl⟩:=rx;obtain⟨u,rfl,tk',rfl⟩:=rv.one;exact call_meets F.slot_str_startswith (typeIs_str s t tk) F.entry_str_startswith (F.args_str_startswith_2 _ _) (gives_str_startswith t y tk tk').meets ⟨.bl _,H,I,rfl,q⟩
theorem DG:fO X (.type "int") (fun xs H Q=>∃(t:Str) (n:Int),xs=[.str t]/\PySem.intText? t=some n/\t.length<=640/\Q (.int n) H):=by
 intro pins s σ H xs us Q I r h;obtain⟨t,n,rfl,hn,hl,q⟩:=h;obtain⟨u,rfl,tk,rfl⟩:=vals1 r;exact PySem.W.KIN.call_text hn hl ⟨.int n,H,I.tok _,⟨_,rfl⟩,q⟩
end
theorem join_one (sep x:Str):Str.join sep [x]=x:=rfl
theorem fb (sep x y:Str) (r:List Str):Str.join sep (x::y::r)=x++sep++Str.join sep (y::r):=rfl
theorem Fv:∀{ps qs:List Str},ps≠[]->qs≠[]->(∀p∈ps,c∉p.cps.toList)->(∀q∈qs,c∉q.cps.toList)->Str.join ⟨#[c]⟩ ps=Str.join ⟨#[c]⟩ qs->ps=qs
 | [],_,h,_,_,_,_=>absurd rfl h
 | _,[],_,h,_,_,_=>absurd rfl h
 | [p],[q],_,_,_,_,h=>by rw[join_one,join_one] at h;rw[h]
 | [p],q::q2::r,_,_,hp,_,h=>by
  rw[join_one,fb] at h;have e:=congrArg (fun z:Str=>z.cps.toList) h;simp only[cD] at e;exact absurd (show c∈p.cps.toList by rw[e];simp) (hp p zp)
 | p::p2::r,[q],_,_,_,hq,h=>by
  rw[join_one,fb] at h;have e:=congrArg (fun z:Str=>z.cps.toList) h;simp only[cD] at e;exact absurd (show c∈q.cps.toList by rw[<-e];simp) (hq q zp)
 | p::p2::r,q::q2::r',_,_,hp,hq,h=>by
  rw[fb,fb] at h;have e:=congrArg (fun z:Str=>z.cps.toList) h;simp only[cD,zE] at e;obtain⟨e1,e2⟩:=Lm.IV (hp p zp) (hq q zp) (show p.cps.toList++c::(Str.join ⟨#[c]⟩ (p2::r)).cps.toList=q.cps.toList++c::(Str.join ⟨#[c]⟩ (q2::r')).cps.toList from e);have ih:=Fv (ps:=p2::r) (qs:=q2::r') (by simp) (by simp) (fun z hz=>hp z (zm _ hz)) (fun z hz=>hq z (zm _ hz)) (kZ e2);rw[ih,kZ e1]
theorem gr (ne:ps≠[]) (fr:∀p∈ps,c∉p.cps.toList):PySem.Txt.split (Str.join ⟨#[c]⟩ ps) ⟨#[c]⟩=ps:=by
 refine Fv ?_ ne (PySem.StrLaws.split_free _ c) fr (PySem.StrLaws.join_split _ _);intro z;have:=split_pos (Str.join ⟨#[c]⟩ ps) ⟨#[c]⟩;rw[z] at this;exact absurd this (by decide)
theorem Cv (ha:c∉a.cps.toList) (hb:c∉b.cps.toList):PySem.Txt.split (a++⟨#[c]⟩++b) ⟨#[c]⟩=[a,b]:=by
 refine gr (ps:=[a,b]) (by simp) fun p hp=>?_;rcases zC.mp hp with rfl | hp
 ·exact ha
 ·rw[zy.mp hp];exact hb
theorem split1 (ha:c∉a.cps.toList):PySem.Txt.split a ⟨#[c]⟩=[a]:=by
 refine gr (ps:=[a]) (by simp) fun p hp=>?_;rw[zy.mp hp];exact ha
theorem O4 (ha:c∉a.cps.toList) (hb:c∉b.cps.toList) (hd:c∉d.cps.toList):PySem.Txt.split (a++⟨#[c]⟩++b++⟨#[c]⟩++d) ⟨#[c]⟩=[a,b,d]:=by
 have e:a++(⟨#[c]⟩:Str)++b++⟨#[c]⟩++d=Str.join ⟨#[c]⟩ [a,b,d]:=by
  rw[fb,fb,join_one];simp only[Kf]
 rw[e];refine gr (ps:=[a,b,d]) (by simp) fun p hp=>?_;rcases zC.mp hp with rfl | hp
 ·exact ha
 rcases zC.mp hp with rfl | hp
 ·exact hb
 ·rw[zy.mp hp];exact hd
theorem wN (h:n<0):dec n ="-" ++ dec (-n):=by
 obtain⟨m,rfl⟩:∃m:Nat,n=Int.negSucc m:=⟨(-n-1).toNat,nofun⟩
 refine kZ ?_;rw[cD];have e1:(dec (Int.negSucc m)).cps.toList=("-" ++ toString (m+1)).toList.map Char.toNat:=PyProof.Rows.signs_ofString _;have e2:(dec (-(Int.negSucc m))).cps.toList=(toString (m+1)).toList.map Char.toNat:=PyProof.Rows.signs_ofString _;rw[e1,e2,String.toList_append,zj];rfl
theorem kP {n:Nat} {c:Nat} (h:c∈(dec (n:Int)).cps.toList):48<=c/\c<=57:=by
 rw[wO] at h;exact NT h
theorem J3 {n:Nat} (h:(dec (n:Int)).cps[0]?=some 48):(dec (n:Int)).length=1:=by
 rcases Nat.eq_zero_or_pos n with rfl | hn
 ·rw[Dn];decide
 ·obtain⟨c,r,e,hc⟩:=Lm.Md n hn
  rw[<-Array.getElem?_toList,wO,e] at h;simp only[zh,List.getElem?_cons_zero,Option.some.injEq] at h;exact absurd (Char.toNat_inj.mp (by rw[h];rfl)) hc
theorem FT {n:Nat}:1<=(dec (n:Int)).length:=by
 rw[Dn];exact PySem.toDigits_len_ge 10 n
theorem B9 {n k:Nat} (hk:0<k) (h:n<10^k):(dec (n:Int)).length<=k:=by rw[Dn];exact Lm.Pz hk h
theorem PQ (a:Option Int) (n:Nat):Builtin.Str.strSliceIndices a none 1 n=Builtin.Str.strSliceIndices a (some (n:Int)) 1 n:=by
 have h:¬((n:Int)<0):=nofun
 have e:max (0:Int) (min (n:Int) (n:Int))=n:=nofun
 simp only[Builtin.Str.strSliceIndices,h,if_false,e,show((1:Int)>0)=True from by simp,if_true]
theorem PN (b:Option Int) (n:Nat):Builtin.Str.strSliceIndices none b 1 n=Builtin.Str.strSliceIndices (some ((0:Nat):Int)) b 1 n:=by
 have h:¬(((0:Nat):Int)<0):=nofun
 have e:max (0:Int) (min ((0:Nat):Int) (n:Int))=0:=nofun
 simp only[Builtin.Str.strSliceIndices,h,if_false,e,show((1:Int)>0)=True from by simp,if_true]
theorem BF (x:Str) (hab:a<=b) (hb:b<=x.length):(PySem.Txt.slice x (some (a:Int)) (some (b:Int))).cps.toList=(x.cps.toList.drop a).take (b-a):=by
 unfold PySem.Txt.slice;split
 ·rename_i h
  rw[PySem.StrLaws.strSliceIndices_plain hab hb] at h;simp only[beq_self_eq_true,Bool.true_and,beq_iff_eq,za,zQ] at h;have hl:x.cps.toList.length=x.length:=Array.length_toList;have ea:a=0:=nofun
  have eb:b-a=x.cps.toList.length:=nofun
  rw[eb,ea,List.drop_zero,zM]
 ·exact PySem.StrLaws.sliced_plain x hab hb
theorem pW (x:Str) (h:a<=x.length):(PySem.Txt.slice x (some (a:Int)) none).cps.toList=x.cps.toList.drop a:=by
 have e:PySem.Txt.slice x (some (a:Int)) none=PySem.Txt.slice x (some (a:Int)) (some ((x.length:Nat):Int)):=by
  unfold PySem.Txt.slice;rw[PQ]
 have hl:x.cps.toList.length=x.length:=Array.length_toList;rw[e,BF x h (zk _),List.take_of_length_le (by rw[List.length_drop];omega)]
theorem EI (x:Str) (h:b<=x.length):(PySem.Txt.slice x none (some (b:Int))).cps.toList=x.cps.toList.take b:=by
 have e:PySem.Txt.slice x none (some (b:Int))=PySem.Txt.slice x (some ((0:Nat):Int)) (some (b:Int)):=by
  unfold PySem.Txt.slice;rw[PN]
 rw[e,BF x (yf _) h,List.drop_zero,Nat.sub_zero]
theorem qy {K:yA} {mg:Str->Option Value} {base:Heap} {x:Str} {C:Addr} {bm:List Value} {newId:String} (P:Program) (m:Mod K mg base) (e:PySem.W.nsIn K mainGlobals x=some (some (.ref C)))
  (q:PySem.W.excIn K C bm newId=true):OwnCls x C bm newId mg base:=by
 obtain⟨mb,hb,hbb⟩:=m.blt;obtain⟨o0,es0,ep0,hg0,hd0,sk0,look⟩:=m.glob;have fr:∀y,y∉(es0.toList.filterMap fun(d:DictEntry)=>match d.key with | .str z _=>some z | _=>none)->mg y=none:=fun y hy=>by
  rw[<-look y];show(es0.find? fun d=>d.key.isStr y).map (·.val)=none;cases hf:es0.find? fun d=>d.key.isStr y with
  | none=>rfl
  | some d=>
   exfalso;have hm:=Array.mem_of_find?_eq_some hf;have hk:=Array.find?_some hf;obtain⟨z,t,ez⟩:=sk0 d hm;have ezy:z=y:=by rw[ez] at hk;exact eq_of_beq (show(z == y)=true from hk)
   exact hy (List.mem_filterMap.mpr ⟨d,by simpa using hm,by rw[ez,ezy]⟩)
 exact PySem.W.own_of_in (p:=P) (loose:=es0.toList.filterMap fun(d:DictEntry)=>match d.key with | .str z _=>some z | _=>none) m.PB ⟨m.glob,hb,m.nolimit,hbb,fun y _ hl _ _ _=>fr y hl⟩ e q
structure Kz (P:Program) (w:World) (fs:List Addr) (H H':Hp) (h B h':Heap):Prop where
 keep:∀b o,h.get? b=some o->H b=none->b∉fs->B.get? b=some o
 slot:∀b o,h.get? b=some o->H b=none->b∈fs->∃sl,h'.get? b=some {o with slots:=sl}
 free:∀b o,h.get? b=some o->H b=none->H' b=none
 there:∀b o,h.get? b=some o->b∉fs->∃o',B.get? b=some o'
 oN:∀b xs,H b=some (.tup xs)->H' b=some (.tup xs)
 mR:∀b o u,H b=some (.mW o u)->H' b=some (.mW o u)
 oO:∀b ps,H b=some (.KW ps)->∃more,H' b=some (.KW (ps++more))
 bZ:qO P w H' B
 lg:B.StaysIn h'
section
variable {P:Program} {w:World} {fs:List Addr} {H H':Hp} {h B h' h2:Heap}
theorem Kz.un (f:Kz P w fs H H' h B h') (FD:∀b∈fs,H b=none):Un fs [] H H' h h' where
 keep:=fun b o e n hb _=>f.lg b o (f.keep b o e n hb)
 slot:=fun b o e n hb _=>f.slot b o e n hb
 free:=fun b o e n _=>f.free b o e n
 there:=fun b o e _=>by
  by_cases hb:b∈fs
  ·obtain⟨sl,q⟩:=f.slot b o e (FD b hb) hb
   exact⟨_,q⟩
  ·obtain⟨o',q⟩:=f.there b o e hb
   exact⟨o',f.lg b o' q⟩
 oN:=f.oN
 mR:=f.mR
 oO:=f.oO
theorem Kz.on (f:Kz P w fs H H' h B h') (u:h'.UpToSlots h2) (st:B.StaysIn h2) (nf:∀b∈fs,∃o,h'.get? b=some o/\∀vs,o.data≠.fields vs):Kz P w fs H H' h B h2:=
 ⟨f.keep,fun b o e n hb=>by
  obtain⟨sl,q⟩:=f.slot b o e n hb;obtain⟨o1,q1,nd⟩:=nf b hb;rw[q] at q1;cases q1;obtain⟨sl2,q2⟩:=u b _ q nd;exact⟨sl2,q2⟩,f.free,f.there,f.oN,f.mR,f.oO,f.bZ,st⟩
end
def Gv (P:Program) (w:World):Ih:=fun outer H s E e s'=>∃(a:Addr) (cls a0:Value) (B:Heap) (H':Hp),e=.ref a/\s'.os=s.os/\AllBare s'.gens/\Heap.FlyingW B outer a cls a0 s'.heap/\Kz P w (pN outer) H H' s.heap B s'.heap/\E cls none H'
theorem Mi (hf:env.frame=some L):pN (env::outer)=L::pN outer:=by
 unfold pN;rw[List.filterMap_cons,hf]
def OT (C:Addr) (te:TA) (E:XK):TS:=fun _ σ H=>te σ H fun vs H1=>vs.length<=sizeLine/\E (.ref C) none H1
section
variable {P:Program} {w:World} {K:yA} {mg:Str->Option Value} {base:Heap} {N:List Str} {qual:Str} {scope:Scope} {f:Addr} {cdv:Value} {A:Around} {outer:List Env} {s₀:Shared} {H₀:Hp} {E:XK}
theorem EY
  (hC0:PySem.W.nsIn K mainGlobals x=some (some (.ref C))) (hQ0:PySem.W.excIn K C bm newId=true) (FB:ExcBaseFacts Bn newId initId bm) (hg:Gl (kR (Gv P w) P w K mg base N qual scope f cdv A outer s₀ H₀ E) x)
  (ha:PA (kR (Gv P w) P w K mg base N qual scope f cdv A outer s₀ H₀ E) (e₀::es) ta) (hd:autoParam ((x == ("__debug__": Str))=false) qb_)
  (hs:autoParam (starEach (e₀::es) (kR (Gv P w) P w K mg base N qual scope f cdv A outer s₀ H₀ E).env=(false,eval e₀ (kR (Gv P w) P w K mg base N qual scope f cdv A outer s₀ H₀ E).env)::starEach es (kR (Gv P w) P w K mg base N qual scope f cdv A outer s₀ H₀ E).env) qe_)
  (hpl:autoParam ((backTo cpos (starEach es (kR (Gv P w) P w K mg base N qual scope f cdv A outer s₀ H₀ E).env)).any (·.1)=false) qe_) :
  PS (kR (Gv P w) P w K mg base N qual scope f cdv A outer s₀ H₀ E) (.Raise (some (.Call (.Name x np) (e₀::es) [] cpos)) none pos) (OT C ta E):=by
 intro pins s σ H D I h;have O:OwnCls x C bm newId mg base:=qy P I.ok.mod hC0 hQ0;obtain⟨tl,Nn,nm,q,bs,hdct,sn,sub,ab,col,dd,k0,k1,k2,k3,k5,mN,hC,hN,hni,T⟩:=O.obj;refine wpAny_Raise_call_subT (C:=C) (nm:=nm) (q:=q) (N:=Nn) (bs:=bs) (bm:=tl) (hdct:=hdct) (sn:=sn) (sub:=sub) (ab:=ab) (col:=col) (dd:=dd) (k0:=k0) (k1:=k1) (k2:=k2) (k3:=k3) (k5:=k5)
  FB (mN:=mN) (T.hasType FB.hasBase) (I.ok.hd rfl) (by rw[hs];show(false||(backTo cpos (starEach es (kR (Gv P w) P w K mg base N qual scope f cdv A outer s₀ H₀ E).env)).any (·.1))=false;rw[hpl];rfl) hni (jV I hg O.bound ⟨rfl,?_⟩ hd)
 have hA:=ha cpos pins s σ H _ I h;rw[hs] at hA ⊢;refine Calls.evalArgs_plain (wpAny_mono hA (fun us s2 ⟨vs,H2,I2,r2,hl,q2⟩=>⟨rfl,?_,I2.bk _ _ hC,hN.keeps I2.bk,T.keeps I2.bk,fun h' e mk=>?_⟩) fun _ _ y=>y)
 ·show us.length<=sizeLine
  rw[<-r2.length];exact hl
 show wpAny (model P w) (A.deeper (envOfC qual scope s₀.heap.objs.size f cdv)) (leaving (envOfC qual scope s₀.heap.objs.size f cdv) (.ref e)) (fun _ s''=>Gv P w outer H₀ s₀ E (.ref e) s'') (fun e' s''=>Gv P w outer H₀ s₀ E e' s'') {s2 with heap:=h'};have hfr:pN (envOfC qual scope s₀.heap.objs.size f cdv::outer)=s₀.heap.objs.size::pN outer:=Mi rfl;have hst:s2.heap.FunFrames base (envOfC qual scope s₀.heap.objs.size f cdv::outer):=I2.stack;have hin:∀env∈(envOfC qual scope s₀.heap.objs.size f cdv::outer),∀a,env.frame=some a->a∈pN (envOfC qual scope s₀.heap.objs.size f cdv::outer):=fun env he a hf=>List.mem_filterMap.mpr ⟨env,he,hf⟩;have hl:=PySem.W.funFrames_hide (as:=pN (envOfC qual scope s₀.heap.objs.size f cdv::outer)) hst hin;refine wpAny_leaves_madeW (base:=PySem.W.hideAll s2.heap (pN (envOfC qual scope s₀.heap.objs.size f cdv::outer))) (h:=s2.heap) I2.ok.frames rfl (fun b o q=>PySem.W.of_hideAll _ q) hl mk (fun h'' t fl _ _ ups=>?_);have low:∀b o,s₀.heap.get? b=some o->b≠s₀.heap.objs.size:=fun b o e z=>absurd (yx e) (by rw[z];exact ye _);have nin:∀b o,s₀.heap.get? b=some o->b∉pN outer->b∉pN (envOfC qual scope s₀.heap.objs.size f cdv::outer):=fun b o e n z=>by
  rw[hfr] at z;rcases zC.mp z with z | z
  ·exact low b o e z
  ·exact n z
 have vT:∀b:Addr,b∉(kR (Gv P w) P w K mg base N qual scope f cdv A outer s₀ H₀ E).ex:=fun b z=>absurd (show b∈([]:List Addr) from z) (by simp);refine⟨e,.ref C,.ref t,_,H2,rfl,I2.os,I2.bare,fl,⟨fun b o q n hb=>PySem.W.hideAll_get _ (I2.base.keep b o q n hb (vT b)) (nin b o q hb),fun b o q n hb=>?_,fun b o q n=>I2.base.free b o q n (vT b),fun b o q hb=>?_,I2.base.oN,I2.base.mR,I2.base.oO,fun a o q=>?_,fl.1⟩,q2⟩
 ·obtain⟨sl,e1⟩:=I2.base.slot b o q n hb (vT b)
  obtain⟨_,o1,e2,nd⟩:=I2.ok.oV.mem hb;have e3:=mk.keeps _ _ e1;have e2':s₀.heap.get? b=some o1:=e2;rw[q] at e2';cases e2';obtain⟨sl2,e4⟩:=ups b _ e3 nd;exact⟨sl2,e4⟩
 ·obtain⟨o',e1⟩:=I2.base.there b o q (vT b)
  exact⟨o',PySem.W.hideAll_get _ e1 (nin b o q hb)⟩
 ·refine(I2.bZ a o q).lg (fun b u hb e1=>PySem.W.hideAll_get _ e1 fun z=>?_) (fun _ z=>z) fun _ _ z=>z
  have n:=I2.qT b z;rcases hb with rfl | hb
  ·rw[q] at n;cases n
  ·rw[hb] at n;cases n
theorem MM.S6 {x:Str} {st:Stmt} {fd:FuncData} {ps:List Str} {k:Nat} {sp:Sp} (F:MM K x qual st f fd) (S:aD N ps (ao st)) (len:∀vs H Q E,sp vs H Q E->vs.length=ps.length)
  (hbody:∀(cdv:Value) (A:Around) (outer:List Env) (s:Shared) (H:Hp) (vs:List V) (Q:VK) (E:XK),gj k (A.deeper (envOfC qual (ao st) s.heap.objs.size f cdv))->sp vs H Q E->
   ∃t,Eb (kR (Gv P w) P w K mg base N qual (ao st) f cdv A outer s H E) (cC st) t/\t {nx:=fun _ H'=>Q .bE H',rt:=Q} (start N vs) H):dM P w K mg base (Gv P w) (k+1) f fd ps sp:=by
 obtain⟨oc,od,kV,doc,pm,an,cdv,ct,osl,rfl,lk,hcd⟩:=F.ex;exact Ox lk hcd S len fun A outer s H vs Q E hr hsp=>hbody cdv A outer s H vs Q E hr hsp
end
abbrev Cx.held (X:Cx) (e:Value):Cx:={X with A:=X.A.mark (some e),calm:=false}
theorem Cx.Ok.held {X:Cx} (ok:X.Ok) (e:Value):(X.held e).Ok:=
 ⟨ok.mod,ok.kind,ok.glob,ok.blt,ok.above,ok.inj,ok.has,ok.P5,fun z=>(nomatch (show false=true from z)),ok.frames,ok.Qf,ok.Rq,ok.bs,ok.Kw,ok.vT,ok.Hr,ok.oV,ok.FD⟩
theorem Cx.Ok.kX {X:Cx} {e:Value} (ok:(X.held e).Ok) (hd:X.calm=true->X.A.handled=none):X.Ok:=
 ⟨ok.mod,ok.kind,ok.glob,ok.blt,ok.above,ok.inj,ok.has,ok.P5,hd,ok.frames,ok.Qf,ok.Rq,ok.bs,ok.Kw,ok.vT,ok.Hr,ok.oV,ok.FD⟩
section
variable {X:Cx} {pins:List (Addr×Obj)} {σ:St} {H:Hp} {s:Shared} {e:Value}
theorem Inv.held (I:Inv X pins σ H s) (e:Value):Inv (X.held e) pins σ H s:=⟨I.ok.held e,I.os,I.bare,I.base,I.loc,I.cell,I.free,I.jY,I.pin,I.bZ,I.len⟩
theorem Inv.kX (I:Inv (X.held e) pins σ H s) (hd:X.calm=true->X.A.handled=none):Inv X pins σ H s:=⟨I.ok.kX hd,I.os,I.bare,I.base,I.loc,I.cell,I.free,I.jY,I.pin,I.bZ,I.len⟩
theorem SP.kX (hd:X.calm=true->X.A.handled=none) (h:SP (X.held e) pins D f s'):SP X pins D f s':=by
 cases f with
 | next=>obtain⟨σ',H',I,q⟩:=h;exact⟨σ',H',I.kX hd,q⟩
 | brk=>obtain⟨σ',H',I,q⟩:=h;exact⟨σ',H',I.kX hd,q⟩
 | cont=>obtain⟨σ',H',I,q⟩:=h;exact⟨σ',H',I.kX hd,q⟩
 | ret u=>obtain⟨v,σ',H',I,r,q⟩:=h;exact⟨v,σ',H',I.kX hd,r,q⟩
end
def Qu (i:Nat) (sp:Sp) (t:TA) (C:Addr) (th:TS):TS:=fun D σ H=>t σ H fun vs H1=>sp vs H1 (fun v H2=>bc i v σ H2 D.nx) fun cls _ H2=>cls=.ref C/\th D σ H2
section
variable {X:Cx} {k:Nat} {f:Addr} {fd:FuncData} {ps:List Str} {sp:Sp} {fx cn x:Str} {p pos cpos pa tpos np hpos:Pos} {e₀:Expr} {es:List Expr} {t:TA} {i:Nat} {C:Addr} {bm:List Value} {newId:String} {b₀:Stmt} {suite:List Stmt} {th:TS}
theorem Nl (F:dM X.prog X.w X.K X.mg X.base (Gv X.prog X.w) k f fd ps sp) (hr:gj k X.A) (hg:Gl X fx) (hm:X.mg fx=some (.ref f)) (hk:PySem.W.keepIn X.K (.ref f)=true) (hb:Binds X.K fd ps []) (ha:PA X.IE (e₀::es) t)
  (hc:X.calm=true) (hN:X.N.Nodup) (hi:X.N[i]?=some x) (hx:Loc X.env.scope x) (hgc:Gl X cn) (hC0:PySem.W.nsIn X.K mainGlobals cn=some (some (.ref C))) (hQ0:PySem.W.excIn X.K C bm newId=true) (hbase:bm.contains (.type "BaseException")=true) (hstk:X.stack=X.env::X.outer) (hfrm:X.env.frame=some X.env.locals)
  (hsu:∀e,Eb (X.held e).IE (b₀::suite) th)
  (hdb:autoParam ((fx == ("__debug__": Str))=false) qb_) (hdc:autoParam ((cn == ("__debug__": Str))=false) qb_) (he:autoParam (starEach (e₀::es) X.env=(false,eval e₀ X.env)::starEach es X.env) qe_) (hpl:autoParam ((backTo cpos (starEach es X.env)).any (·.1)=false) qe_)
  (hs:autoParam (swapsWith (.Call (.Name fx p) (e₀::es) [] cpos) (some (.Name x tpos)) pa.line X.env=pure false) qe_) (hf:autoParam (X.fn x=true\/X.env.scope.names.lookup x=some .local) qa_) :
  PS X (.Try [.Assign [.Name x tpos] (.Call (.Name fx p) (e₀::es) [] cpos) pa] [.ExceptHandler (some (.Name cn np)) none (b₀::suite) hpos] [] [] pos) (Qu i sp t C th):=by
 intro pins s σ H D I h;have O:OwnCls cn C bm newId X.mg X.base:=qy X.prog I.ok.mod hC0 hQ0;refine wpAny_Try_except (wpAny_execs_cons ?_);refine wpAny_Assign_Name ?_ hs;refine wpAny_Call_Name_kw (jV I hg hm ?_ hdb);have hA:wpAny (model X.prog X.w) X.A (spliced (backTo cpos (starEach (e₀::es) X.env))) (AP X.IE pins σ _) (fun _ _=>False) s:=ha cpos pins s σ H _ (I.qQ _) h;refine PySem.W.callWith_K (h₀:=X.base) I.ok.mod.PB hk (wpAny_mono hA (fun us s1 ⟨vs,H1,I1',r,q⟩=>⟨I1'.sr,?_⟩) fun _ _ z=>z.elim) he hpl;have I1:Inv X pins σ H1 s1:=I1'.gZ;have hl:us.length=ps.length:=by rw[<-r.length];exact F.len _ _ _ _ q
 refine wpAny_call (codeAny_mono (F.run X.A X.stack s1 H1 ⟨us,[]⟩ us vs _ _ hr I1.NP (by have:=hb s1 us I1.sr (by rw[zU];exact hl);rw[zU] at this;exact this) r q) fun rr s' hq=>?_);cases rr with
 | ok fl=>
  cases fl with
  | ret u=>
   obtain⟨v,H2,I2,r2,q2⟩:=I1.after hq;refine m6 I2 hN hi hx r2 (fun s2 I3=>?_) hf;exact wpAny_execs_nil (wpAny_execs_nil ⟨_,H2,I3,q2⟩)
  | next=>exact False.elim hq
  | brk=>exact False.elim hq
  | cont=>exact False.elim hq
 | error ev=>
  obtain⟨a,cls,a0,B,H',rfl,os,bare,fl,fly,⟨rfl,q2⟩⟩:=hq;have FD:∀b∈pN X.stack,H1 b=none:=I1.qT;have nf:∀{hh:Heap},Heap.FunFrames hh B X.stack->∀b∈pN X.stack,∃o,hh.get? b=some o/\∀vs,o.data≠.fields vs:=fun hF b hb=>(hF.mem hb).2;have back:∀(hh:Heap),Kz X.prog X.w (pN X.stack) H1 H' s1.heap B hh->Inv X pins σ H' {s' with heap:=hh}:=fun hh fy=>
   I1.Mx (s':={s' with heap:=hh}) (ch:=[]) os (fy.un FD) (fy.bZ.kept fy.lg) bare fun b z=>absurd z (by simp)
  have hfr:X.A.frames=some (X.env::X.outer):=by rw[<-hstk];exact I1.ok.frames
  refine wpAny_looks_onW hfr hfrm (by rw[<-hstk];exact fl) fun h4 held4 up4=>?_;refine wpAny_landsW held4 fun h5 fl5 up5=>?_;have fl5':Heap.FlyingW B X.stack a (.ref C) a0 h5:=by rw[hstk];exact fl5
  have fy5:Kz X.prog X.w (pN X.stack) H1 H' s1.heap B h5:=fly.on (up4.trans up5) fl5.1 (nf fl.2.2.1);have I5:=back h5 fy5;obtain⟨ob,hob,hobc⟩:=fl5'.there;obtain⟨tl,Nn,nm,qn,bs,hdct,sn,sub,ab,col,dd,k0,k1,k2,k3,k5,mN,hC,hN',hni,T⟩:=O.obj;refine wpAny_handleBy_cons (codeAny_handlers_test (jV (X:=X.held (.ref a)) (I5.held _) hgc O.bound ?_ hdc)) (by intro q;cases q);refine wpAny_excMatches_sub_self (I5.bk _ _ hC) hob hobc (T.hasType hbase) (codeAny_handlers_suite ?_);refine lands_againW fl5' fun h6 fl6 up6=>?_;have fy6:Kz X.prog X.w (pN X.stack) H1 H' s1.heap B h6:=fy5.on up6 fl6.1 (nf fl5'.2.2.1);have I6:=back h6 fy6;refine wpAny_mono (hsu (.ref a) pins _ σ H' D ((I6.held _).qQ _) q2) (fun fl s7 z=>?_) fun _ _ z=>z.elim;exact SP.kX I.ok.hd (SP.gZ z)
end
section
variable {X:Cx}
theorem K5 {zs:List Str} {its:List Value} (r:Vals (zs.map V.str) its) {j:Nat} (h:j<its.length):∃z t,zs[j]?=some z/\its[j]=.str z t:=by
 have hl:zs.length=its.length:=by have:=r.length;rw[za] at this;exact this
 obtain⟨u,hu,ru⟩:=r.get (i:=j) (x:=.str (zs[j]'nofun)) (by rw[zJ,zb nofun];rfl);obtain⟨t,rfl⟩:=ru;rw[zb h] at hu;exact⟨_,t,zb nofun,yj hu⟩
end
section
variable {K:yA} {D x:Addr} {prog:Program} {w:World} {A:Around} {E:Value->Shared->Prop} {h:Heap} {g:Array GenState} {d:Drawn} {t:Nat} {os:OsState}
open Builtin Builtin.ObjectAttr Builtin.Getset_descriptor in
end
section
variable {X:Cx}
end
theorem cz.here (x:cz P w H h a o):∃ob,h.get? a=some ob:=by
 cases o with
 | lst xs=>obtain⟨_,_,_,_,e⟩:=x;exact⟨_,e⟩
 | tup xs=>obtain⟨_,_,_,o,e,_⟩:=x;exact⟨_,e⟩
 | dK kvs=>obtain⟨_,_,_,_,o,_,_,e,_⟩:=x;exact⟨_,e⟩
 | dT kvs=>obtain⟨_,_,_,_,o,_,_,e,_⟩:=x;exact⟨_,e⟩
 | set S n=>obtain⟨o,_,_,_,e,_⟩:=x;exact⟨_,e⟩
 | ins C dx fs=>obtain⟨_,_,_,e,_⟩:=x;exact⟨_,e⟩
 | own y=>exact x
 | xd fs=>obtain⟨_,⟨_,_,_,e,_⟩,_⟩:=x;exact⟨_,e⟩
 | JA lo hi=>obtain⟨_,_,_,e⟩:=x;exact⟨_,e⟩
 | mW ob u=>obtain⟨e,_⟩:=x;exact⟨_,e⟩
 | KW ps=>exact⟨_,x⟩
 | met f y=>exact⟨_,x⟩
 | ext φ=>exact x.2.1
section
variable {X:Cx} {pins:List (Addr×Obj)} {σ:St} {H:Hp} {s:Shared}
theorem Inv.Qr (I:Inv X pins σ H s) (hn:H a=none) (h0:X.s₀.heap.get? a=none) (hl:a≠X.env.locals) (hc:∀x c,X.env.cells.lookup x=some c->c≠a) (hp:∀p∈X.pn++pins,p.1≠a)
  (new:cz X.prog X.w (upd H a o) s.heap a o):Inv X pins σ (upd H a o) s where
 ok:=I.ok
 os:=I.os
 bare:=I.bare
 base:=⟨I.base.keep,I.base.slot,fun b ob e n hx=>by rw[aG (fun z=>by rw[z,h0] at e;cases e)];exact I.base.free b ob e n hx,I.base.there,
  fun b xs e=>by have:=I.base.oN b xs e;rw[aG (bu this hn)];exact this,fun b ob u e=>by have:=I.base.mR b ob u e;rw[aG (bu this hn)];exact this,
  fun b ps e=>by obtain⟨m,e1⟩:=I.base.oO b ps e;exact⟨m,by rw[aG (bu e1 hn)];exact e1⟩⟩
 loc:=I.loc
 cell:=I.cell
 free:=by rw[aG (Ne.symm hl)];exact I.free
 jY:=fun x c e=>by rw[aG (hc x c e)];exact I.jY x c e
 pin:=fun p hpp=>by obtain⟨e,n,ne,nf,d⟩:=I.pin p hpp;exact⟨e,by rw[aG (hp p hpp)];exact n,ne,nf,d⟩
 bZ:=fun b u e=>by
  by_cases hb:b=a
  ·subst hb
   rw[aF] at e;cases e;exact new
  ·rw[aG hb] at e
   refine(I.bZ b u e).lg (fun _ _ _ q=>q) (fun c q=>?_) fun c xs q=>?_
   ·rw[aG (bu q hn)];exact q
   ·rw[aG (bu q hn)];exact q
 len:=I.len
end
section
variable {X:Cx} {k:Nat} {f:Addr} {fd:FuncData} {ps:List Str} {sp:Sp} {fx cn n x:Str} {p pos cpos pa tpos np hpos:Pos} {e₀:Expr} {es:List Expr} {t:TA} {i j:Nat} {C S:Addr} {bm bmS:List Value} {newId newIdS:String} {b₀:Stmt} {suite:List Stmt} {th:TS}
end
end L2
namespace L2
open PySem PySem.Spec PyProof.Rows
section
variable {κ:Type} [DecidableEq κ]
def fi (kvs:List (κ×V)) (k:κ):Option V:=(kvs.find? fun kv=>decide (kv.1=k)).map (·.2)
def putK (kvs:List (κ×V)) (k:κ) (v:V):List (κ×V):=
 if(kvs.any fun kv=>decide (kv.1=k))=true then kvs.map (fun kv=>if kv.1=k then(kv.1,v) else kv) else kvs++[(k,v)]
theorem wV {p:κ×V} {r:List (κ×V)} {k:κ} (e:p.1=k):fi (p::r) k=some p.2:=by simp[fi,List.find?_cons,e]
theorem wW {p:κ×V} {r:List (κ×V)} {k:κ} (e:¬p.1=k):fi (p::r) k=fi r k:=by simp[fi,List.find?_cons,e]
theorem wX (k:κ):∀kvs:List (κ×V),(kvs.any fun kv=>decide (kv.1=k))=(fi kvs k).isSome
 | []=>rfl
 | p::r=>by
  rw[List.any_cons]
  by_cases e:p.1=k
  ·simp only[wV e,ze e,Bool.true_or,Option.isSome_some]
  ·rw[wW e,zd e,Bool.false_or];exact wX k r
theorem ve (kvs:List (κ×V)) (k:κ) (v:V):(putK kvs k v).length<=kvs.length+1:=by
 unfold putK;split
 ·rw[za];omega
 ·rw[zg,zt,List.length_nil];omega
theorem Lx {kvs:List (κ×V)} {k:κ} (v:V) (h:fi kvs k=none):putK kvs k v=kvs++[(k,v)]:=by
 unfold putK;rw[wX,h];exact if_neg (by decide)
theorem l0.kL (r:l0 o u):o.isSome=u.isSome:=by
 cases o with
 | none=>cases u with
  | none=>rfl
  | some _=>exact(show False from r).elim
 | some _=>cases u with
  | none=>exact(show False from r).elim
  | some _=>rfl
theorem l0.getD (r:l0 o u) (rd:RelV d d'):RelV (o.getD d) (u.getD d'):=by
 cases o with
 | none=>cases u with
  | none=>exact rd
  | some _=>exact(show False from r).elim
 | some _=>cases u with
  | none=>exact(show False from r).elim
  | some _=>exact r
theorem KV.val {kvs:List (κ×V)} {vs:List (κ×Value)} (r:KV kvs vs) (k:κ):l0 (fi kvs k) (valueAt vs k):=by
 unfold KV at r
 induction r with
 | nil=>exact True.intro
 | @cons p q ps qs h t ih=>
  obtain⟨h1,h2⟩:=h
  by_cases e:p.1=k
  ·have e':q.1=k:=h1.symm.trans e
   have b:valueAt (q::qs) k=some q.2:=by simp[valueAt,List.find?_cons,e']
   rw[wV e,b];exact h2
  ·have e':¬q.1=k:=fun z=>e (h1.trans z)
   have b:valueAt (q::qs) k=valueAt qs k:=by simp[valueAt,List.find?_cons,e']
   rw[wW e,b];exact ih
theorem KV.any (r:KV kvs vs) (k:κ):(kvs.any fun kv=>decide (kv.1=k))=vs.any fun kv=>decide (kv.1=k):=by
 unfold KV at r
 induction r with
 | nil=>rfl
 | cons h t ih=>rw[List.any_cons,List.any_cons,ih,h.1]
theorem KV.O9 (r:KV kvs vs) (k:κ) (ry:RelV y u) :
  KV (kvs.map fun kv=>if kv.1=k then(kv.1,y) else kv) (vs.map fun kv=>if kv.1=k then(kv.1,u) else kv):=by
 unfold KV at r ⊢
 induction r with
 | nil=>exact .nil
 | @cons p q ps qs h t ih=>
  rw[zh,zh];refine .cons ?_ ih;obtain⟨h1,h2⟩:=h
  by_cases e:p.1=k
  ·rw[if_pos e,if_pos (h1.symm.trans e)];exact⟨h1,ry⟩
  ·rw[if_neg e,if_neg (fun z=>e (h1.trans z))];exact⟨h1,h2⟩
theorem KV.put (r:KV kvs vs) (k:κ) (ry:RelV y u):KV (putK kvs k y) (stored vs k u):=by
 unfold putK stored;rw[r.any k]
 by_cases e:(vs.any fun kv=>decide (kv.1=k))=true
 ·rw[if_pos e,if_pos e];exact r.O9 k ry
 ·rw[if_neg e,if_neg e];exact Paired.snoc r ⟨rfl,ry⟩
theorem KV.length (r:KV kvs vs):kvs.length=vs.length:=Paired.length r
end
theorem BW (r:RelV (kV k) u):(cY P w).is k u=true:=by
 cases k with
 | inl i=>obtain⟨t,e⟩:=(show∃t,u=Value.int i t from r);subst e;exact Fq P w i t
 | inr x=>obtain⟨t,e⟩:=(show∃t,u=Value.str x t from r);subst e;exact vb P w x t
theorem BX:∀{ks:List Key} {us:List Value},Vals (ks.map kV) us->ItemsAre (cY P w) ks us
 | [],_,r=>by rw[ym] at r;cases r;exact .nil
 | k::ks,_,r=>by
  rw[zh] at r;cases r with
  | cons h t=>exact .cons (BW h) (BX t)
abbrev KT (H:Hp):List (List Key×V)->List (List Key×Addr×Value)->Prop:=Paired fun p q=>p.1=q.1/\H q.2.1=some (.tup (p.1.map kV))/\RelV p.2 q.2.2
theorem KT.val {H:Hp} {kvs:List (List Key×V)} {xs:List (List Key×Addr×Value)} (r:KT H kvs xs) (k:List Key):l0 (fi kvs k) ((atKey xs k).map (·.2)):=by
 induction r with
 | nil=>exact True.intro
 | @cons p q ps qs h t ih=>
  obtain⟨h1,_,h2⟩:=h
  by_cases e:p.1=k
  ·have e':q.1=k:=h1.symm.trans e
   have b:atKey (q::qs) k=some q.2:=by simp[atKey,List.find?_cons,e']
   rw[wV e,b];exact h2
  ·have e':¬q.1=k:=fun z=>e (h1.trans z)
   have b:atKey (q::qs) k=atKey qs k:=by simp[atKey,List.find?_cons,e']
   rw[wW e,b];exact ih
theorem KT.O9 (r:KT H kvs xs) (k:List Key) (ry:RelV y u) :
  KT H (kvs.map fun kv=>if kv.1=k then(kv.1,y) else kv) (xs.map (putAt k u)):=by
 induction r with
 | nil=>exact .nil
 | @cons p q ps qs h t ih=>
  rw[zh,zh];refine .cons ?_ ih;obtain⟨h1,h2,h3⟩:=h;unfold putAt
  by_cases e:p.1=k
  ·rw[if_pos e,if_pos (h1.symm.trans e)];exact⟨h1,h2,ry⟩
  ·rw[if_neg e,if_neg (fun z=>e (h1.trans z))];exact⟨h1,h2,h3⟩
theorem KT.put (r:KT H kvs xs) (k:List Key) (hb:H b=some (.tup (k.map kV))) (ry:RelV y u) :
  KT H (putK kvs k y) (storedH xs k b u):=by
 have e:(kvs.any fun kv=>decide (kv.1=k))=(atKey xs k).isSome:=by
  rw[wX,(r.val k).kL,Option.isSome_map]
 unfold putK storedH;rw[e]
 by_cases q:(atKey xs k).isSome=true
 ·rw[if_pos q,if_pos q];exact r.O9 k ry
 ·rw[if_neg q,if_neg q];exact Paired.snoc r ⟨rfl,hb,ry⟩
theorem KT.keeps (r:KT H kvs xs) (ht:∀b ys,H b=some (.tup ys)->H' b=some (.tup ys)):KT H' kvs xs:=
 Paired.Py r fun _ _ z=>⟨z.1,ht _ _ z.2.1,z.2.2⟩
section
variable {P:Program} {w:World} {H:Hp} {h:Heap} {a:Addr}
theorem Oe (ok:qO P w H h) (e:Rd H a u):cz P w H h a u:=e.ok ok
theorem vi (ok:qO P w H h) (e:Rd H a (.dK kvs)):kvs.length<=sizeLine/\(a == sysModules)=false/\∃vs,KV kvs vs/\h.DictOf (cY P w) a vs:=
 show cz P w H h a (.dK kvs) from Oe ok e
theorem Q4 (ok:qO P w H h) (e:H a=some (.dK kvs)):kvs.length<=sizeLine/\(a == sysModules)=false/\∃vs,KV kvs vs/\h.DictOf (cY P w) a vs:=vi ok (.inl e)
theorem ud (ok:qO P w H h) (e:H a=some (.tup (ks.map kV))):(tupleKind (cY P w)).is h ks a:=by
 obtain⟨_,its,r,o,h1,h2,n,h3⟩:=(show cz P w H h a (.tup (ks.map kV)) from ok a _ e)
 exact⟨o,its.toArray,n,h1,h2,h3,by simpa using BX r⟩
theorem yT (ok:qO P w H h) (e:Rd H a (.dT kvs)):kvs.length<=sizeLine/\(a == sysModules)=false/\
  ∃xs,KT H kvs xs/\h.DictOfH (tupleKind (cY P w)) a xs:=by
 obtain⟨z,y,xs,r,o,es,ep,h1,h2,h3,h4,h5⟩:=(show cz P w H h a (.dT kvs) from Oe ok e)
 refine⟨z,y,xs,r,o,es,ep,h1,h2,h3,h4,fun x hx=>?_,h5⟩;have all:∀{l:List (List Key×V)} {m:List (List Key×Addr×Value)},KT H l m->∀x∈m,(tupleKind (cY P w)).is h x.1 x.2.1:=by
  intro l m q
  induction q with
  | nil=>intro x hx;exact nomatch hx
  | @cons p q ps qs hq t ih=>
   intro x hx;rcases zC.mp hx with e | hx
   ·subst e
    exact ud ok (by rw[<-hq.1];exact hq.2.1)
   ·exact ih x hx
 exact all r x hx
theorem Q3 (ok:qO P w H h) (e:H a=some (.dT kvs)):kvs.length<=sizeLine/\(a == sysModules)=false/\
  ∃xs,KT H kvs xs/\h.DictOfH (tupleKind (cY P w)) a xs:=yT ok (.inl e)
end
def Ef (H:Hp) (a:Addr) (y:V) (r:Option V):Prop:=
 (∃kvs k,Rd H a (.dK kvs)/\y=kV k/\r=fi kvs k)\/∃kvs k b,Rd H a (.dT kvs)/\y=.ref b/\H b=some (.tup (k.map kV))/\r=fi kvs k
def Rg (H:Hp) (a:Addr) (y v:V) (H':Hp):Prop:=
 (∃kvs k,H a=some (.dK kvs)/\y=kV k/\kvs.length<sizeLine/\H'=upd H a (.dK (putK kvs k v)))\/
 ∃kvs k b,H a=some (.dT kvs)/\y=.ref b/\H b=some (.tup (k.map kV))/\kvs.length<sizeLine/\H'=upd H a (.dT (putK kvs k v))
section
variable {X:Cx} {pins:List (Addr×Obj)} {σ:St} {H:Hp} {s:Shared} {a:Addr} {y v:V} {u r:Value} {o:Option V} {A:Around} {E:Value->Shared->Prop}
theorem Inv.big (I:Inv X pins σ H s):sysModules<s.heap.objs.size:=by
 have h:mainGlobals<s.heap.objs.size:=(I.mod.glob.keeps I.bk).lt;exact Nat.lt_trans (by decide) h
theorem J6 (hu:A.units+1<cLine) (I:Inv X pins σ H s) (g:Ef H a y (some v)) (ry:RelV y u) (h:∀w' s',Inv X pins σ H s'->RelV v w'->Q w' s') :
  wpAny (model X.prog X.w) A (getItem (.ref a) u) Q E s:=by
 rcases g with⟨kvs,k,e,ey,l⟩ | ⟨kvs,k,b,e,ey,eb,l⟩
 ·subst ey
  obtain⟨z,hd,vs,rel,dd⟩:=vi I.bZ e;obtain⟨w',hw,rw'⟩:=l0.some_of (v:=v) (o:=valueAt vs k) (by rw[l];exact rel.val k);exact wpAny_getItem_of (BW ry) dd.mapOf hw (h w' _ (I.tok _) rw')
 ·subst ey
  cases(show u=Value.ref b from ry);obtain⟨z,hd,xs,rel,dd⟩:=yT I.bZ e;obtain⟨w',hw,rw'⟩:=l0.some_of (v:=v) (o:=(atKey xs k).map (·.2)) (by rw[l];exact rel.val k);obtain⟨p,hp,hp2⟩:=Option.map_eq_some_iff.mp hw;refine wpAny_getItem_heap (tupleKind_room_in1 hu) (ud I.bZ eb) dd hp ?_;rw[hp2];exact h w' _ (I.tok _) rw'
theorem SA (hu:A.units+1<cLine) (I:Inv X pins σ H s) (g:Ef H a y o) (ry:RelV y u) (h:∀s',Inv X pins σ H s'->Q (.bool o.isSome) s') :
  wpAny (model X.prog X.w) A (compareOp .In u (.ref a)) Q E s:=by
 rcases g with⟨kvs,k,e,ey,l⟩ | ⟨kvs,k,b,e,ey,eb,l⟩
 ·subst ey
  obtain⟨z,hd,vs,rel,dd⟩:=vi I.bZ e;refine wpAny_in_of (BW ry) hd dd.mapOf ?_;rw[<-(rel.val k).kL,<-l];exact h _ (I.tok _)
 ·subst ey
  cases(show u=Value.ref b from ry);obtain⟨z,hd,xs,rel,dd⟩:=yT I.bZ e;refine wpAny_in_heap (tupleKind_room_in1 hu) (ud I.bZ eb) hd dd ?_;have q:=(rel.val k).kL;rw[Option.isSome_map] at q;rw[<-q,<-l];exact h _ (I.tok _)
theorem NU (hu:A.units+1<cLine) (I:Inv X pins σ H s) (g:Ef H a y o) (ry:RelV y u) (h:∀s',Inv X pins σ H s'->Q (.bool (!o.isSome)) s') :
  wpAny (model X.prog X.w) A (compareOp .NotIn u (.ref a)) Q E s:=by
 rcases g with⟨kvs,k,e,ey,l⟩ | ⟨kvs,k,b,e,ey,eb,l⟩
 ·subst ey
  obtain⟨z,hd,vs,rel,dd⟩:=vi I.bZ e;refine wpAny_notIn_of (BW ry) hd dd.mapOf ?_;rw[<-(rel.val k).kL,<-l];exact h _ (I.tok _)
 ·subst ey
  cases(show u=Value.ref b from ry);obtain⟨z,hd,xs,rel,dd⟩:=yT I.bZ e;refine wpAny_notIn_heap (tupleKind_room_in1 hu) (ud I.bZ eb) hd dd ?_;have q:=(rel.val k).kL;rw[Option.isSome_map] at q;rw[<-q,<-l];exact h _ (I.tok _)
theorem IU (I:Inv X pins σ H s) (mu:Ra (H a)) (hs:Heap.SameBut a s.heap h') (he:∃q,h'.get? a=some q) (new:cz X.prog X.w (upd H a ob) h' a ob) :
  Inv X pins σ (upd H a ob) {s with heap:=h',toks:=t'}:=
 I.write (x:=a) (e:=a) mu (.inl rfl) (fun b q hb z=>(hs.2 b hb).trans z) he new
theorem P2 (z:kvs.length<=sizeLine) (hd:(a == sysModules)=false) (rel:KV kvs vs) (dd:h'.DictOf (cY P w) a vs) :
  cz P w H' h' a (.dK kvs):=⟨z,hd,vs,rel,dd⟩
theorem J5 (hu:A.units+1<cLine) (I:Inv X pins σ H s) (g:Rg H a y v H') (ry:RelV y u) (rv:RelV v r) (h:∀s',Inv X pins σ H' s'->Q () s') :
  wpAny (model X.prog X.w) A (setItem (.ref a) u r) Q E s:=by
 rcases g with⟨kvs,k,e,ey,l,eH⟩ | ⟨kvs,k,b,e,ey,eb,l,eH⟩
 ·subst ey eH
  obtain⟨z,hd,vs,rel,dd⟩:=Q4 I.bZ e;have hz:vs.length<=sizeLine:=by rw[<-rel.length];exact z
  have hl:(putK kvs k v).length<=sizeLine:=by have:=ve kvs k v;omega
  refine wpAny_setItem_pairs (hsz:=hz) (BW ry) dd fun h' dd' hs=>h _ ?_;have he:∃q,h'.get? a=some q:=let ⟨q,_,_,hq,_⟩:=dd';⟨q,hq⟩;exact IU I (by rw[e];exact True.intro) hs he (P2 hl hd (rel.put k rv) dd')
 ·subst ey eH
  cases(show u=Value.ref b from ry);obtain⟨z,hd,xs,rel,dd⟩:=Q3 I.bZ e;have hz:xs.length<=sizeLine:=by rw[<-Paired.length rel];exact z
  have hl:(putK kvs k v).length<=sizeLine:=by have:=ve kvs k v;omega
  refine wpAny_setItem_heap (hsz:=hz) (tupleKind_room_in1 hu) (ud I.bZ eb) dd fun h' dd' hs=>h _ ?_;obtain⟨q,es,ep,hq,h2,h3,h4,_,h5⟩:=dd';refine IU I (by rw[e];exact True.intro) hs ⟨q,hq⟩ ⟨hl,hd,_,(rel.put k eb rv).keeps fun c ys ec=>?_,q,es,ep,hq,h2,h3,h4,h5⟩;rw[aG (bo ec e (fun z=>nomatch z))];exact ec
end
section
variable {X:Cx} {pins:List (Addr×Obj)} {σ:St} {H:Hp} {s:Shared} {a:Addr} {kvs:List (Key×V)} {k:Key} {u:Value} {A:Around} {E:Value->Shared->Prop}
theorem Q6 (I:Inv X pins σ H s) (e:Rd H a (.dK kvs)) (h:∀t s',Inv X pins σ H s'->Q (.int kvs.length t) s'):wpAny (model X.prog X.w) A (call (.builtin "len") [.ref a]) Q E s:=by
 obtain⟨z,hd,vs,rel,dd⟩:=vi I.bZ e;refine call_len_dict hd dd (by rw[<-rel.length];rw[yB] at z;omega) ?_;rw[<-rel.length];exact h _ _ (I.tok _)
end
def Qb (i:Expr):Prop:=∀ov iv,subscripted i false ov iv=operate [ov,iv] (getItem ov iv)
theorem Ir {prog:Program} {w:World} {A:Around} {E:Value->Shared->Prop} {s:Shared} {env:Env} {value slice:Expr} {pos:Pos} {T id:String} {Q:Value->Shared->Prop}
  (hl:typeLookup (.type T) "__getitem__"= pure (some (.builtin id))) (hs:Qb slice)
  (h:wpAny (model prog w) A (eval value env) (fun o s₁=>wpAny (model prog w) A (eval slice env) (fun i s₂=>s₂.TypeIs o T/\wpAny (model prog w) A (getItem o i) Q E s₂) E s₁) E s) :
  wpAny (model prog w) A (eval (.Subscript value slice pos) env) Q E s:=by
 refine Subscript_ (wpAny_mono h (fun o s₁ h₁=>wpAny_mono h₁ (fun i s₂ h₂=>?_) fun _ _ x=>x) fun _ _ x=>x);obtain⟨hT,h₂⟩:=h₂;unfold subscriptTail;refine yt ?_;rw[getitemInPython_of_ne hT.not_modules];refine yt (wpAny_specialOf hT hl ?_);have fin:wpAny (model prog w) A (subscripted slice false o i) (fun r s₃=>wpAny (model prog w) A (letTemporaryGo value o r >>= fun _=>pure r) Q E s₃) E s₂:=by
  rw[hs o i];exact wpAny_operating (wpAny_mono h₂ (fun r s₃ h₃=>yt (wpAny_letTemporaryGo (yv h₃))) fun _ _ x=>x)
 first
  | exact yv (yt fin)
  | exact yt (yv (yt fin))
  | exact yt fin
theorem FQ (I:Inv X pins σ H s) (g:Ef H a y o):s.TypeIs (.ref a) "dict":=by
 rcases g with⟨kvs,k,e,_,_⟩ | ⟨kvs,k,b,e,_,_,_⟩
 ·obtain⟨_,_,vs,_,dd⟩:=vi I.bZ e
  exact dd.typeIs
 ·obtain⟨_,_,xs,_,dd⟩:=yT I.bZ e
  exact dd.typeIs
def Qz (td ty:TE):TE:=fun σ H Q=>td σ H fun x H1=>ty σ H1 fun y H2=>∃a v,x=.ref a/\Ef H2 a y (some v)/\Q v H2
def R4 (ty td:TE):TE:=fun σ H Q=>ty σ H fun y H1=>td σ H1 fun x H2=>∃a o,x=.ref a/\Ef H2 a y o/\Q (.bl o.isSome) H2
def M1 (ty td:TE):TE:=fun σ H Q=>ty σ H fun y H1=>td σ H1 fun x H2=>∃a o,x=.ref a/\Ef H2 a y o/\Q (.bl (!o.isSome)) H2
def QE (td ty tv:TE):TS:=fun D σ H=>tv σ H fun v H1=>td σ H1 fun x H2=>ty σ H2 fun y H3=>∃a H4,x=.ref a/\Rg H3 a y v H4/\D.nx σ H4
section
variable {X:Cx} {o i e value:Expr} {pos pos' tpos:Pos} {td ty tv:TE}
theorem Nr (hu:X.A.units+1<cLine) (ho:PE X o td) (hi:PE X i ty) (hs:Qb i):PE X (.Subscript o i pos) (Qz td ty):=by
 intro pins s σ H Q I h;refine Ir PySem.F.slot_dict_getitem.lookup hs (cS (ho pins s σ H _ I h) fun u s1 ⟨x,H1,I1,rx,q1⟩=>cS (hi pins s1 σ H1 _ I1 q1) fun iv s2 ⟨y,H2,I2,ry,a,v,ex,g,q2⟩=>?_);subst ex;obtain rfl:u=Value.ref a:=rx;exact⟨FQ I2 g,J6 hu I2 g ry fun w' s3 I3 rw'=>⟨v,H2,I3,rw',q2⟩⟩
theorem G1 (hu:X.A.units+1<cLine) (hi:PE X i ty) (ho:PE X o td):PC X .In i o (R4 ty td):=by
 intro pins s σ H Q I h;refine cS (hi pins s σ H _ I h) fun iv s1 ⟨y,H1,I1,ry,q1⟩=>cS (ho pins s1 σ H1 _ I1 q1) fun u s2 ⟨x,H2,I2,rx,a,ov,ex,g,q2⟩=>?_;subst ex;obtain rfl:u=Value.ref a:=rx;exact SA hu I2 g ry fun s3 I3=>⟨.bl ov.isSome,H2,I3,rfl,q2⟩
theorem BN (hu:X.A.units+1<cLine) (hi:PE X i ty) (ho:PE X o td):PC X .NotIn i o (M1 ty td):=by
 intro pins s σ H Q I h;refine cS (hi pins s σ H _ I h) fun iv s1 ⟨y,H1,I1,ry,q1⟩=>cS (ho pins s1 σ H1 _ I1 q1) fun u s2 ⟨x,H2,I2,rx,a,ov,ex,g,q2⟩=>?_;subst ex;obtain rfl:u=Value.ref a:=rx;exact NU hu I2 g ry fun s3 I3=>⟨.bl (!ov.isSome),H2,I3,rfl,q2⟩
theorem wD (hu:X.A.units+1<cLine) (ho:PE X o td) (hi:PE X i ty) (hv:PE X value tv) (hs:swapsWith value (some (.Subscript o i pos')) pos.line X.env=pure false) :
  PS X (.Assign [.Subscript o i pos'] value pos) (QE td ty tv):=by
 intro pins s σ H D I h;refine wpAny_Assign_Subscript (cS (hv pins s σ H _ I h) fun r s1 ⟨v,H1,I1,rv,q1⟩=>cS (ho pins s1 σ H1 _ I1 q1) fun u s2 ⟨x,H2,I2,rx,q2⟩=>cS (hi pins s2 σ H2 _ I2 q2) fun iv s3 ⟨y,H3,I3,ry,a,H4,ex,g,q3⟩=>?_) hs;subst ex;obtain rfl:u=Value.ref a:=rx;exact J5 hu I3 g ry rv fun s4 I4=>⟨σ,H4,I4,q3⟩
end
theorem Ms (h:Heap) (hb:sysModules<h.objs.size):cz P w H (h.push {cls:=.type "dict",data:=.dict #[]}) h.objs.size (.dK []):=
 ⟨yf _,beq_eq_false_iff_ne.mpr (Ne.symm (yi hb)),[],.nil,Heap.DictOf.new h⟩
theorem Mq (h:Heap) (hb:sysModules<h.objs.size):cz P w H (h.push {cls:=.type "dict",data:=.dict #[]}) h.objs.size (.dT []):=
 ⟨yf _,beq_eq_false_iff_ne.mpr (Ne.symm (yi hb)),[],.nil,_,#[],0,yw _ rfl,⟨rfl,rfl,rfl⟩,rfl,rfl,List.nodup_nil⟩
def OZ:TE:=fun _ H Q=>∀p,H p=none->Q (.ref p) (upd H p (.dK []))
def OY:TE:=fun _ H Q=>∀p,H p=none->Q (.ref p) (upd H p (.dT []))
section
variable {X:Cx} {pos:Pos}
theorem xU:PE X (.Dict [] [] pos) OZ:=fun pins s σ H Q I h=>
 wpAny_Dict_empty ⟨.ref s.heap.objs.size,_,I.laid (a:=s.heap.objs.size) (o:=.dK []) (t':=s.toks) (fun _ _ q=>yu _ q) (zk _) (Ms s.heap I.big),rfl,h _ (I.bZ.fresh (zk _))⟩
theorem LL:PE X (.Dict [] [] pos) OY:=fun pins s σ H Q I h=>
 wpAny_Dict_empty ⟨.ref s.heap.objs.size,_,I.laid (a:=s.heap.objs.size) (o:=.dT []) (t':=s.toks) (fun _ _ q=>yu _ q) (zk _) (Mq s.heap I.big),rfl,h _ (I.bZ.fresh (zk _))⟩
end
structure M2 (X:Cx) (o:Expr) (m:Str) (apos:Pos) (e f:Expr) (cpos:Pos):Prop where
 base:attributeBase o m X.env (eval o X.env)=eval o X.env
 S9:((backTo cpos (starEach [e,f] X.env)).all (fun x=>!x.1)&&(backToKw cpos (keywordEach [] X.env)).all (fun x=>x.1.isSome)
  &&decide (([e,f]:List Expr).length+([]:List Keyword).length+(if([]:List Keyword).isEmpty then 0 else 1)<30))=true
 line:(apos.endLine == cpos.line)=true
 trees:backTo cpos (starEach [e,f] X.env)=[(false,eval e X.env),(false,eval f X.env)]
def SS (H:Hp) (a:Addr):Prop:=(∃kvs,Rd H a (.dK kvs))\/∃kvs,Rd H a (.dT kvs)
theorem PM (I:Inv X pins σ H s) (d:SS H a) :
  s.TypeIs (.ref a) "dict"/\(∀b,Value.ref a=.ref b->∃ob,s.heap.get? b=some ob/\ob.dict=none)/\(a == sysModules)=false:=by
 rcases d with⟨kvs,e⟩ | ⟨kvs,e⟩
 ·obtain⟨_,hd,vs,_,dd⟩:=vi I.bZ e
  refine⟨dd.typeIs,fun b q=>?_,hd⟩;cases q;obtain⟨ob,_,_,h1,h2,_⟩:=dd;exact⟨ob,h1,h2.2.1⟩
 ·obtain⟨_,hd,xs,_,dd⟩:=yT I.bZ e
  refine⟨dd.typeIs,fun b q=>?_,hd⟩;cases q;obtain⟨ob,_,_,h1,h2,_⟩:=dd;exact⟨ob,h1,h2.2.1⟩
section
variable {X:Cx} {pins:List (Addr×Obj)} {σ:St} {H:Hp} {s:Shared} {a:Addr} {y d:V} {u r:Value} {o:Option V} {A:Around} {E:Value->Shared->Prop}
theorem P4 (hu:A.units+1<cLine) (I:Inv X pins σ H s) (g:Ef H a y o) (ry:RelV y u) (rd:RelV d r) (h:∀w' s',Inv X pins σ H s'->RelV (o.getD d) w'->Q w' s') :
  wpAny (model X.prog X.w) A (call (.builtin "dict.get") [.ref a,u,r]) Q E s:=by
 rcases g with⟨kvs,k,e,ey,l⟩ | ⟨kvs,k,b,e,ey,eb,l⟩
 ·subst ey
  obtain⟨z,hd,vs,rel,dd⟩:=vi I.bZ e;refine call_meetsIn PySem.F.slot_dict_get dd.typeIs PySem.F.entry_dict_get (PySem.F.args_dict_get_3 _ _ _) (meets_dict_get_default (cY X.prog X.w) a (BW ry) hd r) ⟨_,dd.mapOf,h _ _ (I.tok _) ?_⟩;rw[l];exact(rel.val k).getD rd
 ·subst ey
  cases(show u=Value.ref b from ry);obtain⟨z,hd,xs,rel,dd⟩:=yT I.bZ e;refine call_meetsIn PySem.F.slot_dict_get dd.typeIs PySem.F.entry_dict_get (PySem.F.args_dict_get_3 _ _ _) (meetsH_dict_get_default (tupleKind (cY X.prog X.w)) a b hd r) ⟨tupleKind_room_in1 hu,k,xs,ud I.bZ eb,dd,h _ _ (I.tok _) ?_⟩;rw[l];exact(rel.val k).getD rd
end
def O1 (td ty tx:TE):TE:=fun σ H Q=>td σ H fun x H1=>∃a,x=.ref a/\SS H1 a/\ty σ H1 fun y H2=>tx σ H2 fun z H3=>∃o,Ef H3 a y o/\Q (o.getD z) H3
section
variable {X:Cx} {o e f:Expr} {apos cpos:Pos} {td ty tx:TE}
theorem E3 (hu:X.A.units+1<cLine) (ho:PE X o td) (he:PE X e ty) (hf:PE X f tx) (m:M2 X o "get" apos e f cpos):PE X (.Call (.Attribute o "get" apos) [e,f] [] cpos) (O1 td ty tx):=by
 intro pins s σ H Q I h;refine wpAny_Call_method m.base m.S9 m.line PySem.F.plainAttrs_dict PySem.F.slot_dict_get PySem.F.type_dict_get (cS (ho pins s σ H _ I h) fun u s1 ⟨x,H1,I1,rx,a,ex,d,q1⟩=>?_);subst ex;obtain rfl:u=Value.ref a:=rx;obtain⟨t1,t2,_⟩:=PM I1 d;refine⟨t1,t2,?_⟩;rw[m.trees];refine Calls.callWith_builtin rfl (Calls.evalArgs_plain (Calls.spliced_cons (cS (he pins s1 σ H1 _ I1 q1) fun iv s2 ⟨y,H2,I2,ry,q2⟩=>
  Calls.spliced_cons (cS (hf pins s2 σ H2 _ I2 q2) fun fv s3 ⟨z,H3,I3,rz,ov,g,q3⟩=>Calls.spliced_nil ?_))))
 exact P4 hu I3 g ry rz fun w' s4 I4 rw'=>⟨_,H3,I4,rw',q3⟩
end
section
variable {X:Cx} {pins:List (Addr×Obj)} {σ:St} {H:Hp} {s:Shared} {a:Addr} {kvs:List (Key×V)} {A:Around} {E:Value->Shared->Prop}
end
section
variable {X:Cx} {pins:List (Addr×Obj)} {σ:St} {H:Hp} {s:Shared} {a:Addr} {y:V} {u:Value} {A:Around} {E:Value->Shared->Prop}
end
end L2
namespace L2
open PySem PySem.Spec PyProof.Rows
section
variable {κ:Type} [DecidableEq κ]
end
end L2
namespace L2
open PySem PySem.Spec PyProof.Rows
def dS (σ₀:St) (g:TG) (tc:TT) (te:TE) (Q:VK) (J:It) (H1:Hp):Prop:=∃W:Nat->Nat->List V->St->Hp->Prop,(∃m,W 0 m [] σ₀ H1)/\∀i m xs σ' H',W i m xs σ' H'->
 (J.stop i H'/\xs.length<=sizeLine/\∀D,H' D=none->Q (.ref D) (upd H' D (.lst xs)))\/
 (J.go i H'/\xs.length<sizeLine/\∀x H2,J.Ji i H' x H2->g x σ' H2 fun σ3 H3=>tc σ3 H3 fun b H4=>if b=true then te σ3 H4 fun y H5=>∃m',m'<m/\W (i+1) m' (xs++[y]) σ3 H5 else∃m',m'<m/\W (i+1) m' xs σ3 H4)
def dA (X:Cx) (N:List Str) (scope:Scope) (cl:List (Str×Addr)) (C:Addr) (s₀:Shared) (H₀:Hp) (ex:List Addr):Cx:=
 {X with N:=N,s₀:=s₀,H₀:=H₀,env:=compEnvC scope (cellsFrom (C+1) scope.names cl) C X.env,outer:=X.stack,stack:=X.stack,ex:=ex,fn:=fun x=>((cellsFrom (C+1) scope.names []).lookup x).isSome,pn:=[],xe:=fun _ _=>False}
def mZ (fr:List (Option Nat)) (wi:TI) (g:TG) (tc:TT) (te:TE):TE:=fun σ H Q=>wi σ H fun J H1=>dS (fr.map fun o=>o.bind fun j=>(σ[j]?).join) g tc te Q J H1
def N2 (X:Cx) (ifs:List Expr) (tc:TT):Prop:=∀(pins:List (Addr×Obj)) (s:Shared) (σ:St) (H:Hp) (Q:Bool->Hp->Prop),Inv X pins σ H s->tc σ H Q->
 wpAny (model X.prog X.w) X.A (forIn ifs true fun c r=>if r=true then do let ok <-isTrue c X.env (eval c X.env);pure (ForInStep.yield ok) else pure (ForInStep.yield r)) (TP X pins σ Q) X.xe s
def dt:TT:=fun _ H Q=>Q true H
theorem bx:N2 X [] dt:=fun _ _ _ H _ I h=>wpAny_tests_nil ⟨H,I,h⟩
theorem iF (h:PT X c tc):N2 X [c] tc:=fun pins s σ H Q I q=>wpAny_tests_one (h pins s σ H Q I q)
theorem dg:∀(names:List (Str×NameKind)) (n:Nat) (acc:List (Str×Addr)),cellsFrom n names acc=cellsFrom n names []++acc
 | [],_,_=>rfl
 | (x,k)::r,n,acc=>by
  unfold cellsFrom;split
  ·rw[dg r (n+1) ((x,n)::acc),dg r (n+1) [(x,n)],zE];rfl
  ·exact dg r n acc
theorem Nx {h:Heap} {lo:Nat} {cs:List (Str×Addr)} (ok:CellsOk h lo cs) {x y:Str} {c:Addr} (e:cs.lookup x=some c) (e':cs.lookup y=some c):x=y:=by
 have key:∀(l:List (Str×Addr)),l.Pairwise (fun x y=>x.2≠y.2)->(x,c)∈l->(y,c)∈l->x=y:=by
  intro l
  induction l with
  | nil=>intro _ h;cases h
  | cons p r ih=>
   intro hp h1 h2;rw[List.pairwise_cons] at hp;rcases zC.mp h1 with h1 | h1
   ·rcases zC.mp h2 with h2 | h2
    ·rw[<-h1] at h2;exact(Prod.mk.inj h2).1.symm
    ·exact absurd rfl (by have:=hp.1 _ h2;rw[<-h1] at this;exact this)
   ·rcases zC.mp h2 with h2 | h2
    ·exact absurd rfl (by have:=hp.1 _ h1;rw[<-h2] at this;exact this)
    ·exact ih hp.2 h1 h2
 exact key cs ok.apart (mem_of_lookup e) (mem_of_lookup e')
theorem C8
  (hQ:∀g1:Heap,g1.Ns s.heap.objs.size (fun _=>none)->(∀b o,s.heap.get? b=some o->g1.get? b=some o)->CellsOk g1 (s.heap.objs.size+1) (cellsFrom (s.heap.objs.size+1) scope.names [])->
   Q (newEnv scope s.heap.objs.size globals (cellsFrom (s.heap.objs.size+1) scope.names cl) qual none .none (some outer) builtinsNs) {s with heap:=g1}) :
  wpAny M A (newFunctionEnv scope globals cl [] qual none .none (some outer)) Q E s:=by
 simp only[newFunctionEnv,Option.isSome_some,if_true];refine yt (wpAny_alloc ?_);refine yt (wpAny_layCells _ (fun name kind cells=>by cases hkc:kind == NameKind.cell <;> simp[hkc]) _ _ _ _ ?_);have ok:=cellsFrom_ok scope.names (s.heap.push {cls:=.type "dict",data:=.dict #[]}) (s.heap.objs.size+1) [] ⟨fun _ _ hm=>(nomatch hm),List.Pairwise.nil⟩ (by rw[Heap.size_push];exact zk _);rw[Heap.size_push] at ok;rw[show({s with heap:=s.heap.push {cls:=.type "dict",data:=.dict #[]}}:Shared).heap.objs.size=s.heap.objs.size+1 from Heap.size_push ..];exact yt (yv (yv (hQ _ ((Heap.Ns.new s.heap (.type "dict")).keeps (pushCells_keeps _ _)) (fun b o e=>pushCells_keeps _ _ b o (yu _ e)) ok)))
theorem HI (I:Nat->Shared->Prop)
  (turn:∀n s,I n s->wpAny (model prog w) A (pyNext it) (fun r s1=>match r with
   | none=>R (.ok .next) s1
   | some v=>wpAny (model prog w) A (letOwnedTupleGo target it v) (fun _ s2=>wpAny (model prog w) A (assign target env v) (fun _ s3=>
     wpAny (model prog w) A (forIn ifs true fun c r=>if r=true then do let ok <-isTrue c env (eval c env);pure (ForInStep.yield ok) else pure (ForInStep.yield r)) (fun ok s3'=>if ok=true then wpAny (model prog w) A (eval elt env) (fun x s4=>
     wpAny (model prog w) A (call (.builtin "list.append") [acc,x]) (fun _ s5=>∃m,m<n/\I m s5) (fun _ _=>False) s4) (fun _ _=>False) s3' else∃m,m<n/\I m s3') (fun _ _=>False) s3) (fun _ _=>False) s2) (fun _ _=>False) s1) (fun _ _=>False) s)
  (n:Nat) (h:I n s):codeAny (model prog w) A (.compLoop (.ListComp elt [⟨target,iter,ifs,0⟩] scope pos) 0 it acc env) R s:=by
 refine codeAny_loop rfl I (fun n s hI=>?_) n h;show wpAny _ _ ((compTurn (.ListComp elt [⟨target,iter,ifs,0⟩] scope pos) 0 it acc env).onRaise (fun x=>do noteFrame x env;theTreesLotGoes x)) _ _ s;refine wpAny_noted ?_;rw[compTurn_list];have no:∀(E:Value->Shared->Prop) (x:Value) (s':Shared),False->E x s':=fun _ _ _ f=>f.elim;refine yt (wpAny_standAt (yt (wpAny_mono (turn n s hI) (fun r s1 h1=>?_) (no _))));cases r with
 | none=>exact yv h1
 | some v=>
  refine yt (wpAny_mono h1 (fun _ s2 h2=>yt (wpAny_mono h2 (fun _ s3 h3=>yt (wpAny_mono h3 (fun ok s3' h3'=>?_) (no _))) (no _))) (no _));cases ok with
  | false=>
   rw[if_neg (by decide)] at h3';exact yv ⟨rfl,h3'⟩
  | true=>
   rw[if_pos rfl] at h3';exact yt (yt (wpAny_mono h3' (fun x s4 h4=>yt (wpAny_mono h4 (fun _ s5 h5=>yv (yv ⟨rfl,h5⟩)) (no _))) (no _)))
section
variable {X:Cx} {pos:Pos}
theorem Ae {elt target iter:Expr} {scope:Scope} {N:List Str} {fr:List (Option Nat)} {cl:List (Str×Addr)} {g:TG} {tc:TT} {te:TE} {ifs:List Expr} (hc:X.calm=true) (hsub:∀x c,cl.lookup x=some c->X.env.cells.lookup x=some c) (hhas:∀C x,((compEnvC scope cl C X.env).kindOf x=some .cell\/(compEnvC scope cl C X.env).kindOf x=some .free)->(∃c,cl.lookup x=some c)\/∃c,(cellsFrom (C+1) scope.names []).lookup x=some c)
  (hlen:fr.length=N.length) (hfr:∀(i:Nat) x j,N[i]?=some x->fr[i]?=some (some j)->X.N[j]?=some x/\P8 X.env.scope x/\X.env.kindOf x≠some .local/\(∀C,(compEnvC scope cl C X.env).kindOf x=some .cell\/(compEnvC scope cl C X.env).kindOf x=some .free)/\(∀c,X.env.cells.lookup x=some c->cl.lookup x=some c)/\∀C,(cellsFrom (C+1) scope.names []).lookup x=none) (hkind:scope.kind=.function)
  (hg:∀C s₀ H₀ ex,PG (dA X N scope cl C s₀ H₀ ex) target g) (hif:∀C s₀ H₀ ex,N2 (dA X N scope cl C s₀ H₀ ex) ifs tc) (he:∀C s₀ H₀ ex,PE (dA X N scope cl C s₀ H₀ ex) elt te)
  {pins:List (Addr×Obj)} {σ:St} {s2:Shared} {it:Addr} {fp:List Addr} {tn:Nat->Heap->Prop} {J:It} {H2:Hp} {Q:VK} {RR:Value->Addr->Result->Shared->Prop} (I2:Inv X pins σ H2 s2) (T:Turn X.prog X.w X.K target J fp it tn) (st2:tn 0 s2.heap) (f2:∀b∈fp,qP X pins H2 b)
  (ok:dS (fr.map fun o=>o.bind fun j=>(σ[j]?).join) g tc te Q J H2)
  (fin:∀D C s4 H' xs,s2.heap.objs.size<=D->s2.heap.objs.size<=C->C≠D->Inv X pins σ (upd H' D (.lst xs)) s4->H' D=none->H' C=none->(∃m,s4.heap.Ns C m)->(∀D,H' D=none->Q (.ref D) (upd H' D (.lst xs)))->RR (.ref D) C (.ok .next) s4) :
  wpAny (model X.prog X.w) X.A (newList []) (fun acc s3=>wpAny (model X.prog X.w) X.A (newFunctionEnv scope X.env.globals cl [] X.env.qual none .none (some X.env)) (fun cenv s4=>
   codeAny (model X.prog X.w) X.A (.compStart (.ListComp elt [⟨target,iter,ifs,0⟩] scope pos) 0 (.ref it) acc {cenv with scope:=relabel scope X.env}) (RR acc cenv.locals) s4) X.xe s3) X.xe s2:=by
 obtain⟨W,⟨m0,w0⟩,turn⟩:=ok;refine wpAny_newObj_type (C8 fun g1 hns hold hown=>?_);dsimp only at hns hold hown ⊢;generalize hG:s2.heap.push {cls:=.type "list",dict:=none,data:=.seq ([]:List Value).toArray}=G2 at hns hold hown ⊢;have hC:G2.objs.size=s2.heap.objs.size+1:=by rw[<-hG,Heap.size_push]
 have below:∀b,b<s2.heap.objs.size->b≠G2.objs.size/\b≠s2.heap.objs.size:=fun b hb=>⟨by rw[hC];exact yi (Nat.lt_succ_of_lt hb),yi hb⟩
 have hDC:s2.heap.objs.size≠G2.objs.size:=by rw[hC];exact yi (Nat.lt_succ_self _)
 have old:∀b o,s2.heap.get? b=some o->g1.get? b=some o:=fun b o e=>hold b o (hG▸yu _ e);have hacc:g1.get? s2.heap.objs.size=some {cls:=.type "list",data:=.seq ([]:List Value).toArray 0}:=hold _ _ (hG▸yw _ rfl);have hsC:s2.heap.objs.size<G2.objs.size:=by rw[hC];exact Nat.lt_succ_self _
 have csl:∀x c,(cellsFrom (G2.objs.size+1) scope.names cl).lookup x=some c->((cellsFrom (G2.objs.size+1) scope.names []).lookup x=some c/\G2.objs.size<c/\g1.IsCell c none)\/((cellsFrom (G2.objs.size+1) scope.names []).lookup x=none/\cl.lookup x=some c/\X.env.cells.lookup x=some c/\c<s2.heap.objs.size):=fun x c e=>by
  rw[dg,List.lookup_append] at e;cases q:(cellsFrom (G2.objs.size+1) scope.names []).lookup x with
  | some d=>
   rw[q] at e;cases e;obtain⟨z1,z2⟩:=hown.empty x _ (mem_of_lookup q);exact .inl ⟨rfl,z2,z1⟩
  | none=>
   rw[q] at e;obtain⟨v,z⟩:=I2.cell x c (hsub x c e);exact .inr ⟨rfl,e,hsub x c e,z.lt⟩
 have fplt:∀b∈fp,b<s2.heap.objs.size:=fun b hb=>let ⟨o,e,_⟩:=T.obj _ _ st2 b hb;yx e;have MR:∀b∈fp,∀x c,(cellsFrom (G2.objs.size+1) scope.names cl).lookup x=some c->c≠b:=fun b hb x c e=>by
  rcases csl x c e with⟨_,l,_⟩ | ⟨_,_,z,_⟩
  ·exact yh (Nat.lt_trans (fplt b hb) (Nat.lt_trans hsC l))
  ·exact(f2 b hb).2.2.2.2.1 x c z
 let Y:Cx:=dA X N scope cl G2.objs.size s2 H2 fp
 have okY:Y.Ok:=by
  refine⟨I2.ok.mod,hkind,I2.ok.glob,I2.ok.blt,?_,fun x y c e e'=>?_,fun x hx=>?_,fun x c hf e=>?_,I2.ok.hd,I2.ok.frames,.inl rfl,fun b hb=>⟨(below b (fplt b hb)).1,fun x c e=>MR b hb x c e⟩,I2.bs,zL I2.ok.Kw I2.sz,fun b o e hb=>?_,fun b hb hf=>?_,I2.stack,I2.qT⟩
  ·show s2.heap.objs.size<=G2.objs.size
   rw[hC];exact Nat.le_succ _
  ·rcases csl x c e with⟨q,l,_⟩ | ⟨_,q,z,l⟩
   ·rcases csl y c e' with⟨q',l',_⟩ | ⟨_,q',z',l'⟩
    ·exact Nx hown q q'
    ·exact absurd (Nat.lt_trans (Nat.lt_trans hsC l) l') (ye _)
   ·rcases csl y c e' with⟨q',l',_⟩ | ⟨_,q',z',l'⟩
    ·exact absurd (Nat.lt_trans (Nat.lt_trans hsC l') l) (ye _)
    ·exact I2.ok.inj x y c z z'
  ·show∃c,(cellsFrom (G2.objs.size+1) scope.names cl).lookup x=some c
   rw[dg,List.lookup_append];rcases hhas G2.objs.size x hx with⟨c,e⟩ | ⟨c,e⟩
   ·rw[e];cases(cellsFrom (G2.objs.size+1) scope.names []).lookup x with
    | none=>exact⟨c,rfl⟩
    | some d=>exact⟨d,rfl⟩
   ·rw[e];exact⟨c,rfl⟩
  ·have hf':((cellsFrom (G2.objs.size+1) scope.names []).lookup x).isSome=true:=hf
   rcases csl x c e with⟨q,l,_⟩ | ⟨q,_⟩
   ·exact yg (Nat.lt_trans hsC l)
   ·rw[q] at hf';cases hf'
  ·rcases(f2 b hb).2.2.2.1 with z | z
   ·exact I2.ok.vT b o e z
   ·exact absurd (yb (yx e) (zL I2.ok.Kw z)) (ye _)
  ·rcases zC.mp (I2.Cs b hf) with z | z
   ·exact(f2 b hb).2.1 z
   ·exact(f2 b hb).2.2.1 z
 have cl2:∀x c,(cellsFrom (G2.objs.size+1) scope.names cl).lookup x=some c->(∃v,g1.IsCell c v)/\H2 c=none/\c≠s2.heap.objs.size:=fun x c e=>by
  rcases csl x c e with⟨_,l,z⟩ | ⟨_,_,z,l⟩
  ·exact⟨⟨_,z⟩,I2.bZ.fresh (yg (Nat.lt_trans hsC l)),yh (Nat.lt_trans hsC l)⟩
  ·obtain⟨v,oc,hoc,hd⟩:=I2.cell x c z
   exact⟨⟨v,oc,old _ _ hoc,hd⟩,I2.jY x c z,yi l⟩
 have Dfs:s2.heap.objs.size∉Y.fs:=fun hb=>by
  rcases zC.mp (I2.Cs _ hb) with z | z
  ·exact absurd (z▸I2.lt) (ye _)
  ·exact I2.QK (zk _) z
 have hCf:H2 G2.objs.size=none:=I2.bZ.fresh (by rw[hC];exact Nat.le_succ _);have start:∀tk,Inv Y [(s2.heap.objs.size,{cls:=.type "list",data:=.seq ([]:List Value).toArray 0})] (fr.map fun o=>o.bind fun j=>(σ[j]?).join) H2 {s2 with heap:=g1,toks:=tk}:=fun tk=>
  ⟨okY,rfl,I2.bare,Un.kept old,⟨_,hns,fun i x v e1 e2 _=>by
    rw[zJ] at e2;cases ef:fr[i]? with
    | none=>rw[ef] at e2;cases e2
    | some o=>
     cases o with
     | none=>rw[ef] at e2;cases e2
     | some j=>
      rw[ef] at e2;have e2':(σ[j]?).join=some v:=by simpa using e2
      have ej:σ[j]?=some (some v):=by
       cases q:σ[j]? with
       | none=>rw[q] at e2';cases e2'
       | some w=>rw[q] at e2';cases w with
        | none=>cases e2'
        | some w=>cases e2';rfl
      obtain⟨k1,k2,k3,k4,k5,k6⟩:=hfr i x j e1 ef;obtain⟨m,_,hl⟩:=I2.loc;obtain⟨u,r,l⟩:=hl j x v k1 ej k2;refine⟨u,r,?_⟩;rcases l with l | ⟨_,c,ec,z⟩
      ·exact absurd l.1 k3
      ·obtain⟨oc,hoc,hd⟩:=z
       exact .inr ⟨k4 G2.objs.size,c,by show(cellsFrom (G2.objs.size+1) scope.names cl).lookup x=some c;rw[dg,List.lookup_append,k6];exact k5 c ec,oc,old _ _ hoc,hd⟩⟩,
   fun x c e=>(cl2 x c e).1,hCf,fun x c e=>(cl2 x c e).2.1,
   fun p hp=>by
    have e:p=(s2.heap.objs.size,{cls:=.type "list",data:=.seq ([]:List Value).toArray 0}):=by simpa using (show p∈[]++[_] from hp)
    subst e;exact⟨hacc,I2.bZ.fresh (zk _),hDC,Dfs,fun v z=>by cases z⟩,I2.bZ.kept old,by rw[za,hlen];rfl⟩
 have stat:∀{H':Hp} {ob:Obj},(∀b∈fp,H' b=none)->∀b∈fp,qP Y [(s2.heap.objs.size,ob)] H' b:=fun {H' ob} hn b hb=>by
  refine⟨hn b hb,(below b (fplt b hb)).1,fun z=>okY.Hr b hb z,.inl hb,MR b hb,fun p hp=>?_⟩;have e:p=(s2.heap.objs.size,ob):=by simpa using (show p∈[]++[_] from hp)
  subst e;exact(below b (fplt b hb)).2.symm
 have loop:∀tk,codeAny (model X.prog X.w) X.A (.compLoop (.ListComp elt [⟨target,iter,ifs,0⟩] scope pos) 0 (.ref it) (.ref s2.heap.objs.size) (compEnvC scope (cellsFrom (G2.objs.size+1) scope.names cl) G2.objs.size X.env))
   (RR (.ref s2.heap.objs.size) G2.objs.size) {s2 with heap:=g1,toks:=tk}:=by
  intro tk;refine HI (fun n s'=>∃i σ' H' xs its k,Inv Y [(s2.heap.objs.size,{cls:=.type "list",data:=.seq its.toArray k})] σ' H' s'/\tn i s'.heap/\(∀b∈fp,H' b=none)/\Vals xs its/\W i n xs σ' H') ?_ m0
   ⟨0,_,H2,[],[],0,start tk,T.keep _ _ _ st2 fun b _ o e=>old b o e,fun b hb=>(f2 b hb).1,.nil,w0⟩
  rintro n s3 ⟨i,σ3,H3,xs,its,k,I3,st3,fr3,rv3,w3⟩;rcases turn i n xs σ3 H3 w3 with⟨stop,hz,qn⟩ | ⟨go,hz,step⟩
  ·refine cS (T.done Y rfl rfl rfl hc i _ s3 σ3 H3 _ I3 (stat fr3) st3 stop) fun r s4 ⟨hr,I4⟩=>?_
   subst hr;obtain⟨m,hm,_⟩:=id I4.loc;obtain⟨pD,nD,neD,fD,_⟩:=I4.pin (s2.heap.objs.size,{cls:=.type "list",data:=.seq its.toArray k}) (by show _∈[]++[_];simp);refine fin s2.heap.objs.size G2.objs.size s4 H3 xs (zk _) (by rw[hC];exact Nat.le_succ _) hDC.symm (I2.Mx (s':=s4) (ch:=fp) I4.os ?_ ?_ I4.bare (fun b hb=>⟨(f2 b hb).2.2.2.1,(f2 b hb).2.1,(f2 b hb).2.2.2.2.1,(f2 b hb).2.2.2.2.2⟩)) nD I4.free ⟨m,hm⟩ qn
   ·have ub:Un Y.fs Y.ex H2 H3 s2.heap s4.heap:=I4.base
    have lt:∀b o,s2.heap.get? b=some o->b≠G2.objs.size/\b≠s2.heap.objs.size:=fun b o e=>below b (yx e);refine⟨fun b o e n hb hx=>ub.keep b o e n hb hx,fun b o e n hb hx=>ub.slot b o e n hb hx,fun b o e n hx=>?_,fun b o e hx=>ub.there b o e hx,fun b ys e=>?_,fun b o u e=>?_,fun b ps e=>?_⟩
    ·rw[aG (lt b o e).2];exact ub.free b o e n hx
    ·have q:=ub.oN b ys e
     rw[aG (bu q nD)];exact q
    ·have q:=ub.mR b o u e
     rw[aG (bu q nD)];exact q
    ·obtain⟨more,q⟩:=ub.oO b ps e
     exact⟨more,by rw[aG (bu q nD)];exact q⟩
   ·intro b u e
    by_cases hb:b=s2.heap.objs.size
    ·subst hb;rw[aF] at e;cases e
     exact⟨hz,its,k,rv3,pD⟩
    ·rw[aG hb] at e
     exact(I4.bZ b u e).lg (fun c v hc' q=>q) (fun c q=>by rw[aG (bu q nD)];exact q) fun c ys q=>by rw[aG (bu q nD)];exact q
  ·refine cS (T.item Y rfl rfl rfl hc i _ s3 σ3 H3 _ I3 (stat fr3) st3 go) fun r s4 ⟨u,hr,h4⟩=>?_
   subst hr;refine cS h4 fun _ s5 ⟨x,H5,I5,r5,y5,st5,fr5⟩=>?_;have I5':=I5.pinned (stat fr5) (T.obj _ _ st5);refine cS (hg G2.objs.size s2 H2 fp _ s5 σ3 H5 x u _ I5' r5 (step x H5 y5)) fun _ s6 ⟨σ6,H6,I6,q6⟩=>?_;refine cS (hif G2.objs.size s2 H2 fp _ s6 σ6 H6 _ I6 q6) fun b s6' ⟨H6',I6',q6'⟩=>?_;cases b with
   | false=>
    rw[if_neg (by decide)] at q6' ⊢;obtain⟨m',hm,w7⟩:=q6';have inD:(s2.heap.objs.size,({cls:=.type "list",data:=.seq its.toArray k}:Obj))∈Y.pn++([(s2.heap.objs.size,({cls:=.type "list",data:=.seq its.toArray k}:Obj))]++tN fp s5.heap):=by show _∈[]++_;simp
    obtain⟨pD,nD,neD,fD,dD⟩:=I6'.pin _ inD;have I7':Inv Y [] σ6 H6' s6':=I6'.oB fun p hp=>nomatch hp;refine⟨m',hm,i+1,σ6,H6',xs,its,k,I7'.oB fun p hp=>?_,T.keep _ _ _ st5 (fun b hb o e=>(I6'.pin (b,o) (zH _ (zH _ (gw hb e)))).1),fun b hb=>?_,rv3,w7⟩
    ·have e:p=(s2.heap.objs.size,{cls:=.type "list",data:=.seq its.toArray k}):=by simpa using hp
     subst e;exact⟨pD,nD,neD,fD,dD⟩
    ·obtain⟨o,e,d⟩:=T.obj _ _ st5 b hb
     exact(I6'.pin (b,o) (zH _ (zH _ (gw hb e)))).2.1
   | true=>
   rw[if_pos rfl] at q6' ⊢;refine cS (he G2.objs.size s2 H2 fp _ s6' σ6 H6' _ I6' q6') fun v s7 ⟨y,H7,I7,r7,m',hm,w7⟩=>?_;have inD:(s2.heap.objs.size,({cls:=.type "list",data:=.seq its.toArray k}:Obj))∈Y.pn++([(s2.heap.objs.size,({cls:=.type "list",data:=.seq its.toArray k}:Obj))]++tN fp s5.heap):=by show _∈[]++_;simp
   obtain⟨pD,nD,neD,fD,dD⟩:=I7.pin _ inD;have hlen:=rv3.length;refine wpAny_list_append_plain (items:=its.toArray) (hsz:=by rw[ya];omega) ⟨k,pD⟩ fun g8 pl8 sb8=>?_;obtain⟨k8,e8⟩:=pl8;have I7':Inv Y [] σ6 H7 s7:=I7.oB fun p hp=>nomatch hp;have I8:Inv Y [] σ6 H7 {s7 with heap:=g8}:=I7'.turned (t':=s7.toks) (fun b o hb e=>sb8.extBut b o hb e) nD neD (.inr (zk _)) (fun x c e=>(cl2 x c e).2.2) (fun p hp=>(nomatch (show p∈([]:List (Addr×Obj)) from hp)));have e8':g8.get? s2.heap.objs.size=some {cls:=.type "list",data:=.seq (its++[v]).toArray k8}:=by rw[e8];simp
   have fpD:∀b∈fp,∀o,s5.heap.get? b=some o->g8.get? b=some o:=fun b hb o e=>sb8.extBut b o (below b (fplt b hb)).2 (I7.pin (b,o) (zH _ (zH _ (gw hb e)))).1;refine⟨m',hm,i+1,σ6,H7,xs++[y],its++[v],k8,I8.oB fun p hp=>?_,T.keep _ _ _ st5 fpD,fun b hb=>?_,rv3.append (.cons r7 .nil),w7⟩
   ·have e:p=(s2.heap.objs.size,{cls:=.type "list",data:=.seq (its++[v]).toArray k8}):=by simpa using hp
    subst e;exact⟨e8',nD,neD,fD,fun v z=>by cases z⟩
   ·obtain⟨o,e,d⟩:=T.obj _ _ st5 b hb
    exact(I7.pin (b,o) (zH _ (zH _ (gw hb e)))).2.1
 exact codeAny_compStart_list (loop _) (T.self _ _ _ _ _ (T.keep _ _ _ st2 fun b _ o e=>old b o e) (loop _))
theorem JG {elt target iter:Expr} {scope:Scope} {N:List Str} {fr:List (Option Nat)} {cl:List (Str×Addr)} {wi:TI} {g:TG} {tc:TT} {te:TE} {ifs:List Expr} (hc:X.calm=true) (hclos:closureFor scope X.env=pure cl) (hsub:∀x c,cl.lookup x=some c->X.env.cells.lookup x=some c) (hhas:∀C x,((compEnvC scope cl C X.env).kindOf x=some .cell\/(compEnvC scope cl C X.env).kindOf x=some .free)->(∃c,cl.lookup x=some c)\/∃c,(cellsFrom (C+1) scope.names []).lookup x=some c)
  (hlen:fr.length=N.length) (hfr:∀(i:Nat) x j,N[i]?=some x->fr[i]?=some (some j)->X.N[j]?=some x/\P8 X.env.scope x/\X.env.kindOf x≠some .local/\(∀C,(compEnvC scope cl C X.env).kindOf x=some .cell\/(compEnvC scope cl C X.env).kindOf x=some .free)/\(∀c,X.env.cells.lookup x=some c->cl.lookup x=some c)/\∀C,(cellsFrom (C+1) scope.names []).lookup x=none) (hkind:scope.kind=.function)
  (hnames:∀y∈scope.names,y.2=.local->scope.names.lookup y.1=some .local) (hi:PI X target iter wi)
  (hg:∀C s₀ H₀ ex,PG (dA X N scope cl C s₀ H₀ ex) target g) (hif:∀C s₀ H₀ ex,N2 (dA X N scope cl C s₀ H₀ ex) ifs tc) (he:∀C s₀ H₀ ex,PE (dA X N scope cl C s₀ H₀ ex) elt te) (hs:autoParam (∀x,foldedSetIterable iter X.env x=pure x) qd_) :
  PE X (.ListComp elt [⟨target,iter,ifs,0⟩] scope pos) (mZ fr wi g tc te):=by
 intro pins s σ H Q I h;rw[eval_ListComp];refine wpAny_comprehension_free (use:=none) (cl:=cl) rfl hs hclos hkind hnames (cS (hi pins s σ H _ I h) fun xv s1 h1=>cS h1 fun itv s2 h2=>?_);obtain⟨it,fp,tn,J,H2,e,I2,T,st2,f2,ok⟩:=h2;subst e;refine Ae (RR:=fun acc C=>compPost (model X.prog X.w) X.A X.xe none (EP X pins σ Q) acc C) hc hsub hhas hlen hfr hkind hg hif he I2 T st2 f2 ok ?_;intro D C s4 H' xs hD hC hne I4 nD nC ⟨m,hm⟩ qn;refine⟨m,hm,fun g5 hs5=>⟨.ref D,upd H' D (.lst xs),I2.QQ hC I4 (by rw[aG hne];exact nC) hs5,rfl,qn D nD⟩⟩
theorem JC {elt target iter:Expr} {scope:Scope} {N:List Str} {fr:List (Option Nat)} {cl:List (Str×Addr)} {wi:TI} {g:TG} {tc:TT} {te:TE} {ifs:List Expr} (hc:X.calm=true) (hclos:closureFor scope X.env=pure cl) (hsub:∀x c,cl.lookup x=some c->X.env.cells.lookup x=some c) (hhas:∀C x,((compEnvC scope cl C X.env).kindOf x=some .cell\/(compEnvC scope cl C X.env).kindOf x=some .free)->(∃c,cl.lookup x=some c)\/∃c,(cellsFrom (C+1) scope.names []).lookup x=some c)
  (hlen:fr.length=N.length) (hfr:∀(i:Nat) x j,N[i]?=some x->fr[i]?=some (some j)->X.N[j]?=some x/\P8 X.env.scope x/\X.env.kindOf x≠some .local/\(∀C,(compEnvC scope cl C X.env).kindOf x=some .cell\/(compEnvC scope cl C X.env).kindOf x=some .free)/\(∀c,X.env.cells.lookup x=some c->cl.lookup x=some c)/\∀C,(cellsFrom (C+1) scope.names []).lookup x=none) (hkind:scope.kind=.function)
  (hnames:∀y∈scope.names,y.2=.local->scope.names.lookup y.1=some .local) (hi:PI X target iter wi)
  (hg:∀C s₀ H₀ ex,PG (dA X N scope cl C s₀ H₀ ex) target g) (hif:∀C s₀ H₀ ex,N2 (dA X N scope cl C s₀ H₀ ex) ifs tc) (he:∀C s₀ H₀ ex,PE (dA X N scope cl C s₀ H₀ ex) elt te) (hs:autoParam (∀x,foldedSetIterable iter X.env x=pure x) qd_)  {i:Nat} {x:Str} {ps pa:Pos} (hN:X.N.Nodup) (hx1:X.N[i]?=some x) (hx2:Loc X.env.scope x) (hsw:autoParam (swapsWith (.ListComp elt [⟨target,iter,ifs,0⟩] scope pos) (some (.Name x ps)) pa.line X.env=pure true) qe_)
  (hf:autoParam (X.fn x=true\/X.env.scope.names.lookup x=some .local) qa_) :
  PS X (.Assign [.Name x ps] (.ListComp elt [⟨target,iter,ifs,0⟩] scope pos) pa) (Ey (mZ fr wi g tc te) (bc i)):=by
 intro pins s σ H D I h;rw[exec_Assign_Name_used _ _ _ _ hsw];refine yt (wpAny_standAt (yt ?_));show wpAny _ X.A (do let _ <-comprehension (.ListComp elt [⟨target,iter,ifs,0⟩] scope pos) scope X.env _ (newList []) false (eval iter X.env) (some (assign (.Name x ps) X.env))) _ _ s;refine yt (wpAny_mono (wpAny_comprehension_free (use:=some (assign (.Name x ps) X.env)) (cl:=cl) (Q:=fun _ s'=>SP X pins D .next s') rfl hs hclos hkind hnames (cS (hi pins s σ H _ I h) fun xv s1 h1=>cS h1 fun itv s2 h2=>?_)) (fun _ s' hq=>yv (yv hq)) fun _ _ e=>e);obtain⟨it,fp,tn,J,H2,e,I2,T,st2,f2,ok⟩:=h2;subst e;refine Ae (RR:=fun acc C=>compPost (model X.prog X.w) X.A X.xe (some (assign (.Name x ps) X.env)) (fun _ s'=>SP X pins D .next s') acc C) hc hsub hhas hlen hfr hkind hg hif he I2 T st2 f2 ok ?_;intro E C s4 H' xs hE hC hne I4 nE nC ⟨m,hm⟩ qn;show wpAny _ X.A (assign (.Name x ps) X.env (.ref E)) _ _ s4;refine wpAny_assign_Name (BD I4 hN hx1 hx2 (v:=.ref E) rfl (fun s5 I5 hw=>?_) hf);obtain⟨aw,sb,ha⟩:=hw;have hCn:(upd H' E (.lst xs)) C=none:=by rw[aG hne];exact nC
 obtain⟨f0,f1,f2',f3,f4,f5⟩:=I2.vX hC hCn;have neC:C≠aw:=by
  rcases ha with z | z
  ·rw[z];exact f1
  ·exact fun q=>f4 x aw z q.symm
 refine⟨m,hm.sameBut sb neC,fun g6 hs6=>?_⟩;exact⟨_,_,I2.QQ hC I5 hCn hs6,qn E nE⟩
end
def DX (cells:List (Str×Addr)):List (Str×Addr)->Prop
 | []=>True
 | p::r=>cells.lookup p.1=some p.2/\DX cells r
theorem DX.sub:∀{cl:List (Str×Addr)},DX cells cl->∀x c,cl.lookup x=some c->cells.lookup x=some c
 | [],_,x,c,e=>by cases e
 | (y,d)::r,h,x,c,e=>by
  rw[yp] at e;split at e
  ·rename_i q
   cases e;rw[eq_of_beq q];exact h.1
  ·exact DX.sub h.2 x c e
def Kt (X:Cx) (scope:Scope) (cl:List (Str×Addr)):List Str->List Nat->Prop
 | [],[]=>True
 | y::ys,j::js=>(X.N[j]?=some y/\(X.env.kindOf y=some .cell\/X.env.kindOf y=some .free)/\((relabel scope X.env).names.lookup y=some .cell\/(relabel scope X.env).names.lookup y=some .free)/\∃c,X.env.cells.lookup y=some c/\cl.lookup y=some c)/\Kt X scope cl ys js
 | _,_=>False
theorem Kt.len:∀{ys:List Str} {js:List Nat},Kt X scope cl ys js->js.length=ys.length
 | [],[],_=>rfl
 | _::_,_::_,h=>by rw[zt,zt,Kt.len h.2]
 | [],_::_,h=>h.elim
 | _::_,[],h=>h.elim
theorem Kt.get:∀{ys:List Str} {js:List Nat} {i:Nat} {y:Str} {j:Nat},Kt X scope cl ys js->ys[i]?=some y->js[i]?=some j->
  X.N[j]?=some y/\(X.env.kindOf y=some .cell\/X.env.kindOf y=some .free)/\((relabel scope X.env).names.lookup y=some .cell\/(relabel scope X.env).names.lookup y=some .free)/\∃c,X.env.cells.lookup y=some c/\cl.lookup y=some c
 | [],_,_,_,_,_,e,_=>by simp at e
 | _::_,[],_,_,_,h,_,_=>h.elim
 | y::ys,j::js,0,_,_,h,e,e'=>by simp at e e';subst e e';exact h.1
 | y::ys,j::js,i+1,_,_,h,e,e'=>Kt.get (i:=i) h.2 (by simpa using e) (by simpa using e')
theorem HK:∀{names:List (Str×NameKind)} {n:Nat} {x:Str} {c:Addr},(cellsFrom n names []).lookup x=some c->(x,NameKind.cell)∈names
 | [],_,_,_,e=>by cases e
 | (y,k)::r,n,x,c,e=>by
  unfold cellsFrom at e;split at e
  ·rename_i hk
   rw[dg,List.lookup_append] at e;cases q:(cellsFrom (n+1) r []).lookup x with
   | some d=>exact zm _ (HK q)
   | none=>
    rw[q] at e;have e':([(y,n)]:List (Str×Addr)).lookup x=some c:=e;rw[yp] at e';split at e'
    ·rename_i z
     rw[eq_of_beq z,eq_of_beq hk];exact zp
    ·cases e'
  ·exact zm _ (HK e)
theorem HL:∀{names:List (Str×NameKind)} {n:Nat} {x:Str},(x,NameKind.cell)∈names->∃c,(cellsFrom n names []).lookup x=some c
 | [],_,_,h=>by cases h
 | (y,k)::r,n,x,h=>by
  unfold cellsFrom;split
  ·rw[dg,List.lookup_append]
   cases q:(cellsFrom (n+1) r []).lookup x with
   | some d=>exact⟨d,rfl⟩
   | none=>
    rcases zC.mp h with h | h
    ·obtain⟨e1,_⟩:=Prod.mk.inj h
     exact⟨n,by show([(y,n)]:List (Str×Addr)).lookup x=some n;rw[e1,yp,beq_self_eq_true]⟩
    ·obtain⟨c,e⟩:=HL (n:=n+1) h
     rw[q] at e;cases e
  ·rename_i hk
   rcases zC.mp h with h | h
   ·cases h;exact absurd rfl hk
   ·exact HL h
theorem vc:∀{L:List (Str×NameKind)} {x:Str} {k:NameKind},L.lookup x=some k->(x,k)∈L
 | [],_,_,h=>by cases h
 | (y,j)::r,x,k,h=>by
  rw[yp] at h;split at h
  ·rename_i q;cases h;rw[eq_of_beq q];exact zp
  ·exact zm _ (vc h)
section
variable {X:Cx} {pos:Pos} {elt target iter:Expr} {ifs:List Expr} {scope:Scope} {ts ys:List Str} {js:List Nat} {cl:List (Str×Addr)} {wi:TI} {g:TG} {tc:TT} {te:TE}
theorem Ca (hcl:DX X.env.cells cl) (hLo:((relabel scope X.env).names.all fun p=>(p.2 != .cell&&p.2 != .free)||ys.contains p.1||scope.names.contains (p.1,.cell))=true) (hno:∀p∈scope.names,p.2=.cell->p.1∉ys) (hfr:Kt X scope cl ys js) :
  (∀(C:Addr) x,((compEnvC scope cl C X.env).kindOf x=some .cell\/(compEnvC scope cl C X.env).kindOf x=some .free)->(∃c,cl.lookup x=some c)\/∃c,(cellsFrom (C+1) scope.names []).lookup x=some c)/\
  (ts.map (fun _=>(none:Option Nat))++js.map some).length=(ts++ys).length/\
  (∀(i:Nat) x j,(ts++ys)[i]?=some x->(ts.map (fun _=>(none:Option Nat))++js.map some)[i]?=some (some j)->X.N[j]?=some x/\P8 X.env.scope x/\X.env.kindOf x≠some .local/\(∀C,(compEnvC scope cl C X.env).kindOf x=some .cell\/(compEnvC scope cl C X.env).kindOf x=some .free)/\(∀c,X.env.cells.lookup x=some c->cl.lookup x=some c)/\∀C,(cellsFrom (C+1) scope.names []).lookup x=none):=by
 refine⟨fun C x hx=>?_,by simp[Kt.len hfr],fun i x j h1 h2=>?_⟩
 ·have key:∀k,(relabel scope X.env).names.lookup x=some k->(k=.cell\/k=.free)->(∃c,cl.lookup x=some c)\/∃c,(cellsFrom (C+1) scope.names []).lookup x=some c:=fun k hk hk'=>by
   have:=(yo.mp hLo) _ (vc hk);rw[Bool.or_eq_true,Bool.or_eq_true] at this;rcases this with(z | z) | z
   ·rcases hk' with rfl | rfl <;> simp at z
   ·have hm:x∈ys:=List.contains_iff_mem.mp z
    obtain⟨n,hn⟩:=List.getElem?_of_mem hm;have hl:n<js.length:=by rw[hfr.len];exact(zw.mp hn).1
    obtain⟨_,_,_,c,_,e⟩:=hfr.get hn (zb hl);exact .inl ⟨c,e⟩
   ·exact .inr (HL (List.contains_iff_mem.mp z))
  rcases hx with hx | hx
  ·exact key _ hx (.inl rfl)
  ·exact key _ hx (.inr rfl)
 ·have hi:ts.length<=i:=by
   rcases Nat.lt_or_ge i ts.length with h | h
   ·rw[List.getElem?_append_left (by simpa using h),zJ] at h2
    cases q:ts[i]? with
    | none=>rw[q] at h2;cases h2
    | some z=>rw[q] at h2;cases h2
   ·exact h
  rw[zZ hi] at h1;rw[zZ (by simpa using hi),za,zJ] at h2;have h2':js[i-ts.length]?=some j:=by
   cases q:js[i-ts.length]? with
   | none=>rw[q] at h2;cases h2
   | some z=>rw[q] at h2;cases h2;rfl
  obtain⟨k1,k2,k3,c,k4,k5⟩:=hfr.get h1 h2';refine⟨k1,.inr k2,fun z=>?_,fun C=>k3,fun d hd=>?_,fun C=>?_⟩
  ·rcases k2 with k2 | k2 <;> (rw[z] at k2;cases k2)
  ·rw[k4] at hd;cases hd;exact k5
  ·cases q:(cellsFrom (C+1) scope.names []).lookup x with
   | none=>rfl
   | some d=>exact absurd (zB h1) (hno _ (HK q) rfl)
theorem LM (hc:X.calm=true) (hclos:closureFor scope X.env=pure cl) (hcl:DX X.env.cells cl) (hLo:((relabel scope X.env).names.all fun p=>(p.2 != .cell&&p.2 != .free)||ys.contains p.1||scope.names.contains (p.1,.cell))=true) (hno:∀p∈scope.names,p.2=.cell->p.1∉ys) (hfr:Kt X scope cl ys js) (hkind:scope.kind=.function)
  (hnames:∀y∈scope.names,y.2=.local->scope.names.lookup y.1=some .local) (hi:PI X target iter wi)
  (hg:∀C s₀ H₀ ex,PG (dA X (ts++ys) scope cl C s₀ H₀ ex) target g) (hif:∀C s₀ H₀ ex,N2 (dA X (ts++ys) scope cl C s₀ H₀ ex) ifs tc) (he:∀C s₀ H₀ ex,PE (dA X (ts++ys) scope cl C s₀ H₀ ex) elt te) (hs:autoParam (∀x,foldedSetIterable iter X.env x=pure x) qd_) :
  PE X (.ListComp elt [⟨target,iter,ifs,0⟩] scope pos) (mZ (ts.map (fun _=>none)++js.map some) wi g tc te):=by
 obtain⟨a,b,c⟩:=Ca (ts:=ts) hcl hLo hno hfr;exact JG hc hclos hcl.sub a b c hkind hnames hi hg hif he hs
theorem LB (hc:X.calm=true) (hclos:closureFor scope X.env=pure cl) (hcl:DX X.env.cells cl) (hLo:((relabel scope X.env).names.all fun p=>(p.2 != .cell&&p.2 != .free)||ys.contains p.1||scope.names.contains (p.1,.cell))=true) (hno:∀p∈scope.names,p.2=.cell->p.1∉ys) (hfr:Kt X scope cl ys js) (hkind:scope.kind=.function)
  (hnames:∀y∈scope.names,y.2=.local->scope.names.lookup y.1=some .local) (hi:PI X target iter wi)
  (hg:∀C s₀ H₀ ex,PG (dA X (ts++ys) scope cl C s₀ H₀ ex) target g) (hif:∀C s₀ H₀ ex,N2 (dA X (ts++ys) scope cl C s₀ H₀ ex) ifs tc) (he:∀C s₀ H₀ ex,PE (dA X (ts++ys) scope cl C s₀ H₀ ex) elt te) (hN:X.N.Nodup) (hx1:X.N[i]?=some x) (hx2:Loc X.env.scope x) (hs:autoParam (∀x,foldedSetIterable iter X.env x=pure x) qd_) (hsw:autoParam (swapsWith (.ListComp elt [⟨target,iter,ifs,0⟩] scope pos) (some (.Name x ps)) pa.line X.env=pure true) qe_)
  (hf:autoParam (X.fn x=true\/X.env.scope.names.lookup x=some .local) qa_) :
  PS X (.Assign [.Name x ps] (.ListComp elt [⟨target,iter,ifs,0⟩] scope pos) pa) (Ey (mZ (ts.map (fun _=>none)++js.map some) wi g tc te) (bc i)):=by
 obtain⟨a,b,c⟩:=Ca (ts:=ts) hcl hLo hno hfr;exact JC hc hclos hcl.sub a b c hkind hnames hi hg hif he hs hN hx1 hx2 hsw hf
end
def Gw (n:Nat) (f:Nat->List V) (Pv:Nat->St->Hp->Prop) (i m:Nat) (xs:List V) (σ:St) (H:Hp):Prop:=m=n-i/\i<=n/\xs=f i/\Pv i σ H
theorem Gw.push (hi:i<n) (e:f (i+1)=f i++[y]) (p:Pv (i+1) σ H):∃m',m'<n-i/\Gw n f Pv (i+1) m' (f i++[y]) σ H:=⟨n-(i+1),nofun,rfl,hi,e.symm,p⟩
theorem Gw.skip (hi:i<n) (e:f (i+1)=f i) (p:Pv (i+1) σ H):∃m',m'<n-i/\Gw n f Pv (i+1) m' (f i) σ H:=⟨n-(i+1),nofun,rfl,hi,e.symm,p⟩
theorem om (n:Nat) (f:Nat->List V) (Pv:Nat->St->Hp->Prop) (hz:∀i,i<=n->(f i).length<=i) (hn:n<=sizeLine) (f0:f 0=[]) (h0:Pv 0 σ₀ H1)
  (go:∀i σ H,i<n->Pv i σ H->J.go i H) (stop:∀σ H,Pv n σ H->J.stop n H)
  (turn:∀i x σ H H2,i<n->Pv i σ H->J.Ji i H x H2->g x σ H2 fun σ3 H3=>tc σ3 H3 fun b H4=>if b=true then te σ3 H4 fun y H5=>∃m',m'<n-i/\Gw n f Pv (i+1) m' (f i++[y]) σ3 H5 else∃m',m'<n-i/\Gw n f Pv (i+1) m' (f i) σ3 H4)
  (fin:∀σ H,Pv n σ H->∀D,H D=none->Q (.ref D) (upd H D (.lst (f n)))):dS σ₀ g tc te Q J H1:=by
 refine⟨Gw n f Pv,⟨n,by simp,yf _,f0.symm,h0⟩,?_⟩;rintro i m xs σ H ⟨rfl,hi,rfl,p⟩;have:=hz i hi;rcases Nat.lt_or_ge i n with hlt | hge
 ·exact .inr ⟨go i σ H hlt p,nofun,fun x H2 y=>turn i x σ H H2 hlt p y⟩
 ·have e:i=n:=nofun
  subst e;exact .inl ⟨stop σ H p,nofun,fin σ H p⟩
section
variable {X:Cx}
theorem CP (bs:List Bool):((List.range bs.length).any fun i=>(bs[i]?).getD false)=bs.any id:=by
 rw[Bool.eq_iff_iff,yn,yn];constructor
 ·rintro⟨i,hi,e⟩
  have hi':=List.mem_range.mp hi;rw[zb hi'] at e;exact⟨_,yk hi',e⟩
 ·rintro⟨b,hb,e⟩
  obtain⟨i,hi,e'⟩:=List.mem_iff_getElem.mp hb;exact⟨i,List.mem_range.mpr hi,by rw[zb hi,e'];exact e⟩
theorem gE (hc:X.calm=true):fO X (.builtin "any") (fun xs H Q=>∃(a:Addr) (bs:List Bool),xs=[.ref a]/\aL X.K H a (bs.map V.bl)/\Q (.bl (bs.any id)) H):=by
 intro pins s σ H xs us Q I r h;obtain⟨a,bs,e,hq,q⟩:=h;subst e;cases r with
 | cons r rr=>
  cases rr;cases r;obtain⟨its,rv,p,hz⟩:=I.list hq;have hlt:a<s.heap.objs.size:=by obtain⟨o,n,e,_⟩:=p;exact yx e
  have hlen:bs.length=its.length:=by have:=rv.length;rw[za] at this;exact this
  refine call_any_walk (wpAny_pyIter_list p.isList ?_);refine⟨s.heap.objs.size,[s.heap.objs.size,a],[s.heap.objs.size],its.toArray.size,_,_,fun i=>(bs[i]?).getD false,rfl,Walks.list (A:=X.A.in1) (I.ok.hd hc) _ a (yi hlt) its.toArray,
   ⟨⟨_,yw _ rfl,rfl,rfl⟩,p.isList.push _⟩,fun i v s' Q' E' hP hQ=>?_,fun h' tk hk=>?_⟩
  ·have hP':its[i]?=some v:=by simpa using hP
   have hi:i<bs.length:=by rw[hlen];exact(zw.mp hP').1
   have hm:(bs.map V.bl)[i]?=some (.bl bs[i]):=by rw[zJ,zb hi];rfl
   obtain⟨u,hu,ru⟩:=rv.get hm;rw[hP'] at hu;cases hu;cases ru;dsimp only at hQ;rw[zb hi] at hQ;exact wpAny_truthy_bool hQ
  ·have e:((List.range its.toArray.size).any fun i=>(bs[i]?).getD false)=bs.any id:=by rw[ya,<-hlen];exact CP bs
   rw[e];exact⟨.bl _,H,I.kept fun b o x=>hk b o (fun hm=>by rw[zy.mp hm] at x;exact ye _ (yx x)) (yu _ x),rfl,q⟩
theorem u9 (ns:List Int):∀k,k<=ns.length->preSum (fun i=>(ns[i]?).getD 0) k=(ns.take k).sum:=by
 intro k
 induction k with
 | zero=>intro _;simp[preSum]
 | succ k ih=>
  intro hk;have hk':k<ns.length:=hk;have e:=ih (yg hk');rw[List.take_succ,List.sum_append,<-e,zb hk'];simp[preSum,zb hk']
theorem Ka (hc:X.calm=true):fO X (.builtin "sum") (fun xs H Q=>∃(a:Addr) (ns:List Int),xs=[.ref a]/\aL X.K H a (ns.map V.int)/\(∀n∈ns,0<=n/\n<1000000)/\ns.length<=1000/\Q (.int ns.sum) H):=by
 intro pins s σ H xs us Q I r h;obtain⟨a,ns,e,hq,hb,hl,q⟩:=h;subst e;cases r with
 | cons r rr=>
  cases rr;cases r;obtain⟨its,rv,p,hz⟩:=I.list hq;have hlt:a<s.heap.objs.size:=by obtain⟨o,n,e,_⟩:=p;exact yx e
  have hlen:ns.length=its.length:=by have:=rv.length;rw[za] at this;exact this
  have bnd:∀k,k<=ns.length->0<=(ns.take k).sum/\(ns.take k).sum<=1000000*k:=by
   intro k
   induction k with
   | zero=>intro _;simp
   | succ k ih=>
    intro hk;have hk':k<ns.length:=hk;have:=ih (yg hk');rw[List.take_succ,List.sum_append,zb hk'];have hb':=hb _ (yk hk');simp only[Option.toList_some,List.sum_cons,List.sum_nil];omega
  refine call_sum_walk (wpAny_pyIter_list p.isList ?_);refine⟨s.heap.objs.size,[s.heap.objs.size,a],[s.heap.objs.size],its.toArray.size,_,_,fun i=>(ns[i]?).getD 0,rfl,Walks.list (A:=X.A.in1) (I.ok.hd hc) _ a (yi hlt) its.toArray,
   ⟨⟨_,yw _ rfl,rfl,rfl⟩,p.isList.push _⟩,fun b hb'=>?_,fun i v hP=>?_,fun j hj=>?_,fun h' tk t' hk=>?_⟩
  ·rw[Heap.size_push]
   rcases zC.mp hb' with e | e
   ·rw[e];exact Nat.lt_succ_self _
   ·rw[zy.mp e];exact Nat.lt_succ_of_lt hlt
  ·have hP':its[i]?=some v:=by simpa using hP
   have hi:i<ns.length:=by rw[hlen];exact(zw.mp hP').1
   have hm:(ns.map V.int)[i]?=some (.int ns[i]):=by rw[zJ,zb hi];rfl
   obtain⟨u,hu,ru⟩:=rv.get hm;rw[hP'] at hu;cases hu;dsimp only;rw[zb hi];exact ru
  ·have hj':j<ns.length:=by rw[hlen];simpa using hj
   have b1:=hb _ (yk hj');have b2:=bnd (j+1) hj';rw[u9 ns (j+1) hj'];dsimp only;rw[zb hj'];simp only[Option.getD_some];constructor <;> (unfold InLong;omega)
  ·have e:preSum (fun i=>(ns[i]?).getD 0) its.toArray.size=ns.sum:=by rw[ya,<-hlen,u9 ns _ (zk _),zM]
   rw[e];exact⟨.int _,H,I.kept fun b o x=>hk b o (fun hm=>by rw[zy.mp hm] at x;exact ye _ (yx x)) (yu _ x),⟨_,rfl⟩,q⟩
end
section
variable {prog:Program} {w:World} {A:Around} {E:Value->Shared->Prop} {s:Shared}
theorem Bk (hl:IsTup s.heap l vs.toArray)
  (h:Q vs {s with heap:=(s.heap.push (seqObj "list" #[] 0)).update s.heap.objs.size (Obj.mapSeq (·++vs.toArray))}) (hsz:vs.length<=sizeLine) :
  wpAny (model prog w) A (collect (.ref l)) Q E s:=by
 obtain⟨o,ho,hc,n,hd⟩:=id hl;unfold collect;refine yt (wpAny_runValue (codeAny_builtin entry_proto_collect' ?_));show wpAny _ _ (do again (.builtin "list.__iadd__" ⟨[<-newList [],.ref l],[]⟩)) _ _ s;refine yt (wpAny_newList (yv ⟨Code.quiet_builtin _ (by decide +kernel),codeAny_builtin entry_list_iadd' ?_⟩));show wpAny _ _ (Builtin.List.listExtendWith (.ref s.heap.objs.size) (.ref l) (.ref s.heap.objs.size)) _ _ {s with heap:=s.heap.push (seqObj "list" #[] 0)};unfold Builtin.List.listExtendWith;have ho':(s.heap.push (seqObj "list" #[] 0)).get? l=some o:=yu _ ho;refine yt (wpAny_typeOf (T:="tuple") ⟨o,ho',hc⟩ ?_);have ht:(Value.type "tuple"== Value.type "tuple")=true:=by rfl
 rw[if_pos (by rw[ht];simp)];refine yt (listItems_at ho' hd ?_);refine yt (listItems_at (xs:=#[]) (n:=0) (yw _ rfl) rfl ?_);rw[if_neg (by simp)];refine yt (listUpdate_at (xs:=#[]) (n:=0) (yw _ rfl) rfl ?_ (yf _) (by show(#[]++vs.toArray).size<=sizeLine+1;simp only[Array.size_append,ya,List.length_nil];omega));refine yv ?_;show wpAny (model prog w) A (do
   let o <-load s.heap.objs.size
   match o.data with
   | .seq xs _=>pure xs.toList
   | _=>unsupported "internal:collect") Q E {s with heap:=(s.heap.push (seqObj "list" #[] 0)).update s.heap.objs.size (Obj.mapSeq (·++vs.toArray))}
 refine yt (wpAny_load (get?_update_seq (yw _ rfl) _) ?_);show wpAny _ _ (pure ((#[]:Array Value)++vs.toArray).toList) Q E _;rw[show((#[]:Array Value)++vs.toArray).toList=vs by simp];exact yv h
theorem GO (hl:IsTup s.heap l vs.toArray) (hI:IntsAre vs ns) (h64:vs.length<64)
  (h:∀(out:Array Value) (ns':List Int),IntsAre out.toList ns'->ns'.Perm ns->ns'.Pairwise (·<=·)->Q (.ref (s.heap.objs.size+1)) {s with heap:=sortedAll s.heap vs out}) :
  wpAny (model prog w) A (call (.builtin "sorted") [.ref l]) Q E s:=by
 refine Calls.call_function_entry kind_sorted plain_sorted entry_sorted (args_sorted1 _) ?_;unfold Builtin.«sorted»;refine yt (m:=checkCount "sorted" 1 1 _) (yv ?_);refine yt (Bk hl ?_ (by rw[yB];omega));refine yt (wpAny_newList ?_);have hsz:((s.heap.push (seqObj "list" #[] 0)).update s.heap.objs.size (Obj.mapSeq (·++vs.toArray))).objs.size=s.heap.objs.size+1:=by
  rw[Heap.size_update,size_push']
 have hoL:(((s.heap.push (seqObj "list" #[] 0)).update s.heap.objs.size (Obj.mapSeq (·++vs.toArray))).push (seqObj "list" vs.toArray 0)).get? (s.heap.objs.size+1)=some (seqObj "list" vs.toArray 0):=by
  rw[<-hsz];exact yw _ rfl
 show wpAny _ _ _ _ _ {s with heap:=((s.heap.push (seqObj "list" #[] 0)).update s.heap.objs.size (Obj.mapSeq (·++vs.toArray))).push (seqObj "list" vs.toArray 0)};rw[hsz];refine yt (wpAny_holding (wpAny_call_entry slot_list_sort ⟨_,hoL,rfl⟩ entry_list_sort (list_sort_tree hoL hI h64 fun out ns' a1 a2 a3=>⟨_,rfl,?_⟩) (args_list_sort _)));exact yv ⟨_,rfl,h out ns' a1 a2 a3⟩
theorem AQ (h:Heap) (vs:List Value) (out:Array Value):∃n,(sortedAll h vs out).get? (h.objs.size+1)=some {cls:=.type "list",data:=.seq out n}:=by
 have hsz:((h.push (seqObj "list" #[] 0)).update h.objs.size (Obj.mapSeq (·++vs.toArray))).objs.size=h.objs.size+1:=by rw[Heap.size_update,size_push']
 have h1:(((h.push (seqObj "list" #[] 0)).update h.objs.size (Obj.mapSeq (·++vs.toArray))).push (seqObj "list" vs.toArray 0)).get? (h.objs.size+1)=some (seqObj "list" vs.toArray 0):=by
  rw[<-hsz];exact yw _ rfl
 unfold sortedAll sortedHeap;have h2:=get?_update_seq h1 (fun _=>#[]);have h3:=yu (seqObj "list" #[] 0) (yu (seqObj "tuple" vs.toArray 0) h2);exact⟨_,get?_update_seq h3 (fun _=>out)⟩
theorem vE (h:Heap) (vs:List Value) (out:Array Value) (b:Addr) (o:Obj) (e:h.get? b=some o):(sortedAll h vs out).get? b=some o:=by
 have hb:b<h.objs.size:=yx e;unfold sortedAll sortedHeap;have n1:h.objs.size≠b:=yh hb;have n2:h.objs.size+1≠b:=yh (Nat.lt_succ_of_lt hb);rw[yy _ _ n2];refine yu _ (yu _ ?_);rw[yy _ _ n2];refine yu _ ?_;rw[yy _ _ n1];exact yu _ e
end
theorem qR:∀{us:List Value} {ns:List Int},IntsAre us ns->Vals (ns.map V.int) us
 | _,_,.nil=>.nil
 | _,_,.cons r t h=>.cons ⟨_,rfl⟩ (qR h)
section
variable {X:Cx}
theorem sO:fO X (.builtin "sorted") (fun xs H Q=>∃(a:Addr) (ns:List Int),xs=[.ref a]/\(aL X.K H a (ns.map V.int)\/dB X.K H a (ns.map V.int))/\ns.length<64/\∀ns':List Int,ns'.Perm ns->ns'.Pairwise (·<=·)->∀l,H l=none->Q (.ref l) (upd H l (.lst (ns'.map V.int)))):=by
 intro pins s σ H xs us Q I r h;obtain⟨a,ns,rfl,hq,h64,q⟩:=h;obtain⟨u,rfl,rx⟩:=vals1 r;cases rx;have fin:∀(its:List Value),ns.length=its.length->∀(out:Array Value) (ns':List Int),IntsAre out.toList ns'->ns'.Perm ns->ns'.Pairwise (·<=·)->EP X pins σ Q (.ref (s.heap.objs.size+1)) {s with heap:=sortedAll s.heap its out}:=fun its hl out ns' a1 a2 a3=>by
  obtain⟨n,hn⟩:=AQ s.heap its out;refine⟨.ref _,_,I.laid (t':=s.toks) (a:=s.heap.objs.size+1) (o:=.lst (ns'.map V.int)) (vE s.heap its out) (Nat.le_succ _) ?_,rfl,q ns' a2 a3 _ (I.bZ.fresh (Nat.le_succ _))⟩;refine⟨by rw[za,a2.length_eq,yB];omega,out.toList,n,qR a1,by simpa using hn⟩
 rcases hq with hq | hq
 ·obtain⟨its,rv,p,_⟩:=I.list hq
  have hl:ns.length=its.length:=by have:=rv.length;rw[za] at this;exact this
  exact sorted_ints p.isList (intsAre_of rv) nofun (fin its hl)
 ·obtain⟨its,rv,p,_⟩:=I.tuple hq
  have hl:ns.length=its.length:=by have:=rv.length;rw[za] at this;exact this
  exact GO p (intsAre_of rv) nofun (fin its hl)
theorem Iu:∀{zs:List Str} {us:List Value},Vals (zs.map V.str) us->∃l:List (Str×Tok),us=strValues l/\l.map (·.1)=zs
 | [],_,.nil=>⟨[],rfl,rfl⟩
 | z::zs,_,.cons ⟨t,e⟩ r=>by
  obtain⟨l,e1,e2⟩:=Iu r;subst e e1 e2;exact⟨(z,t)::l,rfl,rfl⟩
def rJoin (K:yA):V->List V->Hp->VK->Prop:=fun x vs H Q=>∃(sep:Str) (a:Addr) (zs:List Str),x=.str sep/\vs=[.ref a]/\aL K H a (zs.map V.str)/\(zs.map (fun z:Str=>z.length+sep.length)).sum<=sizeLine/\Q (.str (Str.join sep zs)) H
theorem FE (sep:Str):∀(zs:List Str) (k:Nat),zs.foldl (fun n z=>n+z.length+sep.length) k=k+(zs.map (fun z:Str=>z.length+sep.length)).sum
 | [],k=>by simp
 | z::zs,k=>by
  rw[List.foldl_cons,FE sep zs,zh,List.sum_cons];omega
theorem Iq (sep:Str):∀zs:List Str,(zs.map (·.length)).sum+zs.length*sep.length=(zs.map (fun z:Str=>z.length+sep.length)).sum
 | []=>by simp
 | z::zs=>by
  have ih:=Iq sep zs;simp only[zh,List.sum_cons,zt,Nat.succ_mul] at ih ⊢;omega
theorem gK:OC X "str.join" (rJoin X.K):=by
 intro pins s σ H x vs v us Q I rx rv h;obtain⟨sep,a,zs,rfl,rfl,hq,hz,q⟩:=h;obtain⟨tk,rfl⟩:=rx;obtain⟨u,rfl,ru⟩:=rv.one;cases ru;obtain⟨its,ri,p,_⟩:=I.list hq;obtain⟨l,e1,e2⟩:=Iu ri;subst e1;have hl:Builtin.Str.tooLong ((l.map (·.1)).toArray.foldl (·+·.length+sep.length) 0)=false:=by
  rw[e2,List.foldl_toArray,FE,Nat.zero_add];exact zd nofun
 have hj:Builtin.Str.glued sep (l.map (·.1))=Str.join sep zs:=by rw[e2];exact StrLaws.glued_eq_join sep zs
 have jl:(Str.join sep zs).length<=sizeLine:=by
  exact zL (StrLaws.join_length_le sep zs) (zL (Nat.le_of_eq (Iq sep zs)) hz)
 refine call_meets F.slot_str_join (typeIs_str s sep tk) F.entry_str_join (F.args_str_join_2 _ _) (meets_str_join_list sep tk a l hl) ⟨p.isList,?_⟩
 match l,e2,hj with
 | [],e2,hj=>
  subst e2;exact⟨by rw[hj];exact jl,.str _,H,I.tok _,⟨_,rfl⟩,by rw[hj];exact q⟩
 | [z],e2,hj=>
  subst e2;exact⟨.str _,H,I,⟨_,rfl⟩,q⟩
 | z::z'::r,e2,hj=>
  subst e2;exact⟨by rw[hj];exact jl,.str _,H,I.tok _,⟨_,rfl⟩,by rw[hj];exact q⟩
def qk (x:Str) (n:Nat):Str:=⟨(List.replicate n x.cps).foldl (·++·) #[]⟩
def Oh:R2:=fun x y H Q=>∃(t:Str) (n:Int),x=.str t/\y=.int n/\0<=n/\n<=1000/\t.length<=1000/\Q (.str (qk t n.toNat)) H
theorem rL (x:Str) (n:Nat):(qk x n).cps.toList=(List.replicate n x.cps.toList).flatten:=by
 have key:∀(n:Nat) (a:Array Nat),((List.replicate n x.cps).foldl (·++·) a).toList=a.toList++(List.replicate n x.cps.toList).flatten:=by
  intro n
  induction n with
  | zero=>intro a;simp
  | succ n ih=>intro a;rw[List.replicate_succ,List.foldl_cons,ih,List.replicate_succ,z9];simp
 have:=key n #[];show((List.replicate n x.cps).foldl (·++·) #[]).toList=_;rw[this];rfl
theorem EU (x:Str) (n:Nat):(qk x n).length=n*x.length:=by
 have e:(qk x n).length=(qk x n).cps.toList.length:=Array.length_toList.symm;rw[e,rL];have e2:x.cps.toList.length=x.length:=Array.length_toList;simp[e2]
theorem Ln (x:Str):qk x 1=x:=kZ (by rw[rL];simp)
theorem Ny:oX X (binaryOp .Mult) Oh:=by
 intro pins s σ H x y v u Q I rx ry h;obtain⟨t,n,rfl,rfl,h0,h1,hl,q⟩:=h;obtain⟨tk,rfl⟩:=rx;obtain⟨tk',rfl⟩:=ry;have sl:=yB;have hm:t.length*n.toNat<=1000000:=by
  have:t.length*n.toNat<=1000*1000:=Nat.mul_le_mul hl nofun;omega
 refine P.mul_str (by rw[zd nofun,zd nofun];rfl) (fun h2 _=>?_) (fun _ _=>zd nofun) ?_
 ·have:(2^63-1)/1000<=((2:Int)^63-1)/n:=by
   rw[Int.le_ediv_iff_mul_le nofun];have:n*9223372036854775<=1000*9223372036854775:=Int.mul_le_mul_of_nonneg_right h1 (by decide);omega
  omega
 ·by_cases c1:n<1
  ·have e:n.toNat=0:=nofun
   rw[if_pos c1];rw[e] at q;exact⟨by decide,.str _,H,I.tok _,⟨_,rfl⟩,q⟩
  ·rw[if_neg c1]
   refine post_val_or_str ⟨?_,fun t' k=>⟨.str _,H,I.tok _,⟨_,rfl⟩,?_⟩⟩
   ·split
    ·omega
    ·have:=EU t n.toNat
     have e:n.toNat*t.length=t.length*n.toNat:=Nat.mul_comm _ _;show(qk t n.toNat).length<=sizeLine;omega
   ·have ee:(if(n == 1||t.length == 0)=true then t else qk t n.toNat)=qk t n.toNat:=by
     split
     ·rename_i c2
      rw[Bool.or_eq_true,beq_iff_eq,beq_iff_eq] at c2;rcases c2 with rfl | c2
      ·exact(Ln t).symm
      ·refine kZ ?_
       have e2:t.cps.toList=[]:=yr.mp (by rw[Array.length_toList];exact c2);rw[rL,e2];simp
     ·rfl
    show Q (.str (if(n == 1||t.length == 0)=true then t else qk t n.toNat)) H;rw[ee];exact q
end
def KD (P:Program) (w:World) (K:yA) (a:Addr) (kvs:List (Str×V)):Prop:=
 (a == sysModules)=false/\(kvs.map (·.1)).Nodup/\∀h:Heap,K.In h->∃vs:List (Key×Value),KV (kvs.map fun p=>((Sum.inr p.1:Key),p.2)) vs/\h.DictOf (cY P w) a vs
def FN (Pm:Params) (l:List (Str×Tok×Addr)):List DictEntry:=l.map fun p=>⟨PyData.keyHash Pm p.1,.str p.1 p.2.1,.ref p.2.2⟩
theorem LR:∀{l:List Str},l.Nodup->(l.map (Sum.inr:Str->Key)).Nodup
 | [],_=>List.nodup_nil
 | x::r,h=>by
  rw[yc] at h;rw[zh,yc];exact⟨fun z=>by obtain⟨y,hy,e⟩:=zG.mp z;exact h.1 (Sum.inr.inj e▸hy),LR h.2⟩
theorem QR {P:Program} {w:World} {K:yA} {a:Addr} {l:List (Str×Tok×Addr)} {n:Nat} (hl:K.lookup a=some {cls:=.type "dict",data:=.dict (FN w.params l).toArray n}) (hs:(a == sysModules)=false) (nd:(l.map (·.1)).Nodup) :
  KD P w K a (l.map fun p=>(p.1,V.ref p.2.2)):=by
 have e1:(l.map fun p=>(p.1,V.ref p.2.2)).map (·.1)=l.map (·.1):=by rw[zA];rfl
 refine⟨hs,by rw[e1];exact nd,fun h X=>⟨l.map fun p=>(Sum.inr p.1,.ref p.2.2),?_,_,_,_,X _ _ hl,⟨rfl,rfl,rfl⟩,rfl,?_,?_,?_⟩⟩
 ·clear hl nd e1
  induction l with
  | nil=>exact .nil
  | cons p r ih=>exact .cons ⟨rfl,rfl⟩ ih
 ·intro e he
  rw[List.mem_toArray] at he;obtain⟨p,_,rfl⟩:=zG.mp he;exact⟨Sum.inr p.1,oH p.1 p.2.1,rfl⟩
 ·show PySem.Pairs _ (FN w.params l) _
  clear hl nd e1
  induction l with
  | nil=>exact .nil
  | cons p r ih=>exact .cons (oH p.1 p.2.1) rfl ih
 ·have e2:(l.map fun p=>((Sum.inr p.1:Key),(Value.ref p.2.2))).map (·.1)=(l.map (·.1)).map Sum.inr:=by rw[zA,zA];rfl
  rw[e2];exact LR nd
def sX (kvs:List (Str×V)) (k:Str):Option V:=(kvs.find? fun p=>decide (p.1=k)).map (·.2)
theorem Hk:∀{kvs:List (Str×V)} {vs:List (Key×Value)} (k:Str),KV (kvs.map fun p=>((Sum.inr p.1:Key),p.2)) vs->l0 (sX kvs k) (valueAt vs (Sum.inr k))
 | [],_,_,.nil=>trivial
 | (x,v)::r,_,k,.cons (b:=b) h t=>by
  obtain⟨h1,h2⟩:=h;obtain⟨bk,bv⟩:=b;dsimp only at h1 h2;subst h1
  by_cases e:x=k
  ·subst e
   simp only[sX,valueAt,List.find?_cons,decide_true];exact h2
  ·have ih:=Hk k t
   have e':¬((Sum.inr x:Key)=Sum.inr k):=fun z=>e (Sum.inr.inj z);simp only[sX,valueAt,List.find?_cons,e,e',decide_false] at ih ⊢;exact ih
def O0 (P:Program) (w:World) (K:yA) (td ty:TE):TE:=fun σ H Q=>td σ H fun x H1=>ty σ H1 fun y H2=>∃a kvs k v,x=.ref a/\KD P w K a kvs/\y=.str k/\sX kvs k=some v/\Q v H2
def Qy (P:Program) (w:World) (K:yA) (b:Bool) (ty td:TE):TE:=fun σ H Q=>ty σ H fun y H1=>td σ H1 fun x H2=>∃a kvs k,x=.ref a/\KD P w K a kvs/\y=.str k/\Q (.bl (b ^^ (sX kvs k).isSome)) H2
section
variable {X:Cx} {pos:Pos} {o i:Expr} {td ty:TE}
theorem l0.Hl:∀{a:Option V} {b:Option Value},l0 a b->a.isSome=b.isSome
 | some _,some _,_=>rfl
 | none,none,_=>rfl
 | some _,none,h=>h.elim
 | none,some _,h=>h.elim
theorem E2 (ho:PE X o td) (hi:PE X i ty) (hs:Qb i):PE X (.Subscript o i pos) (O0 X.prog X.w X.K td ty):=by
 intro pins s σ H Q I h;refine Ir PySem.F.slot_dict_getitem.lookup hs (cS (ho pins s σ H _ I h) fun u s1 ⟨x,H1,I1,rx,q1⟩=>cS (hi pins s1 σ H1 _ I1 q1) fun iv s2 ⟨y,H2,I2,ry,a,kvs,k,v,ex,kd,ey,hv,q2⟩=>?_);subst ex ey;obtain rfl:u=Value.ref a:=rx;obtain⟨tk,rfl⟩:=ry;obtain⟨hd,_,hk⟩:=kd;obtain⟨vs,rel,dd⟩:=hk _ I2.sr;have rv:=Hk k rel;rw[hv] at rv;cases hw:valueAt vs (Sum.inr k) with
 | none=>rw[hw] at rv;exact rv.elim
 | some w'=>
  rw[hw] at rv;exact⟨dd.typeIs,wpAny_getItem_of (oH k tk) dd.mapOf hw ⟨v,H2,I2.tok _,rv,q2⟩⟩
theorem Nv (hi:PE X i ty) (ho:PE X o td):PC X .In i o (Qy X.prog X.w X.K false ty td):=by
 intro pins s σ H Q I h;refine cS (hi pins s σ H _ I h) fun iv s1 ⟨y,H1,I1,ry,q1⟩=>cS (ho pins s1 σ H1 _ I1 q1) fun u s2 ⟨x,H2,I2,rx,a,kvs,k,ex,kd,ey,q2⟩=>?_;subst ex ey;obtain rfl:u=Value.ref a:=rx;obtain⟨tk,rfl⟩:=ry;obtain⟨hd,_,hk⟩:=kd;obtain⟨vs,rel,dd⟩:=hk _ I2.sr;refine wpAny_in_of (vb _ _ k tk) hd dd.mapOf ?_;have e:=l0.Hl (Hk k rel);exact⟨.bl _,H2,I2.tok _,rfl,by rw[e,Bool.false_xor] at q2;exact q2⟩
end
structure Qd (X:Cx) (CX:Ih) (k:Nat) (f:Addr) (sp:Sp):Prop where
 ok:∃fd ps,dM X.prog X.w X.K X.mg X.base CX k f fd ps sp/\PySem.W.keepIn X.K (.ref f)=true/\Binds X.K fd ps []
def O2 (Tb:Addr->Sp->Prop) (E:XK) (i:Nat) (t:TA):TE:=fun σ H Q=>∃f sp,σ[i]?=some (some (.ref f))/\Tb f sp/\t σ H fun vs H1=>sp vs H1 Q E
section
variable {X:Cx} {CX:Ih} {k:Nat} {x:Str} {i:Nat} {p pos:Pos} {e:Expr} {es:List Expr} {t:TA} {E:XK}
theorem E5 (Tb:Addr->Sp->Prop) (hT:∀f sp,Tb f sp->Qd X CX k f sp) (hr:gj k X.A) (hv:PE X (.Name x p) (bj i)) (hx:Passes CX X E)
  (ha:PA X (e::es) t) (he:autoParam (starEach (e::es) X.env=(false,eval e X.env)::starEach es X.env) qe_) (hpl:autoParam ((backTo pos (starEach es X.env)).any (·.1)=false) qe_) :
  PE X (.Call (.Name x p) (e::es) [] pos) (O2 Tb E i t):=by
 intro pins s σ H Q I h;obtain⟨f,sp,hf,hTb,h⟩:=h;obtain⟨fd,ps,F,hk,hb⟩:=(hT f sp hTb).ok;refine wpAny_Call_Name_kw (cS (hv pins s σ H (fun v H1=>v=.ref f/\H1=H) I ⟨_,hf,rfl,rfl⟩) fun u s1 ⟨v,H1,I1,rv,ev,eH⟩=>?_);subst ev eH;obtain rfl:u=Value.ref f:=rv;refine PySem.W.callWith_K (h₀:=X.base) I1.ok.mod.PB hk (cS (ha pos pins s1 σ _ _ I1 h) fun us s2 ⟨vs,H2,I2,r,q⟩=>⟨I2.sr,?_⟩) he hpl;exact Lh F hr hb .nil hx I2 r (by rw[zU];exact q)
end
def Qt (sp:Sp) (t:TA) (C:Addr) (th:TS):TS:=fun D σ H=>t σ H fun vs H1=>sp vs H1 (fun v H2=>D.rt v H2) fun cls _ H2=>cls=.ref C/\th D σ H2
section
variable {X:Cx} {k:Nat} {f:Addr} {fd:FuncData} {ps:List Str} {sp:Sp} {fx cn:Str} {p pos cpos pa np hpos:Pos} {e₀:Expr} {es:List Expr} {t:TA} {C:Addr} {bm:List Value} {newId:String} {b₀:Stmt} {suite:List Stmt} {th:TS}
theorem Nk (F:dM X.prog X.w X.K X.mg X.base (Gv X.prog X.w) k f fd ps sp) (hr:gj k X.A) (hg:Gl X fx) (hm:X.mg fx=some (.ref f)) (hk:PySem.W.keepIn X.K (.ref f)=true) (hb:Binds X.K fd ps []) (ha:PA X.IE (e₀::es) t)
  (hc:X.calm=true) (hgc:Gl X cn) (hC0:PySem.W.nsIn X.K mainGlobals cn=some (some (.ref C))) (hQ0:PySem.W.excIn X.K C bm newId=true) (hbase:bm.contains (.type "BaseException")=true) (hstk:X.stack=X.env::X.outer) (hfrm:X.env.frame=some X.env.locals)
  (hsu:∀e,Eb (X.held e).IE (b₀::suite) th)
  (hdb:autoParam ((fx == ("__debug__": Str))=false) qb_) (hdc:autoParam ((cn == ("__debug__": Str))=false) qb_) (he:autoParam (starEach (e₀::es) X.env=(false,eval e₀ X.env)::starEach es X.env) qe_) (hpl:autoParam ((backTo cpos (starEach es X.env)).any (·.1)=false) qe_) :
  PS X (.Try [.Return (some (.Call (.Name fx p) (e₀::es) [] cpos)) pa] [.ExceptHandler (some (.Name cn np)) none (b₀::suite) hpos] [] [] pos) (Qt sp t C th):=by
 intro pins s σ H D I h;have O:OwnCls cn C bm newId X.mg X.base:=qy X.prog I.ok.mod hC0 hQ0;refine wpAny_Try_except (wpAny_execs_cons ?_);refine wpAny_Return_some ?_;refine wpAny_Call_Name_kw (jV I hg hm ?_ hdb);have hA:wpAny (model X.prog X.w) X.A (spliced (backTo cpos (starEach (e₀::es) X.env))) (AP X.IE pins σ _) (fun _ _=>False) s:=ha cpos pins s σ H _ (I.qQ _) h;refine PySem.W.callWith_K (h₀:=X.base) I.ok.mod.PB hk (wpAny_mono hA (fun us s1 ⟨vs,H1,I1',r,q⟩=>⟨I1'.sr,?_⟩) fun _ _ z=>z.elim) he hpl;have I1:Inv X pins σ H1 s1:=I1'.gZ;have hl:us.length=ps.length:=by rw[<-r.length];exact F.len _ _ _ _ q
 refine wpAny_call (codeAny_mono (F.run X.A X.stack s1 H1 ⟨us,[]⟩ us vs _ _ hr I1.NP (by have:=hb s1 us I1.sr (by rw[zU];exact hl);rw[zU] at this;exact this) r q) fun rr s' hq=>?_);cases rr with
 | ok fl=>
  cases fl with
  | ret u=>
   obtain⟨v,H2,I2,r2,q2⟩:=I1.after hq;exact⟨v,σ,H2,I2,r2,q2⟩
  | next=>exact False.elim hq
  | brk=>exact False.elim hq
  | cont=>exact False.elim hq
 | error ev=>
  obtain⟨a,cls,a0,B,H',rfl,os,bare,fl,fly,⟨rfl,q2⟩⟩:=hq;have FD:∀b∈pN X.stack,H1 b=none:=I1.qT;have nf:∀{hh:Heap},Heap.FunFrames hh B X.stack->∀b∈pN X.stack,∃o,hh.get? b=some o/\∀vs,o.data≠.fields vs:=fun hF b hb=>(hF.mem hb).2;have back:∀(hh:Heap),Kz X.prog X.w (pN X.stack) H1 H' s1.heap B hh->Inv X pins σ H' {s' with heap:=hh}:=fun hh fy=>
   I1.Mx (s':={s' with heap:=hh}) (ch:=[]) os (fy.un FD) (fy.bZ.kept fy.lg) bare fun b z=>absurd z (by simp)
  have hfr:X.A.frames=some (X.env::X.outer):=by rw[<-hstk];exact I1.ok.frames
  refine wpAny_looks_onW hfr hfrm (by rw[<-hstk];exact fl) fun h4 held4 up4=>?_;refine wpAny_landsW held4 fun h5 fl5 up5=>?_;have fl5':Heap.FlyingW B X.stack a (.ref C) a0 h5:=by rw[hstk];exact fl5
  have fy5:Kz X.prog X.w (pN X.stack) H1 H' s1.heap B h5:=fly.on (up4.trans up5) fl5.1 (nf fl.2.2.1);have I5:=back h5 fy5;obtain⟨ob,hob,hobc⟩:=fl5'.there;obtain⟨tl,Nn,nm,qn,bs,hdct,sn,sub,ab,col,dd,k0,k1,k2,k3,k5,mN,hC,hN',hni,T⟩:=O.obj;refine wpAny_handleBy_cons (codeAny_handlers_test (jV (X:=X.held (.ref a)) (I5.held _) hgc O.bound ?_ hdc)) (by intro q;cases q);refine wpAny_excMatches_sub_self (I5.bk _ _ hC) hob hobc (T.hasType hbase) (codeAny_handlers_suite ?_);refine lands_againW fl5' fun h6 fl6 up6=>?_;have fy6:Kz X.prog X.w (pN X.stack) H1 H' s1.heap B h6:=fy5.on up6 fl6.1 (nf fl5'.2.2.1);have I6:=back h6 fy6;refine wpAny_mono (hsu (.ref a) pins _ σ H' D ((I6.held _).qQ _) q2) (fun fl s7 z=>?_) fun _ _ z=>z.elim;exact SP.kX I.ok.hd (SP.gZ z)
end
section
variable {prog:Program} {w:World} {A:Around} {E:Value->Shared->Prop} {s:Shared}
theorem Ls (hd:(d == sysModules)=false) (ho:s.heap.get? d=some o) (hx:o.ExactDict) (hdat:o.data=.dict es ep)
  (hQ:Q (.ref s.heap.objs.size) {s with heap:=s.heap.push {cls:=.type "dict_keyiterator",data:=.fields #[.ref d,.int 0 0,.int es.size 0,.int ep 0]}}) :
  wpAny (model prog w) A (pyIter (.ref d)) Q E s:=by
 have hT:s.TypeIs (.ref d) "dict":=⟨o,ho,hx.1⟩
 refine wpAny_pyIter_slot hT F.slot_dict_iter (wpAny_call_entry F.slot_dict_iter hT F.entry_dict_iter ?_ (F.args_dict_iter_1 _));unfold Builtin.«dict.__iter__»;refine yt ?_;unfold Builtin.Dict.dictSlotNone;refine yt (wpAny_notOrdered_dict hT ?_);show wpAny _ _ (pure (Value.ref d)) _ _ s;refine yv ?_;show wpAny _ _ (Builtin.Dict.showsAll d >>= _) _ _ s;unfold Builtin.Dict.showsAll;rw[if_neg (by rw[hd];exact zK)];refine yt (yv ?_);refine yt (wpAny_dictEntries ho hdat ?_);refine yt (wpAny_dictEpoch ho hdat ?_);refine yt (wpAny_newObj_type (yv ⟨_,rfl,"dict_keyiterator",_,⟨_,yw _ rfl,rfl⟩,F.slot_dict_keyiterator_next.lookup,?_⟩))
 simpa[rawInt] using hQ
theorem Lu (hit:s.heap.IsKeyIter it d i es.size ep)
  (hod:s.heap.get? d=some od) (hdd:od.data=.dict es ep) (hx:es[i]?=some e)
  (hQ:∀h',h'.IsKeyIter it d (i+1) es.size ep->Heap.SameBut it s.heap h'->Q (some e.key) {s with heap:=h'}) :
  wpAny (model prog w) A (pyNext (.ref it)) Q E s:=by
 obtain⟨o,ho,hc,hd⟩:=id hit;unfold pyNext;refine yt (wpAny_attempt (wpAny_callSpecial?_slot (name:=Str.ofString "__next__") hit.typeIs F.slot_dict_keyiterator_next
  (wpAny_call_entry F.slot_dict_keyiterator_next hit.typeIs F.entry_dict_keyiterator_next ?_ (F.args_dict_keyiterator_next_1 _))))
 refine yt (yv ?_);refine yt ?_;refine yt ?_
 first | refine yt (wpAny_typeNameOfWhole_keyiter hit.typeIs (yv ?_)) | refine yt (wpAny_typeNameOf_keyiter hit.typeIs (yv ?_))
 refine yt (wpAny_fieldsOf ho hd ?_);have hown:Builtin.Dict_items.ownsTuple "dict_keyiterator"= false:=by decide
 simp only[hown,Bool.false_eq_true,if_false];show wpAny _ _ (if(Value.ref d == Value.none)=true then _ else _) _ _ s;rw[if_neg (show¬((Value.ref d == Value.none)=true) from zK)];refine yt (yv ?_);refine yt (wpAny_dictEntries hod hdd ?_);rw[if_neg (by simp)];refine yt (yv ?_);refine yt (wpAny_dictEpoch hod hdd ?_);rw[if_neg (by simp)];refine yv ?_;simp only[show¬((i:Int)<0) from by omega,if_false,Int.toNat_natCast,hx];refine yt ?_
 first | refine yt (wpAny_typeNameOfWhole_keyiter hit.typeIs (yv ?_)) | refine yt (wpAny_typeNameOf_keyiter hit.typeIs (yv ?_))
 refine yt (wpAny_isOneOf_keyiter hit.typeIs ?_);show wpAny _ _ (setField (.ref it) 1 (rawInt ((i:Int)+1)) >>= _) _ _ s;refine yt (wpAny_setField ho hd (by simp) ?_);have hit':(s.heap.update it (Obj.mapFields (·.setIfInBounds 1 (rawInt ((i:Int)+1))))).IsKeyIter it d (i+1) es.size ep:=
  ⟨_,yz _ ho (Obj.isFreed_of_fields (Obj.data_mapFields hd _)),(Obj.cls_mapFields ..).trans hc,by rw[Obj.data_mapFields hd];simp[rawInt]⟩
 refine yt (wpAny_holding ?_);refine yt (wpAny_isOneOf_keyiter (s:={s with heap:=s.heap.update it (Obj.mapFields (·.setIfInBounds 1 (rawInt ((i:Int)+1))))}) hit'.typeIs ?_);show wpAny _ _ (pure e.key) _ _ _;exact yv (yv ⟨_,rfl,yv (hQ _ hit' (Heap.SameBut.update ..))⟩)
theorem Ng (hh:A.handled=none) (hit:s.heap.IsKeyIter it d i es.size ep)
  (hod:s.heap.get? d=some od) (hdd:od.data=.dict es ep) (hx:es.size<=i)
  (hQ:∀h',Heap.ExtBut it s.heap h'->Q none {s with heap:=h'}):wpAny (model prog w) A (pyNext (.ref it)) Q E s:=by
 obtain⟨o,ho,hc,hd⟩:=id hit;unfold pyNext;refine yt (wpAny_attempt (wpAny_callSpecial?_slot (name:=Str.ofString "__next__") hit.typeIs F.slot_dict_keyiterator_next
  (wpAny_call_entry F.slot_dict_keyiterator_next hit.typeIs F.entry_dict_keyiterator_next ?_ (F.args_dict_keyiterator_next_1 _))))
 refine yt (yv ?_);refine yt ?_;refine yt ?_
 first | refine yt (wpAny_typeNameOfWhole_keyiter hit.typeIs (yv ?_)) | refine yt (wpAny_typeNameOf_keyiter hit.typeIs (yv ?_))
 refine yt (wpAny_fieldsOf ho hd ?_);have hown:Builtin.Dict_items.ownsTuple "dict_keyiterator"= false:=by decide
 simp only[hown,Bool.false_eq_true,if_false];show wpAny _ _ (if(Value.ref d == Value.none)=true then _ else _) _ _ s;rw[if_neg (show¬((Value.ref d == Value.none)=true) from zK)];refine yt (yv ?_);refine yt (wpAny_dictEntries hod hdd ?_);rw[if_neg (by simp)];refine yt (yv ?_);refine yt (wpAny_dictEpoch hod hdd ?_);rw[if_neg (by simp)];refine yv ?_;simp only[show¬((i:Int)<0) from by omega,if_false,Int.toNat_natCast,Array.getElem?_eq_none hx];refine yt ?_
 first | refine yt (wpAny_typeNameOfWhole_keyiter hit.typeIs (yv ?_)) | refine yt (wpAny_typeNameOf_keyiter hit.typeIs (yv ?_))
 show wpAny _ _ (setField (.ref it) 0 .none >>= _) _ _ s;refine yt (wpAny_setField ho hd (by simp) ?_);show wpAny _ _ (newExc (.type "StopIteration") [] >>= _) _ _ _;refine yt ?_;simp only[newExc,newTuple];refine yt (wpAny_newObj_type ?_ (by size_fits));refine yt (m:=firstArgMember _ _) (wpAny_of_eq (a:=Value.none) (by first | rfl | (simp only[firstArgMember];rfl)) ?_);refine wpAny_newObj_type ?_ (by size_fits);simp only[raiseNew];refine yt (wpAny_handled ?_);rw[show A.in1.handled=none from hh];refine yt (yv (wpAny_throw ?_));refine yt (wpAny_isInstance (T:="StopIteration") (b:=true) ⟨_,yw _ rfl,rfl⟩ isSubtype_stop ?_);exact yv (hQ _ (((Heap.SameBut.update ..).extBut.push _).push _))
end
def MN (H:Hp) (d:Addr) (o:Obj) (n:Nat) (kat:Hp->Nat->V->Prop):Prop:=∃u,H d=some (.mW o u)/\((∃kvs:List (Key×V),u=.dK kvs/\n=kvs.length/\kat=fun _ i x=>∃p,kvs[i]?=some p/\x=kV p.1)\/
 ∃kvs:List (List Key×V),u=.dT kvs/\n=kvs.length/\kat=fun H i x=>∃p b,kvs[i]?=some p/\H b=some (.tup (p.1.map kV))/\x=.ref b)
theorem BP {K:Type} [DecidableEq K] {prog:Program} {w:World} {knd:KeyKind prog w K}:∀{es:List DictEntry} {kvs:List (K×Value)} {i:Nat} {e:DictEntry},PySem.Pairs knd es kvs->es[i]?=some e->∃kv,kvs[i]?=some kv/\knd.is kv.1 e.key=true/\e.val=kv.2
 | _,_,_,_,.nil,h=>by simp at h
 | _,_,0,_,.cons a b _,h=>by simp at h;subst h;exact⟨_,rfl,a,b⟩
 | _,_,i+1,_,.cons _ _ t,h=>by
  obtain⟨kv,h1,h2⟩:=BP (i:=i) t (by simpa using h);exact⟨kv,by simpa using h1,h2⟩
theorem lG:∀{l:List α} {m:List β} {i:Nat} {b:β},Paired F l m->m[i]?=some b->∃a,l[i]?=some a/\F a b
 | _,_,_,_,.nil,h=>by simp at h
 | _,_,0,_,.cons r _,h=>by simp at h;subst h;exact⟨_,rfl,r⟩
 | _,_,i+1,_,.cons _ t,h=>by
  obtain⟨a,h1,h2⟩:=lG (i:=i) t (by simpa using h);exact⟨a,by simpa using h1,h2⟩
section
variable {X:Cx} {pins:List (Addr×Obj)} {σ:St} {H:Hp} {s:Shared} {d:Addr} {o:Obj} {n:Nat} {kat:Hp->Nat->V->Prop}
theorem MN.raw (f:MN H d o n kat) (I:Inv X pins σ H s):(d == sysModules)=false/\∃es ep,s.heap.get? d=some o/\o.ExactDict/\o.data=.dict es ep/\es.size=n/\∀i e,es[i]?=some e->∃x,RelV x e.key/\kat H i x:=by
 obtain⟨u,hH,hu⟩:=f;obtain⟨ho,ok⟩:=(show cz X.prog X.w H s.heap d (.mW o u) from I.bZ d _ hH)
 rcases hu with⟨kvs,rfl,rfl,rfl⟩ | ⟨kvs,rfl,rfl,rfl⟩
 ·obtain⟨_,hd,vs,rel,o',es,ep,ho',hx,hdat,_,hp,_⟩:=ok
  have hl:es.size=kvs.length:=by
   have h1:=hp.length;have h2:kvs.length=vs.length:=Paired.length rel;have h3:es.toList.length=es.size:=Array.length_toList;omega
  rw[ho] at ho';cases ho';refine⟨hd,es,ep,ho,hx,hdat,hl,fun i e he=>?_⟩;obtain⟨kv,h1,h2,_⟩:=BP hp (i:=i) (e:=e) (by rw[Array.getElem?_toList];exact he);obtain⟨p,h3,h4,_⟩:=lG rel h1;refine⟨kV p.1,?_,p,h3,rfl⟩;rw[<-h4] at h2;rcases df h2 with⟨j,t,e1,e2⟩ | ⟨y,t,e1,e2⟩
  ·rw[e1,e2];exact⟨t,rfl⟩
  ·rw[e1,e2];exact⟨t,rfl⟩
 ·obtain⟨_,hd,xs,rel,o',es,ep,ho',hx,hdat,he,_⟩:=ok
  have h3:es.toList.length=es.size:=Array.length_toList;have hl:es.size=kvs.length:=by
   have h2:kvs.length=xs.length:=Paired.length rel;rw[he,za] at h3;omega
  rw[ho] at ho';cases ho';refine⟨hd,es,ep,ho,hx,hdat,hl,fun i e hi=>?_⟩;rw[<-Array.getElem?_toList,he,zJ] at hi;cases q:xs[i]? with
  | none=>rw[q] at hi;cases hi
  | some y=>
   rw[q] at hi;cases hi;obtain⟨p,h4,h5,h6,_⟩:=lG rel q;exact⟨.ref y.2.1,rfl,p,y.2.1,h4,h6,rfl⟩
end
def SR (d:Addr) (o:Obj) (n:Nat) (kat:Hp->Nat->V->Prop):It:=⟨fun i H=>MN H d o n kat/\i<n,fun i H x H'=>H'=H/\kat H i x,fun i H=>MN H d o n kat/\n<=i⟩
theorem Jm {P:Program} {w:World} {K:yA} {tg:Expr} (d it:Addr) (n:Nat) (kat:Hp->Nat->V->Prop) (o:Obj) (es:Array DictEntry) (ep:Nat) (hdat:o.data=.dict es ep) (hn:es.size=n) :
  Turn P w K tg (SR d o n kat) [it] it (fun i h=>h.IsKeyIter it d i n ep) where
 mem:=by simp
 obj:=fun i h st b hb=>by
  have e:b=it:=by simpa using hb
  subst e;obtain⟨o,e,c,d⟩:=st;exact⟨o,e,fun v z=>by rw[d] at z;cases z⟩
 keep:=fun i h h' st k=>st.at fun o e=>k it (by simp) o e
 item:=by
  intro X hP hw hK hc i pins s σ H E I hf st hg;subst hP hw hK hn;obtain⟨fz,hlt⟩:=hg;obtain⟨hd,es',ep',ho,hx,hdat',hsz,hk⟩:=fz.raw I;rw[hdat] at hdat';cases hdat';obtain⟨f0,f1,f2,f3,f4,f5⟩:=hf it (by simp);have he:es[i]?=some es[i]:=Array.getElem?_eq_getElem hlt;obtain⟨x,rx,kx⟩:=hk i _ he;refine Lu st ho hdat he fun h' st' sb=>?_;have I1:Inv X pins σ H {s with heap:=h'}:=I.turned (t':=s.toks) (fun b o hb e=>(sb.2 b hb).trans e) f0 f1 f3 f4 f5;obtain⟨oi,e,c,dd⟩:=id st';exact⟨_,rfl,B3 (s:={s with heap:=h'}) e c dd (by decide) ⟨x,H,I1,rx,⟨rfl,kx⟩,st',fun b hb=>(hf b hb).1⟩⟩
 done:=by
  intro X hP hw hK hc i pins s σ H E I hf st hg;subst hP hw hK hn;obtain⟨fz,hge⟩:=hg;obtain⟨hd,es',ep',ho,hx,hdat',hsz,hk⟩:=fz.raw I;rw[hdat] at hdat';cases hdat';obtain⟨f0,f1,f2,f3,f4,f5⟩:=hf it (by simp);exact Ng (I.ok.hd hc) st ho hdat hge fun h' eb=>⟨rfl,I.turned (t':=s.toks) (fun b o hb e=>eb b o hb e) f0 f1 f3 f4 f5⟩
 self:=fun _ _ _ _ _ st h=>wpAny_pyIter_keyiter st h
def QX (td:TE):TI:=fun σ H R=>td σ H fun x H1=>∃d o n kat,x=.ref d/\MN H1 d o n kat/\R (SR d o n kat) H1
section
variable {X:Cx} {tg l:Expr} {tl:TE}
theorem Nm (hl:PE X l tl):PI X tg l (QX tl):=by
 intro pins s σ H R I h;refine cS (hl pins s σ H _ I h) fun v s1 ⟨x,H1,I1,r1,q1⟩=>?_;obtain⟨d,o,n,kat,e,fz,q⟩:=q1;subst e;cases r1;obtain⟨hd,es,ep,ho,hx,hdat,hsz,hk⟩:=fz.raw I1;refine Ls hd ho hx hdat ?_;refine⟨s1.heap.objs.size,[s1.heap.objs.size],_,_,H1,rfl,I1.kept (t':=s1.toks) fun b o e=>yu _ e,Jm d _ n kat o es ep hdat hsz,⟨_,yw _ rfl,rfl,by rw[hsz];rfl⟩,fun b hb=>?_,q⟩;have e:b=s1.heap.objs.size:=by simpa using hb
 subst e;exact I1.vX (zk _) (I1.bZ.fresh (zk _))
end
def Ie (H:Hp) (d:Addr) (o:Obj) (kvs:List (Key×V)):Prop:=H d=some (.mW o (.dK kvs))
def ML (d:Addr) (o:Obj) (kvs:List (Key×V)):It:=⟨fun i H=>Ie H d o kvs/\i<kvs.length,fun i H x H'=>H'=H/\∃p,kvs[i]?=some p/\x=p.2,fun i H=>Ie H d o kvs/\kvs.length<=i⟩
section
variable {X:Cx} {pins:List (Addr×Obj)} {σ:St} {H:Hp} {s:Shared} {d:Addr} {o:Obj} {kvs:List (Key×V)}
theorem Ie.at' (f:Ie H d o kvs) (I:Inv X pins σ H s):(d == sysModules)=false/\∃vs es ep,KV kvs vs/\o.data=.dict es ep/\s.heap.DictAt (cY X.prog X.w) d vs ep:=by
 obtain⟨ho,ok⟩:=(show cz X.prog X.w H s.heap d (.mW o (.dK kvs)) from I.bZ d _ f)
 obtain⟨_,hd,vs,rel,o',es,ep,ho',hx,hdat,hk,hp,nd⟩:=ok;rw[ho] at ho';cases ho';exact⟨hd,vs,es,ep,rel,hdat,o,es,ho,hx,hdat,hk,hp,nd⟩
end
theorem Ep {P:Program} {w:World} {K:yA} {tg:Expr} (d it:Addr) (o:Obj) (kvs:List (Key×V)) (es:Array DictEntry) (ep:Nat) (hdat:o.data=.dict es ep) :
  Turn P w K tg (ML d o kvs) [it] it (fun i h=>h.IsValIter it d i kvs.length ep) where
 mem:=by simp
 obj:=fun i h st b hb=>by
  have e:b=it:=by simpa using hb
  subst e;obtain⟨o,e,c,d⟩:=st;exact⟨o,e,fun v z=>by rw[d] at z;cases z⟩
 keep:=fun i h h' st k=>st.at fun o e=>k it (by simp) o e
 item:=by
  intro X hP hw hK hc i pins s σ H E I hf st hg;subst hP hw hK;obtain⟨fz,hlt⟩:=hg;obtain⟨hd,vs,es',ep',rel,hdat',da⟩:=fz.at' I;rw[hdat] at hdat';cases hdat';obtain⟨f0,f1,f2,f3,f4,f5⟩:=hf it (by simp);have hl:kvs.length=vs.length:=Paired.length rel;have hi:vs[i]?=some (vs[i]'nofun):=zb nofun;obtain⟨p,h3,h4,h5⟩:=lG rel hi;refine wpAny_pyNext_values_item (by rw[<-hl];exact st) da hi fun h' st' sb=>?_;have I1:Inv X pins σ H {s with heap:=h'}:=I.turned (t':=s.toks) (fun b o hb e=>(sb.2 b hb).trans e) f0 f1 f3 f4 f5;obtain⟨oi,e,c,dd⟩:=id st';exact⟨_,rfl,B3 (s:={s with heap:=h'}) e c dd (by decide) ⟨p.2,H,I1,h5,⟨rfl,p,h3,rfl⟩,by rw[hl];exact st',fun b hb=>(hf b hb).1⟩⟩
 done:=by
  intro X hP hw hK hc i pins s σ H E I hf st hg;subst hP hw hK;obtain⟨fz,hge⟩:=hg;obtain⟨hd,vs,es',ep',rel,hdat',da⟩:=fz.at' I;rw[hdat] at hdat';cases hdat';obtain⟨f0,f1,f2,f3,f4,f5⟩:=hf it (by simp);have hl:kvs.length=vs.length:=Paired.length rel;exact wpAny_pyNext_values_end (I.ok.hd hc) (by rw[<-hl];exact st) da (by simp;omega) fun h' eb=>⟨rfl,I.turned (t':=s.toks) (fun b o hb e=>eb b o hb e) f0 f1 f3 f4 f5⟩
 self:=fun _ _ _ _ _ st h=>wpAny_pyIter_valiter st h
def NL (td:TE):TI:=fun σ H R=>td σ H fun x H1=>∃d o kvs,x=.ref d/\Ie H1 d o kvs/\R (ML d o kvs) H1
section
variable {X:Cx} {tg l:Expr} {tl:TE} {apos cpos:Pos}
theorem JF (hl:PE X l tl) (hbase:autoParam (attributeBase l "values" X.env (eval l X.env)=eval l X.env) qe_) (hline:autoParam ((apos.endLine == cpos.line)=true) qe_):PI X tg (.Call (.Attribute l "values" apos) [] [] cpos) (NL tl):=by
 intro pins s σ H R I h;refine wpAny_Call_method0_late hbase hline (cS (hl pins s σ H _ I h) fun v s1 ⟨x,H1,I1,r1,q1⟩=>?_);obtain⟨d,o,kvs,e,fz,q⟩:=q1;subst e;cases r1;obtain⟨hd,vs,es,ep,rel,hdat,da⟩:=fz.at' I1;refine⟨"dict","dict.values",F.plainAttrs_dict,F.slot_dict_values,F.type_dict_values,da.dictOf.typeIs,da.dictOf.mapOf.noDict,Calls.callWith_builtin rfl (PySem.evalArgs_none ?_)⟩;refine call_meetsIn F.slot_dict_values da.dictOf.typeIs F.entry_dict_values (F.args_dict_values_1 _) (meets_dict_values (cY X.prog X.w) d hd) ⟨⟨vs,da.dictOf⟩,?_⟩;have I2:Inv X pins σ H1 {s1 with heap:=s1.heap.push {cls:=.type "dict_values",data:=.fields #[.ref d]}}:=I1.kept (t':=s1.toks) fun b o e=>yu _ e;obtain⟨_,vs2,es2,ep2,rel2,hdat2,da2⟩:=fz.at' I2;rw[hdat] at hdat2;cases hdat2;have hl2:kvs.length=vs2.length:=Paired.length rel2;refine wpAny_pyIter_values (knd:=cY X.prog X.w) ⟨_,yw _ rfl,rfl,rfl⟩ da2 ?_;refine⟨_,[_],_,_,H1,rfl,I2.kept (t':=s1.toks) fun b o e=>yu _ e,Ep d _ o kvs es ep hdat,⟨_,yw _ rfl,rfl,by rw[hl2];rfl⟩,fun b hb=>?_,q⟩;rw[zy.mp hb];exact I2.vX (zk _) (I2.bZ.fresh (zk _))
end
theorem Ho {d:Addr} {o:Obj} {kvs:List (Key×V)} {g:TG} {tb:TS} {D:Ends} {σ:St} {H:Hp} (Pv:Nat->St->Hp->Prop) (h0:Pv 0 σ H) (hf:∀i σ H,i<=kvs.length->Pv i σ H->Ie H d o kvs)
  (hs:∀i p σ H,kvs[i]?=some p->Pv i σ H->g p.2 σ H fun σ2 H2=>tb {D with nx:=Pv (i+1),ct:=Pv (i+1),bk:=D.nx} σ2 H2) (hd:∀σ H,Pv kvs.length σ H->D.nx σ H) :
  ∃W:Nat->Nat->St->Hp->Prop,(∃m,W 0 m σ H)/\∀i m σ H,W i m σ H->
   ((ML d o kvs).stop i H/\D.nx σ H)\/((ML d o kvs).go i H/\∃Nn:St->Hp->Prop,(∀σ' H',Nn σ' H'->∃m',m'<m/\W (i+1) m' σ' H')/\∀v H',(ML d o kvs).Ji i H v H'->g v σ H' fun σ2 H2=>tb {D with nx:=Nn,ct:=Nn,bk:=D.nx} σ2 H2):=by
 refine⟨fun i m σ H=>m=kvs.length-i/\i<=kvs.length/\Pv i σ H,⟨kvs.length,by simp,yf _,h0⟩,?_⟩;rintro i m σ H ⟨rfl,hi,pv'⟩;rcases Nat.lt_or_ge i kvs.length with hlt | hge
 ·refine .inr ⟨⟨hf i σ H hi pv',hlt⟩,Pv (i+1),fun σ' H' p'=>⟨kvs.length-(i+1),nofun,rfl,hlt,p'⟩,fun v H' y=>?_⟩
  obtain⟨e1,p,hp,e2⟩:=y;rw[e1,e2];exact hs i p σ H hp pv'
 ·have e:i=kvs.length:=nofun
  subst e;exact .inl ⟨⟨hf _ σ H hi pv',zk _⟩,hd σ H pv'⟩
def QV:HO->Bool
 | .dK _=>true
 | .dT _=>true
 | _=>false
theorem dM.Ob {P:Program} {w:World} {K:yA} {mg:Str->Option Value} {base:Heap} {k:Nat} {f:Addr} {fd:FuncData} {ps:List Str} {sp sp':Sp} (F:dM P w K mg base Ii k f fd ps sp) (len:∀vs H Q E,sp' vs H Q E->vs.length=ps.length)
  (h:∀vs H Q E,sp' vs H Q E->∃d u,H d=some u/\QV u=true/\∀o,sp vs (upd H d (.mW o u)) (fun v H'=>Q v (upd H' d u)) E):dM P w K mg base Ii k f fd ps sp':=by
 refine⟨len,fun A outer s H args us vs Q E hr e hb hv hs=>?_⟩;obtain⟨d,u,hd,hu,hsp⟩:=h vs H Q E hs;have okd:=e.bZ d u hd;obtain⟨o,ho⟩:=okd.here;have nt:∀xs,u≠.tup xs:=fun xs z=>by rw[z] at hu;cases hu
 have no:∀x,u≠.own x:=fun x z=>by rw[z] at hu;cases hu
 have nf:∀a b,u≠.mW a b:=fun a b z=>by rw[z] at hu;cases hu
 have nb:∀a,u≠.KW a:=fun a z=>by rw[z] at hu;cases hu
 have off:∀b,H b=none->b≠d:=fun b n z=>by rw[z,hd] at n;cases n
 have tup1:∀b xs,H b=some (.tup xs)->upd H d (.mW o u) b=some (.tup xs):=fun b xs q=>by rw[aG (fun z=>by rw[z,hd] at q;exact nt xs (yj q))];exact q
 have own1:∀b x,H b=some (.own x)->upd H d (.mW o u) b=some (.own x):=fun b x q=>by rw[aG (fun z=>by rw[z,hd] at q;exact no x (yj q))];exact q
 have e1:Gu P w K mg base A outer s (upd H d (.mW o u)):=by
  refine⟨e.frames,e.mod,fun b ob q=>⟨(e.bs b ob q).1,by rw[aG (off b (e.bs b ob q).2)];exact(e.bs b ob q).2⟩,e.Kw,e.oV,fun b hb=>by rw[aG (off b (e.FD b hb))];exact e.FD b hb,fun b ub q=>?_,e.bare⟩
  by_cases hbd:b=d
  ·subst hbd
   rw[aF] at q;cases q;exact⟨ho,okd.lg (fun _ _ _ z=>z) (fun c z=>own1 c _ z) tup1⟩
  ·rw[aG hbd] at q
   exact(e.bZ b ub q).lg (fun _ _ _ z=>z) (fun c z=>own1 c _ z) tup1
 refine codeAny_mono (F.run A outer s _ args us vs _ E hr e1 hb hv (hsp o)) fun r s' hq=>?_;cases r with
 | error x=>exact hq
 | ok fl=>
  cases fl with
  | next=>exact hq
  | brk=>exact hq
  | cont=>exact hq
  | ret uv=>
   obtain⟨v,H',os,bare,un,bZ,rv,q⟩:=hq;have hd':H' d=some (.mW o u):=un.mR d o u aF;have off1:∀b,H b=none->upd H d (.mW o u) b=none:=fun b n=>by rw[aG (off b n)];exact n
   have back:∀b z,H b=some z->b≠d->upd H d (.mW o u) b=some z:=fun b z q n=>by rw[aG n];exact q
   refine⟨v,upd H' d u,os,bare,⟨fun b ob q n hb hx=>un.keep b ob q (off1 b n) hb hx,fun b ob q n hb hx=>un.slot b ob q (off1 b n) hb hx,fun b ob q n hx=>by rw[aG (off b n)];exact un.free b ob q (off1 b n) hx,un.there,
    fun b xs q=>?_,fun b ob uu q=>?_,fun b ps' q=>?_⟩,fun b ub q=>?_,rv,q⟩
   ·have n:b≠d:=fun z=>by rw[z,hd] at q;exact nt xs (yj q)
    rw[aG n];exact un.oN b xs (back b _ q n)
   ·have n:b≠d:=fun z=>by rw[z,hd] at q;exact nf ob uu (yj q)
    rw[aG n];exact un.mR b ob uu (back b _ q n)
   ·have n:b≠d:=fun z=>by rw[z,hd] at q;exact nb ps' (yj q)
    obtain⟨m,z⟩:=un.oO b ps' (back b _ q n);exact⟨m,by rw[aG n];exact z⟩
   ·have own2:∀c x,H' c=some (.own x)->upd H' d u c=some (.own x):=fun c x z=>by rw[aG (fun y=>by rw[y,hd'] at z;cases z)];exact z
    have tup2:∀c xs,H' c=some (.tup xs)->upd H' d u c=some (.tup xs):=fun c xs z=>by rw[aG (fun y=>by rw[y,hd'] at z;cases z)];exact z
    by_cases hbd:b=d
    ·subst hbd
     rw[aF] at q;cases q;obtain⟨_,ok'⟩:=(show cz P w H' s'.heap b (.mW o u) from bZ b _ hd')
     exact ok'.lg (fun _ _ _ z=>z) (fun c z=>own2 c _ z) tup2
    ·rw[aG hbd] at q
     exact(bZ b ub q).lg (fun _ _ _ z=>z) (fun c z=>own2 c _ z) tup2
def EX (σ:List Str) (x:Str):List Str:=if x∈σ then σ else σ++[x]
def gA (l:List Str):List Str:=l.foldl EX []
theorem FR (l:List Str):(gA l).length<=l.length/\((gA l).length=l.length↔l.Nodup):=by
 have key:∀(l σ:List Str),σ.Nodup->(l.foldl EX σ).length<=σ.length+l.length/\((l.foldl EX σ).length=σ.length+l.length↔(σ++l).Nodup):=by
  intro l
  induction l with
  | nil=>intro σ h;simp[h]
  | cons x l ih=>
   intro σ h;rw[List.foldl_cons,zt]
   by_cases hx:x∈σ
   ·rw[show EX σ x=σ from if_pos hx]
    have:=ih σ h;refine⟨nofun,⟨fun e=>nofun,fun e=>?_⟩⟩;exact absurd hx (fun z=>(zR.mp e).2.2 x z x zp rfl)
   ·rw[show EX σ x=σ++[x] from if_neg hx]
    have hn:(σ++[x]).Nodup:=zR.mpr ⟨h,by simp,fun a ha b hb e=>by rw[zy.mp hb] at e;exact hx (e▸ha)⟩;have:=ih (σ++[x]) hn;rw[zg,List.length_singleton,zE,List.singleton_append] at this;exact⟨nofun,⟨fun e=>this.2.mp nofun,fun e=>by have:=this.2.mpr e;omega⟩⟩
 have:=key l [] List.nodup_nil
 simpa[gA] using this
theorem sub_tuple_set:isSubtype (.type "tuple") (.type "set")=pure false:=by rw[isSubtype_type];kernel_rfl
theorem sub_tuple_frozenset:isSubtype (.type "tuple") (.type "frozenset")=pure false:=by rw[isSubtype_type];kernel_rfl
section
variable {prog:Program} {w:World}
theorem Ld {A:Around} {R:Result->Shared->Prop} {I:Addr} {fp wr:List Addr} {G:Array GenState->Array GenState->Prop} {n:Nat} {P:Nat->Value->Prop} {St:Nat->Shared->Prop} (W:WalksS prog w A.in1 I fp wr G n P St) (S:Addr) (hSf:S∉fp)
  (zs:List Str) (hn:n=zs.length) (hval:∀i v,P i v->∃z t,zs[i]?=some z/\v=.str z t) (hb:n+1<scanBound) :
  ∀(k i:Nat) (s:Shared),n-i=k->i<=n->St i s->s.heap.SetOf (PySem.strKind prog w) S (fun x=>decide (x∈gA (zs.take i))) (gA (zs.take i)).length->
   (∀s',Moved (S::wr) G s s'->s'.heap.SetOf (PySem.strKind prog w) S (fun x=>decide (x∈gA zs)) (gA zs).length->R (.ok (.ret .none)) s')->
   codeAny (model prog w) A (.builtin "set.update.loop" ⟨[.ref S,.ref I],[]⟩) R s:=by
 have hSw:S∉wr:=fun h=>hSf (W.sub _ h);have hsub:∀b∈wr,b∈S::wr:=fun b hb=>zm _ hb;intro k
 induction k with
 | zero=>
  intro i s hk hi hst hS hR;have hin:i=n:=nofun
  subst hin;rw[hn,zM] at hS;refine codeAny_builtin F.entry_set_update_loop ?_;rw[Around.under_plainId F.plain_set_update_loop _];show wpAny _ A.in1 (pyNext (.ref I) >>= _) _ _ s;refine yt (W.done s _ _ hst fun s' hm=>?_);obtain⟨o,es,ep,t,ho,rest⟩:=hS;exact yv (hR s' (hm.mono hsub) ⟨o,es,ep,t,hm.heap S _ hSw ho,rest⟩)
 | succ k ih=>
  intro i s hk hi hst hS hR;have hlt:i<n:=nofun
  refine codeAny_builtin F.entry_set_update_loop ?_;rw[Around.under_plainId F.plain_set_update_loop _];show wpAny _ A.in1 (pyNext (.ref I) >>= _) _ _ s;refine yt (W.item i s _ _ hlt hst fun v s' hP hst' hm=>?_);obtain⟨z,t,hz,rfl⟩:=hval i v hP;obtain⟨o,es,ep,tb,ho,rest⟩:=hS;have hS':s'.heap.SetOf (PySem.strKind prog w) S (fun x=>decide (x∈gA (zs.take i))) (gA (zs.take i)).length:=⟨o,es,ep,tb,hm.heap S _ hSw ho,rest⟩
  show wpAny _ A.in1 (holding [Value.str z t] (setAdd S (.str z t)) >>= _) _ _ s';refine yt (wpAny_holding ?_);unfold setAdd;refine wpAny_holding ?_;refine yt ((PySem.strKind prog w).pyHash (k:=z) (strKind_is _ _ _ _) ?_);have hl:=(FR (zs.take i)).1;rw[zP] at hl;refine wpAny_setAddHashed_of (knd:=PySem.strKind prog w) (s:={s' with toks:=s'.toks+1}) (strKind_is _ _ _ _) rfl hS' nofun fun h' hsb hS2=>?_;have et:zs.take (i+1)=zs.take i++[z]:=by rw[List.take_succ,hz];rfl
  have ed:gA (zs.take (i+1))=EX (gA (zs.take i)) z:=by rw[et];unfold gA;rw[zX];rfl
  have hSi:h'.SetOf (PySem.strKind prog w) S (fun x=>decide (x∈gA (zs.take (i+1)))) (gA (zs.take (i+1))).length:=by
   refine SetOf_congr hS2 (fun x=>?_) ?_
   ·rw[ed]
    unfold EX
    by_cases hx:z∈gA (zs.take i)
    ·rw[if_pos hx]
     by_cases e:x=z
     ·subst e;simp[hx]
     ·simp[e]
    ·rw[if_neg hx];simp[zF]
   ·rw[ed]
    unfold EX
    by_cases hx:z∈gA (zs.take i) <;> simp[hx]
  refine yv ⟨plainId_quiet F.plain_set_update_loop _,ih (i+1) _ nofun hlt (W.frame _ s' _ _ hst' (Nat.le_succ _) fun b hb o e=>?_) hSi fun s'' hm'' hS''=>?_⟩
  ·rw[hsb.2 b (fun h:b=S=>hSf (by rw[<-h];exact hb))];exact e
  ·refine hR s'' (Moved.trans W.gtrans ((hm.mono hsub).then_heap (Nat.le_succ _) fun b o hb e=>?_) hm'') hS''
   rw[hsb.2 b (fun h:b=S=>hb (by rw[h];exact zp))];exact e
variable {A:Around} {E:Value->Shared->Prop} {s:Shared}
theorem GR {l:Addr} {items:Array Value} {zs:List Str} {Q:Value->Shared->Prop} (hh:A.handled=none) (hl:IsTup s.heap l items) (hi:∀(i:Nat) (v:Value),items[i]?=some v->∃z t,zs[i]?=some z/\v=.str z t) (hn:items.size=zs.length) (hb:items.size+1<scanBound)
  (h:∀(h':Heap) (tk:Nat),h'.SetOf (PySem.strKind prog w) s.heap.objs.size (fun x=>decide (x∈gA zs)) (gA zs).length->(∀b o,b<s.heap.objs.size->s.heap.get? b=some o->h'.get? b=some o)->Q (.ref s.heap.objs.size) {s with heap:=h',toks:=tk}) :
  wpAny (model prog w) A (call (.type "set") [.ref l]) Q E s:=by
 obtain⟨c,tl,hmro⟩:=F.called_set.mro;have hmade:=F.called_set.made;have hsub:=F.called_set.sub;refine wpAny_call (codeAny_of_tree ?_);show wpAny _ _ (callAny (.type "set") _) _ _ _;refine yv ⟨Code.quiet_builtin _ (by decide +kernel),codeAny_builtin F.entry_type_call ?_⟩;rw[Around.under_plain (weight_type_call_type "set" [.ref l] []) rfl];have h1:=F.called_set.notType;have h2:=F.called_set.canCreate;have hct:=F.typeCall_set_1 (.ref l)
 repeat (any_goals (first | assumption | wp_step))
 let fresh:Bool->Obj:=fun led=>{cls:=.type "set",dict:=none,data:=.set #[] 0 (.fresh 0 0 led)}
 refine codeAny_mono (code_set_new_1 (.ref l) (E:=E) (Q₁:=fun obj s₁=>∃led:Bool,obj=.ref s.heap.objs.size/\s₁={s with heap:=s.heap.push (fresh led)}) fun led=>⟨led,rfl,rfl⟩) fun r s₁ hr=>?_;cases r with
 | error e=>exact hr
 | ok fl=>
  cases fl with
  | next=>exact hr.elim
  | brk=>exact hr.elim
  | cont=>exact hr.elim
  | ret obj=>
   obtain⟨led,rfl,rfl⟩:=hr;have hS:(s.heap.push (fresh led)).get? s.heap.objs.size=some (fresh led):=yw _ rfl;have hT:Shared.TypeIs {s with heap:=s.heap.push (fresh led)} (.ref s.heap.objs.size) "set":=⟨_,hS,rfl⟩
   have hli:=F.called_set.init.lookup;have hbi:=F.called_set.init.bind (.ref s.heap.objs.size)
   repeat (any_goals (first | assumption | wp_step))
   refine codeAny_mono (codeAny_call_builtin (R:=wants (fun r s₂=>r=.none/\∃h' tk,s₂={s with heap:=h',toks:=tk}/\h'.SetOf (PySem.strKind prog w) s.heap.objs.size (fun x=>decide (x∈gA zs)) (gA zs).length/\
     (∀b o,b<s.heap.objs.size->s.heap.get? b=some o->h'.get? b=some o)) E) F.called_set.init.plain F.entry_set_init (check_set_init_1 hT ?_)) fun r₂ s₂ hr₂=>?_
   ·obtain⟨⟨ocls,odict,odata,oslots⟩,hol,hcl,nl,hdl⟩:=hl
    simp only at hcl hdl;subst hcl hdl;have hol':(s.heap.push (fresh led)).get? l=some {cls:=.type "tuple",dict:=odict,data:=.seq items nl,slots:=oslots}:=yu _ hol;have hsls:=sub_tuple_set;have hslf:=sub_tuple_frozenset;have hne:(Value.type "tuple"== Value.type "dict")=false:=by decide
    have hl1:(s.heap.push (fresh led)).IsTuple l items:=⟨_,hol',rfl,nl,rfl⟩
    unfold Builtin.«set.__init__» noKeywords Builtin.Frozenset.updateFrom;generalize hPI:pyIter=PI;wp_walk;subst hPI;refine wpAny_pyIter_tuple hl1 ?_;refine yt (wpAny_runValue ?_);have hlS:l<s.heap.objs.size:=yx hol;have hh3:A.in1.in1.in1.handled=none:=by simp[hh]
    have hz:(s.heap.push (fresh led)).objs.size=s.heap.objs.size+1:=Heap.size_push ..;have hSf:s.heap.objs.size∉[(s.heap.push (fresh led)).objs.size,l]:=by
     rw[hz];simp only[zC,zD,or_false,not_or];exact⟨yi (Nat.lt_succ_self _),yh hlS⟩
    refine Ld ((Walks.tuple hh3 _ l (by rw[hz];exact yi (Nat.lt_succ_of_lt hlS)) items).toS) s.heap.objs.size hSf zs hn hi hb (items.size-0) 0 _ nofun (yf _)
     ⟨⟨_,yw _ rfl,rfl,rfl⟩,(hl1.push _)⟩ ?hS0 ?hR
    case hS0=>
     exact SetOf_congr ((setObjOf_fresh (knd:=PySem.strKind prog w) led).setOf (yu _ hS) (by unfold scanBound;omega)) (fun _=>rfl) rfl
    case hR=>
     intro s' hm hS';obtain⟨h',g',d',tk',os'⟩:=s';have eg:g'=s.gens:=hm.gens;have ed:d'=s.drawn:=hm.drawn;have eo:os'=s.os:=hm.os;subst eg ed eo;refine yv (yv ⟨rfl,h',tk',rfl,hS',fun b o hb e=>?_⟩);refine hm.heap b o ?_ (yu _ (yu _ e));simp only[zC,zD,or_false,not_or];exact⟨yi hb,by rw[hz];exact yi (Nat.lt_succ_of_lt hb)⟩
   ·cases r₂ with
    | error e=>exact hr₂
    | ok fl₂=>
     cases fl₂ with
     | next=>exact hr₂.elim
     | brk=>exact hr₂.elim
     | cont=>exact hr₂.elim
     | ret r=>
      obtain⟨rfl,h',tk,rfl,hS',hk'⟩:=hr₂
      repeat (any_goals (first | assumption | wp_step))
      exact h _ _ hS' hk'
end
def Gs (a:Addr) (n:Nat):HO:=.ext fun h=>∃o es ep t,h.get? a=some o/\o.ExactSet/\o.data=.set es ep t/\t.fits es.size=true/\es.size=n
section
variable {X:Cx}
theorem Kb (hc:X.calm=true):fO X (.type "set") (fun xs H Q=>∃(a:Addr) (zs:List Str),xs=[.ref a]/\dB X.K H a (zs.map V.str)/\zs.length<=1000/\∀p,H p=none->Q (.ref p) (upd H p (Gs p (gA zs).length))):=by
 intro pins s σ H xs us Q I r h;obtain⟨a,zs,rfl,hq,hz,q⟩:=h;obtain⟨u,rfl,rx⟩:=vals1 r;cases rx;obtain⟨its,rv,p,_⟩:=I.tuple hq;have hl:zs.length=its.length:=by have:=rv.length;rw[za] at this;exact this
 refine GR (zs:=zs) (I.ok.hd hc) p (fun i v hv=>?_) (by rw[ya,hl]) (by rw[ya];unfold scanBound;omega) fun h' tk hS hk=>?_
 ·have hv':its[i]?=some v:=by simpa using hv
  have hi:i<its.length:=(zw.mp hv').1;obtain⟨z,t,e1,e2⟩:=K5 rv hi;have:=(zw.mp hv').2;exact⟨z,t,e1,by rw[<-this,e2]⟩
 ·obtain⟨o,es,ep,t,ho,hex,hd,hel,hmem,hb,hf,hn⟩:=hS
  refine⟨.ref _,_,I.laid (t':=tk) (a:=s.heap.objs.size) (o:=Gs s.heap.objs.size (gA zs).length) (fun b ob e=>hk b ob (yx e) e) (zk _) ?_,rfl,q _ (I.bZ.fresh (zk _))⟩;exact⟨⟨o,es,ep,t,ho,hex,hd,hf,hn⟩,⟨o,ho⟩,fun h1 h2 ⟨o,es,ep,t,e1,r⟩ kk=>⟨o,es,ep,t,kk o e1,r⟩⟩
theorem Kd:fO X (.builtin "len") (fun xs H Q=>∃(p:Addr) (n:Nat),xs=[.ref p]/\H p=some (Gs p n)/\n<=1000/\Q (.int n) H):=by
 intro pins s σ H xs us Q I r h;obtain⟨p,n,rfl,hp,hn,q⟩:=h;obtain⟨u,rfl,rx⟩:=vals1 r;cases rx;obtain⟨⟨o,es,ep,t,ho,hex,hd,hf,rfl⟩,_⟩:=(show cz X.prog X.w H s.heap p (Gs p n) from I.bZ p _ hp)
 exact call_len_set ho hex hd hf nofun ⟨.int _,H,I.tok _,⟨_,rfl⟩,q⟩
end
def Oj:V->Bool
 | .bE=>true
 | .int _=>true
 | .str _=>true
 | _=>false
theorem EZ (h:Oj x=true):mL x=true:=by cases x <;> first | rfl | cases h
theorem Ph:∀{x y:V},Oj x=true->Oj y=true->Hs x y=decide (x=y)
 | .bE,.bE,_,_=>rfl
 | .int _,.int _,_,_=>Dp.symm
 | .str _,.str _,_,_=>Dm.symm
 | .bE,.int _,_,_=>rfl
 | .bE,.str _,_,_=>rfl
 | .int _,.bE,_,_=>rfl
 | .int _,.str _,_,_=>rfl
 | .str _,.bE,_,_=>rfl
 | .str _,.int _,_,_=>rfl
def SN (K:yA) (H:Hp) (a b:Addr) (xs ys:List V):Prop:=(aL K H a xs/\aL K H b ys)\/(dB K H a xs/\dB K H b ys)
def SF (xs ys:List V):Prop:=xs=[]\/ys=[]\/(xs.all Oj=true/\ys.all Oj=true)
def Se (K:yA):R2:=fun x y H Q=>∃a b xs ys,x=.ref a/\y=.ref b/\SN K H a b xs ys/\SF xs ys/\Q (.bl (decide (xs=ys))) H
def Pc (K:yA):R2:=fun x y H Q=>∃a b xs ys,x=.ref a/\y=.ref b/\SN K H a b xs ys/\SF xs ys/\Q (.bl (!decide (xs=ys))) H
theorem Io (r:Vals xs its) (h:j<its.length):∃x,xs[j]?=some x/\RelV x its[j]:=by
 have hl:=r.length;obtain⟨u,hu,ru⟩:=r.get (i:=j) (x:=xs[j]'nofun) (zb nofun);rw[zb h] at hu;cases hu;exact⟨_,zb nofun,ru⟩
section
variable {X:Cx}
theorem Dj (r:Vals xs its) (r':Vals ys jts) (p:SF xs ys):∀j (h1:j<its.toArray.size) (h2:j<jts.toArray.size),SeqAt.EqAt A s its.toArray[j] jts.toArray[j] (decide (xs[j]?=ys[j]?)):=by
 intro j h1 h2;have h1':j<its.length:=by simpa using h1
 have h2':j<jts.length:=by simpa using h2
 obtain⟨x,ex,rx⟩:=Io r h1';obtain⟨y,ey,ry⟩:=Io r' h2';have l1:=r.length;have l2:=r'.length;have hp:Oj x=true/\Oj y=true:=by
  rcases p with e | e | ⟨q1,q2⟩
  ·rw[e] at ex;simp at ex
  ·rw[e] at ey;simp at ey
  ·exact⟨yo.mp q1 x (zB ex),yo.mp q2 y (zB ey)⟩
 have g1:its.toArray[j]=its[j]:=by simp
 have g2:jts.toArray[j]=jts[j]:=by simp
 have z:=Mo (A:=A) (s:=s) rx ry (EZ hp.1) (EZ hp.2);rw[Ph hp.1 hp.2] at z;have e:decide (xs[j]?=ys[j]?)=decide (x=y):=by rw[ex,ey,Bool.eq_iff_iff];simp
 rw[g1,g2,e];exact z
theorem all_eq {xs ys:List V} (h:xs.length=ys.length):((List.range xs.length).all fun j=>decide (xs[j]?=ys[j]?))=decide (xs=ys):=by
 rw[Bool.eq_iff_iff,yo,decide_eq_true_eq];constructor
 ·intro hh
  refine List.ext_getElem? fun j=>?_;rcases Nat.lt_or_ge j xs.length with hj | hj
  ·exact yd (hh j (List.mem_range.mpr hj))
  ·rw[List.getElem?_eq_none hj,List.getElem?_eq_none nofun]
 ·intro hh j _
  rw[hh];exact ze rfl
theorem C9 {xs ys:List V} (h:xs.length≠ys.length):decide (xs=ys)=false:=zd fun e=>h (by rw[e])
theorem CV (hu:X.A.units+64<cLine):oX X (compareOp .Eq) (Se X.K):=by
 intro pins s σ H x y v u Q I rx ry h;obtain⟨a,b,xs,ys,rfl,rfl,hs,pl,q⟩:=h;cases rx;cases ry;rcases hs with⟨ha,hb⟩ | ⟨ha,hb⟩
 ·obtain⟨its,r,p,_⟩:=I.list ha
  obtain⟨jts,r',p',_⟩:=I.list hb;have l1:=r.length;have l2:=r'.length
  by_cases hl:xs.length=ys.length
  ·have z:=SeqAt.RcAt.lists (A:=X.A) (s:=s) p.isList p'.isList (by rw[ya,ya];omega) nofun (Dj r r' pl)
   rw[ya,<-l1,all_eq hl] at z;exact z _ _ _ _ ⟨.bl _,H,I,rfl,q⟩
  ·have z:=SeqAt.RcAt.lists_lengths (A:=X.A) (s:=s) p.isList p'.isList (by rw[ya,ya];simp;omega) nofun
   rw[C9 hl] at q;exact z _ _ _ _ ⟨.bl false,H,I,rfl,q⟩
 ·obtain⟨its,r,p,_⟩:=I.tuple ha
  obtain⟨jts,r',p',_⟩:=I.tuple hb;have l1:=r.length;have l2:=r'.length;have z:=SeqAt.RcAt.tuples (A:=X.A) (s:=s) p p' nofun (Dj r r' pl);rw[ya,ya,<-l1,<-l2] at z
  by_cases hl:xs.length=ys.length
  ·have em:min xs.length ys.length=xs.length:=nofun
   rw[em,all_eq hl,hl,beq_self_eq_true,Bool.and_true] at z;exact z _ _ _ _ ⟨.bl _,H,I,rfl,q⟩
  ·rw[show(xs.length == ys.length)=false by simpa using hl,Bool.and_false] at z
   rw[C9 hl] at q;exact z _ _ _ _ ⟨.bl false,H,I,rfl,q⟩
theorem CU (hu:X.A.units+64<cLine):oX X (compareOp .NotEq) (Pc X.K):=by
 intro pins s σ H x y v u Q I rx ry h;obtain⟨a,b,xs,ys,rfl,rfl,hs,pl,q⟩:=h;cases rx;cases ry;rcases hs with⟨ha,hb⟩ | ⟨ha,hb⟩
 ·obtain⟨its,r,p,_⟩:=I.list ha
  obtain⟨jts,r',p',_⟩:=I.list hb;have l1:=r.length;have l2:=r'.length
  by_cases hl:xs.length=ys.length
  ·have z:=SeqAt.RcNeAt.lists (A:=X.A) (s:=s) p.isList p'.isList (by rw[ya,ya];omega) nofun (Dj r r' pl)
   rw[ya,<-l1,all_eq hl] at z;exact z _ _ _ _ ⟨.bl _,H,I,rfl,q⟩
  ·have z:=SeqAt.RcNeAt.lists_lengths (A:=X.A) (s:=s) p.isList p'.isList (by rw[ya,ya];simp;omega) nofun
   rw[C9 hl] at q;exact z _ _ _ _ ⟨.bl true,H,I,rfl,q⟩
 ·obtain⟨its,r,p,_⟩:=I.tuple ha
  obtain⟨jts,r',p',_⟩:=I.tuple hb;have l1:=r.length;have l2:=r'.length;have z:=SeqAt.RcNeAt.tuples (A:=X.A) (s:=s) p p' nofun (Dj r r' pl);rw[ya,ya,<-l1,<-l2] at z
  by_cases hl:xs.length=ys.length
  ·have em:min xs.length ys.length=xs.length:=nofun
   rw[em,all_eq hl,hl,beq_self_eq_true,Bool.and_true] at z;exact z _ _ _ _ ⟨.bl _,H,I,rfl,q⟩
  ·rw[show(xs.length == ys.length)=false by simpa using hl,Bool.and_false] at z
   rw[C9 hl] at q;exact z _ _ _ _ ⟨.bl true,H,I,rfl,q⟩
def Of (K:yA):V->Option Int->Option Int->Hp->VK->Prop:=fun x lo hi H Q=>∃a xs,x=.ref a/\dB K H a xs/\(HT.fo xs.length 0 lo=0/\HT.fo xs.length xs.length hi=xs.length)/\Q (.ref a) H
theorem M4:MH X (Of X.K):=by
 intro pins s σ H x v vl vu lo hi sl Q I rx hs pl pu h;obtain⟨a,xs,rfl,hx,hw,q⟩:=h;cases rx;obtain⟨its,r,ht,hz⟩:=I.tuple hx;have hlen:its.toArray.size=xs.length:=by rw[ya];exact r.length.symm
 refine⟨"tuple",_,PyProof.Rows.slot_tuple_getitem.lookup,ht.typeIs,?_⟩;rw[<-hlen] at hw;obtain⟨os,hos,hcs,hds⟩:=id hs;have hTs:s.TypeIs (.ref sl) "slice":=⟨os,hos,hcs⟩
 unfold getItem
 try with_reducible refine wpAny_holding ?_
 first | refine yt (yv ?_) | skip
 refine yt (wpAny_sequenceKey ht.typeIs (by decide) ?_);refine yt (wpAny_callSpecial?_slot (name:=Str.ofString "__getitem__") ht.typeIs PyProof.Rows.slot_tuple_getitem
  (wpAny_call_entry PyProof.Rows.slot_tuple_getitem ht.typeIs entry_tuple_getitem ?_ (args_tuple_getitem _ _)))
 show wpAny _ _ (Builtin.Tuple.tupleItemsOf (.ref a) >>= _) _ _ s;refine yt (tupleItemsOf_ ht ?_);refine yt (wpAny_typeOf hTs ?_);rw[if_pos (by decide)];refine yt (HT.kD hs pl pu ?_);show wpAny _ _ (if(((HT.fo its.toArray.size 0 lo:Nat):Int) == 0&&(1:Int) == 1&&(HT.fo its.toArray.size its.toArray.size hi-HT.fo its.toArray.size 0 lo) == its.toArray.size)=true then _ else _) _ _ s;rw[if_pos (by rw[hw.1,hw.2];simp)];unfold Builtin.Tuple.tupleIsExact;refine yt ?_
 repeat (any_goals (first | assumption | exact⟨_,rfl,yv ⟨.ref a,H,I,rfl,q⟩⟩ | refine yt (wpAny_typeOf ht.typeIs ?_) | wp_step))
def Og (K:yA):V->Option Int->Option Int->Hp->VK->Prop:=fun x lo hi H Q=>QF K x lo hi H Q\/Of K x lo hi H Q
theorem M5:MH X (Og X.K):=MH.or O5 M4
def EW (K:yA):V->List V->Hp->VK->Prop:=fun x vs H Q=>∃l b xs zs,x=.ref l/\vs=[.ref b]/\H l=some (.lst xs)/\H b=some (.tup zs)/\xs.length+zs.length<=sizeLine/\Q .bE (upd H l (.lst (xs++zs)))
def Lw (K:yA):V->List V->Hp->VK->Prop:=fun x vs H Q=>IB x vs H Q\/EW K x vs H Q
theorem G8:OC X "list.extend" (EW X.K):=by
 intro pins s σ H x vs v us Q I rx rv h;obtain⟨l,b,xs,zs,rfl,rfl,hH,hB,hz,q⟩:=h;cases rx;obtain⟨u,rfl,ru⟩:=rv.one;cases ru;obtain⟨z,its,n,r,hl,e⟩:=I.LW hH;obtain⟨_,its2,r2,⟨oc,od,oda,osl⟩,ho,hoc,n2,hod⟩:=(show cz X.prog X.w H s.heap b (.tup zs) from I.bZ b _ hB)
 have l1:=r.length;have l2:=r2.length;have hsz:its.toArray.size+its2.toArray.size<=sizeLine:=by rw[ya,ya];omega
 have hlong:¬(!its.toArray.isEmpty&&Builtin.List.listTooLong (its.toArray.size+its2.toArray.size))=true:=by
  rw[Fj hsz,Bool.and_false];exact zK
 dsimp only at hoc hod;subst hoc hod;refine wpAny_call_entry F.slot_list_extend ⟨_,e,rfl⟩ F.entry_list_extend ?_ (F.args_list_extend_2 _ _);show wpAny _ _ (Builtin.List.listExtendWith (.ref l) (.ref b) .none) _ _ s;unfold Builtin.List.listExtendWith;refine yt (wpAny_typeOf (T:="tuple") ⟨_,ho,rfl⟩ ?_);have ht:(Value.type "tuple"== Value.type "tuple")=true:=by rfl
 rw[if_pos (by rw[ht];simp)];refine yt (listItems_at ho rfl ?_);refine yt (listItems_at e rfl ?_);rw[if_neg hlong];refine yt (listUpdate_at e rfl ?_ (by rw[ya];omega) (by show(its.toArray++its2.toArray).size<=sizeLine+1;rw[Array.size_append];omega));refine yv ⟨_,rfl,?_⟩;refine⟨.bE,_,I.NF (its':=its++its2) hH e (by simp) (r.append r2) ?_,rfl,q⟩;rw[zg];omega
theorem G9:OC X "list.extend" (Lw X.K):=by
 intro pins s σ H x vs v us Q I rx rv h;rcases h with h | h
 ·exact JK pins s σ H x vs v us Q I rx rv h
 ·exact G8 pins s σ H x vs v us Q I rx rv h
theorem HM:fO X (.builtin "len") (fun xs H Q=>∃p kvs,xs=[.ref p]/\H p=some (.dK kvs)/\Q (.int (kvs.length:Nat)) H):=by
 intro pins s σ H xs us Q I r h;obtain⟨p,kvs,rfl,hp,q⟩:=h;obtain⟨u,rfl,rx⟩:=vals1 r;cases rx;exact Q6 I (.inl hp) fun t s' I'=>⟨.int _,H,I',⟨_,rfl⟩,q⟩
end
abbrev Sg (K:yA):List V->Hp->VK->Prop:=fun xs H Q=>∃p ys,xs=[.ref p]/\(aL K H p ys\/dB K H p ys)/\Q (.int ys.length) H
abbrev Sh (K:yA):List V->Hp->VK->Prop:=fun xs H Q=>∃(a:Addr) (bs:List Bool),xs=[.ref a]/\aL K H a (bs.map V.bl)/\Q (.bl (bs.any id)) H
abbrev QG:List V->Hp->VK->Prop:=fun xs H Q=>∃i,xs=[.int i]/\i.natAbs.log2<1920/\Q (.str (toString i)) H
abbrev Pf (K:yA):List V->Hp->VK->Prop:=fun xs H Q=>∃p ys,xs=[.ref p]/\((aL K H p ys/\∀l,H l=none->Q (.ref l) (upd H l (.tup ys)))\/(dB K H p ys/\Q (.ref p) H))
abbrev QH (K:yA):List V->Hp->VK->Prop:=fun xs H Q=>∃p ys,xs=[.ref p]/\(aL K H p ys\/dB K H p ys)/\∀l,H l=none->Q (.ref l) (upd H l (.lst ys))
def Jz (lo:Int) (n:Nat):List Int:=(List.range n).map fun i=>lo+(i:Nat)
def OW (ta:TA):TE:=fun σ H Q=>ta σ H fun vs H1=>∃i j:Int,vs=[.int i,.int j]/\(-(2^62)<=i/\i<2^62/\-(2^62)<=j/\j<2^62)/\(j-i).toNat<=1000000/\∀l,H1 l=none->Q (.ref l) (upd H1 l (.lst ((Jz i (j-i).toNat).map V.int)))
theorem Im:∀{xs:List V} {us:List Value},xs.length=us.length->(∀(i:Nat) (x:V) (u:Value),xs[i]?=some x->us[i]?=some u->RelV x u)->Vals xs us
 | [],[],_,_=>.nil
 | x::xs,u::us,h,k=>.cons (k 0 x u rfl rfl) (Im (by simpa using h) fun i y v e e'=>k (i+1) y v (by simpa using e) (by simpa using e'))
 | [],_::_,h,_=>by simp at h
 | _::_,[],h,_=>by simp at h
section
variable {X:Cx}
theorem LK (hc:X.calm=true) (hg0:Gl X "list") (hm0:X.mg "list"= none) (hg:Gl X "range") (hm:X.mg "range"= none) (ha:PA X [a,b] ta)
  (hs:autoParam (starEach [a,b] X.env=[(false,eval a X.env),(false,eval b X.env)]) qe_) (hs2:autoParam (starEach [b] X.env=[(false,eval b X.env)]) qe_)
  (hs1:autoParam (starEach [.Call (.Name "range" p2) [a,b] [] pos2] X.env=[(false,eval (.Call (.Name "range" p2) [a,b] [] pos2) X.env)]) qe_) :
  PE X (.Call (.Name "list" p1) [.Call (.Name "range" p2) [a,b] [] pos2] [] pos1) (OW ta):=by
 intro pins s σ H Q I h;refine wpAny_Call_Name_kw (jn I hg0 hm0 (by decide +kernel:bootBuiltins "list"= some (.type "list")) ?_ (by decide) (by decide));refine PyProof.Rows.callWith_type1 (Q:=_) ?_ hs1 rfl;rw[hs1];refine Calls.spliced_cons ?_;refine Call_ (jn I hg hm boot_range (PyProof.Rows.callWith_type1 (cS (ha pos2 pins s σ H _ I h) fun us s1 ⟨vs,H1,I1,r1,q1⟩=>?_) (by rw[hs,hs2]) (by rw[hs2];rfl)));obtain⟨i,j,e,⟨q1,q2,q3,q4⟩,hz,q⟩:=q1;subst e;cases r1 with
 | cons r rr=>
  cases rr with
  | cons r' rr=>
   cases rr;obtain⟨t,rfl⟩:=r;obtain⟨t',rfl⟩:=r';refine call_range_2 ?_;refine Calls.spliced_nil ?_;have I2:Inv X pins σ H1 {s1 with heap:=s1.heap.push {cls:=.type "range",data:=.fields #[.int i t,.int j t',.int 1 s1.toks]},toks:=s1.toks+1}:=I1.kept fun b o e=>yu _ e;have hn:Builtin.Range.rangeSize i j 1=(((j-i).toNat:Nat):Int):=by rw[rangeSize_one];split <;> omega
   refine call_list_range (I2.ok.hd hc) (IsRange.new ..) (small_one q1 q2 q3 q4) hn (zL hz (by decide)) fun h' tk acc c hk hS hit=>?_;have rv:Vals ((Jz i (j-i).toNat).map V.int) acc.toList:=by
    refine Im ?_ ?_
    ·have e1:acc.toList.length=(j-i).toNat:=by rw[Array.length_toList];exact hit.1
     rw[za,e1];unfold Jz;simp
    ·intro k x u hx hu
     rw[Array.getElem?_toList] at hu;obtain⟨tk',rfl⟩:=hit.2 k u hu;have hk':k<(j-i).toNat:=by
      have:=(Array.getElem?_eq_some_iff.mp hu).1;rw[hit.1] at this;exact this
     unfold Jz at hx;rw[zA,zJ,List.getElem?_range hk'] at hx;cases hx;exact⟨tk',by simp⟩
   have hl:H1 (s1.heap.push {cls:=.type "range",data:=.fields #[.int i t,.int j t',.int 1 s1.toks]}).objs.size=none:=I2.bZ.fresh (zk _);refine⟨.ref _,_,I2.laid (t':=tk) hk (zk _) (show cz X.prog X.w _ h' _ (.lst ((Jz i (j-i).toNat).map V.int)) from⟨?_,acc.toList,c,rv,?_⟩),rfl,q _ hl⟩
   ·rw[za]
    have sl:=yB;unfold Jz;simp;omega
   ·simpa using hS
end
theorem Gy:typeLookup (.type "zip") "__len__"= pure none:=by rw[typeLookup_type,builtinLookup_eq_fast];kernel_rfl
theorem El:typeLookup (.type "zip") "__length_hint__"= pure none:=by rw[typeLookup_type,builtinLookup_eq_fast];kernel_rfl
section
variable {prog:Program} {w:World} {A:Around} {E:Value->Shared->Prop} {s:Shared}
theorem vo (ho:s.heap.get? a=some o) (h:Q (some o) s):wpAny (model prog w) A (loadIfAlive a) Q E s:=
 fun Γ p _=>by
  unfold loadIfAlive;rw[Sem.wp_loadIfAlive,ho];exact h
abbrev Ic (h:Heap) (z TI TO T:Addr) (f1:Bool):Prop:=h.get? z=some {cls:=.type "zip",dict:=none,data:=.fields #[rawInt T,.bool f1,.bool false,.ref TI,.ref TO],slots:=#[]}
structure Rr (t1 t2:Bool) (h:Heap) (z TI TO i1 i2 l1 l2:Addr) (k:Nat):Prop where
 z:∃T f1,Ic h z TI TO T f1/\(∃o,h.get? T=some o)/\T≠z/\T≠i1/\T≠i2
 ti:IsPair h TI (.ref i1) (.ref i2)
 to:∃o,h.get? TO=some o
 i1:dr t1 h i1 l1 k
 i2:dr t2 h i2 l2 k
theorem Fi {z TI TO T:Addr} {f1:Bool} {o:Obj} {Q:Bool->Shared->Prop} (hz:Ic s.heap z TI TO T f1) (hT:s.heap.get? T=some o)
  (hQ:∀h',Ic h' z TI TO T true->Heap.SameBut z s.heap h'->Q false {s with heap:=h'}):wpAny (model prog w) A (Builtin.SmallTypes.ownedTupleIsFree (.ref z)) Q E s:=by
 unfold Builtin.SmallTypes.ownedTupleIsFree;refine yt (wpAny_field hz rfl (x:=rawInt T) rfl ?_);show wpAny _ _ (loadIfAlive ((T:Int).toNat) >>= _) _ _ _;rw[Int.toNat_natCast];refine yt (vo hT ?_);show wpAny _ _ (field (.ref z) 1 >>= _) _ _ _;refine yt (wpAny_field hz rfl (x:=.bool f1) rfl ?_);cases f1 with
 | true=>exact yv (hQ s.heap hz ⟨rfl,fun _ _=>rfl⟩)
 | false=>
  show wpAny _ _ (setField (.ref z) 1 (.bool true) >>= _) _ _ _;exact yt (wpAny_setField_rec hz (by simp) fun g1 z1 q1=>yv (hQ g1 z1 q1))
theorem Jh {t1 t2:Bool} {z TI TO i1 i2 l1 l2:Addr} {k:Nat} {xs ys:Array Value} {x y:Value} {Q:Value->Shared->Prop} (D:Kn z TI TO i1 i2) (L1:AD l1 z TO i1 i2) (L2:AD l2 z TO i1 i2)
  (S:Rr t1 t2 s.heap z TI TO i1 i2 l1 l2 k) (hl1:fm t1 s.heap l1 xs) (hl2:fm t2 s.heap l2 ys) (hx:xs[k]?=some x) (hy:ys[k]?=some y)
  (hQ:∀h',Rr t1 t2 h' z TI TO i1 i2 l1 l2 (k+1)->IsPair h' s.heap.objs.size x y->sV z TO i1 i2 s.heap h'->Q (.ref s.heap.objs.size) {s with heap:=h'}) :
  wpAny (model prog w) A (Builtin.«zip.__next__» ⟨[.ref z],[]⟩) (fun fin s'=>∃v,fin=.done (.ret v)/\Q v s') E s:=by
 obtain⟨⟨T,f1,hz,⟨o,hT⟩,n1,n2,n3⟩,hTI,⟨oT,hTO⟩,h1,h2⟩:=S;show wpAny _ _ (field (.ref z) 2 >>= _) _ _ _;refine yt (wpAny_field hz rfl (x:=.bool false) rfl ?_);show wpAny _ _ (field (.ref z) 3 >>= _) _ _ _;refine yt (wpAny_field hz rfl (x:=.ref TI) rfl (yt (wpAny_seqItems hTI rfl ?_)));show wpAny _ _ (Builtin.SmallTypes.ownedTupleIsFree (.ref z) >>= _) _ _ _;refine yt (Fi hz hT fun g1 z1 q1=>?_);simp only[Bool.false_eq_true,if_false];refine yt ?_;simp only[List.forIn_toArray,List.forIn_cons,List.forIn_nil];refine yt (yt (wpAny_holding ?_));show wpAny _ _ (Builtin.SmallTypes.nextOf (.ref i1) >>= _) _ _ _;refine yt (qU (h1.but q1 D.a3) (hl1.but q1 L1.a1) hx fun g2 p2 q2=>yv ?_);refine yv ?_;refine yt (yt (wpAny_holding ?_));show wpAny _ _ (Builtin.SmallTypes.nextOf (.ref i2) >>= _) _ _ _;refine yt (qU ((h2.but q1 D.a4).but q2 D.b1.symm) ((hl2.but q1 L2.a1).but q2 L2.a3) hy fun g3 p3 q3=>yv ?_);refine yv (yv ?_);have sz:g3.objs.size=s.heap.objs.size:=by rw[q3.1,q2.1,q1.1]
 have k3:∀c o,c≠z->c≠i1->c≠i2->s.heap.get? c=some o->g3.get? c=some o:=fun c o c1 c3 c4 e=>q3.extBut _ _ c4 (q2.extBut _ _ c3 (q1.extBut _ _ c1 e));show wpAny _ _ (newTuple [x,y] >>= _) _ _ _;refine yt (wpAny_newTuple ?_);refine yv ⟨_,rfl,?_⟩;have up:∀c o,g3.get? c=some o->(g3.push {cls:=.type "tuple",data:=.seq #[x,y]}).get? c=some o:=fun c o e=>yu _ e;have gp:(g3.push {cls:=.type "tuple",data:=.seq #[x,y]}).get? g3.objs.size=some {cls:=.type "tuple",data:=.seq #[x,y]}:=yw _ rfl;rw[sz] at gp;show Q (.ref g3.objs.size) _;rw[sz];refine hQ _ ⟨⟨T,true,up _ _ (q3.extBut _ _ D.a4.symm (q2.extBut _ _ D.a3.symm z1)),⟨o,up _ _ (k3 _ _ n1 n2 n3 hT)⟩,n1,n2,n3⟩,up _ _ (k3 _ _ D.a1 D.a6 D.a7 hTI),⟨oT,up _ _ (k3 _ _ D.a2 D.a8 D.a9 hTO)⟩,(p2.but q3 D.b1).at (up _),p3.at (up _)⟩ gp fun c o c1 c2 c3 c4 e=>up _ _ (k3 c o c1 c3 c4 e)
theorem Jg {t1 t2:Bool} {z TI TO i1 i2 l1 l2:Addr} {k:Nat} {xs:Array Value} {Q:Fin->Shared->Prop} (hh:A.handled=none) (D:Kn z TI TO i1 i2) (L1:AD l1 z TO i1 i2)
  (S:Rr t1 t2 s.heap z TI TO i1 i2 l1 l2 k) (hl1:fm t1 s.heap l1 xs) (hx:xs[k]?=none)
  (hE:∀h' e,sV z TO i1 i2 s.heap h'->(∃o,h'.get? e=some o/\o.cls=.type "StopIteration")->E (.ref e) {s with heap:=h'}) :
  wpAny (model prog w) A (Builtin.«zip.__next__» ⟨[.ref z],[]⟩) Q E s:=by
 obtain⟨⟨T,f1,hz,⟨o,hT⟩,n1,n2,n3⟩,hTI,⟨oT,hTO⟩,h1,h2⟩:=S;show wpAny _ _ (field (.ref z) 2 >>= _) _ _ _;refine yt (wpAny_field hz rfl (x:=.bool false) rfl ?_);show wpAny _ _ (field (.ref z) 3 >>= _) _ _ _;refine yt (wpAny_field hz rfl (x:=.ref TI) rfl (yt (wpAny_seqItems hTI rfl ?_)));show wpAny _ _ (Builtin.SmallTypes.ownedTupleIsFree (.ref z) >>= _) _ _ _;refine yt (Fi hz hT fun g1 z1 q1=>?_);simp only[Bool.false_eq_true,if_false];refine yt ?_;simp only[List.forIn_toArray,List.forIn_cons,List.forIn_nil];refine yt (yt (wpAny_holding ?_));show wpAny _ _ (Builtin.SmallTypes.nextOf (.ref i1) >>= _) _ _ _;refine yt (Cu hh (h1.but q1 D.a3) (hl1.but q1 L1.a1) hx fun g2 e q2 he=>?_);exact hE g2 e (fun c o c1 c2 c3 c4 x=>q2 _ _ c3 (q1.extBut _ _ c1 x)) he
def Km (t1 t2:Bool) (h:Heap) (z TI TO i1 i2 l1 l2:Addr) (k:Nat):Prop:=(k=0/\MS t1 t2 h z TI TO i1 i2 l1 l2 0 .none)\/Rr t1 t2 h z TI TO i1 i2 l1 l2 k
theorem Km.type {t1 t2:Bool} {z TI TO i1 i2 l1 l2:Addr} {k:Nat} (S:Km t1 t2 s.heap z TI TO i1 i2 l1 l2 k):s.TypeIs (.ref z) "zip":=by
 rcases S with⟨_,S⟩ | S
 ·exact⟨_,S.z,rfl⟩
 ·obtain⟨_,_,e,_⟩:=S.z;exact⟨_,e,rfl⟩
theorem Km.at {t1 t2:Bool} {h h':Heap} {z TI TO i1 i2 l1 l2:Addr} {k:Nat} (S:Km t1 t2 h z TI TO i1 i2 l1 l2 k) {B:Addr} (hk:∀c o,c≠B->h.get? c=some o->h'.get? c=some o) (hB:∃o,h'.get? B=some o) (nB:B∉[z,TI,TO,i1,i2]):Km t1 t2 h' z TI TO i1 i2 l1 l2 k:=by
 simp only[zC,zD,or_false,not_or] at nB;obtain⟨b1,b2,b3,b4,b5⟩:=nB;rcases S with⟨e,S⟩ | S
 ·exact .inl ⟨e,hk _ _ (Ne.symm b1) S.z,hk _ _ (Ne.symm b2) S.ti,(let ⟨x,y,q⟩:=S.to;⟨x,y,hk _ _ (Ne.symm b3) q⟩),S.i1.at fun o=>hk _ o (Ne.symm b4),S.i2.at fun o=>hk _ o (Ne.symm b5)⟩
 ·obtain⟨T,f1,z1,⟨o,hT⟩,n1,n2,n3⟩:=S.z
  refine .inr ⟨⟨T,f1,hk _ _ (Ne.symm b1) z1,?_,n1,n2,n3⟩,hk _ _ (Ne.symm b2) S.ti,(let ⟨x,q⟩:=S.to;⟨x,hk _ _ (Ne.symm b3) q⟩),S.i1.at fun o=>hk _ o (Ne.symm b4),S.i2.at fun o=>hk _ o (Ne.symm b5)⟩
  by_cases e:T=B
  ·rw[e];exact hB
  ·exact⟨o,hk _ _ e hT⟩
theorem Km.obj {t1 t2:Bool} {h:Heap} {z TI TO i1 i2 l1 l2:Addr} {k:Nat} (S:Km t1 t2 h z TI TO i1 i2 l1 l2 k):∀b∈[z,TI,TO,i1,i2],∃o,h.get? b=some o:=by
 intro b hb;simp only[zC,zD,or_false] at hb;rcases S with⟨e,S⟩ | S
 ·rcases hb with rfl | rfl | rfl | rfl | rfl
  ·exact⟨_,S.z⟩
  ·exact⟨_,S.ti⟩
  ·exact let ⟨x,y,q⟩:=S.to;⟨_,q⟩
  ·exact let ⟨o,e,_⟩:=S.i1.get;⟨o,e⟩
  ·exact let ⟨o,e,_⟩:=S.i2.get;⟨o,e⟩
 ·rcases hb with rfl | rfl | rfl | rfl | rfl
  ·obtain⟨_,_,e,_⟩:=S.z;exact⟨_,e⟩
  ·exact⟨_,S.ti⟩
  ·exact S.to
  ·exact let ⟨o,e,_⟩:=S.i1.get;⟨o,e⟩
  ·exact let ⟨o,e,_⟩:=S.i2.get;⟨o,e⟩
theorem Jf {t1 t2:Bool} {z TI TO i1 i2 l1 l2:Addr} {k:Nat} {xs ys:Array Value} {x y:Value} {Q:Option Value->Shared->Prop} (D:Kn z TI TO i1 i2) (L1:AD l1 z TO i1 i2) (L2:AD l2 z TO i1 i2)
  (S:Km t1 t2 s.heap z TI TO i1 i2 l1 l2 k) (hl1:fm t1 s.heap l1 xs) (hl2:fm t2 s.heap l2 ys) (hx:xs[k]?=some x) (hy:ys[k]?=some y)
  (hQ:∀h',Km t1 t2 h' z TI TO i1 i2 l1 l2 (k+1)->IsPair h' s.heap.objs.size x y->sV z TO i1 i2 s.heap h'->Q (some (.ref s.heap.objs.size)) {s with heap:=h'}) :
  wpAny (model prog w) A (pyNext (.ref z)) Q E s:=by
 have ob:=S.obj;have lt:∀b∈[z,TI,TO,i1,i2],s.heap.objs.size≠b:=fun b hb e=>by
  obtain⟨o,ho⟩:=ob b hb;rw[<-e] at ho;exact absurd (yx ho) (ye _)
 rcases S with⟨e,S⟩ | S
 ·subst e
  refine Em D L1 L2 S hl1 hl2 hx hy fun h' a1 a2 a3=>hQ h' (.inr ⟨⟨_,false,a1.z,⟨_,a2⟩,lt z (by simp),lt i1 (by simp),lt i2 (by simp)⟩,a1.ti,(let ⟨x,y,q⟩:=a1.to;⟨_,q⟩),a1.i1,a1.i2⟩) a2 a3
 ·have hT:s.TypeIs (.ref z) "zip":=by obtain⟨_,_,e,_⟩:=S.z;exact⟨_,e,rfl⟩
  unfold pyNext;exact yt (wpAny_attempt (wpAny_callSpecial?_slot (name:=Str.ofString "__next__") hT F.slot_zip_next (wpAny_call_entry F.slot_zip_next hT F.entry_zip_next (Jh D L1 L2 S hl1 hl2 hx hy fun h' a1 a2 a3=>yv (hQ h' (.inr a1) a2 a3)) (F.args_zip_next_1 _))))
theorem Je {t1 t2:Bool} {z TI TO i1 i2 l1 l2:Addr} {k:Nat} {xs ys:Array Value} {Q:Option Value->Shared->Prop} (hh:A.handled=none) (D:Kn z TI TO i1 i2) (L1:AD l1 z TO i1 i2) (L2:AD l2 z TO i1 i2)
  (S:Km t1 t2 s.heap z TI TO i1 i2 l1 l2 k) (hl1:fm t1 s.heap l1 xs) (hl2:fm t2 s.heap l2 ys) (hx:xs[k]?=none)
  (hQ:∀h',sV z TO i1 i2 s.heap h'->Q none {s with heap:=h'}):wpAny (model prog w) A (pyNext (.ref z)) Q E s:=by
 rcases S with⟨e,S⟩ | S
 ·subst e
  exact Ek hh D L1 L2 S hl1 hl2 (.inl hx) hQ
 ·have hT:s.TypeIs (.ref z) "zip":=by obtain⟨_,_,e,_⟩:=S.z;exact⟨_,e,rfl⟩
  unfold pyNext;refine yt (wpAny_attempt (wpAny_callSpecial?_slot (name:=Str.ofString "__next__") hT F.slot_zip_next (wpAny_call_entry F.slot_zip_next hT F.entry_zip_next (Jg hh D L1 S hl1 hx fun h' e hk he=>?_) (F.args_zip_next_1 _))));obtain⟨o,ho,hc⟩:=he;exact yt (wpAny_isInstance (T:="StopIteration") (b:=true) ⟨o,ho,hc⟩ isSubtype_stop (yv (hQ _ hk)))
end
def Pairs (H:Hp) (xs ys us:List V) (k:Nat):Prop:=us.length=k/\∀(j:Nat) (x y:V),j<k->xs[j]?=some x->ys[j]?=some y->∃q,us[j]?=some (.ref q)/\H q=some (.tup [x,y])
theorem au.Oc {t:Bool} {K:yA} {H H':Hp} {a:Addr} {xs:List V} (e:au H H') (h:Bx t K H a xs):Bx t K H' a xs:=by
 cases t
 ·exact e.seq h
 ·exact e.tup h
abbrev Jb (h:Heap) (S:Addr) (acc:Array Value) (c:Nat):Prop:=h.get? S=some {cls:=.type "list",dict:=none,data:=.seq acc c,slots:=#[]}
section
variable {X:Cx} {pins:List (Addr×Obj)} {σ:St}
theorem KJ {A:Around} {R:Result->Shared->Prop} {t1 t2:Bool} {a b z TI TO i1 i2 S:Addr} {xs ys:List V} {res:Value} (hh:A.handled=none) (D:Kn z TI TO i1 i2) (L1:AD a z TO i1 i2) (L2:AD b z TO i1 i2) (hl:xs.length=ys.length) (hz:xs.length<=sizeLine) (nS:S∉[z,TI,TO,i1,i2]) :
  ∀(n k:Nat) (s:Shared) (H:Hp) (acc:Array Value) (c:Nat) (us:List V),xs.length-k=n->k<=xs.length->Inv X pins σ H s->(∀b∈[z,TI,TO,i1,i2,S],qP X pins H b)->Km t1 t2 s.heap z TI TO i1 i2 a b k->Bx t1 X.K H a xs->Bx t2 X.K H b ys->
  Jb s.heap S acc c->Vals us acc.toList->Pairs H xs ys us k->
  (∀(s':Shared) (H':Hp) (us':List V) (acc':Array Value) (c':Nat),Inv X pins σ H' s'->qP X pins H' S->au H H'->Jb s'.heap S acc' c'->Vals us' acc'.toList->Pairs H' xs ys us' xs.length->R (.ok (.ret res)) s')->
  codeAny (model X.prog X.w) A (.builtin "list.extend.loop" ⟨[.ref S,.ref z,res],[]⟩) R s:=by
 intro n
 induction n with
 | zero=>
  intro k s H acc c us hk hi I hf S0 q1 q2 hS rv pr hR;have e:k=xs.length:=nofun
  subst e;obtain⟨its,rx,p1,_⟩:=I.sq q1;obtain⟨jts,ry,p2,_⟩:=I.sq q2;refine codeAny_builtin F.entry_extend_loop ?_;rw[Around.under_plainId F.plain_extend_loop _];show wpAny _ A.in1 (pyNext (.ref z) >>= _) _ _ s;have hl:=rx.length;refine yt (Je (A:=A.in1) hh D L1 L2 S0 p1 p2 (by simp;omega) fun h' hk'=>?_);have kk:∀b u,b∉[z,TI,TO,i1,i2,S]->s.heap.get? b=some u->h'.get? b=some u:=fun b u hb e=>hk' b u (fun z=>hb (by simp[z])) (fun z=>hb (by simp[z])) (fun z=>hb (by simp[z])) (fun z=>hb (by simp[z])) e;have kS:Jb h' S acc c:=hk' S _ (fun z=>nS (by simp[z])) (fun z=>nS (by simp[z])) (fun z=>nS (by simp[z])) (fun z=>nS (by simp[z])) hS;exact yv (hR _ H us acc c (I.turns (t':=s.toks) hf kk) (hf S (by simp)) (fun _ _ e=>e) kS rv pr)
 | succ n ih=>
  intro k s H acc c us hk hi I hf S0 q1 q2 hS rv pr hR;have hlt:k<xs.length:=nofun
  obtain⟨its,rx,p1,_⟩:=I.sq q1;obtain⟨jts,ry,p2,_⟩:=I.sq q2;obtain⟨u,hu,ru⟩:=rx.get (zb hlt);obtain⟨u',hu',ru'⟩:=ry.get (zb (show k<ys.length by omega));refine codeAny_builtin F.entry_extend_loop ?_;rw[Around.under_plainId F.plain_extend_loop _];show wpAny _ A.in1 (pyNext (.ref z) >>= _) _ _ s;have ob:=S0.obj;have lt:∀b∈[z,TI,TO,i1,i2,S],b≠s.heap.objs.size:=fun b hb e=>by
   obtain⟨o,ho⟩:∃o,s.heap.get? b=some o:=by
    rcases zF.mp (show b∈[z,TI,TO,i1,i2]++[S] from hb) with z' | z'
    ·exact ob b z'
    ·rw[zy.mp z'];exact⟨_,hS⟩
   rw[e] at ho;exact absurd (yx ho) (ye _)
  refine yt (Jf (A:=A.in1) D L1 L2 S0 p1 p2 (x:=u) (y:=u') (by simpa using hu) (by simpa using hu') fun h' S1 hT hk'=>?_);have kS:Jb h' S acc c:=hk' S _ (fun z=>nS (by simp[z])) (fun z=>nS (by simp[z])) (fun z=>nS (by simp[z])) (fun z=>nS (by simp[z])) hS;have az:acc.size=k:=by rw[<-Array.length_toList,<-rv.length];exact pr.1
  show wpAny _ A.in1 (updateSeq S (·.push (.ref s.heap.objs.size)) >>= _) _ _ _;refine yt ?_;have oth:∀b o,b≠S->h'.get? b=some o->(h'.update S (Obj.mapSeq (·.push (.ref s.heap.objs.size)))).get? b=some o:=fun b o hb e=>(yy _ _ (Ne.symm hb)).trans e;have S2:=yz (Obj.mapSeq (·.push (Value.ref s.heap.objs.size))) kS rfl;have hn:H s.heap.objs.size=none:=I.bZ.fresh (zk _);have hT2:=oth _ _ (Ne.symm (lt S (by simp))) hT;have I2:Inv X pins σ (upd H s.heap.objs.size (.tup [xs[k],ys[k]])) {s with heap:=h'.update S (Obj.mapSeq (·.push (.ref s.heap.objs.size))),toks:=s.toks}:=
   I.wZ (t':=s.toks) hf (zk _) (fun b o hb e=>oth b o (fun z=>hb (by simp[z])) (hk' b o (fun z=>hb (by simp[z])) (fun z=>hb (by simp[z])) (fun z=>hb (by simp[z])) (fun z=>hb (by simp[z])) e))
    ⟨by show 2<=sizeLine;decide,[u,u'],.cons ru (.cons ru' .nil),⟨_,hT2,rfl,_,rfl⟩⟩
  have s1:au H (upd H s.heap.objs.size (.tup [xs[k],ys[k]])):=aZ hn;refine wpAny_updateSeq kS rfl (yv ⟨plainId_quiet F.plain_extend_loop _,ih (k+1) _ (upd H s.heap.objs.size (.tup [xs[k],ys[k]])) (acc.push (.ref s.heap.objs.size)) _ (us++[.ref s.heap.objs.size]) nofun hlt I2 (fun b hb=>?_) ?_ (s1.Oc q1) (s1.Oc q2) S2 ?_ ?_ ?_⟩)
   (by rw[az];omega) (by show(acc.push _).size<=sizeLine+1;rw[Array.size_push,az];omega)
  ·obtain⟨f0,f1,f2,f3,f4,f5⟩:=hf b hb
   exact⟨by rw[aG (lt b hb)];exact f0,f1,f2,f3,f4,f5⟩
  ·exact S1.at (B:=S) oth ⟨_,S2⟩ nS
  ·rw[Array.toList_push]
   exact Vals.append rv (.cons rfl .nil)
  ·refine⟨by rw[zg,pr.1];rfl,fun j x y hj hx hy=>?_⟩
   rcases Nat.lt_or_ge j k with z' | z'
   ·obtain⟨q,e1,e2⟩:=pr.2 j x y z' hx hy
    exact⟨q,by rw[List.getElem?_append_left (by rw[pr.1];exact z')];exact e1,s1 _ _ e2⟩
   ·have e:j=k:=nofun
    subst e;rw[zb hlt] at hx;rw[zb (show j<ys.length by omega)] at hy;cases hx;cases hy;exact⟨s.heap.objs.size,by rw[zZ (by rw[pr.1];exact zk _),pr.1,Nat.sub_self];rfl,aF⟩
  ·exact fun s' H' us' acc' c' I' f' sm l' v' p'=>hR s' H' us' acc' c' I' f' (s1.trans sm) l' v' p'
theorem Bl {A:Around} {E:Value->Shared->Prop} {s:Shared} {H:Hp} {Q:Value->Shared->Prop} {t1 t2:Bool} {a b z TI TO i1 i2:Addr} {xs ys:List V} (hh:A.handled=none) (D:Kn z TI TO i1 i2) (L1:AD a z TO i1 i2) (L2:AD b z TO i1 i2) (hl:xs.length=ys.length) (hz:xs.length<=sizeLine)
  (I:Inv X pins σ H s) (hf:∀b∈[z,TI,TO,i1,i2],qP X pins H b) (Z0:MS t1 t2 s.heap z TI TO i1 i2 a b 0 .none) (q1:Bx t1 X.K H a xs) (q2:Bx t2 X.K H b ys)
  (hQ:∀(s':Shared) (H':Hp) (us':List V) (l:Addr),Inv X pins σ H' s'->H l=none->au H H'->H' l=some (.lst us')->Pairs H' xs ys us' xs.length->Q (.ref l) s') :
  wpAny (model X.prog X.w) A (call (.type "list") [.ref z]) Q E s:=by
 have S0:Km t1 t2 s.heap z TI TO i1 i2 a b 0:=.inl ⟨rfl,Z0⟩;have nS:s.heap.objs.size∉[z,TI,TO,i1,i2]:=fun hb=>by
  obtain⟨o,ho⟩:=S0.obj _ hb;exact absurd (yx ho) (ye _)
 refine callType_codes (Q₁:=fun obj s₁=>obj=.ref s.heap.objs.size/\s₁={s with heap:=s.heap.push {cls:=.type "list",data:=.seq #[]}}) F.called_list (F.typeCall_list_1 _) F.entry_list_init
  (code_list_new _ ⟨rfl,rfl⟩) fun obj s₁ h₁=>?_
 obtain⟨rfl,rfl⟩:=h₁;have hS:(s.heap.push {cls:=.type "list",data:=.seq #[]}).get? s.heap.objs.size=some {cls:=.type "list",data:=.seq #[]}:=yw _ rfl;refine⟨⟨_,hS,rfl⟩,F.args_list_init_2 _ _,?_⟩;have kp:∀b o,s.heap.get? b=some o->(s.heap.push {cls:=.type "list",data:=.seq #[]}).get? b=some o:=fun b o e=>yu _ e;have fS:qP X pins H s.heap.objs.size:=I.vX (zk _) (I.bZ.fresh (zk _));have hf6:∀b∈[z,TI,TO,i1,i2,s.heap.objs.size],qP X pins H b:=fun b hb=>by
  rcases zF.mp (show b∈[z,TI,TO,i1,i2]++[s.heap.objs.size] from hb) with z' | z'
  ·exact hf b z'
  ·rw[zy.mp z'];exact fS
 have S1:Km t1 t2 (s.heap.push {cls:=.type "list",data:=.seq #[]}) z TI TO i1 i2 a b 0:=S0.at (B:=s.heap.objs.size) (fun c o _ e=>kp c o e) ⟨_,hS⟩ nS;have I1:Inv X pins σ H {s with heap:=s.heap.push {cls:=.type "list",data:=.seq #[]}}:=I.kept (t':=s.toks) kp;have zz:IsZip (s.heap.push {cls:=.type "list",data:=.seq #[]}) z TI TO .none:=kp _ _ Z0.z;generalize hS0:s.heap.objs.size=S at hS nS fS hf6 ⊢;have s0S:X.s₀.heap.objs.size<=S:=by rw[<-hS0];exact I.sz
 have lo:s.heap.objs.size<=S:=Nat.le_of_eq hS0;clear kp;generalize (s.heap.push {cls:=.type "list",data:=.seq #[]}:Heap)=h1 at hS S1 I1 zz;show wpAny _ A.in1.in1 (do let old <-Builtin.List.listItems (.ref S);Builtin.List.listUpdate (.ref S) (fun _=>#[]);letGo old.toList.reverse;Builtin.List.listExtendWith (.ref S) (.ref z) .none) _ _ _;refine yt ?_;unfold Builtin.List.listItems;refine yt (wpAny_seqItems hS rfl (yv ?_));show wpAny _ A.in1.in1 (updateSeq S (fun _=>#[]) >>= fun _=>letGo (#[]:Array Value).toList.reverse >>= fun _=>Builtin.List.listExtendWith (.ref S) (.ref z) .none) _ _ _;refine yt (wpAny_updateSeq hS rfl ?_);have hS2:=yz (Obj.mapSeq (fun _=>(#[]:Array Value))) hS rfl;have oth:∀b o,b≠S->h1.get? b=some o->(h1.update S (Obj.mapSeq (fun _=>(#[]:Array Value)))).get? b=some o:=
  fun b o hb e=>(yy _ _ (Ne.symm hb)).trans e
 refine yt (wpAny_letGo ?_);have hSI:S≠z:=fun e=>nS (by rw[e];simp);replace zz:=oth _ _ hSI.symm zz;have S2:=S1.at (B:=S) oth ⟨_,hS2⟩ nS;have I2:=I1.turns (t':=s.toks) (ch:=[S]) (fun b hb=>by rw[zy.mp hb];exact fS) (fun b o hb e=>oth b o (fun z=>hb (by simp[z])) e);clear oth S1 I1 hS;generalize (h1.update S (Obj.mapSeq (fun _=>(#[]:Array Value))):Heap)=h2 at hS2 S2 I2 zz;dsimp only at I2 ⊢;unfold Builtin.List.listExtendWith;have hT:Shared.TypeIs {s with heap:=h2,toks:=s.toks} (.ref z) "zip":=S2.type (s:={s with heap:=h2,toks:=s.toks});refine yt (wpAny_typeOf hT ?_);have e1:Builtin.List.listSameRef (.ref S) (.ref z)=false:=by simp[Builtin.List.listSameRef,hSI]
 have e2:(Value.type "zip"== Value.type "list")=false:=by decide
 have e3:(Value.type "zip"== Value.type "tuple")=false:=by decide
 simp only[e1,e2,e3,Bool.or_false,Bool.false_eq_true,if_false];refine yt (wpAny_pyIter_zip (s:={s with heap:=h2,toks:=s.toks}) zz ?_);refine yt (wpAny_holding ?_);unfold Builtin.List.listLengthHint;refine yt (wpAny_specialOf hT Gy ?_);show wpAny _ A.in1.in1 (specialOf (Value.ref z) (Str.ofString "__length_hint__") >>= _) _ _ _;refine yt (wpAny_specialOf hT El ?_);refine yv ?_;show wpAny _ A.in1.in1 (rule "list.extend.makes-room" >>= fun _=>Builtin.List.listTouch (.ref S) >>= fun _=>
  again (.builtin "list.extend.loop" ⟨[.ref S,.ref z,.none],[]⟩)) _ _ _
 refine yt (wpAny_rule ?_);refine yt ?_;show wpAny _ A.in1.in1 (updateSeq S (·.push .none) >>= fun _=>updateSeq S (·.pop)) _ _ _;refine yt (wpAny_updateSeq hS2 rfl ?_);have hS3:=yz (Obj.mapSeq (·.push Value.none)) hS2 rfl;refine wpAny_updateSeq (hz:=by seq_fits) hS3 rfl ?_;have hS4:=yz (Obj.mapSeq (·.pop)) hS3 rfl;have oth:∀b o,b≠S->h2.get? b=some o->((h2.update S (Obj.mapSeq (·.push Value.none))).update S (Obj.mapSeq (·.pop))).get? b=some o:=
  fun b o hb e=>(yy _ _ (Ne.symm hb)).trans ((yy _ _ (Ne.symm hb)).trans e)
 have S4:=S2.at (B:=S) oth ⟨_,hS4⟩ nS;have I4:=I2.turns (t':=s.toks) (ch:=[S]) (fun b hb=>by rw[zy.mp hb];exact fS) (fun b o hb e=>oth b o (fun z=>hb (by simp[z])) e);refine yv ⟨plainId_quiet F.plain_extend_loop _,KJ (X:=X) (pins:=pins) (σ:=σ) (A:=A.in1) hh D L1 L2 hl hz nS xs.length 0 _ H _ _ [] rfl (yf _) I4 hf6 S4 q1 q2 hS4 .nil ⟨rfl,fun j x y hj=>nofun⟩ fun s' H' us' acc' c' I' f' sm l' v' p'=>?_⟩;refine⟨rfl,?_⟩;obtain⟨f0,f1,f2,f3,f4,f5⟩:=f';have I5:Inv X pins σ (upd H' S (.lst us')) s':=I'.Qr f0 (by
  cases q:X.s₀.heap.get? S with
  | none=>rfl
  | some o=>exact absurd (yx q) (Nat.not_lt.mpr s0S)) f1 f4 f5 ⟨by rw[p'.1];exact hz,acc'.toList,c',v',l'⟩
 refine hQ s' _ us' S I5 fS.1 (sm.trans (aZ f0)) aF ⟨p'.1,fun j x y hj hx hy=>?_⟩;obtain⟨q,e1,e2⟩:=p'.2 j x y hj hx hy;exact⟨q,e1,aZ f0 _ _ e2⟩
def OV (K:yA) (ta:TA):TE:=fun σ H Q=>ta σ H fun vs H1=>∃t1 t2 a b xs ys,vs=[.ref a,.ref b]/\Bx t1 K H1 a xs/\Bx t2 K H1 b ys/\xs.length=ys.length/\∀l H2 us,au H1 H2->H1 l=none->H2 l=some (.lst us)->Pairs H2 xs ys us xs.length->Q (.ref l) H2
theorem LJ (hc:X.calm=true) (hg0:Gl X "list") (hm0:X.mg "list"= none) (hg:Gl X "zip") (hm:X.mg "zip"= none) (ha:PA X [a,b] ta)
  (hs:autoParam (starEach [a,b] X.env=[(false,eval a X.env),(false,eval b X.env)]) qe_) (hs2:autoParam (starEach [b] X.env=[(false,eval b X.env)]) qe_)
  (hs1:autoParam (starEach [.Call (.Name "zip" p2) [a,b] [] pos2] X.env=[(false,eval (.Call (.Name "zip" p2) [a,b] [] pos2) X.env)]) qe_) :
  PE X (.Call (.Name "list" p1) [.Call (.Name "zip" p2) [a,b] [] pos2] [] pos1) (OV X.K ta):=by
 intro pins s σ H Q I h;refine wpAny_Call_Name_kw (jn I hg0 hm0 (by decide +kernel:bootBuiltins "list"= some (.type "list")) ?_ (by decide) (by decide));refine PyProof.Rows.callWith_type1 (Q:=_) ?_ hs1 rfl;rw[hs1];refine Calls.spliced_cons ?_;refine Call_ (jn I hg hm Mz (PyProof.Rows.callWith_type1 (cS (ha pos2 pins s σ H _ I h) fun us s1 ⟨vs,H1,I1,r1,q1⟩=>?_) (by rw[hs,hs2]) (by rw[hs2];rfl)));obtain⟨t1,t2,a,b,xs,ys,e,hq,hq',hl,q⟩:=q1;subst e;cases r1 with
 | cons r rr=>
  cases rr with
  | cons r' rr=>
   cases rr;cases r;cases r';obtain⟨its,rv,pl,hz⟩:=I1.sq hq;obtain⟨jts,rv',pl',hz'⟩:=I1.sq hq';have la:=pl.lt;have lb:=pl'.lt;refine En pl pl' fun g S hk=>?_;refine Calls.spliced_nil ?_;have I2:Inv X pins σ H1 {s1 with heap:=g}:=I1.kept (t':=s1.toks) hk;have D:Kn (s1.heap.objs.size+4) (s1.heap.objs.size+2) (s1.heap.objs.size+3) s1.heap.objs.size (s1.heap.objs.size+1):=by
    constructor <;> (show _≠(_:Nat)) <;> omega
   have L:∀c,c<s1.heap.objs.size->AD c (s1.heap.objs.size+4) (s1.heap.objs.size+3) s1.heap.objs.size (s1.heap.objs.size+1):=fun c hc=>by
    constructor <;> (show _≠(_:Nat)) <;> omega
   refine Bl (I2.ok.hd hc) D (L a la) (L b lb) hl hz I2 (fun c hc=>?_) S hq hq' fun s' H' us' l I' hn sm e pr=>⟨.ref l,H',I',rfl,q l H' us' sm hn e pr⟩
   have hb':s1.heap.objs.size<=c:=by
    simp only[zC,zD,or_false] at hc;rcases hc with e | e | e | e | e <;> (subst e;first | exact Nat.le_add_right _ _ | exact zk _)
   exact I1.vX hb' (I1.bZ.fresh hb')
end
end L2
namespace Sc
open PySem L2 Lm
noncomputable def mixed (c k:Int):Int:=(c%2305843009213693951+1)*(k*k+48271)*40692%2147483399
theorem dn (h0:0<=i) (h1:i<2^n):Sz n i:=by
 unfold Sz;have e:((2^n:Nat):Int)=(2:Int)^n:=by simp
 rw[<-e] at h1;omega
theorem PU (h1:48<=c) (h2:c<=57):c∈("0123456789": Str).cps.toList:=by
 have:c=48\/c=49\/c=50\/c=51\/c=52\/c=53\/c=54\/c=55\/c=56\/c=57:=nofun
 rcases this with rfl | rfl | rfl | rfl | rfl | rfl | rfl | rfl | rfl | rfl <;> decide
noncomputable def iI (x:Int×Int):Str:=if x.2=1 then dec x.1 else dec x.1 ++"/" ++ dec x.2
abbrev Item:=Option (Int×Int)×(Int×Int)
noncomputable def qE:Item->Str
 | (none,x)=> "r:" ++ iI x
 | (some q,x)=>dec q.1 ++":" ++ dec q.2 ++":" ++ iI x
def MT (x:Int×Int):Prop:=Rd x/\0<x.1/\x.1<10000/\x.2<10000
def MI (q:Int×Int):Prop:=-100<q.1/\q.1<100/\-100<q.2/\q.2<100/\(q.2-7*q.1)%12=0
def Ks (it:Item):Prop:=MT it.2/\∀q,it.1=some q->MI q
theorem gc (h1:c≠45) (h2:¬(48<=c/\c<=57)):c∉(dec n).cps.toList:=by
 intro z
 by_cases h0:0<=n
 ·obtain⟨m,rfl⟩:=Int.eq_ofNat_of_zero_le h0
  exact h2 (kP z)
 ·obtain⟨m,em⟩:∃m:Nat,-n=(m:Int):=⟨(-n).toNat,nofun⟩
  rw[wN nofun,em,cD] at z;rcases zF.mp z with z | z
  ·have e:("-": Str).cps.toList=[45]:=rfl
   rw[e] at z;exact h1 (zy.mp z)
  ·exact h2 (kP z)
theorem BU (h:MT x):58∉(iI x).cps.toList:=by
 unfold iI;split
 ·exact gc (by decide) (by decide)
 ·rw[cD,cD]
  intro z;rcases zF.mp z with z | z
  ·rcases zF.mp z with z | z
   ·exact gc (by decide) (by decide) z
   ·have e:("/": Str).cps.toList=[47]:=rfl
    rw[e] at z;exact absurd (zy.mp z) (by decide)
  ·exact gc (by decide) (by decide) z
theorem FU (h0:0<=n) (h:n<10000):(dec n).length<=4:=by
 obtain⟨m,rfl⟩:=Int.eq_ofNat_of_zero_le h0;exact B9 (by decide) nofun
abbrev lZ (x:Int×Int):HO:=.tup [.int x.1,.int x.2]
inductive Ib (H:Hp):V->Option (Int×Int)->Prop where
 | bE:Ib H .bE none
 | ref {b:Addr} {q:Int×Int}:H b=some (lZ q)->Ib H (.ref b) (some q)
theorem Ib.mono (s:au H H') (h:Ib H v o):Ib H' v o:=by
 cases h with
 | bE=>exact .bE
 | ref h=>exact .ref (s _ _ h)
def SG (H:Hp) (v:V) (it:Item):Prop:=∃p pv a,v=.ref p/\H p=some (.tup [pv,.ref a])/\H a=some (lZ it.2)/\Ib H pv it.1
noncomputable def vY:List Nat:=("0123456789": Str).cps.toList
noncomputable def rn (most:Int) (cs:List Nat):Option Int:=
 if(cs.length:Int)<1 then none else if most<cs.length then none else if cs.all (fun c=>decide (c∈vY))=true then(if cs[0]?=some 48/\1<cs.length then none else some ((NumText.digitsVal cs:Nat):Int)) else none
noncomputable def ov:Option Int->V
 | none=>.bE
 | some n=>.int n
noncomputable def rs (most:Int) (t:Str):Option Int:=if t.cps.toList[0]?=some 45 then(match rn most (t.cps.toList.drop 1) with | some n=>if n=0 then none else some (-n) | none=>none) else rn most t.cps.toList
noncomputable def rp (a b:Str):Option (Int×Int):=match rs 2 a,rs 2 b with
 | some f,some h=>if(h-7*f)%12=0 then some (f,h) else none
 | _,_=>none
noncomputable def MQ (t:Str):Option (Int×Int):=match Txt.split t "/" with
 | [a]=>(match rn 4 a.cps.toList with | some n=>some (red n 1) | none=>none)
 | [a,b]=>(match rn 4 a.cps.toList,rn 4 b.cps.toList with | some n,some m=>if m=0 then none else some (red n m) | _,_=>none)
 | _=>none
noncomputable def lr (t:Str):Option (Int×Int):=match MQ t with
 | some x=>if x.1=0 then none else some x
 | none=>none
noncomputable def ir (t:Str):Option Item:=match lr ((Txt.split t ":").getLast?.getD "") with
 | none=>none
 | some x=>if(Txt.split t ":").dropLast=[("r": Str)] then some (none,x) else match (Txt.split t ":").dropLast with
  | [a,b]=>(match rp a b with | some q=>some (some q,x) | none=>none)
  | _=>none
def N5 (H:Hp) (v:V):Option Item->Prop
 | none=>v=.bE
 | some it=>SG H v it
theorem FK (h:c∈vY):48<=c/\c<=57:=by
 have e:vY=[48,49,50,51,52,53,54,55,56,57]:=rfl;rw[e] at h;simp at h;omega
theorem Lk (h:rn most cs=some n) (hm:most<=4):0<=n/\n<10000/\(cs.all (fun c=>decide (c∈vY))=true):=by
 unfold rn at h;split at h
 ·cases h
 ·split at h
  ·cases h
  ·split at h
   ·rename_i h1 h2 h3
    split at h
    ·cases h
    ·cases h
     refine⟨Int.natCast_nonneg _,?_,h3⟩;have hl:cs.length<=4:=nofun
     have key:∀(l:List Nat) (a:Nat),l.all (fun c=>decide (c∈vY))=true->l.foldl (fun acc c=>acc*10+(c-48)) a<(a+1)*10^l.length:=by
      intro l
      induction l with
      | nil=>intro a _;simp
      | cons c l ih=>
       intro a ha;rw[List.all_cons,zN] at ha;have i3:=FK (yd ha.1);have i1:=ih (a*10+(c-48)) ha.2;have i2:(a*10+(c-48)+1)*10^l.length<=((a+1)*10)*10^l.length:=Nat.mul_le_mul_right _ nofun;rw[List.foldl_cons,zt,Nat.pow_succ,Nat.mul_comm (10^l.length) 10,<-Nat.mul_assoc];exact yb i1 i2
     have k1:NumText.digitsVal cs<10^cs.length:=by have:=key cs 0 h3;rw[Nat.zero_add,Nat.one_mul] at this;exact this
     have k2:10^cs.length<=10^4:=Nat.pow_le_pow_right (by decide) hl;omega
   ·cases h
theorem HN (h:cs.all (fun c=>decide (c∈vY))=true):NumText.AllDigits cs:=fun c hc=>by
 have:=(yo.mp h) c hc;exact FK (yd this)
def jE:Sp:=fun vs H Q _=>∃(a b:Int),vs=[.int a,.int b]/\0<=a/\0<=b/\Q (.int (Int.gcd a b:Nat)) H
def fT:Sp:=fun vs H Q _=>∃(t b:Int),vs=[.int t,.int b]/\0<=t/\0<b/\Sz 8999 b/\∀p H',au H H'->H' p=some (lZ (red t b))->Q (.ref p) H'
def Lb:Sp:=fun vs H Q _=>∃(x y:Int×Int) (p q:Addr) (n m:Nat),vs=[.ref p,.ref q]/\H p=some (lZ x)/\H q=some (lZ y)/\Rd x/\Rd y/\AF n x/\AF m y/\n+m<=8999/\∀r H',au H H'->H' r=some (lZ (add x y))->Q (.ref r) H'
def GK:Sp:=fun vs H Q _=>∃(x y:Int×Int) (p q:Addr),vs=[.ref p,.ref q]/\H p=some (lZ x)/\H q=some (lZ y)/\AF 8999 x/\AF 8999 y/\Q (.bl (decide (x.1*y.2<y.1*x.2))) H
def AN:Sp:=fun vs H Q _=>∃(c k:Int),vs=[.int c,.int k]/\0<=k/\k<1000000/\Q (.int (mixed c k)) H
abbrev xm:Sp:=fT
def g9:Sp:=fun vs H Q _=>∃(t:Str) (most:Int),vs=[.str t,.int most]/\t.length<=600/\∀H',au H H'->Q (ov (rn most t.cps.toList)) H'
def l8:Sp:=fun vs H Q _=>∃(t:Str) (most:Int),vs=[.str t,.int most]/\t.length<=600/\∀H',au H H'->Q (ov (rs most t)) H'
def m8:Sp:=fun vs H Q _=>∃(a b:Str),vs=[.str a,.str b]/\a.length<=600/\b.length<=600/\∀v H',au H H'->Ib H' v (rp a b)->Q v H'
def l6 (C:Addr):Sp:=fun vs H Q E=>∃(t:Str),vs=[.str t]/\t.length<=600/\(∀x,MQ t=some x->∀p H',au H H'->H' p=some (lZ x)->Q (.ref p) H')/\(MQ t=none->∀H',au H H'->E (.ref C) none H')
def gS:Sp:=fun vs H Q _=>∃(t:Str),vs=[.str t]/\t.length<=600/\∀v H',au H H'->Ib H' v (lr t)->Q v H'
def oZ:Sp:=fun vs H Q _=>∃(t:Str),vs=[.str t]/\t.length<=600/\∀v H',au H H'->N5 H' v (ir t)->Q v H'
noncomputable def dL (x:Int×Int):Dt:=.tup [.int x.1,.int x.2]
noncomputable def dO (f:α->Dt):Option α->Dt
 | none=>.bE
 | some x=>f x
noncomputable def eV (it:Item):Dt:=.tup [dO dL it.1,dL it.2]
noncomputable def vj (l:List Int):Dt:=.tup (l.map .int)
noncomputable def mO (l:List Str):Dt:=.tup (l.map .str)
abbrev End:=Int×List Int
noncomputable def mT (e:End):Dt:=.tup [.int e.1,vj e.2]
structure Rep where
 first:Int
 last:Int
 times:Int
 ends:List End
noncomputable def jD (r:Rep):Dt:=.tup [.int r.first,.int r.last,.int r.times,.tup (r.ends.map mT)]
structure KA where
 aT:Int×Int
 key:Int
 marks:List Str
noncomputable def kQ (b:KA):Dt:=.tup [dL b.aT,.int b.key,mO b.marks]
structure Jump where
 wJ:Int
 AE:Int
 dy:Int
 gD:Option Int
noncomputable def jt (j:Jump):Dt:=.tup [.int j.wJ,.int j.AE,.int j.dy,dO .int j.gD]
noncomputable def words (t:Str):List Str:=(Txt.split t " ").filter fun w=>decide (w≠ "")
noncomputable def sgn:List Nat:=("abcdefghijklmnopqrstuvwxyz0123456789": Str).cps.toList
noncomputable def cH (t:Str):Option Str:=if(t.length:Int)<1 then none else if(12:Int)<t.length then none else if t.cps.toList.all (fun c=>decide (c∈sgn))=true then some t else none
noncomputable def os:Option Str->V
 | none=>.bE
 | some x=>.str x
noncomputable def fI (t:Str):Option Int:=rn 3 t.cps.toList
noncomputable def mC (t:Str) (lo hi:Int):Option Int:=match fI t with
 | some n=>if n<lo then none else if hi<n then none else some n
 | none=>none
noncomputable def xJ (a b:Str):Option (Int×Int):=match rp a b with
 | some q=>if 12<(if q.1<0 then -q.1 else q.1) then none else some q
 | none=>none
noncomputable def Bp:List Int:=[1,2,4,8,16,32]
noncomputable def jf (t:Str):Option (Int×Int):=match Txt.split t "/" with
 | [a,b]=>(match mC a 1 32,fI b with | some m,some n=>if n∈Bp then some (m,n) else none | _,_=>none)
 | _=>none
noncomputable def ES (t:Str):Option Int:=match rs 3 t with
 | some k=>if 7<(if k<0 then -k else k) then none else some k
 | none=>none
noncomputable def oq:List (Option α)->Option (List α)
 | []=>some []
 | none::_=>none
 | some x::r=>match oq r with
  | some l=>some (x::l)
  | none=>none
noncomputable def xK (t:Str):Option End:=match Txt.split t ":" with
 | [a,b]=>(match fI a,oq ((Txt.split b ",").map fI) with | some n,some ps=>some (n,ps) | _,_=>none)
 | _=>none
noncomputable def lE:List Str->Option (Str×(Int×Int)×(Int×Int))
 | [a,b,c,d]=>(match cH a,xJ b c,MQ d with | some n,some t,some l=>some (n,t,l) | _,_,_=>none)
 | _=>none
noncomputable def qt (ws:List Str):Option (Str×List Str):=match ws with
 | a::b::r=>(match oq ((a::b::r).map cH) with | some (n::ps)=>some (n,ps) | _=>none)
 | _=>none
noncomputable def AY:List Str->Option KA
 | m::k::ms=>(match oq (ms.map cH) with | some l=>(match jf m,ES k with | some x,some y=>some ⟨x,y,l⟩ | _,_=>none) | none=>none)
 | _=>none
noncomputable def rQ:List Str->Option (Str×Int×Str)
 | [a,b,c]=>(match cH a,fI b,cH c with | some x,some y,some z=>some (x,y,z) | _,_,_=>none)
 | _=>none
noncomputable def kc:List Str->Option (Int×Str×List Item)
 | b::p::i::r=>(match oq ((i::r).map ir) with | some l=>if l.all (fun it=>it.1.isNone)=true then none else(match fI b,cH p with | some x,some y=>some (x,y,l) | _,_=>none) | none=>none)
 | _=>none
noncomputable def jQ:List Str->Option Rep
 | a::b::c::r=>(match oq (r.map xK) with | some l=>(match fI a,fI b,mC c 2 9 with | some x,some y,some z=>some ⟨x,y,z,l⟩ | _,_,_=>none) | none=>none)
 | _=>none
noncomputable def u7:List Str->Option Jump
 | [a,b,c,d]=>(match fI a,fI b,fI c with | some x,some y,some z=>(match fI d with | some n=>some ⟨x,y,z,some n⟩ | none=>if d ="end" then some ⟨x,y,z,none⟩ else none) | _,_,_=>none)
 | _=>none
noncomputable def one (f:Str->Option α):List Str->Option α
 | [w]=>f w
 | _=>none
inductive Told where
 | bG (n:Str)
 | cI (n:Str) (t l:Int×Int)
 | cm (n:Str) (ps:List Str)
 | bar (b:KA)
 | aH (l:Int×Int)
 | holds (p:Str) (b:Int) (i:Str)
 | aJ (b:Int) (p:Str) (its:List Item)
 | rep (r:Rep)
 | cb (j:Jump)
noncomputable def oA:List Str->Option Told
 | []=>none
 | w::r=>
  if w ="player" then(one cH r).map .bG
  else if w ="instrument" then(lE r).map fun x=>.cI x.1 x.2.1 x.2.2
  else if w ="staff" then(qt r).map fun x=>.cm x.1 x.2
  else if w ="bar" then(AY r).map .bar
  else if w ="upbeat" then(one lr r).map .aH
  else if w ="holds" then(rQ r).map fun x=>.holds x.1 x.2.1 x.2.2
  else if w ="notes" then(kc r).map fun x=>.aJ x.1 x.2.1 x.2.2
  else if w ="repeat" then(jQ r).map .rep
  else if w ="jump" then(u7 r).map .cb
  else none
noncomputable def jr (r:Rep):List (Int×Int×List Int):=(r.ends.zip ((r.ends.drop 1).map (·.1)++[r.last+1])).map fun p=>(p.1.1,p.2-1,p.1.2)
noncomputable def sortI (l:List Int):List Int:=l.mergeSort
noncomputable def f9:List End->Int->List Int->Option (Int×List Int)
 | [],a,ps=>some (a,ps)
 | e::r,a,ps=>if e.1<=a then none else if e.2≠sortI e.2 then none else f9 r e.1 (ps++e.2)
noncomputable def JA (lo:Int) (n:Nat):List Int:=(List.range n).map fun i=>lo+(i:Nat)
noncomputable def gb (r:Rep):Bool:=match r.ends with
 | []=>true
 | _=>(match f9 r.ends (r.first-1) [] with | none=>false | some (a,ps)=>decide (a<=r.last)&&decide (sortI ps=JA 1 (r.times+1-1).toNat))
noncomputable def lA (rs:List Rep) (r:Rep):Bool:=match rs.getLast? with
 | some q=>if r.first<=q.last then false else decide (r.first<=r.last)&&gb r
 | none=>decide (r.first<=r.last)&&gb r
noncomputable def dP (rs:List Rep) (b:Int):Option Rep:=rs.find? fun r=>decide (r.first<=b)&&decide (b<=r.last)
noncomputable def gW (rs:List Rep) (b:Int):Bool:=match dP rs b with
 | none=>true
 | some r=>decide (b=r.last)
noncomputable def eC (rs:List Rep) (b:Int):Bool:=match dP rs b with
 | none=>true
 | some r=>decide (b=r.first)
noncomputable def lM (rs:List Rep) (b:Int):Bool:=rs.all fun r=>(jr r).all fun e=>!(decide (e.1<=b)&&decide (b<=e.2.1)&&!decide (r.times∈e.2.2))
noncomputable def gY (rs:List Rep) (j:Jump):Bool:=
 if j.dy<j.AE then false else if j.wJ<j.dy then false else
 match j.gD with
 | some c=>(decide (j.wJ<c)&&eC rs c&&lM rs c)&&(gW rs j.wJ&&eC rs j.AE&&lM rs j.dy)
 | none=>gW rs j.wJ&&eC rs j.AE&&lM rs j.dy
structure cJ where
 players:List Str:=[]
 ak:List (Str×(Int×Int)×(Int×Int)):=[]
 aK:List (Str×List Str):=[]
 aP:List KA:=[]
 aH:Option (Int×Int):=none
 holds:List (Str×List (Int×Str)):=[]
 aJ:List ((Int×Str)×List Item):=[]
 repeats:List Rep:=[]
 cb:Option Jump:=none
noncomputable def cJ.aT (S:cJ) (b:Nat):Int×Int:=match S.aP[b]? with
 | some x=>red x.aT.1 x.aT.2
 | none=>(0,1)
noncomputable def cJ.len (S:cJ) (b:Nat):Int×Int:=match S.aH with
 | some u=>if b=0 then u else S.aT b
 | none=>S.aT b
noncomputable def j7 (l:List Item):Int×Int:=l.foldl (fun t it=>add t it.2) (0,1)
noncomputable def cJ.has (S:cJ) (bs:List Int):Bool:=bs.all fun b=>decide (b<S.aP.length)
noncomputable def fault (S:cJ):Told->Option Str
 | .bG n=>if n∈S.players then some "twice" else if 12<=S.players.length then some "many" else none
 | .cI n _ _=>if n∈S.ak.map (·.1) then some "twice" else if 12<=S.ak.length then some "many" else none
 | .cm n ps=>if n∈S.aK.map (·.1) then some "twice" else if¬ps.Nodup then some "twice" else if S.aK.any (fun q=>ps.any fun p=>decide (p∈q.2))=true then some "twice" else if ps.any (fun p=>!decide (p∈S.players))=true then some "name" else none
 | .bar _=>if 200<=S.aP.length then some "many" else none
 | .aH l=>if S.aH.isSome=true then some "twice" else if S.aP.length=0 then some "bar" else if¬l.1*(S.aT 0).2<(S.aT 0).1*l.2 then some "length" else if S.aJ.any (fun p=>decide (p.1.1=0))=true then some "length" else none
 | .holds p b i=>
  let hs:=(S.holds.lookup p).getD []
  if(match hs.getLast? with | some q=>decide (b<=q.1) | none=>false)=true then some "twice" else if p∉S.players then some "name" else if i∉S.ak.map (·.1) then some "name" else if¬S.has [b]=true then some "bar" else if 20<=hs.length then some "many" else none
 | .aJ b p its=>if(b,p)∈S.aJ.map (·.1) then some "twice" else if p∉S.players then some "name" else if¬S.has [b]=true then some "bar" else if j7 its≠S.len b.toNat then some "length" else if 40<its.length then some "many" else none
 | .rep r=>if¬S.has ([r.first,r.last]++r.ends.map (·.1))=true then some "bar" else if S.cb.isSome=true then some "form" else if¬lA S.repeats r=true then some "form" else if 20<=S.repeats.length then some "many" else none
 | .cb j=>if S.cb.isSome=true then some "twice" else if¬S.has ([j.wJ,j.AE,j.dy]++j.gD.toList)=true then some "bar" else if¬gY S.repeats j=true then some "form" else none
noncomputable def fe (hs:List (Str×List (Int×Str))) (p:Str) (h:Int×Str):List (Str×List (Int×Str)):=
 if p∈hs.map (·.1) then hs.map fun q=>if q.1=p then(q.1,q.2++[h]) else q else hs++[(p,[h])]
noncomputable def bJ (S:cJ):Told->cJ
 | .bG n=>{S with players:=S.players++[n]}
 | .cI n t l=>{S with ak:=S.ak++[(n,t,l)]}
 | .cm n ps=>{S with aK:=S.aK++[(n,ps)]}
 | .bar b=>{S with aP:=S.aP++[b]}
 | .aH l=>{S with aH:=some l}
 | .holds p b i=>{S with holds:=fe S.holds p (b,i)}
 | .aJ b p its=>{S with aJ:=S.aJ++[((b,p),its)]}
 | .rep r=>{S with repeats:=S.repeats++[r]}
 | .cb j=>{S with cb:=some j}
theorem cT (h:Is H d v):∀{ds:List Dt} {vs:List V},L2.IsL H ds vs->L2.IsL H (ds++[d]) (vs++[v])
 | [],_,q=>by unfold L2.IsL at q;subst q;show L2.IsL H [d] [v];unfold L2.IsL;exact⟨v,[],rfl,h,by unfold L2.IsL;rfl⟩
 | c::ds,_,q=>by
  unfold L2.IsL at q;obtain⟨u,r,rfl,h1,h2⟩:=q;show L2.IsL H (c::(ds++[d])) (u::(r++[v]));unfold L2.IsL;exact⟨u,_,rfl,h1,cT h h2⟩
theorem Fy (h:aL K H p xs) (hi:i<xs.length):(MK K p).go i H:=⟨xs,xs[i],h,zb hi⟩
theorem Hm (h:dB K H p xs) (hi:i<xs.length):(OE K p).go i H:=⟨xs,xs[i],h,zb hi⟩
theorem iV (e:au H H') (h:H a=some (.tup xs)):dB K H' a xs:=dB.of (e _ _ h)
theorem _root_.L2.au.back (s:au H H') (h:H' a=none):H a=none:=by
 cases q:H a with
 | none=>rfl
 | some u=>rw[s _ _ q] at h;cases h
theorem oj {α:Type} {J:It} {ws:List α} {enc:α->V} {σ₀:St} {g:TG} {te:TE} {Q:VK} {H1:Hp} (F:α->Dt) (Pσ:St->Prop) (hn:ws.length<=sizeLine) (h0:Pσ σ₀)
  (go:∀i H,i<ws.length->au H1 H->J.go i H) (stop:∀H,au H1 H->J.stop ws.length H) (yl:∀(i:Nat) x H H2 (hi:i<ws.length),au H1 H->J.Ji i H x H2->H2=H/\x=enc ws[i])
  (turn:∀(a:α) (σ:St) (H:Hp) (R:St->V->Hp->Prop),a∈ws->au H1 H->Pσ σ->(∀σ3 y H5,au H H5->Is H5 (F a) y->Pσ σ3->R σ3 y H5)->g (enc a) σ H fun σ3 H3=>te σ3 H3 fun y H5=>R σ3 y H5)
  (fin:∀D vs H,au H1 H->H1 D=none->H D=some (.lst vs)->L2.IsL H (ws.map F) vs->Q (.ref D) H):dS σ₀ g dt te Q J H1:=by
 refine⟨fun i m xs σ H=>m=ws.length-i/\i<=ws.length/\xs.length=i/\au H1 H/\L2.IsL H ((ws.take i).map F) xs/\Pσ σ,⟨_,rfl,yf _,rfl,au.refl _,by simp[L2.IsL],h0⟩,?_⟩;rintro i m xs σ H ⟨rfl,hi,hx,sm,il,pσ⟩;rcases Nat.lt_or_ge i ws.length with hlt | hge
 ·refine .inr ⟨go i H hlt sm,nofun,?_⟩
  intro x H2 hy;obtain⟨rfl,rfl⟩:=yl i x H H2 hlt sm hy;refine turn ws[i] σ H2 (fun σ3 y H5=>if true=true then∃m',m'<ws.length-i/\(m'=ws.length-(i+1)/\i+1<=ws.length/\(xs++[y]).length=i+1/\au H1 H5/\L2.IsL H5 ((ws.take (i+1)).map F) (xs++[y])/\Pσ σ3) else False) (yk hlt) sm pσ ?_;rintro σ3 y H5 s5 iy p3;rw[if_pos rfl];refine⟨_,nofun,rfl,hlt,by simp[hx],sm.trans s5,?_,p3⟩;rw[List.take_add_one,zb hlt,zj];exact cT iy (il.mono s5)
 ·have e:i=ws.length:=nofun
  subst e;refine .inl ⟨stop H sm,nofun,fun D hD=>?_⟩;have il':L2.IsL H (ws.map F) xs:=by rw[zM] at il;exact il
  exact fin D xs _ (sm.trans (aZ hD)) (sm.back hD) aF (il'.mono (aZ hD))
theorem Ad {α:Type} {J:It} {ws:List α} {enc:α->V} {σ₀:St} {g:TG} {te:TE} {Q:VK} {H1:Hp} (F:α->Dt) (Pσ:St->Prop) (hn:ws.length<=sizeLine) (h0:Pσ σ₀)
  (go:∀i H,i<ws.length->au H1 H->J.go i H) (stop:∀H,au H1 H->J.stop ws.length H) (yl:∀(i:Nat) x H H2 (hi:i<ws.length),au H1 H->J.Ji i H x H2->H2=H/\x=enc ws[i])
  (turn:∀(a:α) (σ:St) (H:Hp) (R:St->V->Hp->Prop),a∈ws->au H1 H->Pσ σ->(∀σ3 y H5,au H H5->Is H5 (F a) y->Pσ σ3->R σ3 y H5)->g (enc a) σ H fun σ3 H3=>te σ3 H3 fun y H5=>R σ3 y H5)
  (fin:∀D vs H,au H1 H->H D=some (.lst vs)->L2.IsL H (ws.map F) vs->Q (.ref D) H):dS σ₀ g dt te Q J H1:=oj F Pσ hn h0 go stop yl turn fun D vs H s _=>fin D vs H s
theorem d8 {K:yA} {α:Type} {p:Addr} {ws:List α} {enc:α->V} {σ₀:St} {g:TG} {te:TE} {Q:VK} {H1:Hp} (F:α->Dt) (Pσ:St->Prop) (hn:ws.length<=sizeLine) (hp:aL K H1 p (ws.map enc)) (h0:Pσ σ₀)
  (turn:∀(a:α) (σ:St) (H:Hp) (R:St->V->Hp->Prop),a∈ws->au H1 H->Pσ σ->(∀σ3 y H5,au H H5->Is H5 (F a) y->Pσ σ3->R σ3 y H5)->g (enc a) σ H fun σ3 H3=>te σ3 H3 fun y H5=>R σ3 y H5)
  (fin:∀D vs H,au H1 H->H1 D=none->H D=some (.lst vs)->L2.IsL H (ws.map F) vs->Q (.ref D) H):dS σ₀ g dt te Q (MK K p) H1:=by
 refine oj F Pσ hn h0 (fun i H hi sm=>Fy (sm.seq hp) (by rw[za];exact hi)) (fun H sm=>⟨_,sm.seq hp,by rw[za];exact zk _⟩) ?_ turn fin;rintro i x H H2 hi sm ⟨rfl,hy⟩;have hx':=hy _ (sm.seq hp);rw[zJ,zb hi] at hx';cases hx';exact⟨rfl,rfl⟩
theorem fM {K:yA} {α:Type} {p:Addr} {ws:List α} {enc:α->V} {σ₀:St} {g:TG} {te:TE} {Q:VK} {H1:Hp} (F:α->Dt) (Pσ:St->Prop) (hn:ws.length<=sizeLine) (hp:aL K H1 p (ws.map enc)) (h0:Pσ σ₀)
  (turn:∀(a:α) (σ:St) (H:Hp) (R:St->V->Hp->Prop),a∈ws->au H1 H->Pσ σ->(∀σ3 y H5,au H H5->Is H5 (F a) y->Pσ σ3->R σ3 y H5)->g (enc a) σ H fun σ3 H3=>te σ3 H3 fun y H5=>R σ3 y H5)
  (fin:∀D vs H,au H1 H->H D=some (.lst vs)->L2.IsL H (ws.map F) vs->Q (.ref D) H):dS σ₀ g dt te Q (MK K p) H1:=by
 refine Ad F Pσ hn h0 (fun i H hi sm=>Fy (sm.seq hp) (by rw[za];exact hi)) (fun H sm=>⟨_,sm.seq hp,by rw[za];exact zk _⟩) ?_ turn fin;rintro i x H H2 hi sm ⟨rfl,hy⟩;have hx':=hy _ (sm.seq hp);rw[zJ,zb hi] at hx';cases hx';exact⟨rfl,rfl⟩
theorem gC {K:yA} {α:Type} {p:Addr} {ws:List α} {enc:α->V} {σ₀:St} {g:TG} {te:TE} {Q:VK} {H1:Hp} (F:α->Dt) (Pσ:St->Prop) (hn:ws.length<=sizeLine) (hp:H1 p=some (.tup (ws.map enc))) (h0:Pσ σ₀)
  (turn:∀(a:α) (σ:St) (H:Hp) (R:St->V->Hp->Prop),a∈ws->au H1 H->Pσ σ->(∀σ3 y H5,au H H5->Is H5 (F a) y->Pσ σ3->R σ3 y H5)->g (enc a) σ H fun σ3 H3=>te σ3 H3 fun y H5=>R σ3 y H5)
  (fin:∀D vs H,au H1 H->H D=some (.lst vs)->L2.IsL H (ws.map F) vs->Q (.ref D) H):dS σ₀ g dt te Q (OE K p) H1:=by
 refine Ad F Pσ hn h0 (fun i H hi sm=>Hm (iV sm hp) (by rw[za];exact hi)) (fun H sm=>⟨_,iV sm hp,by rw[za];exact zk _⟩) ?_ turn fin;rintro i x H H2 hi sm ⟨rfl,hy⟩;have hx':=hy _ (iV sm hp);rw[zJ,zb hi] at hx';cases hx';exact⟨rfl,rfl⟩
noncomputable def gq (v:V):Bool:=decide (v=.bE)
noncomputable def Dt.gq:Dt->Bool
 | .bE=>true
 | _=>false
theorem Ma:∀{d:Dt} {v:V},Is H d v->gq v=Dt.gq d
 | .bE,_,h=>by unfold Is at h;subst h;rfl
 | .bl _,_,h=>by unfold Is at h;subst h;rfl
 | .int _,_,h=>by unfold Is at h;subst h;rfl
 | .str _,_,h=>by unfold Is at h;subst h;rfl
 | .tup _,_,h=>by unfold Is at h;obtain⟨a,vs,rfl,_⟩:=h;rfl
theorem jX:∀{ds:List Dt} {vs:List V},L2.IsL H ds vs->vs.any gq=ds.any Dt.gq
 | [],_,h=>by unfold L2.IsL at h;subst h;rfl
 | d::ds,_,h=>by
  unfold L2.IsL at h;obtain⟨v,r,rfl,h1,h2⟩:=h;rw[List.any_cons,List.any_cons,Ma h1,jX h2]
theorem kg:∀{bs:List Bool} {vs:List V},L2.IsL H (bs.map Dt.bl) vs->vs=bs.map V.bl
 | [],_,h=>by unfold L2.IsL at h;exact h
 | b::bs,_,h=>by
  rw[zh] at h;unfold L2.IsL at h;obtain⟨v,r,rfl,h1,h2⟩:=h;unfold Is at h1;rw[h1,kg h2];rfl
theorem dR:∀{bs:List Str} {vs:List V},L2.IsL H (bs.map Dt.str) vs->vs=bs.map V.str
 | [],_,h=>by unfold L2.IsL at h;exact h
 | b::bs,_,h=>by
  rw[zh] at h;unfold L2.IsL at h;obtain⟨v,r,rfl,h1,h2⟩:=h;unfold Is at h1;rw[h1,dR h2];rfl
theorem fF:∀{bs:List Int} {vs:List V},L2.IsL H (bs.map Dt.int) vs->vs=bs.map V.int
 | [],_,h=>by unfold L2.IsL at h;exact h
 | b::bs,_,h=>by
  rw[zh] at h;unfold L2.IsL at h;obtain⟨v,r,rfl,h1,h2⟩:=h;unfold Is at h1;rw[h1,fF h2];rfl
theorem Cr:∀{bs:List Str},L2.IsL H (bs.map Dt.str) (bs.map V.str)
 | []=>by simp[L2.IsL]
 | b::bs=>by rw[zh,zh];unfold L2.IsL;exact⟨_,_,rfl,by unfold Is;rfl,Cr⟩
theorem sC:∀{bs:List Int},L2.IsL H (bs.map Dt.int) (bs.map V.int)
 | []=>by simp[L2.IsL]
 | b::bs=>by rw[zh,zh];unfold L2.IsL;exact⟨_,_,rfl,by unfold Is;rfl,sC⟩
def Ig (d:α->Dt):Prop:=∀a,Dt.gq (d a)=false
theorem iY {α:Type} {d:α->Dt} (f:Ig d):∀{l:List (Option α)},(l.map (dO d)).any Dt.gq=true->oq l=none
 | [],h=>by cases h
 | none::_,_=>rfl
 | some x::r,h=>by
  rw[zh,List.any_cons] at h;have e:Dt.gq (dO d (some x))=false:=f x;rw[e,Bool.false_or] at h;show(match oq r with | some l=>some (x::l) | none=>none)=none;rw[iY f h]
theorem iX:∀{l:List (Option α)},(l.map (dO d)).any Dt.gq=false->∃xs,oq l=some xs/\l.map (dO d)=xs.map d/\xs.length=l.length
 | [],_=>⟨[],rfl,rfl,rfl⟩
 | none::_,h=>by cases h
 | some x::r,h=>by
  rw[zh,List.any_cons,Bool.or_eq_false_iff] at h;obtain⟨xs,e1,e2,e3⟩:=iX h.2;refine⟨x::xs,?_,?_,by simp[e3]⟩
  ·show(match oq r with | some l=>some (x::l) | none=>none)=_
   rw[e1]
  ·rw[zh,zh,e2];rfl
theorem FH:Ig Dt.str:=fun _=>rfl
theorem Mj:Ig Dt.int:=fun _=>rfl
theorem PR:Ig dL:=fun _=>rfl
theorem Ml:Ig mT:=fun _=>rfl
theorem JX:Ig eV:=fun _=>rfl
theorem yJ (h:Ib H v o):Is H (dO dL o) v:=by
 cases h with
 | bE=>unfold dO Is;rfl
 | ref h=>exact iK h
theorem fj (h:Is H (dO dL o) v):Ib H v o:=by
 cases o with
 | none=>unfold dO Is at h;subst h;exact .bE
 | some q=>
  unfold dO dL Is at h;obtain⟨a,vs,rfl,ha,hl⟩:=h;have e:[Dt.int q.1,Dt.int q.2]=[q.1,q.2].map Dt.int:=rfl;rw[e] at hl;rw[fF hl] at ha;exact .ref ha
theorem yK (o:Option Int):Is H (dO .int o) (ov o):=by cases o <;> (unfold dO Is;rfl)
theorem BY (o:Option Str):Is H (dO .str o) (os o):=by cases o <;> (unfold dO Is;rfl)
theorem QT (h:N5 H v o):Is H (dO eV o) v:=by
 cases o with
 | none=>unfold dO Is;exact h
 | some it=>
  obtain⟨p,pv,a,rfl,h1,h2,h3⟩:=h;unfold dO eV;unfold Is;refine⟨p,_,rfl,h1,?_⟩;unfold L2.IsL;refine⟨_,_,rfl,yJ h3,?_⟩;unfold L2.IsL;exact⟨_,_,rfl,iK h2,by unfold L2.IsL;rfl⟩
def EB:Sp:=fun vs H Q _=>∃(t:Str),vs=[.str t]/\t.length<=1000000/\∀p H',au H H'->H' p=some (.lst ((words t).map V.str))->Q (.ref p) H'
def lh:Sp:=fun vs H Q _=>∃(t:Str),vs=[.str t]/\t.length<=600/\∀H',au H H'->Q (os (cH t)) H'
def j8:Sp:=fun vs H Q _=>∃(t:Str),vs=[.str t]/\t.length<=600/\∀H',au H H'->Q (ov (fI t)) H'
def xk:Sp:=fun vs H Q _=>∃(t:Str) (lo hi:Int),vs=[.str t,.int lo,.int hi]/\t.length<=600/\∀H',au H H'->Q (ov (mC t lo hi)) H'
def Cz:Sp:=fun vs H Q _=>∃(t:Str),vs=[.str t]/\t.length<=600/\∀v H',au H H'->Ib H' v (MQ t)->Q v H'
def Cy:Sp:=fun vs H Q _=>∃(a b:Str),vs=[.str a,.str b]/\a.length<=600/\b.length<=600/\∀v H',au H H'->Ib H' v (xJ a b)->Q v H'
def AK (K:yA):Sp:=fun vs H Q _=>∃(t:Str),vs=[.str t]/\t.length<=600/\∀v H',au H H'->Ib H' v (jf t)->Q v H'
def EE:Sp:=fun vs H Q _=>∃(t:Str),vs=[.str t]/\t.length<=600/\∀H',au H H'->Q (ov (ES t)) H'
def AM (K:yA):Sp:=fun vs H Q _=>∃(a:Addr) (us:List V),vs=[.ref a]/\aL K H a us/\us.length<=1000000/\∀H',au H H'->Q (if us.any gq=true then .bE else .ref a) H'
def AL:Sp:=fun vs H Q _=>∃(a:Addr) (us:List V),vs=[.ref a]/\H a=some (.tup us)/\us.length<=1000000/\∀H',au H H'->Q (if us.any gq=true then .bE else .ref a) H'
def uG:Sp:=fun vs H Q _=>∃(t:Str),vs=[.str t]/\t.length<=600/\∀v H',au H H'->Is H' (dO mT (xK t)) v->Q v H'
def fR (K:yA) (D:Hp->Hp->V->List Str->Prop):Sp:=fun vs H Q _=>∃(p:Addr) (ws:List Str),vs=[.ref p]/\aL K H p (ws.map V.str)/\ws.length<=1000000/\(∀x∈ws,x.length<=600)/\∀v H',au H H'->D H H' v ws->Q v H'
noncomputable def eG (x:Str×(Int×Int)×(Int×Int)):Dt:=.tup [.str x.1,dL x.2.1,dL x.2.2]
noncomputable def gB (x:Str×List Str):Dt:=.tup [.str x.1,mO x.2]
noncomputable def vk (x:Str×Int×Str):Dt:=.tup [.str x.1,.int x.2.1,.str x.2.2]
def Ja (H:Hp) (v:V) (x:Int×Str×List Item):Prop:=∃a q vs,v=.ref a/\H a=some (.tup [.int x.1,.str x.2.1,.ref q])/\H q=some (.lst vs)/\L2.IsL H (x.2.2.map eV) vs
def iU (H0 H:Hp) (v:V) (x:Int×Str×List Item):Prop:=∃a q vs,v=.ref a/\H a=some (.tup [.int x.1,.str x.2.1,.ref q])/\H q=some (.lst vs)/\L2.IsL H (x.2.2.map eV) vs/\H0 q=none
theorem iU.at (h:iU H0 H v x):Ja H v x:=by
 obtain⟨a,q,vs,h1,h2,h3,h4,_⟩:=h;exact⟨a,q,vs,h1,h2,h3,h4⟩
theorem iU.back (s:au H00 H0) (h:iU H0 H v x):iU H00 H v x:=by
 obtain⟨a,q,vs,h1,h2,h3,h4,h5⟩:=h;exact⟨a,q,vs,h1,h2,h3,h4,s.back h5⟩
def pO (d:α->Dt) (f:List Str->Option α) (_ H:Hp) (v:V) (ws:List Str):Prop:=Is H (dO d (f ws)) v
def Q9 (H0 H:Hp) (v:V) (ws:List Str):Prop:=match kc ws with
 | none=>v=.bE
 | some x=>iU H0 H v x
theorem og (h:Is H d v):L2.IsL H [d] [v]:=by unfold L2.IsL;exact⟨_,_,rfl,h,by unfold L2.IsL;rfl⟩
theorem aQ (h:Is H d v) (r:L2.IsL H ds vs):L2.IsL H (d::ds) (v::vs):=by unfold L2.IsL;exact⟨_,_,rfl,h,r⟩
theorem cG:L2.IsL H [] []:=by unfold L2.IsL;rfl
theorem cB (h:H a=some (.tup vs)) (r:L2.IsL H ds vs):Is H (.tup ds) (.ref a):=by unfold Is;exact⟨_,_,rfl,h,r⟩
theorem eT:Is H (.str x) (.str x):=by unfold Is;rfl
theorem cR:Is H (.int x) (.int x):=by unfold Is;rfl
theorem d7:Is H .bE .bE:=by unfold Is;rfl
theorem fL (xs:List V) (k:Nat):kr xs (some (k:Int)) none=xs.drop k:=by
 unfold kr;rw[HT.EN];have e:HT.fo xs.length 0 (some (k:Int))=min k xs.length:=by unfold HT.fo;simp;omega
 rw[e];rcases Nat.le_total k xs.length with h | h
 ·rw[Nat.min_eq_left h]
  exact List.take_of_length_le (by rw[List.length_drop];exact zk _)
 ·rw[Nat.min_eq_right h,List.drop_eq_nil_of_le (zk _),List.drop_eq_nil_of_le h,List.take_nil]
theorem DE (xs:List V) (k:Nat):kr xs none (some (k:Int))=xs.take k:=by
 unfold kr;rw[HT.EN,List.drop_zero,Nat.sub_zero];have e:HT.fo xs.length xs.length (some (k:Int))=min k xs.length:=by unfold HT.fo;simp;omega
 rw[e];rcases Nat.le_total k xs.length with h | h
 ·rw[Nat.min_eq_left h]
 ·rw[Nat.min_eq_right h,List.take_of_length_le (zk _),List.take_of_length_le h]
theorem qq (a b:Str) (r:List Str):qt (a::b::r)=(match oq ((a::b::r).map cH) with | some (n::ps)=>some (n,ps) | _=>none):=rfl
def gG (H0 H:Hp) (v:V):Option Told->Prop
 | none=>v=.bE
 | some (.bG n)=>v=.str n
 | some (.cI n t l)=>Is H (eG (n,t,l)) v
 | some (.cm n ps)=>Is H (gB (n,ps)) v
 | some (.bar b)=>Is H (kQ b) v
 | some (.aH l)=>Is H (dL l) v
 | some (.holds p b i)=>Is H (vk (p,b,i)) v
 | some (.aJ b p its)=>iU H0 H v (b,p,its)
 | some (.rep r)=>Is H (jD r) v
 | some (.cb j)=>Is H (jt j) v
def ED (K:yA):Sp:=fun vs H Q _=>∃(p:Addr) (x:Str) (ws:List Str),vs=[.ref p]/\aL K H p ((x::ws).map V.str)/\ws.length<=999999/\(∀y∈x::ws,y.length<=600)/\∀v H',au H H'->gG H H' v (oA (x::ws))->Q v H'
theorem mY (h:Is H (dO d o) v) (hg:∀x,Is H (d x) v->gG H0 H v (some (g x))):gG H0 H v (o.map g):=by
 cases o with
 | none=>unfold dO Is at h;exact h
 | some x=>exact hg x h
theorem gG.back (s:au H00 H0):∀{t:Option Told},gG H0 H v t->gG H00 H v t
 | none,h=>h
 | some (.bG _),h=>h
 | some (.cI _ _ _),h=>h
 | some (.cm _ _),h=>h
 | some (.bar _),h=>h
 | some (.aH _),h=>h
 | some (.holds _ _ _),h=>h
 | some (.aJ _ _ _),h=>iU.back s h
 | some (.rep _),h=>h
 | some (.cb _),h=>h
theorem cU {α:Type} {l:List α} {i:Nat} {x:α} (h:l[i]?=some x):l.take (i+1)=l.take i++[x]:=by rw[List.take_add_one,h];rfl
theorem IP:∀{l:List α} {i:Nat} {x:α},l[i]?=some x->(l.take i).find? p=none->p x=true->l.find? p=some x
 | [],i,x,h,_,_=>by simp at h
 | y::l,0,x,h,_,hx=>by simp at h;subst h;rw[List.find?_cons,hx]
 | y::l,i+1,x,h,hn,hx=>by
  rw[List.take_succ_cons,List.find?_cons] at hn;rw[List.find?_cons];cases q:p y with
  | true=>rw[q] at hn;cases hn
  | false=>rw[q] at hn;exact IP (by simpa using h) hn hx
theorem B5 {α:Type} {p:α->Bool} {l:List α} {i:Nat} {x:α} (h:l[i]?=some x) (hn:(l.take i).find? p=none) (hx:p x=false):(l.take (i+1)).find? p=none:=by
 rw[cU h,List.find?_append,hn];simp[hx]
def By (K:yA) (H:Hp) (p:Addr) (rs:List Rep):Prop:=∃vs,aL K H p vs/\L2.IsL H (rs.map jD) vs
theorem By.mono {K:yA} {H H':Hp} (s:au H H') {p:Addr} {rs:List Rep} (h:By K H p rs):By K H' p rs:=by
 obtain⟨vs,h1,h2⟩:=h;exact⟨vs,s.seq h1,h2.mono s⟩
theorem fX (h:Is H (jD r) v):∃a e,v=.ref a/\H a=some (.tup [.int r.first,.int r.last,.int r.times,.ref e])/\Is H (.tup (r.ends.map mT)) (.ref e):=by
 unfold jD Is at h;obtain⟨a,vs,rfl,ha,hl⟩:=h;unfold L2.IsL at hl;obtain⟨v1,r1,rfl,h1,hl⟩:=hl;unfold L2.IsL at hl;obtain⟨v2,r2,rfl,h2,hl⟩:=hl;unfold L2.IsL at hl;obtain⟨v3,r3,rfl,h3,hl⟩:=hl;unfold L2.IsL at hl;obtain⟨v4,r4,rfl,h4,hl⟩:=hl;unfold L2.IsL at hl;subst hl;unfold Is at h1 h2 h3;subst h1 h2 h3;have h4':=h4;unfold Is at h4;obtain⟨e,us,rfl,he,hle⟩:=h4;exact⟨a,e,rfl,ha,h4'⟩
theorem ui (h:Is H (mT e) v):∃a q,v=.ref a/\H a=some (.tup [.int e.1,.ref q])/\H q=some (.tup (e.2.map V.int)):=by
 unfold mT Is at h;obtain⟨a,vs,rfl,ha,hl⟩:=h;unfold L2.IsL at hl;obtain⟨v1,r1,rfl,h1,hl⟩:=hl;unfold L2.IsL at hl;obtain⟨v2,r2,rfl,h2,hl⟩:=hl;unfold L2.IsL at hl;subst hl;unfold Is at h1;subst h1;unfold vj Is at h2;obtain⟨q,us,rfl,hq,hle⟩:=h2;rw[fF hle] at hq;exact⟨a,q,rfl,ha,hq⟩
theorem dz {H:Hp} {α:Type} {d:α->Dt} {xs:List α} {vs:List V} {i:Nat} {v:V} (h:L2.IsL H (xs.map d) vs) (e:vs[i]?=some v):∃x,xs[i]?=some x/\Is H (d x) v:=by
 obtain⟨c,h1,h2⟩:=h.get e;rw[zJ] at h1;cases q:xs[i]? with
 | none=>rw[q] at h1;cases h1
 | some x=>rw[q] at h1;cases h1;exact⟨x,rfl,h2⟩
theorem aS {H:Hp} {α:Type} {d:α->Dt} {xs:List α} {vs:List V} (h:L2.IsL H (xs.map d) vs):vs.length=xs.length:=by rw[h.len,za]
def vv (K:yA):Sp:=fun vs H Q _=>∃(p:Addr) (rs:List Rep) (b:Int),vs=[.ref p,.int b]/\By K H p rs/\∀v,Is H (dO jD (dP rs b)) v->Q v H
def CA (K:yA):Sp:=fun vs H Q _=>∃(p:Addr) (rs:List Rep) (b:Int),vs=[.ref p,.int b]/\By K H p rs/\Q (.bl (gW rs b)) H
def CB (K:yA):Sp:=fun vs H Q _=>∃(p:Addr) (rs:List Rep) (b:Int),vs=[.ref p,.int b]/\By K H p rs/\Q (.bl (eC rs b)) H
noncomputable def J9 (x:Int×Int×List Int):Dt:=.tup [.int x.1,.int x.2.1,vj x.2.2]
def GL:Sp:=fun vs H Q _=>∃(v:V) (r:Rep),vs=[v]/\Is H (jD r) v/\r.ends.length<=1000000/\∀p us H',au H H'->H' p=some (.lst us)->L2.IsL H' ((jr r).map J9) us->Q (.ref p) H'
def vy (K:yA):Sp:=fun vs H Q _=>∃(p:Addr) (rs:List Rep) (b:Int),vs=[.ref p,.int b]/\By K H p rs/\(∀r∈rs,r.ends.length<=1000000)/\∀H',au H H'->Q (.bl (lM rs b)) H'
theorem Ac {α:Type} {J:It} {ws:List α} {σ₀:St} {g:TG} {te:TE} {Q:VK} {H1:Hp} (Y:α->V->Hp->Prop) (F:α->Dt) (Pσ:St->Prop) (hn:ws.length<=sizeLine) (h0:Pσ σ₀)
  (go:∀i H,i<ws.length->au H1 H->J.go i H) (stop:∀H,au H1 H->J.stop ws.length H) (yl:∀(i:Nat) x H H2 (hi:i<ws.length),au H1 H->J.Ji i H x H2->au H H2/\Y ws[i] x H2)
  (turn:∀(a:α) (x:V) (σ:St) (H:Hp) (R:St->V->Hp->Prop),a∈ws->au H1 H->Y a x H->Pσ σ->(∀σ3 y H5,au H H5->Is H5 (F a) y->Pσ σ3->R σ3 y H5)->g x σ H fun σ3 H3=>te σ3 H3 fun y H5=>R σ3 y H5)
  (fin:∀D vs H,au H1 H->H D=some (.lst vs)->L2.IsL H (ws.map F) vs->Q (.ref D) H):dS σ₀ g dt te Q J H1:=by
 refine⟨fun i m xs σ H=>m=ws.length-i/\i<=ws.length/\xs.length=i/\au H1 H/\L2.IsL H ((ws.take i).map F) xs/\Pσ σ,⟨_,rfl,yf _,rfl,au.refl _,by simp[L2.IsL],h0⟩,?_⟩;rintro i m xs σ H ⟨rfl,hi,hx,sm,il,pσ⟩;rcases Nat.lt_or_ge i ws.length with hlt | hge
 ·refine .inr ⟨go i H hlt sm,nofun,?_⟩
  intro x H2 hy;obtain⟨s2,hY⟩:=yl i x H H2 hlt sm hy;refine turn ws[i] x σ H2 (fun σ3 y H5=>if true=true then∃m',m'<ws.length-i/\(m'=ws.length-(i+1)/\i+1<=ws.length/\(xs++[y]).length=i+1/\au H1 H5/\L2.IsL H5 ((ws.take (i+1)).map F) (xs++[y])/\Pσ σ3) else False) (yk hlt) (sm.trans s2) hY pσ ?_;rintro σ3 y H5 s5 iy p3;rw[if_pos rfl];refine⟨_,nofun,rfl,hlt,by simp[hx],(sm.trans s2).trans s5,?_,p3⟩;rw[List.take_add_one,zb hlt,zj];exact cT iy (il.mono (s2.trans s5))
 ·have e:i=ws.length:=nofun
  subst e;refine .inl ⟨stop H sm,nofun,fun D hD=>?_⟩;have il':L2.IsL H (ws.map F) xs:=by rw[zM] at il;exact il
  exact fin D xs _ (sm.trans (aZ hD)) aF (il'.mono (aZ hD))
structure Ow where
 dx:Addr
 pl:Addr
 ins:Addr
 st:Addr
 ba:Addr
 ho:Addr
 no:Addr
 re:Addr
 hs:List Addr
 ns:List Addr
noncomputable def Ow.lists (o:Ow):List Addr:=[o.pl,o.ba,o.re]++o.hs++o.ns
noncomputable def MO (o:Ow) (ub jm:V):List (Str×V):=[("players",.ref o.pl),("instruments",.ref o.ins),("staffs",.ref o.st),("bars",.ref o.ba),("upbeat",ub),("holds",.ref o.ho),("notes",.ref o.no),("repeats",.ref o.re),("jump",jm)]
noncomputable def kS (x:Str):Key:=Sum.inr x
noncomputable def kN (x:Int×Str):List Key:=[Sum.inl x.1,Sum.inr x.2]
noncomputable def Mw (x:Str×(Int×Int)×(Int×Int)):Dt:=.tup [dL x.2.1,dL x.2.2]
noncomputable def NW (x:Str×List Str):Dt:=mO x.2
noncomputable def HG (x:Int×Str):Dt:=.tup [.int x.1,.str x.2]
def cg (H:Hp) (d:α->Dt):List (List α)->List Addr->Prop
 | [],as=>as=[]
 | l::r,as=>∃a t vs,as=a::t/\H a=some (.lst vs)/\L2.IsL H (l.map d) vs/\cg H d r t
structure bV (C:Addr) (H:Hp) (a:Addr) (S:cJ) (o:Ow):Prop where
 obj:∃ub jm,H a=some (.ins C o.dx (MO o ub jm))/\Is H (dO dL S.aH) ub/\Is H (dO jt S.cb) jm
 pl:H o.pl=some (.lst (S.players.map V.str))
 ins:∃vs,H o.ins=some (.dK ((S.ak.map fun x=>kS x.1).zip vs))/\L2.IsL H (S.ak.map Mw) vs
 st:∃vs,H o.st=some (.dK ((S.aK.map fun x=>kS x.1).zip vs))/\L2.IsL H (S.aK.map NW) vs
 ba:∃vs,H o.ba=some (.lst vs)/\L2.IsL H (S.aP.map kQ) vs
 ho:H o.ho=some (.dK ((S.holds.map fun x=>kS x.1).zip (o.hs.map V.ref)))/\cg H HG (S.holds.map (·.2)) o.hs
 no:H o.no=some (.dT ((S.aJ.map fun x=>kN x.1).zip (o.ns.map V.ref)))/\cg H eV (S.aJ.map (·.2)) o.ns
 re:∃vs,H o.re=some (.lst vs)/\L2.IsL H (S.repeats.map jD) vs
 nd:o.lists.Nodup
 dd:[o.ins,o.st,o.ho].Nodup
theorem cg.mono (s:au H H'):∀{ls:List (List α)} {as:List Addr},cg H d ls as->cg H' d ls as
 | [],_,h=>h
 | l::r,_,⟨a,t,vs,e,h1,h2,h3⟩=>⟨a,t,vs,e,s _ _ h1,h2.mono s,cg.mono s h3⟩
theorem bV.mono (s:au H H') (h:bV C H a S o):bV C H' a S o where
 obj:=by obtain⟨ub,jm,h1,h2,h3⟩:=h.obj;exact⟨ub,jm,s _ _ h1,h2.mono s,h3.mono s⟩
 pl:=s _ _ h.pl
 ins:=by obtain⟨vs,h1,h2⟩:=h.ins;exact⟨vs,s _ _ h1,h2.mono s⟩
 st:=by obtain⟨vs,h1,h2⟩:=h.st;exact⟨vs,s _ _ h1,h2.mono s⟩
 ba:=by obtain⟨vs,h1,h2⟩:=h.ba;exact⟨vs,s _ _ h1,h2.mono s⟩
 ho:=⟨s _ _ h.ho.1,h.ho.2.mono s⟩
 no:=⟨s _ _ h.no.1,h.no.2.mono s⟩
 re:=by obtain⟨vs,h1,h2⟩:=h.re;exact⟨vs,s _ _ h1,h2.mono s⟩
 nd:=h.nd
 dd:=h.dd
def cP (o:Option HO):Prop:=∀vs,o≠some (.tup vs)
mutual
theorem Is.upd (hx:cP (H x)):∀{d:Dt} {v:V},Is H d v->Is (upd H x o) d v
 | .bE,_,h=>by unfold Is at h ⊢;exact h
 | .bl _,_,h=>by unfold Is at h ⊢;exact h
 | .int _,_,h=>by unfold Is at h ⊢;exact h
 | .str _,_,h=>by unfold Is at h ⊢;exact h
 | .tup l,_,h=>by
  unfold Is at h ⊢;obtain⟨a,vs,e,ha,hl⟩:=h;have ne:a≠x:=fun z=>hx vs (by rw[<-z];exact ha);exact⟨a,vs,e,by rw[aG ne];exact ha,IsL.upd hx hl⟩
theorem IsL.upd (hx:cP (H x)):∀{l:List Dt} {vs:List V},L2.IsL H l vs->L2.IsL (L2.upd H x o) l vs
 | [],_,h=>by unfold L2.IsL at h ⊢;exact h
 | d::l,_,h=>by
  unfold L2.IsL at h ⊢;obtain⟨v,r,e,hv,hr⟩:=h;exact⟨v,r,e,Is.upd hx hv,IsL.upd hx hr⟩
end
theorem cg.upd (hx:cP (H x)):∀{ls:List (List α)} {as:List Addr},x∉as->cg H d ls as->cg (L2.upd H x o) d ls as
 | [],_,_,h=>h
 | l::r,_,nx,⟨a,t,vs,e,h1,h2,h3⟩=>by
  subst e;have ne:a≠x:=fun z=>nx (by rw[z];exact zp);exact⟨a,t,vs,rfl,by rw[aG ne];exact h1,IsL.upd hx h2,cg.upd hx (fun z=>nx (zm _ z)) h3⟩
structure Cf (K:yA) (C:Addr):Prop where
 cls:N7 K C
 players:eW K C "players"
 ak:eW K C "instruments"
 aK:eW K C "staffs"
 aP:eW K C "bars"
 aH:eW K C "upbeat"
 holds:eW K C "holds"
 aJ:eW K C "notes"
 repeats:eW K C "repeats"
 cb:eW K C "jump"
theorem NS (n:Nat):NumText.digitsVal (dec (n:Int)).cps.toList=n:=by rw[wO];exact PySem.W.KIN.val_back n
theorem O8 {most:Int} {n k:Nat} (hk:0<k) (hm:(k:Int)<=most) (h:n<10^k):rn most (dec (n:Int)).cps.toList=some (n:Int):=by
 have l1:=FT (n:=n);have l2:=B9 hk h;have el:(dec (n:Int)).cps.toList.length=(dec (n:Int)).length:=Array.length_toList;have ha:((dec (n:Int)).cps.toList.all fun c=>decide (c∈vY))=true:=yo.mpr fun c hc=>ze (PU (kP hc).1 (kP hc).2);unfold rn;rw[if_neg nofun,if_neg nofun,if_pos ha,if_neg,NS];rintro⟨z1,z2⟩;have:=J3 (n:=n) (by rw[<-Array.getElem?_toList];exact z1);omega
theorem ox {most n:Int} {k:Nat} (hk:0<k) (hm:(k:Int)<=most) (h0:0<=n) (h:n<10^k):rn most (dec n).cps.toList=some n:=by
 obtain⟨m,rfl⟩:=Int.eq_ofNat_of_zero_le h0;exact O8 hk hm (by exact_mod_cast h)
theorem fB {n:Int} (h0:0<=n) (h:n<1000):fI (dec n)=some n:=ox (k:=3) (by decide) (by decide) h0 nofun
theorem BJ (h0:0<=n) (h:n<1000) (h1:lo<=n) (h2:n<=hi):mC (dec n) lo hi=some n:=by
 unfold mC;rw[fB h0 h];dsimp only;rw[if_neg nofun,if_neg nofun]
theorem GV {most n:Int} {k:Nat} (hk:0<k) (hm:(k:Int)<=most) (h1:-(10^k)<n) (h2:n<10^k):rs most (dec n)=some n:=by
 unfold rs
 by_cases h0:0<=n
 ·rw[if_neg,ox hk hm h0 h2]
  intro z;obtain⟨m,rfl⟩:=Int.eq_ofNat_of_zero_le h0;have:=kP (zB z);omega
 ·have e:(dec n).cps.toList=45::(dec (-n)).cps.toList:=by rw[wN nofun,cD];rfl
  rw[e,if_pos (show(45::(dec (-n)).cps.toList)[0]?=some 45 from rfl)];show(match rn most (dec (-n)).cps.toList with | some n=>if n=0 then none else some (-n) | none=>none)=_;rw[ox hk hm nofun nofun];dsimp only;rw[if_neg nofun,Int.neg_neg]
theorem Li {q:Int×Int} (h:MI q):rp (dec q.1) (dec q.2)=some q:=by
 obtain⟨h1,h2,h3,h4,h5⟩:=h;unfold rp;rw[GV (k:=2) (by decide) (by decide) nofun nofun,GV (k:=2) (by decide) (by decide) nofun nofun];dsimp only;rw[if_pos h5]
theorem FV (n:Int):47∉(dec n).cps.toList:=gc (by decide) (by decide)
theorem IT (n:Int):58∉(dec n).cps.toList:=gc (by decide) (by decide)
theorem Fs {x:Int×Int} (h:Rd x) (h1:x.1<10000) (h2:x.2<10000):MQ (iI x)=some x:=by
 obtain⟨p1,p2,p3⟩:=h.pos;unfold iI MQ
 by_cases c:x.2=1
 ·rw[if_pos c,show Txt.split (dec x.1) "/"= [dec x.1] from split1 (c:=47) (FV _)]
  dsimp only;rw[ox (k:=4) (by decide) (by decide) p1 nofun];dsimp only;rw[<-c,p3]
 ·rw[if_neg c,show Txt.split (dec x.1 ++"/" ++ dec x.2) "/"= [dec x.1,dec x.2] from Cv (c:=47) (FV _) (FV _)]
  dsimp only;rw[ox (k:=4) (by decide) (by decide) p1 nofun,ox (k:=4) (by decide) (by decide) nofun nofun];dsimp only;rw[if_neg nofun,p3]
theorem Dd (h:MT x):lr (iI x)=some x:=by
 obtain⟨h1,h2,h3,h4⟩:=h;unfold lr;rw[Fs h1 h3 h4];dsimp only;rw[if_neg nofun]
theorem NK (h:Ks it):ir (qE it)=some it:=by
 obtain⟨o,x⟩:=it;obtain⟨h1,h2⟩:=h;cases o with
 | none=>
  have e:Txt.split (qE (none,x)) ":"= [("r": Str),iI x]:=Cv (c:=58) (a:="r") (by decide) (BU h1);unfold ir;rw[e];show(match lr (iI x) with | none=>none | some x=>_)=_;rw[Dd h1];exact if_pos rfl
 | some q=>
  have e:Txt.split (qE (some q,x)) ":"= [dec q.1,dec q.2,iI x]:=O4 (c:=58) (IT _) (IT _) (BU h1);unfold ir;rw[e];show(match lr (iI x) with | none=>none | some x=>_)=_;rw[Dd h1];dsimp only;rw[if_neg (by simp)];show(match rp (dec q.1) (dec q.2) with | some q=>some (some q,x) | none=>none)=_;rw[Li (h2 q rfl)]
theorem GW (h1:1<=a) (h2:a<=32) (h3:b∈Bp):jf (dec a ++"/" ++ dec b)=some (a,b):=by
 have hb:0<=b/\b<1000:=by
  unfold Bp at h3;simp at h3;omega
 unfold jf;rw[show Txt.split (dec a ++"/" ++ dec b) "/"= [dec a,dec b] from Cv (c:=47) (FV _) (FV _)];dsimp only;rw[BJ nofun nofun h1 h2,fB hb.1 hb.2];dsimp only;rw[if_pos h3]
theorem Ll {k:Int} (h1:-7<=k) (h2:k<=7):ES (dec k)=some k:=by
 unfold ES;rw[GV (k:=3) (by decide) (by decide) nofun nofun];dsimp only;rw[if_neg (by split <;> omega)]
theorem Jx (h:MI q) (h1:-12<=q.1) (h2:q.1<=12):xJ (dec q.1) (dec q.2)=some q:=by
 unfold xJ;rw[Li h];dsimp only;rw[if_neg (by split <;> omega)]
theorem oo:∀{l:List α},(∀x∈l,f (g x)=some x)->oq ((l.map g).map f)=some l
 | [],_=>rfl
 | x::l,h=>by
  rw[zh,zh,h x zp];unfold oq;rw[oo fun y hy=>h y (zm _ hy)]
noncomputable def oW (e:End):Str:=dec e.1 ++":" ++ Str.join "," (e.2.map dec)
def SH (e:End):Prop:=0<=e.1/\e.1<1000/\e.2≠[]/\∀p∈e.2,0<=p/\p<1000
theorem oI (hs:c∉sep.cps.toList):∀{zs:List Str},(∀z∈zs,c∉z.cps.toList)->c∉(Str.join sep zs).cps.toList
 | [],_=>by show c∉("": Str).cps.toList;exact zD
 | [z],h=>h z zp
 | z::y::r,h=>by
  rw[fb,cD,cD];intro m;rcases zF.mp m with m | m
  ·rcases zF.mp m with m | m
   ·exact h z zp m
   ·exact hs m
  ·exact oI hs (fun x hx=>h x (zm _ hx)) m
theorem Lp (h:SH e):xK (oW e)=some e:=by
 obtain⟨h1,h2,h3,h4⟩:=h;have f:58∉(Str.join "," (e.2.map dec)).cps.toList:=oI (by decide) fun z hz=>by
  obtain⟨y,_,rfl⟩:=zG.mp hz;exact IT _
 unfold xK oW;rw[show Txt.split (dec e.1 ++":" ++ Str.join "," (e.2.map dec)) ":"= [dec e.1,Str.join "," (e.2.map dec)] from Cv (c:=58) (IT _) f];dsimp only;rw[show Txt.split (Str.join "," (e.2.map dec)) ","= e.2.map dec from gr (c:=44) (by simpa using h3) fun z hz=>by
  obtain⟨y,_,rfl⟩:=zG.mp hz;exact gc (by decide) (by decide)]
 rw[fB h1 h2,oo fun x hx=>fB (h4 x hx).1 (h4 x hx).2]
def Ko (w:Str):Prop:=w≠ ""/\32∉w.cps.toList/\10∉w.cps.toList
theorem GB (ne:ws≠[]) (h:∀w∈ws,Ko w):words (Str.join " " ws)=ws:=by
 unfold words;rw[show Txt.split (Str.join " " ws) " "= ws from gr (c:=32) ne fun w hw=>(h w hw).2.1];exact List.filter_eq_self.mpr fun w hw=>ze (h w hw).1
theorem fK (n:Int):Ko (dec n):=by
 refine⟨fun z=>?_,gc (by decide) (by decide),gc (by decide) (by decide)⟩
 by_cases h:0<=n
 ·obtain⟨m,rfl⟩:=Int.eq_ofNat_of_zero_le h
  have:=FT (n:=m);rw[z] at this;exact absurd this (by decide)
 ·have e:(dec n).cps.toList=45::(dec (-n)).cps.toList:=by rw[wN nofun,cD];rfl
  rw[z] at e;cases e
theorem Ge (ha:Ko a) (hb1:32∉b.cps.toList) (hb2:10∉b.cps.toList):Ko (a++b):=by
 refine⟨fun z=>ha.1 (kZ ?_),fun m=>?_,fun m=>?_⟩
 ·have e:(a++b).cps.toList=("": Str).cps.toList:=by rw[z]
  rw[cD] at e;exact(List.append_eq_nil_iff.mp e).1
 ·rw[cD] at m
  rcases zF.mp m with m | m
  ·exact ha.2.1 m
  ·exact hb1 m
 ·rw[cD] at m
  rcases zF.mp m with m | m
  ·exact ha.2.2 m
  ·exact hb2 m
theorem DO (ha:Ko a) (hb1:32∉b.cps.toList) (hb2:10∉b.cps.toList) (hc:Ko c):Ko (a++b++c):=Ge (Ge ha hb1 hb2) hc.2.1 hc.2.2
theorem yE (x:Int×Int):Ko (iI x):=by
 unfold iI;split
 ·exact fK _
 ·exact DO (fK _) (by decide) (by decide) (fK _)
theorem PL (it:Item):Ko (qE it):=by
 obtain⟨o,x⟩:=it;cases o with
 | none=>exact Ge (a:="r:") ⟨by decide,by decide,by decide⟩ (yE x).2.1 (yE x).2.2
 | some q=>exact DO (DO (fK _) (by decide) (by decide) (fK _)) (by decide) (by decide) (yE x)
theorem P1 (e:End):Ko (oW e):=by
 have f:∀c,c≠44->c≠45->¬(48<=c/\c<=57)->c∉(Str.join "," (e.2.map dec)).cps.toList:=fun c h0 h1 h2=>oI (by show c∉[44];simpa using h0) fun z hz=>by
  obtain⟨y,_,rfl⟩:=zG.mp hz;exact gc h1 h2
 unfold oW;exact Ge (Ge (fK _) (by decide) (by decide)) (f 32 (by decide) (by decide) (by decide)) (f 10 (by decide) (by decide) (by decide))
def gk (n:Str):Prop:=cH n=some n
theorem gk.w (h:gk n):Ko n:=by
 unfold gk cH at h;split at h
 ·cases h
 ·split at h
  ·cases h
  ·split at h
   ·rename_i h1 _ h3
    have hs:∀c,c∉sgn->c∉n.cps.toList:=fun c hc m=>hc (yd (yo.mp h3 c m));refine⟨fun z=>h1 (by rw[z];decide),hs 32 (by decide),hs 10 (by decide)⟩
   ·cases h
noncomputable def ctxt:Option Int->Str
 | none=> "end"
 | some n=>dec n
noncomputable def wordsOf:Told->List Str
 | .bG n=>["player",n]
 | .cI n t l=>["instrument",n,dec t.1,dec t.2,iI l]
 | .cm n ps=> "staff":: n::ps
 | .bar b=> "bar":: (dec b.aT.1 ++"/" ++ dec b.aT.2)::dec b.key::b.marks
 | .aH l=>["upbeat",iI l]
 | .holds p b i=>["holds",p,dec b,i]
 | .aJ b p its=> "notes":: dec b::p::its.map qE
 | .rep r=> "repeat":: dec r.first::dec r.last::dec r.times::r.ends.map oW
 | .cb j=>["jump",dec j.wJ,dec j.AE,dec j.dy,ctxt j.gD]
noncomputable def rowOf (t:Told):Str:=Str.join " " (wordsOf t)
def NB (n:Int):Prop:=0<=n/\n<1000
def Oz:Told->Prop
 | .bG n=>gk n
 | .cI n t l=>gk n/\MI t/\-12<=t.1/\t.1<=12/\Lm.Rd l/\l.1<10000/\l.2<10000
 | .cm n ps=>gk n/\ps≠[]/\∀p∈ps,gk p
 | .bar b=>1<=b.aT.1/\b.aT.1<=32/\b.aT.2∈Bp/\-7<=b.key/\b.key<=7/\∀m∈b.marks,gk m
 | .aH l=>MT l
 | .holds p b i=>gk p/\NB b/\gk i
 | .aJ b p its=>NB b/\gk p/\(∀it∈its,Ks it)/\its.all (fun it=>it.1.isNone)=false
 | .rep r=>NB r.first/\NB r.last/\2<=r.times/\r.times<=9/\∀e∈r.ends,SH e
 | .cb j=>NB j.wJ/\NB j.AE/\NB j.dy/\∀c,j.gD=some c->NB c
theorem I0 (h:∀p∈l,gk p):oq (l.map cH)=some l:=by
 have:=oo (f:=cH) (g:=fun x:Str=>x) (l:=l) h
 rwa [List.map_id'] at this
theorem GY (h:Oz t):oA (wordsOf t)=some t:=by
 cases t with
 | bG n=>
  show(cH n).map Told.bG=_;rw[show cH n=some n from h];rfl
 | cI n t l=>
  obtain⟨h1,h2,h3,h4,h5,h6,h7⟩:=h;show(lE [n,dec t.1,dec t.2,iI l]).map (fun x=>Told.cI x.1 x.2.1 x.2.2)=_;unfold lE;dsimp only;rw[show cH n=some n from h1,Jx h2 h3 h4,Fs h5 h6 h7];rfl
 | cm n ps=>
  obtain⟨h1,h2,h3⟩:=h;show(qt (n::ps)).map (fun x=>Told.cm x.1 x.2)=_;obtain⟨b,r,rfl⟩:=List.exists_cons_of_ne_nil h2;rw[qq,I0 (l:=n::b::r) fun p hp=>by
   rcases zC.mp hp with e | e
   ·rw[e];exact h1
   ·exact h3 p e]
  rfl
 | bar b=>
  obtain⟨h1,h2,h3,h4,h5,h6⟩:=h;show(AY ((dec b.aT.1 ++"/" ++ dec b.aT.2)::dec b.key::b.marks)).map Told.bar=_;unfold AY;dsimp only;rw[I0 h6,GW h1 h2 h3,Ll h4 h5];rfl
 | aH l=>
  show(lr (iI l)).map Told.aH=_;rw[Dd h];rfl
 | holds p b i=>
  obtain⟨h1,h2,h3⟩:=h;show(rQ [p,dec b,i]).map (fun x=>Told.holds x.1 x.2.1 x.2.2)=_;unfold rQ;dsimp only;rw[show cH p=some p from h1,fB h2.1 h2.2,show cH i=some i from h3];rfl
 | aJ b p its=>
  obtain⟨h1,h2,h3,h4⟩:=h;show(kc (dec b::p::its.map qE)).map (fun x=>Told.aJ x.1 x.2.1 x.2.2)=_;cases its with
  | nil=>cases h4
  | cons i r=>
   show(kc (dec b::p::qE i::r.map qE)).map _=_;unfold kc;have e:=oo (f:=ir) (g:=qE) (l:=i::r) fun x hx=>NK (h3 x hx);rw[zh] at e;dsimp only;rw[e];dsimp only;rw[h4,fB h1.1 h1.2,show cH p=some p from h2];rfl
 | rep r=>
  obtain⟨h1,h2,h3,h4,h5⟩:=h;show(jQ (dec r.first::dec r.last::dec r.times::r.ends.map oW)).map Told.rep=_;unfold jQ;dsimp only;rw[oo fun x hx=>Lp (h5 x hx),fB h1.1 h1.2,fB h2.1 h2.2,BJ nofun nofun h3 h4];rfl
 | cb j=>
  obtain⟨h1,h2,h3,h4⟩:=h;show(u7 [dec j.wJ,dec j.AE,dec j.dy,ctxt j.gD]).map Told.cb=_;unfold u7;dsimp only;rw[fB h1.1 h1.2,fB h2.1 h2.2,fB h3.1 h3.2];obtain⟨a,b,c,d⟩:=j;cases d with
  | none=>rfl
  | some n=>
   dsimp only[ctxt];rw[fB (h4 n rfl).1 (h4 n rfl).2];rfl
theorem Il (h:Oz t):∀w∈wordsOf t,Ko w:=by
 have lit:∀s:Str,s≠ ""->32∉s.cps.toList->10∉s.cps.toList->Ko s:=fun s a b c=>⟨a,b,c⟩
 cases t with
 | bG n=>
  intro w hw;simp only[wordsOf,zC,zD,or_false] at hw;rcases hw with rfl | rfl
  ·exact lit _ (by decide) (by decide) (by decide)
  ·exact gk.w h
 | cI n t l=>
  intro w hw;simp only[wordsOf,zC,zD,or_false] at hw;rcases hw with rfl | rfl | rfl | rfl | rfl
  ·exact lit _ (by decide) (by decide) (by decide)
  ·exact gk.w h.1
  ·exact fK _
  ·exact fK _
  ·exact yE _
 | cm n ps=>
  intro w hw;simp only[wordsOf,zC] at hw;rcases hw with rfl | rfl | hw
  ·exact lit _ (by decide) (by decide) (by decide)
  ·exact gk.w h.1
  ·exact gk.w (h.2.2 _ hw)
 | bar b=>
  intro w hw;simp only[wordsOf,zC] at hw;rcases hw with rfl | rfl | rfl | hw
  ·exact lit _ (by decide) (by decide) (by decide)
  ·exact DO (fK _) (by decide) (by decide) (fK _)
  ·exact fK _
  ·exact gk.w (h.2.2.2.2.2 _ hw)
 | aH l=>
  intro w hw;simp only[wordsOf,zC,zD,or_false] at hw;rcases hw with rfl | rfl
  ·exact lit _ (by decide) (by decide) (by decide)
  ·exact yE _
 | holds p b i=>
  intro w hw;simp only[wordsOf,zC,zD,or_false] at hw;rcases hw with rfl | rfl | rfl | rfl
  ·exact lit _ (by decide) (by decide) (by decide)
  ·exact gk.w h.1
  ·exact fK _
  ·exact gk.w h.2.2
 | aJ b p its=>
  intro w hw;simp only[wordsOf,zC,zG] at hw;rcases hw with rfl | rfl | rfl | ⟨x,_,rfl⟩
  ·exact lit _ (by decide) (by decide) (by decide)
  ·exact fK _
  ·exact gk.w h.2.1
  ·exact PL _
 | rep r=>
  intro w hw;simp only[wordsOf,zC,zG] at hw;rcases hw with rfl | rfl | rfl | rfl | ⟨x,_,rfl⟩
  ·exact lit _ (by decide) (by decide) (by decide)
  ·exact fK _
  ·exact fK _
  ·exact fK _
  ·exact P1 _
 | cb j=>
  intro w hw;simp only[wordsOf,zC,zD,or_false] at hw;rcases hw with rfl | rfl | rfl | rfl | rfl
  ·exact lit _ (by decide) (by decide) (by decide)
  ·exact fK _
  ·exact fK _
  ·exact fK _
  ·unfold ctxt
   cases j.gD with
   | none=>exact lit _ (by decide) (by decide) (by decide)
   | some n=>exact fK _
theorem GC (t:Told):wordsOf t≠[]:=by cases t <;> simp[wordsOf]
theorem Jy (h:Oz t):words (rowOf t)=wordsOf t:=GB (GC t) (Il h)
theorem Lj (h:Oz t):10∉(rowOf t).cps.toList:=oI (by decide) fun w hw=>(Il h w hw).2.2
noncomputable def kindOf:HO->Nat
 | .lst _=>0
 | .tup _=>1
 | .ins _ _ _=>2
 | .dK _=>3
 | .dT _=>4
 | _=>5
theorem bo {H:Hp} {a b:Addr} {u v:HO} (h1:H a=some u) (h2:H b=some v) (k:kindOf u≠kindOf v):a≠b:=fun z=>by
 rw[z,h2] at h1;cases h1;exact k rfl
noncomputable def own (a:Addr) (o:Ow):List Addr:=[a,o.pl,o.ins,o.st,o.ba,o.ho,o.no,o.re]++o.hs++o.ns
def wC (L:List Addr) (H H':Hp):Prop:=∀b u,b∉L->H b=some u->H' b=some u
theorem wC.of (s:au H H'):wC L H H':=fun b u _ h=>s b u h
theorem wC.trans (s:wC L H H') (t:wC L H' H''):wC L H H'':=fun b u n h=>t b u n (s b u n h)
theorem wC.upd (h:x∈L):wC L H (L2.upd H x o):=fun b u n e=>by
 rw[aG (fun z=>n (by rw[z];exact h))];exact e
structure Nd (o:Ow):Prop where
 pb:o.pl≠o.ba
 pr:o.pl≠o.re
 ph:o.pl∉o.hs
 pn:o.pl∉o.ns
 br:o.ba≠o.re
 bh:o.ba∉o.hs
 bn:o.ba∉o.ns
 rh:o.re∉o.hs
 rn:o.re∉o.ns
 hh:o.hs.Nodup
 nn:o.ns.Nodup
 hn:∀x∈o.hs,x∉o.ns
theorem Nd.of (h:o.lists.Nodup):Nd o:=by
 unfold Ow.lists at h;rw[zR] at h;obtain⟨h1,h2,h3⟩:=h;rw[zR] at h1;obtain⟨h4,h5,h6⟩:=h1;simp only[yc,zC,zD,or_false,not_or] at h4;refine⟨h4.1.1,h4.1.2,fun z=>?_,fun z=>?_,h4.2.1,fun z=>?_,fun z=>?_,fun z=>?_,fun z=>?_,h5,h2,fun x hx z=>?_⟩
 ·exact h6 o.pl (by simp) o.pl z rfl
 ·exact h3 o.pl (by simp) o.pl z rfl
 ·exact h6 o.ba (by simp) o.ba z rfl
 ·exact h3 o.ba (by simp) o.ba z rfl
 ·exact h6 o.re (by simp) o.re z rfl
 ·exact h3 o.re (by simp) o.re z rfl
 ·exact h3 x (by simp[hx]) x z rfl
theorem Nd.to (h:Nd o):o.lists.Nodup:=by
 unfold Ow.lists;rw[zR];refine⟨?_,h.nn,?_⟩
 ·rw[zR]
  refine⟨?_,h.hh,?_⟩
  ·simp only[yc,zC,zD,or_false,not_or]
   exact⟨⟨h.pb,h.pr⟩,h.br,fun z=>z,List.nodup_nil⟩
  ·intro x hx y hy e
   subst e;simp only[zC,zD,or_false] at hx;rcases hx with rfl | rfl | rfl
   ·exact h.ph hy
   ·exact h.bh hy
   ·exact h.rh hy
 ·intro x hx y hy e
  subst e;rw[zF] at hx;rcases hx with hx | hx
  ·simp only[zC,zD,or_false] at hx
   rcases hx with rfl | rfl | rfl
   ·exact h.pn hy
   ·exact h.bn hy
   ·exact h.rn hy
  ·exact h.hn x hx hy
section
variable {C a x:Addr} {H:Hp} {S:cJ} {o:Ow} {u:HO}
theorem bV.BS (h:bV C H a S o) (nx:cP (H x)) (n:a≠x):∃ub jm,L2.upd H x u a=some (.ins C o.dx (MO o ub jm))/\Is (L2.upd H x u) (dO dL S.aH) ub/\Is (L2.upd H x u) (dO jt S.cb) jm:=by
 obtain⟨ub,jm,h1,h2,h3⟩:=h.obj;exact⟨ub,jm,by rw[aG n];exact h1,Is.upd nx h2,Is.upd nx h3⟩
theorem bV.CS (h:bV C H a S o) (n:o.pl≠x):L2.upd H x u o.pl=some (.lst (S.players.map V.str)):=by rw[aG n];exact h.pl
theorem bV.sD (h:bV C H a S o) (nx:cP (H x)) (n:o.ins≠x):∃vs,L2.upd H x u o.ins=some (.dK ((S.ak.map fun x=>kS x.1).zip vs))/\L2.IsL (L2.upd H x u) (S.ak.map Mw) vs:=by
 obtain⟨vs,h1,h2⟩:=h.ins;exact⟨vs,by rw[aG n];exact h1,IsL.upd nx h2⟩
theorem bV.Ct (h:bV C H a S o) (nx:cP (H x)) (n:o.st≠x):∃vs,L2.upd H x u o.st=some (.dK ((S.aK.map fun x=>kS x.1).zip vs))/\L2.IsL (L2.upd H x u) (S.aK.map NW) vs:=by
 obtain⟨vs,h1,h2⟩:=h.st;exact⟨vs,by rw[aG n];exact h1,IsL.upd nx h2⟩
theorem bV.DM (h:bV C H a S o) (nx:cP (H x)) (n:o.ba≠x):∃vs,L2.upd H x u o.ba=some (.lst vs)/\L2.IsL (L2.upd H x u) (S.aP.map kQ) vs:=by
 obtain⟨vs,h1,h2⟩:=h.ba;exact⟨vs,by rw[aG n];exact h1,IsL.upd nx h2⟩
theorem bV.CO (h:bV C H a S o) (nx:cP (H x)) (n:o.re≠x):∃vs,L2.upd H x u o.re=some (.lst vs)/\L2.IsL (L2.upd H x u) (S.repeats.map jD) vs:=by
 obtain⟨vs,h1,h2⟩:=h.re;exact⟨vs,by rw[aG n];exact h1,IsL.upd nx h2⟩
theorem bV.Fx (h:bV C H a S o) (nx:cP (H x)) (n:o.ho≠x) (nn:x∉o.hs):L2.upd H x u o.ho=some (.dK ((S.holds.map fun x=>kS x.1).zip (o.hs.map V.ref)))/\cg (L2.upd H x u) HG (S.holds.map (·.2)) o.hs:=
 ⟨by rw[aG n];exact h.ho.1,cg.upd nx nn h.ho.2⟩
theorem bV.C7 (h:bV C H a S o) (nx:cP (H x)) (n:o.no≠x) (nn:x∉o.ns):L2.upd H x u o.no=some (.dT ((S.aJ.map fun x=>kN x.1).zip (o.ns.map V.ref)))/\cg (L2.upd H x u) eV (S.aJ.map (·.2)) o.ns:=
 ⟨by rw[aG n];exact h.no.1,cg.upd nx nn h.no.2⟩
end
theorem cF:∀{ls:List (List α)} {as:List Addr},cg H d ls as->x∈as->∃vs,H x=some (.lst vs)
 | [],_,h,hx=>by unfold cg at h;subst h;simp at hx
 | l::r,_,⟨a,t,vs,e,h1,_,h3⟩,hx=>by
  subst e;rcases zC.mp hx with rfl | hx
  ·exact⟨vs,h1⟩
  ·exact cF h3 hx
theorem cg.snoc (hx:H x=some (.lst vs)) (im:L2.IsL H (m.map d) vs):∀{ls:List (List α)} {as:List Addr},cg H d ls as->cg H d (ls++[m]) (as++[x])
 | [],_,h=>by unfold cg at h;subst h;exact⟨x,[],vs,rfl,hx,im,rfl⟩
 | l::r,_,⟨a,t,vs',e,h1,h2,h3⟩=>by
  subst e;exact⟨a,t++[x],vs',rfl,h1,h2,cg.snoc hx im h3⟩
theorem KH (h:l.length=m.length) (x:α) (y:β):(l++[x]).zip (m++[y])=l.zip m++[(x,y)]:=by
 rw[List.zip_append h];rfl
theorem rR {κ:Type} [DecidableEq κ] {ks:List κ} {vs:List V} (hl:ks.length=vs.length) {k:κ} {v:V} (h:fi (ks.zip vs) k=none):putK (ks.zip vs) k v=(ks++[k]).zip (vs++[v]):=by
 rw[KH hl];exact Lx v h
theorem B0 (p:Str):∀{hs:List (Str×List α)} {as:List Addr},cg H d (hs.map (·.2)) as->as.Nodup->(hs.map (·.1)).Nodup->p∈hs.map (·.1)->
  ∃x vs,fi ((hs.map fun x=>kS x.1).zip (as.map V.ref)) (kS p)=some (.ref x)/\x∈as/\H x=some (.lst vs)/\∀y e,Is (L2.upd H x (.lst (vs++[y]))) (d e) y->
   cg (L2.upd H x (.lst (vs++[y]))) d ((hs.map fun q=>if q.1=p then(q.1,q.2++[e]) else q).map (·.2)) as
 | [],_,_,_,_,h=>by simp at h
 | (k,l)::r,_,hL,na,nk,hm=>by
  rw[zh] at hL;obtain⟨a,t,vs,rfl,h1,h2,h3⟩:=hL;rw[zh,yc] at nk;rw[yc] at na
  by_cases e:k=p
  ·subst e
   refine⟨a,vs,?_,zp,h1,fun y e iy=>?_⟩
   ·rw[zh,zh,List.zip_cons_cons]
    unfold fi;rw[List.find?_cons];simp
   ·have nx:cP (H a):=by rw[h1];exact fun _ z=>by cases z
    have er:(r.map fun q=>if q.1=k then(q.1,q.2++[e]) else q)=r:=by
     conv=>rhs;rw[<-List.map_id r]
     refine List.map_congr_left fun q hq=>?_;rw[if_neg (fun z=>nk.1 (by rw[show(k,l).1=q.1 from z.symm];exact zO (f:=fun x:Str×List α=>x.1) hq))];rfl
    rw[zh,zh,if_pos rfl,er];refine⟨a,t,vs++[y],rfl,aF,?_,cg.upd nx na.1 h3⟩;rw[zj];exact cT iy (IsL.upd nx h2)
  ·have hm':p∈r.map (·.1):=by
    rcases zC.mp hm with z | z
    ·exact absurd z.symm e
    ·exact z
   obtain⟨x,vs',e1,e2,e3,e4⟩:=B0 p h3 na.2 nk.2 hm';refine⟨x,vs',?_,zm _ e2,e3,fun y e iy=>?_⟩
   ·have e':¬kS k=kS p:=fun z=>e (Sum.inr.inj z)
    rw[zh,zh,List.zip_cons_cons];unfold fi at e1 ⊢;rw[List.find?_cons];simp only[e',decide_false];exact e1
   ·have nx:cP (H x):=by rw[e3];exact fun _ z=>by cases z
    rw[zh,zh,if_neg (by assumption)];refine⟨a,t,vs,rfl,?_,IsL.upd nx h2,e4 y e iy⟩;rw[aG (fun z=>na.1 (by rw[z];exact e2))];exact h1
section
variable {C a:Addr} {H:Hp} {S:cJ} {o:Ow}
theorem bV.HR (h:bV C H a S o) (n:Str):bV C (L2.upd H o.pl (.lst (S.players.map V.str++[.str n]))) a (bJ S (.bG n)) o:=by
 have d:=Nd.of h.nd;have hp:=h.pl;have nx:cP (H o.pl):=by rw[hp];exact fun _ z=>by cases z
 obtain⟨_,_,ha,_⟩:=h.obj;obtain⟨_,hi,_⟩:=h.ins;obtain⟨_,hs,_⟩:=h.st;exact⟨h.BS nx (bo ha hp (by simp[kindOf])),by rw[aF];show _=some (HO.lst ((S.players++[n]).map V.str));rw[zj];rfl,h.sD nx (bo hi hp (by simp[kindOf])),h.Ct nx (bo hs hp (by simp[kindOf])),h.DM nx d.pb.symm,
  h.Fx nx (bo h.ho.1 hp (by simp[kindOf])) d.ph,h.C7 nx (bo h.no.1 hp (by simp[kindOf])) d.pn,h.CO nx d.pr.symm,h.nd,h.dd⟩
theorem bV.N0 (h:bV C H a S o) {b:KA} {v:V} {vs:List V} (hb:H o.ba=some (.lst vs)) (il:L2.IsL H (S.aP.map kQ) vs) (iv:Is H (kQ b) v):bV C (L2.upd H o.ba (.lst (vs++[v]))) a (bJ S (.bar b)) o:=by
 have d:=Nd.of h.nd;have nx:cP (H o.ba):=by rw[hb];exact fun _ z=>by cases z
 obtain⟨_,_,ha,_⟩:=h.obj;obtain⟨_,hi,_⟩:=h.ins;obtain⟨_,hs,_⟩:=h.st;refine⟨h.BS nx (bo ha hb (by simp[kindOf])),h.CS d.pb,h.sD nx (bo hi hb (by simp[kindOf])),h.Ct nx (bo hs hb (by simp[kindOf])),⟨_,aF,?_⟩,
  h.Fx nx (bo h.ho.1 hb (by simp[kindOf])) d.bh,h.C7 nx (bo h.no.1 hb (by simp[kindOf])) d.bn,h.CO nx d.br.symm,h.nd,h.dd⟩
 show L2.IsL _ ((S.aP++[b]).map kQ) _;rw[zj];exact cT (Is.upd nx iv) (IsL.upd nx il)
theorem bV.NY (h:bV C H a S o) {r:Rep} {v:V} {vs:List V} (hb:H o.re=some (.lst vs)) (il:L2.IsL H (S.repeats.map jD) vs) (iv:Is H (jD r) v):bV C (L2.upd H o.re (.lst (vs++[v]))) a (bJ S (.rep r)) o:=by
 have d:=Nd.of h.nd;have nx:cP (H o.re):=by rw[hb];exact fun _ z=>by cases z
 obtain⟨_,_,ha,_⟩:=h.obj;obtain⟨_,hi,_⟩:=h.ins;obtain⟨_,hs,_⟩:=h.st;refine⟨h.BS nx (bo ha hb (by simp[kindOf])),h.CS d.pr,h.sD nx (bo hi hb (by simp[kindOf])),h.Ct nx (bo hs hb (by simp[kindOf])),h.DM nx d.br,
  h.Fx nx (bo h.ho.1 hb (by simp[kindOf])) d.rh,h.C7 nx (bo h.no.1 hb (by simp[kindOf])) d.rn,⟨_,aF,?_⟩,h.nd,h.dd⟩
 show L2.IsL _ ((S.repeats++[r]).map jD) _;rw[zj];exact cT (Is.upd nx iv) (IsL.upd nx il)
theorem wU {n:Str} {ks:List Str} {vs:List V} (h:n∉ks):fi ((ks.map kS).zip vs) (kS n)=none:=by
 unfold fi;rw[Option.map_eq_none_iff,List.find?_eq_none];intro x hx z;have e:=yd z;have m:=(List.of_mem_zip hx).1;obtain⟨k,hk,ek⟩:=zG.mp m;rw[<-ek] at e;exact h ((Sum.inr.inj e)▸hk)
theorem Mu (h:[o.ins,o.st,o.ho].Nodup):o.ins≠o.st/\o.ins≠o.ho/\o.st≠o.ho:=by
 simp only[yc,zC,zD,or_false,not_or] at h;exact⟨h.1.1,h.1.2,h.2.1⟩
theorem bV.Ki (h:bV C H a S o) {n:Str} {t l:Int×Int} {p:Addr} {vs:List V} (hb:H o.ins=some (.dK ((S.ak.map fun x=>kS x.1).zip vs))) (il:L2.IsL H (S.ak.map Mw) vs) (iv:Is H (Mw (n,t,l)) (.ref p))
  (fr:n∉S.ak.map (·.1)):bV C (L2.upd H o.ins (.dK (putK ((S.ak.map fun x=>kS x.1).zip vs) (kS n) (.ref p)))) a (bJ S (.cI n t l)) o:=by
 have d:=Nd.of h.nd;obtain⟨d1,d2,d3⟩:=Mu h.dd;have nx:cP (H o.ins):=by rw[hb];exact fun _ z=>by cases z
 obtain⟨_,_,ha,_⟩:=h.obj;obtain⟨_,hba,_⟩:=h.ba;obtain⟨_,hre,_⟩:=h.re;have vl:=aS il;have em:(S.ak.map fun x=>kS x.1)=(S.ak.map (·.1)).map kS:=by rw[zA];rfl
 have hns:o.ins∉o.ns:=fun z=>by
  obtain⟨_,q⟩:=cF h.no.2 z;rw[hb] at q;cases q
 have hhs:o.ins∉o.hs:=fun z=>by
  obtain⟨_,q⟩:=cF h.ho.2 z;rw[hb] at q;cases q
 refine⟨h.BS nx (bo ha hb (by simp[kindOf])),h.CS (bo h.pl hb (by simp[kindOf])),⟨vs++[.ref p],?_,?_⟩,h.Ct nx d1.symm,h.DM nx (bo hba hb (by simp[kindOf])),
  h.Fx nx d2.symm hhs,h.C7 nx (bo h.no.1 hb (by simp[kindOf])) hns,h.CO nx (bo hre hb (by simp[kindOf])),h.nd,h.dd⟩
 ·rw[aF,rR (by rw[za];exact vl.symm) (by rw[em];exact wU fr)]
  show _=some (HO.dK (((S.ak++[(n,t,l)]).map fun x=>kS x.1).zip (vs++[.ref p])));rw[zj];rfl
 ·show L2.IsL _ ((S.ak++[(n,t,l)]).map Mw) _
  rw[zj];exact cT (Is.upd nx iv) (IsL.upd nx il)
theorem bV.Kg (h:bV C H a S o) {n:Str} {ps:List Str} {v:V} {vs:List V} (hb:H o.st=some (.dK ((S.aK.map fun x=>kS x.1).zip vs))) (il:L2.IsL H (S.aK.map NW) vs) (iv:Is H (NW (n,ps)) v)
  (fr:n∉S.aK.map (·.1)):bV C (L2.upd H o.st (.dK (putK ((S.aK.map fun x=>kS x.1).zip vs) (kS n) v))) a (bJ S (.cm n ps)) o:=by
 have d:=Nd.of h.nd;obtain⟨d1,d2,d3⟩:=Mu h.dd;have nx:cP (H o.st):=by rw[hb];exact fun _ z=>by cases z
 obtain⟨_,_,ha,_⟩:=h.obj;obtain⟨_,hba,_⟩:=h.ba;obtain⟨_,hre,_⟩:=h.re;have vl:=aS il;have em:(S.aK.map fun x=>kS x.1)=(S.aK.map (·.1)).map kS:=by rw[zA];rfl
 have hns:o.st∉o.ns:=fun z=>by
  obtain⟨_,q⟩:=cF h.no.2 z;rw[hb] at q;cases q
 have hhs:o.st∉o.hs:=fun z=>by
  obtain⟨_,q⟩:=cF h.ho.2 z;rw[hb] at q;cases q
 refine⟨h.BS nx (bo ha hb (by simp[kindOf])),h.CS (bo h.pl hb (by simp[kindOf])),h.sD nx d1,⟨vs++[v],?_,?_⟩,h.DM nx (bo hba hb (by simp[kindOf])),
  h.Fx nx d3.symm hhs,h.C7 nx (bo h.no.1 hb (by simp[kindOf])) hns,h.CO nx (bo hre hb (by simp[kindOf])),h.nd,h.dd⟩
 ·rw[aF,rR (by rw[za];exact vl.symm) (by rw[em];exact wU fr)]
  show _=some (HO.dK (((S.aK++[(n,ps)]).map fun x=>kS x.1).zip (vs++[v])));rw[zj];rfl
 ·show L2.IsL _ ((S.aK++[(n,ps)]).map NW) _
  rw[zj];exact cT (Is.upd nx iv) (IsL.upd nx il)
theorem Jk {n:Int×Str} {ks:List (Int×Str)} {vs:List V} (h:n∉ks):fi ((ks.map kN).zip vs) (kN n)=none:=by
 unfold fi;rw[Option.map_eq_none_iff,List.find?_eq_none];intro x hx z;have e:=yd z;have m:=(List.of_mem_zip hx).1;obtain⟨k,hk,ek⟩:=zG.mp m;rw[<-ek] at e;unfold kN at e;simp at e;have:k=n:=Prod.ext e.1 e.2;exact h (this▸hk)
theorem bV.Kh (h:bV C H a S o) {b:Int} {pn:Str} {its:List Item} {q:Addr} {us:List V} (hq:H q=some (.lst us)) (iq:L2.IsL H (its.map eV) us) (nq:q∉o.lists) (fr:(b,pn)∉S.aJ.map (·.1)) :
  bV C (L2.upd H o.no (.dT (putK ((S.aJ.map fun x=>kN x.1).zip (o.ns.map V.ref)) (kN (b,pn)) (.ref q)))) a (bJ S (.aJ b pn its)) {o with ns:=o.ns++[q]}:=by
 have d:=Nd.of h.nd;have hb:=h.no.1;have nx:cP (H o.no):=by rw[hb];exact fun _ z=>by cases z
 obtain⟨ub,jm,ha,hub,hjm⟩:=h.obj;obtain⟨_,hi,_⟩:=h.ins;obtain⟨_,hs,_⟩:=h.st;obtain⟨_,hba,_⟩:=h.ba;obtain⟨_,hre,_⟩:=h.re;have em:(S.aJ.map fun x=>kN x.1)=(S.aJ.map (·.1)).map kN:=by rw[zA];rfl
 have hns:o.no∉o.ns:=fun z=>by
  obtain⟨_,q⟩:=cF h.no.2 z;rw[hb] at q;cases q
 have hhs:o.no∉o.hs:=fun z=>by
  obtain⟨_,q⟩:=cF h.ho.2 z;rw[hb] at q;cases q
 have ll:(o.ns.map V.ref).length=S.aJ.length:=by
  have:∀{ls:List (List Item)} {as:List Addr},cg H eV ls as->as.length=ls.length:=by
   intro ls
   induction ls with
   | nil=>intro as z;unfold cg at z;rw[z];rfl
   | cons l r ih=>rintro _ ⟨a,t,vs,rfl,_,_,h3⟩;rw[zt,zt,ih h3]
  rw[za,this h.no.2,za]
 have nn:q∉[o.pl,o.ba,o.re]/\q∉o.hs/\q∉o.ns:=by
  unfold Ow.lists at nq;rw[zF,zF] at nq;exact⟨fun z=>nq (.inl (.inl z)),fun z=>nq (.inl (.inr z)),fun z=>nq (.inr z)⟩
 obtain⟨n1,n2,n3⟩:=nn;simp only[zC,zD,or_false,not_or] at n1;refine⟨⟨ub,jm,by rw[aG (bo ha hb (by simp[kindOf]))];exact ha,Is.upd nx hub,Is.upd nx hjm⟩,h.CS (bo h.pl hb (by simp[kindOf])),h.sD nx (bo hi hb (by simp[kindOf])),h.Ct nx (bo hs hb (by simp[kindOf])),h.DM nx (bo hba hb (by simp[kindOf])),
  h.Fx nx (bo h.ho.1 hb (by simp[kindOf])) hhs,⟨?_,?_⟩,h.CO nx (bo hre hb (by simp[kindOf])),?_,h.dd⟩
 ·show L2.upd H o.no _ o.no=some (HO.dT (((S.aJ++[((b,pn),its)]).map fun x=>kN x.1).zip ((o.ns++[q]).map V.ref)))
  rw[aF,rR (by rw[za];exact ll.symm) (by rw[em];exact Jk fr),zj,zj];rfl
 ·show cg _ eV ((S.aJ++[((b,pn),its)]).map (·.2)) (o.ns++[q])
  rw[zj];exact cg.snoc (by rw[aG (bo hq hb (by simp[kindOf]))];exact hq) (IsL.upd nx iq) (cg.upd nx hns h.no.2)
 ·refine Nd.to ⟨d.pb,d.pr,d.ph,?_,d.br,d.bh,?_,d.rh,?_,d.hh,?_,?_⟩
  ·show o.pl∉o.ns++[q]
   rw[zF,zy];rintro(z | z)
   ·exact d.pn z
   ·exact n1.1 z.symm
  ·show o.ba∉o.ns++[q]
   rw[zF,zy];rintro(z | z)
   ·exact d.bn z
   ·exact n1.2.1 z.symm
  ·show o.re∉o.ns++[q]
   rw[zF,zy];rintro(z | z)
   ·exact d.rn z
   ·exact n1.2.2 z.symm
  ·show(o.ns++[q]).Nodup
   rw[zR];exact⟨d.nn,by simp,fun x hx y hy e=>by rw[zy] at hy;subst hy;subst e;exact n3 hx⟩
  ·intro x hx z
   have z':x∈o.ns++[q]:=z;rw[zF,zy] at z';rcases z' with z' | z'
   ·exact d.hn x hx z'
   ·subst z';exact n2 hx
theorem bV.HQ (h:bV C H a S o) {l:Int×Int} {v ub jm:V} (ha:H a=some (.ins C o.dx (MO o ub jm))) (ij:Is H (dO jt S.cb) jm) (iv:Is H (dL l) v):bV C (L2.upd H a (.ins C o.dx (MO o v jm))) a (bJ S (.aH l)) o:=by
 have nx:cP (H a):=by rw[ha];exact fun _ z=>by cases z
 obtain⟨_,hi,_⟩:=h.ins;obtain⟨_,hs,_⟩:=h.st;obtain⟨_,hba,_⟩:=h.ba;obtain⟨_,hre,_⟩:=h.re;have hns:a∉o.ns:=fun z=>by
  obtain⟨_,q⟩:=cF h.no.2 z;rw[ha] at q;cases q
 have hhs:a∉o.hs:=fun z=>by
  obtain⟨_,q⟩:=cF h.ho.2 z;rw[ha] at q;cases q
 exact⟨⟨v,jm,aF,Is.upd nx iv,Is.upd nx ij⟩,h.CS (bo h.pl ha (by simp[kindOf])),h.sD nx (bo hi ha (by simp[kindOf])),h.Ct nx (bo hs ha (by simp[kindOf])),h.DM nx (bo hba ha (by simp[kindOf])),
  h.Fx nx (bo h.ho.1 ha (by simp[kindOf])) hhs,h.C7 nx (bo h.no.1 ha (by simp[kindOf])) hns,h.CO nx (bo hre ha (by simp[kindOf])),h.nd,h.dd⟩
theorem bV.MG (h:bV C H a S o) {j:Jump} {v ub jm:V} (ha:H a=some (.ins C o.dx (MO o ub jm))) (iu:Is H (dO dL S.aH) ub) (iv:Is H (jt j) v):bV C (L2.upd H a (.ins C o.dx (MO o ub v))) a (bJ S (.cb j)) o:=by
 have nx:cP (H a):=by rw[ha];exact fun _ z=>by cases z
 obtain⟨_,hi,_⟩:=h.ins;obtain⟨_,hs,_⟩:=h.st;obtain⟨_,hba,_⟩:=h.ba;obtain⟨_,hre,_⟩:=h.re;have hns:a∉o.ns:=fun z=>by
  obtain⟨_,q⟩:=cF h.no.2 z;rw[ha] at q;cases q
 have hhs:a∉o.hs:=fun z=>by
  obtain⟨_,q⟩:=cF h.ho.2 z;rw[ha] at q;cases q
 exact⟨⟨ub,v,aF,Is.upd nx iu,Is.upd nx iv⟩,h.CS (bo h.pl ha (by simp[kindOf])),h.sD nx (bo hi ha (by simp[kindOf])),h.Ct nx (bo hs ha (by simp[kindOf])),h.DM nx (bo hba ha (by simp[kindOf])),
  h.Fx nx (bo h.ho.1 ha (by simp[kindOf])) hhs,h.C7 nx (bo h.no.1 ha (by simp[kindOf])) hns,h.CO nx (bo hre ha (by simp[kindOf])),h.nd,h.dd⟩
theorem bV.LQ (h:bV C H a S o) {pn:Str} {q:Addr} (hq:H q=some (.lst [])) (nq:q∉o.lists) (fr:pn∉S.holds.map (·.1)) :
  bV C (L2.upd H o.ho (.dK (putK ((S.holds.map fun x=>kS x.1).zip (o.hs.map V.ref)) (kS pn) (.ref q)))) a {S with holds:=S.holds++[(pn,[])]} {o with hs:=o.hs++[q]}:=by
 have d:=Nd.of h.nd;obtain⟨d1,d2,d3⟩:=Mu h.dd;have hb:=h.ho.1;have nx:cP (H o.ho):=by rw[hb];exact fun _ z=>by cases z
 obtain⟨ub,jm,ha,hub,hjm⟩:=h.obj;obtain⟨_,hba,_⟩:=h.ba;obtain⟨_,hre,_⟩:=h.re;have em:(S.holds.map fun x=>kS x.1)=(S.holds.map (·.1)).map kS:=by rw[zA];rfl
 have hns:o.ho∉o.ns:=fun z=>by
  obtain⟨_,q⟩:=cF h.no.2 z;rw[hb] at q;cases q
 have hhs:o.ho∉o.hs:=fun z=>by
  obtain⟨_,q⟩:=cF h.ho.2 z;rw[hb] at q;cases q
 have ll:(o.hs.map V.ref).length=S.holds.length:=by
  have:∀{ls:List (List (Int×Str))} {as:List Addr},cg H HG ls as->as.length=ls.length:=by
   intro ls
   induction ls with
   | nil=>intro as z;unfold cg at z;rw[z];rfl
   | cons l r ih=>rintro _ ⟨a,t,vs,rfl,_,_,h3⟩;rw[zt,zt,ih h3]
  rw[za,this h.ho.2,za]
 have nn:q∉[o.pl,o.ba,o.re]/\q∉o.hs/\q∉o.ns:=by
  unfold Ow.lists at nq;rw[zF,zF] at nq;exact⟨fun z=>nq (.inl (.inl z)),fun z=>nq (.inl (.inr z)),fun z=>nq (.inr z)⟩
 obtain⟨n1,n2,n3⟩:=nn;simp only[zC,zD,or_false,not_or] at n1;refine⟨⟨ub,jm,by rw[aG (bo ha hb (by simp[kindOf]))];exact ha,Is.upd nx hub,Is.upd nx hjm⟩,h.CS (bo h.pl hb (by simp[kindOf])),h.sD nx d2,h.Ct nx d3,h.DM nx (bo hba hb (by simp[kindOf])),
  ⟨?_,?_⟩,h.C7 nx (bo h.no.1 hb (by simp[kindOf])) hns,h.CO nx (bo hre hb (by simp[kindOf])),?_,h.dd⟩
 ·show L2.upd H o.ho _ o.ho=some (HO.dK (((S.holds++[((pn,[]):Str×List (Int×Str))]).map fun x:Str×List (Int×Str)=>kS x.1).zip ((o.hs++[q]).map V.ref)))
  rw[aF,rR (by rw[za];exact ll.symm) (by rw[em];exact wU fr),zj,zj];rfl
 ·show cg _ HG ((S.holds++[((pn,[]):Str×List (Int×Str))]).map fun x:Str×List (Int×Str)=>x.2) (o.hs++[q])
  rw[zj];exact cg.snoc (vs:=[]) (by rw[aG (bo hq hb (by simp[kindOf]))];exact hq) (by show L2.IsL _ [] [];unfold L2.IsL;rfl) (cg.upd nx hhs h.ho.2)
 ·refine Nd.to ⟨d.pb,d.pr,?_,d.pn,d.br,?_,d.bn,?_,d.rn,?_,d.nn,?_⟩
  ·show o.pl∉o.hs++[q]
   rw[zF,zy];rintro(z | z)
   ·exact d.ph z
   ·exact n1.1 z.symm
  ·show o.ba∉o.hs++[q]
   rw[zF,zy];rintro(z | z)
   ·exact d.bh z
   ·exact n1.2.1 z.symm
  ·show o.re∉o.hs++[q]
   rw[zF,zy];rintro(z | z)
   ·exact d.rh z
   ·exact n1.2.2 z.symm
  ·show(o.hs++[q]).Nodup
   rw[zR];exact⟨d.hh,by simp,fun x hx y hy e=>by rw[zy] at hy;subst hy;subst e;exact n2 hx⟩
  ·intro x hx z
   have hx':x∈o.hs++[q]:=hx;rw[zF,zy] at hx';rcases hx' with hx' | hx'
   ·exact d.hn x hx' z
   ·subst hx';exact n3 z
theorem bV.oE (h:bV C H a S o) {pn:Str} (nk:(S.holds.map (·.1)).Nodup) (hm:pn∈S.holds.map (·.1)) :
  ∃x vs,fi ((S.holds.map fun x=>kS x.1).zip (o.hs.map V.ref)) (kS pn)=some (.ref x)/\x∈o.hs/\H x=some (.lst vs)/\∀y b i,Is H (HG (b,i)) y->bV C (L2.upd H x (.lst (vs++[y]))) a (bJ S (.holds pn b i)) o:=by
 have d:=Nd.of h.nd;obtain⟨x,vs,e1,e2,e3,e4⟩:=B0 pn h.ho.2 d.hh nk hm;refine⟨x,vs,e1,e2,e3,fun y b i iy=>?_⟩;have nx:cP (H x):=by rw[e3];exact fun _ z=>by cases z
 obtain⟨ub,jm,ha,hub,hjm⟩:=h.obj;obtain⟨_,hi,_⟩:=h.ins;obtain⟨_,hs,_⟩:=h.st;have ea:bJ S (.holds pn b i)={S with holds:=S.holds.map fun q:Str×List (Int×Str)=>if q.1=pn then(q.1,q.2++[(b,i)]) else q}:=by
  show({S with holds:=fe S.holds pn (b,i)}:cJ)=_;unfold fe;rw[if_pos hm]
 rw[ea];refine⟨h.BS nx (bo ha e3 (by simp[kindOf])),h.CS (fun z=>d.ph (by rw[z];exact e2)),h.sD nx (bo hi e3 (by simp[kindOf])),h.Ct nx (bo hs e3 (by simp[kindOf])),h.DM nx (fun z=>d.bh (by rw[z];exact e2)),
  ⟨?_,e4 y (b,i) (Is.upd nx iy)⟩,h.C7 nx (bo h.no.1 e3 (by simp[kindOf])) (d.hn x e2),h.CO nx (fun z=>d.rh (by rw[z];exact e2)),h.nd,h.dd⟩
 rw[aG (bo h.ho.1 e3 (by simp[kindOf])),h.ho.1];show _=some (HO.dK (((S.holds.map fun q:Str×List (Int×Str)=>if q.1=pn then(q.1,q.2++[(b,i)]) else q).map fun x:Str×List (Int×Str)=>kS x.1).zip _));rw[zA];have:(S.holds.map fun x:Str×List (Int×Str)=>kS x.1)=S.holds.map ((fun x:Str×List (Int×Str)=>kS x.1)∘fun q:Str×List (Int×Str)=>if q.1=pn then(q.1,q.2++[(b,i)]) else q):=by
  refine List.map_congr_left fun q _=>?_;show kS q.1=kS (if q.1=pn then((q.1,q.2++[(b,i)]):Str×List (Int×Str)) else q).1;split <;> rfl
 rw[this]
end
end Sc
namespace L2
open PySem PySem.Spec PyProof.Rows
noncomputable def noStar:Expr->Bool
 | .Starred ..=>false
 | _=>true
theorem ou (h:noStar e=true):starEach (e::es) env=(false,eval e env)::starEach es env:=by
 cases e <;> first | rfl | (simp[noStar] at h)
theorem aa (ha:PE X e te) (hr:PA X es t) (hs:autoParam (noStar e=true) qe_):PA X (e::es) (bQ te t):=ah ha hr (ou hs)
end L2
namespace Sc
open PySem L2 Lm
theorem lP (F:Nat->Dt) (Pσ:St->Prop) (hn:n<=sizeLine) (h0:Pσ σ₀)
  (turn:∀(i:Nat) (σ:St) (H:Hp) (R:St->V->Hp->Prop),i<n->au H1 H->Pσ σ->(∀σ3 y H5,au H H5->Is H5 (F i) y->Pσ σ3->R σ3 y H5)->g (.int (lo+i)) σ H fun σ3 H3=>te σ3 H3 fun y H5=>R σ3 y H5)
  (fin:∀D vs H,au H1 H->H1 D=none->H D=some (.lst vs)->L2.IsL H ((List.range n).map F) vs->Q (.ref D) H):dS σ₀ g dt te Q (MJ lo n) H1:=by
 refine oj (ws:=List.range n) (enc:=fun i=>.int (lo+(i:Nat))) F Pσ (by rw[zQ];exact hn) h0 (fun i H hi _=>by rw[zQ] at hi;exact hi) (fun H _=>by rw[zQ];exact zk _) ?_ ?_ fin
 ·rintro i x H H2 hi _ ⟨rfl,rfl⟩
  exact⟨rfl,by rw[List.getElem_range]⟩
 ·intro i σ H R hi s p r
  exact turn i σ H R (List.mem_range.mp hi) s p r
theorem eE {c:Bool} {T:(Bool->Hp->Prop)->Prop} {Z:Bool->Hp->Prop} {H:Hp} (v:Bool) (h1:c=true->∀Z,Z v H->T Z) (h2:c=false->v=false) (hz:Z v H):if c=true then T Z else Z false H:=by
 cases c with
 | true=>rw[if_pos rfl];exact h1 rfl Z hz
 | false=>rw[if_neg (by simp)];rw[<-h2 rfl];exact hz
def Ew:List (Int×Int)->TA
 | []=>eO
 | p::r=>bQ (Eu (bQ (tC (.int p.1)) (bQ (tC (.int p.2)) eO))) (Ew r)
theorem LC:∀{ps:List (Int×Int)} {H:Hp} {R:List V->Hp->Prop},(∀vs H',au H H'->L2.IsL H' (ps.map dL) vs->R vs H')->Ew ps σ H R
 | [],H,R,h=>h [] H (au.refl _) cG
 | p::r,H,R,h=>by
  have sl:=yB;refine⟨by show 2<=sizeLine;omega,fun q hq=>?_⟩;refine LC fun vs H' s' il=>?_;have s1:=aZ (o:=HO.tup [.int p.1,.int p.2]) hq;exact h _ _ (s1.trans s') (aQ (iK (s' _ _ aF)) il)
def Ro (ps:List (Int×Int)):TE:=fun _ H Q=>∀D vs H',au H H'->H' D=some (.lst vs)->L2.IsL H' (ps.map dL) vs->Q (.ref D) H'
theorem ND (hl:ps.length<=1000) (h:Ro ps σ H Q):Ex (Ew ps) σ H Q:=by
 have sl:=yB;refine LC fun vs H' s' il=>⟨by have:=aS il;omega,fun D hD=>?_⟩
 exact h D vs _ (s'.trans (aZ hD)) aF (il.mono (aZ hD))
theorem Pp:PA X [] (Ew []):=af
theorem QJ (h:PA X es (Ew r)):PA X (.Tuple [.Constant (.int a) x1 p1,.Constant (.int b) x2 p2] k pos::es) (Ew ((a,b)::r)):=
 ah (bK (ah ae (ah ae af (ou rfl)) (ou rfl))) h (ou rfl)
theorem Pk (h:PA X es (Ew ps)) (hl:autoParam (ps.length<=1000) qb_):PE X (.List es pos) (Ro ps):=by
 intro pins s σ H Q I hq;exact bD h pins s σ H Q I (ND hl hq)
theorem sP (h:xs[xs.length-1]?=some x):Ci xs (-1)=some x:=by
 have hp:0<xs.length:=by
  have:=(zw.mp h).1;omega
 have ne:xs≠[]:=yq.mp hp;have e:=List.dropLast_concat_getLast ne;have e2:xs.getLast ne=x:=by
  have:=(zw.mp h).2;rw[List.getLast_eq_getElem];exact this
 rw[<-e,e2];exact L2.Al _ _
theorem yI:∀l:List Str,L2.IsL H (l.map Dt.str) (l.map V.str)
 | []=>cG
 | x::r=>aQ eT (yI r)
theorem wH (h:Is H (kQ b) v):∃a m q,v=.ref a/\H a=some (.tup [m,.int b.key,.ref q])/\Is H (dL b.aT) m/\H q=some (.tup (b.marks.map V.str)):=by
 unfold kQ Is at h;obtain⟨a,vs,rfl,ha,hl⟩:=h;unfold L2.IsL at hl;obtain⟨v1,r1,rfl,h1,hl⟩:=hl;unfold L2.IsL at hl;obtain⟨v2,r2,rfl,h2,hl⟩:=hl;unfold L2.IsL at hl;obtain⟨v3,r3,rfl,h3,hl⟩:=hl;unfold L2.IsL at hl;subst hl;unfold Is at h2;subst h2;unfold mO Is at h3;obtain⟨q,us,rfl,hq,hle⟩:=h3;rw[dR hle] at hq;exact⟨a,v1,q,rfl,ha,h1,hq⟩
noncomputable def lets:Str:="abcdefghijklmnopqrstuvwxyz"
theorem L3:∀j:Fin 26,lets.cps.toList[j.val]?=some (97+j.val):=by decide
theorem IG (h0:0<=i) (h:i<26):Ci lets.cps.toList i=some (97+i.toNat):=by
 obtain⟨j,rfl⟩:=Int.eq_ofNat_of_zero_le h0;exact bF (L3 ⟨j,nofun⟩)
theorem M6:∀j:Fin 36,(lets ++"0123456789").cps.toList[j.val]?=some (sgn.getD j.val 0)/\sgn.getD j.val 0∈sgn:=by decide
theorem O6 (h0:0<=i) (h:i<36):∃c,c∈sgn/\Ci (lets ++"0123456789").cps.toList i=some c:=by
 obtain⟨j,rfl⟩:=Int.eq_ofNat_of_zero_le h0;have:=M6 ⟨j,nofun⟩;exact⟨_,this.2,bF this.1⟩
noncomputable def M7 (i:Int):Nat:=(Ci (lets ++"0123456789").cps.toList i).getD 0
theorem Lc (h0:0<=i) (h:i<36):Ci (lets ++"0123456789").cps.toList i=some (M7 i)/\M7 i∈sgn:=by
 obtain⟨c,h1,h2⟩:=O6 h0 h;unfold M7;rw[h2];exact⟨rfl,h1⟩
theorem IH:∀j:Fin 26,97+j.val∈sgn:=by decide
theorem L4 {i:Int} (h0:0<=i) (h:i<26):97+i.toNat∈sgn:=IH ⟨i.toNat,nofun⟩
theorem Ol (h1:1<=n.length) (h2:n.length<=12) (h3:∀c∈n.cps.toList,c∈sgn):gk n:=by
 unfold gk cH;rw[if_neg nofun,if_neg nofun,if_pos (yo.mpr fun c hc=>ze (h3 c hc))]
def AB (ns:List Str):Prop:=(∀n∈ns,gk n)/\ns.Nodup
theorem tZ:∀{l:List α},l.Nodup->(∀x∈l,∀y∈l,f x=f y->x=y)->(l.map f).Nodup
 | [],_,_=>List.nodup_nil
 | x::r,h,k=>by
  rw[yc] at h;rw[zh,yc];refine⟨fun z=>?_,tZ h.2 fun a ha b hb e=>k a (zm _ ha) b (zm _ hb) e⟩;obtain⟨y,hy,e⟩:=zG.mp z;have:=k y (zm _ hy) x zp e;subst this;exact h.1 hy
theorem JJ (hm:m<=12) (hc:c∈sgn):AB ((List.range m).map fun k=>qk ⟨#[c]⟩ (m-k)):=by
 have el:∀k,(qk ⟨#[c]⟩ k).length=k:=fun k=>by rw[EU];exact Nat.mul_one k
 refine⟨fun n hn=>?_,tZ List.nodup_range fun x hx y hy e=>?_⟩
 ·obtain⟨k,hk,rfl⟩:=zG.mp hn
  have:=List.mem_range.mp hk;refine Ol (by rw[el];omega) (by rw[el];omega) fun d hd=>?_;rw[rL] at hd;obtain⟨l,hl,hd⟩:=List.mem_flatten.mp hd;rw[List.mem_replicate] at hl;rw[hl.2] at hd;have:d=c:=by simpa using hd
  rw[this];exact hc
 ·have:=congrArg Str.length e
  rw[el,el] at this;have:=List.mem_range.mp hx;have:=List.mem_range.mp hy;omega
theorem G6 {stem:Str} {pl first m:Nat} (hs:stem.length<=11) (hp:pl<=stem.length) (hc:∀c∈stem.cps.toList,c∈sgn) (hm:m<=26) :
  AB ((List.range m).map fun k=>Txt.slice stem none (some (pl:Int))++⟨#[97+(first+5*k)%26]⟩++Txt.slice stem (some (pl:Int)) none):=by
 have sl:stem.cps.toList.length=stem.length:=Array.length_toList;have cp:∀k,(Txt.slice stem none (some (pl:Int))++⟨#[97+(first+5*k)%26]⟩++Txt.slice stem (some (pl:Int)) none).cps.toList=stem.cps.toList.take pl++[97+(first+5*k)%26]++stem.cps.toList.drop pl:=fun k=>by
  rw[cD,cD,EI stem hp,pW stem hp]
 refine⟨fun n hn=>?_,tZ List.nodup_range fun x hx y hy e=>?_⟩
 ·obtain⟨k,hk,rfl⟩:=zG.mp hn
  have el:(Txt.slice stem none (some (pl:Int))++⟨#[97+(first+5*k)%26]⟩++Txt.slice stem (some (pl:Int)) none).length=stem.length+1:=by
   rw[<-show _=(Txt.slice stem none (some (pl:Int))++⟨#[97+(first+5*k)%26]⟩++Txt.slice stem (some (pl:Int)) none).length from Array.length_toList,cp,zg,zg,zP,List.length_drop,List.length_singleton];omega
  refine Ol nofun nofun fun d hd=>?_;rw[cp,zF,zF,zy] at hd;rcases hd with(hd | hd) | hd
  ·exact hc d (List.mem_of_mem_take hd)
  ·rw[hd];exact IH ⟨(first+5*k)%26,Nat.mod_lt _ (by decide)⟩
  ·exact hc d (List.mem_of_mem_drop hd)
 ·have q:(Txt.slice stem none (some (pl:Int))++⟨#[97+(first+5*x)%26]⟩++Txt.slice stem (some (pl:Int)) none).cps.toList=(Txt.slice stem none (some (pl:Int))++⟨#[97+(first+5*y)%26]⟩++Txt.slice stem (some (pl:Int)) none).cps.toList:=by rw[e]
  rw[cp,cp,zE,zE] at q;have q2:=List.append_cancel_left q;simp at q2;have:=List.mem_range.mp hx;have:=List.mem_range.mp hy;omega
theorem su:∀zs:List Str,(Str.join "" zs).cps.toList=(zs.map fun z:Str=>z.cps.toList).flatten
 | []=>rfl
 | [z]=>by rw[join_one];simp
 | z::y::r=>by
  rw[fb,cD,cD,su (y::r)];show z.cps.toList++[]++_=_;rw[zU];rfl
noncomputable def m7 (c:Int) (n:Nat):List Str:=(List.range n).map fun k=>⟨#[M7 ((c/16224+7*(0+(k:Nat)))%36)]⟩
theorem FG (f:α->β):∀l:List α,((l.map f).map fun x=>[x]).flatten=l.map f
 | []=>rfl
 | x::r=>by rw[zh,zh,z9,FG f r];rfl
theorem Ez (c:Int) (n:Nat):(Str.join "" (m7 c n)).cps.toList=(List.range n).map fun k:Nat=>M7 ((c/16224+7*(0+(k:Nat)))%36):=by
 rw[su];unfold m7;rw[zA];have:=FG (fun k:Nat=>M7 ((c/16224+7*(0+(k:Nat)))%36)) (List.range n);rw[zA] at this;exact this
theorem K8 (c:Int) (n:Nat):(Str.join "" (m7 c n)).length=n:=by
 rw[<-show _=(Str.join "" (m7 c n)).length from Array.length_toList,Ez,za,zQ]
theorem K7:∀d∈(Str.join "" (m7 c n)).cps.toList,d∈sgn:=fun d hd=>by
 rw[Ez] at hd;obtain⟨k,_,rfl⟩:=zG.mp hd;exact(Lc (zv _ (by decide)) (zr _ (by decide))).2
theorem K6 (c:Int) (n:Nat):((m7 c n).map (fun z:Str=>z.length+("": Str).length)).sum=n:=by
 unfold m7;rw[zA];have:((fun z:Str=>z.length+("": Str).length)∘fun k:Nat=>(⟨#[M7 ((c/16224+7*(0+(k:Nat)))%36)]⟩:Str))=fun _=>1:=rfl;rw[this,List.map_const',List.sum_replicate_nat,zQ,Nat.mul_one]
end Sc
namespace Sc
open PySem L2 Lm
theorem cM (n:H D=none) (s:au H H2):au H (L2.upd H2 D u):=fun b v hb=>by
 rw[aG (fun z=>by rw[z,n] at hb;cases hb)];exact s b v hb
def Ed (its:List Item) (x:Int×Int):Prop:=its.length<=40/\(∀it∈its,Ks it)/\j7 its=x/\its.all (fun it=>it.1.isNone)=false
def Kr (x:Int×Int):Prop:=Lm.Rd x/\0<x.1/\x.1<=32/\x.2<=160
theorem GJ (l:List Item) (it:Item):j7 (l++[it])=add (j7 l) it.2:=by unfold j7;rw[zX];rfl
theorem K2 {x:Int×Int} (hx:0<x.2) {W:Int} (hW:0<W) {l:List Item} {t w:Int} {it:Item} (h:j7 l=red (x.1*t) (x.2*W)) (e:it.2=red (x.1*w) (x.2*W)):j7 (l++[it])=red (x.1*(t+w)) (x.2*W):=by
 have hb:0<x.2*W:=Int.mul_pos hx hW;rw[GJ,h,e,NZ hb hb,<-rM hb hb (t:=x.1*(t+w))]
 congr 1
 rw[<-Int.add_mul,<-Int.mul_add,Int.mul_comm]
theorem K3 {x:Int×Int} (hx:0<x.2) {W:Int} (hW:0<W):j7 []=red (x.1*0) (x.2*W):=by
 have hb:0<x.2*W:=Int.mul_pos hx hW;show((0,1):Int×Int)=_;rw[Int.mul_zero];have:=rM (t:=0) (b:=1) (k:=x.2*W) hb (by decide);rw[Int.mul_zero,Int.mul_one] at this;rw[this];decide
theorem Jr (hx:Lm.Rd x) (hW:0<W):red (x.1*W) (x.2*W)=x:=by
 obtain⟨_,p2,p3⟩:=hx.pos;rw[Int.mul_comm x.1,Int.mul_comm x.2,rM hW p2,p3]
theorem LY (h:Kr x) (w1:1<=w) (w2:w<=4) (W1:1<=W) (W2:W<=24):MT (red (x.1*w) (x.2*W)):=by
 obtain⟨hr,h1,h2,h3⟩:=h;obtain⟨_,p2,_⟩:=hr.pos;have a1:0<x.1*w:=Int.mul_pos h1 nofun;have a2:x.1*w<=32*4:=Int.mul_le_mul h2 w2 nofun (by decide);have b1:0<x.2*W:=Int.mul_pos p2 nofun;have b2:x.2*W<=160*24:=Int.mul_le_mul h3 W2 nofun (by decide);obtain⟨g,g1,g2,g3,g4,g5⟩:=lB (t:=x.1*w) b1;have r1:=xN (t:=x.1*w) (b:=x.2*W) (Int.le_of_lt a1);refine⟨Lm.Rd.of (Int.le_of_lt a1) b1,?_,nofun,nofun⟩;have r0:=xM (t:=x.1*w) (b:=x.2*W) (Int.le_of_lt a1);rcases Int.lt_or_eq_of_le r0 with z | z
 ·exact z
 ·rw[<-z,Int.mul_zero] at g2;omega
noncomputable def sW (m:Int) (n:Nat):List Int:=(List.range n).map fun j=>1+m/(7+5*(0+(j:Nat)))%4
theorem MV (m:Int) (n:Nat):(sW m n).length=n:=by unfold sW;rw[za,zQ]
theorem GA (h:w∈sW m n):1<=w/\w<=4:=by
 unfold sW at h;obtain⟨j,_,rfl⟩:=zG.mp h;have a:=zv (m/(7+5*(0+(j:Int)))) (b:=4) (by decide);have b:=zr (m/(7+5*(0+(j:Int)))) (b:=4) (by decide);omega
theorem K4:∀{l:List Int},(∀w∈l,1<=w/\w<=4)->(l.length:Int)<=l.sum/\l.sum<=4*l.length
 | [],_=>by simp
 | w::r,h=>by
  have ih:=K4 (l:=r) fun z hz=>h z (zm _ hz);have:=h w zp;rw[List.sum_cons,zt];omega
theorem JE (m:Int):MI (m%41-20,7*(m%41-20)%12+(m/41%14-7)*12):=by
 have a:=zv m (b:=41) (by decide);have b:=zr m (b:=41) (by decide);have c:=zv (m/41) (b:=14) (by decide);have d:=zr (m/41) (b:=14) (by decide);unfold MI;dsimp only;omega
theorem join {c:Bool} {t1 t2:TS} {D:Ends} {σ:St} {H:Hp} (P:St->Hp->Prop) (ha:∀N:St->Hp->Prop,(∀σ H,P σ H->N σ H)->c=true->t1 {D with nx:=N} σ H)
  (hb:∀N:St->Hp->Prop,(∀σ H,P σ H->N σ H)->c=false->t2 {D with nx:=N} σ H) (hN:∀σ H,P σ H->D.nx σ H):if c=true then t1 D σ H else t2 D σ H:=by
 cases c with
 | true=>rw[if_pos rfl];exact ha D.nx hN rfl
 | false=>rw[if_neg (by simp)];exact hb D.nx hN rfl
def RL (R:α->V->Prop):List α->List V->Prop
 | [],vs=>vs=[]
 | x::xs,vs=>∃v r,vs=v::r/\R x v/\RL R xs r
theorem RL.imp {α:Type} {R R':α->V->Prop} (h:∀x v,R x v->R' x v):∀{xs:List α} {vs:List V},RL R xs vs->RL R' xs vs
 | [],_,e=>e
 | _::_,_,⟨v,r,e,h1,h2⟩=>⟨v,r,e,h _ _ h1,RL.imp h h2⟩
theorem RL.snoc {α:Type} {R:α->V->Prop} {x:α} {v:V} (h:R x v):∀{xs:List α} {vs:List V},RL R xs vs->RL R (xs++[x]) (vs++[v])
 | [],_,e=>by unfold RL at e;subst e;exact⟨v,[],rfl,h,rfl⟩
 | _::_,_,⟨u,r,e,h1,h2⟩=>by subst e;exact⟨u,r++[v],rfl,h1,RL.snoc h h2⟩
theorem RL.len:∀{xs:List α} {vs:List V},RL R xs vs->vs.length=xs.length
 | [],_,e=>by unfold RL at e;rw[e];rfl
 | _::_,_,⟨u,r,e,_,h2⟩=>by rw[e,zt,zt,RL.len h2]
theorem RL.at:∀{xs:List α} {vs:List V} {i:Nat} {v:V},RL R xs vs->vs[i]?=some v->∃x,xs[i]?=some x/\R x v
 | [],_,_,_,e,h=>by unfold RL at e;subst e;simp at h
 | x::_,_,0,_,⟨u,r,e,h1,_⟩,h=>by subst e;simp at h;subst h;exact⟨x,rfl,h1⟩
 | _::_,_,i+1,_,⟨u,r,e,_,h2⟩,h=>by subst e;simpa using RL.at (i:=i) h2 (by simpa using h)
def jC (D:Addr) (H:Hp) (x:Str×List (Int×Str)) (v:V):Prop:=∃a r us,v=.ref a/\H a=some (.tup [.str x.1,.ref r])/\H r=some (.lst us)/\L2.IsL H (x.2.map HG) us/\r≠D
theorem jC.mono (s:au H H') (h:jC D H x v):jC D H' x v:=by
 obtain⟨a,r,us,h1,h2,h3,h4,h5⟩:=h;exact⟨a,r,us,h1,s _ _ h2,s _ _ h3,h4.mono s,h5⟩
theorem jC.upd (hD:H D=some (.lst vs)) (h:jC D H x v):jC D (L2.upd H D o) x v:=by
 obtain⟨a,r,us,h1,h2,h3,h4,h5⟩:=h;have nt:cP (H D):=by rw[hD];exact fun _ z=>by cases z
 exact⟨a,r,us,h1,by rw[aG (Sc.bo h2 hD (by simp[kindOf]))];exact h2,by rw[aG h5];exact h3,IsL.upd nt h4,h5⟩
def ik (D:Addr) (H:Hp) (x:(Int×Str)×List Item) (v:V):Prop:=∃a q us,v=.ref a/\H a=some (.tup [.int x.1.1,.str x.1.2,.ref q])/\H q=some (.lst us)/\L2.IsL H (x.2.map eV) us/\q≠D
theorem ik.mono (s:au H H') (h:ik D H x v):ik D H' x v:=by
 obtain⟨a,r,us,h1,h2,h3,h4,h5⟩:=h;exact⟨a,r,us,h1,s _ _ h2,s _ _ h3,h4.mono s,h5⟩
theorem ik.upd (hD:H D=some (.lst vs)) (h:ik D H x v):ik D (L2.upd H D o) x v:=by
 obtain⟨a,r,us,h1,h2,h3,h4,h5⟩:=h;have nt:cP (H D):=by rw[hD];exact fun _ z=>by cases z
 exact⟨a,r,us,h1,by rw[aG (Sc.bo h2 hD (by simp[kindOf]))];exact h2,by rw[aG h5];exact h3,IsL.upd nt h4,h5⟩
def I9 (ins:List Str) (many:Int) (row:List (Int×Str)):Prop:=row≠[]/\row.length<=4/\(row.map (·.1)).Pairwise (·<·)/\∀h∈row,0<=h.1/\h.1<many/\h.2∈ins
noncomputable def eN (S:cJ):List Told:=
 S.players.map .bG++(S.ak.map fun x=>.cI x.1 x.2.1 x.2.2)++(S.aK.map fun x=>.cm x.1 x.2)++S.aP.map .bar++S.aH.toList.map .aH ++
 (S.holds.map fun x=>x.2.map fun h=>Told.holds x.1 h.1 h.2).flatten++(S.aJ.map fun x=>.aJ x.1.1 x.1.2 x.2)++(S.repeats.map .rep++S.cb.toList.map .cb)
structure vn (H:Hp) (p:Addr) (S:cJ):Prop where
 at':∃pl il sl bl hl nl rl:Addr,∃ub jm:V,∃iv sv bv hv nv rv:List V,H p=some (.tup [.ref pl,.ref il,.ref sl,.ref bl,ub,.ref hl,.ref nl,.ref rl,jm])/\H pl=some (.lst (S.players.map V.str))/\
  (H il=some (.lst iv)/\L2.IsL H (S.ak.map eG) iv)/\(H sl=some (.lst sv)/\L2.IsL H (S.aK.map gB) sv)/\(H bl=some (.lst bv)/\L2.IsL H (S.aP.map kQ) bv)/\Is H (dO dL S.aH) ub/\
  (H hl=some (.lst hv)/\RL (jC hl H) S.holds hv)/\(H nl=some (.lst nv)/\RL (ik nl H) S.aJ nv)/\(H rl=some (.lst rv)/\L2.IsL H (S.repeats.map jD) rv)/\Is H (dO jt S.cb) jm
theorem vn.mono (s:au H H') (h:vn H p S):vn H' p S:=by
 obtain⟨pl,il,sl,bl,hl,nl,rl,ub,jm,iv,sv,bv,hv,nv,rv,h1,h2,h3,h4,h5,h6,h7,h8,h9,ha⟩:=h.at';exact⟨⟨pl,il,sl,bl,hl,nl,rl,ub,jm,iv,sv,bv,hv,nv,rv,s _ _ h1,s _ _ h2,⟨s _ _ h3.1,h3.2.mono s⟩,⟨s _ _ h4.1,h4.2.mono s⟩,⟨s _ _ h5.1,h5.2.mono s⟩,h6.mono s,⟨s _ _ h7.1,h7.2.imp fun x v z=>z.mono s⟩,⟨s _ _ h8.1,h8.2.imp fun x v z=>z.mono s⟩,⟨s _ _ h9.1,h9.2.mono s⟩,ha.mono s⟩⟩
theorem bw (h1:-10000<n) (h2:n<10000):(dec n).length<=5:=by
 by_cases h:0<=n
 ·have:=FU h h2;omega
 ·rw[wN nofun,len_app]
  have:=FU (n:=-n) nofun nofun;have:("-": Str).length=1:=rfl;omega
theorem bN (h1:-10000<n) (h2:n<10000):n.natAbs.log2<1920:=by
 by_cases z:n.natAbs=0
 ·rw[z];decide
 ·exact yb ((Nat.log2_lt z).mpr (show n.natAbs<2^14 by omega)) (by decide)
theorem kK (h1:-10000<x.1) (h2:x.1<10000) (h3:-10000<x.2) (h4:x.2<10000):(iI x).length<=11:=by
 unfold iI;have a:=bw h1 h2;have b:=bw h3 h4;split
 ·omega
 ·rw[len_app,len_app]
  have:("/": Str).length=1:=rfl;omega
theorem JR (h:Ks it):(qE it).length<=30:=by
 obtain⟨o,x⟩:=it;obtain⟨⟨hr,h1,h2,h3⟩,hq⟩:=h;obtain⟨_,p2,_⟩:=hr.pos;dsimp only at h1 h2 h3 p2 hq;have lx:=kK (x:=x) nofun h2 nofun h3;cases o with
 | none=>
  show("r:" ++ iI x).length<=30;rw[len_app];have:("r:": Str).length=2:=rfl;omega
 | some q=>
  obtain⟨q1,q2,q3,q4,_⟩:=hq q rfl;have a:=bw (n:=q.1) nofun nofun;have b:=bw (n:=q.2) nofun nofun;show(dec q.1 ++":" ++ dec q.2 ++":" ++ iI x).length<=30;rw[len_app,len_app,len_app,len_app];have:(":": Str).length=1:=rfl;omega
theorem pQ {sep:Str} {k:Nat}:∀{zs:List Str},(∀z∈zs,z.length<=k)->(zs.map (fun z:Str=>z.length+sep.length)).sum<=zs.length*(k+sep.length)
 | [],_=>by simp
 | z::r,h=>by
  have ih:=pQ (sep:=sep) (zs:=r) fun y hy=>h y (zm _ hy);have:=h z zp;rw[zh,List.sum_cons,zt,Nat.succ_mul];omega
theorem join_le (sep:Str):∀zs:List Str,(Str.join sep zs).length<=(zs.map (fun z:Str=>z.length+sep.length)).sum
 | []=>zk _
 | [z]=>by rw[join_one];simp
 | z::y::r=>by
  have ih:=join_le sep (y::r);rw[fb,len_app,len_app,zh,List.sum_cons];omega
theorem yH (h:∀z∈zs,z.length<=k):(Str.join sep zs).length<=zs.length*(k+sep.length):=zL (join_le sep zs) (pQ h)
def Kp (r:Rep):Prop:=Oz (.rep r)/\r.ends.length<=9/\∀e∈r.ends,e.2.length<=9
theorem FL (h:SH e) (hl:e.2.length<=9):(oW e).length<=60:=by
 obtain⟨h1,h2,h3,h4⟩:=h;have a:=bw (n:=e.1) nofun nofun;have b:(Str.join "," (e.2.map dec)).length<=(e.2.map dec).length*(5+(",": Str).length):=yH fun z hz=>by
  obtain⟨p,hp,rfl⟩:=zG.mp hz;have:=h4 p hp;exact bw nofun nofun
 have l1:(":": Str).length=1:=rfl;have l2:(",": Str).length=1:=rfl;rw[za,l2] at b;unfold oW;rw[len_app,len_app];omega
theorem Iw (h1:ns.Perm l) (h2:ns.Pairwise (·<=·)):sortI l=ns:=by
 unfold sortI;refine(List.Perm.eq_of_pairwise (le:=fun a b:Int=>a<=b) (fun a b _ _ x y=>Int.le_antisymm x y) h2 ?_ (h1.trans (List.mergeSort_perm _ _).symm)).symm;have:=List.pairwise_mergeSort (le:=fun a b:Int=>decide (a<=b)) (fun a b c x y=>by simp at x y ⊢;omega) (fun a b=>by simp;omega) l;exact this.imp fun h=>yd h
theorem yR:∀{es:List End} {a:Int} {ps:List Int},(es.map (·.1)).Pairwise (·<·)->(∀e∈es,a<e.1)->(∀e∈es,e.2.Pairwise (·<=·))->f9 es a ps=some (((es.map (·.1)).getLast?).getD a,ps++(es.map (·.2)).flatten)
 | [],a,ps,_,_,_=>by simp[f9]
 | e::r,a,ps,h1,h2,h3=>by
  rw[zh,List.pairwise_cons] at h1;have ih:=yR (es:=r) (a:=e.1) (ps:=ps++e.2) h1.2 (fun x hx=>h1.1 _ (zO (f:=fun y:End=>y.1) hx)) (fun x hx=>h3 x (zm _ hx));show(if e.1<=a then none else if e.2≠sortI e.2 then none else f9 r e.1 (ps++e.2))=_;have c1:=h2 e zp;rw[if_neg nofun,if_neg (fun z=>z (Iw (List.Perm.refl _) (h3 e zp)).symm),ih,zh,zh,z9,zE]
  congr 2
  cases r with
  | nil=>rfl
  | cons x t=>rw[zh,List.getLast?_cons_cons,List.getLast?_cons];rfl
theorem FF:∀{n:Nat},k<n->((List.range n).map fun i=>if i=k then g i++[x] else g i).flatten.Perm (((List.range n).map g).flatten++[x])
 | 0,h=>nofun
 | n+1,h=>by
  rw[List.range_succ,zj,zj,List.flatten_append,List.flatten_append];simp only[zh,ym,z9,List.flatten_nil,zU]
  by_cases e:n=k
  ·rw[if_pos e,<-zE]
   have:((List.range n).map fun i=>if i=k then g i++[x] else g i)=(List.range n).map g:=List.map_congr_left fun i hi=>by
    have:=List.mem_range.mp hi;rw[if_neg nofun]
   rw[this]
  ·rw[if_neg e]
   have ih:=FF (g:=g) (x:=x) (k:=k) (n:=n) nofun;refine(ih.append_right _).trans ?_;rw[zE,zE];exact List.Perm.append_left _ (List.perm_append_comm)
noncomputable def cN (sp:Nat->Nat):Nat->Nat->List Int
 | 0,_=>[]
 | k+1,i=>if i=sp k then cN sp k i++[(k:Int)+1] else cN sp k i
theorem rV:∀{k:Nat},p∈cN sp k i->∃j,j<k/\p=(j:Int)+1/\i=sp j
 | 0,h=>by cases h
 | k+1,h=>by
  unfold cN at h;split at h
  ·rename_i e
   rcases zF.mp h with h | h
   ·obtain⟨j,h1,h2⟩:=rV h
    exact⟨j,nofun,h2⟩
   ·exact⟨k,nofun,by simpa using h,e⟩
  ·obtain⟨j,h1,h2⟩:=rV h
   exact⟨j,nofun,h2⟩
theorem xW:∀{k:Nat},(cN sp k i).Pairwise (·<=·)
 | 0=>List.Pairwise.nil
 | k+1=>by
  unfold cN;split
  ·rw[zT]
   refine⟨xW,by simp,fun a ha b hb=>?_⟩;obtain⟨j,h1,h2,_⟩:=rV ha;have:b=(k:Int)+1:=by simpa using hb
   omega
  ·exact xW
theorem E7 (e:i=sp j):∀{k:Nat},j<k->((j:Int)+1)∈cN sp k i
 | 0,h=>nofun
 | k+1,h=>by
  unfold cN
  by_cases c:j=k
  ·subst c
   rw[if_pos e];exact zH _ (zy.mpr rfl)
  ·have ih:=E7 e (k:=k) nofun
   split
   ·exact zI _ ih
   ·exact ih
theorem xV:∀{k:Nat},(cN sp k i).length<=k
 | 0=>zk _
 | k+1=>by
  have ih:=xV (sp:=sp) (i:=i) (k:=k);unfold cN;split
  ·rw[zg];simp;omega
  ·omega
theorem BO:∀{k:Nat},(∀j,j<k->sp j<n)->((List.range n).map (cN sp k)).flatten.Perm (JA 1 k)
 | 0,_=>by
  have:((List.range n).map (cN sp 0)).flatten=[]:=by
   rw[List.flatten_eq_nil_iff];intro l hl;obtain⟨i,_,rfl⟩:=zG.mp hl;rfl
  rw[this];exact List.Perm.refl _
 | k+1,h=>by
  have ih:=BO (sp:=sp) (n:=n) (k:=k) fun j hj=>h j nofun;have e:(List.range n).map (cN sp (k+1))=(List.range n).map fun i=>if i=sp k then cN sp k i++[(k:Int)+1] else cN sp k i:=List.map_congr_left fun i _=>by rw[cN]
  rw[e];refine(FF (h k nofun)).trans ?_;unfold JA at ih ⊢;rw[List.range_succ,zj];refine(ih.append_right _).trans ?_;rw[List.map_singleton,Int.add_comm]
theorem Nb (k:Nat):(JA 1 k).Pairwise (·<=·):=by
 unfold JA;rw[List.pairwise_map];exact(List.pairwise_lt_range).imp fun h=>nofun
noncomputable def sG (bs:List Int) (sp:Nat->Nat) (t:Nat):List End:=bs.zip ((List.range bs.length).map (cN sp t))
theorem Ej:∀{a:List α} {b:List β},a.length=b.length->(a.zip b).map (·.1)=a
 | [],[],_=>rfl
 | x::xs,y::ys,h=>by rw[List.zip_cons_cons,zh,Ej (by simpa using h)]
 | [],_::_,h=>by simp at h
 | _::_,[],h=>by simp at h
theorem Ei:∀{a:List α} {b:List β},a.length=b.length->(a.zip b).map (·.2)=b
 | [],[],_=>rfl
 | x::xs,y::ys,h=>by rw[List.zip_cons_cons,zh,Ei (by simpa using h)]
 | [],_::_,h=>by simp at h
 | _::_,[],h=>by simp at h
theorem kO:(sG bs sp t).map (·.1)=bs:=Ej (by simp)
theorem ug:(sG bs sp t).map (·.2)=(List.range bs.length).map (cN sp t):=Ei (by simp)
theorem J1:(sG bs sp t).length=bs.length:=by
 have:=congrArg List.length (kO (bs:=bs) (sp:=sp) (t:=t))
 rwa [za] at this
theorem uh (h:e∈sG bs sp t):e.1∈bs/\∃i,i<bs.length/\e.2=cN sp t i:=by
 have h1:=zO (f:=fun x:End=>x.1) h;have h2:=zO (f:=fun x:End=>x.2) h;rw[kO] at h1;rw[ug] at h2;obtain⟨i,hi,e2⟩:=zG.mp h2;exact⟨h1,i,List.mem_range.mp hi,e2.symm⟩
def Jc (first last times:Int) (es:List End):Prop:=gb ⟨first,last,times,es⟩=true/\es.length<=9/\(∀e∈es,first<=e.1/\e.1<=last/\e.2≠[]/\e.2.length<=9/\∀p∈e.2,0<=p/\p<1000)/\((es.map (·.2)).flatten).length<=9/\(es.map (·.1)).Pairwise (·<·)
theorem JZ:Jc first last times []:=⟨rfl,by decide,by simp,by simp,by simp⟩
theorem Hu (t9:t<=9) (ne:bs≠[]) (asc:bs.Pairwise (·<·)) (hin:∀b∈bs,first<=b/\b<=last) (hsp:∀j,j<t->sp j<bs.length) (hon:∀i,i<bs.length->∃j,j<t/\sp j=i) (bt:bs.length<=t):Jc first last t (sG bs sp t):=by
 have pm:=BO (k:=t) hsp;have pl:((List.range bs.length).map (cN sp t)).flatten.length=t:=by rw[pm.length_eq];unfold JA;simp
 refine⟨?_,by rw[J1];omega,fun e he=>?_,by rw[ug,pl];exact t9,by rw[kO];exact asc⟩
 ·have e1:=yR (es:=sG bs sp t) (a:=first-1) (ps:=[]) (by rw[kO];exact asc) (fun e he=>by have:=hin _ (uh he).1;omega) (fun e he=>by obtain⟨_,i,_,e2⟩:=uh he;rw[e2];exact xW)
  have e2:sortI (([]:List Int)++((sG bs sp t).map (·.2)).flatten)=JA 1 t:=by rw[List.nil_append,ug];exact Iw pm.symm (Nb t)
  unfold gb;dsimp only;cases q:sG bs sp t with
  | nil=>rfl
  | cons x r=>
   rw[q] at e1 e2;dsimp only;rw[e1];dsimp only;rw[e2,show((t:Int)+1-1).toNat=t by omega,ze rfl,Bool.and_true,decide_eq_true_eq,<-q,kO];cases q2:bs.getLast? with
   | none=>exact absurd (List.getLast?_eq_none_iff.mp q2) ne
   | some b=>exact(hin b (List.mem_of_getLast? q2)).2
 ·obtain⟨hb,i,hi,e2⟩:=uh he
  obtain⟨j,hj,ej⟩:=hon i hi;refine⟨(hin _ hb).1,(hin _ hb).2,?_,?_,fun p hp=>?_⟩
  ·rw[e2];exact List.ne_nil_of_mem (E7 ej.symm hj)
  ·rw[e2];have:=xV (sp:=sp) (i:=i) (k:=t);omega
  ·rw[e2] at hp
   obtain⟨j,h1,h2,_⟩:=rV hp;omega
theorem M3 {n c:Nat} {i:Nat} (hi:i<n):∃j,j<n/\(j+c)%n=i:=by
 refine⟨(i+(n-c%n))%n,Nat.mod_lt _ nofun,?_⟩;have hc:c%n<n:=Nat.mod_lt _ nofun;rw[Nat.add_mod,Nat.mod_mod,<-Nat.add_mod];have e:i+(n-c%n)+c=i+n+n*(c/n):=by
  have:=Nat.div_add_mod c n;omega
 rw[e,Nat.add_mul_mod_self_left,Nat.add_mod_right,Nat.mod_eq_of_lt hi]
theorem Jj (Pv:Nat->St->Hp->Prop) (Pe:St->Hp->Prop) (h0:∃m,Pv m σ H)
  (turn:∀m σ H,Pv m σ H->∀N:St->Hp->Prop,(∀σ H,Pe σ H->N σ H)->c σ H fun b H1=>if b=true then∃N':St->Hp->Prop,(∀σ' H',N' σ' H'->∃m',m'<m/\Pv m' σ' H')/\tb {D with nx:=N',ct:=N',bk:=N} σ H1 else N σ H1)
  (hd:∀σ H,Pe σ H->D.nx σ H):KY c tb D σ H:=⟨Pv,h0,fun m σ H p=>turn m σ H p D.nx hd⟩
theorem ID {c:Bool} {T:(Bool->Hp->Prop)->Prop} {Z:Bool->Hp->Prop} {H:Hp} (v:Bool) (h1:c=false->∀Z,Z v H->T Z) (h2:c=true->v=true) (hz:Z v H):if c=true then Z true H else T Z:=by
 cases c with
 | false=>rw[if_neg (by simp)];exact h1 rfl Z hz
 | true=>rw[if_pos rfl];rw[<-h2 rfl];exact hz
theorem HJ {K:yA} {α:Type} {t1 t2:Bool} {a b:Addr} {ws:List α} {e1 e2:α->V} {σ₀:St} {g:TG} {te:TE} {Q:VK} {H1:Hp} (F:α->Dt) (Pσ:St->Prop) (hn:ws.length<=sizeLine) (ha:Bx t1 K H1 a (ws.map e1)) (hb:Bx t2 K H1 b (ws.map e2)) (h0:Pσ σ₀)
  (turn:∀(x:α) (σ:St) (H:Hp) (p:Addr) (R:St->V->Hp->Prop),x∈ws->au H1 H->H p=some (.tup [e1 x,e2 x])->Pσ σ->(∀σ3 y H5,au H H5->Is H5 (F x) y->Pσ σ3->R σ3 y H5)->g (.ref p) σ H fun σ3 H3=>te σ3 H3 fun y H5=>R σ3 y H5)
  (fin:∀D vs H,au H1 H->H1 D=none->H D=some (.lst vs)->L2.IsL H (ws.map F) vs->Q (.ref D) H):dS σ₀ g dt te Q (Rx t1 t2 K a b) H1:=by
 refine⟨fun i m xs σ H=>m=ws.length-i/\i<=ws.length/\xs.length=i/\au H1 H/\L2.IsL H ((ws.take i).map F) xs/\Pσ σ,⟨_,rfl,yf _,rfl,au.refl _,by simp[L2.IsL],h0⟩,?_⟩;rintro i m xs σ H ⟨rfl,hi,hx,sm,il,pσ⟩;rcases Nat.lt_or_ge i ws.length with hlt | hge
 ·have g1:(ws.map e1)[i]?=some (e1 ws[i]):=by rw[zJ,zb hlt];rfl
  have g2:(ws.map e2)[i]?=some (e2 ws[i]):=by rw[zJ,zb hlt];rfl
  refine .inr ⟨⟨_,_,_,_,sm.Oc ha,sm.Oc hb,g1,g2⟩,nofun,?_⟩;rintro x H2 ⟨p,u,v,np,rfl,rfl,hu,hv⟩;have eu:=hu _ (sm.Oc ha);have ev:=hv _ (sm.Oc hb);rw[g1] at eu;rw[g2] at ev;cases eu;cases ev;have s2:au H (upd H p (.tup [e1 ws[i],e2 ws[i]])):=aZ np;refine turn ws[i] σ _ p (fun σ3 y H5=>if true=true then∃m',m'<ws.length-i/\(m'=ws.length-(i+1)/\i+1<=ws.length/\(xs++[y]).length=i+1/\au H1 H5/\L2.IsL H5 ((ws.take (i+1)).map F) (xs++[y])/\Pσ σ3) else False) (yk hlt) (sm.trans s2) aF pσ ?_;rintro σ3 y H5 s5 iy p3;rw[if_pos rfl];refine⟨_,nofun,rfl,hlt,by simp[hx],(sm.trans s2).trans s5,?_,p3⟩;rw[List.take_add_one,zb hlt,zj];exact cT iy ((il.mono s2).mono s5)
 ·have e:i=ws.length:=nofun
  subst e;refine .inl ⟨⟨_,_,sm.Oc ha,sm.Oc hb,.inl (by rw[za];exact zk _)⟩,nofun,fun D hD=>?_⟩;have il':L2.IsL H (ws.map F) xs:=by rw[zM] at il;exact il
  exact fin D xs _ (sm.trans (aZ hD)) (sm.back hD) aF (il'.mono (aZ hD))
theorem DF (hn:xs.length<=sizeLine) (hp:aL K H1 p xs) (h0:∃v,σ₀=[v])
  (fin:∀(D:Addr) (qs:List Addr) (H:Hp),au H1 H->H1 D=none->H D=some (.lst (qs.map V.ref))->qs.Nodup->D∉qs->qs.length=xs.length->(∀q∈qs,H1 q=none/\H q=some (.lst []))->Q (.ref D) H):dS σ₀ (bc 0) dt (Ex eO) Q (MK K p) H1:=by
 refine⟨fun i m ys σ H=>m=xs.length-i/\i<=xs.length/\ys.length=i/\(∃v,σ=[v])/\au H1 H/\∃qs:List Addr,ys=qs.map V.ref/\qs.Nodup/\∀q∈qs,H1 q=none/\H q=some (.lst []),⟨_,rfl,yf _,rfl,h0,au.refl _,[],rfl,List.nodup_nil,by simp⟩,?_⟩;rintro i m ys σ H ⟨rfl,hi,hx,⟨v,rfl⟩,sm,qs,rfl,nd,hq⟩;rw[za] at hx;rcases Nat.lt_or_ge i xs.length with hlt | hge
 ·refine .inr ⟨Fy (sm.seq hp) hlt,by rw[za];omega,?_⟩
  rintro x H2 ⟨rfl,_⟩;refine⟨yf _,fun q n=>?_⟩;refine⟨_,nofun,rfl,hlt,by rw[zg,za,hx];rfl,⟨_,rfl⟩,sm.trans (aZ n),qs++[q],by rw[zj];rfl,?_,fun r hr=>?_⟩
  ·rw[zR]
   refine⟨nd,by simp,fun a ha b hb e=>?_⟩;have:b=q:=by simpa using hb
   subst this;subst e;rw[(hq a ha).2] at n;cases n
  ·rcases zF.mp hr with z | z
   ·exact⟨(hq r z).1,aZ n _ _ (hq r z).2⟩
   ·rw[zy.mp z]
    exact⟨sm.back n,aF⟩
 ·have e:i=xs.length:=nofun
  subst e;refine .inl ⟨⟨_,sm.seq hp,zk _⟩,by rw[za];omega,fun D hD=>?_⟩;exact fin D qs _ (sm.trans (aZ hD)) (sm.back hD) aF nd (fun z=>by rw[(hq D z).2] at hD;cases hD) hx fun q z=>⟨(hq q z).1,aZ hD _ _ (hq q z).2⟩
theorem tM (f:α->β) (d:α):∀l:List α,(List.range l.length).map (fun i=>f (l.getD i d))=l.map f
 | []=>rfl
 | x::r=>by
  rw[zt,List.range_succ_eq_map,zh,zA,zh]
  congr 1
  exact tM f d r
theorem Bz (F:α->β->γ) (g:Nat->β) (d:α):∀(l:List α) (k:Nat),(List.range l.length).map (fun i=>F (l.getD i d) (g (k+i)))=(l.zip ((List.range l.length).map fun i=>g (k+i))).map fun p=>F p.1 p.2
 | [],_=>rfl
 | x::r,k=>by
  rw[zt,List.range_succ_eq_map,zh,zA,zh,zA,List.zip_cons_cons,zh]
  congr 1
  have:=Bz F g d r (k+1);have e:∀i,k+1+i=k+(i+1):=fun i=>nofun
  simp only[e] at this;exact this
theorem Fn:∀{l:List α} {i j:Nat},l.Nodup->l[i]?=some x->l[j]?=some x->i=j
 | [],_,_,_,h,_=>by simp at h
 | y::r,0,0,_,_,_=>rfl
 | y::r,0,j+1,n,h,k=>by
  simp at h k;subst h;exact absurd (zB k) (yc.mp n).1
 | y::r,i+1,0,n,h,k=>by
  simp at h k;subst k;exact absurd (zB h) (yc.mp n).1
 | y::r,i+1,j+1,n,h,k=>by
  simp at h k;rw[Fn (yc.mp n).2 h k]
theorem J0 (bs:List Int) (sp:Nat->Nat) (t:Nat):(List.range bs.length).map (fun i=>mT (bs.getD i 0,cN sp t i))=(sG bs sp t).map mT:=by
 have:=Bz (fun b p=>mT (b,p)) (cN sp t) 0 bs 0;simp only[Nat.zero_add] at this;rw[this];rfl
theorem wL (n:Int):∀ns:List Int,Eg (.int n) (ns.map V.int)=decide (n∈ns)
 | []=>rfl
 | m::ns=>by
  have ih:=wL n ns;unfold Eg at ih ⊢;rw[zh,List.any_cons,ih]
  by_cases e:n=m
  ·subst e
   simp[Hs]
  ·simp[Hs,e,Ne.symm (a:=m) (b:=n) (fun z=>e z.symm)]
   try omega
theorem Ab {α:Type} {J:It} {ws:List α} {enc:α->V} {σ₀:St} {g:TG} {tc:TT} {te:TE} {Q:VK} {H1:Hp} (f:α->Bool) (F:α->Dt) (Pσ:St->Prop) (hn:ws.length<=sizeLine) (h0:Pσ σ₀)
  (go:∀i H,i<ws.length->au H1 H->J.go i H) (stop:∀H,au H1 H->J.stop ws.length H) (yl:∀(i:Nat) x H H2 (hi:i<ws.length),au H1 H->J.Ji i H x H2->H2=H/\x=enc ws[i])
  (turn:∀(a:α) (σ:St) (H:Hp) (R:St->V->Hp->Prop) (N:St->Hp->Prop),a∈ws->au H1 H->Pσ σ->(f a=true->∀σ3 y H5,au H H5->Is H5 (F a) y->Pσ σ3->R σ3 y H5)->(f a=false->∀σ3 H5,au H H5->Pσ σ3->N σ3 H5)->g (enc a) σ H fun σ3 H3=>tc σ3 H3 fun b H4=>if b=true then te σ3 H4 fun y H5=>R σ3 y H5 else N σ3 H4)
  (fin:∀D vs H,au H1 H->H1 D=none->H D=some (.lst vs)->L2.IsL H ((ws.filter f).map F) vs->Q (.ref D) H):dS σ₀ g tc te Q J H1:=by
 refine⟨fun i m xs σ H=>m=ws.length-i/\i<=ws.length/\xs.length<=i/\au H1 H/\L2.IsL H (((ws.take i).filter f).map F) xs/\Pσ σ,⟨_,rfl,yf _,zk _,au.refl _,by simp[L2.IsL],h0⟩,?_⟩;rintro i m xs σ H ⟨rfl,hi,hx,sm,il,pσ⟩;rcases Nat.lt_or_ge i ws.length with hlt | hge
 ·refine .inr ⟨go i H hlt sm,nofun,?_⟩
  intro x H2 hy;obtain⟨rfl,rfl⟩:=yl i x H H2 hlt sm hy;have tk:ws.take (i+1)=ws.take i++[ws[i]]:=by rw[List.take_add_one,zb hlt];rfl
  refine turn ws[i] σ H2 _ _ (yk hlt) sm pσ ?_ ?_
  ·intro ff σ3 y H5 s5 iy p3
   refine⟨_,nofun,rfl,hlt,by rw[zg];show xs.length+1<=i+1;omega,sm.trans s5,?_,p3⟩;rw[tk,List.filter_append,zj];have:[ws[i]].filter f=[ws[i]]:=by simp[ff]
   rw[this];exact cT iy (il.mono s5)
  ·intro ff σ3 H5 s5 p3
   refine⟨_,nofun,rfl,hlt,nofun,sm.trans s5,?_,p3⟩;rw[tk,List.filter_append,zj];have:[ws[i]].filter f=[]:=by simp[ff]
   rw[this,ym,zU];exact il.mono s5
 ·have e:i=ws.length:=nofun
  subst e;refine .inl ⟨stop H sm,nofun,fun D hD=>?_⟩;have il':L2.IsL H ((ws.filter f).map F) xs:=by rw[zM] at il;exact il
  exact fin D xs _ (sm.trans (aZ hD)) (sm.back hD) aF (il'.mono (aZ hD))
noncomputable def mM (f:Int->Bool) (lo:Int) (n:Nat):List Int:=((List.range n).map fun i=>lo+(i:Nat)).filter f
theorem oJ (h:x∈mM f lo n):lo<=x/\x<lo+n/\f x=true:=by
 unfold mM at h;rw[List.mem_filter] at h;obtain⟨i,hi,rfl⟩:=zG.mp h.1;have:=List.mem_range.mp hi;exact⟨nofun,nofun,h.2⟩
theorem JY:(mM f lo n).length<=n:=by
 unfold mM;refine zL (List.length_filter_le _ _) ?_;simp
theorem FJ {f:Int->Bool} {lo x:Int} {n:Nat} (h1:lo<=x) (h2:x<lo+n) (h3:f x=true):x∈mM f lo n:=by
 unfold mM;rw[List.mem_filter];exact⟨zG.mpr ⟨(x-lo).toNat,List.mem_range.mpr nofun,nofun⟩,h3⟩
theorem jw {lo:Int} {n:Nat} {σ₀ rest:St} {tc:TT} {Q:VK} {H1:Hp} (f:Int->Bool) (hn:n<=sizeLine) (h0:∃v,σ₀=v::rest)
  (turn:∀(i:Int) (H:Hp) (R:Bool->Hp->Prop),lo<=i->i<lo+n->au H1 H->(∀H',au H H'->R (f i) H')->tc (some (.int i)::rest) H R)
  (fin:∀D H,au H1 H->H1 D=none->H D=some (.lst ((mM f lo n).map V.int))->Q (.ref D) H):dS σ₀ (bc 0) tc (bj 0) Q (MJ lo n) H1:=by
 refine Ab (ws:=(List.range n).map fun i=>lo+(i:Nat)) (enc:=V.int) f Dt.int (fun σ=>∃v,σ=v::rest) (by simp;exact hn) h0 (fun i H hi _=>by rw[za,zQ] at hi;exact hi) (fun H _=>by rw[za,zQ];exact zk n) ?_ ?_ ?_
 ·rintro i x H H2 hi _ ⟨rfl,rfl⟩
  exact⟨rfl,by simp⟩
 ·rintro a σ H R N ha s1 ⟨v,rfl⟩ hR hN
  obtain⟨i,hi,rfl⟩:=zG.mp ha;have:=List.mem_range.mp hi;refine turn (lo+(i:Nat)) H _ nofun nofun s1 fun H' s'=>?_;cases q:f (lo+(i:Nat)) with
  | true=>exact cj rfl ⟨_,rfl,hR q _ _ _ s' cR ⟨_,rfl⟩⟩
  | false=>exact cw rfl (hN q _ _ s' ⟨_,rfl⟩)
 ·intro D vs H s1 nD hD il
  rw[fF il] at hD;exact fin D H s1 nD hD
noncomputable def jW (rs:List Rep) (b:Int):Bool:=match dP rs b with
 | none=>true
 | some r=>match (r.ends.filter fun e=>decide (e.1<=b)).getLast? with
  | none=>true
  | some e=>decide (r.times∈e.2)
noncomputable def eU (rs:List Rep) (b:Int):Bool:=rs.any fun r=>decide (r.first<b)&&decide (b<=r.last)
noncomputable def Eh (r:Rep) (b:Int):Bool:=decide (r.first<=b)&&decide (b<=r.last)
theorem yO:∀{l:List α} {i:Nat} {x:α},l[i]?=some x->p x=true->(∀y∈l.take i,p y=false)->l.find? p=some x
 | [],_,_,h,_,_=>by simp at h
 | y::r,0,x,h,hx,_=>by simp at h;subst h;rw[List.find?_cons,hx]
 | y::r,i+1,x,h,hx,hn=>by
  rw[List.find?_cons,hn y (by rw[List.take_succ_cons];exact zp)];exact yO (i:=i) (by simpa using h) hx fun z hz=>hn z (by rw[List.take_succ_cons];exact zm _ hz)
theorem B6:∀{es:List End},(es.map (·.1)).Pairwise (·<·)->x∈(es.zip ((es.drop 1).map (·.1)++[hi])).map (fun p=>(p.1.1,p.2-1,p.1.2))->x.1<=b->b<=x.2.1->∃e,(es.filter fun e=>decide (e.1<=b)).getLast?=some e/\e.2=x.2.2
 | [],_,h,_,_=>by simp at h
 | [e],_,h,h1,h2=>by
  simp at h;subst h;exact⟨e,by simp at h1 ⊢;exact h1,rfl⟩
 | e::e'::r,asc,h,h1,h2=>by
  rw[zh,List.pairwise_cons] at asc;rw[List.drop_one,List.tail_cons,zh,List.cons_append,List.zip_cons_cons,zh,zC] at h;rcases h with h | h
  ·subst h
   dsimp only at h1 h2;have no:(e'::r).filter (fun e=>decide (e.1<=b))=[]:=by
    rw[List.filter_eq_nil_iff];intro y hy;have hm:y.1∈(e'::r).map (·.1):=zO (f:=fun z:End=>z.1) hy;have a2:=asc.2;rw[zh,List.pairwise_cons] at a2;rw[zh,zC] at hm;rcases hm with z | z
    ·simp;omega
    ·have:=a2.1 _ z
     simp;omega
   refine⟨e,?_,rfl⟩;rw[List.filter_cons,if_pos (ze h1),no];rfl
  ·obtain⟨e2,f1,f2⟩:=B6 (es:=e'::r) asc.2 (by rw[List.drop_one,List.tail_cons];exact h) h1 h2
   refine⟨e2,?_,f2⟩;rw[List.filter_cons];split
   ·cases q:(e'::r).filter (fun e=>decide (e.1<=b)) with
    | nil=>rw[q] at f1;cases f1
    | cons y t=>rw[q] at f1;rw[List.getLast?_cons_cons];exact f1
   ·exact f1
theorem IQ:∀{es:List End},(∀e∈es,lo<=e.1/\e.1<hi)->x∈(es.zip ((es.drop 1).map (·.1)++[hi])).map (fun p=>(p.1.1,p.2-1,p.1.2))->lo<=x.1/\x.2.1<hi
 | [],_,h=>by simp at h
 | [e],hx,h=>by
  simp at h;subst h;have:=hx e (by simp);exact⟨this.1,by show hi-1<hi;omega⟩
 | e::e'::r,hx,h=>by
  rw[List.drop_one,List.tail_cons,zh,List.cons_append,List.zip_cons_cons,zh,zC] at h;rcases h with h | h
  ·subst h
   have a:=hx e (by simp);have c:=hx e' (by simp);exact⟨a.1,by show e'.1-1<hi;omega⟩
  ·exact IQ (es:=e'::r) (fun y hy=>hx y (zm _ hy)) (by rw[List.drop_one,List.tail_cons];exact h)
def Apart (rs:List Rep):Prop:=(∀r∈rs,r.first<=r.last/\(r.ends.map (·.1)).Pairwise (·<·)/\∀e∈r.ends,r.first<=e.1/\e.1<=r.last)/\rs.Pairwise fun a b=>a.last<b.first
theorem uy:∀{rs:List Rep} {r r':Rep} {b:Int},(∀r∈rs,r.first<=r.last)->rs.Pairwise (fun a b=>a.last<b.first)->r∈rs->r'∈rs->r.first<=b->b<=r.last->r'.first<=b->b<=r'.last->r=r'
 | [],_,_,_,_,_,h,_,_,_,_,_=>by cases h
 | x::l,r,r',b,hf,hp,h,h',h1,h2,h3,h4=>by
  rw[List.pairwise_cons] at hp;rcases zC.mp h with e | e <;> rcases zC.mp h' with e' | e'
  ·rw[e,e']
  ·subst e
   have:=hp.1 r' e';omega
  ·subst e'
   have:=hp.1 r e;omega
  ·exact uy (fun y hy=>hf y (zm _ hy)) hp.2 e e' h1 h2 h3 h4
theorem qi {rs:List Rep} {b:Int} {r:Rep} (h:dP rs b=some r):r∈rs/\r.first<=b/\b<=r.last:=by
 unfold dP at h;have h1:=List.mem_of_find?_eq_some h;have h2:=List.find?_some h;simp at h2;exact⟨h1,h2⟩
theorem II {rs:List Rep} {b:Int} (ap:Apart rs) (h:jW rs b=true):lM rs b=true:=by
 unfold lM;rw[yo];intro r hr;rw[yo];intro x hx;obtain⟨a1,a2,a3⟩:=ap.1 r hr
 by_cases c1:x.1<=b
 ·by_cases c2:b<=x.2.1
  ·unfold jr at hx
   have ein:=IQ (lo:=r.first) (fun e he=>⟨(a3 e he).1,by have:=(a3 e he).2;omega⟩) hx;obtain⟨e,f1,f2⟩:=B6 a2 hx c1 c2;unfold jW at h;have hro:dP rs b=some r:=by
    cases q:dP rs b with
    | none=>
     unfold dP at q;have:=List.find?_eq_none.mp q r hr;simp at this;omega
    | some r'=>
     obtain⟨g1,g2,g3⟩:=qi q;rw[uy (fun y hy=>(ap.1 y hy).1) ap.2 g1 hr g2 g3 nofun nofun]
   rw[hro] at h;dsimp only at h;rw[f1] at h;dsimp only at h;rw[f2] at h;rw[h];simp
  ·rw[zd c2];simp
 ·rw[zd c1];simp
theorem vh {rs:List Rep} {b:Int} (h:eU rs b=false):eC rs b=true:=by
 unfold eC;cases q:dP rs b with
 | none=>rfl
 | some r=>
  obtain⟨g1,g2,g3⟩:=qi q;dsimp only;unfold eU at h;rw[List.any_eq_false] at h;have:=h r g1;simp at this;exact ze nofun
theorem L5 {rs:List Rep} {b:Int} (ap:Apart rs) (h:(∃r∈rs,r.last=b)\/(rs.any fun r=>Eh r b)=false):gW rs b=true:=by
 unfold gW;cases q:dP rs b with
 | none=>rfl
 | some r=>
  obtain⟨g1,g2,g3⟩:=qi q;dsimp only;rcases h with⟨r',hr',e⟩ | h
  ·have:=uy (b:=b) (fun y hy=>(ap.1 y hy).1) ap.2 g1 hr' g2 g3 (by have:=(ap.1 r' hr').1;omega) nofun
   rw[this,e];exact ze rfl
  ·rw[List.any_eq_false] at h
   have:=h r g1;unfold Eh at this;simp at this;omega
def N4 (many:Int) (rs:List Rep) (j:Jump):Prop:=gY rs j=true/\(0<=j.wJ/\j.wJ<many)/\(0<=j.AE/\j.AE<many)/\(0<=j.dy/\j.dy<many)/\∀c,j.gD=some c->0<=c/\c<many
theorem PK {many:Int} {rs:List Rep} (ap:Apart rs) {a t u:Int} {c:Option Int} (ha:0<=a) (ha2:a<many) (hl:(∃r∈rs,r.last=a)\/(rs.any fun r=>Eh r a)=false) (ht:0<=t) (ht2:t<=a) (hti:eU rs t=false)
  (hu:t<=u) (hu2:u<=a) (hul:jW rs u=true) (hc:∀x,c=some x->a<x/\x<many/\eU rs x=false/\jW rs x=true):N4 many rs ⟨a,t,u,c⟩:=by
 refine⟨?_,⟨ha,ha2⟩,⟨ht,by show t<many;omega⟩,⟨by show 0<=u;omega,by show u<many;omega⟩,fun x hx=>?_⟩
 ·unfold gY
  dsimp only;rw[if_neg nofun,if_neg nofun,L5 ap hl,vh hti,II ap hul];cases c with
  | none=>rfl
  | some x=>
   obtain⟨h1,h2,h3,h4⟩:=hc x rfl;dsimp only;rw[ze h1,vh h3,II ap h4];rfl
 ·obtain⟨h1,h2,_⟩:=hc x hx
  exact⟨nofun,h2⟩
theorem Hj (t1:0<t) (t2:t<=32) (b1:0<b) (b2:b<=160):Kr (red t b):=by
 obtain⟨g,g1,g2,g3,g4,g5⟩:=lB (t:=t) b1;have r1:=xN (t:=t) (b:=b) (Int.le_of_lt t1);have r0:=xM (t:=t) (b:=b) (Int.le_of_lt t1);refine⟨Lm.Rd.of (Int.le_of_lt t1) b1,?_,nofun,nofun⟩;rcases Int.lt_or_eq_of_le r0 with z | z
 ·exact z
 ·rw[<-z,Int.mul_zero] at g2;omega
inductive JO:List Expr->List (Int×Int)->Prop
 | n:JO [] []
 | c {a b:Int} {x y u v m k r ps} (h:JO r ps):JO (.Tuple [.Constant (.int a) x y,.Constant (.int b) u v] m k::r) ((a,b)::ps)
theorem Pq {X:Cx} {es:List Expr} {ps:List (Int×Int)} (h:JO es ps):PA X es (Ew ps):=by
 induction h with
 | n=>exact Pp
 | c _ q=>exact QJ q
theorem Pl {X:Cx} {es:List Expr} {p1 pos:Pos} {b:Expr} {tb:TE} (ps:List (Int×Int)) (hb:PE X b tb) (hs:Ea b) (h:autoParam (JO es ps) qh_) (hl:autoParam (ps.length<=1000) qb_):PE X (.Subscript (.List es p1) b pos) (fQ (Pd X.K) (Ro ps) tb):=ax aN (Pk (Pq h) hl) hb hs
@[irreducible] def OB (X:Cx) (s:Stmt) (t:TS):Prop:=PS X s t
@[irreducible] def Rv (X:Cx) (e:Expr) (t:TE):Prop:=PE X e t
theorem Si {X:Cx} {x:Str} {e:Expr} {te:TE} {pos pos':Pos} (i:Nat) (hN:X.N.Nodup) (he:Rv X e te) (hi:autoParam (X.N[i]?=some x) qe_) (hx:autoParam (Loc X.env.scope x) qi_) (hs:autoParam (swapsWith e (some (.Name x pos')) pos.line X.env=pure false) qe_) (hf:autoParam (X.fn x=true\/X.env.scope.names.lookup x=some .local) qa_) :
  OB X (.Assign [.Name x pos'] e pos) (Ey te (bc i)):=by
 unfold OB;unfold Rv at he;exact Lz hN hi hx he hs hf
theorem Nq {X:Cx} {es:List Expr} {p1 pos:Pos} {b:Expr} {tb:TE} (ps:List (Int×Int)) (hb:PE X b tb) (hs:Ea b) (h:autoParam (JO es ps) qh_) (hl:autoParam (ps.length<=1000) qb_):Rv X (.Subscript (.List es p1) b pos) (fQ (Pd X.K) (Ro ps) tb):=by
 unfold Rv;exact Pl ps hb hs h hl
@[irreducible] def Ia (X:Cx) (s:List Stmt) (t:TS):Prop:=Eb X s t
theorem zS {X:Cx} {s:Stmt} {t:TS} (h:PS X s t):OB X s t:=by unfold OB;exact h
theorem zo {X:Cx} {s:Stmt} {t:TS} (h:OB X s t):Ia X [s] t:=by unfold Ia;unfold OB at h;exact aj h
theorem zc {X:Cx} {s:Stmt} {r:List Stmt} {t u:TS} (h:OB X s t) (h2:Ia X r u):Ia X (s::r) (OR t u):=by unfold Ia at h2 ⊢;unfold OB at h;exact ag h h2
theorem zf {X:Cx} {s:List Stmt} {t:TS} (h:Ia X s t):Eb X s t:=by unfold Ia at h;exact h
end Sc
namespace K22
open PySem L2 Lm Sc
def top (i:Nat):Stmt:=PySem.Challenge.pw_partsmith_k22_instruments.main.body.getD i (.Pass ⟨0,0,0,0⟩)
abbrev pF:=top 8
abbrev pB:=top 9
abbrev kE:=top 12
abbrev pI:=top 13
abbrev Iy:=top 14
abbrev BG:=top 15
abbrev pG:=top 16
abbrev rB:=top 22
abbrev i7:=top 23
abbrev uR:=top 24
abbrev xx:=top 34
abbrev xE:=top 35
abbrev uP:=top 36
abbrev rA:=top 37
abbrev pz:=top 38
abbrev uO:=top 39
abbrev uN:=top 40
abbrev rD:=top 41
abbrev xy:=top 42
abbrev xA:=top 43
abbrev pE:=top 44
abbrev jH:=top 45
abbrev rk:=top 46
abbrev xB:=top 47
abbrev pA:=top 48
abbrev uS:=top 49
abbrev rC:=top 50
abbrev pC:=top 51
abbrev uQ:=top 52
abbrev mj:=top 54
abbrev qg:=top 55
abbrev BH:=top 56
abbrev xD:=top 57
abbrev pw:=top 58
abbrev nF:=top 59
abbrev uT:=top 60
abbrev uU:=top 61
abbrev nK:=top 62
abbrev uW:=top 63
abbrev uV:=top 64
abbrev nI:=top 73
abbrev pj:=top 74
abbrev nJ:=top 75
abbrev xC:=top 76
abbrev nH:=top 77
abbrev i9:=top 78
abbrev pk:=top 79
abbrev uY:=top 80
abbrev nA:=top 81
abbrev rF:=top 82
abbrev pH:=top 83
abbrev nG:=top 84
abbrev rE:=top 85
abbrev qh:=top 87
abbrev xF:=top 88
abbrev BI:=top 89
abbrev rm:=top 90
abbrev nL:=top 92
abbrev uX:=top 93
abbrev mm:=top 94
abbrev nP:=top 96
abbrev rG:=top 97
abbrev mw:=top 98
abbrev pJ:=top 99
abbrev mq:=top 100
abbrev mz:=top 101
abbrev nQ:=top 102
abbrev kG:=top 103
abbrev mB:=top 104
abbrev mr:=top 105
abbrev nO:=top 106
abbrev jK:=top 107
abbrev nM:=top 108
abbrev rH:=top 109
abbrev nN:=top 110
abbrev gm:=top 111
abbrev kF:=top 112
abbrev mn:=top 113
abbrev je:=top 114
abbrev kI:=top 115
abbrev jd:=top 116
abbrev kJ:=top 117
abbrev jJ:=top 118
abbrev jI:=top 119
abbrev jL:=top 120
abbrev Od:=top 121
abbrev rJ:=inClass (top 72) 0
structure Df (K:yA) (mg:Str->Option Value) (x:Str) (st:Stmt) (a:Addr) (d:FuncData) (ps:List Str):Prop where
 F:MM K x x st a d
 g:mg x=some (.ref a)
 b:Binds K d ps []
structure SU (K:yA) (x y:Str) (st:Stmt) (a:Addr) (d:FuncData) (ps:List Str):Prop where
 F:MM K x y st a d
 b:Binds K d ps []
set_option genInjectivity false in
set_option genSizeOf false in
structure Txt (K:yA) (mg:Str->Option Value) where
 (Bu Bt uz Bv N1 Kj ku DT qK Gk HS HY Gj DS Bs Gi Gh DU HU HV gO eM iP lT gM j0 iQ gN jZ wq Ao Kk HX Br An Gm Gn Ar Gq Gp Ap Bq Aq HW gi d9 gL j6 gg iS gP gh iR As HZ Kl DR Au Gr wt Ay DV wz Bw wx wA Az uB wB wy Ax sT Av DW Aw mU uA wu qM uC qL uD sS sR sU Q7 lU lR jx eB iW rO:Addr)
 (Bg Bd uj Bi NV J4 ko Du qF F1 Hv HE FZ Ds Bb FY FX Dw Hy Hz Bf sH Dq HA Bc F2 Dv Be F0 vZ Hw J7 HD Ba yV F3 F4 y3 F6 F5 yY A8 yZ HB yX qG A9 F8 yU DA Bh yW Dy HC HF J8 Dr y4 F7 v8 y9 DB wg Bj wc wj Aa um wk wd y8 sL y6 DC y7 mS uk wa qI uo qH uq sJ sI sM Mv sN:FuncData)
 (Jp sZ AH w9 AI vq Cm xc sY xf vt xg Cn xb pP Et Cp Co xa:Tok)
 dE:Df K mg "read_number" pF Bu Bg ["text","most"]
 fJ:Df K mg "read_signed" pB Bt Bd ["text","most"]
 gd:Df K mg "common_divisor" kE uz uj ["one","other"]
 eR:Df K mg "made_length" pI Bv Bi ["top","bottom"]
 added:Df K mg "added" Iy N1 NV ["one","other"]
 CH:Df K mg "shorter" BG Kj J4 ["one","other"]
 eQ:Df K mg "read_length" pG ku ko ["text"]
 jg:Df K mg "read_pitch" rB DT Du ["fifths_text","steps_text"]
 dW:Df K mg "read_item_length" i7 qK qF ["text"]
 tL:Df K mg "read_item" uR Gk F1 ["text"]
 words_of:Df K mg "words_of" xx HS Hv ["row"]
 dq:Df K mg "all_read" xE HY HE ["values"]
 eZ:Df K mg "read_name" uP Gj FZ ["word"]
 cQ:Df K mg "read_plain" rA DS Ds ["word"]
 jM:Df K mg "read_within" pz Bs Bb ["word","lowest","highest"]
 tK:Df K mg "read_time" uO Gi FY ["word"]
 tJ:Df K mg "read_turn" uN Gh FX ["fifths_word","steps_word"]
 qp:Df K mg "read_metre" rD DU Dw ["word"]
 xP:Df K mg "read_key" xy HU Hy ["word"]
 xQ:Df K mg "read_end" xA HV Hz ["word"]
 jP:Df K mg "read_player" pE gO Bf ["words"]
 fC:Df K mg "read_instrument" jH eM sH ["words"]
 lC:Df K mg "read_staff" rk iP Dq ["words"]
 rN:Df K mg "read_bar" xB lT HA ["words"]
 jN:Df K mg "read_upbeat" pA gM Bc ["words"]
 oz:Df K mg "read_hold" uS j0 F2 ["words"]
 lD:Df K mg "read_notes" rC iQ Dv ["words"]
 jO:Df K mg "read_repeat" pC gN Be ["words"]
 oy:Df K mg "read_jump" uQ jZ F0 ["words"]
 kh:Df K mg "is_score_word" mj wq vZ ["word"]
 xO:Df K mg "read_row" qg Ao Hw ["words"]
 Dl:Df K mg "ends_of" BH Kk J7 ["repeat"]
 yQ:Df K mg "ends_fit" xD HX HD ["repeat"]
 nT:Df K mg "repeat_fits" pw Br Ba ["repeats","repeat"]
 iC:Df K mg "repeat_round" nF An yV ["repeats","bar"]
 tY:Df K mg "may_leave" uT Gm F3 ["repeats","bar"]
 oF:Df K mg "may_enter" uU Gn F4 ["repeats","bar"]
 iM:Df K mg "in_last_pass" nK Ar y3 ["repeats","bar"]
 uw:Df K mg "coda_fits" uW Gq F6 ["repeats","at","coda"]
 ue:Df K mg "jump_fits" uV Gp F5 ["repeats","jump"]
 iH:Df K mg "metre_length" nI Ap yY ["score","bar"]
 mX:Df K mg "told_length" pj Bq A8 ["score","bar"]
 lL:Df K mg "items_length" nJ Aq yZ ["items"]
 kM:Df K mg "has_bars" xC HW HB ["score","bars"]
 iE:Df K mg "player_fault" nH gi yX ["score","player"]
 fc:Df K mg "instrument_fault" i9 d9 qG ["score","told"]
 gR:Df K mg "staff_fault" pk gL A9 ["score","told"]
 oM:Df K mg "bar_fault" uY j6 F8 ["score","told"]
 fP:Df K mg "upbeat_fault" nA gg yU ["score","length"]
 lN:Df K mg "hold_fault" rF iS DA ["score","told"]
 jT:Df K mg "notes_fault" pH gP Bh ["score","told"]
 iD:Df K mg "repeat_fault" nG gh yW ["score","repeat"]
 lK:Df K mg "jump_fault" rE iR Dy ["score","jump"]
 yP:Df K mg "fault_of" qh As HC ["score","sort","told"]
 Am:Df K mg "add_hold" xF HZ HF ["score","told"]
 DQ:Df K mg "add_row" BI Kl J8 ["score","sort","told"]
 qo:Df K mg "read_score" rm DR Dr ["text"]
 lQ:Df K mg "check_player" nL Au y4 ["score","player"]
 ux:Df K mg "check_bar" uX Gr F7 ["score","bar"]
 ki:Df K mg "instrument_at" mm wt v8 ["score","player","bar"]
 cy:Df K mg "_law_cell_at" nP Ay y9 ["_law_script","_law_k"]
 cx:Df K mg "_law_mixed" rG DV DB ["_law_cell","_law_k"]
 eF:Df K mg "_law_names_by" mw wz wg ["_law_cell","_law_many"]
 fN:Df K mg "_law_lowest" pJ Bw Bj ["_law_top","_law_bottom"]
 kz:Df K mg "_law_pitch_by" mq wx wc ["_law_m"]
 kB:Df K mg "_law_items_by" mz wA wj ["_law_m","_law_length"]
 lY:Df K mg "_law_bars_by" nQ Az Aa ["_law_cell","_law_many"]
 jz:Df K mg "_law_length_of" kG uB um ["_law_bars","_law_upbeat","_law_bar"]
 kC:Df K mg "_law_holds_by" mB wB wk ["_law_cell","_law_players","_law_instruments","_law_many"]
 kA:Df K mg "_law_notes_by" mr wy wd ["_law_cell","_law_players","_law_bars","_law_upbeat"]
 lX:Df K mg "_law_ends_by" nO Ax y8 ["_law_m","_law_first","_law_last","_law_times"]
 ic:Df K mg "_law_repeats_by" jK sT sL ["_law_cell","_law_many"]
 iT:Df K mg "_law_lasting" nM Av y6 ["_law_repeats","_law_bar"]
 lW:Df K mg "_law_inner" rH DW DC ["_law_repeats","_law_bar"]
 lV:Df K mg "_law_jump_by" nN Aw y7 ["_law_cell","_law_many","_law_repeats"]
 fk:Df K mg "_law_instruments_by" gm mU mS ["_law_cell"]
 jy:Df K mg "_law_staffs_by" kF uA uk ["_law_cell","_law_players"]
 ky:Df K mg "_law_score_by" mn wu wa ["_law_script","_law_most"]
 dk:Df K mg "_law_length_text" je qM qI ["_law_length"]
 jA:Df K mg "_law_item_text" kI uC uo ["_law_item"]
 gF:Df K mg "_law_repeat_text" jd qL qH ["_law_repeat"]
 jB:Df K mg "_law_form_rows" kJ uD uq ["_law_s"]
 ia:Df K mg "_law_score_rows" jJ sS sJ ["_law_s"]
 hZ:Df K mg "_law_score_text" jI sR sI ["_law_s"]
 ig:Df K mg "_law_instrument" jL sU sM ["_law_s","_law_player","_law_bar"]
 Sk:Df K mg "law" Od Q7 Mv ["_law_script"]
 MX:mg "Score"= some (.ref lR)
 N3:Mk K lR lU
 AA:SU K "__init__" "Score.__init__" rJ lU sN ["self"]
 Ke:mg "FIGURES"= some (.str "0123456789" Jp)
 kU:mg "LENGTH_FIGURES"= some (.int (4) sZ)
 Bm:mg "HIGHEST_KEY"= some (.int (7) AH)
 Af:mg "OCTAVE_STEPS"= some (.int (12) w9)
 Bo:mg "FIFTH_STEPS"= some (.int (7) AI)
 mP:mg "PITCH_FIGURES"= some (.int (2) vq)
 DH:mg "NAME_SIGNS"= some (.str "abcdefghijklmnopqrstuvwxyz0123456789" Cm)
 Ai:mg "LONGEST_NAME"= some (.int (12) xc)
 kT:mg "NUMBER_FIGURES"= some (.int (3) sY)
 Aj:mg "HIGHEST_TURN"= some (.int (12) xf)
 wo:mg "HIGHEST_METRE"= some (.int (32) vt)
 wm:mg "METRE_BOTTOMS"= some (.ref eB)
 mJ:∀H,dB K H eB [.int 1,.int 2,.int 4,.int 8,.int 16,.int 32]
 Ak:mg "FEWEST_TIMES"= some (.int (2) xg)
 DI:mg "MOST_TIMES"= some (.int (9) Cn)
 Cb:mg "READERS"= some (.ref iW)
 Ah:mg "MOST_PLAYERS"= some (.int (12) xb)
 qJ:mg "MOST_INSTRUMENTS"= some (.int (12) pP)
 Gb:mg "MOST_BARS"= some (.int (200) Et)
 DK:mg "MOST_HOLDS"= some (.int (20) Cp)
 DJ:mg "MOST_ITEMS"= some (.int (40) Co)
 Ag:mg "MOST_REPEATS"= some (.int (20) xa)
 My:mg "FAULTS"= some (.ref rO)
 Om:mg "abs"= none
 IF:mg "all"= none
 yD:mg "any"= none
 jU:mg "enumerate"= none
 QO:mg "int"= none
 Dc:mg "isinstance"= none
 bB:mg "len"= none
 tX:mg "list"= none
 QN:mg "min"= none
 dG:mg "range"= none
 QM:mg "set"= none
 Fp:mg "sorted"= none
 fh:mg "str"= none
 QL:mg "sum"= none
 iG:mg "tuple"= none
 LS:mg "zip"= none
 lO:PySem.W.nsIn K mainGlobals "NoLength"= some (some (.ref jx))
 lF:PySem.W.excIn K jx [.type "ValueError",.type "Exception",.type "BaseException",.type "object"] "ValueError.__new__"= true
 OL:mg "NoLength"= some (.ref jx)
 cf:Cf K lR
theorem bR {X:Cx} {x:Str} {st:Stmt} {k n:Nat} {f:Addr} {fd:FuncData} {ps:List Str} {sp:Sp} {e:Expr} {es:List Expr} {t:TA} {p pos:Pos} (F:dM X.prog X.w X.K X.mg X.base Ii k f fd ps sp) (hr:gj n X.A) (D:Df X.K X.mg x st f fd ps)
  (ha:PA X (e::es) t) (hk:autoParam (k<=n) qb_) (hg:autoParam (Gl X x) qe_) (hdb:autoParam ((x == ("__debug__": Str))=false) qb_) (he:autoParam (starEach (e::es) X.env=(false,eval e X.env)::starEach es X.env) qe_) (hpl:autoParam ((backTo pos (starEach es X.env)).any (·.1)=false) qe_) :
  PE X (.Call (.Name x p) (e::es) [] pos) (gQ sp [] E0 t):=Nt F (hr.mono hk) hg D.g D.F.kp D.b .nil IC ha hdb he hpl
def Lo (p:St) (n:Nat) (σ:St):Prop:=∃e:Nat->Option V,σ=p++(List.range n).map e
theorem Lo.of {p:St} {n:Nat} {σ:St} (h:σ.take p.length=p) (l:σ.length=p.length+n):Lo p n σ:=by
 refine⟨fun i=>σ[p.length+i]?.join,List.ext_getElem? fun i=>?_⟩
 by_cases c:i<p.length
 ·rw[List.getElem?_append_left c]
  conv=>rhs;rw[<-h]
  rw[List.getElem?_take_of_lt c]
 ·rw[zZ nofun,zJ]
  by_cases d:i-p.length<n
  ·rw[List.getElem?_range d]
   have:p.length+(i-p.length)=i:=nofun
   simp only[Option.map_some,this];rw[zb nofun];rfl
  ·rw[List.getElem?_eq_none nofun,List.getElem?_eq_none (by simp;omega)]
   rfl
abbrev At (b:yA->TS) (K:yA):TS:=b K
abbrev Sq (b:yA->TS) (K:yA) (D:Ends):Ends:={D with nx:=b K D}
abbrev Dz (Q:VK):Ends:={nx:=fun _ H'=>Q .bE H',rt:=Q}
def Ev (t:TE) (σ:St) (H:Hp) (v:V):Prop:=∀Q:VK,Q v H->t σ H Q
def MU (t:TA) (σ:St) (H:Hp) (vs:List V):Prop:=∀R:List V->Hp->Prop,R vs H->t σ H R
def N6 (t:TT) (σ:St) (H:Hp) (b:Bool):Prop:=∀R:Bool->Hp->Prop,R b H->t σ H R
def Ss (K:yA) (f:Str) (x:V) (H:Hp) (Q:VK):Prop:=∃a C dx fs v,x=.ref a/\H a=some (.ins C dx fs)/\N7 K C/\eW K C f/\fs.lookup f=some v/\Q v H
section
variable {t u:TE} {ta:TA} {c:TT} {wi:TI} {a b:TS} {gt:TG} {D:Ends} {σ:St} {H:Hp} {v x y:V} {vs:List V} {g:Int->Int->V} {i j:Int} {r:R2} {Q:VK} {R:List V->Hp->Prop} {S:Bool->Hp->Prop} {k:Bool} {K:yA} {p:Addr} {xs:List V}
theorem PX {n:Nat} (e:σ[n]?=some (some v)):Ev (bj n) σ H v:=fun _ q=>⟨v,e,q⟩
theorem Sw:Ev (tC v) σ H v:=fun _ q=>q
theorem Q1 (a:Ev t σ H (.int i)) (b:Ev u σ H (.int j)):Ev (fQ (vK g) t u) σ H (g i j):=fun _ q=>a _ (b _ ⟨_,_,rfl,rfl,q⟩)
theorem Q0 {C:Int->Int->Prop} (a:Ev t σ H (.int i)) (b:Ev u σ H (.int j)) (c:C i j):Ev (fQ (rI C g) t u) σ H (g i j):=fun _ q=>a _ (b _ ⟨_,_,rfl,rfl,c,q⟩)
theorem QZ (a:Ev t σ H (.ref p)) (b:Ev u σ H (.int j)) (h:H p=some (.tup xs)) (e:Ci xs j=some v):Ev (fQ (rP K) t u) σ H v:=fun _ q=>a _ (b _ ⟨_,_,_,_,rfl,rfl,dB.of h,e,q⟩)
theorem PZ:MU eO σ H []:=fun _ q=>q
theorem NO (a:Ev t σ H v) (b:MU ta σ H vs):MU (bQ t ta) σ H (v::vs):=fun _ q=>a _ (b _ q)
theorem P0 (a:Ev t σ H v):Ev (K1 t) σ H (.bl (decide (v=.bE))):=fun _ q=>a _ q
theorem NN (a:Ev t σ H v):Ev (K0 t) σ H (.bl (!decide (v=.bE))):=fun _ q=>a _ q
theorem PY (a:Ev t σ H (.bl k)):Ev (Qw t) σ H (.bl (!k)):=fun _ q=>a _ ⟨_,rfl,q⟩
theorem Q2 (a:Ev t σ H x) (b:Ev u σ H y) (s:M9 x y=true):Ev (fQ Sf t u) σ H (.bl (decide (x=y))):=fun _ q=>a _ (b _ ⟨s,q⟩)
theorem QY (a:Ev t σ H x) (b:Ev u σ H y) (s:M9 x y=true):Ev (fQ Sd t u) σ H (.bl (!decide (x=y))):=fun _ q=>a _ (b _ ⟨s,q⟩)
theorem Su (a:Ev t σ H (.bl k)):N6 (oY t) σ H k:=fun _ q=>a _ ⟨_,rfl,q⟩
theorem Sx (a:Ev t σ H (.bl k)):N6 (tB t) σ H k:=fun _ q=>a _ ⟨_,rfl,q⟩
theorem Sv (a:N6 c σ H k):N6 (MY c) σ H (!k):=fun _ q=>a _ q
theorem QC (e:Ev t σ H v) (q:gt v σ H D.nx):Ey t gt D σ H:=e _ q
theorem QB (e:Ev t σ H v) (q:D.rt v H):OS t D σ H:=e _ q
theorem R8 {a b:yA->TS} (e:N6 c σ H k) (q:if k=true then At a K D σ H else At b K D σ H):MZ c (a K) (b K) D σ H:=e _ q
theorem Ry {b:yA->TS} (q:a (Sq b K D) σ H):OR a (b K) D σ H:=q
theorem RE {n:Nat} {S:St->Hp->Prop} (q:S (σ.set n (some v)) H):bc n v σ H S:=q
theorem RB {b:yA->TS} (q:b K D σ H):(Sq b K D).nx σ H:=q
theorem RA (q:D.nx σ H):N8 D σ H:=q
theorem Qn (q:t σ H fun x H1=>gt x σ H1 D.nx):Ey t gt D σ H:=q
theorem Qk (q:t σ H D.rt):OS t D σ H:=q
theorem OG (q:t σ H fun _ H1=>D.nx σ H1):N9 t D σ H:=q
theorem RD (q:c σ H fun z H1=>if z=true then a D σ H1 else b D σ H1):MZ c a b D σ H:=q
theorem RF {a b:yA->TS} (q:c σ H fun z H1=>if z=true then At a K D σ H1 else At b K D σ H1):MZ c (a K) (b K) D σ H:=q
theorem QA (e:N6 c σ H k) (q:S k H):c σ H S:=e S q
theorem SW (q:t σ H fun x H'=>∃k,x=.bl k/\S k H'):oY t σ H S:=q
theorem SX (q:t σ H fun x H'=>∃k,x=.bl k/\S k H'):tB t σ H S:=q
theorem RJ (e:Ev t σ H v) (q:Q v H):t σ H Q:=e Q q
theorem w_arg (e:MU ta σ H vs) (q:R vs H):ta σ H R:=e R q
theorem x_call {sp:Sp} {dv:List V} {E:XK} (q:ta σ H fun vs H1=>sp (vs++dv) H1 Q E):gQ sp dv E ta σ H Q:=q
theorem RG {q':List V->Hp->VK->Prop} (q:ta σ H fun vs H1=>q' vs H1 Q):Jq q' ta σ H Q:=q
theorem Qj (q:ta σ H fun xs H1=>xs.length<=sizeLine/\∀p,H1 p=none->Q (.ref p) (upd H1 p (.tup xs))):Eu ta σ H Q:=q
theorem Ql (q:ta σ H fun xs H1=>xs.length<=sizeLine/\∀p,H1 p=none->Q (.ref p) (upd H1 p (.lst xs))):Ex ta σ H Q:=q
theorem OH {fr:List (Option Nat)} (q:wi σ H fun J H1=>dS (fr.map fun o=>o.bind fun j=>(σ[j]?).join) gt c t Q J H1):mZ fr wi gt c t σ H Q:=q
theorem R7 {R:It->Hp->Prop} (e:Ev t σ H (.ref p)) (q:(∃xs,aL K H p xs)/\R (MK K p) H):IJ K t σ H R:=e _ ⟨_,rfl,q⟩
theorem Rz {R:It->Hp->Prop} (q:ta σ H fun vs H1=>∃j:Int,vs=[.int j]/\-(2^62)<=j/\j<2^62/\R (MJ 0 j.toNat) H1):Mb ta σ H R:=q
abbrev iJ (J:It):TI:=fun _ H R=>R J H
def Fr (g:TG) (b:TS) (D:Ends) (σ:St) (J:It) (H:Hp):Prop:=OX (iJ J) g b D σ H
theorem Qm {b:yA->TS} (q:wi σ H (Fr gt (At b K) D σ)):OX wi gt (b K) D σ H:=q
theorem x_at {b:yA->TS} (q:b K D σ H):At b K D σ H:=q
theorem RC {R:It->Hp->Prop} (q:t σ H fun x H1=>∃a,x=.ref a/\(∃xs,aL K H1 a xs)/\R (MK K a) H1):IJ K t σ H R:=q
theorem RV {R:It->Hp->Prop} (e:MU ta σ H vs) (q:∃a xs,vs=[.ref a]/\aL K H a xs/\R (Qc K a) H):Ot K ta σ H R:=e _ q
theorem RP {R:It->Hp->Prop} (e:MU ta σ H vs) (q:∃j:Int,vs=[.int j]/\-(2^62)<=j/\j<2^62/\R (MJ 0 j.toNat) H):Mb ta σ H R:=e _ q
theorem OK {sp:Sp} {dv:List V} {E:XK} (e:MU ta σ H vs) (q:sp (vs++dv) H Q E):gQ sp dv E ta σ H Q:=e _ q
theorem RW {q':List V->Hp->VK->Prop} (e:MU ta σ H vs) (q:q' vs H Q):Jq q' ta σ H Q:=e _ q
theorem RO (e:MU ta σ H vs) (q:vs.length<=sizeLine/\∀p,H p=none->Q (.ref p) (upd H p (.tup vs))):Eu ta σ H Q:=e _ q
theorem RU (e:MU ta σ H vs) (q:vs.length<=sizeLine/\∀p,H p=none->Q (.ref p) (upd H p (.lst vs))):Ex ta σ H Q:=e _ q
theorem QD {d:TT} (e:N6 c σ H k) (q:if k=true then d σ H S else S false H):O3 c d σ H S:=e _ q
theorem R6 {d:TT} (e:N6 c σ H k) (q:if k=true then S true H else d σ H S):R1 c d σ H S:=e _ q
theorem R9 (e:N6 c σ H k) (q:if k=true then t σ H Q else u σ H Q):SI c t u σ H Q:=e _ q
theorem Qp {f:Str} (e:Ev t σ H x) (q:Ss K f x H Q):M0 K t f σ H Q:=e _ q
theorem RX {T:String} {q':V->List V->Hp->VK->Prop} (e:Ev t σ H x) (q:Rm K T x H/\ta σ H fun xs H2=>q' x xs H2 Q):Rp K T q' t ta σ H Q:=e _ q
theorem Qq (e:Ev t σ H (.bl k)) (q:if k=true then u σ H Q else Q (.bl false) H):Oa t u σ H Q:=e _ ⟨_,rfl,q⟩
theorem RQ (e:Ev t σ H (.bl k)) (q:if k=true then Q (.bl true) H else u σ H Q):Qv t u σ H Q:=e _ ⟨_,rfl,q⟩
theorem RS (q:t σ H fun x H1=>u σ H1 fun y H2=>r x y H2 Q):fQ r t u σ H Q:=q
theorem OJ (q:t σ H fun x H1=>ta σ H1 fun xs H2=>R (x::xs) H2):bQ t ta σ H R:=q
theorem RH (e:Ev t σ H x) (q:u σ H fun y H2=>r x y H2 Q):fQ r t u σ H Q:=e _ q
theorem OI (e:Ev t σ H v) (q:ta σ H fun xs H2=>R (v::xs) H2):bQ t ta σ H R:=e _ q
theorem RI (q:Q (g i j) H):vK g (.int i) (.int j) H Q:=⟨i,j,rfl,rfl,q⟩
theorem Qo (h:H p=some (.tup xs)) (e:Ci xs j=some v) (q:Q v H):rP K (.ref p) (.int j) H Q:=⟨_,_,_,_,rfl,rfl,dB.of h,e,q⟩
end
theorem dU {g:TG} {tb:TS} {x:V} {σ:St} {H:Hp} {A C:St->Hp->Prop} {B:VK} (h:∀N:Ends,(∀σ H,A σ H->N.nx σ H)->(∀v H,B v H->N.rt v H)->(∀σ H,A σ H->N.ct σ H)->(∀σ H,C σ H->N.bk σ H)->g x σ H fun σ2 H2=>tb N σ2 H2):g x σ H fun σ2 H2=>tb {nx:=A,rt:=B,bk:=C,ct:=A} σ2 H2:=h _ (fun _ _ z=>z) (fun _ _ z=>z) (fun _ _ z=>z) fun _ _ z=>z
theorem RM {r:Sp} {vs:List V} {H:Hp} {Q:VK} {E:XK} (h:∀Q':VK,(∀v H',Q v H'->Q' v H')->r vs H Q' E):r vs H Q E:=h Q fun _ _ z=>z
theorem RN {r:R2} {x y:V} {H:Hp} {Q:VK} (h:∀Q':VK,(∀v H',Q v H'->Q' v H')->r x y H Q'):r x y H Q:=h Q fun _ _ z=>z
theorem RK {r:V->Hp->VK->Prop} {x:V} {H:Hp} {Q:VK} (h:∀Q':VK,(∀v H',Q v H'->Q' v H')->r x H Q'):r x H Q:=h Q fun _ _ z=>z
abbrev dm (P:Program) (w:World) (base:Heap) (n:Nat) {K:yA} {mg:Str->Option Value} {x:Str} {st:Stmt} {a:Addr} {d:FuncData} {ps:List Str} (_:Df K mg x st a d ps) (sp:Sp):Prop:=dM P w K mg base Ii n a d ps sp
theorem _root_.L2.MM.dH {P:Program} {w:World} {K:yA} {mg:Str->Option Value} {base:Heap} {x qual:Str} {st:Stmt} {f:Addr} {fd:FuncData} {N ps:List Str} {k:Nat} {sp:Sp} (F:MM K x qual st f fd) (S:aD N ps (ao st))
  (hbody:∀(cdv:Value) (A:Around) (outer:List Env) (s:Shared) (H:Hp) (vs:List V) (Q:VK) (E:XK),gj k (A.deeper (PyProof.Rows.envOfC qual (ao st) s.heap.objs.size f cdv))->sp vs H Q E->
   ∃t,Eb (kR Ii P w K mg base N qual (ao st) f cdv A outer s H E).IE (cC st) t/\t (Dz Q) (start N vs) H)
  (len:autoParam (∀vs H Q E,sp vs H Q E->vs.length=ps.length) qj_):dM P w K mg base Ii (k+1) f fd ps sp:=F.ok S len hbody
theorem dJ {N P:List Str} {sc:Scope} (h1:autoParam (sc.kind=.function) qe_) (h2:autoParam (sc.isCoroutine=false) qe_) (h3:autoParam (sc.isGenerator=false) qe_) (h4:autoParam N.Nodup qk_) (h5:autoParam (N.take P.length=P) qe_) (h6:autoParam (∀x∈P,sc.names.lookup x=some .local\/sc.names.lookup x=some .cell) qk_) (h7:autoParam (∀y∈sc.names,y.2≠.free) qk_):aD N P sc:=⟨h1,h2,h3,h4,h5,h6,h7⟩
theorem eX {X:Cx} {x:Str} {id:String} {r:List V->Hp->VK->Prop} {e:Expr} {es:List Expr} {t:TA} {p pos:Pos} (hc:fO X (.builtin id) r) (hm:X.mg x=none) (ha:PA X (e::es) t) (hg:autoParam (Gl X x) qe_) (hv:autoParam (bootBuiltins x=some (.builtin id)) qk_) (hn:autoParam (x≠ "__name__") qb_) (hdb:autoParam ((x == ("__debug__": Str))=false) qb_)
  (he:autoParam (starEach (e::es) X.env=(false,eval e X.env)::starEach es X.env) qe_) (hpl:autoParam ((backTo pos (starEach es X.env)).any (·.1)=false) qe_):PE X (.Call (.Name x p) (e::es) [] pos) (Jq r t):=E6 hc hg hm hv ha hn hdb he hpl
theorem mV {X:Cx} {x:Str} {id:String} {r:List V->Hp->VK->Prop} {e:Expr} {es:List Expr} {t:TA} {p pos:Pos} (hc:fO X (.type id) r) (hm:X.mg x=none) (ha:PA X (e::es) t) (hg:autoParam (Gl X x) qe_) (hv:autoParam (bootBuiltins x=some (.type id)) qk_) (hn:autoParam (x≠ "__name__") qb_) (hdb:autoParam ((x == ("__debug__": Str))=false) qb_)
  (he:autoParam (starEach (e::es) X.env=(false,eval e X.env)::starEach es X.env) qe_) (hpl:autoParam ((backTo pos (starEach es X.env)).any (·.1)=false) qe_):PE X (.Call (.Name x p) (e::es) [] pos) (Jq r t):=JH hc hg hm hv ha hn hdb he hpl
theorem bW {X:Cx} {x:Str} {e:Expr} {te:TE} {pos pos':Pos} (i:Nat) (hN:X.N.Nodup) (he:PE X e te) (hi:autoParam (X.N[i]?=some x) qe_) (hx:autoParam (Loc X.env.scope x) qi_) (hs:autoParam (swapsWith e (some (.Name x pos')) pos.line X.env=pure false) qe_) (hf:autoParam (X.fn x=true\/X.env.scope.names.lookup x=some .local) qa_) :
  PS X (.Assign [.Name x pos'] e pos) (Ey te (bc i)):=Lz hN hi hx he hs hf
theorem dj {X:Cx} {x:Str} {pos:Pos} (i:Nat) (hN:X.N.Nodup) (hi:autoParam (X.N[i]?=some x) qe_) (hx:autoParam (Loc X.env.scope x) qi_) (hf:autoParam (X.fn x=true\/X.env.scope.names.lookup x=some .local) qa_):PG X (.Name x pos) (bc i):=Np hN hi hx hf
section
variable {X:Cx} {pos:Pos} {elt target iter:Expr} {ifs:List Expr} {scope:Scope} {ts ys:List Str} {js:List Nat} {cl:List (Str×Addr)} {wi:TI} {g:TG} {tc:TT} {te:TE}
theorem pK (hi:PI X target iter wi) (hg:∀C s₀ H₀ ex,PG (dA X (ts++ys) scope cl C s₀ H₀ ex) target g) (hif:∀C s₀ H₀ ex,N2 (dA X (ts++ys) scope cl C s₀ H₀ ex) ifs tc) (he:∀C s₀ H₀ ex,PE (dA X (ts++ys) scope cl C s₀ H₀ ex) elt te)
  (hclos:autoParam (closureFor scope X.env=pure cl) qe_) (hc:autoParam (X.calm=true) qe_) (hcl:autoParam (DX X.env.cells cl) ql_)
  (hLo:autoParam (((relabel scope X.env).names.all fun p=>(p.2 != .cell&&p.2 != .free)||ys.contains p.1||scope.names.contains (p.1,.cell))=true) qe_) (hno:autoParam (∀p∈scope.names,p.2=.cell->p.1∉ys) qk_)
  (hfr:autoParam (Kt X scope cl ys js) ql_)
  (hkind:autoParam (scope.kind=.function) qe_) (hnames:autoParam (∀y∈scope.names,y.2=.local->scope.names.lookup y.1=some .local) qk_) (hs:autoParam (∀x,foldedSetIterable iter X.env x=pure x) qd_) :
  PE X (.ListComp elt [⟨target,iter,ifs,0⟩] scope pos) (mZ (ts.map (fun _=>none)++js.map some) wi g tc te):=LM hc hclos hcl hLo hno hfr hkind hnames hi hg hif he hs
theorem MP {i:Nat} {x:Str} {ps pa:Pos} (hi:PI X target iter wi) (hg:∀C s₀ H₀ ex,PG (dA X (ts++ys) scope cl C s₀ H₀ ex) target g) (hif:∀C s₀ H₀ ex,N2 (dA X (ts++ys) scope cl C s₀ H₀ ex) ifs tc) (he:∀C s₀ H₀ ex,PE (dA X (ts++ys) scope cl C s₀ H₀ ex) elt te) (hN:X.N.Nodup)
  (hclos:autoParam (closureFor scope X.env=pure cl) qe_) (hc:autoParam (X.calm=true) qe_) (hcl:autoParam (DX X.env.cells cl) ql_)
  (hLo:autoParam (((relabel scope X.env).names.all fun p=>(p.2 != .cell&&p.2 != .free)||ys.contains p.1||scope.names.contains (p.1,.cell))=true) qe_) (hno:autoParam (∀p∈scope.names,p.2=.cell->p.1∉ys) qk_)
  (hfr:autoParam (Kt X scope cl ys js) ql_)
  (hkind:autoParam (scope.kind=.function) qe_) (hnames:autoParam (∀y∈scope.names,y.2=.local->scope.names.lookup y.1=some .local) qk_) (hx1:autoParam (X.N[i]?=some x) qe_) (hx2:autoParam (Loc X.env.scope x) qi_) (hs:autoParam (∀x,foldedSetIterable iter X.env x=pure x) qd_) (hsw:autoParam (swapsWith (.ListComp elt [⟨target,iter,ifs,0⟩] scope pos) (some (.Name x ps)) pa.line X.env=pure true) qe_)
  (hf:autoParam (X.fn x=true\/X.env.scope.names.lookup x=some .local) qa_) :
  PS X (.Assign [.Name x ps] (.ListComp elt [⟨target,iter,ifs,0⟩] scope pos) pa) (Ey (mZ (ts.map (fun _=>none)++js.map some) wi g tc te) (bc i)):=LB hc hclos hcl hLo hno hfr hkind hnames hi hg hif he hN hx1 hx2 hs hsw hf
end
section
variable {P:Program} {w:World} {K:yA} {mg:Str->Option Value} {base:Heap}
local macro_rules | `(tactic|right) => `(tactic| (intro pp hn; generalize hG : upd _ pp _ = HH; have sm := au.lI hG hn; have hh := lS hG; clear hG hn))
local macro_rules|`(tactic|ac_rfl)=>`(tactic|try dsimp only[kR,Cx.IE])
set_option hygiene false
local macro_rules | `(tactic| walk_at "hp") => `(tactic| first | assumption | (refine au.on (by assumption) ?_; walk_at "hp"))
local macro_rules | `(tactic| walk_at "ev") => `(tactic| first | ((with_reducible apply PX); exact rfl) | with_reducible (first | exact Sw | exact PZ) | ((with_reducible (first | apply Q1 | apply NO)); walk_at "ev"; walk_at "ev") | ((with_reducible apply QZ); walk_at "ev"; walk_at "ev"; walk_at "hp"; exact rfl) | ((with_reducible (first | apply Su | apply Sx | apply Sv | apply P0 | apply NN | apply PY)); walk_at "ev") | ((with_reducible (first | apply Q2 | apply QY)); walk_at "ev"; walk_at "ev"; exact rfl) | ((with_reducible apply Q0); walk_at "ev"; walk_at "ev"; (first | (show (0 : Int) < _; decide) | exact And.intro (by decide) (by decide) | exact Or.inl ⟨by decide, by decide⟩ | exact Or.inr ⟨by decide, by decide⟩)))
local macro_rules | `(tactic| exists $es,*) => `(tactic| first | ((with_reducible (first | refine RM fun _ kq => ?_ | refine RN fun _ kq => ?_ | refine RK fun _ kq => ?_)); refine ⟨$es,*⟩; refine kq _ _ ?_) | refine ⟨$es,*⟩)
local macro_rules | `(tactic|left) => `(tactic| ((repeat (first | ((with_reducible (first | apply QC | apply QB | apply R8 (K := K))); walk_at "ev") | with_reducible (first | apply Ry (K := K) | apply RE | apply RB | apply RA | apply x_at | apply Qn | apply Qk | apply OG | apply RF (K := K) | apply RD | apply Qm (K := K)) | ((with_reducible apply RJ); walk_at "ev") | ((with_reducible apply w_arg); walk_at "ev") | ((with_reducible apply QA); walk_at "ev") | ((with_reducible (first | apply OK | apply RW | apply R7 | apply Qp | apply RX | apply Qq | apply RQ | apply RH | apply OI | apply RO | apply RU | apply RV | apply RP | apply QD | apply R6 | apply R9)); walk_at "ev") | ((with_reducible apply Qo); walk_at "hp"; exact rfl) | with_reducible (first | apply RI | apply SW | apply SX | apply x_call | apply RG | apply Qj | apply Ql | apply OH | apply Rz | apply RC | apply RS | apply OJ) | refine ⟨_, rfl, ?_⟩ | refine ⟨_, _, rfl, rfl, ?_⟩ | refine ⟨rfl, ?_⟩ | refine QS ?_ | refine Sm ?_ | refine ⟨_, _, _, _, rfl, rfl, dB.of (by walk_at "hp"), rfl, ?_⟩ | refine ⟨_, tag_tup (by walk_at "hp"), ?_⟩ | refine ⟨(by show (0 : Int) < _; decide), ?_⟩ | refine ⟨(And.intro (by decide) (by decide)), ?_⟩ | refine ⟨Or.inl ⟨by decide, by decide⟩, ?_⟩ | refine ⟨Or.inr ⟨by decide, by decide⟩, ?_⟩ | refine Or.inr ⟨_, rfl, ?_⟩)); (first | (first | apply kN4 | apply kN3 | apply kN2 | apply kN1 | apply kN0 | apply kR4 | apply kR3 | apply kR2 | apply kR1 | apply kR0); left | skip)))
set_option hygiene true
theorem eI:aD ["one","other","rest"] ["one","other"] (ao kE):=dJ
theorem rZ (T:Txt K mg):dm P w base 1 T.gd jE:=by
 refine T.gd.F.dH eI fun _ _ _ _ H vs Q E hr h=>?_
 ·obtain⟨a,b,rfl,h1,h2,kk⟩:=h
  refine⟨_,(ag (xS PassesOwn.never (ay jR (pv 1) ae (aE _))
   (ag (bW 2 eI.nd (ar aV (pv 0) (pv 1)))
    (ag (bW 0 eI.nd (pv 1))
    (aj (bW 1 eI.nd (pv 2))))))
   (aj (aq (pv 0)))),?_⟩
  refine⟨fun m σ H'=>H'=H/\∃(x y:Int) (r:Option V),σ=[some (.int x),some (.int y),r]/\0<=x/\0<=y/\Int.gcd x y=Int.gcd a b/\m=y.toNat,⟨_,rfl,a,b,none,rfl,h1,h2,rfl,rfl⟩,?_⟩;rintro m σ H' ⟨rfl,x,y,r,rfl,hx,hy,hg,rfl⟩;left
  by_cases e:y=0
  ·subst e
   refine Oq rfl ?_;refine⟨_,rfl,?_⟩;have e2:Int.gcd a b=x.natAbs:=by rw[<-hg];simp
   have e3:((Int.gcd a b:Nat):Int)=x:=by rw[e2];omega
   rw[e3] at kk;exact kk
  ·refine cj (by simp[e]) ?_
   refine⟨fun σ' H''=>∃m',m'<y.toNat/\H''=H'/\∃(x y:Int) (r:Option V),σ'=[some (.int x),some (.int y),r]/\0<=x/\0<=y/\Int.gcd x y=Int.gcd a b/\m'=y.toNat,fun _ _ h=>h,?_⟩;left;exists(by show(0:Int)<y;omega),?_;left;have hp:(0:Int)<y:=nofun
   have l1:=zv x (by omega:y≠0);have l2:=zr x hp;exact⟨(x%y).toNat,nofun,rfl,y,x%y,_,rfl,hy,l1,(Fz hx hp).trans hg,rfl⟩
theorem nu:aD ["top","bottom","divisor"] ["top","bottom"] (ao pI):=dJ
theorem ji (T:Txt K mg):dm P w base 2 T.eR fT:=by
 have G_common_divisor:dm P w base 1 T.gd jE:=rZ T;refine T.eR.F.dH nu fun _ _ _ _ H vs Q E hr h=>?_
 ·obtain⟨t,b,rfl,h1,h2,h3,kk⟩:=h
  refine⟨_,(ag (bW 2 nu.nd (bR G_common_divisor hr T.gd (ah (pv 0) (ah (pv 1) af))))
   (aj (aq (bK (ah (ar rX (pv 0) (pv 2)) (ah (ar rX (pv 1) (pv 2)) af)))))),?_⟩
  left;exists t,b,rfl,h1,Int.le_of_lt h2,?_;have g0:=wM (t:=t) h2;have g1:Sz 8999 ((Int.gcd t b:Nat):Int):=h3.le (Int.le_of_lt g0) (Mf h2);left;exists⟨g0,g1⟩,?_;left;exists⟨g0,g1⟩,?_;refine⟨du,laid fun p H' sm hp=>kk p H' sm ?_⟩;exact hp
theorem Le:aD ["one","other"] ["one","other"] (ao Iy):=dJ
theorem LP (T:Txt K mg):dm P w base 3 T.added Lb:=by
 have G_made_length:dm P w base 2 T.eR fT:=ji T;refine T.added.F.dH Le fun _ _ _ _ H vs Q E hr h=>?_
 ·obtain⟨x,y,p,q,n,m,rfl,hp,hq,rx,ry,sx,sy,hnm,kk⟩:=h
  obtain⟨x1,x2,_⟩:=rx.pos;obtain⟨y1,y2,_⟩:=ry.pos;have bx1:Sz 20000 x.1:=sx.1.mono nofun;have bx2:Sz 20000 x.2:=sx.2.mono nofun;have by1:Sz 20000 y.1:=sy.1.mono nofun;have by2:Sz 20000 y.2:=sy.2.mono nofun;refine⟨_,(aj (aq (bR G_made_length hr T.eR (ah (ar bg (ar rW (ax aA (pv 0) ae (fun _ _=>rfl)) (ax aA (pv 1) ae (fun _ _=>rfl))) (ar rW (ax aA (pv 1) ae (fun _ _=>rfl)) (ax aA (pv 0) ae (fun _ _=>rfl)))) (ah (ar rW (ax aA (pv 0) ae (fun _ _=>rfl)) (ax aA (pv 1) ae (fun _ _=>rfl))) af))))),?_⟩;left;exists⟨bx1,by2⟩,?_;left;exists⟨by1,bx2⟩,?_;left;exists⟨bx2,by2⟩,?_;refine⟨_,_,rfl,Int.add_nonneg (Int.mul_nonneg x1 (Int.le_of_lt y2)) (Int.mul_nonneg y1 (Int.le_of_lt x2)),Int.mul_pos x2 y2,(sx.2.mul sy.2).mono hnm,fun r H' sm hr'=>kk r H' sm hr'⟩
theorem GS:aD ["one","other"] ["one","other"] (ao BG):=dJ
theorem G3 (T:Txt K mg):dm P w base 1 T.CH GK:=by
 refine T.CH.F.dH GS fun _ _ _ _ H vs Q E hr h=>?_
 ·obtain⟨x,y,p,q,rfl,hp,hq,sx,sy,kk⟩:=h
  have bx1:Sz 20000 x.1:=sx.1.mono nofun;have bx2:Sz 20000 x.2:=sx.2.mono nofun;have by1:Sz 20000 y.1:=sy.1.mono nofun;have by2:Sz 20000 y.2:=sy.2.mono nofun;refine⟨_,(aj (aq (dZ fg (ar rW (ax aA (pv 0) ae (fun _ _=>rfl)) (ax aA (pv 1) ae (fun _ _=>rfl))) (ar rW (ax aA (pv 1) ae (fun _ _=>rfl)) (ax aA (pv 0) ae (fun _ _=>rfl))) (aE _)))),?_⟩;left;exists⟨bx1,by2⟩,?_;left;exists⟨by1,bx2⟩,?_;left;exact kk
theorem AV:aD ["_law_cell","_law_k"] ["_law_cell","_law_k"] (ao rG):=dJ
theorem bP (T:Txt K mg):dm P w base 1 T.cx AN:=by
 refine T.cx.F.dH AV fun _ _ _ _ H vs Q E hr h=>?_
 ·obtain⟨c,k,rfl,h1,h2,kk⟩:=h
  refine⟨_,(aj (aq (ar aV (ar d5 (ar d5 (ar bg (ar aV (pv 0) ae) ae) (ar bg (ar d5 (pv 1) (pv 1)) ae)) ae) ae))),?_⟩;left;exists Or.inl ⟨nofun,nofun⟩,?_;left;have e1:0<=c%2305843009213693951:=zv _ (by decide);have e2:c%2305843009213693951<2305843009213693951:=zr _ (by decide);refine⟨Or.inl ⟨nofun,nofun⟩,?_⟩;left;exact kk
theorem i6:aD ["_law_top","_law_bottom","_law_one","_law_other"] ["_law_top","_law_bottom"] (ao pJ):=dJ
theorem fY (T:Txt K mg):dm P w base 1 T.fN xm:=by
 refine T.fN.F.dH i6 fun _ _ _ _ H vs Q E hr h=>?_
 ·obtain⟨t,b,rfl,h1,h2,h3,kk⟩:=h
  have g0:=wM (t:=t) h2;have g1:Sz 8999 ((Int.gcd t b:Nat):Int):=h3.le (Int.le_of_lt g0) (Mf h2);refine⟨_,(ag (LA (i:=2) (j:=3) rfl i6.nd rfl rfl (by decide) rfl rfl (ah (pv 0) (ah (pv 1) af)) rfl)
   (ag (xS PassesOwn.never (ay fu (pv 3) ae (aE _))
   (aj (LA (i:=2) (j:=3) rfl i6.nd rfl rfl (by decide) rfl rfl (ah (pv 3) (ah (ar aV (pv 2) (pv 3)) af)) rfl)))
   (aj (aq (bK (ah (ar rX (pv 0) (pv 2)) (ah (ar rX (pv 1) (pv 2)) af))))))),?_⟩
  left;exists _,_,rfl,?_;refine⟨fun m σ H'=>H'=H/\∃(x y:Int),σ=[some (.int t),some (.int b),some (.int x),some (.int y)]/\0<=x/\0<=y/\Int.gcd x y=Int.gcd t b/\m=y.toNat,⟨_,rfl,t,b,rfl,h1,Int.le_of_lt h2,rfl,rfl⟩,?_⟩;rintro m σ H' ⟨rfl,x,y,rfl,hx,hy,hg,rfl⟩;left
  by_cases e:y=0
  ·subst e
   refine cw (by simp) ?_;have e2:Int.gcd t b=x.natAbs:=by rw[<-hg];simp
   have e3:x=((Int.gcd t b:Nat):Int):=by rw[e2];omega
   subst e3;left;exists⟨g0,g1⟩,?_;left;exists⟨g0,g1⟩,?_;refine⟨du,laid fun p H' sm hp=>kk p H' sm ?_⟩;exact hp
  ·have hp:(0:Int)<y:=nofun
   refine cj (ze hp) ?_;refine⟨fun σ' H''=>∃m',m'<y.toNat/\H''=H'/\∃(x y:Int),σ'=[some (.int t),some (.int b),some (.int x),some (.int y)]/\0<=x/\0<=y/\Int.gcd x y=Int.gcd t b/\m'=y.toNat,fun _ _ h=>h,?_⟩;left;exists(by show(0:Int)<y;omega),?_;refine⟨_,_,rfl,?_⟩;have l1:=zv x (by omega:y≠0);have l2:=zr x hp;exact⟨(x%y).toNat,nofun,rfl,y,x%y,rfl,hy,l1,(Fz hx hp).trans hg,rfl⟩
theorem xw:aD ["text","most"] ["text","most"] (ao pF):=dJ
theorem nr:aD ["text","most","number"] ["text","most"] (ao pB):=dJ
theorem ka:aD ["fifths_text","steps_text","fifths","steps"] ["fifths_text","steps_text"] (ao rB):=dJ
theorem eP:aD ["text","parts","top","bottom"] ["text"] (ao pG):=dJ
theorem iA:aD ["text","length"] ["text"] (ao i7):=dJ
theorem iB:aD ["text","parts","length","pitch"] ["text"] (ao uR):=dJ
theorem hX (T:Txt K mg):dm P w base 1 T.dE g9:=by
 refine T.dE.F.dH xw fun _ _ _ _ H vs Q E hr h=>?_
 ·obtain⟨t,most,rfl,hl,kk⟩:=h
  have sl:=yB;have hz:t.length<=sizeLine:=nofun
  have el:t.cps.toList.length=t.length:=Array.length_toList;unfold rn at kk;rw[el] at kk;refine⟨_,(ag (aI (PW.pt (eJ (ay fg (eX gf T.bB (ah (pv 0) af)) ae (aE _)) (dw (ay fu (eX gf T.bB (ah (pv 0) af)) (pv 1) (aE _)))))
   (aj (aq aU))
   aB)
   (ag (aI (fG (cW (eX (oK rfl) T.IF (ah (pK (ts:=["sign"]) (ys:=[]) (js:=[]) (g:=(bc 0)) (tc:=dt) (te:=(fQ (fun x y H Q=>∃i j,x=.str i/\y=.str j/\Q (.bl (!(Builtin.Str.occurrences j i 0 j.length 1).isEmpty)) H) (bj 0) (tC (.str "0123456789")))) (LG (pv 0)) (fun _ _ _ _=>(dj 0 (show List.Nodup [("sign": Str)] by decide +kernel))) (fun _ _ _ _=>bx) (fun _ _ _ _=>(dZ BQ (pv 0) (bU (v:=.str "0123456789") (by rfl) T.Ke ⟨_,rfl⟩) (by with_unfolding_all rfl)))) af))))
   (aj (aq aU))
   aB)
   (ag (aI (PW.pt (cV (ay de (ax De (pv 0) ae (fun _ _=>rfl)) aM (aE _)) (cK (ay fu (eX gf T.bB (ah (pv 0) af)) ae (aE _)))))
   (aj (aq aU))
   aB)
   (aj (aq (mV DG T.QO (ah (pv 0) af))))))),?_⟩
  left;exists hz,?_;left;refine vV (fun c1=>?_) (fun c1=>?_)
  ·left
   have z:=kk H (au.refl H);rw[if_pos (yd c1)] at z;exact z
  have c1':¬(t.length:Int)<1:=fun z=>c1 (ze z);rw[if_neg c1'] at kk;left;exists hz,?_;left;refine vV (fun c2=>?_) (fun c2=>?_)
  ·left
   have z:=kk H (au.refl H);rw[if_pos (yd c2)] at z;exact z
  have c2':¬most<(t.length:Int):=fun z=>c2 (ze z);rw[if_neg c2'] at kk;left;refine om t.length (fun i=>(t.cps.toList.take i).map fun c=>V.bl (decide (c∈vY))) (fun i σ H'=>H'=H/\∃v,σ=[v]) (fun i hi=>by rw[za,zP];omega) nofun rfl ⟨rfl,none,rfl⟩ (fun i σ H' hi _=>hi) (fun σ H' _=>zk _) ?_ ?_
  ·rintro i x σ H1 H2 hi ⟨rfl,v,rfl⟩ ⟨rfl,c,hc,rfl⟩
   left;refine Gw.push hi ?_ ⟨rfl,_,rfl⟩;rw[PySem.StrLaws.found_one];rw[<-Array.getElem?_toList] at hc;show List.map _ (List.take (i+1) t.cps.toList)=_;rw[List.take_add_one,hc,zj];rfl
  ·rintro σ H1 ⟨rfl,_⟩
   rw[<-el,zM];right;rename_i D H2 sm h2;exists D,t.cps.toList.map (fun c=>decide (c∈vY)),rfl,aL.of (by rw[h2,zA];rfl),?_;have ea:(t.cps.toList.map (fun c=>decide (c∈vY))).all id=t.cps.toList.all (fun c=>decide (c∈vY)):=by rw[List.all_map];rfl
   rw[ea]
   by_cases ha:t.cps.toList.all (fun c=>decide (c∈vY))=true
   ·rw[ha]
    rw[if_pos ha] at kk;left;have h1:0<t.cps.size:=by show 0<t.length;omega
    obtain⟨c,hc⟩:∃c,t.cps[0]?=some c:=⟨t.cps[0]'h1,Array.getElem?_eq_getElem h1⟩
    have hc':t.cps.toList[0]?=some c:=by rw[Array.getElem?_toList];exact hc
    rw[hc'] at kk;exists _,0,c,rfl,rfl,hz,bF (j:=0) hc',?_;left;have rd:PySem.intText? t=some ((NumText.digitsVal t.cps.toList:Nat):Int):=PySem.intText_digits (HN ha) (fun z=>by rw[z] at el;simp at el;omega) nofun
    by_cases e0:c=48
    ·subst e0
     refine cj (by decide) ?_;left;exists hz,?_;left;refine vV (fun c3=>?_) (fun c3=>?_)
     ·left
      have c3':1<t.length:=by have:=yd c3;omega
      have z:=kk H2 sm;rw[if_pos ⟨rfl,c3'⟩] at z;exact z
     ·have c3':¬1<t.length:=fun z=>c3 (ze nofun)
      have z:=kk H2 sm;rw[if_neg (fun q=>c3' q.2)] at z;left;exact⟨_,_,rfl,rd,nofun,z⟩
    ·refine cw (zd fun z=>e0 ?_) ?_
     ·have z':=V.str.inj z
      exact(List.cons.inj (show [c]=[48] from congrArg (fun y:Str=>y.cps.toList) z')).1
     have z:=kk H2 sm;rw[if_neg (fun q=>e0 (yj q.1))] at z;left;exact⟨_,_,rfl,rd,nofun,z⟩
   ·rw[if_neg ha] at kk
    rw[Bool.eq_false_iff.mpr ha];left;exact kk H2 sm
theorem mE (T:Txt K mg):dm P w base 2 T.fJ l8:=by
 have G_read_number:dm P w base 1 T.dE g9:=hX T;refine T.fJ.F.dH nr fun _ _ _ _ H vs Q E hr h=>?_
 ·obtain⟨t,most,rfl,hl,kk⟩:=h
  have sl:=yB;unfold rs at kk;refine⟨_,(ag (aI (fG (cW (cu PySem.F.plainAttrs_str PySem.F.slot_str_startswith PySem.F.type_str_startswith A7 (pv 0) (ah aM af))))
   (aj (aq (bR G_read_number hr T.dE (ah (pv 0) (ah (pv 1) af)))))
   aB)
   (ag (bW 2 nr.nd (bR G_read_number hr T.dE (ah (dF GP (pv 0) (eK ae) eL) (ah (pv 1) af))))
   (ag (aI (PW.pt (eJ (bA (cA (pv 2))) (dw (ay de (pv 2) ae (aE _)))))
   (aj (aq aU))
   aB)
   (aj (aq (rT kY (pv 2))))))),?_⟩
  left
  by_cases hn:t.cps.toList[0]?=some 45
  ·rw[if_pos hn] at kk
   have q:=(PySem.StrLaws.subAt_one t 45 0).mpr hn;have es:(decide (0+("-": Str).length<=t.length)&&Builtin.Str.subAt t "-" 0)=true:=by
    rw[zN];exact⟨ze q.1,q.2⟩
   rw[es];left;exists by omega,?_
   have h1:1<=t.length:=by have:=q.1;have e:(⟨#[45]⟩:Str).length=1:=rfl;omega
   have e1:(PySem.Txt.slice t (some 1) none).cps.toList=t.cps.toList.drop 1:=pW t h1;left;exists _,most,rfl,zL (PySem.Txt.slice_le t _ _) hl,fun H1 s1=>?_;rw[e1];have z:=kk H1 s1;cases hr':rn most (t.cps.toList.drop 1) with
   | none=>
    rw[hr'] at z;left;exact z
   | some n=>
    rw[hr'] at z;left
    by_cases e0:n=0
    ·subst e0
     refine cj (by decide) ?_;left;exact z
    ·refine cw (zd fun y=>e0 (V.int.inj y)) ?_
     left;have z':Q (ov (if n=0 then none else some (-n))) H1:=z;rw[if_neg e0] at z';exact z'
  ·rw[if_neg hn] at kk
   have es:(decide (0+("-": Str).length<=t.length)&&Builtin.Str.subAt t "-" 0)=false:=by
    rw[Bool.eq_false_iff];intro z;rw[zN] at z;exact hn ((PySem.StrLaws.subAt_one t 45 0).mp ⟨yd z.1,z.2⟩)
   rw[es];left;exact⟨t,most,rfl,hl,fun H1 s1=>kk H1 s1⟩
theorem nV (T:Txt K mg):dm P w base 3 T.jg m8:=by
 have G_read_signed:dm P w base 2 T.fJ l8:=mE T;refine T.jg.F.dH ka fun _ _ _ _ H vs Q E hr h=>?_
 ·obtain⟨a,b,rfl,la,lb,kk⟩:=h
  unfold rp at kk;refine⟨_,(ag (bW 2 ka.nd (bR G_read_signed hr T.fJ (ah (pv 0) (ah (bU (v:=.int 2) (by rfl) T.mP ⟨_,rfl⟩) af))))
   (ag (bW 3 ka.nd (bR G_read_signed hr T.fJ (ah (pv 1) (ah (bU (v:=.int 2) (by rfl) T.mP ⟨_,rfl⟩) af))))
   (ag (aI (PW.pt (eJ (bA (cA (pv 2))) (dw (bA (cA (pv 3))))))
   (aj (aq aU))
   aB)
   (ag (aI (ay jR (ar aV (ar kf (pv 3) (ar d5 (bU (v:=.int 7) (by rfl) T.Bo ⟨_,rfl⟩) (pv 2))) (bU (v:=.int 12) (by rfl) T.Af ⟨_,rfl⟩)) ae (aE _))
   (aj (aq aU))
   aB)
   (aj (aq (bK (ah (pv 2) (ah (pv 3) af))))))))),?_⟩
  left;exists a,2,rfl,la,fun H1 s1=>?_;left;exists b,2,rfl,lb,fun H2 s2=>?_;have S2:=s1.trans s2;cases ea:rs 2 a with
  | none=>
   rw[ea] at kk;left;exact kk .bE H2 S2 .bE
  | some f=>
   cases eb:rs 2 b with
   | none=>
    rw[ea,eb] at kk;left;exact kk .bE H2 S2 .bE
   | some g=>
    rw[ea,eb] at kk;left
    by_cases hm:(g-7*f)%12=0
    ·refine Oq (congrArg V.int hm) ?_
     left;refine⟨du,laid fun p H3 s3 hp=>kk (.ref p) H3 (S2.trans s3) ?_⟩;show Ib H3 (.ref p) (if(g-7*f)%12=0 then some (f,g) else none);rw[if_pos hm];exact .ref hp
    ·refine cj (by simp[hm]) ?_
     left;refine kk .bE H2 S2 ?_;show Ib H2 .bE (if(g-7*f)%12=0 then some (f,g) else none);rw[if_neg hm];exact .bE
theorem mD (T:Txt K mg):dM P w K mg base (Gv P w) 3 T.ku T.ko ["text"] (l6 T.jx):=by
 have G_read_number:dm P w base 1 T.dE g9:=hX T;have G_made_length:dm P w base 2 T.eR fT:=ji T;refine T.eQ.F.S6 eP (fun vs H Q E h=>?_) (fun cdv A' outer s H vs Q E hr h=>?_)
 ·obtain⟨_,rfl,_⟩:=h;rfl
 ·obtain⟨t,rfl,lt,k1,k2⟩:=h
  have sl:=yB;have pl:=PyProof.Rows.split_pos t "/";have sh:∀z∈Txt.split t "/",z.length<=600:=fun z hz=>zL (PyProof.Rows.part_short hz) lt;unfold MQ at k1 k2;refine⟨_,(ag (bW 1 eP.nd (cu PySem.F.plainAttrs_str PySem.F.slot_str_split PySem.F.type_str_split jk (pv 0) (ah aM af)))
   (ag (aI (ay fu (eX aC T.bB (ah (pv 1) af)) ae (aE _))
   (aj (EY T.lO T.lF PySem.F.excBase_ValueError rfl (ah aM af)))
   aB)
   (ag (bW 2 eP.nd (bR G_read_number hr T.dE (ah (ax aN (pv 1) ae (fun _ _=>rfl)) (ah (bU (v:=.int 4) (by rfl) T.kU ⟨_,rfl⟩) af))))
   (ag (bW 3 eP.nd ae)
   (ag (aI (ay de (eX aC T.bB (ah (pv 1) af)) ae (aE _))
   (aj (bW 3 eP.nd (bR G_read_number hr T.dE (ah (ax aN (pv 1) ae (fun _ _=>rfl)) (ah (bU (v:=.int 4) (by rfl) T.kU ⟨_,rfl⟩) af)))))
   aB)
   (ag (aI (PW.pt (eJ (bA (cA (pv 2))) (eJ (bA (cA (pv 3))) (dw (ay de (pv 3) ae (aE _))))))
   (aj (EY T.lO T.lF PySem.F.excBase_ValueError rfl (ah aM af)))
   aB)
   (aj (aq (bR G_made_length hr T.eR (ah (pv 2) (ah (pv 3) af))))))))))),?_⟩
  left;exists by omega,?_
  generalize Txt.split t "/"= ws at k1 k2 pl sh;right;rename_i p1 H1 s1 h1;left;exists p1,_,rfl,.inl (aL.of h1),?_
  match ws,pl,sh,k1,k2,h1 with
  | [a],_,sh,k1,k2,h1=>
   left;exists p1,_,0,_,rfl,rfl,aL.of h1,rfl,?_;left;exists a,4,rfl,sh a (by simp),fun H2 s2=>?_;replace h1:=s2 _ _ h1;left;exists p1,_,rfl,.inl (aL.of h1),?_;cases ea:rn 4 a.cps.toList with
   | none=>
    simp only[ea] at k1 k2;left;refine⟨by show 1<=sizeLine;decide,k2 trivial H2 (s1.trans s2)⟩
   | some n=>
    simp only[ea] at k1 k2;obtain⟨n0,n1,_⟩:=Lk ea (by decide);left;exact⟨_,_,rfl,n0,by decide,(dn (n:=1) (by decide) (by decide)).mono (by decide),fun p3 H3 s3 h3=>k1 _ rfl p3 H3 ((s1.trans s2).trans s3) h3⟩
  | [a,b],_,sh,k1,k2,h1=>
   left;exists p1,_,0,_,rfl,rfl,aL.of h1,rfl,?_;left;exists a,4,rfl,sh a (by simp),fun H2 s2=>?_;replace h1:=s2 _ _ h1;left;exists p1,_,rfl,.inl (aL.of h1),?_;left;exists p1,_,1,_,rfl,rfl,aL.of h1,rfl,?_;left;exists b,4,rfl,sh b (by simp),fun H3 s3=>?_;have S3:=(s1.trans s2).trans s3;cases ea:rn 4 a.cps.toList with
   | none=>
    simp only[ea] at k1 k2;left;exact⟨by show 1<=sizeLine;decide,k2 trivial H3 S3⟩
   | some n=>
    cases eb:rn 4 b.cps.toList with
    | none=>
     simp only[ea,eb] at k1 k2;left;exact⟨by show 1<=sizeLine;decide,k2 trivial H3 S3⟩
    | some m=>
     simp only[ea,eb] at k1 k2;obtain⟨n0,n1,_⟩:=Lk ea (by decide);obtain⟨m0,m1,_⟩:=Lk eb (by decide);left
     by_cases e0:m=0
     ·subst e0
      refine cj (by decide) ?_;left;exact⟨by show 1<=sizeLine;decide,k2 rfl H3 S3⟩
     ·rw[if_neg e0] at k1
      refine cw (zd fun y=>e0 (V.int.inj y)) ?_;left;exact⟨_,_,rfl,n0,nofun,(dn (n:=14) nofun nofun).mono (by decide),fun p4 H4 s4 h4=>k1 _ rfl p4 H4 (S3.trans s4) h4⟩
  | a::b::c::r,_,sh,k1,k2,h1=>
   left;refine cj (ze (show(2:Int)<(((a::b::c::r).map V.str).length:Int) by rw[za];simp only[zt];omega)) ?_;left;exact⟨by show 1<=sizeLine;decide,k2 rfl H1 s1⟩
theorem gU (T:Txt K mg):dm P w base 4 T.dW gS:=by
 have G_read_length:dM P w K mg base (Gv P w) 3 T.ku T.ko ["text"] (l6 T.jx):=mD T;refine T.dW.F.dH iA fun _ _ _ _ H vs Q E hr h=>?_
 ·obtain⟨t,rfl,lt,kk⟩:=h
  unfold lr at kk;refine⟨_,(ag (Nl G_read_length (hr.mono (by decide)) rfl T.eQ.g T.eQ.F.kp T.eQ.b (ah (pv 0) af) rfl iA.nd (i:=1) rfl (Or.inl rfl) rfl T.lO T.lF rfl rfl rfl (fun e=>(aj (aq aU))))
   (ag (aI (ay de (ax aA (pv 1) ae (fun _ _=>rfl)) ae (aE _))
   (aj (aq aU))
   aB)
   (aj (aq (pv 1))))),?_⟩
  left;refine⟨lt,fun x ex p1 H1 s1 h1=>?_,fun en H1 s1=>⟨rfl,?_⟩⟩
  ·simp only[ex] at kk
   left
   by_cases e0:x.1=0
   ·refine cj (by rw[e0];rfl) ?_
    left;rw[if_pos e0] at kk;exact kk .bE H1 s1 .bE
   ·refine cw (zd fun y=>e0 (V.int.inj y)) ?_
    left;rw[if_neg e0] at kk;exact kk (.ref p1) H1 s1 (.ref h1)
  ·simp only[en] at kk
   left;exact kk .bE H1 s1 .bE
theorem NH {ws:List Str} (h:1<=ws.length):Ci (ws.map V.str) (-1)=some (.str (ws.getLast?.getD "")):=by
 have ne:ws≠[]:=fun z=>by rw[z] at h;simp at h
 have e:=List.dropLast_concat_getLast ne;have e2:ws.getLast?.getD ""= ws.getLast ne:=by rw[List.getLast?_eq_some_getLast ne];rfl
 rw[e2];have e3:ws.map V.str=ws.dropLast.map V.str++[V.str (ws.getLast ne)]:=by rw[<-List.map_singleton (f:=V.str),<-zj,e]
 rw[e3];exact Al _ _
theorem L8 {ws:List Str} (h:1<=ws.length):ws.getLast?.getD "" ∈ws:=by
 have ne:ws≠[]:=fun z=>by rw[z] at h;simp at h
 rw[List.getLast?_eq_some_getLast ne];exact List.getLast_mem ne
theorem AZ (T:Txt K mg):dm P w base 5 T.tL oZ:=by
 have G_read_item_length:dm P w base 4 T.dW gS:=gU T;have G_read_pitch:dm P w base 3 T.jg m8:=nV T;refine T.tL.F.dH iB fun _ _ _ _ H vs Q E hr h=>?_
 ·obtain⟨t,rfl,lt,kk⟩:=h
  have sl:=yB;have pl:=PyProof.Rows.split_pos t ":";have sh:∀z∈Txt.split t ":",z.length<=600:=fun z hz=>zL (PyProof.Rows.part_short hz) lt;unfold ir at kk;refine⟨_,(ag (bW 1 iB.nd (cu PySem.F.plainAttrs_str PySem.F.slot_str_split PySem.F.type_str_split jk (pv 0) (ah aM af)))
   (ag (bW 2 iB.nd (bR G_read_item_length hr T.dW (ah (ax aN (pv 1) (rT kY ae) (fun _ _=>rfl)) af)))
   (ag (aI (bA (cA (pv 2)))
   (aj (aq aU))
   aB)
   (ag (aI (PW.pt (cV (ay de (eX aC T.bB (ah (pv 1) af)) ae (aE _)) (cK (ay de (ax aN (pv 1) ae (fun _ _=>rfl)) aM (aE _)))))
   (aj (aq (bK (ah aU (ah (pv 2) af)))))
   aB)
   (ag (aI (ay jR (eX aC T.bB (ah (pv 1) af)) ae (aE _))
   (aj (aq aU))
   aB)
   (ag (bW 3 iB.nd (bR G_read_pitch hr T.jg (ah (ax aN (pv 1) ae (fun _ _=>rfl)) (ah (ax aN (pv 1) ae (fun _ _=>rfl)) af))))
   (ag (aI (bA (cA (pv 3)))
   (aj (aq aU))
   aB)
   (aj (aq (bK (ah (pv 3) (ah (pv 2) af)))))))))))),?_⟩
  left;exists by omega,?_
  generalize Txt.split t ":"= ws at kk pl sh;right;rename_i p1 H1 s1 h1;left;exists p1,_,-1,_,rfl,rfl,aL.of h1,NH pl,?_;refine⟨_,rfl,sh _ (L8 pl),fun v H2 s2 hv=>?_⟩;have h2:=s2 _ _ h1;have S2:=s1.trans s2;generalize lr (ws.getLast?.getD "")=o at kk hv;cases hv with
  | bE=>
   left;exact kk .bE H2 S2 rfl
  | @ref p2 x hx=>
   have kk':∀v H',au H H'->N5 H' v (if ws.dropLast=[("r": Str)] then some (none,x) else match ws.dropLast with
    | [a,b]=>(match rp a b with | some q=>some (some q,x) | none=>none)
    | _=>none)->Q v H':=kk
   clear kk;left;exists p1,_,rfl,.inl (aL.of h2),?_
   match ws,pl,sh,kk',h2 with
   | [a],_,sh,kk,h2=>
    left;exists p1,_,rfl,.inl (aL.of h2),?_;left;exact kk .bE H2 S2 rfl
   | [a,b],_,sh,kk,h2=>
    left;exists p1,_,0,_,rfl,rfl,aL.of h2,rfl,?_;left
    by_cases ea:a ="r"
    ·subst ea
     refine cj (by decide) ?_;left;exact⟨du,laid fun p3 H3 s3 h3=>kk (.ref p3) H3 (S2.trans s3) ⟨p3,_,p2,rfl,h3,s3 _ _ hx,.bE⟩⟩
    ·refine cw (zd fun z=>ea (V.str.inj z)) ?_
     left;exists p1,_,rfl,.inl (aL.of h2),?_;left;refine kk .bE H2 S2 ?_;rw[if_neg (by intro z;exact ea (List.cons.inj z).1)];rfl
   | [a,b,c],_,sh,kk,h2=>
    left;exists p1,_,rfl,.inl (aL.of h2),?_;left;exists p1,_,0,_,rfl,rfl,aL.of h2,rfl,?_;left;exists p1,_,1,_,rfl,rfl,aL.of h2,rfl,?_;refine⟨a,b,rfl,sh a (by simp),sh b (by simp),fun v H3 s3 hv=>?_⟩;have kk2:∀v H',au H H'->N5 H' v (match rp a b with | some q=>some (some q,x) | none=>none)->Q v H':=fun v H' s' z=>kk v H' s' (by
     rw[if_neg (by intro y;simp at y)];exact z)
    generalize rp a b=o at kk2 hv;cases hv with
    | bE=>
     left;exact kk2 .bE H3 (S2.trans s3) rfl
    | @ref p4 q hq=>
     left;exact⟨du,laid fun p5 H5 s5 h5=>kk2 (.ref p5) H5 ((S2.trans s3).trans s5) ⟨p5,_,p2,rfl,h5,s5 _ _ (s3 _ _ hx),.ref (s5 _ _ hq)⟩⟩
   | a::b::c::d::r,_,sh,kk,h2=>
    left;exists p1,_,rfl,.inl (aL.of h2),?_;left;refine kk .bE H2 S2 ?_;rw[if_neg (by intro y;simp at y)];rfl
theorem EJ:aD ["row"] ["row"] (ao xx):=dJ
theorem E8 (T:Txt K mg):dm P w base 1 T.words_of EB:=by
 refine T.words_of.F.dH EJ fun _ _ _ _ H vs Q E hr h=>?_
 ·obtain⟨t,rfl,hl,kk⟩:=h
  have sl:=yB;have ple:=PyProof.Rows.split_le t " ";refine⟨_,(aj (aq (pK (ts:=["word"]) (ys:=[]) (js:=[]) (g:=(bc 0)) (tc:=(oY (fQ Sd (bj 0) (tC (.str ""))))) (te:=(bj 0)) (bz (cu PySem.F.plainAttrs_str PySem.F.slot_str_split PySem.F.type_str_split jk (pv 0) (ah aM af))) (fun _ _ _ _=>(dj 0 (show List.Nodup [("word": Str)] by decide +kernel))) (fun _ _ _ _=>(iF (ay jR (pv 0) aM (aE _)))) (fun _ _ _ _=>(pv 0))))),?_⟩;ac_rfl;left;exists by omega,?_
  unfold words at kk;generalize Txt.split t " "= ws at kk ple;right;rename_i p1 H1 s1 h1;exists p1,rfl,⟨_,aL.of h1⟩,?_;refine om ws.length (fun i=>((ws.take i).filter fun w=>decide (w≠("": Str))).map V.str) (fun i σ H'=>H'=H1/\∃v,σ=[v]) ?_ nofun rfl ⟨rfl,none,rfl⟩ ?_ ?_ ?_ ?_
  ·intro i hi
   rw[za];exact zL (List.length_filter_le _ _) (by rw[zP];omega)
  ·rintro i σ H' hi ⟨rfl,_⟩
   exact Fy (aL.of h1) (by rw[za];exact hi)
  ·rintro σ H' ⟨rfl,_⟩
   exact⟨_,aL.of h1,by rw[za];exact zk _⟩
  ·rintro i x σ H' H2 hi ⟨rfl,v,rfl⟩ ⟨rfl,hy⟩
   have hx:=hy _ (aL.of h1);rw[zJ,zb hi] at hx;cases hx;left
   by_cases e:ws[i] =""
   ·refine cw (by rw[e];rfl) ?_
    refine Gw.skip hi ?_ ⟨rfl,_,rfl⟩;show List.map V.str (List.filter _ (List.take (i+1) ws))=List.map V.str (List.filter _ (List.take i ws));rw[List.take_add_one,zb hi,e,List.filter_append];simp
   ·refine cj (by rw[zd fun z=>e (V.str.inj z)];rfl) ?_
    left;refine Gw.push hi ?_ ⟨rfl,_,rfl⟩;show List.map V.str (List.filter _ (List.take (i+1) ws))=List.map V.str (List.filter _ (List.take i ws))++[V.str ws[i]];rw[List.take_add_one,zb hi,List.filter_append,zj];have:List.filter (fun w=>decide (w≠("": Str))) (Option.toList (some ws[i]))=[ws[i]]:=by simp[e]
    rw[this];rfl
  ·rintro σ H' ⟨rfl,_⟩
   rw[zM];exact laid fun p H' sm h=>kk p H' (s1.trans sm) h
theorem AS:aD ["word"] ["word"] (ao rA):=dJ
theorem ck (T:Txt K mg):dm P w base 2 T.cQ j8:=by
 refine T.cQ.F.dH AS fun _ _ _ _ H vs Q E hr h=>?_
 ·obtain⟨t,rfl,hl,kk⟩:=h
  refine⟨_,(aj (aq (bR (hX T) hr T.dE (ah (pv 0) (ah (bU (v:=.int (3)) (by rfl) T.kT ⟨_,rfl⟩) af))))),?_⟩;ac_rfl;left;exact⟨_,_,rfl,hl,kk⟩
theorem CJ:aD ["word"] ["word"] (ao uP):=dJ
theorem d6 (T:Txt K mg):dm P w base 1 T.eZ lh:=by
 refine T.eZ.F.dH CJ fun _ _ _ _ H vs Q E hr h=>?_
 ·obtain⟨t,rfl,hl,kk⟩:=h
  have sl:=yB;have hz:t.length<=sizeLine:=nofun
  have el:t.cps.toList.length=t.length:=Array.length_toList;unfold cH at kk;refine⟨_,(ag (aI (PW.pt (eJ (ay fg (eX gf T.bB (ah (pv 0) af)) ae (aE _)) (dw (ay fu (eX gf T.bB (ah (pv 0) af)) (bU (v:=.int (12)) (by rfl) T.Ai ⟨_,rfl⟩) (aE _)))))
   (aj (aq aU))
   aB)
   (ag (aI (fG (cW (eX (oK rfl) T.IF (ah (pK (ts:=["sign"]) (ys:=[]) (js:=[]) (g:=(bc 0)) (tc:=dt) (te:=(fQ (fun x y H Q=>∃i j,x=.str i/\y=.str j/\Q (.bl (!(Builtin.Str.occurrences j i 0 j.length 1).isEmpty)) H) (bj 0) (tC (.str "abcdefghijklmnopqrstuvwxyz0123456789")))) (LG (pv 0)) (fun _ _ _ _=>(dj 0 (show List.Nodup [("sign": Str)] by decide +kernel))) (fun _ _ _ _=>bx) (fun _ _ _ _=>(dZ BQ (pv 0) (bU (v:=.str "abcdefghijklmnopqrstuvwxyz0123456789") (by rfl) T.DH ⟨_,rfl⟩) (by with_unfolding_all rfl)))) af))))
   (aj (aq aU))
   aB)
   (aj (aq (pv 0))))),?_⟩
  ac_rfl;left;exists hz,?_;left;refine vV (fun c1=>?_) (fun c1=>?_)
  ·left
   have z:=kk H (au.refl H);rw[if_pos (yd c1)] at z;exact z
  have c1':¬(t.length:Int)<1:=fun z=>c1 (ze z);rw[if_neg c1'] at kk;left;exists hz,?_;left;refine vV (fun c2=>?_) (fun c2=>?_)
  ·left
   have z:=kk H (au.refl H);rw[if_pos (yd c2)] at z;exact z
  have c2':¬(12:Int)<(t.length:Int):=fun z=>c2 (ze z);rw[if_neg c2'] at kk;left;refine om t.length (fun i=>(t.cps.toList.take i).map fun c=>V.bl (decide (c∈sgn))) (fun i σ H'=>H'=H/\∃v,σ=[v]) (fun i hi=>by rw[za,zP];omega) nofun rfl ⟨rfl,none,rfl⟩ (fun i σ H' hi _=>hi) (fun σ H' _=>zk _) ?_ ?_
  ·rintro i x σ H1 H2 hi ⟨rfl,v,rfl⟩ ⟨rfl,c,hc,rfl⟩
   left;refine Gw.push hi ?_ ⟨rfl,_,rfl⟩;rw[PySem.StrLaws.found_one];rw[<-Array.getElem?_toList] at hc;show List.map _ (List.take (i+1) t.cps.toList)=_;rw[List.take_add_one,hc,zj];rfl
  ·rintro σ H1 ⟨rfl,_⟩
   rw[<-el,zM];right;rename_i D H2 s2 h2;exists D,t.cps.toList.map (fun c=>decide (c∈sgn)),rfl,aL.of (by rw[h2,zA];rfl),?_;have ea:(t.cps.toList.map (fun c=>decide (c∈sgn))).all id=t.cps.toList.all (fun c=>decide (c∈sgn)):=by rw[List.all_map];rfl
   rw[ea]
   by_cases ha:t.cps.toList.all (fun c=>decide (c∈sgn))=true
   ·rw[ha]
    rw[if_pos ha] at kk;left;exact kk _ s2
   ·rw[if_neg ha] at kk
    rw[show t.cps.toList.all (fun c=>decide (c∈sgn))=false from by simpa using ha];left;exact kk _ s2
theorem nh:aD ["word","lowest","highest","number"] ["word","lowest","highest"] (ao pz):=dJ
theorem nX (T:Txt K mg):dm P w base 3 T.jM xk:=by
 refine T.jM.F.dH nh fun _ _ _ _ H vs Q E hr h=>?_
 ·obtain⟨t,lo,hi,rfl,hl,kk⟩:=h
  unfold mC at kk;refine⟨_,(ag (bW 3 nh.nd (bR (ck T) hr T.cQ (ah (pv 0) af)))
   (ag (aI (PW.pt (eJ (bA (cA (pv 3))) (eJ (ay fg (pv 3) (pv 1) (aE _)) (dw (ay fu (pv 3) (pv 2) (aE _))))))
   (aj (aq aU))
   aB)
   (aj (aq (pv 3))))),?_⟩
  ac_rfl;left;exists hl,fun H1 s1=>?_;cases e:fI t with
  | none=>
   rw[e] at kk;left;exact kk _ s1
  | some n=>
   rw[e] at kk;left
   by_cases c1:n<lo
   ·refine cj (ze c1) ?_
    simp only[if_pos c1] at kk;left;exact kk _ s1
   ·refine cw (zd c1) ?_
    simp only[if_neg c1] at kk;left
    by_cases c2:hi<n
    ·refine cj (ze c2) ?_
     simp only[if_pos c2] at kk;left;exact kk _ s1
    ·refine cw (zd c2) ?_
     simp only[if_neg c2] at kk;left;exact kk _ s1
theorem CI:aD ["word"] ["word"] (ao uO):=dJ
theorem CZ (T:Txt K mg):dm P w base 4 T.tK Cz:=by
 refine T.tK.F.dH CI fun _ _ _ _ H vs Q E hr h=>?_
 ·obtain⟨t,rfl,hl,kk⟩:=h
  refine⟨_,(aj (Nk (mD T) (hr.mono (by decide)) rfl T.eQ.g T.eQ.F.kp T.eQ.b (ah (pv 0) af) rfl rfl T.lO T.lF rfl rfl rfl (fun e=>(aj (aq aU))))),?_⟩;ac_rfl;left;refine⟨hl,fun x e p H1 s1 h1=>?_,fun e H1 s1=>⟨rfl,?_⟩⟩
  ·rw[e] at kk
   exact kk _ H1 s1 (.ref h1)
  ·rw[e] at kk
   left;exact kk _ H1 s1 .bE
theorem qZ:aD ["fifths_word","steps_word","turn"] ["fifths_word","steps_word"] (ao uN):=dJ
theorem CY (T:Txt K mg):dm P w base 4 T.tJ Cy:=by
 refine T.tJ.F.dH qZ fun _ _ _ _ H vs Q E hr h=>?_
 ·obtain⟨a,b,rfl,la,lb,kk⟩:=h
  unfold xJ at kk;refine⟨_,(ag (bW 2 qZ.nd (bR (nV T) hr T.jg (ah (pv 0) (ah (pv 1) af))))
   (ag (aI (PW.pt (eJ (bA (cA (pv 2))) (dw (ay fu (eX Ga T.Om (ah (ax aA (pv 2) ae (fun _ _=>rfl)) af)) (bU (v:=.int (12)) (by rfl) T.Aj ⟨_,rfl⟩) (aE _)))))
   (aj (aq aU))
   aB)
   (aj (aq (pv 2))))),?_⟩
  ac_rfl;left;exists _,_,rfl,la,lb,fun v H1 s1 h1=>?_;cases e:rp a b with
  | none=>
   rw[e] at kk h1;cases h1;left;exact kk _ _ s1 .bE
  | some q=>
   rw[e] at kk h1;cases h1 with
   | ref h1=>
    left;refine vV (fun c=>?_) (fun c=>?_)
    ·simp only[if_pos (yd c)] at kk
     left;exact kk _ _ s1 .bE
    ·simp only[if_neg (fun z=>c (ze z))] at kk
     left;exact kk _ _ s1 (.ref h1)
theorem uJ:aD ["word","key"] ["word"] (ao xy):=dJ
theorem Fc (T:Txt K mg):dm P w base 3 T.xP EE:=by
 refine T.xP.F.dH uJ fun _ _ _ _ H vs Q E hr h=>?_
 ·obtain⟨t,rfl,hl,kk⟩:=h
  unfold ES at kk;refine⟨_,(ag (bW 1 uJ.nd (bR (mE T) hr T.fJ (ah (pv 0) (ah (bU (v:=.int (3)) (by rfl) T.kT ⟨_,rfl⟩) af))))
   (ag (aI (PW.pt (eJ (bA (cA (pv 1))) (dw (ay fu (eX Ga T.Om (ah (pv 1) af)) (bU (v:=.int (7)) (by rfl) T.Bm ⟨_,rfl⟩) (aE _)))))
   (aj (aq aU))
   aB)
   (aj (aq (pv 1))))),?_⟩
  ac_rfl;left;exists _,_,rfl,hl,fun H1 s1=>?_;cases e:rs 3 t with
  | none=>
   rw[e] at kk;left;exact kk _ s1
  | some n=>
   rw[e] at kk;left;refine vV (fun c=>?_) (fun c=>?_)
   ·simp only[if_pos (yd c)] at kk
    left;exact kk _ s1
   ·simp only[if_neg (fun z=>c (ze z))] at kk
    left;exact kk _ s1
theorem uM:aD ["values"] ["values"] (ao xE):=dJ
theorem eD (T:Txt K mg):dm P w base 1 T.dq (AM K):=by
 refine T.dq.F.dH uM fun _ _ _ _ H vs Q E hr h=>?_
 ·obtain⟨a,us,rfl,ha,hl,kk⟩:=h
  have sl:=yB;refine⟨_,(ag (aI (cW (eX (gE rfl) T.yD (ah (pK (ts:=["value"]) (ys:=[]) (js:=[]) (g:=(bc 0)) (tc:=dt) (te:=(K1 (bj 0))) (bz (pv 0)) (fun _ _ _ _=>(dj 0 (show List.Nodup [("value": Str)] by decide +kernel))) (fun _ _ _ _=>bx) (fun _ _ _ _=>(tO (cA (pv 0))))) af)))
   (aj (aq aU))
   aB)
   (aj (aq (pv 0)))),?_⟩
  ac_rfl;left;exists⟨_,ha⟩,?_;refine fM (enc:=fun v=>v) (ws:=us) (fun v=>.bl (gq v)) (fun σ=>∃v,σ=[v]) nofun (by rw[List.map_id'];exact ha) ⟨none,rfl⟩ ?_ ?_
  ·rintro v σ H1 R hv s1 ⟨_,rfl⟩ r
   left;exact r _ _ _ (au.refl _) (by unfold Is;rfl) ⟨_,rfl⟩
  ·intro D vs H1 s1 hD il
   have e:us.map (fun v=>Dt.bl (gq v))=(us.map gq).map Dt.bl:=by rw[zA];rfl
   rw[e] at il;rw[kg il] at hD;exists D,us.map gq,rfl,aL.of hD,?_;have e2:(us.map gq).any id=us.any gq:=by rw[List.any_map];rfl
   rw[e2];cases q:us.any gq with
   | true=>
    rw[q] at kk;left;exact kk _ s1
   | false=>
    rw[q] at kk;left;exact kk _ s1
theorem fw (T:Txt K mg):dm P w base 1 T.dq AL:=by
 refine T.dq.F.dH uM fun _ _ _ _ H vs Q E hr h=>?_
 ·obtain⟨a,us,rfl,ha,hl,kk⟩:=h
  have sl:=yB;refine⟨_,(ag (aI (cW (eX (gE rfl) T.yD (ah (pK (ts:=["value"]) (ys:=[]) (js:=[]) (g:=(bc 0)) (tc:=dt) (te:=(K1 (bj 0))) (ke (pv 0)) (fun _ _ _ _=>(dj 0 (show List.Nodup [("value": Str)] by decide +kernel))) (fun _ _ _ _=>bx) (fun _ _ _ _=>(tO (cA (pv 0))))) af)))
   (aj (aq aU))
   aB)
   (aj (aq (pv 0)))),?_⟩
  ac_rfl;left;exists⟨_,dB.of ha⟩,?_;refine gC (enc:=fun v=>v) (ws:=us) (fun v=>.bl (gq v)) (fun σ=>∃v,σ=[v]) nofun (by rw[List.map_id'];exact ha) ⟨none,rfl⟩ ?_ ?_
  ·rintro v σ H1 R hv s1 ⟨_,rfl⟩ r
   left;exact r _ _ _ (au.refl _) (by unfold Is;rfl) ⟨_,rfl⟩
  ·intro D vs H1 s1 hD il
   have e:us.map (fun v=>Dt.bl (gq v))=(us.map gq).map Dt.bl:=by rw[zA];rfl
   rw[e] at il;rw[kg il] at hD;exists D,us.map gq,rfl,aL.of hD,?_;have e2:(us.map gq).any id=us.any gq:=by rw[List.any_map];rfl
   rw[e2];cases q:us.any gq with
   | true=>
    rw[q] at kk;left;exact kk _ s1
   | false=>
    rw[q] at kk;left;exact kk _ s1
theorem yM (n:Int):∀ns:List Int,Eg (.int n) (ns.map V.int)=decide (n∈ns)
 | []=>rfl
 | m::ns=>by
  have ih:=yM n ns;unfold Eg at ih ⊢;rw[zh,List.any_cons,ih]
  by_cases e:n=m
  ·subst e
   simp[Hs]
  ·simp[Hs,e,Ne.symm (a:=m) (b:=n) (fun z=>e z.symm)]
   try omega
theorem GX {t a b:Str} (h:Txt.split t "/"= [a,b]):jf t=(match mC a 1 32,fI b with | some m,some n=>if n∈Bp then some (m,n) else none | _,_=>none):=by unfold jf;rw[h];try rfl
theorem JB {t:Str} (h:(Txt.split t "/").length≠2):jf t=none:=by
 unfold jf;split
 ·rename_i e;rw[e] at h;exact absurd rfl h
 ·rfl
theorem Lq {t a b:Str} (h:Txt.split t ":"= [a,b]):xK t=(match fI a,oq ((Txt.split b ",").map fI) with | some n,some ps=>some (n,ps) | _,_=>none):=by unfold xK;rw[h];try rfl
theorem Nc {t:Str} (h:(Txt.split t ":").length≠2):xK t=none:=by
 unfold xK;split
 ·rename_i e;rw[e] at h;exact absurd rfl h
 ·rfl
theorem gI:aD ["word","parts","top","bottom"] ["word"] (ao rD):=dJ
theorem A3 (T:Txt K mg):dm P w base 4 T.qp (AK K):=by
 refine T.qp.F.dH gI fun _ _ _ _ H vs Q E hr h=>?_
 ·obtain⟨t,rfl,hl,kk⟩:=h
  have sl:=yB;have sh:∀z∈Txt.split t "/",z.length<=600:=fun z hz=>zL (PyProof.Rows.part_short hz) hl;refine⟨_,(ag (bW 1 gI.nd (cu PySem.F.plainAttrs_str PySem.F.slot_str_split PySem.F.type_str_split jk (pv 0) (ah aM af)))
   (ag (aI (ay jR (eX aC T.bB (ah (pv 1) af)) ae (aE _))
   (aj (aq aU))
   aB)
   (ag (bW 2 gI.nd (bR (nX T) hr T.jM (ah (ax aN (pv 1) ae (fun _ _=>rfl)) (ah ae (ah (bU (v:=.int (32)) (by rfl) T.wo ⟨_,rfl⟩) af)))))
   (ag (bW 3 gI.nd (bR (ck T) hr T.cQ (ah (ax aN (pv 1) ae (fun _ _=>rfl)) af)))
   (ag (aI (PW.pt (eJ (bA (cA (pv 2))) (dw (ay d4 (pv 3) (bU (v:=.ref T.eB) (by rfl) T.wm rfl) (by with_unfolding_all rfl)))))
   (aj (aq aU))
   aB)
   (aj (aq (bK (ah (pv 2) (ah (pv 3) af)))))))))),?_⟩
  ac_rfl;left;exists by omega,?_
  generalize ew:Txt.split t "/"= ws at sh;right;rename_i p1 H1 s1 h1;left;exists p1,_,rfl,.inl (aL.of h1),?_;rw[za];left
  by_cases hw:ws.length=2
  ·obtain⟨a,b,rfl⟩:∃a b,ws=[a,b]:=by
    match ws,hw with
    | [a,b],_=>exact⟨a,b,rfl⟩
   refine cw rfl ?_;left;exists p1,_,0,_,rfl,rfl,aL.of h1,rfl,?_;refine⟨_,_,_,rfl,sh a (by simp),fun H2 s2=>?_⟩;left;exists p1,_,1,_,rfl,rfl,aL.of (s2 _ _ h1),rfl,?_;refine⟨_,rfl,sh b (by simp),fun H3 s3=>?_⟩;have s03:=(s1.trans s2).trans s3;rw[GX ew] at kk;cases ea:mC a 1 32 with
   | none=>
    rw[ea] at kk;left;exact kk _ _ s03 .bE
   | some m=>
    rw[ea] at kk;left;cases eb:fI b with
    | none=>
     rw[eb] at kk;exists T.eB,_,rfl,.inr (T.mJ H3),rfl,rfl,?_;left;exact kk _ _ s03 .bE
    | some n=>
     rw[eb] at kk;exists T.eB,Bp.map V.int,rfl,.inr (T.mJ H3),rfl,rfl,?_;show∃k,V.bl (!Eg (.int n) (Bp.map V.int))=.bl k/\_;rw[yM]
     by_cases c:n∈Bp
     ·rw[ze c]
      simp only[if_pos c] at kk;left;refine⟨du,laid fun p4 H4 s4 h4=>kk _ _ (s03.trans s4) (.ref h4)⟩
     ·rw[zd c]
      simp only[if_neg c] at kk;left;exact kk _ _ s03 .bE
  ·refine cj (by rw[zd fun z=>hw (by have:=V.int.inj z;omega)];rfl) ?_
   left;rw[JB (by rw[ew];exact hw)] at kk;exact kk _ _ s1 .bE
theorem jG:aD ["word","parts","bar","passes"] ["word"] (ao xA):=dJ
theorem Fd (T:Txt K mg):dm P w base 4 T.xQ uG:=by
 refine T.xQ.F.dH jG fun _ _ _ _ H vs Q E hr h=>?_
 ·obtain⟨t,rfl,hl,kk⟩:=h
  have sl:=yB;have sh:∀z∈Txt.split t ":",z.length<=600:=fun z hz=>zL (PyProof.Rows.part_short hz) hl;refine⟨_,(ag (bW 1 jG.nd (cu PySem.F.plainAttrs_str PySem.F.slot_str_split PySem.F.type_str_split jk (pv 0) (ah aM af)))
   (ag (aI (ay jR (eX aC T.bB (ah (pv 1) af)) ae (aE _))
   (aj (aq aU))
   aB)
   (ag (bW 2 jG.nd (bR (ck T) hr T.cQ (ah (ax aN (pv 1) ae (fun _ _=>rfl)) af)))
   (ag (bW 3 jG.nd (bR (eD T) hr T.dq (ah (pK (ts:=["part"]) (ys:=[]) (js:=[]) (g:=(bc 0)) (tc:=dt) (te:=(gQ j8 [] E0 (bQ (bj 0) eO))) (bz (cu PySem.F.plainAttrs_str PySem.F.slot_str_split PySem.F.type_str_split jk (ax aN (pv 1) ae (fun _ _=>rfl)) (ah aM af))) (fun _ _ _ _=>(dj 0 (show List.Nodup [("part": Str)] by decide +kernel))) (fun _ _ _ _=>bx) (fun _ _ _ _=>(bR (ck T) hr T.cQ (ah (pv 0) af)))) af)))
   (ag (aI (PW.pt (eJ (bA (cA (pv 2))) (dw (bA (cA (pv 3))))))
   (aj (aq aU))
   aB)
   (aj (aq (bK (ah (pv 2) (ah (mV cL T.iG (ah (pv 3) af)) af)))))))))),?_⟩
  ac_rfl;left;exists by omega,?_
  generalize ew:Txt.split t ":"= ws at sh;right;rename_i p1 H1 s1 h1;left;exists p1,_,rfl,.inl (aL.of h1),?_;rw[za];left
  by_cases hw:ws.length=2
  ·obtain⟨a,b,rfl⟩:∃a b,ws=[a,b]:=by
    match ws,hw with
    | [a,b],_=>exact⟨a,b,rfl⟩
   refine cw rfl ?_;left;exists p1,_,0,_,rfl,rfl,aL.of h1,rfl,?_;refine⟨_,rfl,sh a (by simp),fun H2 s2=>?_⟩;left;exists p1,_,1,_,rfl,rfl,aL.of (s2 _ _ h1),rfl,?_;left;have lb:=sh b (by simp);have bl:=PyProof.Rows.split_le b ",";have bsh:∀z∈Txt.split b ",",z.length<=600:=fun z hz=>zL (PyProof.Rows.part_short hz) lb;refine⟨nofun,?_⟩;rw[Lq ew] at kk;generalize Txt.split b ","= bs at kk bl bsh;right;rename_i p3 H3 s3 h3;left;exists⟨_,aL.of h3⟩,?_;refine fM (enc:=V.str) (ws:=bs) (fun z=>dO .int (fI z)) (fun σ=>∃v,σ=[v]) nofun (aL.of h3) ⟨none,rfl⟩ ?_ ?_
   ·rintro z σ H4 R hz s4 ⟨_,rfl⟩ r
    left;exact⟨bsh z hz,fun H5 s5=>r _ _ _ s5 (yK _) ⟨_,rfl⟩⟩
   ·intro D vs H4 s4 hD il
    have s04:=((s1.trans s2).trans s3).trans s4;refine⟨D,vs,rfl,aL.of hD,by rw[il.len,za];omega,fun H5 s5=>?_⟩;have e1:bs.map (fun z=>dO Dt.int (fI z))=(bs.map fI).map (dO Dt.int):=by rw[zA];rfl
    rw[e1] at il;rw[jX il];cases q:((bs.map fI).map (dO Dt.int)).any Dt.gq with
    | true=>
     rw[iY Mj q] at kk;have kn:=kk .bE H5 (s04.trans s5) (by cases fI a <;> (unfold dO Is;rfl));cases ea:fI a with
     | none=>left;exact kn
     | some n=>left;exact kn
    | false=>
     obtain⟨xs,e2,e3,e4⟩:=iX q;rw[e2] at kk;rw[e3] at il;have ev:=fF il;subst ev;cases ea:fI a with
     | none=>
      rw[ea] at kk;left;exact kk .bE H5 (s04.trans s5) (by unfold dO Is;rfl)
     | some n=>
      rw[ea] at kk;left;refine⟨D,_,rfl,.inl ⟨aL.of (s5 _ _ hD),?_⟩⟩;right;rename_i p6 H6 s6 h6;left;refine⟨du,laid fun p7 H7 s7 h7=>kk _ _ (((s04.trans s5).trans s6).trans s7) ?_⟩;show Is H7 (.tup [.int n,.tup (xs.map .int)]) _;unfold Is;refine⟨p7,_,rfl,h7,?_⟩;unfold L2.IsL;refine⟨_,_,rfl,by unfold Is;rfl,?_⟩;unfold L2.IsL;refine⟨_,_,rfl,?_,by unfold L2.IsL;rfl⟩;unfold Is;exact⟨p6,_,rfl,s7 _ _ h6,sC⟩
  ·refine cj (by rw[zd fun z=>hw (by have:=V.int.inj z;omega)];rfl) ?_
   left;rw[Nc (by rw[ew];exact hw)] at kk;exact kk _ _ s1 (by unfold dO Is;rfl)
theorem LO {α:Type} {f:Str->Option α} {ws:List Str} (h:ws.length≠1):one f ws=none:=by
 match ws,h with
 | [],_=>rfl
 | [_],h=>exact absurd rfl h
 | _::_::_,_=>rfl
theorem xu:aD ["words"] ["words"] (ao pE):=dJ
theorem x9 (T:Txt K mg):dm P w base 2 T.jP (fR K (pO .str (one cH))):=by
 refine T.jP.F.dH xu fun _ _ _ _ H vs Q E hr h=>?_
 ·obtain⟨p,ws,rfl,hp,hl,sh,kk⟩:=h
  refine⟨_,(ag (aI (ay jR (eX aC T.bB (ah (pv 0) af)) ae (aE _))
   (aj (aq aU))
   aB)
   (aj (aq (bR (d6 T) hr T.eZ (ah (ax aN (pv 0) ae (fun _ _=>rfl)) af))))),?_⟩
  ac_rfl;left;exists p,_,rfl,.inl hp,?_;rw[za];left
  by_cases hw:ws.length=1
  ·obtain⟨a,rfl⟩:∃a,ws=[a]:=by
    match ws,hw with
    | [a],_=>exact⟨a,rfl⟩
   refine cw rfl ?_;left;exists p,_,0,_,rfl,rfl,hp,rfl,?_;exact⟨_,rfl,sh a (by simp),fun H1 s1=>kk _ _ s1 (BY _)⟩
  ·refine cj (by rw[zd fun z=>hw (by have:=V.int.inj z;omega)];rfl) ?_
   left;refine kk _ _ (au.refl _) ?_;unfold pO;rw[LO hw];exact d7
theorem xt:aD ["words"] ["words"] (ao pA):=dJ
theorem x6 (T:Txt K mg):dm P w base 5 T.jN (fR K (pO dL (one lr))):=by
 refine T.jN.F.dH xt fun _ _ _ _ H vs Q E hr h=>?_
 ·obtain⟨p,ws,rfl,hp,hl,sh,kk⟩:=h
  refine⟨_,(ag (aI (ay jR (eX aC T.bB (ah (pv 0) af)) ae (aE _))
   (aj (aq aU))
   aB)
   (aj (aq (bR (gU T) hr T.dW (ah (ax aN (pv 0) ae (fun _ _=>rfl)) af))))),?_⟩
  ac_rfl;left;exists p,_,rfl,.inl hp,?_;rw[za];left
  by_cases hw:ws.length=1
  ·obtain⟨a,rfl⟩:∃a,ws=[a]:=by
    match ws,hw with
    | [a],_=>exact⟨a,rfl⟩
   refine cw rfl ?_;left;exists p,_,0,_,rfl,rfl,hp,rfl,?_;exact⟨_,rfl,sh a (by simp),fun v H1 s1 h1=>kk _ _ s1 (yJ h1)⟩
  ·refine cj (by rw[zd fun z=>hw (by have:=V.int.inj z;omega)];rfl) ?_
   left;refine kk _ _ (au.refl _) ?_;unfold pO;rw[LO hw];exact d7
theorem DD {α:Type} (d:α->Dt) (o:Option α):dO d o=(o.map d).getD .bE:=by cases o <;> rfl
theorem DP {H:Hp} {ds:List Dt} {us:List V} {a:Addr} {d:Option Dt} (ha:H a=some (.tup us)) (il:L2.IsL H ds us) (h1:ds.any Dt.gq=true->d=none) (h2:ds.any Dt.gq=false->d=some (.tup ds)):Is H (d.getD .bE) (if us.any gq=true then .bE else .ref a):=by
 rw[jX il];cases q:ds.any Dt.gq with
 | true=>rw[h1 q];exact d7
 | false=>rw[h2 q];exact cB ha il
theorem pX:aD ["words"] ["words"] (ao jH):=dJ
theorem qz (T:Txt K mg):dm P w base 5 T.fC (fR K (pO eG lE)):=by
 refine T.fC.F.dH pX fun _ _ _ _ H vs Q E hr h=>?_
 ·obtain⟨p,ws,rfl,hp,hl,sh,kk⟩:=h
  refine⟨_,(ag (aI (ay jR (eX aC T.bB (ah (pv 0) af)) ae (aE _))
   (aj (aq aU))
   aB)
   (aj (aq (bR (fw T) hr T.dq (ah (bK (ah (bR (d6 T) hr T.eZ (ah (ax aN (pv 0) ae (fun _ _=>rfl)) af)) (ah (bR (CY T) hr T.tJ (ah (ax aN (pv 0) ae (fun _ _=>rfl)) (ah (ax aN (pv 0) ae (fun _ _=>rfl)) af))) (ah (bR (CZ T) hr T.tK (ah (ax aN (pv 0) ae (fun _ _=>rfl)) af)) af)))) af))))),?_⟩
  ac_rfl;left;exists p,_,rfl,.inl hp,?_;rw[za];left
  by_cases hw:ws.length=4
  ·obtain⟨a,b,c,d,rfl⟩:∃a b c d,ws=[a,b,c,d]:=by
    match ws,hw with
    | [a,b,c,d],_=>exact⟨a,b,c,d,rfl⟩
   refine cw rfl ?_;left;exists p,_,0,_,rfl,rfl,hp,rfl,?_;refine⟨_,rfl,sh a (by simp),fun H1 s1=>?_⟩;left;exists p,_,1,_,rfl,rfl,s1.seq hp,rfl,?_;left;exists p,_,2,_,rfl,rfl,s1.seq hp,rfl,?_;refine⟨_,_,rfl,sh b (by simp),sh c (by simp),fun v2 H2 s2 h2=>?_⟩;left;exists p,_,3,_,rfl,rfl,(s1.trans s2).seq hp,rfl,?_;refine⟨_,rfl,sh d (by simp),fun v3 H3 s3 h3=>?_⟩;left;exists ng,?_;right;rename_i p4 H4 s4 h4;have s24:=s3.trans s4;refine⟨p4,_,rfl,h4,(by show 3<=1000000;decide),fun H5 s5=>kk _ _ (((s1.trans s2).trans s24).trans s5) ?_⟩;unfold pO;rw[DD];refine DP (s5 _ _ h4) (aQ (BY _) (aQ (yJ (h2.mono (s24.trans s5))) (og (yJ (h3.mono (s4.trans s5)))))) ?_ ?_
   ·simp only[lE]
    cases cH a <;> cases xJ b c <;> cases MQ d <;> first | (intro _;rfl) | (intro q;exact absurd q (by simp[dO,dL,Dt.gq]))
   ·simp only[lE]
    cases cH a <;> cases xJ b c <;> cases MQ d <;> first | (intro _;rfl) | (intro q;exact absurd q (by simp[dO,dL,Dt.gq]))
  ·refine cj (by rw[zd fun z=>hw (by have:=V.int.inj z;omega)];rfl) ?_
   left;refine kk _ _ (au.refl _) ?_;have e:lE ws=none:=by
    unfold lE;split
    ·exact absurd rfl hw
    ·rfl
   unfold pO;rw[e];exact d7
theorem CK:aD ["words"] ["words"] (ao uS):=dJ
theorem C1 (T:Txt K mg):dm P w base 3 T.oz (fR K (pO vk rQ)):=by
 refine T.oz.F.dH CK fun _ _ _ _ H vs Q E hr h=>?_
 ·obtain⟨p,ws,rfl,hp,hl,sh,kk⟩:=h
  refine⟨_,(ag (aI (ay jR (eX aC T.bB (ah (pv 0) af)) ae (aE _))
   (aj (aq aU))
   aB)
   (aj (aq (bR (fw T) hr T.dq (ah (bK (ah (bR (d6 T) hr T.eZ (ah (ax aN (pv 0) ae (fun _ _=>rfl)) af)) (ah (bR (ck T) hr T.cQ (ah (ax aN (pv 0) ae (fun _ _=>rfl)) af)) (ah (bR (d6 T) hr T.eZ (ah (ax aN (pv 0) ae (fun _ _=>rfl)) af)) af)))) af))))),?_⟩
  ac_rfl;left;exists p,_,rfl,.inl hp,?_;rw[za];left
  by_cases hw:ws.length=3
  ·obtain⟨a,b,c,rfl⟩:∃a b c,ws=[a,b,c]:=by
    match ws,hw with
    | [a,b,c],_=>exact⟨a,b,c,rfl⟩
   refine cw rfl ?_;left;exists p,_,0,_,rfl,rfl,hp,rfl,?_;refine⟨_,rfl,sh a (by simp),fun H1 s1=>?_⟩;left;exists p,_,1,_,rfl,rfl,s1.seq hp,rfl,?_;refine⟨_,rfl,sh b (by simp),fun H2 s2=>?_⟩;left;exists p,_,2,_,rfl,rfl,(s1.trans s2).seq hp,rfl,?_;refine⟨_,rfl,sh c (by simp),fun H3 s3=>?_⟩;left;exists ng,?_;right;rename_i p4 H4 s4 h4;refine⟨p4,_,rfl,h4,(by show 3<=1000000;decide),fun H5 s5=>kk _ _ (((s1.trans s2).trans (s3.trans s4)).trans s5) ?_⟩;unfold pO;rw[DD];refine DP (s5 _ _ h4) (aQ (BY _) (aQ (yK _) (og (BY _)))) ?_ ?_
   ·simp only[rQ]
    cases cH a <;> cases fI b <;> cases cH c <;> first | (intro _;rfl) | (intro q;exact absurd q (by simp[dO,dL,Dt.gq]))
   ·simp only[rQ]
    cases cH a <;> cases fI b <;> cases cH c <;> first | (intro _;rfl) | (intro q;exact absurd q (by simp[dO,dL,Dt.gq]))
  ·refine cj (by rw[zd fun z=>hw (by have:=V.int.inj z;omega)];rfl) ?_
   left;refine kk _ _ (au.refl _) ?_;have e:rQ ws=none:=by
    unfold rQ;split
    ·exact absurd rfl hw
    ·rfl
   unfold pO;rw[e];exact d7
theorem nZ {H:Hp} {ws:List Str} {vs:List V} {α:Type} {d:α->Dt} {f:Str->Option α} (il:L2.IsL H (ws.map fun z=>dO d (f z)) vs):L2.IsL H ((ws.map f).map (dO d)) vs:=by
 have e:ws.map (fun z=>dO d (f z))=(ws.map f).map (dO d):=by rw[zA];rfl
 rw[<-e];exact il
theorem o9:aD ["words","names"] ["words"] (ao rk):=dJ
theorem A0 (T:Txt K mg):dm P w base 2 T.lC (fR K (pO gB qt)):=by
 refine T.lC.F.dH o9 fun _ _ _ _ H vs Q E hr h=>?_
 ·obtain⟨p,ws,rfl,hp,hl,sh,kk⟩:=h
  have sl:=yB;refine⟨_,(ag (aI (ay fg (eX aC T.bB (ah (pv 0) af)) ae (aE _))
   (aj (aq aU))
   aB)
   (ag (bW 1 o9.nd (bR (eD T) hr T.dq (ah (pK (ts:=["word"]) (ys:=[]) (js:=[]) (g:=(bc 0)) (tc:=dt) (te:=(gQ lh [] E0 (bQ (bj 0) eO))) (bz (pv 0)) (fun _ _ _ _=>(dj 0 (show List.Nodup [("word": Str)] by decide +kernel))) (fun _ _ _ _=>bx) (fun _ _ _ _=>(bR (d6 T) hr T.eZ (ah (pv 0) af)))) af)))
   (ag (aI (bA (cA (pv 1)))
   (aj (aq aU))
   aB)
   (aj (aq (bK (ah (ax aN (pv 1) ae (fun _ _=>rfl)) (ah (mV cL T.iG (ah (dF gH (pv 1) (eK ae) eL) af)) af)))))))),?_⟩
  ac_rfl;left;exists p,_,rfl,.inl hp,?_;rw[za];left;refine vV (fun c=>?_) (fun c=>?_)
  ·left
   refine kk _ _ (au.refl _) ?_;have hw:=yd c;have e:qt ws=none:=by
    unfold qt;split
    ·simp at hw;omega
    ·rfl
   unfold pO;rw[e];exact d7
  ·have hw:¬(ws.length:Int)<2:=fun z=>c (ze z)
   obtain⟨a,b,r,rfl⟩:∃a b r,ws=a::b::r:=by
    match ws,hw with
    | [],h=>exact absurd (by simp) h
    | [_],h=>exact absurd (by simp) h
    | a::b::r,_=>exact⟨a,b,r,rfl⟩
   left;exists⟨_,hp⟩,?_;refine fM (enc:=V.str) (ws:=a::b::r) (fun z=>dO .str (cH z)) (fun σ=>∃v,σ=[v]) nofun hp ⟨none,rfl⟩ ?_ ?_
   ·rintro z σ H4 R hz s4 ⟨_,rfl⟩ r
    left;exact⟨sh z hz,fun H5 s5=>r _ _ _ s5 (BY _) ⟨_,rfl⟩⟩
   ·intro D vs H4 s4 hD il
    refine⟨D,vs,rfl,aL.of hD,by rw[il.len,za];omega,fun H5 s5=>?_⟩;have il:=nZ il;rw[jX il];cases q:(((a::b::r).map cH).map (dO Dt.str)).any Dt.gq with
    | true=>
     left;refine kk _ _ (s4.trans s5) ?_;unfold pO;rw[qq,iY FH q];exact d7
    | false=>
     obtain⟨xs,e2,e3,e4⟩:=iX q;rw[e3] at il;have ev:=dR il;subst ev;obtain⟨n,ps,rfl⟩:∃n ps,xs=n::ps:=by
      match xs,e4 with
      | n::ps,_=>exact⟨n,ps,rfl⟩
     have hD5:=s5 _ _ hD;left;exists D,_,0,_,rfl,rfl,aL.of hD5,bF (j:=0) rfl,?_;left;exists D,_,rfl,aL.of hD5,?_;rw[show kr (List.map V.str (n::ps)) (some 1) none=ps.map V.str from(fL _ 1).trans rfl];right;rename_i p6 H6 s6 h6;left;refine⟨p6,_,rfl,.inl ⟨aL.of h6,?_⟩⟩;right;rename_i p7 H7 s7 h7;left;refine⟨du,laid fun p8 H8 s8 h8=>kk _ _ (((((s4.trans s5).trans s6).trans s7)).trans s8) ?_⟩;unfold pO;rw[qq,e2];exact cB h8 (aQ eT (og (cB (s8 _ _ h7) Cr)))
theorem uK:aD ["words","marks"] ["words"] (ao xB):=dJ
theorem Fe (T:Txt K mg):dm P w base 5 T.rN (fR K (pO kQ AY)):=by
 refine T.rN.F.dH uK fun _ _ _ _ H vs Q E hr h=>?_
 ·obtain⟨p,ws,rfl,hp,hl,sh,kk⟩:=h
  have sl:=yB;refine⟨_,(ag (aI (ay fg (eX aC T.bB (ah (pv 0) af)) ae (aE _))
   (aj (aq aU))
   aB)
   (ag (bW 1 uK.nd (bR (eD T) hr T.dq (ah (pK (ts:=["word"]) (ys:=[]) (js:=[]) (g:=(bc 0)) (tc:=dt) (te:=(gQ lh [] E0 (bQ (bj 0) eO))) (bz (dF gH (pv 0) (eK ae) eL)) (fun _ _ _ _=>(dj 0 (show List.Nodup [("word": Str)] by decide +kernel))) (fun _ _ _ _=>bx) (fun _ _ _ _=>(bR (d6 T) hr T.eZ (ah (pv 0) af)))) af)))
   (ag (aI (bA (cA (pv 1)))
   (aj (aq aU))
   aB)
   (aj (aq (bR (fw T) hr T.dq (ah (bK (ah (bR (A3 T) hr T.qp (ah (ax aN (pv 0) ae (fun _ _=>rfl)) af)) (ah (bR (Fc T) hr T.xP (ah (ax aN (pv 0) ae (fun _ _=>rfl)) af)) (ah (mV cL T.iG (ah (pv 1) af)) af)))) af))))))),?_⟩
  ac_rfl;left;exists p,_,rfl,.inl hp,?_;rw[za];left;refine vV (fun c=>?_) (fun c=>?_)
  ·left
   refine kk _ _ (au.refl _) ?_;have hw:=yd c;have e:AY ws=none:=by
    unfold AY;split
    ·simp at hw;omega
    ·rfl
   unfold pO;rw[e];exact d7
  ·have hw:¬(ws.length:Int)<2:=fun z=>c (ze z)
   obtain⟨a,b,r,rfl⟩:∃a b r,ws=a::b::r:=by
    match ws,hw with
    | [],h=>exact absurd (by simp) h
    | [_],h=>exact absurd (by simp) h
    | a::b::r,_=>exact⟨a,b,r,rfl⟩
   rw[zt,zt] at hl;left;exists p,_,rfl,hp,?_;rw[show kr (List.map V.str (a::b::r)) (some 2) none=r.map V.str from(fL _ 2).trans rfl];right;rename_i p1 H1 s1 h1;left;exists⟨_,aL.of h1⟩,?_;refine fM (enc:=V.str) (ws:=r) (fun z=>dO .str (cH z)) (fun σ=>∃v,σ=[v]) nofun (aL.of h1) ⟨none,rfl⟩ ?_ ?_
   ·rintro z σ H4 R hz s4 ⟨_,rfl⟩ r
    left;exact⟨sh z (by simp[hz]),fun H5 s5=>r _ _ _ s5 (BY _) ⟨_,rfl⟩⟩
   ·intro D vs H4 s4 hD il
    refine⟨D,vs,rfl,aL.of hD,by rw[il.len,za];omega,fun H5 s5=>?_⟩;have il:=nZ il;rw[jX il];have s05:=(s1.trans s4).trans s5;cases q:((r.map cH).map (dO Dt.str)).any Dt.gq with
    | true=>
     left;refine kk _ _ s05 ?_;unfold pO;simp only[AY];rw[iY FH q];exact d7
    | false=>
     obtain⟨xs,e2,e3,e4⟩:=iX q;rw[e3] at il;have ev:=dR il;subst ev;have hD5:=s5 _ _ hD;left;exists p,_,0,_,rfl,rfl,s05.seq hp,bF (j:=0) rfl,?_;refine⟨_,rfl,sh a (by simp),fun v6 H6 s6 h6=>?_⟩;left;exists p,_,1,_,rfl,rfl,(s05.trans s6).seq hp,bF (j:=1) rfl,?_;refine⟨_,rfl,sh b (by simp),fun H7 s7=>?_⟩;left;refine⟨D,_,rfl,.inl ⟨aL.of (s7 _ _ (s6 _ _ hD5)),?_⟩⟩;right;rename_i p8 H8 s8 h8;left;exists ng,?_;right;rename_i p9 H9 s9 h9;refine⟨p9,_,rfl,h9,(by show 3<=1000000;decide),fun Hx sx=>kk _ _ (((((s05.trans s6).trans s7).trans s8).trans s9).trans sx) ?_⟩;unfold pO;rw[DD];refine DP (ds:=[dO dL (jf a),dO .int (ES b),mO xs]) (sx _ _ h9) (aQ (yJ (h6.mono (((s7.trans s8).trans s9).trans sx))) (aQ (yK _) (og (cB (sx _ _ (s9 _ _ h8)) Cr)))) ?_ ?_
     ·simp only[AY]
      rw[e2];cases jf a <;> cases ES b <;> first | (intro _;rfl) | (intro q;exact absurd q (by simp[dO,dL,Dt.gq,mO]))
     ·simp only[AY]
      rw[e2];cases jf a <;> cases ES b <;> first | (intro _;rfl) | (intro q;exact absurd q (by simp[dO,dL,Dt.gq,mO]))
theorem wK {H:Hp} {α:Type} {d:α->Dt}:∀{xs:List α} {vs:List V},L2.IsL H (xs.map d) vs->∃ps:List (α×V),ps.map (·.1)=xs/\ps.map (·.2)=vs/\∀q∈ps,Is H (d q.1) q.2
 | [],_,h=>by unfold L2.IsL at h;exact⟨[],rfl,h.symm,fun _ z=>nomatch z⟩
 | x::xs,_,h=>by
  rw[zh] at h;unfold L2.IsL at h;obtain⟨u,r,rfl,h1,h2⟩:=h;obtain⟨ps,e1,e2,hh⟩:=wK h2;refine⟨(x,u)::ps,by simp[e1],by simp[e2],fun q m=>?_⟩;rcases zC.mp m with e | m
  ·subst e;exact h1
  ·exact hh q m
theorem item_at {H:Hp} {it:Item} {v:V} (h:Is H (eV it) v):∃a pv lv,v=.ref a/\H a=some (.tup [pv,lv])/\Is H (dO dL it.1) pv/\Is H (dL it.2) lv:=by
 unfold eV Is at h;obtain⟨a,vs,rfl,ha,hl⟩:=h;unfold L2.IsL at hl;obtain⟨pv,r,rfl,h1,hl⟩:=hl;unfold L2.IsL at hl;obtain⟨lv,r,rfl,h2,hl⟩:=hl;unfold L2.IsL at hl;subst hl;exact⟨a,pv,lv,rfl,ha,h1,h2⟩
theorem QU {H:Hp} {α:Type} {d:α->Dt} (f:Ig d) {o:Option α} {v:V} (h:Is H (dO d o) v):gq v=o.isNone:=by
 rw[Ma h];cases o with
 | none=>rfl
 | some x=>exact f x
theorem pf:aD ["words","items"] ["words"] (ao rC):=dJ
theorem A2 (T:Txt K mg):dm P w base 6 T.lD (fR K Q9):=by
 refine T.lD.F.dH pf fun _ _ _ _ H vs Q E hr h=>?_
 ·obtain⟨p,ws,rfl,hp,hl,sh,kk⟩:=h
  have sl:=yB;refine⟨_,(ag (aI (ay fg (eX aC T.bB (ah (pv 0) af)) ae (aE _))
   (aj (aq aU))
   aB)
   (ag (bW 1 pf.nd (bR (eD T) hr T.dq (ah (pK (ts:=["word"]) (ys:=[]) (js:=[]) (g:=(bc 0)) (tc:=dt) (te:=(gQ oZ [] E0 (bQ (bj 0) eO))) (bz (dF gH (pv 0) (eK ae) eL)) (fun _ _ _ _=>(dj 0 (show List.Nodup [("word": Str)] by decide +kernel))) (fun _ _ _ _=>bx) (fun _ _ _ _=>(bR (AZ T) hr T.tL (ah (pv 0) af)))) af)))
   (ag (aI (PW.pt (eJ (bA (cA (pv 1))) (dw (cW (eX (oK rfl) T.IF (ah (pK (ts:=["item"]) (ys:=[]) (js:=[]) (g:=(bc 0)) (tc:=dt) (te:=(K1 (fQ (rP K) (bj 0) (tC (.int (0)))))) (bz (pv 1)) (fun _ _ _ _=>(dj 0 (show List.Nodup [("item": Str)] by decide +kernel))) (fun _ _ _ _=>bx) (fun _ _ _ _=>(tO (cA (ax aA (pv 0) ae (fun _ _=>rfl)))))) af))))))
   (aj (aq aU))
   aB)
   (aj (aq (bR (fw T) hr T.dq (ah (bK (ah (bR (ck T) hr T.cQ (ah (ax aN (pv 0) ae (fun _ _=>rfl)) af)) (ah (bR (d6 T) hr T.eZ (ah (ax aN (pv 0) ae (fun _ _=>rfl)) af)) (ah (pv 1) af)))) af))))))),?_⟩
  ac_rfl;left;exists p,_,rfl,.inl hp,?_;rw[za];left;refine vV (fun c=>?_) (fun c=>?_)
  ·left
   refine kk _ _ (au.refl _) ?_;have hw:=yd c;have e:kc ws=none:=by
    unfold kc;split
    ·simp at hw;omega
    ·rfl
   unfold Q9;rw[e]
  ·have hw:¬(ws.length:Int)<3:=fun z=>c (ze z)
   obtain⟨a,b,i,r,rfl⟩:∃a b i r,ws=a::b::i::r:=by
    match ws,hw with
    | [],h=>exact absurd (by simp) h
    | [_],h=>exact absurd (by simp) h
    | [_,_],h=>exact absurd (by simp) h
    | a::b::i::r,_=>exact⟨a,b,i,r,rfl⟩
   have en:kc (a::b::i::r)=(match oq ((i::r).map ir) with | some l=>if l.all (fun it=>it.1.isNone)=true then none else(match fI a,cH b with | some x,some y=>some (x,y,l) | _,_=>none) | none=>none):=rfl;unfold Q9 at kk;rw[en] at kk;have sh':∀z∈i::r,z.length<=600:=fun z hz=>sh z (by simp at hz ⊢;rcases hz with h | h <;> simp[h]);have hl':(i::r).length<=1000000:=by simp at hl ⊢;omega
   left;exists p,_,rfl,hp,?_;rw[show kr (List.map V.str (a::b::i::r)) (some 2) none=(i::r).map V.str from(fL _ 2).trans rfl];clear en;generalize i::r=its at kk sh' hl';right;rename_i p1 H1 s1 h1;left;exists⟨_,aL.of h1⟩,?_;refine d8 (enc:=V.str) (ws:=its) (fun z=>dO eV (ir z)) (fun σ=>∃v,σ=[v]) nofun (aL.of h1) ⟨none,rfl⟩ ?_ ?_
   ·rintro z σ H4 R hz s4 ⟨_,rfl⟩ r
    left;exact⟨sh' z hz,fun v H5 s5 h5=>r _ _ _ s5 (QT h5) ⟨_,rfl⟩⟩
   ·intro D vs H4 s4 nD hD il
    refine⟨D,vs,rfl,aL.of hD,by rw[il.len,za];omega,fun H5 s5=>?_⟩;have il:=nZ il;rw[jX il];have s05:=(s1.trans s4).trans s5;cases q:((its.map ir).map (dO eV)).any Dt.gq with
    | true=>
     left;refine kk _ _ s05 ?_;rw[iY JX q]
    | false=>
     obtain⟨xs,e2,e3,e4⟩:=iX q;rw[e3] at il;rw[e2] at kk;have il5:=il.mono s5;have hD5:=s5 _ _ hD;obtain⟨ps,f1,f2,f3⟩:=wK il5;have pl:ps.length<=1000000:=by
      have:ps.length=xs.length:=by rw[<-f1,za]
      rw[this,e4,za];exact hl'
     left;exists⟨_,aL.of hD5⟩,?_;refine fM (enc:=fun q:Item×V=>q.2) (ws:=ps) (fun q=>.bl q.1.1.isNone) (fun σ=>∃v,σ=[v]) nofun (by rw[f2];exact aL.of hD5) ⟨none,rfl⟩ ?_ ?_
     ·rintro z σ H6 R hz s6 ⟨_,rfl⟩ r
      obtain⟨a6,pv,lv,ev,h6,h7,h8⟩:=item_at (f3 z hz);rw[ev];have h66:=s6 _ _ h6;left;refine r _ _ _ (au.refl _) ?_ ⟨_,rfl⟩;rw[<-QU PR h7];unfold Is;rfl
     ·intro D2 vs2 H6 s6 hD2 il2
      have e5:ps.map (fun q=>Dt.bl q.1.1.isNone)=(ps.map fun q=>q.1.1.isNone).map Dt.bl:=by rw[zA];rfl
      rw[e5] at il2;rw[kg il2] at hD2;exists D2,_,rfl,aL.of hD2,?_;have e6:(ps.map fun q=>q.1.1.isNone).all id=xs.all fun it=>it.1.isNone:=by rw[<-f1,List.all_map,List.all_map];rfl
      rw[e6];cases qa:xs.all fun it=>it.1.isNone with
      | true=>
       dsimp only at kk;rw[qa] at kk;left;exact kk _ _ (s05.trans s6) rfl
      | false=>
       dsimp only at kk;rw[qa] at kk;have s06:=s05.trans s6;left;exists p,_,0,_,rfl,rfl,s06.seq hp,bF (j:=0) rfl,?_;refine⟨_,rfl,sh a (by simp),fun H7 s7=>?_⟩;left;exists p,_,1,_,rfl,rfl,(s06.trans s7).seq hp,bF (j:=1) rfl,?_;refine⟨_,rfl,sh b (by simp),fun H8 s8=>?_⟩;left;exists ng,?_;right;rename_i p9 H9 s9 h9;have s59:=((s6.trans s7).trans s8).trans s9;refine⟨p9,_,rfl,h9,(by show 3<=1000000;decide),fun Hx sx=>kk _ _ ((s05.trans s59).trans sx) ?_⟩;have s5x:=s59.trans sx;have h9x:=sx _ _ h9;clear h9
       revert h9x
       cases fI a <;> cases cH b <;> intro h9x <;> first | rfl | exact⟨p9,D,vs,rfl,h9x,s5x _ _ hD5,il5.mono s5x,s1.back nD⟩
theorem i4:aD ["words","times","ends"] ["words"] (ao pC):=dJ
theorem x8 (T:Txt K mg):dm P w base 5 T.jO (fR K (pO jD jQ)):=by
 refine T.jO.F.dH i4 fun _ _ _ _ H vs Q E hr h=>?_
 ·obtain⟨p,ws,rfl,hp,hl,sh,kk⟩:=h
  have sl:=yB;refine⟨_,(ag (aI (ay fg (eX aC T.bB (ah (pv 0) af)) ae (aE _))
   (aj (aq aU))
   aB)
   (ag (bW 1 i4.nd (bR (nX T) hr T.jM (ah (ax aN (pv 0) ae (fun _ _=>rfl)) (ah (bU (v:=.int (2)) (by rfl) T.Ak ⟨_,rfl⟩) (ah (bU (v:=.int (9)) (by rfl) T.DI ⟨_,rfl⟩) af)))))
   (ag (bW 2 i4.nd (bR (eD T) hr T.dq (ah (pK (ts:=["word"]) (ys:=[]) (js:=[]) (g:=(bc 0)) (tc:=dt) (te:=(gQ uG [] E0 (bQ (bj 0) eO))) (bz (dF gH (pv 0) (eK ae) eL)) (fun _ _ _ _=>(dj 0 (show List.Nodup [("word": Str)] by decide +kernel))) (fun _ _ _ _=>bx) (fun _ _ _ _=>(bR (Fd T) hr T.xQ (ah (pv 0) af)))) af)))
   (ag (aI (bA (cA (pv 2)))
   (aj (aq aU))
   aB)
   (aj (aq (bR (fw T) hr T.dq (ah (bK (ah (bR (ck T) hr T.cQ (ah (ax aN (pv 0) ae (fun _ _=>rfl)) af)) (ah (bR (ck T) hr T.cQ (ah (ax aN (pv 0) ae (fun _ _=>rfl)) af)) (ah (pv 1) (ah (mV cL T.iG (ah (pv 2) af)) af))))) af)))))))),?_⟩
  ac_rfl;left;exists p,_,rfl,.inl hp,?_;rw[za];left;refine vV (fun c=>?_) (fun c=>?_)
  ·left
   refine kk _ _ (au.refl _) ?_;have hw:=yd c;have e:jQ ws=none:=by
    unfold jQ;split
    ·simp at hw;omega
    ·rfl
   unfold pO;rw[e];exact d7
  ·have hw:¬(ws.length:Int)<3:=fun z=>c (ze z)
   obtain⟨a,b,c',r,rfl⟩:∃a b i r,ws=a::b::i::r:=by
    match ws,hw with
    | [],h=>exact absurd (by simp) h
    | [_],h=>exact absurd (by simp) h
    | [_,_],h=>exact absurd (by simp) h
    | a::b::i::r,_=>exact⟨a,b,i,r,rfl⟩
   have en:jQ (a::b::c'::r)=(match oq (r.map xK) with | some l=>(match fI a,fI b,mC c' 2 9 with | some x,some y,some z=>some ⟨x,y,z,l⟩ | _,_,_=>none) | none=>none):=rfl;unfold pO at kk;rw[en] at kk;have sh':∀z∈r,z.length<=600:=fun z hz=>sh z (by simp[hz]);have hl':r.length<=1000000:=by simp at hl ⊢;omega
   left;exists p,_,2,_,rfl,rfl,hp,bF (j:=2) rfl,?_;refine⟨_,_,_,rfl,sh c' (by simp),fun H0 s0=>?_⟩;left;exists p,_,rfl,s0.seq hp,?_;rw[show kr (List.map V.str (a::b::c'::r)) (some 3) none=r.map V.str from(fL _ 3).trans rfl];right;rename_i p1 H1 s1 h1;left;exists⟨_,aL.of h1⟩,?_;refine fM (enc:=V.str) (ws:=r) (fun z=>dO mT (xK z)) (fun σ=>∃v,σ=[v]) nofun (aL.of h1) ⟨none,rfl⟩ ?_ ?_
   ·rintro z σ H4 R hz s4 ⟨_,rfl⟩ r
    left;exact⟨sh' z hz,fun v H5 s5 h5=>r _ _ _ s5 h5 ⟨_,rfl⟩⟩
   ·intro D vs H4 s4 hD il
    refine⟨D,vs,rfl,aL.of hD,by rw[il.len,za];omega,fun H5 s5=>?_⟩;have il:=nZ il;rw[jX il];have s05:=((s0.trans s1).trans s4).trans s5;cases q:((r.map xK).map (dO mT)).any Dt.gq with
    | true=>
     left;refine kk _ _ s05 ?_;rw[iY Ml q];exact d7
    | false=>
     obtain⟨xs,e2,e3,e4⟩:=iX q;rw[e3] at il;rw[e2] at kk;have il5:=il.mono s5;have hD5:=s5 _ _ hD;left;exists p,_,0,_,rfl,rfl,s05.seq hp,bF (j:=0) rfl,?_;refine⟨_,rfl,sh a (by simp),fun H6 s6=>?_⟩;left;exists p,_,1,_,rfl,rfl,(s05.trans s6).seq hp,bF (j:=1) rfl,?_;refine⟨_,rfl,sh b (by simp),fun H7 s7=>?_⟩;left;refine⟨D,_,rfl,.inl ⟨aL.of (s7 _ _ (s6 _ _ hD5)),?_⟩⟩;right;rename_i p8 H8 s8 h8;left;exists by show 4<=sizeLine;omega,?_
     right;rename_i p9 H9 s9 h9;have s59:=((s6.trans s7).trans s8).trans s9;refine⟨p9,_,rfl,h9,(by show 4<=1000000;decide),fun Hx sx=>kk _ _ ((s05.trans s59).trans sx) ?_⟩;rw[DD];refine DP (ds:=[dO .int (fI a),dO .int (fI b),dO .int (mC c' 2 9),.tup (xs.map mT)]) (sx _ _ h9) (aQ (yK _) (aQ (yK _) (aQ (yK _) (og (cB (sx _ _ (s9 _ _ h8)) (il5.mono (s59.trans sx))))))) ?_ ?_
     ·cases fI a <;> cases fI b <;> cases mC c' 2 9 <;> first | (intro _;rfl) | (intro q;exact absurd q (by simp[dO,dL,Dt.gq]))
     ·cases fI a <;> cases fI b <;> cases mC c' 2 9 <;> first | (intro _;rfl) | (intro q;exact absurd q (by simp[dO,dL,Dt.gq]))
theorem lq:aD ["words","stops","coda"] ["words"] (ao uQ):=dJ
theorem C0 (T:Txt K mg):dm P w base 3 T.oy (fR K (pO jt u7)):=by
 refine T.oy.F.dH lq fun _ _ _ _ H vs Q E hr h=>?_
 ·obtain⟨p,ws,rfl,hp,hl,sh,kk⟩:=h
  have sl:=yB;refine⟨_,(ag (aI (ay jR (eX aC T.bB (ah (pv 0) af)) ae (aE _))
   (aj (aq aU))
   aB)
   (ag (bW 1 lq.nd (bR (eD T) hr T.dq (ah (pK (ts:=["word"]) (ys:=[]) (js:=[]) (g:=(bc 0)) (tc:=dt) (te:=(gQ j8 [] E0 (bQ (bj 0) eO))) (bz (dF gH (pv 0) eL (eK ae))) (fun _ _ _ _=>(dj 0 (show List.Nodup [("word": Str)] by decide +kernel))) (fun _ _ _ _=>bx) (fun _ _ _ _=>(bR (ck T) hr T.cQ (ah (pv 0) af)))) af)))
   (ag (bW 2 lq.nd (bR (ck T) hr T.cQ (ah (ax aN (pv 0) ae (fun _ _=>rfl)) af)))
   (ag (aI (PW.pt (eJ (bA (cA (pv 1))) (dw (PW.pt (cV (bA (cA (pv 2))) (cK (ay jR (ax aN (pv 0) ae (fun _ _=>rfl)) aM (aE _))))))))
   (aj (aq aU))
   aB)
   (aj (aq (bK (ah (ax aN (pv 1) ae (fun _ _=>rfl)) (ah (ax aN (pv 1) ae (fun _ _=>rfl)) (ah (ax aN (pv 1) ae (fun _ _=>rfl)) (ah (pv 2) af))))))))))),?_⟩
  ac_rfl;left;exists p,_,rfl,.inl hp,?_;rw[za];left
  by_cases hw:ws.length=4
  ·obtain⟨a,b,c,d,rfl⟩:∃a b c d,ws=[a,b,c,d]:=by
    match ws,hw with
    | [a,b,c,d],_=>exact⟨a,b,c,d,rfl⟩
   have en:u7 [a,b,c,d]=(match fI a,fI b,fI c with | some x,some y,some z=>(match fI d with | some n=>some ⟨x,y,z,some n⟩ | none=>if d ="end" then some ⟨x,y,z,none⟩ else none) | _,_,_=>none):=rfl;unfold pO at kk;rw[en] at kk;refine cw rfl ?_;left;exists p,_,rfl,hp,?_;rw[show kr (List.map V.str [a,b,c,d]) none (some 3)=[a,b,c].map V.str from(DE _ 3).trans rfl];right;rename_i p1 H1 s1 h1;left;exists⟨_,aL.of h1⟩,?_;refine fM (enc:=V.str) (ws:=[a,b,c]) (fun z=>dO .int (fI z)) (fun σ=>∃v,σ=[v]) (by show 3<=sizeLine;omega) (aL.of h1) ⟨none,rfl⟩ ?_ ?_
   ·rintro z σ H4 R hz s4 ⟨_,rfl⟩ r
    left;exact⟨sh z (by simp at hz ⊢;rcases hz with h | h | h <;> simp[h]),fun H5 s5=>r _ _ _ s5 (yK _) ⟨_,rfl⟩⟩
   ·intro D vs H4 s4 hD il
    refine⟨D,vs,rfl,aL.of hD,by rw[il.len];show 3<=1000000;decide,fun H5 s5=>?_⟩;have il:=nZ il;rw[jX il];have s05:=(s1.trans s4).trans s5;cases q:(([a,b,c].map fI).map (dO Dt.int)).any Dt.gq with
    | true=>
     left;exists p,_,3,_,rfl,rfl,s05.seq hp,rfl,?_;refine⟨_,rfl,sh d (by simp),fun H6 s6=>?_⟩;left;refine kk _ _ (s05.trans s6) ?_;have q':([fI a,fI b,fI c].map (dO Dt.int)).any Dt.gq=true:=q;clear q en kk
     revert q'
     cases fI a <;> cases fI b <;> cases fI c <;> intro q' <;> first | exact d7 | exact absurd q' (by simp[dO,Dt.gq])
    | false=>
     obtain⟨x,y,z,ea,eb,ec⟩:∃x y z,fI a=some x/\fI b=some y/\fI c=some z:=by
      have q':([fI a,fI b,fI c].map (dO Dt.int)).any Dt.gq=false:=q;clear q en kk il
      revert q'
      cases fI a <;> cases fI b <;> cases fI c <;> intro q' <;> first | exact⟨_,_,_,rfl,rfl,rfl⟩ | exact absurd q' (by simp[dO,Dt.gq])
     rw[ea,eb,ec] at kk;have il':L2.IsL H4 ([x,y,z].map Dt.int) vs:=by
      have:([a,b,c].map fI).map (dO Dt.int)=[x,y,z].map Dt.int:=by simp[ea,eb,ec,dO]
      rw[this] at il;exact il
     have ev:=fF il';subst ev;have hD5:=s5 _ _ hD;left;exists p,_,3,_,rfl,rfl,s05.seq hp,rfl,?_;refine⟨_,rfl,sh d (by simp),fun H6 s6=>?_⟩;have hD6:=s6 _ _ hD5;have s06:=s05.trans s6;have fin:∀(o:Option Int) (v:V),Is H6 (dO .int o) v->fI d=o->(o=none->d ="end")->∀p7 H7,au H6 H7->H7 p7=some (.tup [.int x,.int y,.int z,v])->Q (.ref p7) H7:=fun o v iv eo hend p7 H7 s7 h7=>by
      refine kk _ _ (s06.trans s7) ?_;rw[eo];cases o with
      | none=>
       simp only[hend rfl,if_pos];exact cB h7 (aQ cR (aQ cR (aQ cR (og (iv.mono s7)))))
      | some n=>exact cB h7 (aQ cR (aQ cR (aQ cR (og (iv.mono s7)))))
     cases ed:fI d with
     | none=>
      left;exists p,_,3,_,rfl,rfl,s06.seq hp,rfl,?_;left
      by_cases he:d ="end"
      ·refine cw (by rw[he];rfl) ?_
       left;exists D,_,0,_,rfl,rfl,aL.of hD6,rfl,?_;left;exists D,_,1,_,rfl,rfl,aL.of hD6,rfl,?_;left;exists D,_,2,_,rfl,rfl,aL.of hD6,rfl,?_;left;refine⟨by show 4<=sizeLine;omega,laid ?_⟩;exact fin none .bE d7 ed fun _=>he
      ·refine cj (by rw[zd fun z=>he (V.str.inj z)];rfl) ?_
       left;refine kk _ _ s06 ?_;rw[ed];simp only[if_neg he];exact d7
     | some n=>
      left;exists D,_,0,_,rfl,rfl,aL.of hD6,rfl,?_;left;exists D,_,1,_,rfl,rfl,aL.of hD6,rfl,?_;left;exists D,_,2,_,rfl,rfl,aL.of hD6,rfl,?_;left;refine⟨by show 4<=sizeLine;omega,laid ?_⟩;exact fin (some n) (.int n) cR ed fun z=>nomatch z
  ·refine cj (by rw[zd fun z=>hw (by have:=V.int.inj z;omega)];rfl) ?_
   left;refine kk _ _ (au.refl _) ?_;have e:u7 ws=none:=by
    unfold u7;split
    ·exact absurd rfl hw
    ·rfl
   unfold pO;rw[e];exact d7
structure Dk (P:Program) (w:World) (K:yA) {mg:Str->Option Value} (T:Txt K mg):Prop where
 IA:KD P w K T.iW [("player",.ref T.gO),("instrument",.ref T.eM),("staff",.ref T.iP),("bar",.ref T.lT),("upbeat",.ref T.gM),("holds",.ref T.j0),("notes",.ref T.iQ),("repeat",.ref T.gN),("jump",.ref T.jZ)]
 PV:KD P w K T.rO [("player",.ref T.gi),("instrument",.ref T.d9),("staff",.ref T.gL),("bar",.ref T.j6),("upbeat",.ref T.gg),("holds",.ref T.iS),("notes",.ref T.gP),("repeat",.ref T.gh),("jump",.ref T.iR)]
inductive Kx (K:yA) {mg:Str->Option Value} (T:Txt K mg):Addr->Sp->Prop where
 | bG:Kx K T T.gO (fR K (pO .str (one cH)))
 | cI:Kx K T T.eM (fR K (pO eG lE))
 | cm:Kx K T T.iP (fR K (pO gB qt))
 | bar:Kx K T T.lT (fR K (pO kQ AY))
 | aH:Kx K T T.gM (fR K (pO dL (one lr)))
 | holds:Kx K T T.j0 (fR K (pO vk rQ))
 | aJ:Kx K T T.iQ (fR K Q9)
 | rep:Kx K T T.gN (fR K (pO jD jQ))
 | cb:Kx K T T.jZ (fR K (pO jt u7))
noncomputable def xR {K:yA} {mg:Str->Option Value} (T:Txt K mg):List (Str×V):=[("player",V.ref T.gO),("instrument",.ref T.eM),("staff",.ref T.iP),("bar",.ref T.lT),("upbeat",.ref T.gM),("holds",.ref T.j0),("notes",.ref T.iQ),("repeat",.ref T.gN),("jump",.ref T.jZ)]
theorem Lr (K:yA) {mg:Str->Option Value} (T:Txt K mg) (x:Str):(sX (xR T) x=none/\∀ws,oA (x::ws)=none)\/∃f D,sX (xR T) x=some (.ref f)/\Kx K T f (fR K D)/\∀H0 H v ws,D H0 H v ws->gG H0 H v (oA (x::ws)):=by
 by_cases e0:x ="player"
 ·subst e0
  refine .inr ⟨_,_,rfl,.bG,fun H0 H v ws h=>?_⟩;exact mY (g:=Told.bG) h fun x z=>by unfold Is at z;exact z
 by_cases e1:x ="instrument"
 ·subst e1
  refine .inr ⟨_,_,rfl,.cI,fun H0 H v ws h=>?_⟩;exact mY (g:=fun(x:Str×(Int×Int)×(Int×Int))=>Told.cI x.1 x.2.1 x.2.2) h fun x z=>(show Is H (eG x) v from z)
 by_cases e2:x ="staff"
 ·subst e2
  refine .inr ⟨_,_,rfl,.cm,fun H0 H v ws h=>?_⟩;exact mY (g:=fun(x:Str×List Str)=>Told.cm x.1 x.2) h fun x z=>(show Is H (gB x) v from z)
 by_cases e3:x ="bar"
 ·subst e3
  refine .inr ⟨_,_,rfl,.bar,fun H0 H v ws h=>?_⟩;exact mY (g:=Told.bar) h fun x z=>z
 by_cases e4:x ="upbeat"
 ·subst e4
  refine .inr ⟨_,_,rfl,.aH,fun H0 H v ws h=>?_⟩;exact mY (g:=Told.aH) h fun x z=>z
 by_cases e5:x ="holds"
 ·subst e5
  refine .inr ⟨_,_,rfl,.holds,fun H0 H v ws h=>?_⟩;exact mY (g:=fun(x:Str×Int×Str)=>Told.holds x.1 x.2.1 x.2.2) h fun x z=>(show Is H (vk x) v from z)
 by_cases e6:x ="notes"
 ·subst e6
  refine .inr ⟨_,_,rfl,.aJ,fun H0 H v ws h=>?_⟩;have e:oA ("notes":: ws)=(kc ws).map fun x=>Told.aJ x.1 x.2.1 x.2.2:=rfl;rw[e];unfold Q9 at h;cases q:kc ws with
  | none=>rw[q] at h;exact h
  | some y=>rw[q] at h;exact h
 by_cases e7:x ="repeat"
 ·subst e7
  refine .inr ⟨_,_,rfl,.rep,fun H0 H v ws h=>?_⟩;exact mY (g:=Told.rep) h fun x z=>z
 by_cases e8:x ="jump"
 ·subst e8
  refine .inr ⟨_,_,rfl,.cb,fun H0 H v ws h=>?_⟩;exact mY (g:=Told.cb) h fun x z=>z
 refine .inl ⟨?_,fun ws=>?_⟩
 ·have f0:∀(k:Str) (v:V) (r:List (Str×V)),x≠k->sX ((k,v)::r) x=sX r x:=fun k v r h=>by
   unfold sX;rw[List.find?_cons];rw[show decide ((k,v).1=x)=false from zd fun z=>h z.symm]
  unfold xR;rw[f0 _ _ _ e0,f0 _ _ _ e1,f0 _ _ _ e2,f0 _ _ _ e3,f0 _ _ _ e4,f0 _ _ _ e5,f0 _ _ _ e6,f0 _ _ _ e7,f0 _ _ _ e8];rfl
 ·unfold oA
  dsimp only;rw[if_neg e0,if_neg e1,if_neg e2,if_neg e3,if_neg e4,if_neg e5,if_neg e6,if_neg e7,if_neg e8]
def tm {K:yA} {mg:Str->Option Value} (T:Txt K mg):Sp:=fun vs H Q _=>∃x:Str,vs=[.str x]/\Q (.bl (sX (xR T) x).isSome) H
theorem tI:aD ["word"] ["word"] (ao mj):=dJ
theorem tQ (T:Txt K mg) (B:Dk P w K T):dm P w base 1 T.kh (tm T):=by
 refine T.kh.F.dH tI fun _ _ _ _ H vs Q E hr h=>?_
 ·obtain⟨x,rfl,kk⟩:=h
  refine⟨_,(aj (aq (tO (Nv (pv 0) (bU (v:=.ref T.iW) (by rfl) T.Cb rfl))))),?_⟩;ac_rfl;left;exists T.iW,xR T,x,rfl,B.IA,rfl,?_;left;show Q (V.bl (false ^^ (sX (xR T) x).isSome)) H;rw[Bool.false_xor];exact kk
theorem uI:aD ["words","reader"] ["words"] (ao qg):=dJ
theorem Fb (T:Txt K mg) (B:Dk P w K T):dm P w base 7 T.xO (ED K):=by
 refine T.xO.F.dH uI fun cdv A' outer s H vs Q E hr h=>?_
 ·obtain⟨p,x,ws,rfl,hp,hl,sh,kk⟩:=h
  have sl:=yB;have hTbV:∀f sp,Kx K T f sp->Qd (kR Ii P w K mg base ["words","reader"] "read_row" (ao qg) T.Ao cdv A' outer s H E).IE Ii 6 f sp:=by
   intro f sp h;cases h with
   | bG=>exact⟨_,_,L2.dM.mono (x9 T) (by decide),T.jP.F.kp,T.jP.b⟩
   | cI=>exact⟨_,_,L2.dM.mono (qz T) (by decide),T.fC.F.kp,T.fC.b⟩
   | cm=>exact⟨_,_,L2.dM.mono (A0 T) (by decide),T.lC.F.kp,T.lC.b⟩
   | bar=>exact⟨_,_,L2.dM.mono (Fe T) (by decide),T.rN.F.kp,T.rN.b⟩
   | aH=>exact⟨_,_,L2.dM.mono (x6 T) (by decide),T.jN.F.kp,T.jN.b⟩
   | holds=>exact⟨_,_,L2.dM.mono (C1 T) (by decide),T.oz.F.kp,T.oz.b⟩
   | aJ=>exact⟨_,_,L2.dM.mono (A2 T) (by decide),T.lD.F.kp,T.lD.b⟩
   | rep=>exact⟨_,_,L2.dM.mono (x8 T) (by decide),T.jO.F.kp,T.jO.b⟩
   | cb=>exact⟨_,_,L2.dM.mono (C0 T) (by decide),T.oy.F.kp,T.oy.b⟩
  refine⟨_,(ag (aI (fG (cW (bR (tQ T B) hr T.kh (ah (ax aN (pv 0) ae (fun _ _=>rfl)) af))))
   (aj (aq aU))
   aB)
   (ag (bW 1 uI.nd (E2 (bU (v:=.ref T.iW) (by rfl) T.Cb rfl) (ax aN (pv 0) ae (fun _ _=>rfl)) (fun _ _=>rfl)))
   (aj (aq (E5 (Kx K T) hTbV (hr.mono (by decide)) (pv 1) IC (ah (dF gH (pv 0) (eK ae) eL) af)))))),?_⟩
  ac_rfl;left;exists p,_,0,_,rfl,rfl,hp,bF (j:=0) rfl,?_;refine⟨x,rfl,?_⟩;rcases Lr K T x with⟨ev,er⟩ | ⟨f,D,ev,htb,hd⟩
  ·rw[ev]
   left;refine kk _ _ (au.refl _) ?_;rw[er];rfl
  ·rw[ev]
   left;exists p,_,0,_,rfl,rfl,hp,bF (j:=0) rfl,?_;refine⟨T.iW,xR T,x,_,rfl,B.IA,rfl,ev,?_⟩;left;exists f,_,rfl,htb,?_;left;exists p,_,rfl,hp,?_;rw[show kr (List.map V.str (x::ws)) (some 1) none=ws.map V.str from(fL _ 1).trans rfl];right;rename_i p1 H1 s1 h1;refine⟨p1,ws,rfl,aL.of h1,nofun,fun y hy=>sh y (by simp[hy]),fun v H2 s2 h2=>kk _ _ (s1.trans s2) ((hd _ _ _ _ h2).back s1)⟩
theorem mh:aD ["repeats","bar","repeat"] ["repeats","bar"] (ao nF):=dJ
theorem mF (T:Txt K mg):dm P w base 1 T.iC (vv K):=by
 refine T.iC.F.dH mh fun _ _ _ _ H vs Q E hr h=>?_
 ·obtain⟨p,rs,b,rfl,⟨vs,hp,il⟩,kk⟩:=h
  unfold dP at kk;refine⟨_,(ag (cE PassesOwn.never rfl (bz (pv 0)) (dj 2 mh.nd)
   (aj (aI (PW.pt (cV (ay gn (ax aA (pv 2) ae (fun _ _=>rfl)) (pv 1) (aE _)) (cK (ay gn (pv 1) (ax aA (pv 2) ae (fun _ _=>rfl)) (aE _)))))
    (aj (aq (pv 2)))
    aB)))
   (aj (aq aU))),?_⟩
  ac_rfl;left;exists⟨_,hp⟩,?_;refine dX (K:=K) (a:=p) (xs:=vs) (fun i σ H'=>H'=H/\(rs.take i).find? (fun r=>decide (r.first<=b)&&decide (b<=r.last))=none/\∃v,σ=[some (.ref p),some (.int b),v]) ⟨rfl,rfl,none,rfl⟩ (fun i σ H' _ h=>by rw[h.1];exact hp) ?_ ?_
  ·intro i x σ H' hx hh
   refine dU fun N kN0 kR0 _ _=>?_;obtain⟨rfl,hn,v,rfl⟩:=hh;obtain⟨r,hr',hi⟩:=dz il hx;obtain⟨a,e,rfl,ha,he⟩:=fX hi;left
   by_cases c1:r.first<=b
   ·refine cj (ze c1) ?_
    left
    by_cases c2:b<=r.last
    ·refine cj (ze c2) ?_
     left;refine kk _ ?_;rw[IP hr' hn (by rw[ze c1,ze c2];rfl)];exact hi
    ·refine cw (zd c2) ?_
     left;exact⟨B5 hr' hn (by rw[zd c2,Bool.and_false]),_,rfl⟩
   ·refine cw (zd c1) ?_
    left;exact⟨B5 hr' hn (by rw[zd c1,Bool.false_and]),_,rfl⟩
  ·rintro σ H' ⟨rfl,hn,v,rfl⟩
   rw[aS il,zM] at hn;left;refine kk _ ?_;rw[hn];exact d7
theorem q9:aD ["repeats","bar","repeat"] ["repeats","bar"] (ao uT):=dJ
theorem C2 (T:Txt K mg):dm P w base 2 T.tY (CA K):=by
 refine T.tY.F.dH q9 fun _ _ _ _ H vs Q E hr h=>?_
 ·obtain⟨p,rs,b,rfl,hp,kk⟩:=h
  unfold gW at kk;refine⟨_,(ag (bW 2 q9.nd (bR (mF T) hr T.iC (ah (pv 0) (ah (pv 1) af))))
   (aj (aq (LH (tO (cA (pv 2))) (qx (dZ de (pv 1) (ax aA (pv 2) ae (fun _ _=>rfl)) (aE _))))))),?_⟩
  ac_rfl;left;exists p,rs,b,rfl,hp,fun v iv=>?_;cases q:dP rs b with
  | none=>
   rw[q] at iv kk;unfold dO Is at iv;subst iv;left;exact kk
  | some r=>
   rw[q] at iv kk;obtain⟨a,e,rfl,ha,he⟩:=fX iv;left;have e1:decide (V.int b=V.int r.last)=decide (b=r.last):=by simp
   show Q (.bl (decide (V.int b=V.int r.last))) H;rw[e1];exact kk
theorem ra:aD ["repeats","bar","repeat"] ["repeats","bar"] (ao uU):=dJ
theorem rY (T:Txt K mg):dm P w base 2 T.oF (CB K):=by
 refine T.oF.F.dH ra fun _ _ _ _ H vs Q E hr h=>?_
 ·obtain⟨p,rs,b,rfl,hp,kk⟩:=h
  unfold eC at kk;refine⟨_,(ag (bW 2 ra.nd (bR (mF T) hr T.iC (ah (pv 0) (ah (pv 1) af))))
   (aj (aq (LH (tO (cA (pv 2))) (qx (dZ de (pv 1) (ax aA (pv 2) ae (fun _ _=>rfl)) (aE _))))))),?_⟩
  ac_rfl;left;exists p,rs,b,rfl,hp,fun v iv=>?_;cases q:dP rs b with
  | none=>
   rw[q] at iv kk;unfold dO Is at iv;subst iv;left;exact kk
  | some r=>
   rw[q] at iv kk;obtain⟨a,e,rfl,ha,he⟩:=fX iv;left;have e1:decide (V.int b=V.int r.first)=decide (b=r.first):=by simp
   show Q (.bl (decide (V.int b=V.int r.first))) H;rw[e1];exact kk
theorem Mp (us:List V) (h:us≠[]):¬(HT.fo us.length 0 (some 1)=0/\HT.fo us.length us.length none=us.length):=by
 rintro⟨h1,_⟩;have hp:0<us.length:=yq.mpr h;have e:HT.fo us.length 0 (some ((1:Nat):Int))=min 1 us.length:=by unfold HT.fo;simp
 have e':HT.fo us.length 0 (some (1:Int))=min 1 us.length:=e;rw[e'] at h1;omega
theorem Ju {K:yA} {H:Hp} {e:Addr} {us:List V} {Q:VK} (hu:H e=some (.tup us)) (k:∀q H1,au H H1->H1 q=some (.tup (us.drop 1))->Q (.ref q) H1):Og K (.ref e) (some 1) none H Q:=by
 by_cases h:us=[]
 ·subst h
  exact .inr ⟨e,[],rfl,dB.of hu,⟨rfl,rfl⟩,k e H (au.refl H) hu⟩
 ·refine .inl ⟨e,us,rfl,dB.of hu,Mp us h,?_⟩
  rw[show kr us (some 1) none=us.drop 1 from fL us 1];exact laid k
theorem pZ:aD ["repeat","ends","behind"] ["repeat"] (ao BH):=dJ
theorem G4 (T:Txt K mg):dm P w base 1 T.Dl GL:=by
 refine T.Dl.F.dH pZ fun _ _ _ _ H vs Q E hr h=>?_
 ·obtain⟨v,r,rfl,iv,hl,kk⟩:=h
  have sl:=yB;obtain⟨a,e,rfl,ha,he⟩:=fX iv;unfold Is at he;obtain⟨e',us,ee,hu,ilu⟩:=he;cases ee;refine⟨_,(ag (bW 1 pZ.nd (ax aA (pv 0) ae (fun _ _=>rfl)))
   (ag (bW 2 pZ.nd (ar gJ (pK (ts:=["end"]) (ys:=[]) (js:=[]) (g:=(bc 0)) (tc:=dt) (te:=(fQ (rP K) (bj 0) (tC (.int (0))))) (ke (dF M5 (pv 1) (eK ae) eL)) (fun _ _ _ _=>(dj 0 (show List.Nodup [("end": Str)] by decide +kernel))) (fun _ _ _ _=>bx) (fun _ _ _ _=>(ax aA (pv 0) ae (fun _ _=>rfl)))) (bD (ah (ar bg (ax aA (pv 0) ae (fun _ _=>rfl)) ae) af))))
   (aj (aq (pK (ts:=["end","after"]) (ys:=[]) (js:=[]) (g:=(FA K 2 (fZ (bc 0) (fZ (bc 1) FC)))) (tc:=dt) (te:=(Eu (bQ (fQ (rP K) (bj 0) (tC (.int (0)))) (bQ (fQ (vK fun i j=>.int (i-j)) (bj 1) (tC (.int (1)))) (bQ (fQ (rP K) (bj 0) (tC (.int (1)))) eO))))) (LF (by rfl) T.LS (ah (pv 1) (ah (pv 2) af))) (fun _ _ _ _=>(dY (n:=2) rfl (aO (dj 0 (show List.Nodup [("end": Str),("after": Str)] by decide +kernel)) (aO (dj 1 (show List.Nodup [("end": Str),("after": Str)] by decide +kernel)) cX)))) (fun _ _ _ _=>bx) (fun _ _ _ _=>(bK (ah (ax aA (pv 0) ae (fun _ _=>rfl)) (ah (ar kf (pv 1) ae) (ah (ax aA (pv 0) ae (fun _ _=>rfl)) af)))))))))),?_⟩
  ac_rfl;left;have main:∀(q:Addr) (H1:Hp),au H H1->H1 q=some (.tup (us.drop 1))->∀(R:VK),(∀D H2,au H1 H2->H2 D=some (.lst ((r.ends.drop 1).map fun x=>V.int x.1))->R (.ref D) H2)->
    dS [none] (bc 0) dt (fQ (rP K) (bj 0) (tC (.int 0))) R (OE K q) H1:=by
   intro q H1 s1 h1 R hR;have il1:L2.IsL H ((r.ends.drop 1).map mT) (us.drop 1):=by
    cases re:r.ends with
    | nil=>
     rw[re] at ilu;unfold L2.IsL at ilu;subst ilu;unfold L2.IsL;rfl
    | cons x xs=>
     rw[re,zh] at ilu;unfold L2.IsL at ilu;obtain⟨u,ur,rfl,_,h2⟩:=ilu;exact h2
   obtain⟨ps,f1,f2,f3⟩:=wK il1;have pl:ps.length<=1000000:=by
    have:ps.length=(r.ends.drop 1).length:=by rw[<-f1,za]
    rw[this,List.length_drop];omega
   refine gC (enc:=fun z:Sc.End×V=>z.2) (ws:=ps) (fun z=>.int z.1.1) (fun σ=>∃v,σ=[v]) nofun (by rw[f2];exact h1) ⟨none,rfl⟩ ?_ ?_
   ·rintro z σ H6 R' hz s6 ⟨_,rfl⟩ r'
    obtain⟨a6,q6,ev,h6,h7⟩:=ui (f3 z hz);rw[ev];have h66:=s6 _ _ (s1 _ _ h6);left;exact r' _ _ _ (au.refl _) cR ⟨_,rfl⟩
   ·intro D vs H6 s6 hD il
    have e5:ps.map (fun z=>Dt.int z.1.1)=((r.ends.drop 1).map (·.1)).map Dt.int:=by rw[<-f1,zA,zA];rfl
    rw[e5] at il;rw[fF il,zA] at hD;exact hR D H6 s6 hD
  refine Ju hu fun q H1 s1 h1=>⟨q,rfl,⟨_,dB.of h1⟩,main q H1 s1 h1 _ fun D H2 s2 h2=>?_⟩
  have ha2:=s2 _ _ (s1 _ _ ha);left;exists by show 1<=sizeLine;omega,?_
  right;rename_i p3 H3 s3 h3;exists D,p3,_,_,rfl,rfl,aL.of (s3 _ _ h2),aL.of h3,by rw[za,List.length_drop];show _+1<=_;omega,?_
  right;rename_i p4 H4 s4 h4;have s04:=(s1.trans s2).trans (s3.trans s4);have hu4:=s04 _ _ hu;have eb:(List.map (fun x=>V.int x.1) (r.ends.drop 1)++[V.int (r.last+1)])=((r.ends.drop 1).map (·.1)++[r.last+1]).map V.int:=by rw[zj,zA];rfl
  rw[eb] at h4;left;have ilu4:=ilu.mono s04;have ul:=aS ilu;refine⟨true,false,e,p4,us,_,rfl,dB.of hu4,aL.of h4,?_⟩;generalize hbs:(r.ends.drop 1).map (·.1)++[r.last+1]=bs at h4;have zl:(r.ends.zip bs).length=min r.ends.length bs.length:=List.length_zip;refine Ac (ws:=r.ends.zip bs) (fun z x H'=>∃p u,x=.ref p/\H' p=some (.tup [u,.int z.2])/\Is H' (mT z.1) u) (fun z=>J9 (z.1.1,z.2-1,z.1.2)) (fun σ=>∃u v,σ=[u,v]) nofun ⟨none,none,rfl⟩ ?_ ?_ ?_ ?_ ?_
  ·intro i H5 hi s5
   have i1:i<us.length:=nofun
   have i2:i<(bs.map V.int).length:=by rw[za];omega
   exact⟨us,bs.map V.int,us[i],(bs.map V.int)[i],dB.of (s5 _ _ hu4),aL.of (s5 _ _ h4),zb i1,zb i2⟩
  ·intro H5 s5
   refine⟨us,bs.map V.int,dB.of (s5 _ _ hu4),aL.of (s5 _ _ h4),?_⟩;rw[za];rcases Nat.le_total r.ends.length bs.length with h | h
   ·exact Or.inl nofun
   ·right;omega
  ·rintro i x H5 H6 hi s5 ⟨p,u,v,hp,rfl,rfl,hu',hv'⟩
   have i1:i<r.ends.length:=nofun
   have i2:i<bs.length:=nofun
   have gu:=hu' us (dB.of (s5 _ _ hu4));have gv:=hv' (bs.map V.int) (aL.of (s5 _ _ h4));rw[zJ,zb i2] at gv;cases gv;obtain⟨x0,hx0,ix0⟩:=dz (ilu4.mono s5) gu;rw[zb i1] at hx0;cases hx0;refine⟨aZ hp,p,u,rfl,?_,?_⟩
   ·rw[aF,List.getElem_zip]
   ·rw[List.getElem_zip];exact ix0.mono (aZ hp)
  ·rintro z x σ H5 R hz s5 ⟨p,u,rfl,hp,iu⟩ ⟨_,_,rfl⟩ rr
   obtain⟨a6,q6,rfl,h6,h7⟩:=ui iu;refine⟨p,_,rfl,dB.of hp,rfl,?_⟩;refine⟨_,_,rfl,_,_,rfl,rfl,?_⟩;left;refine⟨ng,laid fun p7 H7 s7 h7'=>rr _ _ _ s7 ?_ ⟨_,_,rfl⟩⟩;exact cB h7' (aQ cR (aQ cR (og (cB (s7 _ _ h7) sC))))
  ·intro D5 vs5 H5 s5 hD5 il5
   refine kk _ _ _ (s04.trans s5) hD5 ?_;have ee:(jr r).map J9=(r.ends.zip bs).map fun z=>J9 (z.1.1,z.2-1,z.1.2):=by
    unfold jr;rw[hbs,zA];rfl
   rw[ee];exact il5
theorem OO {H:Hp} {e:Int×Int×List Int} {v:V} (h:Is H (J9 e) v):∃a q,v=.ref a/\H a=some (.tup [.int e.1,.int e.2.1,.ref q])/\H q=some (.tup (e.2.2.map V.int)):=by
 unfold J9 Is at h;obtain⟨a,vs,rfl,ha,hl⟩:=h;unfold L2.IsL at hl;obtain⟨v1,r1,rfl,h1,hl⟩:=hl;unfold L2.IsL at hl;obtain⟨v2,r2,rfl,h2,hl⟩:=hl;unfold L2.IsL at hl;obtain⟨v3,r3,rfl,h3,hl⟩:=hl;unfold L2.IsL at hl;subst hl;unfold Is at h1 h2;subst h1 h2;unfold vj Is at h3;obtain⟨q,us,rfl,hq,hle⟩:=h3;rw[fF hle] at hq;exact⟨a,q,rfl,ha,hq⟩
noncomputable def yS (r:Rep) (b:Int) (e:Int×Int×List Int):Bool:=decide (e.1<=b)&&decide (b<=e.2.1)&&!decide (r.times∈e.2.2)
theorem JU (rs:List Rep) (b:Int):lM rs b=rs.all fun r=>(jr r).all fun e=>!yS r b e:=rfl
theorem B4:∀ns:List Int,(ns.map V.int).all mL=true
 | []=>rfl
 | n::ns=>by rw[zh,List.all_cons,B4 ns];rfl
theorem hV:aD ["repeats","bar","repeat","end"] ["repeats","bar"] (ao nK):=dJ
theorem mH (T:Txt K mg):dm P w base 2 T.iM (vy K):=by
 refine T.iM.F.dH hV fun _ _ _ _ H vs Q E hr h=>?_
 ·obtain⟨p,rs,b,rfl,⟨vs,hp,il⟩,hl,kk⟩:=h
  rw[JU] at kk;refine⟨_,(ag (cE PassesOwn.never rfl (bz (pv 0)) (dj 2 hV.nd)
   (aj (cE PassesOwn.never rfl (bz (bR (G4 T) hr T.Dl (ah (pv 2) af))) (dj 3 hV.nd)
    (aj (aI (PW.pt (cV (ay gn (ax aA (pv 3) ae (fun _ _=>rfl)) (pv 1) (aE _)) (cV (ay gn (pv 1) (ax aA (pv 3) ae (fun _ _=>rfl)) (aE _)) (cK (ay d4 (ax aA (pv 2) ae (fun _ _=>rfl)) (ax aA (pv 3) ae (fun _ _=>rfl)) (by with_unfolding_all rfl))))))
     (aj (aq nU))
     aB)))))
   (aj (aq nU))),?_⟩
  ac_rfl;left;exists⟨_,hp⟩,?_;refine dX (K:=K) (a:=p) (xs:=vs) (fun i σ H'=>au H H'/\(rs.take i).all (fun r=>(jr r).all fun e=>!yS r b e)=true/\∃v u,σ=[some (.ref p),some (.int b),v,u]) ⟨au.refl H,rfl,none,none,rfl⟩ (fun i σ H' _ h=>h.1.seq hp) ?_ ?_
  ·intro i x σ H' hx hh
   refine dU fun N kN0 kR0 _ _=>?_;obtain⟨s1,hn,v,u,rfl⟩:=hh;obtain⟨r,hr',hi⟩:=dz il hx;have hm:=zB hr';left;exists _,r,rfl,hi.mono s1,hl r hm,fun D us H2 s2 hD ilD=>?_;refine⟨D,rfl,⟨_,aL.of hD⟩,?_⟩;obtain⟨a,e,rfl,ha,he⟩:=fX (hi.mono (s1.trans s2));refine dX (K:=K) (a:=D) (xs:=us) (fun j σ H'=>H'=H2/\((jr r).take j).all (fun e=>!yS r b e)=true/\∃u,σ=[some (.ref p),some (.int b),some (.ref a),u]) ⟨rfl,rfl,_,rfl⟩ (fun j σ H' _ h=>by rw[h.1];exact aL.of hD) ?_ ?_
   ·intro j y σ H3 hy hh
    refine dU fun N kN1 kR1 _ _=>?_;obtain⟨rfl,hnj,u',rfl⟩:=hh;obtain⟨t,ht,it⟩:=dz ilD hy;obtain⟨a6,q6,rfl,h6,h7⟩:=OO it;have good:yS r b t=false->((jr r).take (j+1)).all (fun e=>!yS r b e)=true:=fun z=>by
     rw[cU ht,List.all_append,hnj,Bool.true_and];simp[z]
    left
    by_cases c1:t.1<=b
    ·refine cj (ze c1) ?_
     left
     by_cases c2:b<=t.2.1
     ·refine cj (ze c2) ?_
      left;exists q6,t.2.2.map V.int,rfl,.inr (dB.of h7),rfl,B4 _,?_;show∃k,V.bl (!Eg (.int r.times) (t.2.2.map V.int))=.bl k/\_;rw[yM]
      by_cases c3:r.times∈t.2.2
      ·rw[ze c3]
       left;exact⟨good (by unfold yS;rw[ze c3];simp),_,rfl⟩
      ·rw[zd c3]
       left;have z:=kk H3 (s1.trans s2);have e0:(rs.all fun r=>(jr r).all fun e=>!yS r b e)=false:=by
        rw[List.all_eq_false];exists r,hm,?_;have:((jr r).all fun e=>!yS r b e)=false:=by
         rw[List.all_eq_false];exact⟨t,zB ht,by unfold yS;simp[c1,c2,c3]⟩
        rw[this];decide
       rw[e0] at z;exact z
     ·refine cw (zd c2) ?_
      left;exact⟨good (by unfold yS;rw[zd c2];simp),_,rfl⟩
    ·refine cw (zd c1) ?_
     left;exact⟨good (by unfold yS;rw[zd c1];simp),_,rfl⟩
   ·rintro σ H3 ⟨rfl,hnj,u',rfl⟩
    rw[aS ilD,zM] at hnj;left;refine⟨s1.trans s2,?_,_,_,rfl⟩;rw[cU hr',List.all_append,hn,Bool.true_and];simp[hnj]
  ·rintro σ H' ⟨s1,hn,v,u,rfl⟩
   rw[aS il,zM] at hn;left;have z:=kk H' s1;rw[hn] at z;exact z
def CD (K:yA):Sp:=fun vs H Q _=>∃(p:Addr) (rs:List Rep) (a c:Int),vs=[.ref p,.int a,.int c]/\By K H p rs/\(∀r∈rs,r.ends.length<=1000000)/\∀H',au H H'->Q (.bl (decide (a<c)&&eC rs c&&lM rs c)) H'
def CC (K:yA):Sp:=fun vs H Q _=>∃(p:Addr) (rs:List Rep) (v:V) (j:Jump),vs=[.ref p,v]/\By K H p rs/\(∀r∈rs,r.ends.length<=1000000)/\Is H (jt j) v/\∀H',au H H'->Q (.bl (gY rs j)) H'
theorem wI {H:Hp} {j:Jump} {v:V} (h:Is H (jt j) v):∃a,v=.ref a/\H a=some (.tup [.int j.wJ,.int j.AE,.int j.dy,ov j.gD]):=by
 unfold jt Is at h;obtain⟨a,vs,rfl,ha,hl⟩:=h;unfold L2.IsL at hl;obtain⟨v1,r1,rfl,h1,hl⟩:=hl;unfold L2.IsL at hl;obtain⟨v2,r2,rfl,h2,hl⟩:=hl;unfold L2.IsL at hl;obtain⟨v3,r3,rfl,h3,hl⟩:=hl;unfold L2.IsL at hl;obtain⟨v4,r4,rfl,h4,hl⟩:=hl;unfold L2.IsL at hl;subst hl;unfold Is at h1 h2 h3;subst h1 h2 h3;refine⟨a,rfl,?_⟩;cases q:j.gD with
 | none=>rw[q] at h4;unfold dO Is at h4;subst h4;exact ha
 | some n=>rw[q] at h4;unfold dO Is at h4;subst h4;exact ha
theorem CL:aD ["repeats","at","coda"] ["repeats","at","coda"] (ao uW):=dJ
theorem C4 (T:Txt K mg):dm P w base 3 T.uw (CD K):=by
 refine T.uw.F.dH CL fun _ _ _ _ H vs Q E hr h=>?_
 ·obtain⟨p,rs,a,c,rfl,hp,hl,kk⟩:=h
  refine⟨_,(aj (aq (tP (dZ fg (pv 1) (pv 2) (aE _)) (tP (bR (rY T) hr T.oF (ah (pv 0) (ah (pv 2) af))) (qx (bR (mH T) hr T.iM (ah (pv 0) (ah (pv 2) af)))))))),?_⟩;ac_rfl;left
  by_cases c1:a<c
  ·rw[ze c1,Bool.true_and] at kk
   refine cj (ze c1) ?_;left;exists p,rs,c,rfl,hp,?_;cases q:eC rs c with
   | true=>
    rw[q,Bool.true_and] at kk;left;exact⟨p,rs,c,rfl,hp,hl,kk⟩
   | false=>
    rw[q,Bool.false_and] at kk;left;exact kk _ (au.refl _)
  ·rw[zd c1,Bool.false_and,Bool.false_and] at kk
   refine cw (zd c1) ?_;left;exact kk _ (au.refl _)
theorem fV:aD ["repeats","jump","at","to","until","coda"] ["repeats","jump"] (ao uV):=dJ
theorem C3 (T:Txt K mg):dm P w base 4 T.ue (CC K):=by
 refine T.ue.F.dH fV fun _ _ _ _ H vs Q E hr h=>?_
 ·obtain⟨p,rs,v,j,rfl,hp,hl,iv,kk⟩:=h
  obtain⟨a,rfl,ha⟩:=wI iv;unfold gY at kk;refine⟨_,(ag (bW 2 fV.nd (ax aA (pv 1) ae (fun _ _=>rfl)))
   (ag (bW 3 fV.nd (ax aA (pv 1) ae (fun _ _=>rfl)))
   (ag (bW 4 fV.nd (ax aA (pv 1) ae (fun _ _=>rfl)))
   (ag (bW 5 fV.nd (ax aA (pv 1) ae (fun _ _=>rfl)))
   (ag (aI (PW.pt (eJ (ay fg (pv 4) (pv 3) (aE _)) (dw (ay fg (pv 2) (pv 4) (aE _)))))
   (aj (aq nU))
   aB)
   (ag (aI (PW.pt (cV (bA (fE (pv 5))) (cK (fG (cW (bR (C4 T) hr T.uw (ah (pv 0) (ah (pv 2) (ah (pv 5) af)))))))))
   (aj (aq nU))
   aB)
   (aj (aq (tP (bR (C2 T) hr T.tY (ah (pv 0) (ah (pv 2) af))) (tP (bR (rY T) hr T.oF (ah (pv 0) (ah (pv 3) af))) (qx (bR (mH T) hr T.iM (ah (pv 0) (ah (pv 4) af)))))))))))))),?_⟩
  ac_rfl;left
  by_cases c1:j.dy<j.AE
  ·refine cj (ze c1) ?_
   simp only[if_pos c1] at kk;left;exact kk _ (au.refl _)
  ·refine cw (zd c1) ?_
   simp only[if_neg c1] at kk;left
   by_cases c2:j.wJ<j.dy
   ·refine cj (ze c2) ?_
    simp only[if_pos c2] at kk;left;exact kk _ (au.refl _)
   ·refine cw (zd c2) ?_
    simp only[if_neg c2] at kk;left;cases q:j.gD with
    | none=>
     rw[q] at kk;left;exists p,rs,_,rfl,hp,?_;cases q1:gW rs j.wJ with
     | false=>
      rw[q1] at kk;left;exact kk _ (au.refl _)
     | true=>
      rw[q1] at kk;left;exists p,rs,_,rfl,hp,?_;cases q2:eC rs j.AE with
      | false=>
       rw[q2] at kk;left;exact kk _ (au.refl _)
      | true=>
       rw[q2] at kk;left;exact⟨p,rs,_,rfl,hp,hl,kk⟩
    | some n=>
     rw[q] at kk;left;exists p,rs,_,_,rfl,hp,hl,fun H1 s1=>?_;cases q0:(decide (j.wJ<n)&&eC rs n&&lM rs n) with
     | false=>
      simp only[q0] at kk;left;exact kk _ s1
     | true=>
      simp only[q0,Bool.true_and] at kk;left;exists p,rs,_,rfl,hp.mono s1,?_;cases q1:gW rs j.wJ with
      | false=>
       rw[q1] at kk;left;exact kk _ s1
      | true=>
       rw[q1] at kk;left;exists p,rs,_,rfl,hp.mono s1,?_;cases q2:eC rs j.AE with
       | false=>
        rw[q2] at kk;left;exact kk _ s1
       | true=>
        rw[q2] at kk;left;exact⟨p,rs,_,rfl,hp.mono s1,hl,fun H2 s2=>kk _ (s1.trans s2)⟩
theorem BE {l ns:List Int} (h1:ns.Perm l) (h2:ns.Pairwise (·<=·)):ns=sortI l:=by
 unfold sortI;refine List.Perm.eq_of_pairwise (le:=fun a b:Int=>a<=b) (fun a b _ _ x y=>Int.le_antisymm x y) h2 ?_ (h1.trans (List.mergeSort_perm _ _).symm);have:=List.pairwise_mergeSort (le:=fun a b:Int=>decide (a<=b)) (fun a b c x y=>by simp at x y ⊢;omega) (fun a b=>by simp;omega) l;exact this.imp fun h=>by simpa using h
noncomputable def GI:List Sc.End->Nat
 | []=>0
 | e::r=>e.2.length+GI r
theorem OP {es:List Sc.End} {e:Sc.End} (h:e∈es):e.2.length<=GI es:=by
 induction es with
 | nil=>cases h
 | cons x r ih=>
  rcases zC.mp h with rfl | h
  ·unfold GI;omega
  ·have:=ih h;unfold GI;omega
theorem KL {a b:List Int}:(decide (a.map V.int=b.map V.int))=decide (a=b):=by
 by_cases h:a=b
 ·subst h;simp
 ·rw[zd h,zd]
  intro z;have:∀{a b:List Int},a.map V.int=b.map V.int->a=b:=by
   intro a
   induction a with
   | nil=>intro b z;cases b with | nil=>rfl | cons _ _=>cases z
   | cons x r ih=>intro b z;cases b with | nil=>cases z | cons y s=>simp at z;rw[z.1,ih (by simpa using z.2)]
  exact h (this z)
theorem rS:∀ns:List Int,(ns.map V.int).all Oj=true
 | []=>rfl
 | n::ns=>by rw[zh,List.all_cons,rS ns];rfl
theorem FO {e:Sc.End} {r:List Sc.End} {a:Int} {ps:List Int} (h1:¬e.1<=a) (h2:e.2=sortI e.2):f9 (e::r) a ps=f9 r e.1 (ps++e.2):=by
 show(if e.1<=a then none else if e.2≠sortI e.2 then none else f9 r e.1 (ps++e.2))=_;rw[if_neg h1,if_neg (fun z=>z h2)]
theorem B7 {e:Sc.End} {r:List Sc.End} {a:Int} {ps:List Int} (h:e.1<=a\/e.2≠sortI e.2):f9 (e::r) a ps=none:=by
 show(if e.1<=a then none else if e.2≠sortI e.2 then none else f9 r e.1 (ps++e.2))=_;rcases h with h | h
 ·rw[if_pos h]
 ·rw[if_pos h];split <;> rfl
theorem NQ {α:Type} {l:List α} {i:Nat} {x:α} (h:l[i]?=some x):l.drop i=x::l.drop (i+1):=by
 obtain⟨hi,rfl⟩:=zw.mp h;exact List.drop_eq_getElem_cons hi
def uH:Sp:=fun vs H Q _=>∃(v:V) (r:Rep),vs=[v]/\Is H (jD r) v/\GI r.ends<64/\-1000000<=r.times/\r.times<=1000000/\∀H',au H H'->Q (.bl (gb r)) H'
theorem fH:aD ["repeat","ends","ahead","passes","end"] ["repeat"] (ao xD):=dJ
theorem Fg (T:Txt K mg):dm P w base 1 T.yQ uH:=by
 refine T.yQ.F.dH fH fun _ _ _ _ H vs Q E hr h=>?_
 ·obtain⟨v,r,rfl,iv,ht,t0,t1,kk⟩:=h
  have sl:=yB;obtain⟨a,e,rfl,ha,he⟩:=fX iv;unfold Is at he;obtain⟨e',us,ee,hu,ilu⟩:=he;cases ee;have ul:=aS ilu;refine⟨_,(ag (bW 1 fH.nd (ax aA (pv 0) ae (fun _ _=>rfl)))
   (ag (aI (ay de (eX aC T.bB (ah (pv 1) af)) ae (aE _))
   (aj (aq nU))
   aB)
   (ag (bW 2 fH.nd (ar kf (ax aA (pv 0) ae (fun _ _=>rfl)) ae))
   (ag (bW 3 fH.nd (bD af))
   (ag (cE PassesOwn.never rfl (ke (pv 1)) (dj 4 fH.nd)
   (ag (aI (PW.pt (eJ (ay gn (ax aA (pv 4) ae (fun _ _=>rfl)) (pv 2) (aE _)) (dw (ay (CU hr.units) (mV iO T.tX (ah (ax aA (pv 4) ae (fun _ _=>rfl)) af)) (eX sO T.Fp (ah (ax aA (pv 4) ae (fun _ _=>rfl)) af)) (aE _)))))
    (aj (aq nU))
    aB)
    (ag (bW 2 fH.nd (ax aA (pv 4) ae (fun _ _=>rfl)))
    (aj (bT (cu PySem.F.plainAttrs_list PySem.F.slot_list_extend PySem.F.type_list_extend G9 (pv 3) (ah (ax aA (pv 4) ae (fun _ _=>rfl)) af)))))))
   (aj (aq (tP (dZ gn (pv 2) (ax aA (pv 0) ae (fun _ _=>rfl)) (aE _)) (qx (dZ (CV hr.units) (eX sO T.Fp (ah (pv 3) af)) (LK rfl (by rfl) T.tX (by rfl) T.dG (ah ae (ah (ar bg (ax aA (pv 0) ae (fun _ _=>rfl)) ae) af))) (aE _))))))))))),?_⟩
  ac_rfl;left;exists e,_,rfl,.inr (dB.of hu),?_;rw[ul];left
  by_cases h0:r.ends.length=0
  ·refine cj (by rw[h0];rfl) ?_
   left;have e0:gb r=true:=by
    unfold gb;rw[yr.mp h0]
   rw[e0] at kk;exact kk _ (au.refl _)
  ·refine cw (zd fun z=>h0 (by have:=V.int.inj z;omega)) ?_
   have ef:gb r=(match f9 r.ends (r.first-1) [] with | none=>false | some (a,ps)=>decide (a<=r.last)&&decide (sortI ps=JA 1 (r.times+1-1).toNat)):=by
    unfold gb;cases q:r.ends with
    | nil=>rw[q] at h0;exact absurd rfl h0
    | cons x xs=>rfl
   rw[ef] at kk;left;exists by show 0<=sizeLine;omega,?_
   intro pp hn;generalize hG:upd _ pp _=H1;have s1:=au.lI hG hn;have h1:=lS hG;clear hG;left;exists⟨_,dB.of (s1 _ _ hu)⟩,?_;refine IL (K:=K) (a:=e) (xs:=us) (fun i σ H'=>au H H'/\∃(z:Int) (ps:List Int) (u:Option V),σ=[some (.ref a),some (.ref e),some (.int z),some (.ref pp),u]/\H' pp=some (.lst (ps.map V.int))/\ps.length+GI (r.ends.drop i)=GI r.ends/\f9 r.ends (r.first-1) []=f9 (r.ends.drop i) z ps) ⟨s1,_,[],none,rfl,h1,by simp,rfl⟩ (fun i σ H' _ h=>dB.of (h.1 _ _ hu)) ?_ ?_
   ·intro i x σ H2 hx hh
    refine dU fun N kN0 kR0 _ _=>?_;obtain⟨s2,z,ps,u,rfl,h2,hc,hgo⟩:=hh;obtain⟨en,hen,ien⟩:=dz ilu hx;obtain⟨a6,q6,rfl,h6,h7⟩:=ui (ien.mono s2);have hle:=OP (zB hen);rw[NQ hen] at hgo hc;rw[show GI (en::List.drop (i+1) r.ends)=en.2.length+GI (List.drop (i+1) r.ends) from rfl] at hc;left
    by_cases c1:en.1<=z
    ·refine cj (ze c1) ?_
     rw[hgo,B7 (.inl c1)] at kk;left;exact kk _ s2
    ·refine cw (zd c1) ?_
     left;exists q6,_,rfl,.inr (dB.of h7),?_;right;rename_i p8 H8 s8 h8;have h68:=s8 _ _ h6;have h78:=s8 _ _ h7;left;exists q6,en.2,rfl,.inr (dB.of h78),nofun,fun ns np ns'=>?_;right;rename_i p9 H9 s9 h9;have h69:=s9 _ _ h68;have h79:=s9 _ _ h78;have h29:=s9 _ _ (s8 _ _ h2);rw[BE np ns'] at h9;exists p8,p9,_,_,rfl,rfl,.inl ⟨aL.of (s9 _ _ h8),aL.of h9⟩,.inr (.inr ⟨rS _,rS _⟩),?_;rw[KL]
     by_cases c2:en.2=sortI en.2
     ·rw[ze c2]
      rw[FO c1 c2] at hgo;left;exists .inl ⟨rfl,_,aL.of h29⟩,?_;left;refine .inr ⟨pp,q6,_,_,rfl,rfl,h29,h79,by rw[za,za];omega,?_⟩;left;have s29:=(s2.trans s8).trans s9;refine⟨fun b o hb=>?_,en.1,ps++en.2,_,rfl,by rw[aF,zj],by rw[zg];omega,hgo⟩;have ne:b≠pp:=fun z=>by rw[z,hn] at hb;cases hb
      rw[aG ne];exact s29 b o hb
     ·rw[zd c2]
      rw[hgo,B7 (.inr c2)] at kk;left;exact kk _ ((s2.trans s8).trans s9)
   ·rintro σ H2 ⟨s2,z,ps,u,rfl,h2,hc,hgo⟩
    rw[ul,List.drop_length] at hgo hc;rw[hgo] at kk;have ha2:=s2 _ _ ha;unfold f9 at kk;simp only at kk;rw[show GI []=0 from rfl] at hc;left
    by_cases c1:z<=r.last
    ·rw[ze c1,Bool.true_and] at kk
     refine cj (ze c1) ?_;left;exists pp,ps,rfl,.inl (aL.of h2),nofun,fun ns np ns'=>?_;right;rename_i p9 H9 s9 h9;rw[BE np ns'] at h9;have ha9:=s9 _ _ ha2;left;exists 1,r.times+1,rfl,⟨by decide,(by decide),nofun,nofun⟩,nofun,?_;right;rename_i p10 H10 s10 h10;exists p9,p10,_,_,rfl,rfl,.inl ⟨aL.of (s10 _ _ h9),aL.of h10⟩,.inr (.inr ⟨rS _,rS _⟩),?_;rw[KL];exact kk _ ((s2.trans s9).trans s10)
    ·rw[zd c1,Bool.false_and] at kk
     refine cw (zd c1) ?_;exact kk _ s2
theorem IZ {xs:List V} {x:V} (h:xs[xs.length-1]?=some x):Ci xs (-1)=some x:=by
 have hp:0<xs.length:=by
  have:=(zw.mp h).1;omega
 have ne:xs≠[]:=yq.mp hp;have e:=List.dropLast_concat_getLast ne;have e2:xs.getLast ne=x:=by
  have:=(zw.mp h).2;rw[List.getLast_eq_getElem];exact this
 rw[<-e,e2];exact L2.Al _ _
def xj (K:yA):Sp:=fun vs H Q _=>∃(p:Addr) (rs:List Rep) (v:V) (r:Rep),vs=[.ref p,v]/\By K H p rs/\Is H (jD r) v/\GI r.ends<64/\-1000000<=r.times/\r.times<=1000000/\∀H',au H H'->Q (.bl (lA rs r)) H'
theorem xq:aD ["repeats","repeat"] ["repeats","repeat"] (ao pw):=dJ
theorem xZ (T:Txt K mg):dm P w base 2 T.nT (xj K):=by
 refine T.nT.F.dH xq fun _ _ _ _ H vs Q E hr h=>?_
 ·obtain⟨p,rs,v,r,rfl,⟨vs,hp,il⟩,iv,ht,t0,t1,kk⟩:=h
  obtain⟨a,e,rfl,ha,he⟩:=fX iv;have vl:=aS il;have tail:(∀H',au H H'->Q (.bl (decide (r.first<=r.last)&&gb r)) H')->(if decide (r.first<=r.last)=true then gQ uH [] E0 (bQ (bj 1) eO) [some (.ref p),some (.ref a)] H Q else Q (.bl false) H):=by
   intro k
   by_cases c:r.first<=r.last
   ·rw[ze c,Bool.true_and] at k
    refine cj (ze c) ?_;exact⟨_,rfl,_,r,rfl,iv,ht,t0,t1,k⟩
   ·rw[zd c,Bool.false_and] at k
    refine cw (zd c) ?_;exact k _ (au.refl _)
  refine⟨_,(ag (aI (PW.pt (cV (ay fu (eX aC T.bB (ah (pv 0) af)) ae (aE _)) (cK (ay gn (ax aA (pv 1) ae (fun _ _=>rfl)) (ax aA (ax aN (pv 0) (rT kY ae) (fun _ _=>rfl)) ae (fun _ _=>rfl)) (aE _)))))
   (aj (aq nU))
   aB)
   (aj (aq (tP (dZ gn (ax aA (pv 1) ae (fun _ _=>rfl)) (ax aA (pv 1) ae (fun _ _=>rfl)) (aE _)) (qx (bR (Fg T) hr T.yQ (ah (pv 1) af))))))),?_⟩
  ac_rfl;left;exists p,_,rfl,.inl hp,?_;rw[vl];left
  by_cases h0:0<rs.length
  ·refine cj (ze nofun) ?_
   have hi:rs.length-1<vs.length:=nofun
   obtain⟨q,hq,iq⟩:=dz il (zb hi);obtain⟨b,eb,evb,hb,_⟩:=fX iq;have eg:rs.getLast?=some q:=by rw[List.getLast?_eq_getElem?];exact hq
   unfold lA at kk;rw[eg] at kk;left;refine⟨p,vs,-1,_,rfl,rfl,hp,IZ (by rw[vl];exact zb hi),?_⟩;rw[evb];left
   by_cases c:r.first<=q.last
   ·refine cj (ze c) ?_
    simp only[if_pos c] at kk;left;exact kk _ (au.refl _)
   ·refine cw (zd c) ?_
    simp only[if_neg c] at kk;left;exact tail kk
  ·refine cw (zd nofun) ?_
   have e0:rs=[]:=yr.mp nofun;unfold lA at kk;rw[e0] at kk;left;exact tail kk
def Jd (x:Sc.KA):Prop:=0<=x.aT.1/\x.aT.1<=1000/\0<x.aT.2/\x.aT.2<=1000
structure Rt (C:Addr) (H:Hp) (a:Addr) (S:cJ) (o:Ow):Prop where
 obj:∃ub jm,H a=some (.ins C o.dx (MO o ub jm))
 ba:∃vs,H o.ba=some (.lst vs)/\L2.IsL H (S.aP.map kQ) vs
theorem Rt.of {C a:Addr} {H:Hp} {S:cJ} {o:Ow} (h:bV C H a S o):Rt C H a S o:=⟨by obtain⟨ub,jm,h1,_⟩:=h.obj;exact⟨ub,jm,h1⟩,h.ba⟩
def vw (C:Addr):Sp:=fun vs H Q _=>∃(a:Addr) (S:cJ) (o:Ow) (b:Nat),vs=[.ref a,.int b]/\Rt C H a S o/\b<S.aP.length/\(∀x∈S.aP,Jd x)/\∀p H',au H H'->H' p=some (lZ (S.aT b))->Q (.ref p) H'
theorem P7 {H:Hp} {b:Sc.KA} {v:V} (h:Is H (kQ b) v):∃a m q,v=.ref a/\H a=some (.tup [.ref m,.int b.key,.ref q])/\H m=some (lZ b.aT):=by
 unfold kQ Is at h;obtain⟨a,vs,rfl,ha,hl⟩:=h;unfold L2.IsL at hl;obtain⟨v1,r1,rfl,h1,hl⟩:=hl;unfold L2.IsL at hl;obtain⟨v2,r2,rfl,h2,hl⟩:=hl;unfold L2.IsL at hl;obtain⟨v3,r3,rfl,h3,hl⟩:=hl;unfold L2.IsL at hl;subst hl;unfold Is at h2;subst h2;unfold mO Is at h3;obtain⟨q,us,rfl,hq,hle⟩:=h3;have:=fj (o:=some b.aT) h1;cases this with
 | ref hm=>exact⟨a,_,q,rfl,ha,hm⟩
theorem mi:aD ["score","bar","metre"] ["score","bar"] (ao nI):=dJ
theorem mG (T:Txt K mg) {C:Addr} (F:Cf K C):dm P w base 3 T.iH (vw C):=by
 refine T.iH.F.dH mi fun _ _ _ _ H vs Q E hr h=>?_
 ·obtain⟨a,S,o,b,rfl,sc,hb,bZ,kk⟩:=h
  obtain⟨ub,jm,ho⟩:=sc.obj;obtain⟨vs,hv,il⟩:=sc.ba;have hi:b<vs.length:=by rw[aS il];exact hb
  obtain⟨x,hx,ix⟩:=dz il (zb hi);obtain⟨a1,m,q,ev,h1,hm⟩:=P7 ix;obtain⟨k1,k2,k3,k4⟩:=bZ x (zB hx);unfold cJ.aT at kk;rw[hx] at kk;refine⟨_,(ag (bW 2 mi.nd (ax aA (ax aN (bI (pv 0) rfl) (pv 1) (fun _ _=>rfl)) ae (fun _ _=>rfl)))
   (aj (aq (bR (ji T) hr T.eR (ah (ax aA (pv 2) ae (fun _ _=>rfl)) (ah (ax aA (pv 2) ae (fun _ _=>rfl)) af)))))),?_⟩
  ac_rfl;left;exists a,C,o.dx,_,_,rfl,ho,F.cls,F.aP,rfl,?_;left;refine⟨o.ba,vs,b,_,rfl,rfl,aL.of hv,bF (zb hi),?_⟩;rw[ev];left;exact⟨_,_,rfl,k1,k3,(dn (n:=10) nofun nofun).mono (by decide),fun p H' s' h'=>kk p H' s' h'⟩
def xi (C:Addr):Sp:=fun vs H Q _=>∃(a:Addr) (S:cJ) (o:Ow) (b:Nat),vs=[.ref a,.int b]/\bV C H a S o/\b<S.aP.length/\(∀x∈S.aP,Jd x)/\∀p H',au H H'->H' p=some (lZ (S.len b))->Q (.ref p) H'
theorem xo:aD ["score","bar"] ["score","bar"] (ao pj):=dJ
theorem xX (T:Txt K mg) {C:Addr} (F:Cf K C):dm P w base 4 T.mX (xi C):=by
 refine T.mX.F.dH xo fun _ _ _ _ H vs Q E hr h=>?_
 ·obtain⟨a,S,o,b,rfl,sc,hb,bZ,kk⟩:=h
  obtain⟨ub,jm,ho,hub,hjm⟩:=sc.obj;unfold cJ.len at kk;refine⟨_,(ag (aI (PW.pt (cV (ay de (pv 1) ae (aE _)) (cK (bA (fE (bI (pv 0) rfl))))))
   (aj (aq (bI (pv 0) rfl)))
   aB)
   (aj (aq (bR (mG T F) hr T.iH (ah (pv 0) (ah (pv 1) af)))))),?_⟩
  ac_rfl;left
  by_cases c:b=0
  ·refine cj (by rw[c];rfl) ?_
   left;exists a,C,o.dx,_,_,rfl,ho,F.cls,F.aH,rfl,?_;cases q:S.aH with
   | none=>
    rw[q] at kk hub;unfold dO Is at hub;subst hub;left;exact⟨a,S,o,b,rfl,.of sc,hb,bZ,kk⟩
   | some u=>
    rw[q] at kk hub;cases fj (o:=some u) hub with
    | ref hu=>
     left;exists a,C,o.dx,_,_,rfl,ho,F.cls,F.aH,rfl,?_;refine kk _ _ (au.refl _) ?_;simp only[if_pos c];exact hu
  ·refine cw (zd fun z=>c (by have:=V.int.inj z;omega)) ?_
   left;refine⟨a,S,o,b,rfl,.of sc,hb,bZ,fun p H' s' h'=>kk p H' s' ?_⟩;cases q:S.aH with
   | none=>exact h'
   | some u=>simp only[if_neg c];exact h'
theorem jq (n:Str):∀ns:List Str,Eg (.str n) (ns.map V.str)=decide (n∈ns)
 | []=>rfl
 | m::ns=>by
  have ih:=jq n ns;unfold Eg at ih ⊢;rw[zh,List.any_cons,ih]
  by_cases e:n=m
  ·subst e
   simp[Hs]
  ·have e':¬m=n:=fun z=>e z.symm
   simp[Hs,e,e']
theorem gz:∀ns:List Str,(ns.map V.str).all mL=true
 | []=>rfl
 | n::ns=>by rw[zh,List.all_cons,gz ns];rfl
def fq (C:Addr) (D:Hp->V->cJ->Option Str->Prop):Sp:=fun vs H Q _=>∃(a:Addr) (S:cJ) (o:Ow) (v:V) (f:Option Str),vs=[.ref a,v]/\bV C H a S o/\D H v S f/\∀H',au H H'->Q (os f) H'
def mf (C:Addr):Sp:=fq C fun _ v S f=>∃n,v=.str n/\f=fault S (.bG n)
theorem vH:aD ["score","player"] ["score","player"] (ao nH):=dJ
theorem vN (T:Txt K mg) {C:Addr} (F:Cf K C):dm P w base 1 T.iE (mf C):=by
 refine T.iE.F.dH vH fun _ _ _ _ H vs Q E hr h=>?_
 ·obtain⟨a,S,o,v,f,rfl,sc,⟨n,rfl,rfl⟩,kk⟩:=h
  obtain⟨ub,jm,ho,hub,hjm⟩:=sc.obj;have k:=kk H (au.refl H);unfold fault at k;dsimp only at k;refine⟨_,(ag (aI (ay oC (pv 1) (bI (pv 0) rfl) (by with_unfolding_all rfl))
   (aj (aq aM))
   aB)
   (ag (aI (ay BR (eX aC T.bB (ah (bI (pv 0) rfl) af)) (bU (v:=.int (12)) (by rfl) T.Ah ⟨_,rfl⟩) (aE _))
   (aj (aq aM))
   aB)
   (aj (aq aU)))),?_⟩
  ac_rfl;left;exists a,C,o.dx,_,_,rfl,ho,F.cls,F.players,rfl,?_;refine⟨o.pl,_,rfl,.inl (aL.of sc.pl),rfl,gz _,?_⟩;show∃k,V.bl (Eg (.str n) (S.players.map V.str))=.bl k/\_;rw[jq]
  by_cases c1:n∈S.players
  ·rw[ze c1]
   rw[if_pos c1] at k;left;exact k
  ·rw[zd c1]
   rw[if_neg c1] at k;left;exists a,C,o.dx,_,_,rfl,ho,F.cls,F.players,rfl,?_;left;exists o.pl,_,rfl,.inl (aL.of sc.pl),?_;rw[za];left
   by_cases c2:12<=S.players.length
   ·refine cj (ze nofun) ?_
    rw[if_pos c2] at k;left;exact k
   ·refine cw (zd nofun) ?_
    rw[if_neg c2] at k;left;exact k
def qV (C:Addr):Sp:=fq C fun _ _ S f=>∃b,f=fault S (.bar b)
theorem CN:aD ["score","told"] ["score","told"] (ao uY):=dJ
theorem C6 (T:Txt K mg) {C:Addr} (F:Cf K C):dm P w base 1 T.oM (qV C):=by
 refine T.oM.F.dH CN fun _ _ _ _ H vs Q E hr h=>?_
 ·obtain⟨a,S,o,v,f,rfl,sc,⟨b,rfl⟩,kk⟩:=h
  obtain⟨ub,jm,ho,hub,hjm⟩:=sc.obj;obtain⟨vs,hv,il⟩:=sc.ba;have vl:=aS il;have k:=kk H (au.refl H);unfold fault at k;dsimp only at k;refine⟨_,(ag (aI (ay BR (eX aC T.bB (ah (bI (pv 0) rfl) af)) (bU (v:=.int (200)) (by rfl) T.Gb ⟨_,rfl⟩) (aE _))
   (aj (aq aM))
   aB)
   (aj (aq aU))),?_⟩
  ac_rfl;left;exists a,C,o.dx,_,_,rfl,ho,F.cls,F.aP,rfl,?_;left;exists o.ba,_,rfl,.inl (aL.of hv),?_;rw[vl];left
  by_cases c2:200<=S.aP.length
  ·refine cj (ze nofun) ?_
   rw[if_pos c2] at k;left;exact k
  ·refine cw (zd nofun) ?_
   rw[if_neg c2] at k;left;exact k
theorem qS (n:Str):∀{ks:List Str} {vs:List V},vs.length=ks.length->(fi ((ks.map kS).zip vs) (kS n)).isSome=decide (n∈ks)
 | [],_,_=>by simp[fi]
 | k::ks,[],h=>by simp at h
 | k::ks,v::vs,h=>by
  have ih:=qS n (ks:=ks) (vs:=vs) (by simpa using h);rw[zh,List.zip_cons_cons];unfold fi at ih ⊢;rw[List.find?_cons]
  by_cases e:k=n
  ·subst e
   simp
  ·have e1:¬kS k=kS n:=fun z=>e (Sum.inr.inj z)
   have e2:¬n=k:=fun z=>e z.symm;simp only[e1,decide_false] at ih ⊢;rw[ih];simp[e2]
def iw (C:Addr):Sp:=fq C fun H v S f=>∃x,Is H (eG x) v/\f=fault S (.cI x.1 x.2.1 x.2.2)
theorem Fw {H:Hp} {x:Str×(Int×Int)×(Int×Int)} {v:V} (h:Is H (eG x) v):∃a t l,v=.ref a/\H a=some (.tup [.str x.1,t,l])/\Is H (dL x.2.1) t/\Is H (dL x.2.2) l:=by
 unfold eG Is at h;obtain⟨a,vs,rfl,ha,hl⟩:=h;unfold L2.IsL at hl;obtain⟨v1,r1,rfl,h1,hl⟩:=hl;unfold L2.IsL at hl;obtain⟨v2,r2,rfl,h2,hl⟩:=hl;unfold L2.IsL at hl;obtain⟨v3,r3,rfl,h3,hl⟩:=hl;unfold L2.IsL at hl;subst hl;unfold Is at h1;subst h1;exact⟨a,v2,v3,rfl,ha,h2,h3⟩
theorem oQ:aD ["score","told"] ["score","told"] (ao i9):=dJ
theorem oS (T:Txt K mg) {C:Addr} (F:Cf K C):dm P w base 1 T.fc (iw C):=by
 refine T.fc.F.dH oQ fun _ _ _ _ H vs Q E hr h=>?_
 ·obtain⟨a,S,o,v,f,rfl,sc,⟨x,iv,rfl⟩,kk⟩:=h
  obtain⟨ub,jm,ho,hub,hjm⟩:=sc.obj;obtain⟨vs,hv,il⟩:=sc.ins;obtain⟨a1,t,l,rfl,h1,_,_⟩:=Fw iv;have vl:=aS il;have em:(S.ak.map fun x=>kS x.1)=(S.ak.map (·.1)).map kS:=by rw[zA];rfl
  have k:=kk H (au.refl H);unfold fault at k;dsimp only at k;refine⟨_,(ag (aI (bA (G1 (mK hr) (ax aA (pv 1) ae (fun _ _=>rfl)) (bI (pv 0) rfl)))
   (aj (aq aM))
   aB)
   (ag (aI (ay BR (eX HM T.bB (ah (bI (pv 0) rfl) af)) (bU (v:=.int (12)) (by rfl) T.qJ ⟨_,rfl⟩) (aE _))
   (aj (aq aM))
   aB)
   (aj (aq aU)))),?_⟩
  ac_rfl;left;exists a,C,o.dx,_,_,rfl,ho,F.cls,F.ak,rfl,?_;refine⟨o.ins,_,rfl,.inl ⟨_,kS x.1,.inl hv,rfl,rfl⟩,?_⟩;rw[em,qS x.1 (by rw[za];exact vl)];left
  by_cases c1:x.1∈S.ak.map (·.1)
  ·rw[ze c1]
   rw[if_pos c1] at k;left;exact k
  ·rw[zd c1]
   rw[if_neg c1] at k;left;exists a,C,o.dx,_,_,rfl,ho,F.cls,F.ak,rfl,?_;left;exists o.ins,_,rfl,hv,?_;rw[List.length_zip,za,vl,Nat.min_self];left
   by_cases c2:12<=S.ak.length
   ·refine cj (ze nofun) ?_
    rw[if_pos c2] at k;left;exact k
   ·refine cw (zd nofun) ?_
    rw[if_neg c2] at k;left;exact k
def EF (K:yA) (C:Addr):Sp:=fun vs H Q _=>∃(a p:Addr) (S:cJ) (o:Ow) (bs:List Int),vs=[.ref a,.ref p]/\bV C H a S o/\aL K H p (bs.map V.int)/\bs.length<=1000000/\∀H',au H H'->Q (.bl (S.has bs)) H'
theorem EK:aD ["score","bars"] ["score","bars"] (ao xC):=dJ
theorem jS (T:Txt K mg) {C:Addr} (F:Cf K C):dm P w base 1 T.kM (EF K C):=by
 refine T.kM.F.dH EK fun _ _ _ _ H vs Q E hr h=>?_
 ·obtain⟨a,p,S,o,bs,rfl,sc,hp,hl,kk⟩:=h
  have sl:=yB;refine⟨_,(aj (aq (eX (oK rfl) T.IF (ah (pK (ts:=["bar"]) (ys:=["score"]) (js:=[0]) (g:=(bc 0)) (tc:=dt) (te:=(fQ (vK fun i j=>.bl (decide (i<j))) (bj 0) (Jq (Sg K) (bQ (M0 K (bj 1) "bars") eO)))) (bz (pv 1)) (fun _ _ _ _=>(dj 0 (show List.Nodup [("bar": Str),("score": Str)] by decide +kernel))) (fun _ _ _ _=>bx) (fun _ _ _ _=>(dZ fg (pv 0) (eX aC T.bB (ah (bI (pv 1) rfl) af)) (aE _)))) af)))),?_⟩;ac_rfl;left;exists⟨_,hp⟩,?_;refine fM (enc:=V.int) (ws:=bs) (fun z=>.bl (decide (z<(S.aP.length:Int)))) (fun σ=>∃v,σ=[v,some (.ref a)]) nofun hp ⟨none,rfl⟩ ?_ ?_
  ·rintro z σ H1 R hz s1 ⟨_,rfl⟩ r
   have sc1:=sc.mono s1;obtain⟨ub,jm,ho,hub,hjm⟩:=sc1.obj;obtain⟨vs,hv,il⟩:=sc1.ba;have vl:=aS il;left;exists a,C,o.dx,_,_,rfl,ho,F.cls,F.aP,rfl,?_;left;exists o.ba,vs,rfl,.inl (aL.of hv),?_;rw[vl];left;exact r _ _ _ (au.refl _) (by unfold Is;rfl) ⟨_,rfl⟩
  ·intro D vs H1 s1 hD il
   have e:bs.map (fun z=>Dt.bl (decide (z<(S.aP.length:Int))))=(bs.map fun z=>decide (z<(S.aP.length:Int))).map Dt.bl:=by rw[zA];rfl
   rw[e] at il;rw[kg il] at hD;exists D,_,rfl,aL.of hD,?_;have e2:(bs.map fun z=>decide (z<(S.aP.length:Int))).all id=S.has bs:=by rw[List.all_map];rfl
   rw[e2];exact kk _ s1
def vx (K:yA):Sp:=fun vs H Q _=>∃(p:Addr) (us:List V) (its:List Item),vs=[.ref p]/\aL K H p us/\L2.IsL H (its.map eV) us/\its.length<=500/\(∀it∈its,MT it.2)/\∀r H',au H H'->H' r=some (lZ (j7 its))->Q (.ref r) H'
theorem tf (l:List Item) (it:Item):j7 (l++[it])=add (j7 l) it.2:=by unfold j7;rw[zX];rfl
theorem fA:aD ["items","length","item"] ["items"] (ao nJ):=dJ
theorem vO (T:Txt K mg):dm P w base 4 T.lL (vx K):=by
 refine T.lL.F.dH fA fun _ _ _ _ H vs Q E hr h=>?_
 ·obtain⟨p,us,its,rfl,hp,il,hl,bZ,kk⟩:=h
  have sl:=yB;have ul:=aS il;refine⟨_,(ag (bW 1 fA.nd (bK (ah ae (ah ae af))))
   (ag (cE PassesOwn.never rfl (bz (pv 0)) (dj 2 fA.nd)
   (aj (bW 1 fA.nd (bR (LP T) hr T.added (ah (pv 1) (ah (ax aA (pv 2) ae (fun _ _=>rfl)) af))))))
   (aj (aq (pv 1))))),?_⟩
  ac_rfl;left;exists du,?_;right;rename_i p1 H1 s1 h1;left;exists⟨_,s1.seq hp⟩,?_;refine dX (K:=K) (a:=p) (xs:=us) (fun i σ H'=>au H H'/\∃q v,σ=[some (.ref p),some (.ref q),v]/\H' q=some (lZ (j7 (its.take i)))/\Lm.Rd (j7 (its.take i))/\AF (15*i+1) (j7 (its.take i))) ⟨s1,p1,none,rfl,h1,?_,?_⟩ (fun i σ H' _ h=>h.1.seq hp) ?_ ?_
  ·exact Lm.Rd.zero
  ·show AF 1 (0,1)
   exact⟨dn (by decide) (by decide),dn (by decide) (by decide)⟩
  ·rintro i x σ H2 hx ⟨s2,q,v,rfl,hq,rq,zq⟩
   obtain⟨it,hit,iit⟩:=dz il hx;obtain⟨a6,pv,lv,rfl,h6,_,i8⟩:=item_at (iit.mono s2);have hi:i<its.length:=(zw.mp hit).1;obtain⟨ok1,dH,ok3,ok4⟩:=bZ it (zB hit);cases fj (o:=some it.2) i8 with
   | ref h8=>
    have zi:AF 14 it.2:=⟨dn nofun nofun,dn (by have:=ok1.pos;omega) nofun⟩
    left;exists _,_,_,_,_,_,rfl,hq,h8,rq,ok1,zq,zi,nofun,fun r H3 s3 h3=>?_;have e:=cU hit;refine⟨s2.trans s3,r,_,rfl,?_,?_,?_⟩
    ·rw[e,tf];exact h3
    ·rw[e,tf];exact rq.add ok1
    ·rw[e,tf];exact⟨(AF.add rq ok1 zq zi).1.mono nofun,(AF.add rq ok1 zq zi).2.mono nofun⟩
  ·rintro σ H2 ⟨s2,q,v,rfl,hq,_,_⟩
   rw[ul,zM] at hq;left;exact kk _ _ s2 hq
def DZ (S:cJ):Prop:=∀r∈S.repeats,r.ends.length<=1000000
def o6 (C:Addr):Sp:=fq C fun H v S f=>∃j,Is H (jt j) v/\DZ S/\f=fault S (.cb j)
theorem FI {l:List V} {i:Nat} {x:V} (h:l[i]?=some x):(l.take (i+1)).filter (fun v=>!gq v)=(l.take i).filter (fun v=>!gq v)++(if gq x=true then [] else [x]):=by
 rw[cU h,List.filter_append];cases q:gq x with
 | true=>simp[q]
 | false=>simp[q]
theorem AU:aD ["score","jump"] ["score","jump"] (ao rE):=dJ
theorem A4 (T:Txt K mg) {C:Addr} (F:Cf K C):dm P w base 5 T.lK (o6 C):=by
 refine T.lK.F.dH AU fun _ _ _ _ H vs Q E hr h=>?_
 ·obtain⟨a,S,o,v,f,rfl,sc,⟨j,iv,rok,rfl⟩,kk⟩:=h
  have sl:=yB;obtain⟨ub,jm,ho,hub,hjm⟩:=sc.obj;obtain⟨vs,hv,il⟩:=sc.re;obtain⟨a1,rfl,h1⟩:=wI iv;unfold fault at kk;dsimp only at kk;refine⟨_,(ag (aI (bA (fE (bI (pv 0) rfl)))
   (aj (aq aM))
   aB)
   (ag (aI (fG (cW (bR (jS T F) hr T.kM (ah (pv 0) (ah (pK (ts:=["bar"]) (ys:=[]) (js:=[]) (g:=(bc 0)) (tc:=(tB (K0 (bj 0)))) (te:=(bj 0)) (ke (pv 1)) (fun _ _ _ _=>(dj 0 (show List.Nodup [("bar": Str)] by decide +kernel))) (fun _ _ _ _=>(iF (bA (fE (pv 0))))) (fun _ _ _ _=>(pv 0))) af)))))
   (aj (aq aM))
   aB)
   (ag (aI (fG (cW (bR (C3 T) hr T.ue (ah (bI (pv 0) rfl) (ah (pv 1) af)))))
   (aj (aq aM))
   aB)
   (aj (aq aU))))),?_⟩
  ac_rfl;left;exists a,C,o.dx,_,_,rfl,ho,F.cls,F.cb,rfl,?_;cases q:S.cb with
  | some j'=>
   rw[q] at hjm kk;obtain⟨a2,rfl,_⟩:=wI hjm;left;exact kk _ (au.refl _)
  | none=>
   rw[q] at hjm kk;unfold dO Is at hjm;subst hjm;rw[if_neg (by decide)] at kk;left;exists⟨_,dB.of h1⟩,?_;generalize hw:[V.int j.wJ,V.int j.AE,V.int j.dy,ov j.gD]=ws at h1;have wl:ws.length=4:=by rw[<-hw];rfl
   refine om ws.length (fun i=>(ws.take i).filter fun v=>!gq v) (fun i σ H'=>H'=H/\∃v,σ=[v]) (fun i hi=>zL (List.length_filter_le _ _) (by rw[zP];omega)) nofun rfl ⟨rfl,none,rfl⟩ ?_ ?_ ?_ ?_
   ·rintro i σ H' hi ⟨rfl,_⟩
    exact Hm (dB.of h1) hi
   ·rintro σ H' ⟨rfl,_⟩
    exact⟨_,dB.of h1,zk _⟩
   ·rintro i x σ H' H2 hi ⟨rfl,v,rfl⟩ ⟨rfl,hy⟩
    have hx:=hy _ (dB.of h1);left
    by_cases e:x=.bE
    ·refine cw (by rw[ze e];rfl) ?_
     refine Gw.skip hi ?_ ⟨rfl,_,rfl⟩;show List.filter _ (List.take (i+1) ws)=List.filter _ (List.take i ws);rw[FI hx,if_pos (show gq x=true from ze e),zU]
    ·refine cj (by rw[zd e];rfl) ?_
     left;refine Gw.push hi ?_ ⟨rfl,_,rfl⟩;show List.filter _ (List.take (i+1) ws)=List.filter _ (List.take i ws)++[x];rw[FI hx,if_neg (by unfold gq;rw[zd e];decide)]
   ·rintro σ H' ⟨rfl,_⟩
    rw[zM];have ef:(ws.filter fun v=>!gq v)=([j.wJ,j.AE,j.dy]++j.gD.toList).map V.int:=by
     rw[<-hw];cases j.gD <;> rfl
    rw[ef];right;rename_i D H2 s2 h2;refine⟨a,D,S,o,_,rfl,sc.mono s2,aL.of h2,?_,fun H3 s3=>?_⟩
    ·cases j.gD <;> simp
    ·cases qb:S.has ([j.wJ,j.AE,j.dy]++j.gD.toList) with
     | false=>
      rw[qb] at kk;left;exact kk _ (s2.trans s3)
     | true=>
      rw[qb,if_neg (by simp)] at kk;have s03:=s2.trans s3;have sc3:=sc.mono s03;left;exists a,C,o.dx,_,_,rfl,s03 _ _ ho,F.cls,F.repeats,rfl,?_;left;exists o.re,S.repeats,_,j,rfl,⟨vs,aL.of (s03 _ _ hv),il.mono s03⟩,rok,iv.mono s03,fun H4 s4=>?_;cases qj:gY S.repeats j with
      | false=>
       rw[qj] at kk;left;exact kk _ (s03.trans s4)
      | true=>
       rw[qj,if_neg (by simp)] at kk;left;exact kk _ (s03.trans s4)
def md (C:Addr):Sp:=fq C fun H v S f=>∃r:Rep,Is H (jD r) v/\GI r.ends<64/\r.ends.length<=1000/\-1000000<=r.times/\r.times<=1000000/\f=fault S (.rep r)
theorem vG:aD ["score","repeat"] ["score","repeat"] (ao nG):=dJ
theorem vM (T:Txt K mg) {C:Addr} (F:Cf K C):dm P w base 3 T.iD (md C):=by
 refine T.iD.F.dH vG fun _ _ _ _ H vs Q E hr h=>?_
 ·obtain⟨a,S,o,v,f,rfl,sc,⟨r,iv,ht,hl,t0,t1,rfl⟩,kk⟩:=h
  have sl:=yB;obtain⟨ub,jm,ho,hub,hjm⟩:=sc.obj;obtain⟨vs,hv,il⟩:=sc.re;have vl:=aS il;obtain⟨a1,e,rfl,h1,he⟩:=fX iv;unfold Is at he;obtain⟨e',us,ee,hu,ilu⟩:=he;cases ee;unfold fault at kk;dsimp only at kk;refine⟨_,(ag (aI (fG (cW (bR (jS T F) hr T.kM (ah (pv 0) (ah (ar gJ (bD (ah (ax aA (pv 1) ae (fun _ _=>rfl)) (ah (ax aA (pv 1) ae (fun _ _=>rfl)) af))) (pK (ts:=["end"]) (ys:=[]) (js:=[]) (g:=(bc 0)) (tc:=dt) (te:=(fQ (rP K) (bj 0) (tC (.int (0))))) (ke (ax aA (pv 1) ae (fun _ _=>rfl))) (fun _ _ _ _=>(dj 0 (show List.Nodup [("end": Str)] by decide +kernel))) (fun _ _ _ _=>bx) (fun _ _ _ _=>(ax aA (pv 0) ae (fun _ _=>rfl))))) af)))))
   (aj (aq aM))
   aB)
   (ag (aI (PW.pt (eJ (bA (fE (bI (pv 0) rfl))) (dw (fG (cW (bR (xZ T) hr T.nT (ah (bI (pv 0) rfl) (ah (pv 1) af))))))))
   (aj (aq aM))
   aB)
   (ag (aI (ay BR (eX aC T.bB (ah (bI (pv 0) rfl) af)) (bU (v:=.int (20)) (by rfl) T.Ag ⟨_,rfl⟩) (aE _))
   (aj (aq aM))
   aB)
   (aj (aq aU))))),?_⟩
  ac_rfl;left;exists du,?_;right;rename_i p2 H2 s2 h2;have h12:=s2 _ _ h1;left;exists⟨_,dB.of (s2 _ _ hu)⟩,?_;obtain⟨ps,f1,f2,f3⟩:=wK ilu;have pl:ps.length<=1000:=by
   have:ps.length=r.ends.length:=by rw[<-f1,za]
   omega
  refine gC (enc:=fun z:Sc.End×V=>z.2) (ws:=ps) (fun z=>.int z.1.1) (fun σ=>∃v,σ=[v]) nofun (by rw[f2];exact s2 _ _ hu) ⟨none,rfl⟩ ?_ ?_
  ·rintro z σ H6 R' hz s6 ⟨_,rfl⟩ r'
   obtain⟨a6,q6,ev,h6,h7⟩:=ui (f3 z hz);rw[ev];have h66:=s6 _ _ (s2 _ _ h6);left;exact r' _ _ _ (au.refl _) cR ⟨_,rfl⟩
  ·intro D vs5 H3 s3 hD il5
   have e5:ps.map (fun z=>Dt.int z.1.1)=(r.ends.map (·.1)).map Dt.int:=by rw[<-f1,zA,zA];rfl
   rw[e5] at il5;rw[fF il5] at hD;exists p2,D,_,_,rfl,rfl,aL.of (s3 _ _ h2),aL.of hD,by rw[za,za];show 2+_<=_;omega,?_
   rw[show [V.int r.first,V.int r.last]++List.map V.int (r.ends.map (·.1))=([r.first,r.last]++r.ends.map (·.1)).map V.int from by rw[zj];rfl];right;rename_i p4 H4 s4 h4;have s04:=(s2.trans s3).trans s4;refine⟨a,p4,S,o,_,rfl,sc.mono s04,aL.of h4,by rw[zg,za];show 2+_<=_;omega,fun H5 s5=>?_⟩;have s05:=s04.trans s5;cases qb:S.has ([r.first,r.last]++r.ends.map (·.1)) with
   | false=>
    rw[qb] at kk;left;exact kk _ s05
   | true=>
    rw[qb,if_neg (by simp)] at kk;left;exists a,C,o.dx,_,_,rfl,s05 _ _ ho,F.cls,F.cb,rfl,?_;cases q:S.cb with
    | some j'=>
     rw[q] at hjm kk;obtain⟨a2,rfl,_⟩:=wI hjm;left;exact kk _ s05
    | none=>
     rw[q] at hjm kk;unfold dO Is at hjm;subst hjm;rw[if_neg (by decide)] at kk;left;exists a,C,o.dx,_,_,rfl,s05 _ _ ho,F.cls,F.repeats,rfl,?_;left;exists o.re,S.repeats,_,r,rfl,⟨vs,aL.of (s05 _ _ hv),il.mono s05⟩,iv.mono s05,ht,t0,t1,fun H6 s6=>?_;have s06:=s05.trans s6;cases qj:lA S.repeats r with
     | false=>
      rw[qj] at kk;left;exact kk _ s06
     | true=>
      rw[qj,if_neg (by simp)] at kk;left;exists a,C,o.dx,_,_,rfl,s06 _ _ ho,F.cls,F.repeats,rfl,?_;left;exists o.re,vs,rfl,.inl (aL.of (s06 _ _ hv)),?_;rw[vl];left
      by_cases c2:20<=S.repeats.length
      ·refine cj (ze nofun) ?_
       rw[if_pos c2] at kk;left;exact kk _ s06
      ·refine cw (zd nofun) ?_
       rw[if_neg c2] at kk;left;exact kk _ s06
theorem Eo (n:Int×Str):∀{ks:List (Int×Str)} {vs:List V},vs.length=ks.length->(fi ((ks.map kN).zip vs) (kN n)).isSome=decide (n∈ks)
 | [],_,_=>by simp[fi]
 | k::ks,[],h=>by simp at h
 | k::ks,v::vs,h=>by
  have ih:=Eo n (ks:=ks) (vs:=vs) (by simpa using h);rw[zh,List.zip_cons_cons];unfold fi at ih ⊢;rw[List.find?_cons]
  by_cases e:k=n
  ·subst e
   simp
  ·have e1:¬kN k=kN n:=fun z=>e (by
    unfold kN at z;simp at z;exact Prod.ext z.1 z.2)
   have e2:¬n=k:=fun z=>e z.symm;simp only[e1,decide_false] at ih ⊢;rw[ih];simp[e2]
theorem oG {α:Type} {d:α->Dt} {H:Hp}:∀{ls:List (List α)} {as:List Addr},cg H d ls as->as.length=ls.length
 | [],_,h=>by unfold cg at h;rw[h];rfl
 | l::r,_,⟨a,t,vs,e,_,_,h3⟩=>by rw[e,zt,zt,oG h3]
theorem Nw {x y:Int×Int}:decide ([V.int x.1,V.int x.2]=[V.int y.1,V.int y.2])=decide (x=y):=by
 by_cases h:x=y
 ·subst h;simp
 ·rw[zd h,zd]
  intro z;simp at z;exact h (Prod.ext z.1 z.2)
def nc (C:Addr):Sp:=fq C fun H v S f=>∃x:Int×Str×List Item,Ja H v x/\0<=x.1/\x.2.2.length<=500/\(∀it∈x.2.2,MT it.2)/\(∀b∈S.aP,Jd b)/\f=fault S (.aJ x.1 x.2.1 x.2.2)
theorem fU:aD ["score","told","bar","player","items"] ["score","told"] (ao pH):=dJ
theorem yC (T:Txt K mg) {C:Addr} (F:Cf K C):dm P w base 5 T.jT (nc C):=by
 refine T.jT.F.dH fU fun _ _ _ _ H vs Q E hr h=>?_
 ·obtain⟨a,S,o,v,f,rfl,sc,⟨⟨b,pn,its⟩,⟨a1,q,us,rfl,h1,hq,ilq⟩,b0,il5,iok,bok,rfl⟩,kk⟩:=h
  have sl:=yB;obtain⟨ub,jm,ho,hub,hjm⟩:=sc.obj;have nl:(o.ns.map V.ref).length=(S.aJ.map (·.1)).length:=by rw[za,za,oG sc.no.2,za]
  have em:(S.aJ.map fun x=>kN x.1)=(S.aJ.map (·.1)).map kN:=by rw[zA];rfl
  unfold fault at kk;dsimp only at kk h1 b0 il5 iok ilq;refine⟨_,(ag (bW 2 fU.nd (ax aA (pv 1) ae (fun _ _=>rfl)))
   (ag (bW 3 fU.nd (ax aA (pv 1) ae (fun _ _=>rfl)))
   (ag (bW 4 fU.nd (ax aA (pv 1) ae (fun _ _=>rfl)))
   (ag (aI (bA (G1 (mK hr) (bK (ah (pv 2) (ah (pv 3) af))) (bI (pv 0) rfl)))
   (aj (aq aM))
   aB)
   (ag (aI (ay d4 (pv 3) (bI (pv 0) rfl) (by with_unfolding_all rfl))
   (aj (aq aM))
   aB)
   (ag (aI (fG (cW (bR (jS T F) hr T.kM (ah (pv 0) (ah (bD (ah (pv 2) af)) af)))))
   (aj (aq aM))
   aB)
   (ag (aI (ay (CU hr.units) (bR (vO T) hr T.lL (ah (pv 4) af)) (bR (xX T F) hr T.mX (ah (pv 0) (ah (pv 2) af))) (aE _))
   (aj (aq aM))
   aB)
   (ag (aI (ay fu (eX aC T.bB (ah (pv 4) af)) (bU (v:=.int (40)) (by rfl) T.DJ ⟨_,rfl⟩) (aE _))
   (aj (aq aM))
   aB)
   (aj (aq aU)))))))))),?_⟩
  ac_rfl;left;exists du,?_;right;rename_i p2 H2 s2 h2;have h12:=s2 _ _ h1;left;exists a,C,o.dx,_,_,rfl,s2 _ _ ho,F.cls,F.aJ,rfl,?_;refine⟨o.no,_,rfl,.inr ⟨_,kN (b,pn),p2,.inl (s2 _ _ sc.no.1),rfl,h2,rfl⟩,?_⟩;rw[em,Eo (b,pn) nl];left
  by_cases c1:(b,pn)∈S.aJ.map (·.1)
  ·rw[ze c1]
   rw[if_pos c1] at kk;left;exact kk _ s2
  ·rw[zd c1]
   rw[if_neg c1] at kk;left;exists a,C,o.dx,_,_,rfl,s2 _ _ ho,F.cls,F.players,rfl,?_;refine⟨o.pl,_,rfl,.inl (aL.of (s2 _ _ sc.pl)),rfl,gz _,?_⟩;show∃k,V.bl (!Eg (.str pn) (S.players.map V.str))=.bl k/\_;rw[jq]
   by_cases c2:pn∈S.players
   ·rw[ze c2]
    rw[if_neg (fun z=>z c2)] at kk;left;exists by show 1<=sizeLine;omega,?_
    right;rename_i p3 H3 s3 h3;exists a,p3,S,o,[b],rfl,sc.mono (s2.trans s3),aL.of h3,(by show 1<=1000000;decide),fun H4 s4=>?_;have s04:=(s2.trans s3).trans s4;cases qb:S.has [b] with
    | false=>
     rw[qb] at kk;left;exact kk _ s04
    | true=>
     rw[qb,if_neg (by simp)] at kk;have hb:b<S.aP.length:=by
      unfold cJ.has at qb
      simpa using qb
     obtain⟨n,rfl⟩:=Int.eq_ofNat_of_zero_le b0;left;exists q,us,its,rfl,aL.of (s04 _ _ hq),ilq.mono s04,il5,iok,fun r5 H5 s5 h5=>?_;left;exists a,S,o,n,rfl,sc.mono (s04.trans s5),nofun,bok,fun r6 H6 s6 h6=>?_;have s06:=(s04.trans s5).trans s6;refine⟨r5,r6,_,_,rfl,rfl,.inr ⟨dB.of (s6 _ _ h5),dB.of h6⟩,.inr (.inr ⟨rfl,rfl⟩),?_⟩;rw[Nw]
     by_cases c3:j7 its=S.len n
     ·rw[ze c3]
      rw[if_neg (fun z=>z c3)] at kk;left;exists q,us,rfl,.inl (aL.of (s06 _ _ hq)),?_;rw[aS ilq];left
      by_cases c4:40<its.length
      ·refine cj (ze nofun) ?_
       rw[if_pos c4] at kk;left;exact kk _ s06
      ·refine cw (zd nofun) ?_
       rw[if_neg c4] at kk;left;exact kk _ s06
     ·rw[zd c3]
      rw[if_pos (show j7 its≠S.len ((n:Int)).toNat from c3)] at kk;left;exact kk _ s06
   ·rw[zd c2]
    rw[if_pos c2] at kk;left;exact kk _ s2
theorem both {c:Bool} {T:(Bool->Hp->Prop)->Prop} {Z:Bool->Hp->Prop} {H:Hp} (v:Bool) (h1:c=true->∀Z,Z v H->T Z) (h2:c=false->v=false) (hz:Z v H):if c=true then T Z else Z false H:=by
 cases c with
 | true=>rw[if_pos rfl];exact h1 rfl Z hz
 | false=>rw[if_neg (by simp)];rw[<-h2 rfl];exact hz
theorem uf {H:Hp} {α:Type} {d:α->Dt} (p:Str):∀{hs:List (Str×List α)} {as:List Addr},cg H d (hs.map (·.2)) as->
  (hs.lookup p=none/\fi ((hs.map fun x=>kS x.1).zip (as.map V.ref)) (kS p)=none)\/∃l h vs,hs.lookup p=some l/\fi ((hs.map fun x=>kS x.1).zip (as.map V.ref)) (kS p)=some (.ref h)/\H h=some (.lst vs)/\L2.IsL H (l.map d) vs
 | [],_,h=>.inl ⟨rfl,by simp[fi]⟩
 | (x,l)::r,as,h=>by
  rw[zh] at h;unfold cg at h;obtain⟨a,t,vs,rfl,h1,h2,h3⟩:=h;rw[zh,zh,List.zip_cons_cons]
  by_cases e:x=p
  ·subst e
   refine .inr ⟨l,a,vs,by rw[yp,beq_self_eq_true],?_,h1,h2⟩;unfold fi;rw[List.find?_cons];simp
  ·have e1:¬kS x=kS p:=fun z=>e (Sum.inr.inj z)
   have e2:(p == x)=false:=by simp;exact fun z=>e z.symm
   have ih:=uf p h3;unfold fi at ih ⊢;rw[List.find?_cons,yp,e2];simp only[e1,decide_false];exact ih
theorem Ou {H:Hp} {x:Int×Str} {v:V} (h:Is H (HG x) v):∃a,v=.ref a/\H a=some (.tup [.int x.1,.str x.2]):=by
 unfold HG Is at h;obtain⟨a,vs,rfl,ha,hl⟩:=h;unfold L2.IsL at hl;obtain⟨v1,r1,rfl,h1,hl⟩:=hl;unfold L2.IsL at hl;obtain⟨v2,r2,rfl,h2,hl⟩:=hl;unfold L2.IsL at hl;subst hl;unfold Is at h1 h2;subst h1 h2;exact⟨a,rfl,ha⟩
theorem IK {H:Hp} {x:Str×Int×Str} {v:V} (h:Is H (vk x) v):∃a,v=.ref a/\H a=some (.tup [.str x.1,.int x.2.1,.str x.2.2]):=by
 unfold vk Is at h;obtain⟨a,vs,rfl,ha,hl⟩:=h;unfold L2.IsL at hl;obtain⟨v1,r1,rfl,h1,hl⟩:=hl;unfold L2.IsL at hl;obtain⟨v2,r2,rfl,h2,hl⟩:=hl;unfold L2.IsL at hl;obtain⟨v3,r3,rfl,h3,hl⟩:=hl;unfold L2.IsL at hl;subst hl;unfold Is at h1 h2 h3;subst h1 h2 h3;exact⟨a,rfl,ha⟩
def o7 (C:Addr):Sp:=fq C fun H v S f=>∃x:Str×Int×Str,Is H (vk x) v/\f=fault S (.holds x.1 x.2.1 x.2.2)
theorem kb:aD ["score","told","bar","holds"] ["score","told"] (ao rF):=dJ
theorem A5 (T:Txt K mg) {C:Addr} (F:Cf K C):dm P w base 3 T.lN (o7 C):=by
 refine T.lN.F.dH kb fun _ _ _ _ H vs Q E hr h=>?_
 ·obtain⟨a,S,o,v,f,rfl,sc,⟨⟨pn,b,iN⟩,hd,rfl⟩,kk⟩:=h
  obtain⟨a1,rfl,h1⟩:=IK hd;have sl:=yB;obtain⟨ub,jm,ho,hub,hjm⟩:=sc.obj;unfold fault at kk;dsimp only at kk h1;refine⟨_,(ag (bW 2 kb.nd (ax aA (pv 1) ae (fun _ _=>rfl)))
   (ag (bW 3 kb.nd (E3 (mK hr) (bI (pv 0) rfl) (ax aA (pv 1) ae (fun _ _=>rfl)) (bD af) ⟨rfl,rfl,rfl,rfl⟩))
   (ag (aI (PW.pt (cV (ay fu (eX aC T.bB (ah (pv 3) af)) ae (aE _)) (cK (ay gn (pv 2) (ax aA (ax aN (pv 3) (rT kY ae) (fun _ _=>rfl)) ae (fun _ _=>rfl)) (aE _)))))
   (aj (aq aM))
   aB)
   (ag (aI (PW.pt (eJ (ay d4 (ax aA (pv 1) ae (fun _ _=>rfl)) (bI (pv 0) rfl) (by with_unfolding_all rfl)) (dw (bA (BN (mK hr) (ax aA (pv 1) ae (fun _ _=>rfl)) (bI (pv 0) rfl))))))
   (aj (aq aM))
   aB)
   (ag (aI (fG (cW (bR (jS T F) hr T.kM (ah (pv 0) (ah (bD (ah (pv 2) af)) af)))))
   (aj (aq aM))
   aB)
   (ag (aI (ay BR (eX aC T.bB (ah (pv 3) af)) (bU (v:=.int (20)) (by rfl) T.DK ⟨_,rfl⟩) (aE _))
   (aj (aq aM))
   aB)
   (aj (aq aU)))))))),?_⟩
  ac_rfl;left;exists a,C,o.dx,_,_,rfl,ho,F.cls,F.holds,rfl,?_;refine⟨o.ho,rfl,.inl ⟨_,.inl sc.ho.1⟩,?_⟩;left;exists by show 0<=sizeLine;omega,?_
  right;rename_i p2 H2 s2 h2;have h12:=s2 _ _ h1;refine⟨_,.inl ⟨_,kS pn,.inl (s2 _ _ sc.ho.1),rfl,rfl⟩,?_⟩;obtain⟨h,vs,l,eh,hh,ilh,el⟩:∃h vs l,(fi ((S.holds.map fun x=>kS x.1).zip (o.hs.map V.ref)) (kS pn)).getD (.ref p2)=.ref h/\H2 h=some (.lst vs)/\L2.IsL H2 (l.map HG) vs/\(S.holds.lookup pn).getD []=l:=by
   rcases uf (H:=H) pn sc.ho.2 with⟨e1,e2⟩ | ⟨l,h,vs,e1,e2,hh,il⟩
   ·exact⟨p2,[],[],by rw[e2];rfl,h2,by unfold L2.IsL;rfl,by rw[e1];rfl⟩
   ·exact⟨h,vs,l,by rw[e2];rfl,s2 _ _ hh,il.mono s2,by rw[e1];rfl⟩
  rw[el] at kk;rw[eh];left;exists h,vs,rfl,.inl (aL.of hh),?_;rw[aS ilh];left;obtain⟨c1,ec,kk⟩:∃c1:Bool,c1=(match l.getLast? with | some q=>decide (b<=q.1) | none=>false)/\∀H',au H H'->Q (Sc.os (if c1=true then some "twice" else if pn∉S.players then some "name" else if iN∉S.ak.map (·.1) then some "name" else if¬S.has [b]=true then some "bar" else if 20<=l.length then some "many" else none)) H':=by
   refine⟨_,rfl,?_⟩;cases q:l.getLast? with
   | none=>rw[q] at kk;exact kk
   | some x=>rw[q] at kk;exact kk
  refine both c1 ?_ ?_ ?_
  ·intro c Z hz
   have lp:0<l.length:=by have:=yd c;omega
   have vl:=aS ilh;obtain⟨x,hx,ix⟩:=dz ilh (i:=vs.length-1) (zb nofun);obtain⟨a3,ea,h3⟩:=Ou ix;have eg:l.getLast?=some x:=by rw[List.getLast?_eq_getElem?,<-vl];exact hx
   rw[ec,eg] at hz;left;refine⟨h,vs,-1,_,rfl,rfl,aL.of hh,IZ (zb nofun),?_⟩;rw[ea];left;exact hz
  ·intro c
   have:l=[]:=yr.mp (by have:=of_decide_eq_false c;omega);rw[ec,this];rfl
  ·clear ec
   cases c1 with
   | true=>
    left;exact kk _ s2
   | false=>
    rw[if_neg (by simp)] at kk;left;exists a,C,o.dx,_,_,rfl,s2 _ _ ho,F.cls,F.players,rfl,?_;refine⟨o.pl,_,rfl,.inl (aL.of (s2 _ _ sc.pl)),rfl,gz _,?_⟩;show∃k,V.bl (!Eg (.str pn) (S.players.map V.str))=.bl k/\_;rw[jq]
    by_cases c2:pn∈S.players
    ·rw[ze c2]
     rw[if_neg (fun z=>z c2)] at kk;obtain⟨us,hu,ilu⟩:=sc.ins;have em:(S.ak.map fun x=>kS x.1)=(S.ak.map (·.1)).map kS:=by rw[zA];rfl
     left;exists a,C,o.dx,_,_,rfl,s2 _ _ ho,F.cls,F.ak,rfl,?_;refine⟨o.ins,_,rfl,.inl ⟨_,kS iN,.inl (s2 _ _ hu),rfl,rfl⟩,?_⟩;rw[em,qS iN (by rw[za];exact aS ilu)]
     by_cases c3:iN∈S.ak.map (·.1)
     ·rw[ze c3]
      rw[if_neg (fun z=>z c3)] at kk;left;exists by show 1<=sizeLine;omega,?_
      right;rename_i p3 H3 s3 h3;exists a,p3,S,o,[b],rfl,sc.mono (s2.trans s3),aL.of h3,(by show 1<=1000000;decide),fun H4 s4=>?_;have s04:=(s2.trans s3).trans s4;cases qb:S.has [b] with
      | false=>
       rw[qb] at kk;left;exact kk _ s04
      | true=>
       rw[qb,if_neg (by simp)] at kk;left;exists h,vs,rfl,.inl (aL.of ((s3.trans s4) _ _ hh)),?_;rw[aS ilh];left
       by_cases c4:20<=l.length
       ·refine cj (ze nofun) ?_
        rw[if_pos c4] at kk;left;exact kk _ s04
       ·refine cw (zd nofun) ?_
        rw[if_neg c4] at kk;left;exact kk _ s04
     ·rw[zd c3]
      rw[if_pos c3] at kk;left;exact kk _ s2
    ·rw[zd c2]
     rw[if_pos c2] at kk;left;exact kk _ s2
theorem EA {H:Hp} {x:Str×List Str} {v:V} (h:Is H (gB x) v):∃a q,v=.ref a/\H a=some (.tup [.str x.1,.ref q])/\H q=some (.tup (x.2.map V.str)):=by
 unfold gB Is at h;obtain⟨a,vs,rfl,ha,hl⟩:=h;unfold L2.IsL at hl;obtain⟨v1,r1,rfl,h1,hl⟩:=hl;unfold L2.IsL at hl;obtain⟨v2,r2,rfl,h2,hl⟩:=hl;unfold L2.IsL at hl;subst hl;unfold Is at h1;subst h1;unfold mO Is at h2;obtain⟨q,us,rfl,hq,hl⟩:=h2;rw[dR hl] at hq;exact⟨a,q,rfl,ha,hq⟩
theorem Pg {H:Hp} {x:Str×List Str} {v:V} (h:Is H (NW x) v):∃q,v=.ref q/\H q=some (.tup (x.2.map V.str)):=by
 unfold NW mO Is at h;obtain⟨q,us,rfl,hq,hl⟩:=h;rw[dR hl] at hq;exact⟨q,rfl,hq⟩
def EC (C:Addr):Sp:=fun vs H Q _=>∃(a:Addr) (S:cJ) (o:Ow) (v ub jm:V) (x:Str×List Str) (ob:Obj) (us:List V),vs=[.ref a,v]/\H a=some (.ins C o.dx (MO o ub jm))/\H o.pl=some (.lst (S.players.map V.str))/\Ie H o.st ob ((S.aK.map fun x=>kS x.1).zip us)/\L2.IsL H (S.aK.map NW) us/\Is H (gB x) v/\x.2.length<=1000/\∀H',au H H'->Q (os (fault S (.cm x.1 x.2))) H'
theorem Gz {α β:Type}:∀{l:List α} {m:List β} {i:Nat} {p:α×β},(l.zip m)[i]?=some p->l[i]?=some p.1/\m[i]?=some p.2
 | [],_,_,_,h=>by simp at h
 | _::_,[],_,_,h=>by simp at h
 | _::_,_::_,0,_,h=>by simp at h;subst h;exact⟨rfl,rfl⟩
 | _::l,_::m,i+1,_,h=>by
  rw[List.zip_cons_cons] at h
  simpa using Gz (l:=l) (m:=m) (i:=i) (by simpa using h)
theorem MD {α:Type} {p:α->Bool} {l:List α} {i:Nat} {x:α} (h:l[i]?=some x) (hn:(l.take i).any p=false) (hx:p x=false):(l.take (i+1)).any p=false:=by
 rw[cU h,List.any_append,hn];simp[hx]
theorem ME {α:Type} {p:α->Bool} {l:List α} {i:Nat} {x:α} (h:l[i]?=some x) (hx:p x=true):l.any p=true:=yn.mpr ⟨x,zB h,hx⟩
theorem iZ:aD ["score","told","players","others"] ["score","told"] (ao pk):=dJ
theorem E9 (T:Txt K mg) {C:Addr} (F:Cf K C):dm P w base 1 T.gR (EC C):=by
 refine T.gR.F.dH iZ fun _ _ _ _ H vs Q E hr h=>?_
 ·obtain⟨a,S,o,v,ub,jm,x,ob,us,rfl,ho,hpl,fz,ilu,iv,x5,kk⟩:=h
  obtain⟨a1,q,rfl,h1,hq⟩:=EA iv;have sl:=yB;have ul:=aS ilu;have em:(S.aK.map fun x=>kS x.1)=(S.aK.map (·.1)).map kS:=by rw[zA];rfl
  unfold fault at kk;dsimp only at kk;refine⟨_,(ag (bW 2 iZ.nd (ax aA (pv 1) ae (fun _ _=>rfl)))
   (ag (aI (PW.pt (eJ (bA (G1 (mK hr) (ax aA (pv 1) ae (fun _ _=>rfl)) (bI (pv 0) rfl))) (dw (ay fg (eX Kd T.bB (ah (mV (Kb rfl) T.QM (ah (pv 2) af)) af)) (eX aC T.bB (ah (pv 2) af)) (aE _)))))
   (aj (aq aM))
   aB)
   (ag (cE PassesOwn.never rfl (JF (bI (pv 0) rfl)) (dj 3 iZ.nd)
   (aj (aI (cW (eX (gE rfl) T.yD (ah (pK (ts:=["player"]) (ys:=["others"]) (js:=[3]) (g:=(bc 0)) (tc:=dt) (te:=(fQ (Qg K false) (bj 0) (bj 1))) (ke (pv 2)) (fun _ _ _ _=>(dj 0 (show List.Nodup [("player": Str),("others": Str)] by decide +kernel))) (fun _ _ _ _=>bx) (fun _ _ _ _=>(dZ oC (pv 0) (pv 1) (by with_unfolding_all rfl)))) af)))
    (aj (aq aM))
    aB)))
   (ag (aI (cW (eX (gE rfl) T.yD (ah (pK (ts:=["player"]) (ys:=["score"]) (js:=[0]) (g:=(bc 0)) (tc:=dt) (te:=(fQ (Qg K true) (bj 0) (M0 K (bj 1) "players"))) (ke (pv 2)) (fun _ _ _ _=>(dj 0 (show List.Nodup [("player": Str),("score": Str)] by decide +kernel))) (fun _ _ _ _=>bx) (fun _ _ _ _=>(dZ d4 (pv 0) (bI (pv 1) rfl) (by with_unfolding_all rfl)))) af)))
   (aj (aq aM))
   aB)
   (aj (aq aU)))))),?_⟩
  ac_rfl;left;exists a,C,o.dx,_,_,rfl,ho,F.cls,F.aK,rfl,?_;refine⟨o.st,_,rfl,.inl ⟨_,kS x.1,.inr ⟨_,fz⟩,rfl,rfl⟩,?_⟩;rw[em,qS x.1 (by rw[za];exact ul)]
  by_cases c1:x.1∈S.aK.map (·.1)
  ·rw[ze c1]
   rw[if_pos c1] at kk;left;exact kk _ (au.refl _)
  ·rw[zd c1]
   rw[if_neg c1] at kk;left;exists q,x.2,rfl,dB.of hq,x5,fun p2 n2=>?_;have s2:au H (upd H p2 (Gs p2 (gA x.2).length)):=aZ n2;have h2:upd H p2 (Gs p2 (gA x.2).length) p2=some (Gs p2 (gA x.2).length):=aF;generalize upd H p2 (Gs p2 (gA x.2).length)=H2 at s2 h2 ⊢;obtain⟨d1,d2⟩:=FR x.2;refine⟨p2,_,rfl,h2,nofun,?_⟩;left;exists q,_,rfl,.inr (dB.of (s2 _ _ hq)),?_;rw[za];left
   by_cases c2:x.2.Nodup
   ·refine cw (zd (by have:=d2.mpr c2;omega)) ?_
    rw[if_neg (fun z=>z c2)] at kk;left;exists a,C,o.dx,_,_,rfl,s2 _ _ ho,F.cls,F.aK,rfl,?_;refine⟨o.st,ob,_,rfl,s2 _ _ fz,?_⟩;refine Ho (fun i σ H'=>au H H'/\(S.aK.take i).any (fun q=>x.2.any fun p=>decide (p∈q.2))=false/\∃u,σ=[some (.ref a),some (.ref a1),some (.ref q),u]) ⟨s2,rfl,none,rfl⟩ (fun i σ H' _ h=>h.1 _ _ fz) ?_ ?_
    ·intro i p σ H3 hp hh
     refine dU fun N kN0 kR0 _ _=>?_;obtain⟨s3,hn,u,rfl⟩:=hh;obtain⟨_,hp2⟩:=Gz hp;obtain⟨st,hst,ist⟩:=dz ilu hp2;obtain⟨r,er,hr'⟩:=Pg ist;rw[er];left;exists⟨_,dB.of (s3 _ _ hq)⟩,?_;refine gC (enc:=V.str) (ws:=x.2) (fun z=>.bl (decide (z∈st.2))) (fun σ=>∃v,σ=[v,some (.ref r)]) nofun (s3 _ _ hq) ⟨none,rfl⟩ ?_ ?_
     ·rintro z σ H4 R hz s4 ⟨_,rfl⟩ rr
      left;exists r,_,rfl,.inr (dB.of ((s3.trans s4) _ _ hr')),rfl,gz _,?_;refine rr _ _ _ (au.refl _) ?_ ⟨_,rfl⟩;rw[if_neg (by simp),jq];unfold Is;rfl
     ·intro D vs H4 s4 hD il
      have e:x.2.map (fun z=>Dt.bl (decide (z∈st.2)))=(x.2.map fun z=>decide (z∈st.2)).map Dt.bl:=by rw[zA];rfl
      rw[e] at il;rw[kg il] at hD;exists D,_,rfl,aL.of hD,?_;have e2:(x.2.map fun z=>decide (z∈st.2)).any id=x.2.any fun p=>decide (p∈st.2):=by rw[List.any_map];rfl
      rw[e2];cases qc:x.2.any fun p=>decide (p∈st.2) with
      | true=>
       rw[if_pos (ME hst (p:=fun q:Str×List Str=>x.2.any fun p=>decide (p∈q.2)) qc)] at kk;left;exact kk _ (s3.trans s4)
      | false=>
       left;exact⟨s3.trans s4,MD hst hn qc,_,rfl⟩
    ·rintro σ H3 ⟨s3,hn,u,rfl⟩
     rw[List.length_zip,za,ul,Nat.min_self,zM] at hn;rw[hn,if_neg (by simp)] at kk;left;exists⟨_,dB.of (s3 _ _ hq)⟩,?_;refine gC (enc:=V.str) (ws:=x.2) (fun z=>.bl (!decide (z∈S.players))) (fun σ=>∃v,σ=[v,some (.ref a)]) nofun (s3 _ _ hq) ⟨none,rfl⟩ ?_ ?_
     ·rintro z σ H4 R hz s4 ⟨_,rfl⟩ rr
      left;exists a,C,o.dx,_,_,rfl,(s3.trans s4) _ _ ho,F.cls,F.players,rfl,?_;refine⟨o.pl,_,rfl,.inl (aL.of ((s3.trans s4) _ _ hpl)),rfl,gz _,?_⟩;refine rr _ _ _ (au.refl _) ?_ ⟨_,rfl⟩;show Is H4 _ (V.bl (!Eg (.str z) (S.players.map V.str)));rw[jq];unfold Is;rfl
     ·intro D vs H4 s4 hD il
      have e:x.2.map (fun z=>Dt.bl (!decide (z∈S.players)))=(x.2.map fun z=>!decide (z∈S.players)).map Dt.bl:=by rw[zA];rfl
      rw[e] at il;rw[kg il] at hD;exists D,_,rfl,aL.of hD,?_;have e2:(x.2.map fun z=>!decide (z∈S.players)).any id=x.2.any fun p=>!decide (p∈S.players):=by rw[List.any_map];rfl
      rw[e2];cases qc:x.2.any fun p=>!decide (p∈S.players) with
      | true=>
       rw[qc,if_pos rfl] at kk;left;exact kk _ (s3.trans s4)
      | false=>
       rw[qc,if_neg (by simp)] at kk;left;exact kk _ (s3.trans s4)
   ·refine cj (ze (by have:(gA x.2).length≠x.2.length:=fun z=>c2 (d2.mp z);omega)) ?_
    rw[if_pos c2] at kk;left;exact kk _ s2
def m9 (C:Addr):Sp:=fq C fun H v S f=>∃x,Is H (gB x) v/\x.2.length<=1000/\f=fault S (.cm x.1 x.2)
theorem Mh {H:Hp} {d:Addr} {o:Obj} {u:HO} (hd:H d=some u) (nt:cP (some u)) {l:List Dt} {vs:List V} (h:L2.IsL H l vs):L2.IsL (upd H d (.mW o u)) l vs:=IsL.upd (by rw[hd];exact nt) h
theorem EM {H H':Hp} {d:Addr} {o:Obj} {u:HO} (hd:H d=some u) (s:au (upd H d (.mW o u)) H'):au H (upd H' d u):=fun b z hb=>by
 by_cases e:b=d
 ·subst e;rw[aF,<-hd,hb]
 ·rw[aG e];exact s b z (by rw[aG e];exact hb)
theorem xY (T:Txt K mg) {C:Addr} (F:Cf K C):dm P w base 1 T.gR (m9 C):=by
 refine(E9 (P:=P) (w:=w) (base:=base) T F).Ob (fun vs H Q E h=>?_) (fun vs H Q E h=>?_)
 ·obtain⟨_,_,_,_,_,rfl,_⟩:=h;rfl
 ·obtain⟨a,S,o,v,f,rfl,sc,⟨x,iv,x5,rfl⟩,kk⟩:=h
  obtain⟨us,hu,ilu⟩:=sc.st;obtain⟨ub,jm,ho,hub,hjm⟩:=sc.obj;have nt:cP (some (HO.dK ((S.aK.map fun x=>kS x.1).zip us))):=fun vs z=>by cases z
  have na:a≠o.st:=fun z=>by rw[z,hu] at ho;cases ho
  have np:o.pl≠o.st:=fun z=>by have:=sc.pl;rw[z,hu] at this;cases this
  refine⟨o.st,_,hu,rfl,fun ob=>⟨a,S,o,v,ub,jm,x,ob,us,rfl,by rw[aG na];exact ho,by rw[aG np];exact sc.pl,aF,Mh hu nt ilu,Is.upd (by rw[hu];exact nt) iv,x5,fun H' s'=>kk _ (EM hu s')⟩⟩
def OD (S:cJ):Prop:=∀b∈S.aP,Jd b
def Cw (C:Addr):Sp:=fun vs H Q _=>∃(a:Addr) (S:cJ) (o:Ow) (v ub jm:V) (x:Int×Int) (ob:Obj) (us:List V),vs=[.ref a,v]/\H a=some (.ins C o.dx (MO o ub jm))/\Is H (dO dL S.aH) ub/\Rt C H a S o/\H o.no=some (.mW ob (.dT ((S.aJ.map fun x=>kN x.1).zip us)))/\us.length=S.aJ.length/\S.aJ.length<=1000000/\Is H (dL x) v/\AF 8999 x/\OD S/\∀H',au H H'->Q (os (fault S (.aH x))) H'
theorem LU {S:cJ} (h:OD S) (b:Nat) (hb:b<S.aP.length):AF 8999 (S.aT b):=by
 unfold cJ.aT;rw[zb hb];obtain⟨k1,k2,k3,k4⟩:=h _ (yk hb);obtain⟨g,g1,g2,g3,g4,g5⟩:=lB (t:=S.aP[b].aT.1) k3;have r0:=xM (t:=S.aP[b].aT.1) (b:=S.aP[b].aT.2) k1;have r1:=xN (t:=S.aP[b].aT.1) (b:=S.aP[b].aT.2) k1;dsimp only;exact⟨(dn (n:=10) r0 nofun).mono (by decide),(dn (n:=10) nofun nofun).mono (by decide)⟩
theorem vF:aD ["score","length"] ["score","length"] (ao nA):=dJ
theorem CW (T:Txt K mg) {C:Addr} (F:Cf K C):dm P w base 4 T.fP (Cw C):=by
 refine T.fP.F.dH vF fun _ _ _ _ H vs Q E hr h=>?_
 ·obtain⟨a,S,o,v,ub,jm,x,ob,us,rfl,ho,hub,sb,fz,ul,n6,iv,zx,bok,kk⟩:=h
  have sl:=yB;unfold fault at kk;dsimp only at kk;refine⟨_,(ag (aI (bA (fE (bI (pv 0) rfl)))
   (aj (aq aM))
   aB)
   (ag (aI (ay de (eX aC T.bB (ah (bI (pv 0) rfl) af)) ae (aE _))
   (aj (aq aM))
   aB)
   (ag (aI (fG (cW (bR (G3 T) hr T.CH (ah (pv 1) (ah (bR (mG T F) hr T.iH (ah (pv 0) (ah ae af))) af)))))
   (aj (aq aM))
   aB)
   (ag (aI (cW (eX (gE rfl) T.yD (ah (pK (ts:=["place"]) (ys:=[]) (js:=[]) (g:=(bc 0)) (tc:=dt) (te:=(fQ Sf (fQ (rP K) (bj 0) (tC (.int (0)))) (tC (.int (0))))) (Nm (bI (pv 0) rfl)) (fun _ _ _ _=>(dj 0 (show List.Nodup [("place": Str)] by decide +kernel))) (fun _ _ _ _=>bx) (fun _ _ _ _=>(dZ de (ax aA (pv 0) ae (fun _ _=>rfl)) ae (aE _)))) af)))
   (aj (aq aM))
   aB)
   (aj (aq aU)))))),?_⟩
  ac_rfl;left;exists a,C,o.dx,_,_,rfl,ho,F.cls,F.aH,rfl,?_;cases q:S.aH with
  | some u=>
   rw[q,if_pos (show(some u).isSome=true from rfl)] at kk;rw[q] at hub;cases fj (o:=some u) hub with
   | ref hu=>
    left;exact kk _ (au.refl _)
  | none=>
   rw[q,if_neg (by simp)] at kk;rw[q] at hub;unfold dO Is at hub;subst hub;obtain⟨vs,hv,il⟩:=sb.ba;cases fj (o:=some x) iv with
   | ref hx=>
   rename_i a1;left;exists a,C,o.dx,_,_,rfl,ho,F.cls,F.aP,rfl,?_;left;exists o.ba,vs,rfl,.inl (aL.of hv),?_;rw[aS il];left
   by_cases c1:S.aP.length=0
   ·refine cj (by rw[c1];rfl) ?_
    rw[if_pos c1] at kk;left;exact kk _ (au.refl _)
   ·refine cw (zd fun z=>c1 (by have:=V.int.inj z;omega)) ?_
    rw[if_neg c1] at kk;left;exists a,S,o,0,rfl,sb,nofun,bok,fun p H1 s1 h1=>?_;refine⟨_,_,_,_,rfl,s1 _ _ hx,h1,zx,LU bok 0 nofun,?_⟩
    by_cases c2:x.1*(S.aT 0).2<(S.aT 0).1*x.2
    ·rw[ze c2]
     rw[if_neg (fun z=>z c2)] at kk;left;exists a,C,o.dx,_,_,rfl,s1 _ _ ho,F.cls,F.aJ,rfl,?_;refine⟨o.no,ob,_,_,rfl,⟨_,s1 _ _ fz,.inr ⟨_,rfl,rfl,rfl⟩⟩,?_⟩;have kl:((S.aJ.map fun x=>kN x.1).zip us).length=S.aJ.length:=by rw[List.length_zip,za,ul,Nat.min_self]
     refine Ac (ws:=S.aJ) (fun p x H=>∃b,x=.ref b/\H b=some (.tup [.int p.1.1,.str p.1.2])) (fun p=>.bl (decide (p.1.1=0))) (fun σ=>∃v,σ=[v]) nofun ⟨none,rfl⟩ (fun i H2 hi s2=>⟨⟨_,s2 _ _ (s1 _ _ fz),.inr ⟨_,rfl,rfl,rfl⟩⟩,nofun⟩) (fun H2 s2=>⟨⟨_,s2 _ _ (s1 _ _ fz),.inr ⟨_,rfl,rfl,rfl⟩⟩,nofun⟩) ?_ ?_ ?_
     ·rintro i y H2 H3 hi s2 ⟨rfl,p,b,hp,hb,rfl⟩
      refine⟨au.refl _,b,rfl,?_⟩;obtain⟨z1,_⟩:=Gz hp;rw[zJ,zb hi] at z1;simp only[Option.map_some,Option.some.injEq] at z1;rw[<-z1] at hb;exact hb
     ·rintro p y σ H2 R hp s2 ⟨b,rfl,hb⟩ ⟨_,rfl⟩ r
      left;refine r _ _ _ (au.refl _) ?_ ⟨_,rfl⟩;rw[show decide (V.int p.1.1=V.int 0)=decide (p.1.1=0) from by by_cases h:p.1.1=0 <;> simp[h]];unfold Is;rfl
     ·intro D vs H4 s4 hD il
      have e:S.aJ.map (fun p=>Dt.bl (decide (p.1.1=0)))=(S.aJ.map fun p=>decide (p.1.1=0)).map Dt.bl:=by rw[zA];rfl
      rw[e] at il;rw[kg il] at hD;exists D,_,rfl,aL.of hD,?_;have e2:(S.aJ.map fun p=>decide (p.1.1=0)).any id=S.aJ.any fun p=>decide (p.1.1=0):=by rw[List.any_map];rfl
      rw[e2];cases qc:S.aJ.any fun p=>decide (p.1.1=0) with
      | true=>
       rw[qc,if_pos rfl] at kk;left;exact kk _ (s1.trans s4)
      | false=>
       rw[qc,if_neg (by simp)] at kk;left;exact kk _ (s1.trans s4)
    ·rw[zd c2]
     rw[if_pos c2] at kk;left;exact kk _ s1
def ma (C:Addr):Sp:=fq C fun H v S f=>∃x,Is H (dL x) v/\AF 8999 x/\OD S/\S.aJ.length<=1000000/\f=fault S (.aH x)
theorem vL (T:Txt K mg) {C:Addr} (F:Cf K C):dm P w base 4 T.fP (ma C):=by
 refine(CW (P:=P) (w:=w) (base:=base) T F).Ob (fun vs H Q E h=>?_) (fun vs H Q E h=>?_)
 ·obtain⟨_,_,_,_,_,rfl,_⟩:=h;rfl
 ·obtain⟨a,S,o,v,f,rfl,sc,⟨x,iv,zx,bok,n6,rfl⟩,kk⟩:=h
  obtain⟨hn,ln⟩:=sc.no;obtain⟨ub,jm,ho,hub,hjm⟩:=sc.obj;obtain⟨bs,hb,ilb⟩:=sc.ba;have nt:cP (some (HO.dT ((S.aJ.map fun x=>kN x.1).zip (o.ns.map V.ref)))):=fun vs z=>by cases z
  have na:a≠o.no:=fun z=>by rw[z,hn] at ho;cases ho
  have nb:o.ba≠o.no:=fun z=>by rw[z,hn] at hb;cases hb
  have ho':∀ob,upd H o.no (.mW ob (.dT ((S.aJ.map fun x=>kN x.1).zip (o.ns.map V.ref)))) a=some (.ins C o.dx (MO o ub jm)):=fun ob=>by rw[aG na];exact ho
  refine⟨o.no,_,hn,rfl,fun ob=>⟨a,S,o,v,ub,jm,x,ob,o.ns.map V.ref,rfl,ho' ob,Is.upd (by rw[hn];exact nt) hub,⟨⟨ub,jm,ho' ob⟩,bs,by rw[aG nb];exact hb,Mh hn nt ilb⟩,aF,by rw[za,oG ln,za],n6,Is.upd (by rw[hn];exact nt) iv,zx,bok,fun H' s'=>kk _ (EM hn s')⟩⟩
noncomputable def pV:Told->Str
 | .bG _=> "player"
 | .cI _ _ _=> "instrument"
 | .cm _ _=> "staff"
 | .bar _=> "bar"
 | .aH _=> "upbeat"
 | .holds _ _ _=> "holds"
 | .aJ _ _ _=> "notes"
 | .rep _=> "repeat"
 | .cb _=> "jump"
def P9 (S:cJ):Told->Prop
 | .cm _ ps=>ps.length<=1000
 | .aH l=>AF 8999 l/\OD S/\S.aJ.length<=1000000
 | .aJ b _ its=>0<=b/\its.length<=500/\(∀it∈its,MT it.2)/\OD S
 | .rep r=>GI r.ends<64/\r.ends.length<=1000/\-1000000<=r.times/\r.times<=1000000
 | .cb _=>DZ S
 | _=>True
inductive Ky (K:yA) {mg:Str->Option Value} (T:Txt K mg) (C:Addr):Addr->Sp->Prop where
 | bG:Ky K T C T.gi (mf C)
 | cI:Ky K T C T.d9 (iw C)
 | cm:Ky K T C T.gL (m9 C)
 | bar:Ky K T C T.j6 (qV C)
 | aH:Ky K T C T.gg (ma C)
 | holds:Ky K T C T.iS (o7 C)
 | aJ:Ky K T C T.gP (nc C)
 | rep:Ky K T C T.gh (md C)
 | cb:Ky K T C T.iR (o6 C)
noncomputable def Ov {K:yA} {mg:Str->Option Value} (T:Txt K mg):List (Str×V):=[("player",V.ref T.gi),("instrument",.ref T.d9),("staff",.ref T.gL),("bar",.ref T.j6),("upbeat",.ref T.gg),("holds",.ref T.iS),("notes",.ref T.gP),("repeat",.ref T.gh),("jump",.ref T.iR)]
theorem Mg (K:yA) {mg:Str->Option Value} (T:Txt K mg) (C:Addr) (t:Told):∃f D,sX (Ov T) (pV t)=some (.ref f)/\Ky K T C f (fq C D)/\∀H0 H v S,gG H0 H v (some t)->P9 S t->D H v S (fault S t):=by
 cases t with
 | bG n=>exact⟨_,_,rfl,.bG,fun H0 H v S h1 h2=>⟨n,h1,rfl⟩⟩
 | cI n t l=>exact⟨_,_,rfl,.cI,fun H0 H v S h1 h2=>⟨(n,t,l),h1,rfl⟩⟩
 | cm n ps=>exact⟨_,_,rfl,.cm,fun H0 H v S h1 h2=>⟨(n,ps),h1,h2,rfl⟩⟩
 | bar b=>exact⟨_,_,rfl,.bar,fun H0 H v S h1 h2=>⟨b,rfl⟩⟩
 | aH l=>exact⟨_,_,rfl,.aH,fun H0 H v S h1 h2=>⟨l,h1,h2.1,h2.2.1,h2.2.2,rfl⟩⟩
 | holds p b i=>exact⟨_,_,rfl,.holds,fun H0 H v S h1 h2=>⟨(p,b,i),h1,rfl⟩⟩
 | aJ b p its=>exact⟨_,_,rfl,.aJ,fun H0 H v S h1 h2=>⟨(b,p,its),iU.at h1,h2.1,h2.2.1,h2.2.2.1,h2.2.2.2,rfl⟩⟩
 | rep r=>exact⟨_,_,rfl,.rep,fun H0 H v S h1 h2=>⟨r,h1,h2.1,h2.2.1,h2.2.2.1,h2.2.2.2,rfl⟩⟩
 | cb j=>exact⟨_,_,rfl,.cb,fun H0 H v S h1 h2=>⟨j,h1,h2,rfl⟩⟩
theorem KS {H0 H:Hp} {v:V} {t:Told} (h:gG H0 H v (some t)):v≠.bE:=by
 have tp:∀l,Is H (.tup l) v->v≠.bE:=fun l z=>by
  unfold Is at z;obtain⟨a,vs,e,_⟩:=z;rw[e];simp
 cases t with
 | bG n=>have e:v=.str n:=h;rw[e];simp
 | cI n t l=>exact tp _ h
 | cm n ps=>exact tp _ h
 | bar b=>exact tp _ h
 | aH l=>exact tp _ h
 | holds p b i=>exact tp _ h
 | aJ b p its=>obtain⟨a,_,_,e,_⟩:=h;rw[e];simp
 | rep r=>exact tp _ h
 | cb j=>exact tp _ h
noncomputable def Mm (S:cJ):Option Told->Option Str
 | none=>some "row"
 | some t=>fault S t
def EG (C:Addr):Sp:=fun vs H Q _=>∃(a:Addr) (S:cJ) (o:Ow) (x:Str) (v:V) (H0:Hp) (t:Option Told),vs=[.ref a,.str x,v]/\bV C H a S o/\gG H0 H v t/\(∀t',t=some t'->x=pV t'/\P9 S t')/\∀H',au H H'->Q (os (Mm S t)) H'
theorem uL:aD ["score","sort","told","finder"] ["score","sort","told"] (ao qh):=dJ
theorem Ff (T:Txt K mg) (B:Dk P w K T) {C:Addr} (F:Cf K C):dm P w base 6 T.yP (EG C):=by
 refine T.yP.F.dH uL fun cdv A' outer s H vs Q E hr h=>?_
 ·obtain⟨a,S,o,x,v,H0,t,rfl,sc,tv,fit,kk⟩:=h
  have hTbV:∀f sp,Ky K T C f sp->Qd (kR Ii P w K mg base ["score","sort","told","finder"] "fault_of" (ao qh) T.As cdv A' outer s H E).IE Ii 5 f sp:=by
   intro f sp h;cases h with
   | bG=>exact⟨_,_,L2.dM.mono (vN T F) (by decide),T.iE.F.kp,T.iE.b⟩
   | cI=>exact⟨_,_,L2.dM.mono (oS T F) (by decide),T.fc.F.kp,T.fc.b⟩
   | cm=>exact⟨_,_,L2.dM.mono (xY T F) (by decide),T.gR.F.kp,T.gR.b⟩
   | bar=>exact⟨_,_,L2.dM.mono (C6 T F) (by decide),T.oM.F.kp,T.oM.b⟩
   | aH=>exact⟨_,_,L2.dM.mono (vL T F) (by decide),T.fP.F.kp,T.fP.b⟩
   | holds=>exact⟨_,_,L2.dM.mono (A5 T F) (by decide),T.lN.F.kp,T.lN.b⟩
   | aJ=>exact⟨_,_,L2.dM.mono (yC T F) (by decide),T.jT.F.kp,T.jT.b⟩
   | rep=>exact⟨_,_,L2.dM.mono (vM T F) (by decide),T.iD.F.kp,T.iD.b⟩
   | cb=>exact⟨_,_,L2.dM.mono (A4 T F) (by decide),T.lK.F.kp,T.lK.b⟩
  refine⟨_,(ag (aI (bA (cA (pv 2)))
   (aj (aq aM))
   aB)
   (ag (bW 3 uL.nd (E2 (bU (v:=.ref T.rO) (by rfl) T.My rfl) (pv 1) (fun _ _=>rfl)))
   (aj (aq (E5 (Ky K T C) hTbV (hr.mono (by decide)) (pv 3) IC (ah (pv 0) (ah (pv 2) af))))))),?_⟩
  ac_rfl;left;cases t with
  | none=>
   have e:v=.bE:=tv;subst e;left;exact kk _ (au.refl _)
  | some t=>
   obtain⟨ex,ft⟩:=fit t rfl;subst ex;obtain⟨f,D,ev,htb,hd⟩:=Mg K T C t;have ne:=KS tv;rw[zd ne];left;exists T.rO,Ov T,pV t,_,rfl,B.PV,rfl,ev,?_;left;exists f,_,rfl,htb,?_;left;exact⟨a,S,o,v,_,rfl,sc,hd H0 H v S tv ft,kk⟩
theorem Gg {hs:List (Str×List (Int×Str))} {p:Str} {h:Int×Str} (fr:p∉hs.map (·.1)):fe (hs++[(p,[])]) p h=fe hs p h:=by
 unfold fe;rw[if_neg fr,if_pos (by rw[zj];exact zH _ (zy.mpr rfl)),zj];have e:(hs.map fun q:Str×List (Int×Str)=>if q.1=p then(q.1,q.2++[h]) else q)=hs:=by
  conv=>rhs;rw[<-List.map_id hs]
  refine List.map_congr_left fun q hq=>?_;rw[if_neg (fun z=>fr (by rw[<-z];exact zO (f:=fun x:Str×List (Int×Str)=>x.1) hq))];rfl
 rw[e];simp
def qN (S:cJ):Prop:=(S.holds.map (·.1)).Nodup/\S.holds.length<=1000000/\∀q∈S.holds,q.2.length<=1000000
def EH (C:Addr):Sp:=fun vs H Q _=>∃(a:Addr) (S:cJ) (o:Ow) (v:V) (pn:Str) (b:Int) (i:Str),vs=[.ref a,v]/\bV C H a S o/\Is H (vk (pn,b,i)) v/\qN S/\
 ∀H' o',bV C H' a (bJ S (.holds pn b i)) o'->wC (own a o) H H'->(∀x∈own a o',x∈own a o\/H x=none)->Q .bE H'
theorem so {o:Ow} {a x:Addr} (h:x∈o.lists):x∈own a o:=by
 unfold Ow.lists at h;unfold own;rw[zF,zF] at h ⊢;rcases h with(h | h) | h
 ·refine .inl (.inl ?_)
  simp only[zC,zD,or_false] at h ⊢;rcases h with h | h | h <;> simp[h]
 ·exact .inl (.inr h)
 ·exact .inr h
theorem LN {C a x:Addr} {H:Hp} {S:cJ} {o:Ow} (h:bV C H a S o) (hx:x∈own a o):∃u,H x=some u:=by
 obtain⟨_,_,ha,_⟩:=h.obj;obtain⟨_,hi,_⟩:=h.ins;obtain⟨_,hs,_⟩:=h.st;obtain⟨_,hb,_⟩:=h.ba;obtain⟨_,hr,_⟩:=h.re;unfold own at hx;rw[zF,zF] at hx;rcases hx with(hx | hx) | hx
 ·simp only[zC,zD,or_false] at hx
  rcases hx with rfl | rfl | rfl | rfl | rfl | rfl | rfl | rfl
  ·exact⟨_,ha⟩
  ·exact⟨_,h.pl⟩
  ·exact⟨_,hi⟩
  ·exact⟨_,hs⟩
  ·exact⟨_,hb⟩
  ·exact⟨_,h.ho.1⟩
  ·exact⟨_,h.no.1⟩
  ·exact⟨_,hr⟩
 ·obtain⟨vs,e⟩:=cF h.ho.2 hx
  exact⟨_,e⟩
 ·obtain⟨vs,e⟩:=cF h.no.2 hx
  exact⟨_,e⟩
theorem CT {C a x:Addr} {H:Hp} {S:cJ} {o:Ow} (h:bV C H a S o) (hx:H x=none):x∉own a o:=fun z=>by
 obtain⟨u,e⟩:=LN h z;rw[hx] at e;cases e
theorem Ft {hs:List (Str×List (Int×Str))} {as:List Addr} {H:Hp} {x:Addr} {vs:List V} (hL:cg H HG (hs.map (·.2)) as) (hx:x∈as) (hH:H x=some (.lst vs)) (hb:∀q∈hs,q.2.length<=1000000):vs.length<=1000000:=by
 induction hs generalizing as with
 | nil=>unfold cg at hL;rw[hL] at hx;simp at hx
 | cons q r ih=>
  rw[zh] at hL;obtain⟨a,t,us,rfl,h1,h2,h3⟩:=hL;rcases zC.mp hx with rfl | hx
  ·rw[h1] at hH;cases hH
   have:=aS h2;have:=hb q zp;omega
  ·exact ih h3 hx fun q hq=>hb q (zm _ hq)
theorem EL:aD ["score","told"] ["score","told"] (ao xF):=dJ
theorem Fh (T:Txt K mg) {C:Addr} (F:Cf K C):dm P w base 1 T.Am (EH C):=by
 refine T.Am.F.dH EL fun _ _ _ _ H vs Q E hr h=>?_
 ·obtain⟨a,S,o,v,pn,b,i,rfl,sc,iv,⟨nk,hl,hb⟩,kk⟩:=h
  obtain⟨a1,rfl,h1⟩:=IK iv;have sl:=yB;obtain⟨ub,jm,ho,hub,hjm⟩:=sc.obj;have em:(S.holds.map fun x=>kS x.1)=(S.holds.map (·.1)).map kS:=by rw[zA];rfl
  have ll:(o.hs.map V.ref).length=(S.holds.map (·.1)).length:=by rw[za,za,oG sc.ho.2,za]
  dsimp only at h1;refine⟨_,(ag (aI (bA (BN (mK hr) (ax aA (pv 1) ae (fun _ _=>rfl)) (bI (pv 0) rfl)))
   (aj (wD (mK hr) (bI (pv 0) rfl) (ax aA (pv 1) ae (fun _ _=>rfl)) (bD af) rfl))
   aB)
   (aj (bT (cu PySem.F.plainAttrs_list PySem.F.slot_list_append PySem.F.type_list_append bM (Nr (mK hr) (bI (pv 0) rfl) (ax aA (pv 1) ae (fun _ _=>rfl)) (fun _ _=>rfl)) (ah (bK (ah (ax aA (pv 1) ae (fun _ _=>rfl)) (ah (ax aA (pv 1) ae (fun _ _=>rfl)) af))) af))))),?_⟩
  ac_rfl;left;exists a,C,o.dx,_,_,rfl,ho,F.cls,F.holds,rfl,?_;refine⟨o.ho,_,rfl,.inl ⟨_,kS pn,.inl sc.ho.1,rfl,rfl⟩,?_⟩;rw[em,qS pn ll]
  by_cases c1:pn∈S.holds.map (·.1)
  ·rw[ze c1]
   obtain⟨x,us,e1,e2,e3,e4⟩:=sc.oE nk c1;left;exists a,C,o.dx,_,_,rfl,ho,F.cls,F.holds,rfl,?_;left;exists o.ho,_,rfl,.inl ⟨_,kS pn,.inl sc.ho.1,rfl,e1.symm⟩,?_;refine⟨.inl ⟨rfl,us,aL.of e3⟩,?_⟩;left;exists du,?_;right;rename_i p2 H2 s2 h2;refine⟨x,us,_,rfl,rfl,s2 _ _ e3,?_,?_⟩
   ·have:=Ft sc.ho.2 e2 e3 hb
    omega
   ·obtain⟨x',us',f1,f2,f3,f4⟩:=(sc.mono s2).oE nk c1
    have ex:x=x':=by rw[f1] at e1;cases e1;rfl
    subst ex;have eu:us=us':=by have:=s2 _ _ e3;rw[f3] at this;cases this;rfl
    subst eu;left;exact kk _ o (f4 _ b i (cB h2 (aQ cR (aQ eT cG)))) ((wC.of s2).trans (wC.upd (so (by unfold Ow.lists;simp[e2])))) fun y hy=>.inl hy
  ·rw[zd c1]
   left;exists by show 0<=sizeLine;omega,?_
   intro p1 n1;have s1:au H (upd H p1 (.lst [])):=aZ n1;have g1:upd H p1 (.lst []) p1=some (.lst []):=aF;generalize upd H p1 (.lst [])=H1 at s1 g1 ⊢;have sc1:=sc.mono s1;have h11:=s1 _ _ h1;have nl:p1∉o.lists:=fun z=>CT sc n1 (so z);left;exists a,C,o.dx,_,_,rfl,s1 _ _ ho,F.cls,F.holds,rfl,?_;left;refine⟨o.ho,_,rfl,.inl ⟨_,kS pn,sc1.ho.1,rfl,?_,rfl⟩,?_⟩
   ·rw[List.length_zip,za];omega
   have sc2:=sc1.LQ g1 nl c1;have nt1:cP (H1 o.ho):=by rw[sc1.ho.1];exact fun _ z=>by cases z
   have h12:upd H1 o.ho (.dK (putK ((S.holds.map fun x=>kS x.1).zip (o.hs.map V.ref)) (kS pn) (.ref p1))) a1=some (.tup [V.str pn,V.int b,V.str i]):=by rw[aG (Sc.bo h11 sc1.ho.1 (by simp[kindOf]))];exact h11
   have el:wC (own a o) H (upd H1 o.ho (.dK (putK ((S.holds.map fun x=>kS x.1).zip (o.hs.map V.ref)) (kS pn) (.ref p1)))):=(wC.of s1).trans (wC.upd (by unfold own;simp));generalize upd H1 o.ho (.dK (putK ((S.holds.map fun x=>kS x.1).zip (o.hs.map V.ref)) (kS pn) (.ref p1)))=H3 at sc2 h12 el ⊢;obtain⟨ub2,jm2,ho2,_,_⟩:=sc2.obj;have nk2:(({S with holds:=S.holds++[(pn,[])]}:cJ).holds.map (·.1)).Nodup:=by
    show((S.holds++[(pn,[])]).map fun x:Str×List (Int×Str)=>x.1).Nodup;rw[zj,zR];exact⟨nk,by simp,fun x hx y hy e=>by simp at hy;subst hy;subst e;exact c1 hx⟩
   have c2:pn∈({S with holds:=S.holds++[(pn,[])]}:cJ).holds.map (·.1):=by
    show pn∈(S.holds++[(pn,[])]).map fun x:Str×List (Int×Str)=>x.1;rw[zj];exact zH _ (zy.mpr rfl)
   obtain⟨x,us,e1,e2,e3,e4⟩:=sc2.oE nk2 c2;have hb2:∀q∈S.holds++[((pn,[]):Str×List (Int×Str))],q.2.length<=1000000:=fun q hq=>by
    rcases zF.mp hq with z | z
    ·exact hb q z
    ·rw[zy.mp z];exact yf _
   left;exists a,C,_,_,_,rfl,ho2,F.cls,F.holds,rfl,?_;left;exists o.ho,_,rfl,.inl ⟨_,kS pn,.inl sc2.ho.1,rfl,e1.symm⟩,?_;refine⟨.inl ⟨rfl,us,aL.of e3⟩,?_⟩;left;exists du,?_;right;rename_i p2 H4 s4 h4;refine⟨x,us,_,rfl,rfl,s4 _ _ e3,?_,?_⟩
   ·have:=Ft sc2.ho.2 e2 e3 hb2
    omega
   ·obtain⟨x',us',f1,f2,f3,f4⟩:=(sc2.mono s4).oE nk2 c2
    have ex:x=x':=by rw[f1] at e1;cases e1;rfl
    subst ex;have eu:us=us':=by have:=s4 _ _ e3;rw[f3] at this;cases this;rfl
    subst eu;left;have ea:bJ {S with holds:=S.holds++[(pn,[])]} (.holds pn b i)=bJ S (.holds pn b i):=by
     show({S with holds:=fe (S.holds++[(pn,[])]) pn (b,i)}:cJ)={S with holds:=fe S.holds pn (b,i)};rw[Gg c1]
    have sf:=f4 _ b i (cB h4 (aQ cR (aQ eT cG)));rw[ea] at sf;have xin:x∈o.hs\/x=p1:=by
     have:x∈o.hs++[p1]:=e2;rw[zF,zy] at this;exact this
    refine kk _ _ sf (fun y u ny hy=>?_) fun y hy=>?_
    ·have hy4:=s4 _ _ (el y u ny hy)
     rw[aG]
     ·exact hy4
     ·intro z
      subst z;rcases xin with z | z
      ·exact ny (so (by unfold Ow.lists;simp[z]))
      ·subst z;rw[n1] at hy;cases hy
    ·have:y∈own a o\/y=p1:=by
      unfold own at hy ⊢;simp only[zF,zC,zD,or_false] at hy ⊢;rcases hy with(hy | hy | hy) | hy
      ·exact .inl (.inl (.inl hy))
      ·exact .inl (.inl (.inr hy))
      ·exact .inr hy
      ·exact .inl (.inr hy)
     rcases this with z | z
     ·exact .inl z
     ·subst z;exact .inr n1
def uF (S:cJ):Prop:=S.players.length<=1000000/\S.ak.length<=1000000/\S.aK.length<=1000000/\S.aP.length<=1000000/\S.aJ.length<=1000000/\S.repeats.length<=1000000
def GN (C:Addr):Sp:=fun vs H Q _=>∃(a:Addr) (S:cJ) (o:Ow) (v:V) (H0:Hp) (t:Told),vs=[.ref a,.str (pV t),v]/\bV C H0 a S o/\au H0 H/\gG H0 H v (some t)/\fault S t=none/\qN S/\uF S/\
 ∀H' o',bV C H' a (bJ S t) o'->wC (own a o) H H'->(∀x∈own a o',x∈own a o\/H0 x=none)->Q .bE H'
theorem Dh {c:Prop} [Decidable c] {x:Str} {y:Option Str} (h:(if c then some x else y)=none):¬c/\y=none:=by
 by_cases e:c
 ·rw[if_pos e] at h;cases h
 ·rw[if_neg e] at h;exact⟨e,h⟩
theorem vg {H:Hp}:∀l:List Str,L2.IsL H (l.map Dt.str) (l.map V.str)
 | []=>cG
 | x::r=>aQ eT (vg r)
theorem GU:aD ["score","sort","told"] ["score","sort","told"] (ao BI):=dJ
theorem G5 (T:Txt K mg) {C:Addr} (F:Cf K C):dm P w base 2 T.DQ (GN C):=by
 refine T.DQ.F.dH GU fun _ _ _ _ H vs Q E hr h=>?_
 ·obtain⟨a,S,o,v,H0,t,rfl,sc0,s0,tv,fn,bZ,⟨z1,z2,z3,z4,z5,z6⟩,kk⟩:=h
  have sl:=yB;have sc:=sc0.mono s0;obtain⟨ub,jm,ho,hub,hjm⟩:=sc.obj;have me:∀x∈own a o,x∈own a o\/H0 x=none:=fun x hx=>.inl hx;refine⟨_,(aj (aI (ay de (pv 1) aM (aE _))
   (aj (bT (cu PySem.F.plainAttrs_list PySem.F.slot_list_append PySem.F.type_list_append bM (bI (pv 0) rfl) (ah (pv 2) af))))
   (aj (aI (ay de (pv 1) aM (aE _))
    (aj (wD (mK hr) (bI (pv 0) rfl) (ax aA (pv 2) ae (fun _ _=>rfl)) (bK (ah (ax aA (pv 2) ae (fun _ _=>rfl)) (ah (ax aA (pv 2) ae (fun _ _=>rfl)) af))) rfl))
    (aj (aI (ay de (pv 1) aM (aE _))
     (aj (wD (mK hr) (bI (pv 0) rfl) (ax aA (pv 2) ae (fun _ _=>rfl)) (ax aA (pv 2) ae (fun _ _=>rfl)) rfl))
     (aj (aI (ay de (pv 1) aM (aE _))
      (aj (bT (cu PySem.F.plainAttrs_list PySem.F.slot_list_append PySem.F.type_list_append bM (bI (pv 0) rfl) (ah (pv 2) af))))
      (aj (aI (ay de (pv 1) aM (aE _))
       (aj (jh (pv 0) (pv 2) rfl))
       (aj (aI (ay de (pv 1) aM (aE _))
        (aj (bT (bR (Fh T F) hr T.Am (ah (pv 0) (ah (pv 2) af)))))
        (aj (aI (ay de (pv 1) aM (aE _))
         (aj (wD (mK hr) (bI (pv 0) rfl) (bK (ah (ax aA (pv 2) ae (fun _ _=>rfl)) (ah (ax aA (pv 2) ae (fun _ _=>rfl)) af))) (ax aA (pv 2) ae (fun _ _=>rfl)) rfl))
         (aj (aI (ay de (pv 1) aM (aE _))
          (aj (bT (cu PySem.F.plainAttrs_list PySem.F.slot_list_append PySem.F.type_list_append bM (bI (pv 0) rfl) (ah (pv 2) af))))
          (aj (jh (pv 0) (pv 2) rfl)))))))))))))))))),?_⟩
  ac_rfl;cases t with
  | bG n=>
   have e:v=.str n:=tv;subst e;left;exists a,C,o.dx,_,_,rfl,ho,F.cls,F.players,rfl,?_;refine⟨.inl ⟨rfl,_,aL.of sc.pl⟩,?_⟩;left;exists o.pl,_,_,rfl,rfl,sc.pl,by rw[za];omega,?_
   left;exact kk _ o (sc.HR n) (wC.upd (by unfold own;simp)) me
  | cI n t l=>
   obtain⟨a1,t1,l1,rfl,h1,it,il⟩:=Fw (x:=(n,t,l)) tv;have fr:=(Dh fn).1;left;exists du,?_;right;rename_i p2 H2 s2 h2;have sc2:=sc.mono s2;have h12:=s2 _ _ h1;obtain⟨vs,hv,ilv⟩:=sc2.ins;left;exists a,C,o.dx,_,_,rfl,s2 _ _ ho,F.cls,F.ak,rfl,?_;left;refine⟨o.ins,_,rfl,.inl ⟨_,kS n,hv,rfl,?_,rfl⟩,?_⟩
   ·rw[List.length_zip,za];omega
   exact kk _ o (sc2.Ki hv ilv (cB h2 (aQ (it.mono s2) (aQ (il.mono s2) cG))) fr) ((wC.of s2).trans (wC.upd (by unfold own;simp))) me
  | cm n ps=>
   obtain⟨a1,q,rfl,h1,hq⟩:=EA (x:=(n,ps)) tv;have fr:=(Dh fn).1;obtain⟨vs,hv,ilv⟩:=sc.st;left;exists a,C,o.dx,_,_,rfl,ho,F.cls,F.aK,rfl,?_;left;refine⟨o.st,_,rfl,.inl ⟨_,kS n,hv,rfl,?_,rfl⟩,?_⟩
   ·rw[List.length_zip,za];omega
   exact kk _ o (sc.Kg hv ilv (by unfold NW mO;exact cB hq (vg ps)) fr) (wC.upd (by unfold own;simp)) me
  | bar b=>
   obtain⟨vs,hv,ilv⟩:=sc.ba;have vl:=aS ilv;left;exists a,C,o.dx,_,_,rfl,ho,F.cls,F.aP,rfl,?_;refine⟨.inl ⟨rfl,_,aL.of hv⟩,?_⟩;left;exists o.ba,_,_,rfl,rfl,hv,nofun,?_;left;exact kk _ o (sc.N0 hv ilv tv) (wC.upd (by unfold own;simp)) me
  | aH l=>
   left;exists a,C,o.dx,_,rfl,ho,F.cls,F.aH,(by show 9<1000;decide),?_;exact kk _ o (sc.HQ ho hjm tv) (wC.upd (by unfold own;simp)) me
  | holds p b i=>
   left;exact⟨a,S,o,v,p,b,i,rfl,sc,tv,bZ,fun H' o' s' e' n'=>kk H' o' s' e' fun x hx=>(n' x hx).imp id fun z=>s0.back z⟩
  | aJ b p its=>
   obtain⟨a1,q,us,rfl,h1,hq,ilq,nq⟩:=tv;have fr:=(Dh fn).1;have nl:q∉o.lists:=fun z=>CT sc0 nq (so z);left;exists a,C,o.dx,_,_,rfl,ho,F.cls,F.aJ,rfl,?_;left;exists du,?_;right;rename_i p2 H2 s2 h2;have sc2:=sc.mono s2;refine⟨o.no,_,rfl,.inr ⟨_,kN (b,p),p2,sc2.no.1,rfl,h2,?_,rfl⟩,?_⟩
   ·rw[List.length_zip,za];omega
   refine kk _ _ (sc2.Kh (s2 _ _ hq) (ilq.mono s2) nl fr) ((wC.of s2).trans (wC.upd (by unfold own;simp))) fun x hx=>?_;have:x∈own a o\/x=q:=by
    unfold own at hx ⊢;simp only[zF,zC,zD,or_false] at hx ⊢;rcases hx with hx | hx | hx
    ·exact .inl (.inl hx)
    ·exact .inl (.inr hx)
    ·exact .inr hx
   rcases this with z | z
   ·exact .inl z
   ·subst z;exact .inr nq
  | rep r=>
   obtain⟨vs,hv,ilv⟩:=sc.re;have vl:=aS ilv;left;exists a,C,o.dx,_,_,rfl,ho,F.cls,F.repeats,rfl,?_;refine⟨.inl ⟨rfl,_,aL.of hv⟩,?_⟩;left;exists o.re,_,_,rfl,rfl,hv,nofun,?_;left;exact kk _ o (sc.NY hv ilv tv) (wC.upd (by unfold own;simp)) me
  | cb j=>
   left;exists a,C,o.dx,_,rfl,ho,F.cls,F.cb,(by show 9<1000;decide),?_;exact kk _ o (sc.MG ho hub tv) (wC.upd (by unfold own;simp)) me
theorem gx {H:Hp} {a C dx p:Addr} {fs fs':List (Str×V)} {u:HO} (ha:H a=some (.ins C dx fs)) (np:H p=none) :
  upd (upd H p u) a (.ins C dx fs') a=some (.ins C dx fs')/\upd (upd H p u) a (.ins C dx fs') p=some u/\∀b v,H b=some v->b≠a->upd (upd H p u) a (.ins C dx fs') b=some v:=by
 have na:p≠a:=fun z=>by rw[z,ha] at np;cases np
 refine⟨aF,by rw[aG na,aF],fun b v hb ne=>?_⟩;rw[aG ne,aG (fun z=>by rw[z,np] at hb;cases hb)];exact hb
theorem BZ {H:Hp} {a C dx:Addr} {fs':List (Str×V)}:upd H a (.ins C dx fs') a=some (.ins C dx fs')/\∀b v,H b=some v->b≠a->upd H a (.ins C dx fs') b=some v:=
 ⟨aF,fun b v hb ne=>by rw[aG ne];exact hb⟩
def AO (C:Addr):Sp:=fun vs H Q _=>∃(a dx:Addr),vs=[.ref a]/\H a=some (.ins C dx [])/\∀H' o,bV C H' a {} o->(∀b u,H b=some u->b≠a->H' b=some u)->(∀x∈own a o,x=a\/H x=none)->Q .bE H'
theorem AX:aD ["self"] ["self"] (ao rJ):=dJ
theorem A6 (T:Txt K mg) {C:Addr} (F:Cf K C):dM P w K mg base Ii 1 T.lU T.sN ["self"] (AO C):=by
 refine T.AA.F.dH AX fun _ _ _ _ H vs Q E hr h=>?_
 ·obtain⟨a,dx,rfl,ha,kk⟩:=h
  have sl:=yB;refine⟨_,ag (jh (pv 0) (bD af) rfl) (ag (jh (pv 0) xU rfl) (ag (jh (pv 0) xU rfl) (ag (jh (pv 0) (bD af) rfl) (ag (jh (pv 0) aU rfl) (ag (jh (pv 0) xU rfl) (ag (jh (pv 0) LL rfl) (ag (jh (pv 0) (bD af) rfl) (aj (jh (pv 0) aU rfl))))))))),?_⟩;refine⟨by show 0<=sizeLine;omega,fun p1 n1=>?_⟩;refine⟨_,rfl,a,C,dx,[],rfl,(by rw[aG (fun z=>by rw[<-z,ha] at n1;cases n1)];exact ha),F.cls,F.players,(by show 0<1000;decide),?_⟩;obtain⟨a1,q1,k1⟩:=gx (u:=.lst []) (fs':=aY "players" (.ref p1) []) ha n1;generalize upd (upd H p1 (.lst [])) a (.ins C dx (aY "players" (.ref p1) []))=H1 at a1 q1 k1 ⊢;refine fun p2 n2=>⟨_,rfl,a,C,dx,_,rfl,(by rw[aG (fun z=>by rw[<-z,a1] at n2;cases n2)];exact a1),F.cls,F.ak,(by show 1<1000;decide),?_⟩
  obtain⟨a2,q2,k2⟩:=gx (u:=.dK []) (fs':=(aY "instruments" (.ref p2) (aY "players" (.ref p1) []))) a1 n2;generalize upd (upd H1 p2 (.dK [])) a (.ins C dx (aY "instruments" (.ref p2) (aY "players" (.ref p1) [])))=H2 at a2 q2 k2 ⊢;refine fun p3 n3=>⟨_,rfl,a,C,dx,_,rfl,(by rw[aG (fun z=>by rw[<-z,a2] at n3;cases n3)];exact a2),F.cls,F.aK,(by show 2<1000;decide),?_⟩
  obtain⟨a3,q3,k3⟩:=gx (u:=.dK []) (fs':=(aY "staffs" (.ref p3) (aY "instruments" (.ref p2) (aY "players" (.ref p1) [])))) a2 n3;generalize upd (upd H2 p3 (.dK [])) a (.ins C dx (aY "staffs" (.ref p3) (aY "instruments" (.ref p2) (aY "players" (.ref p1) []))))=H3 at a3 q3 k3 ⊢;refine⟨by show 0<=sizeLine;omega,fun p4 n4=>⟨_,rfl,a,C,dx,_,rfl,(by rw[aG (fun z=>by rw[<-z,a3] at n4;cases n4)];exact a3),F.cls,F.aP,(by show 3<1000;decide),?_⟩⟩;obtain⟨a4,q4,k4⟩:=gx (u:=.lst []) (fs':=(aY "bars" (.ref p4) (aY "staffs" (.ref p3) (aY "instruments" (.ref p2) (aY "players" (.ref p1) []))))) a3 n4;generalize upd (upd H3 p4 (.lst [])) a (.ins C dx (aY "bars" (.ref p4) (aY "staffs" (.ref p3) (aY "instruments" (.ref p2) (aY "players" (.ref p1) [])))))=H4 at a4 q4 k4 ⊢;refine⟨_,rfl,a,C,dx,_,rfl,a4,F.cls,F.aH,(by show 4<1000;decide),?_⟩;obtain⟨a5,k5⟩:=BZ (H:=H4) (a:=a) (C:=C) (dx:=dx) (fs':=(aY "upbeat" .bE (aY "bars" (.ref p4) (aY "staffs" (.ref p3) (aY "instruments" (.ref p2) (aY "players" (.ref p1) []))))));generalize upd H4 a (.ins C dx (aY "upbeat" .bE (aY "bars" (.ref p4) (aY "staffs" (.ref p3) (aY "instruments" (.ref p2) (aY "players" (.ref p1) []))))))=H5 at a5 k5 ⊢;refine fun p6 n6=>⟨_,rfl,a,C,dx,_,rfl,(by rw[aG (fun z=>by rw[<-z,a5] at n6;cases n6)];exact a5),F.cls,F.holds,(by show 5<1000;decide),?_⟩
  obtain⟨a6,q6,k6⟩:=gx (u:=.dK []) (fs':=(aY "holds" (.ref p6) (aY "upbeat" .bE (aY "bars" (.ref p4) (aY "staffs" (.ref p3) (aY "instruments" (.ref p2) (aY "players" (.ref p1) []))))))) a5 n6;generalize upd (upd H5 p6 (.dK [])) a (.ins C dx (aY "holds" (.ref p6) (aY "upbeat" .bE (aY "bars" (.ref p4) (aY "staffs" (.ref p3) (aY "instruments" (.ref p2) (aY "players" (.ref p1) [])))))))=H6 at a6 q6 k6 ⊢;refine fun p7 n7=>⟨_,rfl,a,C,dx,_,rfl,(by rw[aG (fun z=>by rw[<-z,a6] at n7;cases n7)];exact a6),F.cls,F.aJ,(by show 6<1000;decide),?_⟩
  obtain⟨a7,q7,k7⟩:=gx (u:=.dT []) (fs':=(aY "notes" (.ref p7) (aY "holds" (.ref p6) (aY "upbeat" .bE (aY "bars" (.ref p4) (aY "staffs" (.ref p3) (aY "instruments" (.ref p2) (aY "players" (.ref p1) [])))))))) a6 n7;generalize upd (upd H6 p7 (.dT [])) a (.ins C dx (aY "notes" (.ref p7) (aY "holds" (.ref p6) (aY "upbeat" .bE (aY "bars" (.ref p4) (aY "staffs" (.ref p3) (aY "instruments" (.ref p2) (aY "players" (.ref p1) []))))))))=H7 at a7 q7 k7 ⊢;refine⟨by show 0<=sizeLine;omega,fun p8 n8=>⟨_,rfl,a,C,dx,_,rfl,(by rw[aG (fun z=>by rw[<-z,a7] at n8;cases n8)];exact a7),F.cls,F.repeats,(by show 7<1000;decide),?_⟩⟩;obtain⟨a8,q8,k8⟩:=gx (u:=.lst []) (fs':=(aY "repeats" (.ref p8) (aY "notes" (.ref p7) (aY "holds" (.ref p6) (aY "upbeat" .bE (aY "bars" (.ref p4) (aY "staffs" (.ref p3) (aY "instruments" (.ref p2) (aY "players" (.ref p1) []))))))))) a7 n8;generalize upd (upd H7 p8 (.lst [])) a (.ins C dx (aY "repeats" (.ref p8) (aY "notes" (.ref p7) (aY "holds" (.ref p6) (aY "upbeat" .bE (aY "bars" (.ref p4) (aY "staffs" (.ref p3) (aY "instruments" (.ref p2) (aY "players" (.ref p1) [])))))))))=H8 at a8 q8 k8 ⊢;refine⟨_,rfl,a,C,dx,_,rfl,a8,F.cls,F.cb,(by show 8<1000;decide),?_⟩;obtain⟨a9,k9⟩:=BZ (H:=H8) (a:=a) (C:=C) (dx:=dx) (fs':=(aY "jump" .bE (aY "repeats" (.ref p8) (aY "notes" (.ref p7) (aY "holds" (.ref p6) (aY "upbeat" .bE (aY "bars" (.ref p4) (aY "staffs" (.ref p3) (aY "instruments" (.ref p2) (aY "players" (.ref p1) []))))))))));generalize upd H8 a (.ins C dx (aY "jump" .bE (aY "repeats" (.ref p8) (aY "notes" (.ref p7) (aY "holds" (.ref p6) (aY "upbeat" .bE (aY "bars" (.ref p4) (aY "staffs" (.ref p3) (aY "instruments" (.ref p2) (aY "players" (.ref p1) []))))))))))=H9 at a9 k9 ⊢;have e1:p1≠a:=fun z=>by rw[z,ha] at n1;cases n1
  have g1:=k9 _ _ (k8 _ _ (k7 _ _ (k6 _ _ (k5 _ _ (k4 _ _ (k3 _ _ (k2 _ _ (q1) e1) e1) e1) e1) e1) e1) e1) e1;have e2:p2≠a:=fun z=>by rw[z,a1] at n2;cases n2
  have g2:=k9 _ _ (k8 _ _ (k7 _ _ (k6 _ _ (k5 _ _ (k4 _ _ (k3 _ _ (q2) e2) e2) e2) e2) e2) e2) e2;have e3:p3≠a:=fun z=>by rw[z,a2] at n3;cases n3
  have g3:=k9 _ _ (k8 _ _ (k7 _ _ (k6 _ _ (k5 _ _ (k4 _ _ (q3) e3) e3) e3) e3) e3) e3;have e4:p4≠a:=fun z=>by rw[z,a3] at n4;cases n4
  have g4:=k9 _ _ (k8 _ _ (k7 _ _ (k6 _ _ (k5 _ _ (q4) e4) e4) e4) e4) e4;have e6:p6≠a:=fun z=>by rw[z,a5] at n6;cases n6
  have g6:=k9 _ _ (k8 _ _ (k7 _ _ (q6) e6) e6) e6;have e7:p7≠a:=fun z=>by rw[z,a6] at n7;cases n7
  have g7:=k9 _ _ (k8 _ _ (q7) e7) e7;have e8:p8≠a:=fun z=>by rw[z,a7] at n8;cases n8
  have g8:=k9 _ _ (q8) e8;have kH:∀b v,H b=some v->b≠a->H9 b=some v:=fun b v hb ne=>k9 _ _ (k8 _ _ (k7 _ _ (k6 _ _ (k5 _ _ (k4 _ _ (k3 _ _ (k2 _ _ (k1 _ _ hb ne) ne) ne) ne) ne) ne) ne) ne) ne;have f1:H p1=none:=n1;have f2:H p2=none:=by
   cases q:H p2 with
   | none=>rfl
   | some v=>have z:=q;rw[show H1 p2=some v from k1 _ _ z e2] at n2;cases n2
  have f3:H p3=none:=by
   cases q:H p3 with
   | none=>rfl
   | some v=>have z:=q;rw[show H2 p3=some v from k2 _ _ (k1 _ _ z e3) e3] at n3;cases n3
  have f4:H p4=none:=by
   cases q:H p4 with
   | none=>rfl
   | some v=>have z:=q;rw[show H3 p4=some v from k3 _ _ (k2 _ _ (k1 _ _ z e4) e4) e4] at n4;cases n4
  have f6:H p6=none:=by
   cases q:H p6 with
   | none=>rfl
   | some v=>have z:=q;rw[show H5 p6=some v from k5 _ _ (k4 _ _ (k3 _ _ (k2 _ _ (k1 _ _ z e6) e6) e6) e6) e6] at n6;cases n6
  have f7:H p7=none:=by
   cases q:H p7 with
   | none=>rfl
   | some v=>have z:=q;rw[show H6 p7=some v from k6 _ _ (k5 _ _ (k4 _ _ (k3 _ _ (k2 _ _ (k1 _ _ z e7) e7) e7) e7) e7) e7] at n7;cases n7
  have f8:H p8=none:=by
   cases q:H p8 with
   | none=>rfl
   | some v=>have z:=q;rw[show H7 p8=some v from k7 _ _ (k6 _ _ (k5 _ _ (k4 _ _ (k3 _ _ (k2 _ _ (k1 _ _ z e8) e8) e8) e8) e8) e8) e8] at n8;cases n8
  have d14:p1≠p4:=fun z=>by have h:=k3 _ _ (k2 _ _ (q1) e1) e1;rw[z,n4] at h;cases h
  have d18:p1≠p8:=fun z=>by have h:=k7 _ _ (k6 _ _ (k5 _ _ (k4 _ _ (k3 _ _ (k2 _ _ (q1) e1) e1) e1) e1) e1) e1;rw[z,n8] at h;cases h
  have d48:p4≠p8:=fun z=>by have h:=k7 _ _ (k6 _ _ (k5 _ _ (q4) e4) e4) e4;rw[z,n8] at h;cases h
  have d23:p2≠p3:=fun z=>by have h:=q2;rw[z,n3] at h;cases h
  have d26:p2≠p6:=fun z=>by have h:=k5 _ _ (k4 _ _ (k3 _ _ (q2) e2) e2) e2;rw[z,n6] at h;cases h
  have d36:p3≠p6:=fun z=>by have h:=k5 _ _ (k4 _ _ (q3) e3) e3;rw[z,n6] at h;cases h
  refine kk H9 ⟨dx,p1,p2,p3,p4,p6,p7,p8,[],[]⟩ ⟨⟨.bE,.bE,a9,d7,d7⟩,g1,⟨[],g2,cG⟩,⟨[],g3,cG⟩,⟨[],g4,cG⟩,⟨g6,rfl⟩,⟨g7,rfl⟩,⟨[],g8,cG⟩,?_,?_⟩ kH fun x hx=>?_
  ·show [p1,p4,p8].Nodup
   simp[d14,d18,d48]
  ·show [p2,p3,p6].Nodup
   simp[d23,d26,d36]
  ·have hx':x∈[a,p1,p2,p3,p4,p6,p7,p8]:=by simpa[own] using hx
   simp only[zC,zD,or_false] at hx';rcases hx' with rfl | rfl | rfl | rfl | rfl | rfl | rfl | rfl
   ·exact .inl rfl
   ·exact .inr f1
   ·exact .inr f2
   ·exact .inr f3
   ·exact .inr f4
   ·exact .inr f6
   ·exact .inr f7
   ·exact .inr f8
inductive RT:List Str->List Told->Prop where
 | nil:RT [] []
 | blank {r:Str} {rs:List Str} {ts:List Told}:r.length<=1000000->words r=[]->RT rs ts->RT (r::rs) ts
 | row {r:Str} {t:Told} {rs:List Str} {ts:List Told}:r.length<=1000000->words r=wordsOf t->Oz t->(wordsOf t).length<=1000000->(∀y∈wordsOf t,y.length<=600)->RT rs ts->RT (r::rs) (t::ts)
def Runs:cJ->List Told->cJ->Prop
 | S,[],S'=>S=S'
 | S,t::r,S'=>fault S t=none/\P9 S t/\qN S/\uF S/\Runs (bJ S t) r S'
theorem Jt (t:Told):∃ws,wordsOf t=pV t::ws:=by cases t <;> exact⟨_,rfl⟩
def AJ (C:Addr):Sp:=fun vs H Q _=>∃(t:Str) (ts:List Told) (S:cJ),vs=[.str t]/\t.length+2<=sizeLine/\RT (Txt.split t "\n") ts/\Runs {} ts S/\∀a o H',bV C H' a S o->au H H'->(∀x∈own a o,H x=none)->Q (.ref a) H'
theorem Jo {H0 H H':Hp} {v:V} (s:au H H'):∀{t:Option Told},gG H0 H v t->gG H0 H' v t
 | none,h=>h
 | some (.bG _),h=>h
 | some (.cI _ _ _),h=>Is.mono s h
 | some (.cm _ _),h=>Is.mono s h
 | some (.bar _),h=>Is.mono s h
 | some (.aH _),h=>Is.mono s h
 | some (.holds _ _ _),h=>Is.mono s h
 | some (.aJ _ _ _),⟨a,q,vs,h1,h2,h3,h4,h5⟩=>⟨a,q,vs,h1,s _ _ h2,s _ _ h3,h4.mono s,h5⟩
 | some (.rep _),h=>Is.mono s h
 | some (.cb _),h=>Is.mono s h
theorem dI:aD ["text","score","place","row","words","told","word"] ["text"] (ao rm):=dJ
theorem A1 (T:Txt K mg) (B:Dk P w K T) (F:Cf K T.lR):dm P w base 8 T.qo (AJ T.lR):=by
 refine T.qo.F.dH dI fun _ _ _ _ H vs Q E hr h=>?_
 ·obtain⟨t,ts,S,rfl,tl,rt,run,kk⟩:=h
  have sl:=yB;refine⟨_,(ag (bW 1 dI.nd (LI T.N3 (A6 T F) (hr.mono (by decide)) rfl T.MX T.AA.b .nil IC))
   (ag (cE PassesOwn.never rfl (wF (by rfl) T.jU (ah (cu PySem.F.plainAttrs_str PySem.F.slot_str_split PySem.F.type_str_split jk (pv 0) (ah aM af)) af)) (dY (n:=2) rfl (aO (dj 2 dI.nd) (aO (dj 3 dI.nd) cX)))
   (ag (bW 4 dI.nd (bR (E8 T) hr T.words_of (ah (pv 3) af)))
    (aj (aI (ay fu (eX aC T.bB (ah (pv 4) af)) ae (aE _))
    (ag (bW 5 dI.nd (bR (Fb T B) hr T.xO (ah (pv 4) af)))
     (ag (bW 6 dI.nd (bR (Ff T B F) hr T.yP (ah (pv 1) (ah (ax aN (pv 4) ae (fun _ _=>rfl)) (ah (pv 5) af)))))
     (ag (aI (bA (fE (pv 6)))
     (aj xT)
     aB)
     (aj (bT (bR (G5 T F) hr T.DQ (ah (pv 1) (ah (ax aN (pv 4) ae (fun _ _=>rfl)) (ah (pv 5) af)))))))))
    aB))))
   (aj (aq (pv 1))))),?_⟩
  ac_rfl;intro a dx na ndx ne;refine⟨a,dx,rfl,aF,fun H1 o sc1 k1 fr1=>⟨rfl,?_⟩⟩;have s1:au H H1:=fun b u hb=>k1 b u (by rw[aG (fun z=>by rw[z,na] at hb;cases hb),aG (fun z=>by rw[z,ndx] at hb;cases hb)];exact hb) (fun z=>by rw[z,na] at hb;cases hb);have f1:∀x∈own a o,H x=none:=fun x hx=>by
   rcases fr1 x hx with z | z
   ·rw[z];exact na
   ·cases q:H x with
    | none=>rfl
    | some u=>
     rw[aG (fun y=>by rw[y,na] at q;cases q),aG (fun y=>by rw[y,ndx] at q;cases q),q] at z;cases z
  left;exists tl,fun l nl=>?_;have s2:au H1 (upd H1 l (.lst ((Txt.split t "\n").map V.str))):=aZ nl;have h2:upd H1 l (.lst ((Txt.split t "\n").map V.str)) l=some (.lst ((Txt.split t "\n").map V.str)):=aF;generalize upd H1 l (.lst ((Txt.split t "\n").map V.str))=H2 at s2 h2 ⊢;generalize hrows:Txt.split t "\n"= rows at rt h2;left;exists l,_,rfl,aL.of h2,?_;refine sF (K:=K) (a:=l) (xs:=rows.map V.str) (fun i σ H'=>∃ts' S' o',RT (rows.drop i) ts'/\Runs S' ts' S/\bV T.lR H' a S' o'/\H' l=some (.lst (rows.map V.str))/\l∉own a o'/\au H H'/\(∀x∈own a o',H x=none)/\∃u2 u3 u4 u5 u6,σ=[some (.str t),some (.ref a),u2,u3,u4,u5,u6])
   ⟨ts,{},o,rt,run,sc1.mono s2,h2,CT sc1 nl,s1.trans s2,f1,none,none,none,none,none,rfl⟩ (fun i σ H' _ h=>by obtain⟨_,_,_,_,_,_,h,_⟩:=h;exact aL.of h) ?_ ?_
  ·intro i x σ H3 p H4 hx hh s34 hp4
   refine dU fun N kN0 kR0 _ _=>?_;obtain⟨ts',S',o',rt',run',sc3,hl3,nl3,s3,f3,u2,u3,u4,u5,u6,rfl⟩:=hh;rw[zJ] at hx;cases qr:rows[i]? with
   | none=>rw[qr] at hx;cases hx
   | some r=>
   rw[qr] at hx;simp only[Option.map_some,Option.some.injEq] at hx;subst hx;have ed:rows.drop i=r::rows.drop (i+1):=by
    have hi:=(zw.mp qr).1;rw[List.drop_eq_getElem_cons hi];have:=(zw.mp qr).2;rw[this]
   rw[ed] at rt';have s4:=s3.trans s34;have sc4:=sc3.mono s34;cases rt' with
   | blank rl rw0 rt''=>
    refine⟨p,_,rfl,dB.of hp4,rfl,?_⟩;refine⟨_,_,rfl,⟨_,_,rfl,⟨rfl,?_⟩⟩⟩;left;exists rl,fun p5 H5 s5 h5=>?_;rw[rw0] at h5;left;exists p5,_,rfl,.inl (aL.of h5),?_;left;have s05:=s4.trans s5;exact⟨ts',S',o',rt'',run',sc4.mono s5,s5 _ _ (s34 _ _ hl3),nl3,s05,f3,_,_,_,_,_,rfl⟩
   | row rl rw0 tok wl ws6 rt''=>
    rename_i t' ts'';obtain⟨fn,fit,hd,sz,run''⟩:=run';obtain⟨ws,ew⟩:=Jt t';refine⟨p,_,rfl,dB.of hp4,rfl,?_⟩;refine⟨_,_,rfl,⟨_,_,rfl,⟨rfl,?_⟩⟩⟩;left;exists rl,fun p5 H5 s5 h5=>?_;rw[rw0] at h5;have h5':=h5;rw[ew] at h5;have sc5:=sc4.mono s5;have hl5:=s5 _ _ (s34 _ _ hl3);left;exists p5,_,rfl,.inl (aL.of h5),?_;rw[za,zt];left;refine cj (ze nofun) ?_;left;have wl':ws.length<=999999:=by rw[ew,zt] at wl;omega
    refine⟨p5,pV t',ws,rfl,aL.of h5,wl',by rw[<-ew];exact ws6,fun v H6 s6 tv=>?_⟩;rw[<-ew,GY tok] at tv;have sc6:=sc5.mono s6;left;exists p5,_,0,_,rfl,rfl,aL.of (s6 _ _ h5),bF (j:=0) rfl,?_;left;exists a,S',o',pV t',v,H5,some t',rfl,sc6,tv,fun t2 e2=>by cases e2;exact⟨rfl,fit⟩,fun H7 s7=>?_
    rw[show Mm S' (some t')=fault S' t' from rfl,fn];left;exists p5,_,0,_,rfl,rfl,aL.of (s7 _ _ (s6 _ _ h5)),bF (j:=0) rfl,?_;left;exists a,S',o',v,H5,t',rfl,sc5,s6.trans s7,Jo s7 tv,fn,hd,sz,fun H8 o8 sc8 el8 fr8=>?_;have s07:=((s4.trans s5).trans s6).trans s7;left;refine⟨ts'',bJ S' t',o8,rt'',run'',sc8,el8 _ _ nl3 (s7 _ _ (s6 _ _ hl5)),fun z=>?_,fun b u hb=>el8 _ _ (fun z=>by rw[f3 b z] at hb;cases hb) (s07 _ _ hb),fun x hx=>?_,_,_,_,_,_,rfl⟩
    ·rcases fr8 l z with y | y
     ·exact nl3 y
     ·rw[hl5] at y;cases y
    ·rcases fr8 x hx with y | y
     ·exact f3 x y
     ·exact(s4.trans s5).back y
  ·rintro σ H3 ⟨ts',S',o',rt',run',sc3,hl3,nl3,s3,f3,u2,u3,u4,u5,u6,rfl⟩
   rw[za,List.drop_length] at rt';cases rt';have es:S'=S:=run';subst es;left;exact kk a o' H3 sc3 s3 f3
def vz (C:Addr):Sp:=fun vs H Q _=>∃(a:Addr) (S:cJ) (o:Ow) (n:Str),vs=[.ref a,.str n]/\bV C H a S o/\n∈S.players/\Q .bE H
theorem vI:aD ["score","player"] ["score","player"] (ao nL):=dJ
theorem vP (T:Txt K mg) {C:Addr} (F:Cf K C):dm P w base 1 T.lQ (vz C):=by
 refine T.lQ.F.dH vI fun _ _ _ _ H vs Q E hr h=>?_
 ·obtain⟨a,S,o,n,rfl,sc,hn,kk⟩:=h
  obtain⟨ub,jm,ho,hub,hjm⟩:=sc.obj;refine⟨_,(aj (aI (ay d4 (pv 1) (bI (pv 0) rfl) (by with_unfolding_all rfl))
   (aj xT)
   aB)),?_⟩
  ac_rfl;left;exists a,C,o.dx,_,_,rfl,ho,F.cls,F.players,rfl,?_;refine⟨o.pl,_,rfl,.inl (aL.of sc.pl),rfl,gz _,?_⟩;show∃k,V.bl (!Eg (.str n) (S.players.map V.str))=.bl k/\_;rw[jq,ze hn];left;exact kk
def CF (C:Addr):Sp:=fun vs H Q _=>∃(a:Addr) (S:cJ) (o:Ow) (b:Int),vs=[.ref a,.int b]/\bV C H a S o/\0<=b/\b<S.aP.length/\Q .bE H
theorem CM:aD ["score","bar"] ["score","bar"] (ao uX):=dJ
theorem C5 (T:Txt K mg) {C:Addr} (F:Cf K C):dm P w base 1 T.ux (CF C):=by
 refine T.ux.F.dH CM fun _ _ _ _ H vs Q E hr h=>?_
 ·obtain⟨a,S,o,b,rfl,sc,b0,b1,kk⟩:=h
  obtain⟨ub,jm,ho,hub,hjm⟩:=sc.obj;obtain⟨vs,hv,il⟩:=sc.ba;refine⟨_,(aj (aI (PW.pt (eJ (ay fg (pv 1) ae (aE _)) (dw (ay BR (pv 1) (eX aC T.bB (ah (bI (pv 0) rfl) af)) (aE _)))))
   (aj xT)
   aB)),?_⟩
  ac_rfl;left;refine cw (zd nofun) ?_;left;exists a,C,o.dx,_,_,rfl,ho,F.cls,F.aP,rfl,?_;left;exists o.ba,vs,rfl,.inl (aL.of hv),?_;rw[aS il];left;refine cw (zd nofun) ?_;left;exact kk
def pM (b:Int) (r:Option Str) (h:Int×Str):Option Str:=if h.1<=b then some h.2 else r
def yL (S:cJ) (n:Str) (b:Int):Option Str:=((S.holds.lookup n).getD []).foldl (pM b) none
def tq (C:Addr):Sp:=fun vs H Q _=>∃(a:Addr) (S:cJ) (o:Ow) (n:Str) (b:Int),vs=[.ref a,.str n,.int b]/\bV C H a S o/\n∈S.players/\0<=b/\b<S.aP.length/\∀H',au H H'->Q (os (yL S n b)) H'
theorem eY:aD ["score","player","bar","instrument","hold"] ["score","player","bar"] (ao mm):=dJ
theorem tR (T:Txt K mg) {C:Addr} (F:Cf K C):dm P w base 2 T.ki (tq C):=by
 refine T.ki.F.dH eY fun _ _ _ _ H vs Q E hr h=>?_
 ·obtain⟨a,S,o,n,b,rfl,sc,hn,b0,b1,kk⟩:=h
  have sl:=yB;obtain⟨ub,jm,ho,hub,hjm⟩:=sc.obj;refine⟨_,(ag (bT (bR (vP T F) hr T.lQ (ah (pv 0) (ah (pv 1) af))))
   (ag (bT (bR (C5 T F) hr T.ux (ah (pv 0) (ah (pv 2) af))))
   (ag (bW 3 eY.nd aU)
   (ag (cE PassesOwn.never rfl (bz (E3 (mK hr) (bI (pv 0) rfl) (pv 1) (bD af) ⟨rfl,rfl,rfl,rfl⟩)) (dj 4 eY.nd)
   (aj (aI (ay gn (ax aA (pv 4) ae (fun _ _=>rfl)) (pv 2) (aE _))
    (aj (bW 3 eY.nd (ax aA (pv 4) ae (fun _ _=>rfl))))
    aB)))
   (aj (aq (pv 3))))))),?_⟩
  ac_rfl;left;exists a,S,o,n,rfl,sc,hn,?_;left;exists a,S,o,b,rfl,sc,b0,b1,?_;left;exists a,C,o.dx,_,_,rfl,ho,F.cls,F.holds,rfl,?_;refine⟨o.ho,rfl,.inl ⟨_,.inl sc.ho.1⟩,?_⟩;left;exists by show 0<=sizeLine;omega,?_
  right;rename_i p2 H2 s2 h2;exists _,.inl ⟨_,kS n,.inl (s2 _ _ sc.ho.1),rfl,rfl⟩,?_;obtain⟨h,vs,l,eh,hh,ilh,el⟩:∃h vs l,(fi ((S.holds.map fun x=>kS x.1).zip (o.hs.map V.ref)) (kS n)).getD (.ref p2)=.ref h/\H2 h=some (.lst vs)/\L2.IsL H2 (l.map HG) vs/\(S.holds.lookup n).getD []=l:=by
   rcases uf (H:=H) n sc.ho.2 with⟨e1,e2⟩ | ⟨l,h,vs,e1,e2,hh,il⟩
   ·exact⟨p2,[],[],by rw[e2];rfl,h2,by unfold L2.IsL;rfl,by rw[e1];rfl⟩
   ·exact⟨h,vs,l,by rw[e2];rfl,s2 _ _ hh,il.mono s2,by rw[e1];rfl⟩
  unfold yL at kk;rw[el] at kk;rw[eh];left;exists⟨_,aL.of hh⟩,?_;refine dX (K:=K) (a:=h) (xs:=vs) (fun i σ H'=>H'=H2/\∃v,σ=[some (.ref a),some (.str n),some (.int b),some (Sc.os ((l.take i).foldl (pM b) none)),v]) ⟨rfl,none,rfl⟩ (fun i σ H' _ h=>by rw[h.1];exact aL.of hh) ?_ ?_
  ·rintro i x σ H3 hx ⟨rfl,v,rfl⟩
   obtain⟨d,hd,id⟩:=dz ilh hx;obtain⟨a3,rfl,h3⟩:=Ou id;have e:(l.take (i+1)).foldl (pM b) none=pM b ((l.take i).foldl (pM b) none) d:=by rw[cU hd,zX];rfl
   rw[e];left
   by_cases c:d.1<=b
   ·refine cj (ze c) ?_
    rw[show pM b ((l.take i).foldl (pM b) none) d=some d.2 from if_pos c];left;exact⟨_,rfl⟩
   ·refine cw (zd c) ?_
    rw[show pM b ((l.take i).foldl (pM b) none) d=(l.take i).foldl (pM b) none from if_neg c];left;exact⟨_,rfl⟩
  ·rintro σ H3 ⟨rfl,v,rfl⟩
   rw[aS ilh,zM];left;exact kk _ s2
theorem Runs.app:∀{a b:List Told} {S S1 S2:cJ},Runs S a S1->Runs S1 b S2->Runs S (a++b) S2
 | [],_,_,_,_,h,k=>by
  have e:_=_:=h;subst e;exact k
 | _::_,_,_,_,_,⟨h1,h2,h3,h4,h5⟩,k=>⟨h1,h2,h3,h4,Runs.app h5 k⟩
theorem rK:∀{l:List Str} {S:cJ},(S.players++l).Nodup->(S.players++l).length<=12->qN S->uF S->Runs S (l.map .bG) {S with players:=S.players++l}
 | [],S,_,_,_,_=>by
  show S=_;rw[zU]
 | n::r,S,nd,hl,hd,sz=>by
  have nd':=nd;rw[zR] at nd';rw[zg,zt] at hl;refine⟨?_,trivial,hd,sz,?_⟩
  ·unfold fault
   dsimp only;rw[if_neg (fun z=>nd'.2.2 n z n zp rfl),if_neg nofun]
  ·have ih:=rK (l:=r) (S:=bJ S (.bG n)) (by show(S.players++[n]++r).Nodup;rw[zE];exact nd) (by show(S.players++[n]++r).length<=12;simp only[zg,zt,List.length_nil];omega) hd ⟨by show(S.players++[n]).length<=1000000;rw[zg];simp;omega,sz.2⟩
   have e:({bJ S (.bG n) with players:=(bJ S (.bG n)).players++r}:cJ)={S with players:=S.players++n::r}:=by
    show({S with players:=S.players++[n]++r}:cJ)=_;rw[zE];rfl
   rw[e] at ih;exact ih
theorem xH:∀{l:List (Str×(Int×Int)×(Int×Int))} {S:cJ},((S.ak++l).map (·.1)).Nodup->(S.ak++l).length<=12->qN S->uF S->Runs S (l.map fun x=>.cI x.1 x.2.1 x.2.2) {S with ak:=S.ak++l}
 | [],S,_,_,_,_=>by
  show S=_;rw[zU]
 | n::r,S,nd,hl,hd,sz=>by
  have nd':=nd;rw[zj,zR] at nd';rw[zg,zt] at hl;refine⟨?_,trivial,hd,sz,?_⟩
  ·unfold fault
   dsimp only;rw[if_neg (fun z=>nd'.2.2 n.1 z n.1 (by rw[zh];exact zp) rfl),if_neg nofun]
  ·have ih:=xH (l:=r) (S:=bJ S (.cI n.1 n.2.1 n.2.2)) (by show((S.ak++[n]++r).map _).Nodup;rw[zE];exact nd) (by show(S.ak++[n]++r).length<=12;simp only[zg,zt,List.length_nil];omega) hd ⟨sz.1,by show(S.ak++[n]).length<=1000000;rw[zg];simp;omega,sz.2.2⟩
   have e:({bJ S (.cI n.1 n.2.1 n.2.2) with ak:=(bJ S (.cI n.1 n.2.1 n.2.2)).ak++r}:cJ)={S with ak:=S.ak++n::r}:=by
    show({S with ak:=S.ak++[n]++r}:cJ)=_;rw[zE];rfl
   rw[e] at ih;exact ih
theorem BL:∀{l:List Sc.KA} {S:cJ},(S.aP++l).length<=200->qN S->uF S->Runs S (l.map .bar) {S with aP:=S.aP++l}
 | [],S,_,_,_=>by
  show S=_;rw[zU]
 | n::r,S,hl,hd,sz=>by
  rw[zg,zt] at hl;refine⟨?_,trivial,hd,sz,?_⟩
  ·unfold fault
   dsimp only;rw[if_neg nofun]
  ·have ih:=BL (l:=r) (S:=bJ S (.bar n)) (by show(S.aP++[n]++r).length<=200;simp only[zg,zt,List.length_nil];omega) hd ⟨sz.1,sz.2.1,sz.2.2.1,by show(S.aP++[n]).length<=1000000;rw[zg];simp;omega,sz.2.2.2.2⟩
   have e:({bJ S (.bar n) with aP:=(bJ S (.bar n)).aP++r}:cJ)={S with aP:=S.aP++n::r}:=by
    show({S with aP:=S.aP++[n]++r}:cJ)=_;rw[zE];rfl
   rw[e] at ih;exact ih
theorem xG:∀{l:List ((Int×Str)×List Item)} {S:cJ},((S.aJ++l).map (·.1)).Nodup->(S.aJ++l).length<=1000000->OD S->(∀x∈l,0<=x.1.1/\x.1.1<S.aP.length/\x.1.2∈S.players/\x.2.length<=40/\(∀it∈x.2,MT it.2)/\j7 x.2=S.len x.1.1.toNat)->qN S->uF S->Runs S (l.map fun x=>.aJ x.1.1 x.1.2 x.2) {S with aJ:=S.aJ++l}
 | [],S,_,_,_,_,_,_=>by
  show S=_;rw[zU]
 | n::r,S,nd,hl,lu,hx,hd,sz=>by
  have nd':=nd;rw[zj,zR] at nd';rw[zg,zt] at hl;obtain⟨b0,b1,pin,il,iok,isum⟩:=hx n zp;refine⟨?_,⟨b0,nofun,iok,lu⟩,hd,sz,?_⟩
  ·unfold fault
   dsimp only;rw[if_neg (fun z=>nd'.2.2 n.1 z n.1 (by rw[zh];exact zp) rfl),if_neg (fun z=>z pin),if_neg,if_neg (fun z=>z isum),if_neg nofun];intro z;apply z;unfold cJ.has;simp[b1]
  ·have ih:=xG (l:=r) (S:=bJ S (.aJ n.1.1 n.1.2 n.2)) (by show((S.aJ++[n]++r).map _).Nodup;rw[zE];exact nd) (by show(S.aJ++[n]++r).length<=1000000;simp only[zg,zt,List.length_nil];omega) lu (fun x h=>hx x (zm _ h)) hd ⟨sz.1,sz.2.1,sz.2.2.1,sz.2.2.2.1,by show(S.aJ++[n]).length<=1000000;rw[zg];simp;omega,sz.2.2.2.2.2⟩
   have e:({bJ S (.aJ n.1.1 n.1.2 n.2) with aJ:=(bJ S (.aJ n.1.1 n.1.2 n.2)).aJ++r}:cJ)={S with aJ:=S.aJ++n::r}:=by
    show({S with aJ:=S.aJ++[n]++r}:cJ)=_;rw[zE];rfl
   rw[e] at ih;exact ih
theorem EO {S:cJ} {u:Int×Int} (hn:S.aH=none) (hb:S.aP.length≠0) (hs:u.1*(S.aT 0).2<(S.aT 0).1*u.2) (no:S.aJ=[]) (zu:AF 8999 u) (lu:OD S) (hd:qN S) (sz:uF S):Runs S [.aH u] {S with aH:=some u}:=by
 refine⟨?_,⟨zu,lu,by rw[no];exact yf _⟩,hd,sz,rfl⟩;unfold fault;dsimp only;rw[if_neg (by rw[hn];simp),if_neg hb,if_neg (fun z=>z hs),if_neg (by rw[no];simp)]
theorem uZ:∀{l:List (Str×List Str)} {S:cJ},((S.aK++l).map (·.1)).Nodup->((S.aK++l).map (·.2)).flatten.Nodup->(∀x∈l,∀p∈x.2,p∈S.players)->(∀x∈l,x.2.length<=1000)->(S.aK++l).length<=1000000->qN S->uF S->Runs S (l.map fun x=>.cm x.1 x.2) {S with aK:=S.aK++l}
 | [],S,_,_,_,_,_,_,_=>by
  show S=_;rw[zU]
 | n::r,S,nd,fd,pin,pl,hl,hd,sz=>by
  have nd':=nd;have fd':=fd;rw[zj,zR] at nd';rw[zj,List.flatten_append,zh,z9,zR] at fd';rw[zg,zt] at hl;refine⟨?_,pl n zp,hd,sz,?_⟩
  ·unfold fault
   dsimp only;have pn:n.2.Nodup:=(zR.mp fd'.2.1).1;have p2:¬(S.aK.any fun q=>n.2.any fun p=>decide (p∈q.2))=true:=fun z=>by
    obtain⟨q,hq,z⟩:=yn.mp z;obtain⟨p,hp,z⟩:=yn.mp z;exact fd'.2.2 p (List.mem_flatten.mpr ⟨q.2,zO (f:=fun x:Str×List Str=>x.2) hq,yd z⟩) p (zI _ hp) rfl
   have p3:¬(n.2.any fun p=>!decide (p∈S.players))=true:=fun z=>by
    obtain⟨p,hp,z⟩:=yn.mp z;rw[ze (pin n zp p hp)] at z;cases z
   rw[if_neg (fun z=>nd'.2.2 n.1 z n.1 (by rw[zh];exact zp) rfl),if_neg (fun z=>z pn),if_neg p2,if_neg p3]
  ·have ih:=uZ (l:=r) (S:=bJ S (.cm n.1 n.2)) (by show((S.aK++[n]++r).map _).Nodup;rw[zE];exact nd) (by show((S.aK++[n]++r).map _).flatten.Nodup;rw[zE];exact fd) (fun x h=>pin x (zm _ h)) (fun x h=>pl x (zm _ h)) (by show(S.aK++[n]++r).length<=1000000;simp only[zg,zt,List.length_nil];omega) hd ⟨sz.1,sz.2.1,by show(S.aK++[n]).length<=1000000;rw[zg];simp;omega,sz.2.2.2⟩
   have e:({bJ S (.cm n.1 n.2) with aK:=(bJ S (.cm n.1 n.2)).aK++r}:cJ)={S with aK:=S.aK++n::r}:=by
    show({S with aK:=S.aK++[n]++r}:cJ)=_;rw[zE];rfl
   rw[e] at ih;exact ih
theorem LX {base:List (Str×List (Int×Str))} {p:Str} (h:p∉base.map (·.1)):base.lookup p=none:=by
 induction base with
 | nil=>rfl
 | cons x r ih=>
  rw[zh,zC,not_or] at h;rw[yp,show(p == x.1)=false from by simp;exact h.1];exact ih h.2
theorem JM {base:List (Str×List (Int×Str))} {p:Str} {acc:List (Int×Str)} (h:p∉base.map (·.1)):(base++[(p,acc)]).lookup p=some acc:=by
 induction base with
 | nil=>rw[List.nil_append,yp,beq_self_eq_true]
 | cons x r ih=>
  rw[zh,zC,not_or] at h;rw[List.cons_append,yp,show(p == x.1)=false from by simp;exact h.1];exact ih h.2
theorem MF {base:List (Str×List (Int×Str))} {p:Str} {acc:List (Int×Str)} {e:Int×Str} (h:p∉base.map (·.1)):fe (base++[(p,acc)]) p e=base++[(p,acc++[e])]:=by
 unfold fe;rw[if_pos (by rw[zj];exact zH _ (zy.mpr rfl)),zj];have er:(base.map fun q:Str×List (Int×Str)=>if q.1=p then(q.1,q.2++[e]) else q)=base:=by
  conv=>rhs;rw[<-List.map_id base]
  refine List.map_congr_left fun q hq=>?_;rw[if_neg (fun z=>h (by rw[<-z];exact zO (f:=fun x:Str×List (Int×Str)=>x.1) hq))];rfl
 rw[er];simp
theorem B1 {S:cJ} {p:Str} {acc:List (Int×Str)} {h:Int×Str} (hl:(S.holds.lookup p).getD []=acc) (asc:∀a∈acc,a.1<h.1) (al:acc.length<20) (hp:p∈S.players) (hb:h.1<S.aP.length) (hi:h.2∈S.ak.map (·.1)):fault S (.holds p h.1 h.2)=none:=by
 unfold fault;dsimp only;rw[hl];have c1:¬(match acc.getLast? with | some q=>decide (h.1<=q.1) | none=>false)=true:=by
  cases q:acc.getLast? with
  | none=>simp
  | some x=>
   have:=asc x (List.mem_of_getLast? q);simp;exact this
 rw[if_neg (by
  cases q:acc.getLast? with
  | none=>simp
  | some x=>
   have:=asc x (List.mem_of_getLast? q);simp;exact this),if_neg (fun z=>z hp),if_neg (fun z=>z hi),if_neg (fun z=>z (by unfold cJ.has;simp[hb])),if_neg nofun]
theorem ER {p:Str} {base:List (Str×List (Int×Str))} (nb:p∉base.map (·.1)) (nd:(base.map (·.1)).Nodup) (bl:base.length<=999999) (bb:∀q∈base,q.2.length<=1000000):∀{row acc:List (Int×Str)} {S:cJ},S.holds=base++[(p,acc)]->((acc++row).map (·.1)).Pairwise (·<·)->(acc++row).length<=20->p∈S.players->
  (∀h∈row,h.1<S.aP.length/\h.2∈S.ak.map (·.1))->uF S->Runs S (row.map fun h=>.holds p h.1 h.2) {S with holds:=base++[(p,acc++row)]}
 | [],acc,S,eS,_,_,_,_,_=>by
  show S=_;rw[zU,<-eS]
 | h::r,acc,S,eS,asc,al,hp,hx,sz=>by
  obtain⟨hb,hi⟩:=hx h zp;have asc':=asc;rw[zj,zT] at asc';rw[zg,zt] at al;have hd:qN S:=by
   refine⟨?_,?_,?_⟩
   ·rw[eS,zj,zR]
    exact⟨nd,by simp,fun x hx y hy e=>by simp at hy;subst hy;subst e;exact nb hx⟩
   ·rw[eS,zg];simp;omega
   ·intro q hq
    rw[eS] at hq;rcases zF.mp hq with z | z
    ·exact bb q z
    ·rw[zy.mp z];show acc.length<=1000000;omega
  refine⟨B1 (acc:=acc) (by rw[eS,JM nb];rfl) (fun a ha=>asc'.2.2 a.1 (zO (f:=fun x:Int×Str=>x.1) ha) h.1 (by rw[zh];exact zp)) nofun hp hb hi,trivial,hd,sz,?_⟩;have ih:=ER nb nd bl bb (row:=r) (acc:=acc++[h]) (S:=bJ S (.holds p h.1 h.2)) (by show fe S.holds p (h.1,h.2)=_;rw[eS,MF nb]) (by rw[zE];exact asc) (by simp only[zg,zt,List.length_nil];omega) hp (fun x hx'=>hx x (zm _ hx')) sz;have e:({bJ S (.holds p h.1 h.2) with holds:=base++[(p,acc++[h]++r)]}:cJ)={S with holds:=base++[(p,acc++h::r)]}:=by
   show({S with holds:=base++[(p,acc++[h]++r)]}:cJ)=_;rw[zE];rfl
  rw[e] at ih;exact ih
theorem xI:∀{l:List (Str×List (Int×Str))} {S:cJ},((S.holds++l).map (·.1)).Nodup->(S.holds++l).length<=999999->(∀x∈l,x.2≠[]/\x.2.length<=20/\(x.2.map (·.1)).Pairwise (·<·)/\x.1∈S.players/\∀h∈x.2,h.1<S.aP.length/\h.2∈S.ak.map (·.1))->qN S->uF S->
  Runs S (l.map fun x=>x.2.map fun h=>Told.holds x.1 h.1 h.2).flatten {S with holds:=S.holds++l}
 | [],S,_,_,_,_,_=>by
  show S=_;rw[zU]
 | x::r,S,nd,hl,hx,hd,sz=>by
  obtain⟨ne,xl,asc,hp,hh⟩:=hx x zp;obtain⟨h,t,et⟩:=List.exists_cons_of_ne_nil ne;have nd':=nd;rw[zj,zR] at nd';have nb:x.1∉S.holds.map (·.1):=fun z=>nd'.2.2 x.1 z x.1 (by rw[zh];exact zp) rfl;rw[zg,zt] at hl;rw[zh,z9];refine Runs.app (S1:={S with holds:=S.holds++[x]}) ?_ ?_
  ·rw[et] at xl asc hh ⊢
   obtain⟨hb,hi⟩:=hh h zp;refine⟨B1 (acc:=[]) (by rw[LX nb];rfl) (by simp) (by simp) hp hb hi,trivial,hd,sz,?_⟩;have ea:bJ S (.holds x.1 h.1 h.2)={S with holds:=S.holds++[(x.1,[h])]}:=by
    show({S with holds:=fe S.holds x.1 (h.1,h.2)}:cJ)=_;unfold fe;rw[if_neg nb]
   rw[ea];have rr:=ER (p:=x.1) nb hd.1 nofun hd.2.2 (row:=t) (acc:=[h]) (S:={S with holds:=S.holds++[(x.1,[h])]}) rfl asc xl hp (fun y hy=>hh y (zm _ hy)) sz;have ex:x=(x.1,[h]++t):=by rw[List.singleton_append,<-et]
   have e2:({({S with holds:=S.holds++[(x.1,[h])]}:cJ) with holds:=S.holds++[(x.1,[h]++t)]}:cJ)={S with holds:=S.holds++[x]}:=by rw[<-ex]
   rw[e2] at rr;exact rr
  ·have ih:=xI (l:=r) (S:={S with holds:=S.holds++[x]}) (by show((S.holds++[x]++r).map _).Nodup;rw[zE];exact nd) (by show(S.holds++[x]++r).length<=999999;simp only[zg,zt,List.length_nil];omega) (fun y hy=>hx y (zm _ hy)) ?_ sz
   ·have e:({({S with holds:=S.holds++[x]}:cJ) with holds:=S.holds++[x]++r}:cJ)={S with holds:=S.holds++x::r}:=by rw[zE];rfl
    exact e▸ih
   ·refine⟨?_,?_,?_⟩
    ·show((S.holds++[x]).map _).Nodup
     have:=List.Nodup.sublist (List.Sublist.map (fun x:Str×List (Int×Str)=>x.1) (List.Sublist.append (List.Sublist.refl S.holds) (List.singleton_sublist.mpr zp))) nd;exact this
    ·show(S.holds++[x]).length<=1000000
     rw[zg];simp;omega
    ·intro q hq
     have hq':q∈S.holds++[x]:=hq;rcases zF.mp hq' with z | z
     ·exact hd.2.2 q z
     ·rw[zy.mp z];omega
def wQ (n:Nat):List Rep->List Rep->Prop
 | _,[]=>True
 | rs,r::l=>(∀b∈[r.first,r.last]++r.ends.map (·.1),b<(n:Int))/\lA rs r=true/\(GI r.ends<64/\r.ends.length<=1000/\-1000000<=r.times/\r.times<=1000000)/\wQ n (rs++[r]) l
theorem Me {S:cJ} {bs:List Int} (h:∀b∈bs,b<(S.aP.length:Int)):S.has bs=true:=yo.mpr fun b hb=>ze (h b hb)
theorem BK:∀{l:List Rep} {S:cJ},S.cb=none->wQ S.aP.length S.repeats l->(S.repeats++l).length<=20->qN S->uF S->Runs S (l.map .rep) {S with repeats:=S.repeats++l}
 | [],S,_,_,_,_,_=>by
  show S=_;rw[zU]
 | r::l,S,nj,⟨h1,h2,h3,h4⟩,hl,hd,sz=>by
  rw[zg,zt] at hl;refine⟨?_,h3,hd,sz,?_⟩
  ·unfold fault
   dsimp only;rw[if_neg (fun z=>z (Me h1)),if_neg (by rw[nj];simp),if_neg (fun z=>z h2),if_neg nofun]
  ·have ih:=BK (l:=l) (S:=bJ S (.rep r)) nj h4 (by show(S.repeats++[r]++l).length<=20;simp only[zg,zt,List.length_nil];omega) hd ⟨sz.1,sz.2.1,sz.2.2.1,sz.2.2.2.1,sz.2.2.2.2.1,by show(S.repeats++[r]).length<=1000000;rw[zg];simp;omega⟩
   have e:({bJ S (.rep r) with repeats:=(bJ S (.rep r)).repeats++l}:cJ)={S with repeats:=S.repeats++r::l}:=by
    show({S with repeats:=S.repeats++[r]++l}:cJ)=_;rw[zE];rfl
   rw[e] at ih;exact ih
theorem Jw {S:cJ} {j:Jump} (nj:S.cb=none) (hb:∀b∈[j.wJ,j.AE,j.dy]++j.gD.toList,b<(S.aP.length:Int)) (hf:gY S.repeats j=true) (ro:DZ S) (hd:qN S) (sz:uF S):Runs S [.cb j] {S with cb:=some j}:=by
 refine⟨?_,ro,hd,sz,rfl⟩;unfold fault;dsimp only;rw[if_neg (by rw[nj];simp),if_neg (fun z=>z (Me hb)),if_neg (fun z=>z hf)]
structure SM (S:cJ):Prop where
 pn:S.players.Nodup
 pl:S.players.length<=12
 S8:(S.ak.map (·.1)).Nodup
 il:S.ak.length<=12
 sn:(S.aK.map (·.1)).Nodup
 sf:(S.aK.map (·.2)).flatten.Nodup
 sp:∀x∈S.aK,∀p∈x.2,p∈S.players
 sl:∀x∈S.aK,x.2.length<=1000
 sc:S.aK.length<=1000000
 bl:S.aP.length<=200
 lu:OD S
 up:∀u,S.aH=some u->S.aP.length≠0/\u.1*(S.aT 0).2<(S.aT 0).1*u.2/\AF 8999 u
 hn:(S.holds.map (·.1)).Nodup
 hl:S.holds.length<=999999
 hx:∀x∈S.holds,x.2≠[]/\x.2.length<=20/\(x.2.map (·.1)).Pairwise (·<·)/\x.1∈S.players/\∀h∈x.2,h.1<S.aP.length/\h.2∈S.ak.map (·.1)
 nn:(S.aJ.map (·.1)).Nodup
 nl:S.aJ.length<=1000000
 nx:∀x∈S.aJ,0<=x.1.1/\x.1.1<S.aP.length/\x.1.2∈S.players/\x.2.length<=40/\(∀it∈x.2,MT it.2)/\j7 x.2=S.len x.1.1.toNat
 rf:wQ S.aP.length [] S.repeats
 rl:S.repeats.length<=20
 ro:DZ S
 ju:∀j,S.cb=some j->(∀b∈[j.wJ,j.AE,j.dy]++j.gD.toList,b<(S.aP.length:Int))/\gY S.repeats j=true
theorem Lf {S:cJ} (V:SM S):Runs {} (eN S) S:=by
 have hd0:∀T:cJ,T.holds=[]->qN T:=fun T e=>by
  refine⟨by rw[e];exact List.nodup_nil,by rw[e];exact yf _,fun q hq=>by rw[e] at hq;cases hq⟩
 have hdS:∀T:cJ,T.holds=S.holds->qN T:=fun T e=>by
  refine⟨by rw[e];exact V.hn,by rw[e];have:=V.hl;omega,fun q hq=>?_⟩;rw[e] at hq;have:=(V.hx q hq).2.1;omega
 have b1:=V.pl;have b2:=V.il;have b3:=V.sc;have b4:=V.bl;have b5:=V.nl;have b6:=V.rl;have szP:∀T:cJ,(T.players=[]\/T.players=S.players)->(T.ak=[]\/T.ak=S.ak)->(T.aK=[]\/T.aK=S.aK)->(T.aP=[]\/T.aP=S.aP)->(T.aJ=[]\/T.aJ=S.aJ)->(T.repeats=[]\/T.repeats=S.repeats)->uF T:=fun T q1 q2 q3 q4 q5 q6=>by
  refine⟨?_,?_,?_,?_,?_,?_⟩
  ·rcases q1 with e | e <;> rw[e] <;> first | exact yf _ | omega
  ·rcases q2 with e | e <;> rw[e] <;> first | exact yf _ | omega
  ·rcases q3 with e | e <;> rw[e] <;> first | exact yf _ | omega
  ·rcases q4 with e | e <;> rw[e] <;> first | exact yf _ | omega
  ·rcases q5 with e | e <;> rw[e] <;> first | exact yf _ | omega
  ·rcases q6 with e | e <;> rw[e] <;> first | exact yf _ | omega
 have r1:=rK (l:=S.players) (S:={}) V.pn b1 (hd0 _ rfl) (szP _ (.inl rfl) (.inl rfl) (.inl rfl) (.inl rfl) (.inl rfl) (.inl rfl));have r2:=xH (l:=S.ak) (S:={players:=S.players}) V.S8 b2 (hd0 _ rfl) (szP _ (.inr rfl) (.inl rfl) (.inl rfl) (.inl rfl) (.inl rfl) (.inl rfl));have r3:=uZ (l:=S.aK) (S:={players:=S.players,ak:=S.ak}) V.sn V.sf V.sp V.sl b3 (hd0 _ rfl) (szP _ (.inr rfl) (.inr rfl) (.inl rfl) (.inl rfl) (.inl rfl) (.inl rfl));have r4:=BL (l:=S.aP) (S:={players:=S.players,ak:=S.ak,aK:=S.aK}) b4 (hd0 _ rfl) (szP _ (.inr rfl) (.inr rfl) (.inr rfl) (.inl rfl) (.inl rfl) (.inl rfl));have r5:Runs {players:=S.players,ak:=S.ak,aK:=S.aK,aP:=S.aP} (S.aH.toList.map .aH) {players:=S.players,ak:=S.ak,aK:=S.aK,aP:=S.aP,aH:=S.aH}:=by
  cases q:S.aH with
  | none=>exact rfl
  | some u=>
   obtain⟨u1,u2,u3⟩:=V.up u q;exact EO (S:={players:=S.players,ak:=S.ak,aK:=S.aK,aP:=S.aP}) rfl u1 u2 rfl u3 V.lu (hd0 _ rfl) (szP _ (.inr rfl) (.inr rfl) (.inr rfl) (.inr rfl) (.inl rfl) (.inl rfl))
 have r6:=xI (l:=S.holds) (S:={players:=S.players,ak:=S.ak,aK:=S.aK,aP:=S.aP,aH:=S.aH}) V.hn V.hl V.hx (hd0 _ rfl) (szP _ (.inr rfl) (.inr rfl) (.inr rfl) (.inr rfl) (.inl rfl) (.inl rfl));have r7:=xG (l:=S.aJ) (S:={players:=S.players,ak:=S.ak,aK:=S.aK,aP:=S.aP,aH:=S.aH,holds:=S.holds}) V.nn b5 V.lu V.nx (hdS _ rfl) (szP _ (.inr rfl) (.inr rfl) (.inr rfl) (.inr rfl) (.inl rfl) (.inl rfl));have r8:=BK (l:=S.repeats) (S:={players:=S.players,ak:=S.ak,aK:=S.aK,aP:=S.aP,aH:=S.aH,holds:=S.holds,aJ:=S.aJ}) rfl V.rf b6 (hdS _ rfl) (szP _ (.inr rfl) (.inr rfl) (.inr rfl) (.inr rfl) (.inr rfl) (.inl rfl));have r9:Runs {players:=S.players,ak:=S.ak,aK:=S.aK,aP:=S.aP,aH:=S.aH,holds:=S.holds,aJ:=S.aJ,repeats:=S.repeats} (S.cb.toList.map .cb) S:=by
  obtain⟨s1,s2,s3,s4,s5,s6,s7,s8,s9⟩:=S;cases s9 with
  | none=>exact rfl
  | some j=>
   obtain⟨j1,j2⟩:=V.ju j rfl;exact Jw (S:={players:=s1,ak:=s2,aK:=s3,aP:=s4,aH:=s5,holds:=s6,aJ:=s7,repeats:=s8}) rfl j1 j2 V.ro (hdS _ rfl) (szP _ (.inr rfl) (.inr rfl) (.inr rfl) (.inr rfl) (.inr rfl) (.inr rfl))
 exact Runs.app (Runs.app (Runs.app (Runs.app (Runs.app (Runs.app (Runs.app r1 r2) r3) r4) r5) r6) r7) (Runs.app r8 r9)
def vC (K:yA):Sp:=fun vs H Q _=>∃(a:Addr) (ns:List Int) (k:Int),vs=[.ref a,.int k]/\aL K H a (ns.map V.int)/\0<=k/\ns.length<=1000/\∀c:Int,Q (.int c) H
theorem vJ:aD ["_law_script","_law_k"] ["_law_script","_law_k"] (ao nP):=dJ
theorem bY (T:Txt K mg):dm P w base 1 T.cy (vC K):=by
 refine T.cy.F.dH vJ fun _ _ _ _ H vs Q E hr h=>?_
 ·obtain⟨a,ns,k,rfl,hS,h0,hl,kk⟩:=h
  refine⟨_,(ag (aI (ay fg (pv 1) (eX aC T.bB (ah (pv 0) af)) (aE _))
   (aj (aq (ax aN (pv 0) (pv 1) (fun _ _=>rfl))))
   aB)
   (aj (aq ae))),?_⟩
  left;exists a,_,rfl,.inl hS,?_;left;refine vV (fun c1=>?_) (fun c1=>?_)
  ·have c2:=yd c1
   rw[za] at c2;left;exact⟨a,_,_,_,rfl,rfl,hS,MC h0 c2,kk _⟩
  ·left
   exact kk _
def tF:Sp:=fun vs H Q _=>∃(c m:Int),vs=[.int c,.int m]/\0<=c/\c<1099511627776/\0<=m/\m<=12/\∀(ns:List Str) p H',ns.length=m.toNat->AB ns->au H H'->H' p=some (.lst (ns.map V.str))->Q (.ref p) H'
theorem dh:aD ["_law_cell","_law_many","_law_letters","_law_first","_law_size","_law_place","_law_stem"] ["_law_cell","_law_many"] (ao mw):=dJ
theorem e9 (T:Txt K mg):dm P w base 1 T.eF tF:=by
 refine T.eF.F.dH dh fun _ _ _ _ H vs Q E hr h=>?_
 ·obtain⟨c,m,rfl,c0,c1,m0,m1,kk⟩:=h
  have sl:=yB;refine⟨_,(ag (bW 2 dh.nd aM)
   (ag (bW 3 dh.nd (ar aV (ar aW (pv 0) ae) ae))
   (ag (aI (PW.pt (cV (ay de (ar aV (pv 0) ae) ae (aE _)) (cK (ay fg (pv 1) ae (aE _)))))
   (aj (aq (pK (ts:=["_law_k"]) (ys:=["_law_many","_law_letters","_law_first"]) (js:=[1,2,3]) (g:=(bc 0)) (tc:=dt) (te:=(fQ Oh (fQ Ni (bj 2) (bj 3)) (fQ (vK fun i j=>.int (i-j)) (bj 1) (bj 0)))) (cO (by rfl) T.dG (aa (pv 1) af)) (fun _ _ _ _=>(dj 0 (show List.Nodup [("_law_k": Str),("_law_many": Str),("_law_letters": Str),("_law_first": Str)] by decide +kernel))) (fun _ _ _ _=>bx) (fun _ _ _ _=>(ar Ny (ax De (pv 2) (pv 3) (fun _ _=>rfl)) (ar kf (pv 1) (pv 0)))))))
   aB)
   (ag (bW 4 dh.nd (ar aV (ar aW (pv 0) ae) ae))
   (ag (bW 5 dh.nd (ar aV (ar aW (pv 0) ae) (ar bg (pv 4) ae)))
   (ag (bW 6 dh.nd (cu PySem.F.plainAttrs_str PySem.F.slot_str_join PySem.F.type_str_join gK aM (aa (pK (ts:=["_law_k"]) (ys:=["_law_cell","_law_letters"]) (js:=[0,2]) (g:=(bc 0)) (tc:=dt) (te:=(fQ Ni (fQ (fun x y H Q=>∃i j,x=.str i/\y=.str j/\i.length+j.length<=sizeLine/\Q (.str (i++j)) H) (bj 2) (tC (.str "0123456789"))) (fQ (rI (fun _ j=>0<j) fun i j=>.int (i%j)) (fQ (vK fun i j=>.int (i+j)) (fQ (rI Qe fun i j=>.int (i/j)) (bj 1) (tC (.int (16224)))) (fQ (rI Ku fun i j=>.int (i*j)) (tC (.int (7))) (bj 0))) (tC (.int (36)))))) (cO (by rfl) T.dG (aa (pv 4) af)) (fun _ _ _ _=>(dj 0 (show List.Nodup [("_law_k": Str),("_law_cell": Str),("_law_letters": Str)] by decide +kernel))) (fun _ _ _ _=>bx) (fun _ _ _ _=>(ax De (ar bS (pv 2) aM) (ar aV (ar bg (ar aW (pv 1) ae) (ar d5 ae (pv 0))) ae) (fun _ _=>rfl)))) af)))
   (aj (aq (pK (ts:=["_law_k"]) (ys:=["_law_letters","_law_first","_law_place","_law_stem"]) (js:=[2,3,5,6]) (g:=(bc 0)) (tc:=dt) (te:=(fQ (fun x y H Q=>∃i j,x=.str i/\y=.str j/\i.length+j.length<=sizeLine/\Q (.str (i++j)) H) (fQ (fun x y H Q=>∃i j,x=.str i/\y=.str j/\i.length+j.length<=sizeLine/\Q (.str (i++j)) H) (RZ Pb (bj 4) Cq (KZ (bj 3))) (fQ Ni (bj 1) (fQ (rI (fun _ j=>0<j) fun i j=>.int (i%j)) (fQ (vK fun i j=>.int (i+j)) (bj 2) (fQ (rI Ku fun i j=>.int (i*j)) (tC (.int (5))) (bj 0))) (tC (.int (26)))))) (RZ Pb (bj 4) (KZ (bj 3)) Cq))) (cO (by rfl) T.dG (aa (pv 1) af)) (fun _ _ _ _=>(dj 0 (show List.Nodup [("_law_k": Str),("_law_letters": Str),("_law_first": Str),("_law_place": Str),("_law_stem": Str)] by decide +kernel))) (fun _ _ _ _=>bx) (fun _ _ _ _=>(ar bS (ar bS (dF GP (pv 4) eL (eK (pv 3))) (ax De (pv 1) (ar aV (ar bg (pv 2) (ar d5 ae (pv 0))) ae) (fun _ _=>rfl))) (dF GP (pv 4) (eK (pv 3)) eL)))))))))))),?_⟩
  ac_rfl;left
  by_cases q:c%4=0
  ·refine cj (by show decide (V.int (c%4)=V.int 0)=true;rw[q];rfl) ?_
   left;refine cj (ze nofun) ?_;left;exists by omega,nofun,?_
   have f0:0<=c/4%26:=zv _ (by decide);have f1:c/4%26<26:=zr _ (by decide);refine lP (fun k=>.str (qk ⟨#[97+(c/4%26).toNat]⟩ (m.toNat-k))) (fun σ=>∃v,σ=[v,some (.int m),some (.str lets),some (.int (c/4%26))]) nofun ⟨none,rfl⟩ ?_ ?_
   ·rintro k σ H4 R hk s4 ⟨_,rfl⟩ r
    left;exists lets,_,_,rfl,rfl,(by show 26<=sizeLine;omega),IG f0 f1,?_;left;exists by omega,nofun,(by show 1<=1000;decide),?_
    refine r _ _ _ (au.refl _) ?_ ⟨_,rfl⟩;rw[show(m-(0+(k:Int))).toNat=m.toNat-k from by omega];exact eT
   ·intro D vs H4 s4 _ hD il
    have e:(List.range m.toNat).map (fun k=>Dt.str (qk ⟨#[97+(c/4%26).toNat]⟩ (m.toNat-k)))=((List.range m.toNat).map fun k=>qk ⟨#[97+(c/4%26).toNat]⟩ (m.toNat-k)).map Dt.str:=by rw[zA];rfl
    rw[e] at il;rw[dR il] at hD;exact kk _ D H4 (by rw[za,zQ]) (JJ nofun (L4 f0 f1)) s4 hD
  ·refine cw (by show decide (V.int (c%4)=V.int 0)=false;exact zd fun z=>q (V.int.inj z)) ?_
   have f0:0<=c/4%26:=zv _ (by decide);have f1:c/4%26<26:=zr _ (by decide);have z0:0<=c/104%12:=zv _ (by decide);have z1:c/104%12<12:=zr _ (by decide);have y0:0<=c/1248%(c/104%12+1):=zv _ nofun;have y1:c/1248%(c/104%12+1)<c/104%12+1:=zr _ nofun;have x0:0<=c/16224:=zV c0 (by decide);have x1:c/16224<=c:=zW _ c0;left;exists by show 0<c/104%12+1;omega,?_
   left;exists by omega,nofun,?_
   refine lP (fun k=>.str ⟨#[M7 ((c/16224+7*(0+(k:Nat)))%36)]⟩) (fun σ=>∃v,σ=[v,some (.int c),some (.str lets)]) nofun ⟨none,rfl⟩ ?_ ?_
   ·rintro k σ H4 R hk s4 ⟨_,rfl⟩ r
    left;exists by show 26+10<=sizeLine;omega,?_
    left;have w0:0<=(c/16224+7*(0+(k:Int)))%36:=zv _ (by decide);have w1:(c/16224+7*(0+(k:Int)))%36<36:=zr _ (by decide);refine⟨lets ++"0123456789",_,_,rfl,rfl,by show 36<=sizeLine;omega,(Lc w0 w1).1,?_⟩;exact r _ _ _ (au.refl _) eT ⟨_,rfl⟩
   ·intro D vs H4 s4 _ hD il
    have e:(List.range (c/104%12).toNat).map (fun k:Nat=>Dt.str ⟨#[M7 ((c/16224+7*(0+(k:Nat)))%36)]⟩)=(m7 c (c/104%12).toNat).map Dt.str:=by unfold m7;rw[zA];rfl
    rw[e] at il;rw[dR il] at hD;exists "",D,m7 c (c/104%12).toNat,rfl,rfl,aL.of hD,by rw[K6];omega,?_
    left;exists by omega,nofun,?_
    have sln:=K8 c (c/104%12).toNat;have ssg:=K7 (c:=c) (n:=(c/104%12).toNat);generalize hst:Str.join "" (m7 c (c/104%12).toNat)=stem at sln ssg;obtain⟨pn,hpn⟩:∃n:Nat,c/1248%(c/104%12+1)=(n:Int):=⟨(c/1248%(c/104%12+1)).toNat,nofun⟩
    obtain⟨fn,hfn⟩:∃n:Nat,c/4%26=(n:Int):=⟨(c/4%26).toNat,nofun⟩
    have pb:pn<=stem.length:=nofun
    have l1:(Txt.slice stem none (some (pn:Int))).length<=11:=by
     rw[<-show _=(Txt.slice stem none (some (pn:Int))).length from Array.length_toList,EI stem pb,zP];omega
    have l2:(Txt.slice stem (some (pn:Int)) none).length<=11:=by
     rw[<-show _=(Txt.slice stem (some (pn:Int)) none).length from Array.length_toList,pW stem pb,List.length_drop,show stem.cps.toList.length=stem.length from Array.length_toList];omega
    refine lP (fun k=>.str (Txt.slice stem none (some (pn:Int))++⟨#[97+(fn+5*k)%26]⟩++Txt.slice stem (some (pn:Int)) none)) (fun σ=>∃v,σ=[v,some (.str lets),some (.int (fn:Int)),some (.int (pn:Int)),some (.str stem)]) nofun ⟨none,by rw[<-hpn,<-hfn];rfl⟩ ?_ ?_
    ·rintro k σ H5 R hk s5 ⟨_,rfl⟩ r
     left;exists by omega,?_
     left;have w0:0<=((fn:Int)+5*(0+(k:Int)))%26:=zv _ (by decide);have w1:((fn:Int)+5*(0+(k:Int)))%26<26:=zr _ (by decide);have we:(((fn:Int)+5*(0+(k:Int)))%26).toNat=(fn+5*k)%26:=nofun
     refine⟨lets,_,_,rfl,rfl,by show 26<=sizeLine;omega,IG w0 w1,?_⟩;rw[we];have l3:(⟨#[97+(fn+5*k)%26]⟩:Str).length=1:=rfl;refine⟨_,_,rfl,rfl,nofun,?_⟩;left;exists by omega,?_
     refine⟨_,_,rfl,rfl,by rw[len_app];omega,?_⟩;exact r _ _ _ (au.refl _) eT ⟨_,rfl⟩
    ·intro D2 vs2 H5 s5 _ hD2 il2
     have e:(List.range m.toNat).map (fun k=>Dt.str (Txt.slice stem none (some (pn:Int))++⟨#[97+(fn+5*k)%26]⟩++Txt.slice stem (some (pn:Int)) none))=((List.range m.toNat).map fun k=>Txt.slice stem none (some (pn:Int))++⟨#[97+(fn+5*k)%26]⟩++Txt.slice stem (some (pn:Int)) none).map Dt.str:=by rw[zA];rfl
     rw[e] at il2;rw[dR il2] at hD2;exact kk _ D2 H5 (by rw[za,zQ]) (G6 nofun pb ssg nofun) (s4.trans s5) hD2
def tD:Sp:=fun vs H Q _=>∃(m:Int),vs=[.int m]/\0<=m/\∀q p H',MI q->au H H'->H' p=some (lZ q)->Q (.ref p) H'
theorem gs:aD ["_law_m","_law_f","_law_high"] ["_law_m"] (ao mq):=dJ
theorem tT (T:Txt K mg):dm P w base 1 T.kz tD:=by
 refine T.kz.F.dH gs fun _ _ _ _ H vs Q E hr h=>?_
 ·obtain⟨m,rfl,m0,kk⟩:=h
  have a:=zv m (b:=41) (by decide);have b:=zr m (b:=41) (by decide);have c:=zv (m/41) (b:=14) (by decide);have d:=zr (m/41) (b:=14) (by decide);refine⟨_,(ag (bW 1 gs.nd (ar kf (ar aV (pv 0) ae) ae))
   (ag (bW 2 gs.nd (ar d5 (ar kf (ar aV (ar aW (pv 0) ae) ae) ae) ae))
   (aj (aq (bK (aa (pv 1) (aa (ar bg (ar aV (ar d5 ae (pv 1)) ae) (pv 2)) af))))))),?_⟩
  ac_rfl;left;exists du,?_;right;rename_i p1 H1 s1 h1;left;exact kk _ _ _ (JE m) s1 h1
def tG:Sp:=fun vs H Q _=>∃(m:Int) (x:Int×Int) (q:Addr),vs=[.int m,.ref q]/\H q=some (lZ x)/\0<=m/\m<1099511627776/\Kr x/\∀(its:List Item) p us H',Ed its x->au H H'->H p=none->H' p=some (.lst us)->L2.IsL H' (its.map eV) us->Q (.ref p) H'
theorem di:aD ["_law_m","_law_length","_law_many","_law_weights","_law_items","_law_j","_law_each"] ["_law_m","_law_length"] (ao mz):=dJ
theorem tV (T:Txt K mg):dm P w base 2 T.kB tG:=by
 refine T.kB.F.dH di fun _ _ _ _ H vs Q E hr h=>?_
 ·obtain⟨m,x,q,rfl,hq,m0,m1,xok,kk⟩:=h
  have sl:=yB;have a:=zv m (b:=6) (by decide);have b:=zr m (b:=6) (by decide);obtain⟨n,hn⟩:∃n:Nat,1+m%6=(n:Int):=⟨(1+m%6).toNat,nofun⟩
  refine⟨_,(ag (bW 2 di.nd (ar bg ae (ar aV (pv 0) ae)))
   (ag (MP (i:=3) (ts:=["_law_j"]) (ys:=["_law_m"]) (js:=[0]) (g:=(bc 0)) (tc:=dt) (te:=(fQ (vK fun i j=>.int (i+j)) (tC (.int (1))) (fQ (rI (fun _ j=>0<j) fun i j=>.int (i%j)) (fQ (rI Qe fun i j=>.int (i/j)) (bj 1) (fQ (vK fun i j=>.int (i+j)) (tC (.int (7))) (fQ (rI Ku fun i j=>.int (i*j)) (tC (.int (5))) (bj 0)))) (tC (.int (4)))))) (cO (by rfl) T.dG (aa (pv 2) af)) (fun _ _ _ _=>(dj 0 (show List.Nodup [("_law_j": Str),("_law_m": Str)] by decide +kernel))) (fun _ _ _ _=>bx) (fun _ _ _ _=>(ar bg ae (ar aV (ar aW (pv 1) (ar bg ae (ar d5 ae (pv 0)))) ae))) di.nd)
   (ag (bW 4 di.nd (bD af))
   (ag (cE PassesOwn.never rfl (cO (by rfl) T.dG (aa (pv 2) af)) (dj 5 di.nd)
   (ag (bW 6 di.nd (bR (fY T) hr T.fN (aa (ar d5 (ax aA (pv 1) ae (fun _ _=>rfl)) (ax aN (pv 3) (pv 5) (fun _ _=>rfl))) (aa (ar d5 (ax aA (pv 1) ae (fun _ _=>rfl)) (eX (Ka rfl) T.QL (aa (pv 3) af))) af))))
    (aj (aI (PW.pt (cV (ay jR (pv 5) (ar aV (ar aW (pv 0) ae) (pv 2)) (aE _)) (cK (ay de (ar Pt (ar Pr (ar aW (pv 0) ae) (pv 5)) ae) ae (aE _)))))
    (aj (bT (cu PySem.F.plainAttrs_list PySem.F.slot_list_append PySem.F.type_list_append bM (pv 4) (aa (bK (aa aU (aa (pv 6) af))) af))))
    (aj (bT (cu PySem.F.plainAttrs_list PySem.F.slot_list_append PySem.F.type_list_append bM (pv 4) (aa (bK (aa (bR (tT T) hr T.kz (aa (ar aW (pv 0) (ar bg ae (ar d5 ae (pv 5)))) af)) (aa (pv 6) af))) af))))))))
   (aj (aq (pv 4))))))),?_⟩
  ac_rfl;left;exists by omega,nofun,?_
  rw[show(1+m%6).toNat=n from by omega];refine lP (fun j=>.int (1+m/(7+5*(0+(j:Nat)))%4)) (fun σ=>∃v,σ=[v,some (.int m)]) nofun ⟨none,rfl⟩ ?_ ?_
  ·rintro j σ H1 R hj s1 ⟨_,rfl⟩ r
   left;exists⟨nofun,nofun⟩,?_;left;exact r _ _ _ (au.refl _) cR ⟨_,rfl⟩
  ·intro D0 vs0 H1 s1 _ hD0 il0
   have e:(List.range n).map (fun j:Nat=>Dt.int (1+m/(7+5*(0+(j:Nat)))%4))=(sW m n).map Dt.int:=by unfold sW;rw[zA];rfl
   rw[e] at il0;rw[fF il0] at hD0;left;exists by show 0<=sizeLine;omega,?_
   intro D nD;have s2:au H1 (upd H1 D (.lst [])):=aZ nD;have h2:upd H1 D (.lst []) D=some (.lst []):=aF;generalize upd H1 D (.lst [])=H2 at s2 h2 ⊢;have nDH:H D=none:=s1.back nD;left;exists by omega,nofun,?_
   rw[show(1+m%6).toNat=n from by omega];obtain⟨xr,x1,x2,x3⟩:=id xok;obtain⟨_,xp,_⟩:=xr.pos;have wl:=MV m n;have wb:=K4 (l:=sW m n) fun w hw=>GA hw;have W0:0<(sW m n).sum:=nofun
   have W2:(sW m n).sum<=24:=nofun
   have j0a:0<=m/4%(n:Int):=zv _ nofun;have j0b:m/4%(n:Int)<n:=zr _ nofun;refine gy (fun i σ H'=>∃(its:List Item) (us:List V) (v5 v6:Option V),σ=[some (.int m),some (.ref q),some (.int (1+m%6)),some (.ref D0),some (.ref D),v5,v6]/\au H1 H'/\H' D=some (.lst us)/\L2.IsL H' (its.map eV) us/\its.length=i/\(∀it∈its,Ks it)/\
    j7 its=red (x.1*((sW m n).take i).sum) (x.2*(sW m n).sum)/\(m/4%(n:Int)<i->its.all (fun it=>it.1.isNone)=false)) ⟨[],[],none,none,rfl,s2,h2,cG,rfl,by simp,K3 xp W0,fun z=>by exfalso;simp at z;omega⟩ ?_ ?_
   ·intro i σ H3 hi hh
    refine dU fun N kN0 kR0 _ _=>?_;obtain⟨its,us,v5,v6,rfl,s3,h3,il3,il,iok,isum,ino⟩:=hh;have hq3:=s3 _ _ (s1 _ _ hq);have hD3:=s3 _ _ hD0;have hwi:(sW m n)[i]?=some ((sW m n)[i]'nofun):=zb nofun;obtain⟨w1,w2⟩:=GA (zB hwi);generalize (sW m n)[i]'nofun=wi at hwi w1 w2;left;refine⟨D0,_,_,_,rfl,rfl,aL.of hD3,(by rw[Int.zero_add];exact bF (by rw[zJ,hwi];rfl)),?_⟩;left;exists .inl ⟨nofun,nofun⟩,?_;left;exists D0,_,rfl,aL.of hD3,fun w hw=>by have:=GA hw;omega,nofun,?_
    left;exists .inl ⟨nofun,nofun⟩,?_;have lk:=LY xok w1 w2 W0 W2;have b1:0<x.2*(sW m n).sum:=Int.mul_pos xp W0;have b2:x.2*(sW m n).sum<=160*24:=Int.mul_le_mul x3 W2 nofun (by decide);have t0:0<=x.1*wi:=Int.mul_nonneg nofun nofun;refine⟨_,_,rfl,t0,b1,(dn (n:=12) nofun nofun).mono (by decide),fun p6 H6 s6 h6=>?_⟩;left;exists by show 0<1+m%6;omega,?_
    left;have nD6:H6 D=some (.lst us):=s6 _ _ h3;have il6:=il3.mono s6;have e6:(sW m n).take (i+1)=(sW m n).take i++[wi]:=cU hwi;have ps:∀it:Item,it.2=red (x.1*wi) (x.2*(sW m n).sum)->j7 (its++[it])=red (x.1*((sW m n).take (i+1)).sum) (x.2*(sW m n).sum):=fun it e=>by
     rw[e6,List.sum_append];have:[wi].sum=wi:=by simp
     rw[this];exact K2 xp W0 isum e
    refine eE ((!decide (V.int (0+(i:Int))=V.int (m/4%(1+m%6))))&&decide (V.int (Builtin.bitAnd (m/16/2^(0+(i:Int)).toNat) 1)=V.int 1)) ?_ ?_ ?_
    ·intro c Z hz
     rw[c,Bool.true_and] at hz;left;exists by show 0<=0+(i:Int);omega,?_
     left;exact hz
    ·intro c;rw[c,Bool.false_and]
    ·cases qv:((!decide (V.int (0+(i:Int))=V.int (m/4%(1+m%6))))&&decide (V.int (Builtin.bitAnd (m/16/2^(0+(i:Int)).toNat) 1)=V.int 1)) with
     | true=>
      have ne:(i:Int)≠m/4%(n:Int):=fun z=>by
       rw[Int.zero_add,z,hn] at qv;simp at qv
      left;exists .inl ⟨rfl,_,aL.of nD6⟩,?_;left;exists du,?_;right;rename_i p7 H7 s7 h7;exists D,us,_,rfl,rfl,s7 _ _ nD6,(by have:=aS il3;omega),?_;left;have nt:cP (H7 D):=by rw[s7 _ _ nD6];exact fun _ z=>by cases z
      have it7:Is H7 (eV (none,red (x.1*wi) (x.2*(sW m n).sum))) (.ref p7):=cB h7 (aQ d7 (aQ (iK (s7 _ _ h6)) cG));refine⟨its++[(none,red (x.1*wi) (x.2*(sW m n).sum))],_,_,_,rfl,cM nD ((s3.trans s6).trans s7),aF,?_,by rw[zg,il];rfl,fun it hit=>?_,ps _ rfl,fun z=>?_⟩
      ·rw[zj]
       exact cT (Is.upd nt it7) (IsL.upd nt (il6.mono s7))
      ·rcases zF.mp hit with y | y
       ·exact iok it y
       ·rw[zy.mp y];exact⟨lk,fun q z=>by cases z⟩
      ·rw[List.all_append,ino nofun,Bool.false_and]
     | false=>
      left;exists .inl ⟨rfl,_,aL.of nD6⟩,?_;left;exists⟨nofun,nofun⟩,?_;left;exists zV m0 nofun,fun pq p8 H8 pok s8 h8=>?_;left;exists du,?_;right;rename_i p7 H7 s7 h7;have s67:=s8.trans s7;refine⟨D,us,_,rfl,rfl,s67 _ _ nD6,by have:=aS il3;omega,?_⟩;left;have nt:cP (H7 D):=by rw[s67 _ _ nD6];exact fun _ z=>by cases z
      have it7:Is H7 (eV (some pq,red (x.1*wi) (x.2*(sW m n).sum))) (.ref p7):=cB h7 (aQ (iK (s7 _ _ h8)) (aQ (iK (s67 _ _ h6)) cG));refine⟨its++[(some pq,red (x.1*wi) (x.2*(sW m n).sum))],_,_,_,rfl,cM nD ((s3.trans s6).trans s67),aF,?_,by rw[zg,il];rfl,fun it hit=>?_,ps _ rfl,fun z=>?_⟩
      ·rw[zj]
       exact cT (Is.upd nt it7) (IsL.upd nt (il6.mono s67))
      ·rcases zF.mp hit with y | y
       ·exact iok it y
       ·rw[zy.mp y];exact⟨lk,fun q z=>by cases z;exact pok⟩
      ·rw[List.all_append];simp
   ·rintro σ H3 ⟨its,us,v5,v6,rfl,s3,h3,il3,il,iok,isum,ino⟩
    left;refine kk its D us H3 ⟨nofun,iok,?_,ino j0b⟩ (s1.trans s3) nDH h3 il3;rw[isum,show(sW m n).take n=sW m n from List.take_of_length_le nofun,Jr xr W0]
noncomputable def Hg:List (Int×Int):=[(4,4),(3,4),(6,8),(2,2),(5,16),(7,8),(1,32),(12,1)]
def Kv (b:Sc.KA):Prop:=b.aT∈Hg/\-7<=b.key/\b.key<=7/\(∀n∈b.marks,gk n)/\b.marks.length<=2
def vD:Sp:=fun vs H Q _=>∃(c n:Int),vs=[.int c,.int n]/\0<=n/\n<=200/\∀(bs:List Sc.KA) p us H',bs.length=n.toNat->(∀b∈bs,Kv b)->au H H'->H p=none->H' p=some (.lst us)->L2.IsL H' (bs.map kQ) us->Q (.ref p) H'
theorem bX:aD ["_law_cell","_law_many","_law_bars","_law_k","_law_m","_law_metre","_law_key","_law_marks"] ["_law_cell","_law_many"] (ao nQ):=dJ
theorem vS (T:Txt K mg):dm P w base 2 T.lY vD:=by
 refine T.lY.F.dH bX fun _ _ _ _ H vs Q E hr h=>?_
 ·obtain⟨c,n,rfl,n0,n1,kk⟩:=h
  have sl:=yB;refine⟨_,(ag (bW 2 bX.nd (bD af))
   (ag (cE PassesOwn.never rfl (cO (by rfl) T.dG (aa (pv 1) af)) (dj 3 bX.nd)
   (zf (zc (zS (bW 4 bX.nd (bR (bP T) hr T.cx (aa (pv 0) (aa (ar bg (pv 3) ae) af)))))
    (zc (Si 5 bX.nd (Nq Hg (ar aV (pv 4) ae) (fun _ _=>rfl)))
    (zc (zS (bW 6 bX.nd (ar kf (ar aV (ar aW (pv 4) ae) ae) ae)))
    (zc (zS (aI (PW.pt (cV (ay fu (pv 3) ae (aE _)) (cK (ay fu (ar aV (ar aW (pv 4) ae) ae) ae (aE _)))))
    (aj (bW 5 bX.nd (ax aA (ax aN (pv 2) (rT kY ae) (fun _ _=>rfl)) ae (fun _ _=>rfl))))
    aB))
    (zc (zS (aI (PW.pt (cV (ay fu (pv 3) ae (aE _)) (cK (ay fu (ar aV (ar aW (pv 4) ae) ae) ae (aE _)))))
    (aj (bW 6 bX.nd (ax aA (ax aN (pv 2) (rT kY ae) (fun _ _=>rfl)) ae (fun _ _=>rfl))))
    aB))
    (zc (zS (bW 7 bX.nd (mV cL T.iG (aa (bR (e9 T) hr T.eF (aa (ar aW (pv 4) ae) (aa (ax aN (bD (aa ae (aa ae (aa ae (aa ae (aa ae (aa ae (aa ae af)))))))) (ar aV (ar aW (pv 4) ae) ae) (fun _ _=>rfl)) af))) af))))
    (zo (zS (bT (cu PySem.F.plainAttrs_list PySem.F.slot_list_append PySem.F.type_list_append bM (pv 2) (aa (bK (aa (pv 5) (aa (pv 6) (aa (pv 7) af)))) af)))))))))))))
   (aj (aq (pv 2))))),?_⟩
  ac_rfl;left;exists by show 0<=sizeLine;omega,?_
  intro D nD;have s2:au H (upd H D (.lst [])):=aZ nD;have h2:upd H D (.lst []) D=some (.lst []):=aF;generalize upd H D (.lst [])=H2 at s2 h2 ⊢;left;exists by omega,nofun,?_
  refine gy (fun i σ H'=>∃(bs:List Sc.KA) (us:List V),Lo [some (.int c),some (.int n),some (.ref D)] 5 σ/\au H H'/\H' D=some (.lst us)/\L2.IsL H' (bs.map kQ) us/\bs.length=i/\∀b∈bs,Kv b)
   ⟨[],[],Lo.of rfl rfl,s2,h2,cG,rfl,by simp⟩ ?_ ?_
  ·intro i σ H3 hi hh
   refine dU fun N kN0 kR0 _ _=>?_;obtain⟨bs,us,⟨e,rfl⟩,s3,h3,il3,bl,bok⟩:=hh;left;exists c,_,rfl,nofun,nofun,?_;have m0:0<=mixed c (0+(i:Int)+20):=zv _ (by decide);have m1:mixed c (0+(i:Int)+20)<2147483399:=zr _ (by decide);generalize mixed c (0+(i:Int)+20)=m at m0 m1;have a0:0<=m%8:=zv _ (by decide);have a1:m%8<8:=zr _ (by decide);have b0:0<=m/8%15:=zv _ (by decide);have b1:m/8%15<15:=zr _ (by decide);left;intro D4 vs4 H4 s4 h4 il4;left;obtain⟨j,hj⟩:∃j:Nat,m%8=(j:Int):=⟨(m%8).toNat,nofun⟩
   have vl4:=aS il4;have jl:j<vs4.length:=by rw[vl4];show j<8;omega
   obtain⟨mx,hmx,imx⟩:=dz (d:=dL) il4 (i:=j) (zb jl);generalize hmv:vs4[j]=mv at imx;have h3':=s4 _ _ h3;have il3':=il3.mono s4;refine⟨D4,vs4,m%8,mv,rfl,rfl,aL.of h4,(by rw[hj];exact bF (by rw[<-hmv];exact zb jl)),?_⟩;left;have lastB:0<(i:Int)->∃b a mt q,us[us.length-1]?=some (.ref a)/\H4 a=some (.tup [mt,.int b.key,.ref q])/\Is H4 (dL b.aT) mt/\b∈bs:=fun ip=>by
    have ul:=aS il3';obtain⟨b,hb,ib⟩:=dz il3' (i:=us.length-1) (zb nofun);obtain⟨a,mt,q,ea,ha,hm,_⟩:=wH ib;exact⟨b,a,mt,q,by rw[<-ea];exact zb nofun,ha,hm,zB hb⟩
   refine eE (decide (0<0+(i:Int))&&decide (0<m/120%4)) ?_ ?_ ?_
   ·intro c1 Z hz
    rw[c1,Bool.true_and] at hz;left;exact hz
   ·intro c1;rw[c1,Bool.false_and]
   refine join (fun σ H'=>H'=H4/\∃mv x,σ=[some (.int c),some (.int n),some (.ref D),some (.int (0+(i:Int))),some (.int m),some mv,some (.int (m/8%15-7)),e 4]/\Is H4 (dL x) mv/\x∈Hg) (fun N hN c1=>?_) (fun N hN c1=>?_) ?_
   ·have ip:0<(i:Int):=by simp at c1;omega
    obtain⟨b,a,mt,q,hl,ha,hm,hb⟩:=lastB ip;left;exists D,us,-1,_,rfl,rfl,aL.of h3',sP hl,?_;left;exact hN _ _ ⟨rfl,mt,b.aT,rfl,hm,(bok b hb).1⟩
   ·left
    exact hN _ _ ⟨rfl,mv,mx,rfl,imx,zB hmx⟩
   clear imx hmv;rintro σ5 H5 ⟨e5,mv,x,rfl,imv,hx⟩;rw[e5];clear e5 H5;left;refine eE (decide (0<0+(i:Int))&&decide (0<m/480%5)) ?_ ?_ ?_
   ·intro c1 Z hz
    rw[c1,Bool.true_and] at hz;left;exact hz
   ·intro c1;rw[c1,Bool.false_and]
   refine join (fun σ H'=>H'=H4/\∃k:Int,σ=[some (.int c),some (.int n),some (.ref D),some (.int (0+(i:Int))),some (.int m),some mv,some (.int k),e 4]/\-7<=k/\k<=7) (fun N hN c1=>?_) (fun N hN c1=>?_) ?_
   ·have ip:0<(i:Int):=by simp at c1;omega
    obtain⟨b,a,mt,q,hl,ha,hm,hb⟩:=lastB ip;left;exists D,us,-1,_,rfl,rfl,aL.of h3',sP hl,?_;left;exact hN _ _ ⟨rfl,b.key,rfl,(bok b hb).2.1,(bok b hb).2.2.1⟩
   ·left
    exact hN _ _ ⟨rfl,m/8%15-7,rfl,nofun,nofun⟩
   rintro σ5 H5 ⟨e5,k,rfl,k0,k1⟩;rw[e5];clear e5 H5;left;exists by show 7<=sizeLine;omega,?_
   right;rename_i p6 H6 s6 h6;have g0:0<=m/33600%7:=zv _ (by decide);have g1:m/33600%7<7:=zr _ (by decide);obtain⟨jj,hjj⟩:∃j:Nat,m/33600%7=(j:Int):=⟨(m/33600%7).toNat,nofun⟩
   obtain⟨z,hz,z0,z1⟩:∃z:Int,[V.int 0,V.int 0,V.int 0,V.int 0,V.int 0,V.int 1,V.int 2][jj]?=some (.int z)/\0<=z/\z<=2:=by
    have:jj<7:=nofun
    match jj,this with
    | 0,_=>exact⟨0,rfl,by decide,by decide⟩
    | 1,_=>exact⟨0,rfl,by decide,by decide⟩
    | 2,_=>exact⟨0,rfl,by decide,by decide⟩
    | 3,_=>exact⟨0,rfl,by decide,by decide⟩
    | 4,_=>exact⟨0,rfl,by decide,by decide⟩
    | 5,_=>exact⟨1,rfl,by decide,by decide⟩
    | 6,_=>exact⟨2,rfl,by decide,by decide⟩
   left;exists p6,_,m/33600%7,.int z,rfl,rfl,aL.of h6,(by rw[hjj];exact bF hz),?_;left;refine⟨_,z,rfl,zV m0 (by decide),?_,z0,nofun,fun ns p7 H7 nl nok s7 h7=>?_⟩
   ·have:=zW (a:=m) 2400 m0;omega
   left;refine⟨p7,_,rfl,.inl ⟨aL.of h7,?_⟩⟩;right;rename_i p8 H8 s8 h8;have s48:=(s6.trans s7).trans s8;have h38:=s48 _ _ h3';left;exists .inl ⟨rfl,_,aL.of h38⟩,?_;left;exists ng,?_;right;rename_i p9 H9 s9 h9;exists D,us,_,rfl,rfl,s9 _ _ h38,(by have:=aS il3;omega),?_;left;have s49:=s48.trans s9;have nt:cP (H9 D):=by rw[s9 _ _ h38];exact fun _ z=>by cases z
   have ib:Is H9 (kQ ⟨x,k,ns⟩) (.ref p9):=cB h9 (aQ (imv.mono s49) (aQ cR (aQ (cB (s9 _ _ h8) (yI ns)) cG)));refine⟨bs++[⟨x,k,ns⟩],_,Lo.of rfl rfl,cM nD ((s3.trans s4).trans s49),aF,?_,by rw[zg,bl];rfl,fun b hb=>?_⟩
   ·rw[zj]
    exact cT (Is.upd nt ib) (IsL.upd nt (il3'.mono s49))
   ·rcases zF.mp hb with y | y
    ·exact bok b y
    ·rw[zy.mp y]
     exact⟨hx,k0,k1,nok.1,by show ns.length<=2;omega⟩
  ·rintro σ H3 ⟨bs,us,⟨e,rfl⟩,s3,h3,il3,bl,bok⟩
   left;exact kk bs D us H3 bl bok s3 nD h3 il3
def qX:Sp:=fun vs H Q _=>∃(bl:Addr) (us:List V) (S:cJ) (ub:V) (b:Nat),vs=[.ref bl,ub,.int b]/\H bl=some (.lst us)/\L2.IsL H (S.aP.map kQ) us/\Is H (dO dL S.aH) ub/\b<S.aP.length/\(∀x∈S.aP,Kv x)/\∀p H',au H H'->H' p=some (lZ (S.len b))->Q (.ref p) H'
theorem lJ {x:Int×Int} (h:x∈Hg):1<=x.1/\x.1<=12/\x.2∈Bp/\1<=x.2/\x.2<=32:=by
 unfold Hg at h;simp only[zC,zD,or_false] at h;rcases h with rfl | rfl | rfl | rfl | rfl | rfl | rfl | rfl <;> decide
theorem rg:aD ["_law_bars","_law_upbeat","_law_bar"] ["_law_bars","_law_upbeat","_law_bar"] (ao kG):=dJ
theorem si (T:Txt K mg):dm P w base 2 T.jz qX:=by
 refine T.jz.F.dH rg fun _ _ _ _ H vs Q E hr h=>?_
 ·obtain⟨bl,us,S,ub,b,rfl,hbl,il,iu,hb,bok,kk⟩:=h
  have ul:=aS il;obtain⟨x,hx,ix⟩:=dz il (i:=b) (zb nofun);obtain⟨a1,mv,q,ev,h1,im,_⟩:=wH ix;obtain⟨m1,m2,m3,m4,m5⟩:=lJ (bok x (zB hx)).1;have em:S.aT b=red x.aT.1 x.aT.2:=by unfold cJ.aT;rw[hx]
  cases fj (o:=some x.aT) im with
  | ref hm=>
  rename_i am;refine⟨_,(ag (aI (PW.pt (cV (ay de (pv 2) ae (aE _)) (cK (bA (fE (pv 1))))))
   (aj (aq (pv 1)))
   aB)
   (aj (aq (bR (fY T) hr T.fN (aa (ax aA (ax aA (ax aN (pv 0) (pv 2) (fun _ _=>rfl)) ae (fun _ _=>rfl)) ae (fun _ _=>rfl)) (aa (ax aA (ax aA (ax aN (pv 0) (pv 2) (fun _ _=>rfl)) ae (fun _ _=>rfl)) ae (fun _ _=>rfl)) af)))))),?_⟩
  ac_rfl;left;have nz:∀H1,Is H1 (dO dL S.aH) ub->(!decide (ub=V.bE))=S.aH.isSome:=fun H1 z=>by
   cases q:S.aH with
   | none=>rw[q] at z;unfold dO Is at z;rw[z];rfl
   | some u=>
    rw[q] at z;cases fj (o:=some u) z with
    | ref hu=>rfl
  refine eE (decide (V.int (b:Int)=V.int 0)&&S.aH.isSome) ?_ ?_ ?_
  ·intro c Z hz
   rw[c,Bool.true_and,<-nz H iu] at hz;left;exact hz
  ·intro c;rw[c,Bool.false_and]
  ·cases qv:(decide (V.int (b:Int)=V.int 0)&&S.aH.isSome) with
   | true=>
    rw[zN] at qv;have b0:b=0:=by have:=V.int.inj (yd qv.1);omega
    cases q:S.aH with
    | none=>rw[q] at qv;cases qv.2
    | some u=>
     rw[q] at iu;cases fj (o:=some u) iu with
     | ref hu=>
      left;refine kk _ _ (au.refl _) ?_;unfold cJ.len;rw[q];simp only[b0,if_true];exact hu
   | false=>
    have el:S.len b=S.aT b:=by
     unfold cJ.len;cases q:S.aH with
     | none=>rfl
     | some u=>
      rw[q] at qv;have:b≠0:=fun z=>by rw[z] at qv;simp at qv
      simp only[if_neg this]
    rw[el,em] at kk;left;refine⟨bl,us,b,_,rfl,rfl,aL.of hbl,bF (zb nofun),?_⟩;rw[ev];left;refine⟨bl,us,b,_,rfl,rfl,aL.of hbl,bF (zb nofun),?_⟩;rw[ev];left;exact⟨_,_,rfl,nofun,nofun,(dn (n:=10) nofun nofun).mono (by decide),kk⟩
def tH:Sp:=fun vs H Q _=>∃(c many:Int) (pp ip:Addr) (ps:List Str) (ins:List (Str×(Int×Int)×(Int×Int))) (iv:List V),vs=[.int c,.ref pp,.ref ip,.int many]/\H pp=some (.lst (ps.map V.str))/\H ip=some (.lst iv)/\L2.IsL H (ins.map eG) iv/\ps.length<=100/\ins.length<=100/\many<=200/\
 ∀(hs:List (Str×List (Int×Str))) D us H',List.Sublist (hs.map (·.1)) ps->(∀x∈hs,I9 (ins.map (·.1)) many x.2)->au H H'->H' D=some (.lst us)->RL (jC D H') hs us->Q (.ref D) H'
theorem JP {H:Hp} {x:Str×(Int×Int)×(Int×Int)} {v:V} (h:Is H (eG x) v):∃a t l,v=.ref a/\H a=some (.tup [.str x.1,t,l]):=by
 unfold eG Is at h;obtain⟨a,vs,rfl,ha,hl⟩:=h;unfold L2.IsL at hl;obtain⟨v1,r1,rfl,h1,hl⟩:=hl;unfold L2.IsL at hl;obtain⟨v2,r2,rfl,h2,hl⟩:=hl;unfold L2.IsL at hl;obtain⟨v3,r3,rfl,h3,hl⟩:=hl;unfold L2.IsL at hl;subst hl;unfold Is at h1;subst h1;exact⟨a,v2,v3,rfl,ha⟩
theorem bH:aD ["_law_cell","_law_players","_law_instruments","_law_many","_law_holds","_law_k","_law_player","_law_row","_law_bar","_law_j","_law_m"] ["_law_cell","_law_players","_law_instruments","_law_many"] (ao mB):=dJ
theorem tW (T:Txt K mg):dm P w base 2 T.kC tH:=by
 refine T.kC.F.dH bH fun _ _ _ _ H vs Q E hr h=>?_
 ·obtain⟨c,many,pp,ip,ps,ins,iv,rfl,hpp,hip,ili,pl,il0,my,kk⟩:=h
  have sl:=yB;have ivl:=aS ili;refine⟨_,(ag (bW 4 bH.nd (bD af))
   (ag (cE PassesOwn.never rfl (wF (by rfl) T.jU (aa (pv 1) af)) (dY (n:=2) rfl (aO (dj 5 bH.nd) (aO (dj 6 bH.nd) cX)))
   (ag (bW 7 bH.nd (bD af))
    (ag (bW 8 bH.nd ae)
    (ag (cE PassesOwn.never rfl (cO (by rfl) T.dG (aa ae af)) (dj 9 bH.nd)
    (ag (bW 10 bH.nd (bR (bP T) hr T.cx (aa (pv 0) (aa (ar bg (ar bg (ar d5 ae (pv 5)) (pv 9)) ae) af))))
     (ag (bW 8 bH.nd (ar bg (pv 8) (ar aV (pv 10) ae)))
     (ag (aI (PW.pt (cV (ay fg (pv 8) (pv 3) (aE _)) (cV (ay fu (eX aC T.bB (aa (pv 2) af)) ae (aE _)) (cK (ay fu (ar aV (ar aW (pv 10) ae) ae) ae (aE _))))))
     (aj (bT (cu PySem.F.plainAttrs_list PySem.F.slot_list_append PySem.F.type_list_append bM (pv 7) (aa (bK (aa (pv 8) (aa (ax aA (ax aN (pv 2) (ar aV (ar aW (pv 10) ae) (eX aC T.bB (aa (pv 2) af))) (fun _ _=>rfl)) ae (fun _ _=>rfl)) af))) af))))
     aB)
     (aj (bW 8 bH.nd (ar bg (pv 8) ae)))))))
    (aj (aI (ay (CU hr.units) (pv 7) (bD af) (aE _))
    (aj (bT (cu PySem.F.plainAttrs_list PySem.F.slot_list_append PySem.F.type_list_append bM (pv 4) (aa (bK (aa (pv 6) (aa (pv 7) af))) af))))
    aB))))))
   (aj (aq (pv 4))))),?_⟩
  ac_rfl;left;exists by show 0<=sizeLine;omega,?_
  intro D nD;have s2:au H (upd H D (.lst [])):=aZ nD;have h2:upd H D (.lst []) D=some (.lst []):=aF;generalize upd H D (.lst [])=H2 at s2 h2 ⊢;left;exists pp,_,rfl,aL.of (s2 _ _ hpp),?_;refine sF (K:=K) (a:=pp) (xs:=ps.map V.str) (fun i σ H'=>∃(hs:List (Str×List (Int×Str))) (us:List V),Lo [some (.int c),some (.ref pp),some (.ref ip),some (.int many),some (.ref D)] 6 σ/\au H H'/\H' D=some (.lst us)/\RL (jC D H') hs us/\List.Sublist (hs.map (·.1)) (ps.take i)/\(∀x∈hs,I9 (ins.map (·.1)) many x.2)/\hs.length<=i)
   ⟨[],[],Lo.of rfl rfl,s2,h2,rfl,List.nil_sublist _,by simp,zk _⟩ (fun i σ H' _ h=>by obtain⟨_,_,_,z,_⟩:=h;exact aL.of (z _ _ hpp)) ?_ ?_
  ·intro i x σ H3 p H4 hx hh s34 hp4
   refine dU fun N kN0 kR0 _ _=>?_;obtain⟨hs,us,⟨e,rfl⟩,s3,h3,rl3,sub,rok,hl⟩:=hh;rw[zJ] at hx;cases qr:ps[i]? with
   | none=>rw[qr] at hx;cases hx
   | some pn=>
   rw[qr] at hx;simp only[Option.map_some,Option.some.injEq] at hx;subst hx;refine⟨p,_,rfl,dB.of hp4,rfl,?_⟩;refine⟨_,_,rfl,⟨_,_,rfl,⟨rfl,?_⟩⟩⟩;left;exists by show 0<=sizeLine;omega,?_
   intro R nR;have s5:au H4 (upd H4 R (.lst [])):=aZ nR;have h5:upd H4 R (.lst []) R=some (.lst []):=aF;generalize upd H4 R (.lst [])=H5 at s5 h5 ⊢;left;exists by decide,(by decide),?_
   refine gy (fun j σ H'=>∃(row:List (Int×Str)) (ws:List V) (bar:Int) (v9 va:Option V),σ=[some (.int c),some (.ref pp),some (.ref ip),some (.int many),some (.ref D),some (.int (i:Int)),some (.str pn),some (.ref R),some (.int bar),v9,va]/\au H4 H'/\H' R=some (.lst ws)/\L2.IsL H' (row.map HG) ws/\0<=bar/\row.length<=j/\(row.map (·.1)).Pairwise (·<·)/\
    ∀h∈row,0<=h.1/\h.1<many/\h.2∈ins.map (·.1)/\h.1<bar) ⟨[],[],0,e 4,e 5,rfl,s5,h5,cG,by decide,by simp,by simp,by simp⟩ ?_ ?_
   ·intro j σ H6 hj hh
    refine dU fun N kN1 kR1 _ _=>?_;obtain⟨row,ws,bar,v9,va,rfl,s6,h6,il6,b0,rl,asc,rin⟩:=hh;have s06:=(s3.trans s34).trans s6;left;have ib:i<ps.length:=(zw.mp qr).1;refine⟨c,_,rfl,nofun,nofun,?_⟩;have m0:0<=mixed c (7*(i:Int)+(0+(j:Int))+60):=zv _ (by decide);have m1:mixed c (7*(i:Int)+(0+(j:Int))+60)<2147483399:=zr _ (by decide);generalize mixed c (7*(i:Int)+(0+(j:Int))+60)=m at m0 m1;have a0:0<=m%5:=zv _ (by decide);left;have hip6:=s06 _ _ hip;refine eE (decide (bar+m%5<many)&&(decide (0<(ins.length:Int))&&decide (0<m/5%3))) ?_ ?_ ?_
    ·intro c1 Z hz
     rw[c1,Bool.true_and] at hz;left;exists ip,iv,rfl,.inl (aL.of hip6),?_;rw[ivl];left;refine eE (decide (0<(ins.length:Int))&&decide (0<m/5%3)) ?_ ?_ hz
     ·intro c2 Z hz
      rw[c2,Bool.true_and] at hz;left;exact hz
     ·intro c2;rw[c2,Bool.false_and]
    ·intro c1;rw[c1,Bool.false_and]
    refine join (fun σ H'=>∃(row:List (Int×Str)) (ws:List V),σ=[some (.int c),some (.ref pp),some (.ref ip),some (.int many),some (.ref D),some (.int (i:Int)),some (.str pn),some (.ref R),some (.int (bar+m%5)),some (.int (0+(j:Int))),some (.int m)]/\au H4 H'/\H' R=some (.lst ws)/\L2.IsL H' (row.map HG) ws/\row.length<=j+1/\(row.map (·.1)).Pairwise (·<·)/\
     ∀h∈row,0<=h.1/\h.1<many/\h.2∈ins.map (·.1)/\h.1<bar+m%5+1) (fun N hN c1=>?_) (fun N hN c1=>?_) ?_
    ·simp only[zN,decide_eq_true_eq] at c1
     obtain⟨c1,c2,c3⟩:=c1;have d0:0<=m/15%(ins.length:Int):=zv _ nofun;have d1:m/15%(ins.length:Int)<ins.length:=zr _ nofun;obtain⟨jj,hjj⟩:∃jj:Nat,m/15%(ins.length:Int)=(jj:Int):=⟨(m/15%(ins.length:Int)).toNat,nofun⟩
     obtain⟨nx,hnx,inx⟩:=dz (d:=eG) (ili.mono s06) (i:=jj) (zb nofun);obtain⟨ai,ti,li,ea,hai⟩:=JP inx;left;exists .inl ⟨rfl,_,aL.of h6⟩,?_;left;exists ip,iv,rfl,.inl (aL.of hip6),?_;rw[ivl];left;exists by show 0<(ins.length:Int);omega,?_
     refine⟨ip,iv,_,_,rfl,rfl,aL.of hip6,(by rw[hjj];exact bF (zb nofun)),?_⟩;rw[ea];left;exists du,?_;right;rename_i p7 H7 s7 h7;exists R,ws,_,rfl,rfl,s7 _ _ h6,(by have:=aS il6;omega),?_;left;have nt:cP (H7 R):=by rw[s7 _ _ h6];exact fun _ z=>by cases z
     refine hN _ _ ⟨row++[(bar+m%5,nx.1)],_,rfl,cM nR (s6.trans s7),aF,?_,by rw[zg];simp;omega,?_,fun h hh=>?_⟩
     ·rw[zj]
      exact cT (Is.upd nt (cB h7 (aQ cR (aQ eT cG)))) (IsL.upd nt (il6.mono s7))
     ·rw[zj,zT]
      refine⟨asc,by simp,fun x hx y hy=>?_⟩;obtain⟨h',hh',rfl⟩:=zG.mp hx;have ey:y=bar+m%5:=by simpa using hy
      have:=(rin h' hh').2.2.2;omega
     ·rcases zF.mp hh with z | z
      ·have:=rin h z
       exact⟨this.1,this.2.1,this.2.2.1,nofun⟩
      ·rw[zy.mp z]
       exact⟨by show 0<=bar+m%5;omega,c1,zO (f:=fun x:Str×(Int×Int)×(Int×Int)=>x.1) (zB hnx),by show bar+m%5<bar+m%5+1;omega⟩
    ·left
     refine hN _ _ ⟨row,ws,rfl,s6,h6,il6,nofun,asc,fun h hh=>?_⟩;have:=rin h hh;exact⟨this.1,this.2.1,this.2.2.1,nofun⟩
    rintro σ7 H7 ⟨row,ws,rfl,s7,h7,il7,rl7,asc7,rin7⟩;left;exact⟨row,ws,bar+m%5+1,_,_,rfl,s7,h7,il7,nofun,rl7,asc7,rin7⟩
   ·rintro σ H6 ⟨row,ws,bar,v9,va,rfl,s6,h6,il6,b0,rl,asc,rin⟩
    have s06:=(s3.trans s34).trans s6;have h36:=s6 _ _ (s34 _ _ h3);have rl6:RL (jC D H6) hs us:=rl3.imp fun x v z=>(z.mono s34).mono s6;have ne:R≠D:=fun z=>by rw[z,s34 _ _ h3] at nR;cases nR
    have ib:i<ps.length:=(zw.mp qr).1;have tk:ps.take (i+1)=ps.take i++[pn]:=cU qr;left;exists by show 0<=sizeLine;omega,?_
    right;rename_i p7 H7 s7 h7;exists R,p7,ws,[],rfl,rfl,.inl ⟨aL.of (s7 _ _ h6),aL.of h7⟩,.inr (.inl rfl),?_;have wr:=aS il6;have s07:=s06.trans s7
    by_cases e:ws=[]
    ·rw[ze e]
     left;refine⟨hs,us,Lo.of rfl rfl,s07,s7 _ _ h36,rl6.imp fun x v z=>z.mono s7,?_,rok,nofun⟩;rw[tk];exact sub.trans (List.sublist_append_left _ _)
    ·rw[zd e]
     have rne:row≠[]:=fun z=>e (by rw[z] at wr;exact yr.mp wr);left;exists .inl ⟨rfl,_,aL.of (s7 _ _ h36)⟩,?_;left;exists du,?_;right;rename_i p8 H8 s8 h8;have s78:=s7.trans s8;have h38:=s78 _ _ h36;refine⟨D,us,_,rfl,rfl,h38,by have:=rl3.len;omega,?_⟩;left;refine⟨hs++[(pn,row)],_,Lo.of rfl rfl,cM nD (s06.trans s78),aF,?_,?_,fun x hx=>?_,by rw[zg];simp;omega⟩
     ·refine RL.snoc ?_ (rl6.imp fun x v z=>(z.mono s78).upd h38)
      exact jC.upd h38 ⟨p8,R,ws,rfl,h8,s78 _ _ h6,il6.mono s78,ne⟩
     ·rw[zj,tk]
      exact sub.append (List.Sublist.refl _)
     ·rcases zF.mp hx with z | z
      ·exact rok x z
      ·rw[zy.mp z]
       exact⟨rne,rl,asc,fun h hh=>⟨(rin h hh).1,(rin h hh).2.1,(rin h hh).2.2.1⟩⟩
  ·rintro σ H3 ⟨hs,us,⟨e,rfl⟩,s3,h3,rl3,sub,rok,hl⟩
   rw[za,zM] at sub;left;exact kk hs D us H3 sub rok s3 h3 rl3
def Ec (S:cJ) (ns:List ((Int×Str)×List Item)):Prop:=(ns.map (·.1)).Nodup/\∀x∈ns,0<=x.1.1/\x.1.1<S.aP.length/\x.1.2∈S.players/\Ed x.2 (S.len x.1.1.toNat)
def tE:Sp:=fun vs H Q _=>∃(c:Int) (pp bl:Addr) (S:cJ) (bv:List V) (ub:V),vs=[.int c,.ref pp,.ref bl,ub]/\H pp=some (.lst (S.players.map V.str))/\H bl=some (.lst bv)/\L2.IsL H (S.aP.map kQ) bv/\Is H (dO dL S.aH) ub/\S.players.length<=9/\S.players.Nodup/\S.aP.length<=200/\(∀x∈S.aP,Kv x)/\(∀b:Nat,b<S.aP.length->Kr (S.len b))/\
 ∀(ns:List ((Int×Str)×List Item)) D us H',Ec S ns->ns.length<=9*S.aP.length->au H H'->H' D=some (.lst us)->RL (ik D H') ns us->Q (.ref D) H'
theorem b9:aD ["_law_cell","_law_players","_law_bars","_law_upbeat","_law_notes","_law_bar","_law_k","_law_player","_law_m","_law_often","_law_run"] ["_law_cell","_law_players","_law_bars","_law_upbeat"] (ao mr):=dJ
theorem tU (T:Txt K mg):dm P w base 3 T.kA tE:=by
 refine T.kA.F.dH b9 fun _ _ _ _ H vs Q E hr h=>?_
 ·obtain⟨c,pp,bl,S,bv,ub,rfl,hpp,hbl,ilb,iub,pl,pnd,bl2,bok,lok,kk⟩:=h
  have sl:=yB;have bvl:=aS ilb;refine⟨_,(ag (bW 4 b9.nd (bD af))
   (ag (cE PassesOwn.never rfl (cO (by rfl) T.dG (aa (eX aC T.bB (aa (pv 2) af)) af)) (dj 5 b9.nd)
   (aj (cE PassesOwn.never rfl (wF (by rfl) T.jU (aa (pv 1) af)) (dY (n:=2) rfl (aO (dj 6 b9.nd) (aO (dj 7 b9.nd) cX)))
    (ag (bW 8 b9.nd (bR (bP T) hr T.cx (aa (pv 0) (aa (ar bg (ar bg (ar d5 ae (pv 6)) (pv 5)) ae) af))))
     (ag (bW 9 b9.nd (ar aV (bR (bP T) hr T.cx (aa (pv 0) (aa (ar bg (pv 6) ae) af))) ae))
     (ag (bW 10 b9.nd (ar aV (bR (bP T) hr T.cx (aa (pv 0) (aa (ar bg (ar bg (ar d5 ae (pv 6)) (ar aW (pv 5) ae)) ae) af))) ae))
     (aj (aI (PW.pt (cV (ay gn (ar aV (pv 8) ae) (pv 9) (aE _)) (cK (ay fu (pv 10) ae (aE _)))))
     (aj (bT (cu PySem.F.plainAttrs_list PySem.F.slot_list_append PySem.F.type_list_append bM (pv 4) (aa (bK (aa (pv 5) (aa (pv 7) (aa (bR (tV T) hr T.kB (aa (ar aW (pv 8) ae) (aa (bR (si T) hr T.jz (aa (pv 2) (aa (pv 3) (aa (pv 5) af)))) af))) af)))) af))))
     aB))))))))
   (aj (aq (pv 4))))),?_⟩
  ac_rfl;left;exists by show 0<=sizeLine;omega,?_
  intro D nD;have s2:au H (upd H D (.lst [])):=aZ nD;have h2:upd H D (.lst []) D=some (.lst []):=aF;generalize upd H D (.lst [])=H2 at s2 h2 ⊢;left;exists bl,bv,rfl,.inl (aL.of (s2 _ _ hbl)),?_;rw[bvl];left;exists by omega,nofun,?_
  rw[show((S.aP.length:Int)).toNat=S.aP.length from by omega];refine gy (fun i σ H'=>∃(ns:List ((Int×Str)×List Item)) (us:List V),Lo [some (.int c),some (.ref pp),some (.ref bl),some ub,some (.ref D)] 6 σ/\au H H'/\H' D=some (.lst us)/\RL (ik D H') ns us/\Ec S ns/\(∀x∈ns,x.1.1<i)/\ns.length<=9*i)
   ⟨[],[],Lo.of rfl rfl,s2,h2,rfl,⟨by simp,by simp⟩,by simp,by simp⟩ ?_ ?_
  ·intro i σ H3 hi hh
   refine dU fun N kN0 kR0 _ _=>?_;obtain⟨ns,us,⟨e,rfl⟩,s3,h3,rl3,nok,nlt,nl⟩:=hh;left;exists pp,_,rfl,aL.of (s3 _ _ hpp),?_;refine sF (K:=K) (a:=pp) (xs:=S.players.map V.str) (fun j σ H'=>∃(ns:List ((Int×Str)×List Item)) (us:List V),Lo [some (.int c),some (.ref pp),some (.ref bl),some ub,some (.ref D),some (.int (0+(i:Int)))] 5 σ/\au H H'/\H' D=some (.lst us)/\RL (ik D H') ns us/\Ec S ns/\(∀x∈ns,x.1.1<i\/(x.1.1=i/\x.1.2∈S.players.take j))/\ns.length<=9*i+j)
    ⟨ns,us,Lo.of rfl rfl,s3,h3,rl3,nok,fun x hx=>.inl (nlt x hx),nofun⟩ (fun i σ H' _ h=>by obtain⟨_,_,_,z,_⟩:=h;exact aL.of (z _ _ hpp)) ?_ ?_
   ·intro j x σ H4 p H5 hx hh s45 hp5
    refine dU fun N kN1 kR1 _ _=>?_;obtain⟨ns,us,⟨e,rfl⟩,s4,h4,rl4,nok,nlt,nl⟩:=hh;rw[zJ] at hx;cases qr:S.players[j]? with
    | none=>rw[qr] at hx;cases hx
    | some pn=>
    rw[qr] at hx;simp only[Option.map_some,Option.some.injEq] at hx;subst hx;have jb:j<S.players.length:=(zw.mp qr).1;have s05:=s4.trans s45;have h45:=s45 _ _ h4;have rl5:RL (ik D H5) ns us:=rl4.imp fun x v z=>z.mono s45;have tk:S.players.take (j+1)=S.players.take j++[pn]:=cU qr;refine⟨p,_,rfl,dB.of hp5,rfl,?_⟩;refine⟨_,_,rfl,⟨_,_,rfl,⟨rfl,?_⟩⟩⟩;left;exists c,_,rfl,nofun,nofun,?_;have m0:0<=mixed c (97*(j:Int)+(0+(i:Int))+100):=zv _ (by decide);have m1:mixed c (97*(j:Int)+(0+(i:Int))+100)<2147483399:=zr _ (by decide);generalize mixed c (97*(j:Int)+(0+(i:Int))+100)=m at m0 m1;left;exists c,_,rfl,nofun,nofun,?_;left;refine⟨c,_,rfl,?_,?_,?_⟩
    ·have:=zV (a:=0+(i:Int)) (b:=4) nofun (by decide);omega
    ·have:=zW (a:=0+(i:Int)) 4 nofun;omega
    generalize mixed c (31*(j:Int)+(0+(i:Int))/4+400)=m3;generalize mixed c ((j:Int)+90)=m2;left;refine eE (decide (m%6<=m2%5)&&decide (0<m3%3)) ?_ ?_ ?_
    ·intro c1 Z hz
     rw[c1,Bool.true_and] at hz;left;exact hz
    ·intro c1;rw[c1,Bool.false_and]
    cases qv:(decide (m%6<=m2%5)&&decide (0<m3%3)) with
    | true=>
     left;exists .inl ⟨rfl,_,aL.of h45⟩,?_;left;exists bl,bv,S,ub,i,(by simp),s05 _ _ hbl,ilb.mono s05,iub.mono s05,hi,bok,fun p6 H6 s6 h6=>?_;refine⟨_,_,p6,rfl,h6,zV m0 (by decide),?_,lok i hi,fun its p7 ws H7 iok s7 n7 h7 il7=>?_⟩
     ·have:=zW (a:=m) 6 m0;omega
     have s57:=s6.trans s7;have ne:p7≠D:=fun z=>by rw[z,s6 _ _ h45] at n7;cases n7
     left;exists ng,?_;right;rename_i p8 H8 s8 h8;have s58:=s57.trans s8;have h48:=s58 _ _ h45;refine⟨D,us,_,rfl,rfl,h48,by have:=rl4.len;omega,?_⟩;left;have fr:((0+(i:Int),pn):Int×Str)∉ns.map (·.1):=fun z=>by
      obtain⟨y,hy,ey⟩:=zG.mp z;rcases nlt y hy with q | ⟨_,q2⟩
      ·rw[ey] at q;dsimp only at q;omega
      ·rw[ey] at q2
       dsimp only at q2;have nd:=List.Nodup.sublist (List.take_sublist (j+1) S.players) pnd;rw[tk,zR] at nd;exact nd.2.2 pn q2 pn (zy.mpr rfl) rfl
     refine⟨ns++[((0+(i:Int),pn),its)],_,Lo.of rfl rfl,cM nD (s05.trans s58),aF,?_,⟨?_,fun x hx=>?_⟩,fun x hx=>?_,by rw[zg];simp;omega⟩
     ·refine RL.snoc ?_ (rl5.imp fun x v z=>(z.mono s58).upd h48)
      exact ik.upd h48 ⟨p8,p7,ws,rfl,h8,s8 _ _ h7,il7.mono s8,ne⟩
     ·rw[zj,zR]
      exact⟨nok.1,by simp,fun x hx y hy e=>by
       have:y=(0+(i:Int),pn):=by simpa using hy
       rw[<-e] at this;exact fr (this▸hx)⟩
     ·rcases zF.mp hx with z | z
      ·exact nok.2 x z
      ·rw[zy.mp z]
       refine⟨by show 0<=0+(i:Int);omega,by show 0+(i:Int)<S.aP.length;omega,zB qr,?_⟩;show Ed its (S.len (0+(i:Int)).toNat);rw[show(0+(i:Int)).toNat=i from by omega];exact iok
     ·rcases zF.mp hx with z | z
      ·rcases nlt x z with q | ⟨q1,q2⟩
       ·exact .inl q
       ·exact .inr ⟨q1,by rw[tk];exact zI _ q2⟩
      ·rw[zy.mp z]
       exact .inr ⟨by show 0+(i:Int)=i;omega,by rw[tk];exact zH _ (zy.mpr rfl)⟩
    | false=>
     left;refine⟨ns,us,Lo.of rfl rfl,s05,h45,rl5,nok,fun x hx=>?_,nofun⟩;rcases nlt x hx with z | ⟨z1,z2⟩
     ·exact .inl z
     ·exact .inr ⟨z1,by rw[tk];exact zI _ z2⟩
   ·rintro σ H4 ⟨ns,us,⟨e,rfl⟩,s4,h4,rl4,nok,nlt,nl⟩
    rw[za] at nlt nl;left;refine⟨ns,us,Lo.of rfl rfl,s4,h4,rl4,nok,fun x hx=>?_,nofun⟩;rcases nlt x hx with z | ⟨z1,z2⟩
    ·omega
    ·omega
  ·rintro σ H3 ⟨ns,us,⟨e,rfl⟩,s3,h3,rl3,nok,nlt,nl⟩
   left;exact kk ns D us H3 nok nofun s3 h3 rl3
def Rf (ins:List (Str×(Int×Int)×(Int×Int))):Prop:=ins.length<=3/\AB (ins.map (·.1))/\∀x∈ins,MI x.2.1/\-12<=x.2.1.1/\x.2.1.1<=12/\Lm.Rd x.2.2/\x.2.2.1<10000/\x.2.2.2<10000
theorem GH (n:Int):MI (n%25-12,7*(n%25-12)%12+12*(n/25%5-2))/\-12<=n%25-12/\n%25-12<=12:=by
 have a:=zv n (b:=25) (by decide);have b:=zr n (b:=25) (by decide);have c:=zv (n/25) (b:=5) (by decide);have d:=zr (n/25) (b:=5) (by decide);unfold MI;dsimp only;omega
def lj:Sp:=fun vs H Q _=>∃(c:Int),vs=[.int c]/\∀(ins:List (Str×(Int×Int)×(Int×Int))) D us H',Rf ins->au H H'->H' D=some (.lst us)->L2.IsL H' (ins.map eG) us->Q (.ref D) H'
theorem bq:aD ["_law_cell","_law_m","_law_instruments","_law_k","_law_name","_law_n","_law_df","_law_turn"] ["_law_cell"] (ao gm):=dJ
theorem lH (T:Txt K mg):dm P w base 2 T.fk lj:=by
 refine T.fk.F.dH bq fun _ _ _ _ H vs Q E hr h=>?_
 ·obtain⟨c,rfl,kk⟩:=h
  have sl:=yB;refine⟨_,(ag (bW 1 bq.nd (bR (bP T) hr T.cx (aa (pv 0) (aa ae af))))
   (ag (bW 2 bq.nd (bD af))
   (ag (cE PassesOwn.never rfl (wF (by rfl) T.jU (aa (bR (e9 T) hr T.eF (aa (ar aW (pv 1) ae) (aa (ar aV (pv 1) ae) af))) af)) (dY (n:=2) rfl (aO (dj 3 bq.nd) (aO (dj 4 bq.nd) cX)))
   (ag (bW 5 bq.nd (bR (bP T) hr T.cx (aa (pv 0) (aa (ar bg (pv 3) ae) af))))
    (ag (bW 6 bq.nd (ar kf (ar aV (pv 5) ae) ae))
    (ag (bW 7 bq.nd (bK (aa (pv 6) (aa (ar bg (ar aV (ar d5 ae (pv 6)) ae) (ar d5 ae (ar kf (ar aV (ar aW (pv 5) ae) ae) ae))) af))))
    (aj (bT (cu PySem.F.plainAttrs_list PySem.F.slot_list_append PySem.F.type_list_append bM (pv 2) (aa (bK (aa (pv 4) (aa (pv 7) (aa (bR (fY T) hr T.fN (aa (ar aV (ar aW (pv 5) ae) ae) (aa (ax aN (bD (aa ae (aa ae (aa ae (aa ae (aa ae af)))))) (ar aV (ar aW (pv 5) ae) ae) (fun _ _=>rfl)) af))) af)))) af))))))))
   (aj (aq (pv 2)))))),?_⟩
  ac_rfl;left;exists c,8,rfl,nofun,nofun,?_;have m0:0<=mixed c 8:=zv _ (by decide);have m1:mixed c 8<2147483399:=zr _ (by decide);generalize mixed c 8=m at m0 m1;have a0:0<=m%4:=zv _ (by decide);have a1:m%4<4:=zr _ (by decide);left;exists by show 0<=sizeLine;omega,?_
  intro D nD;have s2:au H (upd H D (.lst [])):=aZ nD;have h2:upd H D (.lst []) D=some (.lst []):=aF;generalize upd H D (.lst [])=H2 at s2 h2 ⊢;left;refine⟨_,_,rfl,zV m0 (by decide),?_,a0,nofun,fun nms pn H3 nl nok s3 h3=>?_⟩
  ·have:=zW (a:=m) 4 m0;omega
  left;exists pn,_,rfl,aL.of h3,?_;have nl3:nms.length<=3:=nofun
  refine sF (K:=K) (a:=pn) (xs:=nms.map V.str) (fun i σ H'=>∃(ins:List (Str×(Int×Int)×(Int×Int))) (us:List V),Lo [some (.int c),some (.int m),some (.ref D)] 5 σ/\au H H'/\H' pn=some (.lst (nms.map V.str))/\H' D=some (.lst us)/\L2.IsL H' (ins.map eG) us/\ins.map (·.1)=nms.take i/\
   ∀x∈ins,MI x.2.1/\-12<=x.2.1.1/\x.2.1.1<=12/\Lm.Rd x.2.2/\x.2.2.1<10000/\x.2.2.2<10000)
   ⟨[],[],Lo.of rfl rfl,s2.trans s3,h3,s3 _ _ h2,cG,rfl,by simp⟩ (fun i σ H' _ h=>by obtain⟨_,_,_,_,z,_⟩:=h;exact aL.of z) ?_ ?_
  ·intro i x σ H4 p H5 hx hh s45 hp5
   refine dU fun N kN0 kR0 _ _=>?_;obtain⟨ins,us,⟨e,rfl⟩,s4,hpn4,h4,il4,ek,iok⟩:=hh;rw[zJ] at hx;cases qr:nms[i]? with
   | none=>rw[qr] at hx;cases hx
   | some nm=>
   rw[qr] at hx;simp only[Option.map_some,Option.some.injEq] at hx;subst hx;have ib:i<nms.length:=(zw.mp qr).1;have h45:=s45 _ _ h4;have tk:nms.take (i+1)=nms.take i++[nm]:=cU qr;have nepn:pn≠D:=fun z=>by
    have q:=h3;rw[z,s3 _ _ h2] at q;have e:([]:List V)=nms.map V.str:=HO.lst.inj (yj q);have:nms.length=0:=by rw[<-za (f:=V.str),<-e];rfl
    omega
   refine⟨p,_,rfl,dB.of hp5,rfl,?_⟩;refine⟨_,_,rfl,⟨_,_,rfl,⟨rfl,?_⟩⟩⟩;left;exists c,_,rfl,nofun,nofun,?_;have n0:0<=mixed c ((i:Int)+530):=zv _ (by decide);have n1:mixed c ((i:Int)+530)<2147483399:=zr _ (by decide);generalize mixed c ((i:Int)+530)=n at n0 n1;left;exists du,?_;right;rename_i p6 H6 s6 h6;have h46:=s6 _ _ h45;left;exists .inl ⟨rfl,_,aL.of h46⟩,?_;left;exists by show 5<=sizeLine;omega,?_
   right;rename_i p7 H7 s7 h7;have g0:0<=n/1125%5:=zv _ (by decide);have g1:n/1125%5<5:=zr _ (by decide);have t0:0<=n/125%9:=zv _ (by decide);have t1:n/125%9<9:=zr _ (by decide);obtain⟨jj,hjj⟩:∃j:Nat,n/1125%5=(j:Int):=⟨(n/1125%5).toNat,nofun⟩
   obtain⟨z,hz,z0,z1⟩:∃z:Int,[V.int 1,V.int 2,V.int 4,V.int 8,V.int 3][jj]?=some (.int z)/\0<z/\z<=8:=by
    have:jj<5:=nofun
    match jj,this with
    | 0,_=>exact⟨1,rfl,by decide,by decide⟩
    | 1,_=>exact⟨2,rfl,by decide,by decide⟩
    | 2,_=>exact⟨4,rfl,by decide,by decide⟩
    | 3,_=>exact⟨8,rfl,by decide,by decide⟩
    | 4,_=>exact⟨3,rfl,by decide,by decide⟩
   left;exists p7,_,n/1125%5,.int z,rfl,rfl,aL.of h7,(by rw[hjj];exact bF hz),?_;left;exists _,_,rfl,t0,z0,(dn (n:=10) nofun nofun).mono (by decide),fun p8 H8 s8 h8=>?_;left;exists ng,?_;right;rename_i p9 H9 s9 h9;have s59:=((s6.trans s7).trans s8).trans s9;have h49:=s59 _ _ h45;refine⟨D,us,_,rfl,rfl,h49,?_,?_⟩
   ·have e1:=aS il4
    have e2:ins.length=(nms.take i).length:=by rw[<-ek,za]
    rw[zP] at e2;omega
   left;have nt:cP (H9 D):=by rw[h49];exact fun _ z=>by cases z
   have rb:=lB (t:=n/125%9) z0;have rle:=xN (t:=n/125%9) (b:=z) t0;obtain⟨td1,td2,td3⟩:=GH n;have ix:Is H9 (eG (nm,(n%25-12,7*(n%25-12)%12+12*(n/25%5-2)),red (n/125%9) z)) (.ref p9):=cB h9 (aQ eT (aQ (iK (((s7.trans s8).trans s9) _ _ h6)) (aQ (iK (s9 _ _ h8)) cG)));refine⟨ins++[(nm,(n%25-12,7*(n%25-12)%12+12*(n/25%5-2)),red (n/125%9) z)],_,Lo.of rfl rfl,cM nD ((s4.trans s45).trans s59),by rw[aG nepn];exact s59 _ _ (s45 _ _ hpn4),aF,?_,?_,fun x hx=>?_⟩
   ·rw[zj]
    exact cT (Is.upd nt ix) (IsL.upd nt ((il4.mono s45).mono s59))
   ·rw[zj,ek,tk];rfl
   ·rcases zF.mp hx with y | y
    ·exact iok x y
    ·rw[zy.mp y]
     obtain⟨_,_,_,_,_,r5⟩:=rb;exact⟨td1,td2,td3,Lm.Rd.of t0 z0,by show(red (n/125%9) z).1<10000;omega,by show(red (n/125%9) z).2<10000;omega⟩
  ·rintro σ H4 ⟨ins,us,⟨e,rfl⟩,s4,hpn4,h4,il4,ek,iok⟩
   rw[za,zM] at ek;left;exact kk ins D us H4 ⟨by rw[<-za (f:=fun x:Str×(Int×Int)×(Int×Int)=>x.1),ek];exact nl3,by rw[ek];exact nok,iok⟩ s4 h4 il4
def oP:Sp:=fun vs H Q _=>∃(q:Addr) (x:Int×Int),vs=[.ref q]/\H q=some (lZ x)/\0<=x.1/\x.1<10000/\0<x.2/\x.2<10000/\Q (.str (iI x)) H
theorem oR:aD ["_law_length"] ["_law_length"] (ao je):=dJ
theorem dQ (T:Txt K mg):dm P w base 1 T.dk oP:=by
 refine T.dk.F.dH oR fun _ _ _ _ H vs Q E hr h=>?_
 ·obtain⟨q,x,rfl,hq,x1,x2,x3,x4,kk⟩:=h
  have sl:=yB;have a:=bw (n:=x.1) nofun x2;have b:=bw (n:=x.2) nofun x4;have na:=bN (n:=x.1) nofun x2;have nb:=bN (n:=x.2) nofun x4;have l1:("/": Str).length=1:=rfl;refine⟨_,(ag (aI (ay de (ax aA (pv 0) ae (fun _ _=>rfl)) ae (aE _))
   (aj (aq (mV aX T.fh (aa (ax aA (pv 0) ae (fun _ _=>rfl)) af))))
   aB)
   (aj (aq (ar bS (ar bS (mV aX T.fh (aa (ax aA (pv 0) ae (fun _ _=>rfl)) af)) aM) (mV aX T.fh (aa (ax aA (pv 0) ae (fun _ _=>rfl)) af)))))),?_⟩
  ac_rfl;left
  by_cases c:x.2=1
  ·refine cj (by rw[c];rfl) ?_
   left;exists na,?_;left;unfold iI at kk;rw[if_pos c] at kk;exact kk
  ·refine cw (zd fun z=>c (V.int.inj z)) ?_
   unfold iI at kk;rw[if_neg c] at kk;left;exists na,?_;left;exists by show(dec x.1).length+_<=_;omega,?_
   left;exists nb,?_;left;exists by show(dec x.1 ++"/").length+(dec x.2).length<=_;rw[len_app];omega,?_
   exact kk
def jF:Sp:=fun vs H Q _=>∃(v:V) (it:Item),vs=[v]/\Is H (eV it) v/\Ks it/\Q (.str (qE it)) H
theorem LZ {H:Hp} {it:Item} {v:V} (h:Is H (eV it) v):∃a q b,v=.ref a/\H a=some (.tup [q,.ref b])/\Is H (dO dL it.1) q/\H b=some (lZ it.2):=by
 unfold eV Is at h;obtain⟨a,vs,rfl,ha,hl⟩:=h;unfold L2.IsL at hl;obtain⟨v1,r1,rfl,h1,hl⟩:=hl;unfold L2.IsL at hl;obtain⟨v2,r2,rfl,h2,hl⟩:=hl;unfold L2.IsL at hl;subst hl;cases fj (o:=some it.2) h2 with
 | ref hb=>exact⟨a,v1,_,rfl,ha,h1,hb⟩
theorem rj:aD ["_law_item"] ["_law_item"] (ao kI):=dJ
theorem sj (T:Txt K mg):dm P w base 2 T.jA jF:=by
 refine T.jA.F.dH rj fun _ _ _ _ H vs Q E hr h=>?_
 ·obtain⟨v,⟨o,x⟩,rfl,iv,iok,kk⟩:=h
  have sl:=yB;obtain⟨a,q,b,rfl,ha,iq,hb⟩:=LZ iv;obtain⟨⟨hr',h1,h2,h3⟩,hq⟩:=id iok;obtain⟨_,p2,_⟩:=hr'.pos;have lx:=kK (x:=x) (by have:=h1;dsimp only at this;omega) h2 (by have:=p2;dsimp only at this;omega) h3;dsimp only at h1 h2 h3 p2 hq hb iq;refine⟨_,(ag (aI (bA (cA (ax aA (pv 0) ae (fun _ _=>rfl))))
   (aj (aq (ar bS aM (bR (dQ T) hr T.dk (aa (ax aA (pv 0) ae (fun _ _=>rfl)) af)))))
   aB)
   (aj (aq (ar bS (ar bS (ar bS (ar bS (mV aX T.fh (aa (ax aA (ax aA (pv 0) ae (fun _ _=>rfl)) ae (fun _ _=>rfl)) af)) aM) (mV aX T.fh (aa (ax aA (ax aA (pv 0) ae (fun _ _=>rfl)) ae (fun _ _=>rfl)) af))) aM) (bR (dQ T) hr T.dk (aa (ax aA (pv 0) ae (fun _ _=>rfl)) af)))))),?_⟩
  ac_rfl;left;cases o with
  | none=>
   unfold dO Is at iq;subst iq;left;exists b,x,rfl,hb,nofun,h2,p2,h3,?_;have l2:("r:": Str).length=2:=rfl;refine⟨_,_,rfl,rfl,nofun,?_⟩;exact kk
  | some pq=>
   obtain⟨q1,q2,q3,q4,_⟩:=hq pq rfl;have la:=bw (n:=pq.1) nofun nofun;have lb:=bw (n:=pq.2) nofun nofun;have na:=bN (n:=pq.1) nofun nofun;have nb:=bN (n:=pq.2) nofun nofun;cases fj (o:=some pq) iq with
   | ref hpq=>
    have l1:(":": Str).length=1:=rfl;left;exists na,?_;left;exists by show(dec pq.1).length+_<=_;omega,?_
    left;exists nb,?_;left;exists by show(dec pq.1 ++":").length+(dec pq.2).length<=_;rw[len_app];omega,?_
    left;exists by show(dec pq.1 ++":" ++ dec pq.2).length+_<=_;rw[len_app,len_app];omega,?_
    left;exists b,x,rfl,hb,nofun,h2,p2,h3,?_;refine⟨_,_,rfl,rfl,by show(dec pq.1 ++":" ++ dec pq.2 ++":").length+_<=_;rw[len_app,len_app,len_app];omega,?_⟩;exact kk
def iz:Sp:=fun vs H Q _=>∃(v:V) (r:Rep),vs=[v]/\Is H (jD r) v/\Kp r/\∀H',au H H'->Q (.str (rowOf (.rep r))) H'
noncomputable def w4 (r:Rep):List Str:=["repeat",dec r.first,dec r.last,dec r.times]
theorem dN:aD ["_law_repeat","_law_words","_law_begin","_law_passes"] ["_law_repeat"] (ao jd):=dJ
theorem oU (T:Txt K mg):dm P w base 1 T.gF iz:=by
 refine T.gF.F.dH dN fun _ _ _ _ H vs Q E hr h=>?_
 ·obtain⟨v,r,rfl,iv,⟨⟨f1,f2,f3,f4,f5⟩,el,pl⟩,kk⟩:=h
  have sl:=yB;obtain⟨a,ep,rfl,ha,ie⟩:=fX iv;obtain⟨ep',evs,e0,hep,ile⟩:∃ep' evs,V.ref ep=.ref ep'/\H ep'=some (.tup evs)/\L2.IsL H (r.ends.map mT) evs:=by unfold Is at ie;exact ie
  cases e0;have evl:=aS ile;have n1:=bN (n:=r.first) (by have:=f1.1;omega) (by have:=f1.2;omega);have n2:=bN (n:=r.last) (by have:=f2.1;omega) (by have:=f2.2;omega);have n3:=bN (n:=r.times) nofun nofun;refine⟨_,(ag (bW 1 dN.nd (bD (aa aM (aa (mV aX T.fh (aa (ax aA (pv 0) ae (fun _ _=>rfl)) af)) (aa (mV aX T.fh (aa (ax aA (pv 0) ae (fun _ _=>rfl)) af)) (aa (mV aX T.fh (aa (ax aA (pv 0) ae (fun _ _=>rfl)) af)) af))))))
   (ag (cE PassesOwn.never rfl (ke (ax aA (pv 0) ae (fun _ _=>rfl))) (dY (n:=2) rfl (aO (dj 2 dN.nd) (aO (dj 3 dN.nd) cX)))
   (aj (bT (cu PySem.F.plainAttrs_list PySem.F.slot_list_append PySem.F.type_list_append bM (pv 1) (aa (ar bS (ar bS (mV aX T.fh (aa (pv 2) af)) aM) (cu PySem.F.plainAttrs_str PySem.F.slot_str_join PySem.F.type_str_join gK aM (aa (pK (ts:=["_law_one"]) (ys:=[]) (js:=[]) (g:=(bc 0)) (tc:=dt) (te:=(Jq QG (bQ (bj 0) eO))) (ke (pv 3)) (fun _ _ _ _=>(dj 0 (show List.Nodup [("_law_one": Str)] by decide +kernel))) (fun _ _ _ _=>bx) (fun _ _ _ _=>(mV aX T.fh (aa (pv 0) af)))) af))) af)))))
   (aj (aq (cu PySem.F.plainAttrs_str PySem.F.slot_str_join PySem.F.type_str_join gK aM (aa (pv 1) af)))))),?_⟩
  ac_rfl;left;exists n1,?_;left;exists n2,?_;left;exists n3,?_;left;exists by show 4<=sizeLine;omega,?_
  intro W nW;generalize hU:upd H W _=H2;have s2:au H H2:=by rw[<-hU];exact aZ nW
  have h2:H2 W=some (.lst ((w4 r).map V.str)):=by rw[<-hU];exact aF
  clear hU;have ha2:=s2 _ _ ha;left;exists⟨_,dB.of (s2 _ _ hep)⟩,?_;refine IL (K:=K) (a:=ep) (xs:=evs) (fun i σ H'=>∃(v2 v3:Option V),σ=[some (.ref a),some (.ref W),v2,v3]/\au H H'/\H' W=some (.lst ((w4 r++(r.ends.take i).map oW).map V.str))) ⟨none,none,rfl,s2,by rw[List.take_zero,ym,zU];exact h2⟩ (fun i σ H' _ h=>by obtain⟨_,_,_,z,_⟩:=h;exact dB.of (z _ _ hep)) ?_ ?_
  ·intro i x σ H3 hx hh
   refine dU fun N kN0 kR0 _ _=>?_;obtain⟨v2,v3,rfl,s3,h3⟩:=hh;obtain⟨e,he,ie⟩:=dz ile hx;obtain⟨b,q,rfl,hb,hq⟩:=ui ie;have eo:=f5 e (zB he);have pe:=pl e (zB he);have hb3:=s3 _ _ hb;have tk:r.ends.take (i+1)=r.ends.take i++[e]:=cU he;have ib:i<r.ends.length:=(zw.mp he).1;have nb:=bN (n:=e.1) (by have:=eo.1;omega) (by have:=eo.2.1;omega);have lb:=bw (n:=e.1) (by have:=eo.1;omega) (by have:=eo.2.1;omega);refine⟨b,_,rfl,dB.of hb3,rfl,?_⟩;refine⟨_,_,rfl,⟨_,_,rfl,⟨rfl,?_⟩⟩⟩;left;exists .inl ⟨rfl,_,aL.of h3⟩,?_;left;exists nb,?_;left;exists by show(dec e.1).length+(":": Str).length<=_;have:(":": Str).length=1:=rfl;omega,?_
   left;exists⟨_,dB.of (s3 _ _ hq)⟩,?_;refine gC (enc:=V.int) (ws:=e.2) (fun z=>.str (dec z)) (fun σ=>∃v,σ=[v]) nofun (s3 _ _ hq) ⟨none,rfl⟩ ?_ ?_
   ·rintro z σ H4 R hz s4 ⟨_,rfl⟩ rr
    have:=eo.2.2.2 z hz;left;exists bN nofun nofun,?_;exact rr _ _ _ (au.refl _) eT ⟨_,rfl⟩
   ·intro D vs H4 s4 hD il
    have e1:e.2.map (fun z=>Dt.str (dec z))=(e.2.map dec).map Dt.str:=by rw[zA];rfl
    rw[e1] at il;rw[dR il] at hD;have l5:∀z∈e.2.map dec,z.length<=5:=fun z hz=>by
     obtain⟨p,hp,rfl⟩:=zG.mp hz;have:=eo.2.2.2 p hp;exact bw nofun nofun
    have l9:(e.2.map dec).length<=9:=by rw[za];exact pe
    have sb:=pQ (sep:=",") l5;have jb:=yH (sep:=",") l5;have mb:(e.2.map dec).length*(5+(",": Str).length)<=9*(5+1):=Nat.mul_le_mul l9 (zk _);refine⟨",",D,_,rfl,rfl,aL.of hD,zL sb (zL mb nofun),?_⟩;refine⟨_,_,rfl,rfl,?_,?_⟩
    ·show(dec e.1 ++":").length+(Str.join "," (e.2.map dec)).length<=sizeLine
     rw[len_app];have:(":": Str).length=1:=rfl;omega
    have h34:=s4 _ _ h3;have s04:=s3.trans s4;left;refine⟨W,_,_,rfl,rfl,h34,?_,?_⟩
    ·rw[za,zg,za,zP]
     show 4+_<_;omega
    left;exists _,_,rfl,cM nW s04,?_;have ew:(w4 r++(r.ends.take (i+1)).map oW).map V.str=(w4 r++(r.ends.take i).map oW).map V.str++[V.str (oW e)]:=by
     rw[tk,zj (f:=oW),<-zE,zj (f:=V.str)];rfl
    rw[aF,ew];rfl
  ·rintro σ H3 ⟨v2,v3,rfl,s3,h3⟩
   rw[evl,zM] at h3;left;have ll:∀z∈w4 r++r.ends.map oW,z.length<=60:=fun z hz=>by
    rcases zF.mp hz with y | y
    ·unfold w4 at y
     simp only[zC,zD,or_false] at y;rcases y with rfl | rfl | rfl | rfl
     ·decide
     ·have:=bw (n:=r.first) (by have:=f1.1;omega) (by have:=f1.2;omega);omega
     ·have:=bw (n:=r.last) (by have:=f2.1;omega) (by have:=f2.2;omega);omega
     ·have:=bw (n:=r.times) nofun nofun;omega
    ·obtain⟨e,he,rfl⟩:=zG.mp y
     exact FL (f5 e he) (pl e he)
   have sb:=pQ (sep:=" ") ll;refine⟨" ",W,_,rfl,rfl,aL.of h3,?_,?_⟩
   ·have l4:(w4 r++r.ends.map oW).length<=13:=by rw[zg,za];show 4+_<=13;omega
    exact zL sb (zL (Nat.mul_le_mul l4 (zk _)) (by show 13*(60+1)<=sizeLine;omega))
   exact kk _ s3
theorem SK {c:Bool} {T1 T2:VK->Prop} {Z:VK} {H:Hp} (v:V) (h1:c=true->∀Z:VK,Z v H->T1 Z) (h2:c=false->∀Z:VK,Z v H->T2 Z) (hz:Z v H):if c=true then T1 Z else T2 Z:=by
 cases c with
 | true=>rw[if_pos rfl];exact h1 rfl Z hz
 | false=>rw[if_neg (by simp)];exact h2 rfl Z hz
def Rb (j:Jump):Prop:=Oz (.cb j)
noncomputable def yN (S:cJ):List Told:=S.repeats.map .rep++S.cb.toList.map .cb
def qY:Sp:=fun vs H Q _=>∃(p:Addr) (S:cJ),vs=[.ref p]/\vn H p S/\(∀r∈S.repeats,Kp r)/\S.repeats.length<=1000/\(∀j,S.cb=some j->Rb j)/\∀D H',au H H'->H D=none->H' D=some (.lst (((yN S).map rowOf).map V.str))->Q (.ref D) H'
theorem L9 {H:Hp} {j:Jump} {v:V} (h:Is H (jt j) v):∃a c,v=.ref a/\H a=some (.tup [.int j.wJ,.int j.AE,.int j.dy,c])/\Is H (dO .int j.gD) c:=by
 unfold jt Is at h;obtain⟨a,vs,rfl,ha,hl⟩:=h;unfold L2.IsL at hl;obtain⟨v1,r1,rfl,h1,hl⟩:=hl;unfold L2.IsL at hl;obtain⟨v2,r2,rfl,h2,hl⟩:=hl;unfold L2.IsL at hl;obtain⟨v3,r3,rfl,h3,hl⟩:=hl;unfold L2.IsL at hl;obtain⟨v4,r4,rfl,h4,hl⟩:=hl;unfold L2.IsL at hl;subst hl;unfold Is at h1 h2 h3;subst h1 h2 h3;exact⟨a,v4,rfl,ha,h4⟩
theorem gX {H:Hp} {α:Type} {d:α->Dt}:∀{xs:List α} {vs:List V},L2.IsL H (xs.map d) vs->∃ps:List (α×V),ps.map (·.1)=xs/\ps.map (·.2)=vs/\∀z∈ps,Is H (d z.1) z.2
 | [],_,h=>⟨[],rfl,by unfold L2.IsL at h;rw[h];rfl,by simp⟩
 | x::xs,_,h=>by
  rw[zh] at h;unfold L2.IsL at h;obtain⟨v,r,rfl,h1,h2⟩:=h;obtain⟨ps,e1,e2,e3⟩:=gX h2;refine⟨(x,v)::ps,by rw[zh,e1],by rw[zh,e2],fun z hz=>?_⟩;rcases zC.mp hz with rfl | hz
  ·exact h1
  ·exact e3 z hz
theorem fW:aD ["_law_s","_law_rows","_law_coda"] ["_law_s"] (ao kJ):=dJ
theorem sk (T:Txt K mg):dm P w base 2 T.jB qY:=by
 refine T.jB.F.dH fW fun _ _ _ _ H vs Q E hr h=>?_
 ·obtain⟨p,S,rfl,la,rok,rl3,jok,kk⟩:=h
  have sl:=yB;obtain⟨pl,il,sl',bl,hl,nl,rl,ub,jm,iv,sv,bv,hv,nv,rv,h1,h2,h3,h4,h5,h6,h7,h8,⟨h9,ilr⟩,hj⟩:=la.at';obtain⟨ps,e1,e2,e3⟩:=gX ilr;have pln:ps.length=S.repeats.length:=by rw[<-e1,za]
  refine⟨_,(ag (MP (i:=1) (ts:=["_law_repeat"]) (ys:=[]) (js:=[]) (g:=(bc 0)) (tc:=dt) (te:=(gQ iz [] E0 (bQ (bj 0) eO))) (bz (ax aA (pv 0) ae (fun _ _=>rfl))) (fun _ _ _ _=>(dj 0 (show List.Nodup [("_law_repeat": Str)] by decide +kernel))) (fun _ _ _ _=>bx) (fun _ _ _ _=>(bR (oU T) hr T.gF (aa (pv 0) af))) fW.nd)
   (ag (aI (bA (fE (ax aA (pv 0) ae (fun _ _=>rfl))))
   (ag (bW 2 fW.nd (E1 (bA (cA (ax aA (ax aA (pv 0) ae (fun _ _=>rfl)) ae (fun _ _=>rfl)))) aM (mV aX T.fh (aa (ax aA (ax aA (pv 0) ae (fun _ _=>rfl)) ae (fun _ _=>rfl)) af))))
    (aj (bT (cu PySem.F.plainAttrs_list PySem.F.slot_list_append PySem.F.type_list_append bM (pv 1) (aa (cu PySem.F.plainAttrs_str PySem.F.slot_str_join PySem.F.type_str_join gK aM (aa (bD (aa aM (aa (mV aX T.fh (aa (ax aA (ax aA (pv 0) ae (fun _ _=>rfl)) ae (fun _ _=>rfl)) af)) (aa (mV aX T.fh (aa (ax aA (ax aA (pv 0) ae (fun _ _=>rfl)) ae (fun _ _=>rfl)) af)) (aa (mV aX T.fh (aa (ax aA (ax aA (pv 0) ae (fun _ _=>rfl)) ae (fun _ _=>rfl)) af)) (aa (pv 2) af)))))) af)) af)))))
   aB)
   (aj (aq (pv 1))))),?_⟩
  ac_rfl;left;exists⟨_,aL.of h9⟩,?_;refine d8 (enc:=fun q:Rep×V=>q.2) (ws:=ps) (fun q=>.str (rowOf (.rep q.1))) (fun σ=>∃v,σ=[v]) nofun (by rw[e2];exact aL.of h9) ⟨none,rfl⟩ ?_ ?_
  ·rintro z σ H1 R hz s1 ⟨_,rfl⟩ rr
   have zin:z.1∈S.repeats:=by rw[<-e1];exact zO hz
   left;exact⟨z.2,z.1,rfl,(e3 z hz).mono s1,rok _ zin,fun H2 s2=>rr _ _ _ s2 eT ⟨_,rfl⟩⟩
  ·intro D vs H1 s1 nD hD ilD
   have ee:ps.map (fun q:Rep×V=>Dt.str (rowOf (.rep q.1)))=((S.repeats.map Told.rep).map rowOf).map Dt.str:=by rw[<-e1,zA,zA,zA];rfl
   rw[ee] at ilD;rw[dR ilD] at hD;have h11:=s1 _ _ h1;left;cases q:S.cb with
   | none=>
    rw[q] at hj;unfold dO Is at hj;subst hj;left;refine kk D H1 s1 nD ?_;unfold yN;rw[q,hD];simp
   | some j=>
    rw[q] at hj;obtain⟨ja,jc,rfl,hja,ijc⟩:=L9 hj;obtain⟨j1,j2,j3,j4⟩:=jok j q;have hja1:=s1 _ _ hja;have n1:=bN (n:=j.wJ) (by have:=j1.1;omega) (by have:=j1.2;omega);have n2:=bN (n:=j.AE) (by have:=j2.1;omega) (by have:=j2.2;omega);have n3:=bN (n:=j.dy) (by have:=j3.1;omega) (by have:=j3.2;omega);have cl:(ctxt j.gD).length<=5:=by
     unfold ctxt;cases qc:j.gD with
     | none=>decide
     | some m=>have:=j4 m qc;exact bw (by have:=this.1;omega) (by have:=this.2;omega)
    left;refine SK (H:=H1) (.str (ctxt j.gD)) ?_ ?_ ?_
    ·intro c Z hz
     have e:jc=.bE:=yd c;cases qc:j.gD with
     | none=>rw[qc] at hz;left;exact hz
     | some m=>rw[qc] at ijc;unfold dO Is at ijc;rw[ijc] at e;cases e
    ·intro c Z hz
     cases qc:j.gD with
     | none=>rw[qc] at ijc;unfold dO Is at ijc;rw[ijc] at c;simp at c
     | some m=>
      rw[qc] at ijc hz;unfold dO Is at ijc;subst ijc;left;exact⟨bN (by have:=(j4 m qc).1;omega) (by have:=(j4 m qc).2;omega),hz⟩
    left;exists .inl ⟨rfl,_,aL.of hD⟩,?_;left;exists n1,?_;left;exists n2,?_;left;exists n3,?_;left;exists by show 5<=sizeLine;omega,?_
    right;rename_i p5 H5 s5 h5;have ll:∀z∈Sc.wordsOf (.cb j),z.length<=5:=fun z hz=>by
     simp only[Sc.wordsOf,zC,zD,or_false] at hz;rcases hz with rfl | rfl | rfl | rfl | rfl
     ·decide
     ·exact bw (by have:=j1.1;omega) (by have:=j1.2;omega)
     ·exact bw (by have:=j2.1;omega) (by have:=j2.2;omega)
     ·exact bw (by have:=j3.1;omega) (by have:=j3.2;omega)
     ·exact cl
    have sb:=pQ (sep:=" ") ll;refine⟨" ",p5,Sc.wordsOf (.cb j),rfl,rfl,aL.of h5,zL sb (by show 5*(5+1)<=sizeLine;omega),?_⟩;left;exists D,_,_,rfl,rfl,s5 _ _ hD,by rw[za,za,za];omega,?_
    left;refine kk D _ (cM nD (s1.trans s5)) nD ?_;unfold yN;rw[aF,q,zj,zj];rfl
theorem NG {H:Hp} {x:Str×(Int×Int)×(Int×Int)} {v:V} (h:Is H (eG x) v):∃a t l,v=.ref a/\H a=some (.tup [.str x.1,t,l])/\Is H (dL x.2.1) t/\Is H (dL x.2.2) l:=by
 unfold eG Is at h;obtain⟨a,vs,rfl,ha,hl⟩:=h;unfold L2.IsL at hl;obtain⟨v1,r1,rfl,h1,hl⟩:=hl;unfold L2.IsL at hl;obtain⟨v2,r2,rfl,h2,hl⟩:=hl;unfold L2.IsL at hl;obtain⟨v3,r3,rfl,h3,hl⟩:=hl;unfold L2.IsL at hl;subst hl;unfold Is at h1;subst h1;exact⟨a,v2,v3,rfl,ha,h2,h3⟩
theorem JL {H:Hp} {x:Str×List Str} {v:V} (h:Is H (gB x) v):∃a q,v=.ref a/\H a=some (.tup [.str x.1,.ref q])/\H q=some (.tup (x.2.map V.str)):=by
 unfold gB Is at h;obtain⟨a,vs,rfl,ha,hl⟩:=h;unfold L2.IsL at hl;obtain⟨v1,r1,rfl,h1,hl⟩:=hl;unfold L2.IsL at hl;obtain⟨v2,r2,rfl,h2,hl⟩:=hl;unfold L2.IsL at hl;subst hl;unfold Is at h1;subst h1;unfold mO Is at h2;obtain⟨q,us,rfl,hq,hl⟩:=h2;rw[dR hl] at hq;exact⟨a,q,rfl,ha,hq⟩
theorem L0 {H:Hp} {x:Int×Str} {v:V} (h:Is H (HG x) v):∃a,v=.ref a/\H a=some (.tup [.int x.1,.str x.2]):=by
 unfold HG Is at h;obtain⟨a,vs,rfl,ha,hl⟩:=h;unfold L2.IsL at hl;obtain⟨v1,r1,rfl,h1,hl⟩:=hl;unfold L2.IsL at hl;obtain⟨v2,r2,rfl,h2,hl⟩:=hl;unfold L2.IsL at hl;subst hl;unfold Is at h1 h2;subst h1 h2;exact⟨a,rfl,ha⟩
def TD (t:Told):Prop:=Oz t/\(Sc.wordsOf t).length<=100/\∀w∈Sc.wordsOf t,w.length<=100
theorem w8 {t:Told} (h:TD t):((Sc.wordsOf t).map (fun z:Str=>z.length+(" ": Str).length)).sum<=sizeLine:=by
 have sl:=yB;have a:=pQ (sep:=" ") h.2.2;have b:(Sc.wordsOf t).length*(100+(" ": Str).length)<=100*(100+(" ": Str).length):=Nat.mul_le_mul h.2.1 (zk _);exact zL a (zL b (by show 100*(100+1)<=sizeLine;omega))
theorem GZ (n:Str):("player ": Str)++n=rowOf (.bG n):=rfl
noncomputable def rws (ts:List Told):List V:=(ts.map rowOf).map V.str
theorem lz (a b:List Told):rws (a++b)=rws a++rws b:=by unfold rws;rw[zj,zj]
theorem ly (a:List Told):(rws a).length=a.length:=by unfold rws;rw[za,za]
def pS:Sp:=fun vs H Q _=>∃(p:Addr) (S:cJ),vs=[.ref p]/\vn H p S/\(∀t∈eN S,TD t)/\(eN S).length<=1000000/\(∀r∈S.repeats,Kp r)/\S.repeats.length<=1000/\∀D H',au H H'->H D=none->H' D=some (.lst (rws (eN S)))->Q (.ref D) H'
theorem aR:aD ["_law_s","_law_rows","_law_name","_law_turn","_law_time","_law_metre","_law_key","_law_marks","_law_player","_law_row","_law_bar","_law_items"] ["_law_s"] (ao jJ):=dJ
theorem qB (T:Txt K mg):dm P w base 3 T.ia pS:=by
 refine T.ia.F.dH aR fun _ _ _ _ H vs Q E hr h=>?_
 ·obtain⟨p,S,rfl,la,tok,tl,rok,rln3,kk⟩:=h
  have sl:=yB;obtain⟨pl,il,st,bl,hl,nl,rl,ub,jm,iv,sv,bv,hv,nv,rv,h1,h2,⟨h3,ili⟩,⟨h4,ils⟩,⟨h5,ilb⟩,h6,⟨h7,rlh⟩,⟨h8,rln⟩,_,_⟩:=la.at';have mem:∀a b c:List Told,eN S=a++b++c->∀t∈b,TD t:=fun a b c e t ht=>tok t (by rw[e];simp[ht]);have tlen:∀a b:List Told,eN S=a++b->a.length<=1000000:=fun a b e=>by rw[e,zg] at tl;omega
  obtain⟨fl,fli,fls,flb,fln⟩:S.players.length<=1000000/\S.players.length+S.ak.length<=1000000/\S.players.length+S.ak.length+S.aK.length<=1000000/\S.players.length+S.ak.length+S.aK.length+S.aP.length<=1000000/\S.aJ.length<=1000000:=by
   unfold eN at tl;simp only[zg,za] at tl;omega
  refine⟨_,(ag (MP (i:=1) (ts:=["_law_name"]) (ys:=[]) (js:=[]) (g:=(bc 0)) (tc:=dt) (te:=(fQ (fun x y H Q=>∃i j,x=.str i/\y=.str j/\i.length+j.length<=sizeLine/\Q (.str (i++j)) H) (tC (.str "player ")) (bj 0))) (bz (ax aA (pv 0) ae (fun _ _=>rfl))) (fun _ _ _ _=>(dj 0 (show List.Nodup [("_law_name": Str)] by decide +kernel))) (fun _ _ _ _=>bx) (fun _ _ _ _=>(ar bS aM (pv 0))) aR.nd)
   (ag (cE PassesOwn.never rfl (bz (ax aA (pv 0) ae (fun _ _=>rfl))) (dY (n:=3) rfl (aO (dj 2 aR.nd) (aO (dj 3 aR.nd) (aO (dj 4 aR.nd) cX))))
   (aj (bT (cu PySem.F.plainAttrs_list PySem.F.slot_list_append PySem.F.type_list_append bM (pv 1) (aa (cu PySem.F.plainAttrs_str PySem.F.slot_str_join PySem.F.type_str_join gK aM (aa (bD (aa aM (aa (pv 2) (aa (mV aX T.fh (aa (ax aA (pv 3) ae (fun _ _=>rfl)) af)) (aa (mV aX T.fh (aa (ax aA (pv 3) ae (fun _ _=>rfl)) af)) (aa (bR (dQ T) hr T.dk (aa (pv 4) af)) af)))))) af)) af)))))
   (ag (bW 1 aR.nd (ar gJ (pv 1) (pK (ts:=["_law_name","_law_players"]) (ys:=[]) (js:=[]) (g:=(FA K 2 (fZ (bc 0) (fZ (bc 1) FC)))) (tc:=dt) (te:=(Rp K "str" (rJoin K) (tC (.str " ")) (bQ (fQ (Oi K) (Ex (bQ (tC (.str "staff")) (bQ (bj 0) eO))) (Jq (QH K) (bQ (bj 1) eO))) eO))) (bz (ax aA (pv 0) ae (fun _ _=>rfl))) (fun _ _ _ _=>(dY (n:=2) rfl (aO (dj 0 (show List.Nodup [("_law_name": Str),("_law_players": Str)] by decide +kernel)) (aO (dj 1 (show List.Nodup [("_law_name": Str),("_law_players": Str)] by decide +kernel)) cX)))) (fun _ _ _ _=>bx) (fun _ _ _ _=>(cu PySem.F.plainAttrs_str PySem.F.slot_str_join PySem.F.type_str_join gK aM (aa (ar gJ (bD (aa aM (aa (pv 0) af))) (mV iO T.tX (aa (pv 1) af))) af))))))
   (ag (cE PassesOwn.never rfl (bz (ax aA (pv 0) ae (fun _ _=>rfl))) (dY (n:=3) rfl (aO (dj 5 aR.nd) (aO (dj 6 aR.nd) (aO (dj 7 aR.nd) cX))))
   (aj (bT (cu PySem.F.plainAttrs_list PySem.F.slot_list_append PySem.F.type_list_append bM (pv 1) (aa (cu PySem.F.plainAttrs_str PySem.F.slot_str_join PySem.F.type_str_join gK aM (aa (ar gJ (bD (aa aM (aa (ar bS (ar bS (mV aX T.fh (aa (ax aA (pv 5) ae (fun _ _=>rfl)) af)) aM) (mV aX T.fh (aa (ax aA (pv 5) ae (fun _ _=>rfl)) af))) (aa (mV aX T.fh (aa (pv 6) af)) af)))) (mV iO T.tX (aa (pv 7) af))) af)) af)))))
   (ag (aI (bA (fE (ax aA (pv 0) ae (fun _ _=>rfl))))
   (aj (bT (cu PySem.F.plainAttrs_list PySem.F.slot_list_append PySem.F.type_list_append bM (pv 1) (aa (ar bS aM (bR (dQ T) hr T.dk (aa (ax aA (pv 0) ae (fun _ _=>rfl)) af))) af))))
   aB)
   (ag (cE PassesOwn.never rfl (bz (ax aA (pv 0) ae (fun _ _=>rfl))) (dY (n:=2) rfl (aO (dj 8 aR.nd) (aO (dj 9 aR.nd) cX)))
   (aj (bW 1 aR.nd (ar gJ (pv 1) (pK (ts:=["_law_bar","_law_name"]) (ys:=["_law_player"]) (js:=[8]) (g:=(FA K 2 (fZ (bc 0) (fZ (bc 1) FC)))) (tc:=dt) (te:=(Rp K "str" (rJoin K) (tC (.str " ")) (bQ (Ex (bQ (tC (.str "holds")) (bQ (bj 2) (bQ (Jq QG (bQ (bj 0) eO)) (bQ (bj 1) eO))))) eO))) (bz (pv 9)) (fun _ _ _ _=>(dY (n:=2) rfl (aO (dj 0 (show List.Nodup [("_law_bar": Str),("_law_name": Str),("_law_player": Str)] by decide +kernel)) (aO (dj 1 (show List.Nodup [("_law_bar": Str),("_law_name": Str),("_law_player": Str)] by decide +kernel)) cX)))) (fun _ _ _ _=>bx) (fun _ _ _ _=>(cu PySem.F.plainAttrs_str PySem.F.slot_str_join PySem.F.type_str_join gK aM (aa (bD (aa aM (aa (pv 2) (aa (mV aX T.fh (aa (pv 0) af)) (aa (pv 1) af))))) af))))))))
   (ag (cE PassesOwn.never rfl (bz (ax aA (pv 0) ae (fun _ _=>rfl))) (dY (n:=3) rfl (aO (dj 10 aR.nd) (aO (dj 8 aR.nd) (aO (dj 11 aR.nd) cX))))
   (aj (bT (cu PySem.F.plainAttrs_list PySem.F.slot_list_append PySem.F.type_list_append bM (pv 1) (aa (cu PySem.F.plainAttrs_str PySem.F.slot_str_join PySem.F.type_str_join gK aM (aa (ar gJ (bD (aa aM (aa (mV aX T.fh (aa (pv 10) af)) (aa (pv 8) af)))) (pK (ts:=["_law_item"]) (ys:=[]) (js:=[]) (g:=(bc 0)) (tc:=dt) (te:=(gQ jF [] E0 (bQ (bj 0) eO))) (bz (pv 11)) (fun _ _ _ _=>(dj 0 (show List.Nodup [("_law_item": Str)] by decide +kernel))) (fun _ _ _ _=>bx) (fun _ _ _ _=>(bR (sj T) hr T.jA (aa (pv 0) af))))) af)) af)))))
   (aj (aq (ar gJ (pv 1) (bR (sk T) hr T.jB (aa (pv 0) af)))))))))))),?_⟩
  ac_rfl;left;exists⟨_,aL.of h2⟩,?_;refine d8 (enc:=V.str) (ws:=S.players) (fun n=>.str (rowOf (.bG n))) (fun σ=>∃v,σ=[v]) nofun (aL.of h2) ⟨none,rfl⟩ ?_ ?_
  ·rintro z σ H1 R hz s1 ⟨_,rfl⟩ rr
   have tz:TD (.bG z):=tok _ (by unfold eN;simp[hz]);left;refine⟨?_,?_⟩
   ·have l7:("player ": Str).length=7:=rfl
    have:=tz.2.2 z (by simp[Sc.wordsOf]);omega
   exact rr _ _ _ (au.refl _) (by rw[GZ];exact eT) ⟨_,rfl⟩
  ·intro D vs H1 s1 nD hD ilD
   have ee:S.players.map (fun n=>Dt.str (rowOf (.bG n)))=((S.players.map Told.bG).map rowOf).map Dt.str:=by rw[zA,zA];rfl
   rw[ee] at ilD;rw[dR ilD] at hD;have h11:=s1 _ _ h1;left;exists⟨_,aL.of (s1 _ _ h3)⟩,?_;refine dX (K:=K) (a:=il) (xs:=iv) (fun i σ H'=>Lo [some (.ref p),some (.ref D)] 10 σ/\au H H'/\H' D=some (.lst (rws (S.players.map .bG++(S.ak.take i).map fun x=>.cI x.1 x.2.1 x.2.2)))) ⟨Lo.of rfl rfl,s1,by rw[List.take_zero,ym,zU];exact hD⟩ (fun i σ H' _ h=>by obtain⟨_,z,_⟩:=h;exact aL.of (z _ _ h3)) ?_ ?_
   ·intro i x σ H2 hx hh
    refine dU fun N kN0 kR0 _ _=>?_;obtain⟨⟨e,rfl⟩,s2,hD2⟩:=hh;obtain⟨n,hn,ix⟩:=dz (d:=eG) ili hx;obtain⟨a1,t1,l1,rfl,ha1,it,iL⟩:=NG ix;cases fj (o:=some n.2.1) it with
    | ref ht=>
    cases fj (o:=some n.2.2) iL with
    | ref hL=>
    have tn:TD (.cI n.1 n.2.1 n.2.2):=tok _ (by unfold eN;simp only[zF,zG];exact .inl (.inl (.inl (.inl (.inl (.inl (.inr ⟨n,zB hn,rfl⟩)))))));refine⟨a1,_,rfl,dB.of (s2 _ _ ha1),rfl,?_⟩;refine⟨_,_,rfl,⟨_,_,rfl,⟨_,_,rfl,⟨rfl,?_⟩⟩⟩⟩;rename_i bt bL;have ht2:=s2 _ _ ht;have hL2:=s2 _ _ hL;obtain⟨t1,t2,t3,t4,t5,t6,t7⟩:=tn.1;obtain⟨c1,c2,c3,c4,_⟩:=t2;obtain⟨r1,r2,_⟩:=t5.pos;left;exists .inl ⟨rfl,_,aL.of hD2⟩,?_;left;exists bN nofun nofun,?_;left;exists bN nofun nofun,?_;left;exists _,n.2.2,rfl,hL2,r1,t6,r2,t7,?_;left;exists by show 5<=sizeLine;omega,?_
    right;rename_i p5 H5 s5 h5;exists " ",p5,Sc.wordsOf (.cI n.1 n.2.1 n.2.2),rfl,rfl,aL.of h5,w8 tn,?_;left;refine⟨D,_,_,rfl,rfl,s5 _ _ hD2,?_,?_⟩
    ·rw[ly,zg,za,za,zP];omega
    left;exists Lo.of rfl rfl,cM nD (s2.trans s5),?_;rw[aF,cU hn,zj,<-zE];exact congrArg (fun l=>some (HO.lst l)) (lz _ [Told.cI n.1 n.2.1 n.2.2]).symm
   ·rintro σ H2 ⟨⟨e,rfl⟩,s2,hD2⟩
    rw[aS ili,zM] at hD2;have h12:=s2 _ _ h1;obtain⟨ps,e1,e2,e3⟩:=gX ils;have pln:ps.length=S.aK.length:=by rw[<-e1,za]
    left;exists⟨_,aL.of (s2 _ _ h4)⟩,?_;refine d8 (enc:=fun q:(Str×List Str)×V=>q.2) (ws:=ps) (fun q=>.str (rowOf (.cm q.1.1 q.1.2))) (fun σ=>∃v u,σ=[v,u]) nofun (by rw[e2];exact aL.of (s2 _ _ h4)) ⟨none,none,rfl⟩ ?_ ?_
    ·rintro z σ H3 R hz s3 ⟨_,_,rfl⟩ rr
     have zin:z.1∈S.aK:=by rw[<-e1];exact zO hz
     have tz:TD (.cm z.1.1 z.1.2):=tok _ (by unfold eN;simp only[zF,zG];exact .inl (.inl (.inl (.inl (.inl (.inr ⟨z.1,zin,rfl⟩))))));obtain⟨a3,q3,ea,ha3,hq3⟩:=JL (e3 z hz);have s03:=s2.trans s3;rw[ea];exists a3,_,rfl,dB.of (s03 _ _ ha3),rfl,?_;refine⟨_,_,rfl,⟨_,_,rfl,⟨rfl,?_⟩⟩⟩;left;exists by show 2<=sizeLine;omega,?_
     right;rename_i p5 H5 s5 h5;left;exists q3,_,rfl,.inr (dB.of (s5 _ _ (s03 _ _ hq3))),?_;right;rename_i p6 H6 s6 h6;have zl:z.1.2.length<=98:=by have:=tz.2.1;simp only[Sc.wordsOf,zt] at this;omega
     refine⟨p5,p6,_,_,rfl,rfl,aL.of (s6 _ _ h5),aL.of h6,by rw[za];show 2+_<=_;omega,?_⟩;right;rename_i p7 H7 s7 h7;exists " ",p7,Sc.wordsOf (.cm z.1.1 z.1.2),rfl,rfl,aL.of h7,w8 tz,?_;exact rr _ _ _ ((s5.trans s6).trans s7) eT ⟨_,_,rfl⟩
    ·intro D3 vs3 H3 s3 nD3 hD3 il3
     have ee3:ps.map (fun q:(Str×List Str)×V=>Dt.str (rowOf (.cm q.1.1 q.1.2)))=((S.aK.map fun x=>Told.cm x.1 x.2).map rowOf).map Dt.str:=by rw[<-e1,zA,zA,zA];rfl
     rw[ee3] at il3;rw[dR il3] at hD3;refine⟨D,D3,_,_,rfl,rfl,aL.of (s3 _ _ hD2),aL.of hD3,?_,?_⟩
     ·rw[ly,zg,za,za,za,za,za];omega
     intro D4 n4;generalize hU:upd H3 D4 _=H4;have s4:au H3 H4:=by rw[<-hU];exact aZ n4
     have hD4:H4 D4=some (.lst (rws (S.players.map .bG++(S.ak.map fun x=>.cI x.1 x.2.1 x.2.2)++S.aK.map fun x=>.cm x.1 x.2))):=by
      rw[<-hU,aF];exact congrArg (fun l=>some (HO.lst l)) (lz _ _).symm
     clear hU;have nD4:H D4=none:=(s2.trans s3).back n4;have s04:=(s2.trans s3).trans s4;clear hD2 hD3 il3 hD ilD nD nD3;have h14:=s04 _ _ h1;left;exists⟨_,aL.of (s04 _ _ h5)⟩,?_;refine dX (K:=K) (a:=bl) (xs:=bv) (fun i σ H'=>Lo [some (.ref p),some (.ref D4)] 10 σ/\au H H'/\H' D4=some (.lst (rws (S.players.map .bG++(S.ak.map fun x=>.cI x.1 x.2.1 x.2.2)++(S.aK.map fun x=>.cm x.1 x.2)++(S.aP.take i).map .bar)))) ⟨⟨e,rfl⟩,s04,by rw[List.take_zero,ym,zU];exact hD4⟩ (fun i σ H' _ h=>by obtain⟨_,z,_⟩:=h;exact aL.of (z _ _ h5)) ?_ ?_
     ·intro i x σ H5 hx hh
      refine dU fun N kN1 kR1 _ _=>?_;obtain⟨⟨e,rfl⟩,s5,hD5⟩:=hh;obtain⟨b,hb,ib⟩:=dz (d:=kQ) ilb hx;obtain⟨a1,mv,q1,rfl,ha1,im,hq1⟩:=wH ib;cases fj (o:=some b.aT) im with
      | ref hm=>
      rename_i am;have tb:TD (.bar b):=tok _ (by unfold eN;simp only[zF,zG];exact .inl (.inl (.inl (.inl (.inr ⟨b,zB hb,rfl⟩)))));have hm5:=s5 _ _ hm;refine⟨a1,_,rfl,dB.of (s5 _ _ ha1),rfl,?_⟩;refine⟨_,_,rfl,⟨_,_,rfl,⟨_,_,rfl,⟨rfl,?_⟩⟩⟩⟩;obtain⟨t1,t2,t3,t4,t5,t6⟩:=tb.1;have bb:0<=b.aT.2/\b.aT.2<1000:=by unfold Bp at t3;simp at t3;omega
      have la1:=bw (n:=b.aT.1) nofun nofun;have la2:=bw (n:=b.aT.2) nofun nofun;have l1:("/": Str).length=1:=rfl;left;exists .inl ⟨rfl,_,aL.of hD5⟩,?_;left;exists bN nofun nofun,?_;left;exists by show(dec b.aT.1).length+_<=_;omega,?_
      left;exists bN nofun nofun,?_;left;exists by show(dec b.aT.1 ++"/").length+(dec b.aT.2).length<=_;rw[len_app];omega,?_
      left;exists bN nofun nofun,?_;left;exists by show 3<=sizeLine;omega,?_
      right;rename_i p6 H6 s6 h6;left;exists q1,_,rfl,.inr (dB.of (s6 _ _ (s5 _ _ hq1))),?_;right;rename_i p7 H7 s7 h7;have ml:b.marks.length<=97:=by have:=tb.2.1;simp only[Sc.wordsOf,zt] at this;omega
      refine⟨p6,p7,_,_,rfl,rfl,aL.of (s7 _ _ h6),aL.of h7,by rw[za];show 3+_<=_;omega,?_⟩;right;rename_i p8 H8 s8 h8;exists " ",p8,Sc.wordsOf (.bar b),rfl,rfl,aL.of h8,w8 tb,?_;have s58:=(s6.trans s7).trans s8;left;refine⟨D4,_,_,rfl,rfl,s58 _ _ hD5,?_,?_⟩
      ·rw[ly];simp only[zg,za,zP];omega
      left;exists Lo.of rfl rfl,cM nD4 (s5.trans s58),?_;rw[aF,cU hb,zj,<-zE];exact congrArg (fun l=>some (HO.lst l)) (lz _ [Told.bar b]).symm
     ·rintro σ H5 ⟨⟨e,rfl⟩,s5,hD5⟩
      rw[aS ilb,zM] at hD5;obtain⟨B,hB⟩:∃B,B=S.players.map Told.bG++(S.ak.map fun x=>Told.cI x.1 x.2.1 x.2.2)++(S.aK.map fun x=>Told.cm x.1 x.2)++S.aP.map Told.bar:=⟨_,rfl⟩
      have tB:eN S=B++S.aH.toList.map .aH++(S.holds.map fun x=>x.2.map fun h=>Told.holds x.1 h.1 h.2).flatten++(S.aJ.map fun x=>.aJ x.1.1 x.1.2 x.2)++yN S:=by rw[hB];rfl
      rw[<-hB] at hD5;have h15:=s5 _ _ h1;left;refine join (fun σ H'=>Lo [some (.ref p),some (.ref D4)] 10 σ/\au H H'/\H' D4=some (.lst (rws (B++S.aH.toList.map .aH)))) (fun N hN c1=>?_) (fun N hN c1=>?_) ?_
      ·cases qu:S.aH with
       | none=>
        rw[qu] at h6;unfold dO Is at h6;rw[h6] at c1;simp at c1
       | some u=>
        rw[qu] at h6;cases fj (o:=some u) h6 with
        | ref hu=>
        have tu:TD (.aH u):=tok _ (by rw[tB,qu];simp);obtain⟨u1,u2,u3,u4⟩:=tu.1;obtain⟨_,r2,_⟩:=u1.pos;have lu:=kK (x:=u) nofun u3 nofun u4;have bl5:B.length<=1000000:=tlen B _ (by rw[tB,zE,zE,zE]);left;exists .inl ⟨rfl,_,aL.of hD5⟩,?_;left;exists _,u,rfl,s5 _ _ hu,nofun,u3,r2,u4,?_;have l7:("upbeat ": Str).length=7:=rfl;refine⟨_,_,rfl,rfl,nofun,?_⟩;left;exists D4,_,_,rfl,rfl,hD5,by rw[ly];omega,?_
        left;refine hN _ _ ⟨Lo.of rfl rfl,cM nD4 s5,?_⟩;rw[aF,qu];exact congrArg (fun l=>some (HO.lst l)) (lz B [Told.aH u]).symm
      ·have qu:S.aH=none:=by
        cases qu:S.aH with
        | none=>rfl
        | some u=>
         rw[qu] at h6;cases fj (o:=some u) h6 with
         | ref hu=>simp at c1
       left;refine hN _ _ ⟨Lo.of rfl rfl,s5,?_⟩;rw[qu];show H5 D4=some (.lst (rws (B++[])));rw[zU];exact hD5
      rintro σ6 H6 ⟨⟨e,rfl⟩,s6,hD6⟩;have h16:=s6 _ _ h1;left;exists⟨_,aL.of (s6 _ _ h7)⟩,?_;refine dX (K:=K) (a:=hl) (xs:=hv) (fun i σ H'=>∃(D:Addr),Lo [some (.ref p),some (.ref D)] 10 σ/\au H H'/\H D=none/\H' D=some (.lst (rws (B++S.aH.toList.map .aH++((S.holds.take i).map fun x=>x.2.map fun h=>Told.holds x.1 h.1 h.2).flatten)))) ⟨D4,⟨e,rfl⟩,s6,nD4,by rw[List.take_zero,ym,List.flatten_nil,zU];exact hD6⟩ (fun i σ H' _ h=>by obtain⟨_,_,z,_⟩:=h;exact aL.of (z _ _ h7)) ?_ ?_
      ·intro i x σ H7 hx hh
       refine dU fun N kN2 kR2 _ _=>?_;obtain⟨D7,⟨e,rfl⟩,s7,nD7,hD7⟩:=hh;obtain⟨y,hy,a7,r7,us7,rfl,ha7,hr7,il7,_⟩:=rlh.at hx;obtain⟨qs,f1,f2,f3⟩:=gX il7;have ty:∀h∈y.2,TD (.holds y.1 h.1 h.2):=fun h hh=>tok _ (by
        rw[tB];refine zI _ (zI _ (zH _ ?_));exact List.mem_flatten.mpr ⟨_,zO (zB hy),zO hh⟩)
       have tke:((S.holds.take (i+1)).map fun x=>x.2.map fun h=>Told.holds x.1 h.1 h.2).flatten=((S.holds.take i).map fun x=>x.2.map fun h=>Told.holds x.1 h.1 h.2).flatten++y.2.map fun h=>Told.holds y.1 h.1 h.2:=by
        rw[cU hy,zj,List.flatten_append];simp
       have lenB:(B++S.aH.toList.map Told.aH++((S.holds.take (i+1)).map fun x=>x.2.map fun h=>Told.holds x.1 h.1 h.2).flatten).length<=1000000:=by
        refine tlen _ (((S.holds.drop (i+1)).map fun x=>x.2.map fun h=>Told.holds x.1 h.1 h.2).flatten++(S.aJ.map fun x=>.aJ x.1.1 x.1.2 x.2)++yN S) ?_;rw[tB]
        conv=>lhs;rw[<-zY (i+1) S.holds,zj,List.flatten_append]
        simp only[zE]
       rw[tke] at lenB;simp only[zg,za] at lenB;refine⟨a7,_,rfl,dB.of (s7 _ _ ha7),rfl,?_⟩;refine⟨_,_,rfl,⟨_,_,rfl,⟨rfl,?_⟩⟩⟩;left;exists⟨_,aL.of (s7 _ _ hr7)⟩,?_;have ql:qs.length=y.2.length:=by rw[<-f1,za]
       refine d8 (enc:=fun q:(Int×Str)×V=>q.2) (ws:=qs) (fun q=>.str (rowOf (.holds y.1 q.1.1 q.1.2))) (fun σ=>∃v u,σ=[v,u,some (.str y.1)]) nofun (by rw[f2];exact aL.of (s7 _ _ hr7)) ⟨none,none,rfl⟩ ?_ ?_
       ·rintro z σ H8 R hz s8 ⟨_,_,rfl⟩ rr
        have zin:z.1∈y.2:=by rw[<-f1];exact zO hz
        have tz:=ty z.1 zin;obtain⟨a8,ea,ha8⟩:=L0 (f3 z hz);have s08:=s7.trans s8;obtain⟨b1,b2⟩:=tz.1.2.1;rw[ea];exists a8,_,rfl,dB.of (s08 _ _ ha8),rfl,?_;refine⟨_,_,rfl,⟨_,_,rfl,⟨rfl,?_⟩⟩⟩;left;exists bN nofun nofun,?_;left;exists by show 4<=sizeLine;omega,?_
        right;rename_i p9 H9 s9 h9;exists " ",p9,Sc.wordsOf (.holds y.1 z.1.1 z.1.2),rfl,rfl,aL.of h9,w8 tz,?_;exact rr _ _ _ s9 eT ⟨_,_,rfl⟩
       ·intro D8 vs8 H8 s8 _ hD8 il8
        have ee8:qs.map (fun q:(Int×Str)×V=>Dt.str (rowOf (.holds y.1 q.1.1 q.1.2)))=((y.2.map fun h=>Told.holds y.1 h.1 h.2).map rowOf).map Dt.str:=by rw[<-f1,zA,zA,zA];rfl
        rw[ee8] at il8;rw[dR il8] at hD8;refine⟨D7,D8,_,_,rfl,rfl,aL.of (s8 _ _ hD7),aL.of hD8,?_,?_⟩
        ·rw[ly];simp only[zg,za];omega
        intro D9 n9;generalize hU:upd H8 D9 _=H9;have s9:au H8 H9:=by rw[<-hU];exact aZ n9
        left;exists D9,Lo.of rfl rfl,(s7.trans s8).trans s9,(s7.trans s8).back n9,?_;rw[<-hU,aF,tke,<-zE];exact congrArg (fun l=>some (HO.lst l)) (lz _ _).symm
      ·rintro σ H7 ⟨D7,⟨e,rfl⟩,s7,nD7,hD7⟩
       rw[rlh.len,zM] at hD7;obtain⟨B2,hB2⟩:∃B2,B2=B++S.aH.toList.map Told.aH++(S.holds.map fun x=>x.2.map fun h=>Told.holds x.1 h.1 h.2).flatten:=⟨_,rfl⟩
       rw[<-hB2] at hD7 tB;have h17:=s7 _ _ h1;left;exists⟨_,aL.of (s7 _ _ h8)⟩,?_;refine dX (K:=K) (a:=nl) (xs:=nv) (fun i σ H'=>Lo [some (.ref p),some (.ref D7)] 10 σ/\au H H'/\H' D7=some (.lst (rws (B2++(S.aJ.take i).map fun x=>.aJ x.1.1 x.1.2 x.2)))) ⟨⟨e,rfl⟩,s7,by rw[List.take_zero,ym,zU];exact hD7⟩ (fun i σ H' _ h=>by obtain⟨_,z,_⟩:=h;exact aL.of (z _ _ h8)) ?_ ?_
       ·intro i x σ H8 hx hh
        refine dU fun N kN3 kR3 _ _=>?_;obtain⟨⟨e,rfl⟩,s8,hD8⟩:=hh;obtain⟨y,hy,a7,r7,us7,rfl,ha7,hr7,il7,_⟩:=rln.at hx;obtain⟨qs,f1,f2,f3⟩:=gX il7;have tz:TD (.aJ y.1.1 y.1.2 y.2):=tok _ (by rw[tB];simp only[zF,zG];exact .inl (.inr ⟨y,zB hy,rfl⟩));obtain⟨⟨b1,b2⟩,b3,b4,_⟩:=tz.1;have yl:y.2.length<=97:=by have:=tz.2.1;simp only[Sc.wordsOf,zt,za] at this;omega
        have ql:qs.length=y.2.length:=by rw[<-f1,za]
        have ib:i<S.aJ.length:=(zw.mp hy).1;have lenB:B2.length+S.aJ.length<=1000000:=by
         have:=tlen (B2++S.aJ.map fun x=>.aJ x.1.1 x.1.2 x.2) (yN S) tB
         simpa[zg,za] using this
        refine⟨a7,_,rfl,dB.of (s8 _ _ ha7),rfl,?_⟩;refine⟨_,_,rfl,⟨_,_,rfl,⟨_,_,rfl,⟨rfl,?_⟩⟩⟩⟩;left;exists .inl ⟨rfl,_,aL.of hD8⟩,?_;left;exists bN nofun nofun,?_;left;exists by show 3<=sizeLine;omega,?_
        right;rename_i p9 H9 s9 h9;have s09:=s8.trans s9;left;exists⟨_,aL.of (s09 _ _ hr7)⟩,?_;refine d8 (enc:=fun q:Item×V=>q.2) (ws:=qs) (fun q=>.str (qE q.1)) (fun σ=>∃v,σ=[v]) nofun (by rw[f2];exact aL.of (s09 _ _ hr7)) ⟨none,rfl⟩ ?_ ?_
        ·rintro z σ Ha R hz sa ⟨_,rfl⟩ rr
         have zin:z.1∈y.2:=by rw[<-f1];exact zO hz
         left;exact⟨z.2,z.1,rfl,((f3 z hz).mono s09).mono sa,b4 _ zin,rr _ _ _ (au.refl _) eT ⟨_,rfl⟩⟩
        ·intro Da vsa Ha sa _ hDa ila
         have eea:qs.map (fun q:Item×V=>Dt.str (qE q.1))=(y.2.map qE).map Dt.str:=by rw[<-f1,zA,zA];rfl
         rw[eea] at ila;rw[dR ila] at hDa;exists p9,Da,_,_,rfl,rfl,aL.of (sa _ _ h9),aL.of hDa,by rw[za,za];show 3+_<=_;omega,?_
         right;rename_i pb Hb sb hb;exists " ",pb,Sc.wordsOf (.aJ y.1.1 y.1.2 y.2),rfl,rfl,aL.of hb,w8 tz,?_;have s8b:=(s9.trans sa).trans sb;left;refine⟨D7,_,_,rfl,rfl,s8b _ _ hD8,?_,?_⟩
         ·rw[ly];simp only[zg,za,zP];omega
         left;exists Lo.of rfl rfl,cM nD7 (s8.trans s8b),?_;rw[aF,cU hy,zj,<-zE];exact congrArg (fun l=>some (HO.lst l)) (lz _ [Told.aJ y.1.1 y.1.2 y.2]).symm
       ·rintro σ H8 ⟨⟨e,rfl⟩,s8,hD8⟩
        rw[rln.len,zM] at hD8;left;exists p,S,rfl,la.mono s8,rok,rln3,fun j hj=>(tok (.cb j) (by rw[tB];unfold yN;rw[hj];simp)).1,fun D9 H9 s9 _ h9=>?_;refine⟨D7,D9,_,_,rfl,rfl,aL.of (s9 _ _ hD8),aL.of h9,?_,?_⟩
        ·have:=tl
         rw[tB] at this;simp only[zg,za] at this;rw[ly];simp only[zg,za];omega
        intro Dx nx;generalize hU:upd H9 Dx _=Hx;have sx:au H9 Hx:=by rw[<-hU];exact aZ nx
        refine kk Dx Hx ((s8.trans s9).trans sx) ((s8.trans s9).back nx) ?_;rw[<-hU,aF,tB];exact congrArg (fun l=>some (HO.lst l)) (lz _ _).symm
theorem KU {t:Told} (h:TD t):(rowOf t).length<=10100:=by
 have a:=yH (sep:=" ") h.2.2;have b:(Sc.wordsOf t).length*(100+(" ": Str).length)<=100*(100+(" ": Str).length):=Nat.mul_le_mul h.2.1 (zk _);exact zL a (zL b (by show 100*(100+1)<=10100;decide))
def pR:Sp:=fun vs H Q _=>∃(p:Addr) (S:cJ),vs=[.ref p]/\vn H p S/\(∀t∈eN S,TD t)/\(eN S).length<=1000/\(∀r∈S.repeats,Kp r)/\S.repeats.length<=1000/\∀H',au H H'->Q (.str (Str.join "\n" ((eN S).map rowOf))) H'
theorem Es {ts:List Told} (h:∀t∈ts,TD t) (hl:ts.length<=1000):((ts.map rowOf).map (fun z:Str=>z.length+("\n": Str).length)).sum<=1000*10101:=by
 have a:=pQ (sep:="\n") (k:=10100) (zs:=ts.map rowOf) fun z hz=>by
  obtain⟨t,ht,rfl⟩:=zG.mp hz;exact KU (h t ht)
 rw[za] at a;have b:ts.length*(10100+("\n": Str).length)<=1000*(10100+("\n": Str).length):=Nat.mul_le_mul hl (zk _);exact zL a (zL b (by show 1000*(10100+1)<=1000*10101;decide))
theorem qd:aD ["_law_s"] ["_law_s"] (ao jI):=dJ
theorem qA (T:Txt K mg):dm P w base 4 T.hZ pR:=by
 refine T.hZ.F.dH qd fun _ _ _ _ H vs Q E hr h=>?_
 ·obtain⟨p,S,rfl,la,tok,tl,rok,rl,kk⟩:=h
  have sl:=yB;refine⟨_,(aj (aq (cu PySem.F.plainAttrs_str PySem.F.slot_str_join PySem.F.type_str_join gK aM (aa (bR (qB T) hr T.ia (aa (pv 0) af)) af)))),?_⟩;ac_rfl;left;exists p,S,rfl,la,tok,nofun,rok,rl,fun D H1 s1 _ h1=>?_;refine⟨"\n",D,(eN S).map rowOf,rfl,rfl,aL.of h1,zL (Es tok tl) nofun,?_⟩;exact kk _ s1
noncomputable def vU (b:Int) (r:Option Str) (h:Int×Str):Option Str:=if h.1<=b then some h.2 else r
noncomputable def ua (n:Str) (b:Int) (r:Option Str) (x:Str×List (Int×Str)):Option Str:=if x.1=n then x.2.foldl (vU b) r else r
def pU:Sp:=fun vs H Q _=>∃(p:Addr) (S:cJ) (n:Str) (b:Int),vs=[.ref p,.str n,.int b]/\vn H p S/\Q (Sc.os (S.holds.foldl (ua n b) none)) H
theorem b7:aD ["_law_s","_law_player","_law_bar","_law_found","_law_one","_law_row","_law_begin","_law_name"] ["_law_s","_law_player","_law_bar"] (ao jL):=dJ
theorem qD (T:Txt K mg):dm P w base 1 T.ig pU:=by
 refine T.ig.F.dH b7 fun _ _ _ _ H vs Q E hr h=>?_
 ·obtain⟨p,S,n,b,rfl,la,kk⟩:=h
  obtain⟨pl,il,st,bl,hl,nl,rl,ub,jm,iv,sv,bv,hv,nv,rv,h1,h2,_,_,_,_,⟨h7,rlh⟩,_,_,_⟩:=la.at';refine⟨_,(ag (bW 3 b7.nd aU)
   (ag (cE PassesOwn.never rfl (bz (ax aA (pv 0) ae (fun _ _=>rfl))) (dY (n:=2) rfl (aO (dj 4 b7.nd) (aO (dj 5 b7.nd) cX)))
   (aj (aI (ay de (pv 4) (pv 1) (aE _))
    (aj (cE PassesOwn.never rfl (bz (pv 5)) (dY (n:=2) rfl (aO (dj 6 b7.nd) (aO (dj 7 b7.nd) cX)))
     (aj (aI (ay gn (pv 6) (pv 2) (aE _))
      (aj (bW 3 b7.nd (pv 7)))
      aB))))
    aB)))
   (aj (aq (pv 3))))),?_⟩
  ac_rfl;left;exists⟨_,aL.of h7⟩,?_;refine dX (K:=K) (a:=hl) (xs:=hv) (fun i σ H'=>H'=H/\∃(w4 w5 w6 w7:Option V),σ=[some (.ref p),some (.str n),some (.int b),some (Sc.os ((S.holds.take i).foldl (ua n b) none)),w4,w5,w6,w7]) ⟨rfl,none,none,none,none,rfl⟩ (fun i σ H' _ h=>by rw[h.1];exact aL.of h7) ?_ ?_
  ·rintro i x σ H1 hx ⟨rfl,w4,w5,w6,w7,rfl⟩
   obtain⟨y,hy,a7,r7,us7,rfl,ha7,hr7,il7,_⟩:=rlh.at hx;have e:(S.holds.take (i+1)).foldl (ua n b) none=ua n b ((S.holds.take i).foldl (ua n b) none) y:=by rw[cU hy,zX];rfl
   rw[e];generalize (S.holds.take i).foldl (ua n b) none=r0;refine⟨a7,_,rfl,dB.of ha7,rfl,?_⟩;refine⟨_,_,rfl,⟨_,_,rfl,⟨rfl,?_⟩⟩⟩;left
   by_cases c:y.1=n
   ·refine cj (by rw[c];exact ze rfl) ?_
    left;exists⟨_,aL.of hr7⟩,?_;refine dX (K:=K) (a:=r7) (xs:=us7) (fun j σ H'=>H'=H1/\∃(w6 w7:Option V),σ=[some (.ref p),some (.str n),some (.int b),some (Sc.os ((y.2.take j).foldl (vU b) r0)),some (.str y.1),some (.ref r7),w6,w7]) ⟨rfl,w6,w7,rfl⟩ (fun j σ H' _ h=>by rw[h.1];exact aL.of hr7) ?_ ?_
    ·rintro j x σ H2 hx ⟨rfl,w6,w7,rfl⟩
     obtain⟨d,hd,id⟩:=dz il7 hx;obtain⟨a3,rfl,h3⟩:=L0 id;have e2:(y.2.take (j+1)).foldl (vU b) r0=vU b ((y.2.take j).foldl (vU b) r0) d:=by rw[cU hd,zX];rfl
     rw[e2];exists a3,_,rfl,dB.of h3,rfl,?_;refine⟨_,_,rfl,⟨_,_,rfl,⟨rfl,?_⟩⟩⟩;left
     by_cases c2:d.1<=b
     ·refine cj (ze c2) ?_
      rw[show vU b ((y.2.take j).foldl (vU b) r0) d=some d.2 from if_pos c2];left;exact⟨_,_,rfl⟩
     ·refine cw (zd c2) ?_
      rw[show vU b ((y.2.take j).foldl (vU b) r0) d=(y.2.take j).foldl (vU b) r0 from if_neg c2];left;exact⟨_,_,rfl⟩
    ·rintro σ H2 ⟨rfl,w6,w7,rfl⟩
     rw[aS il7,zM];rw[show ua n b r0 y=y.2.foldl (vU b) r0 from if_pos c];left;exact⟨_,_,_,_,rfl⟩
   ·refine cw (zd fun z=>c (V.str.inj z)) ?_
    rw[show ua n b r0 y=r0 from if_neg c];left;exact⟨_,_,_,_,rfl⟩
  ·rintro σ H1 ⟨rfl,w4,w5,w6,w7,rfl⟩
   rw[rlh.len,zM];left;exact kk
theorem Iz:∀{ts:List Told},(∀t∈ts,TD t)->RT (ts.map rowOf) ts
 | [],_=>.nil
 | t::r,h=>by
  have ht:=h t zp;exact .row (zL (KU ht) (by decide)) (Jy ht.1) ht.1 (zL ht.2.1 (by decide)) (fun y hy=>zL (ht.2.2 y hy) (by decide)) (Iz fun x hx=>h x (zm _ hx))
theorem Na {ts:List Told} (ne:ts≠[]) (h:∀t∈ts,TD t):RT (Txt.split (Str.join "\n" (ts.map rowOf)) "\n") ts:=by
 rw[show Txt.split (Str.join "\n" (ts.map rowOf)) "\n"= ts.map rowOf from gr (c:=10) (by simpa using ne) fun z hz=>by
  obtain⟨t,ht,rfl⟩:=zG.mp hz;exact Lj (h t ht).1]
 exact Iz h
theorem text_len {ts:List Told} (h:∀t∈ts,TD t) (hl:ts.length<=1000):(Str.join "\n" (ts.map rowOf)).length+2<=sizeLine:=by
 have sl:=yB;have a:=join_le "\n" (ts.map rowOf);have b:=Es h hl;omega
theorem Fu {n:Str} {b:Int}:∀{hs:List (Str×List (Int×Str))} {r:Option Str},n∉hs.map (·.1)->hs.foldl (ua n b) r=r
 | [],_,_=>rfl
 | x::t,r,h=>by
  rw[zh,zC,not_or] at h;rw[List.foldl_cons,show ua n b r x=r from if_neg fun z=>h.1 z.symm];exact Fu h.2
theorem L6 {S:cJ} {n:Str} {b:Int} (nd:(S.holds.map (·.1)).Nodup):S.holds.foldl (ua n b) none=yL S n b:=by
 unfold yL;generalize S.holds=hs at nd
 induction hs with
 | nil=>rfl
 | cons x t ih=>
  rw[zh,yc] at nd;rw[List.foldl_cons,yp]
  by_cases c:x.1=n
  ·rw[show ua n b none x=x.2.foldl (vU b) none from if_pos c,Fu (by rw[<-c];exact nd.1),show(n == x.1)=true from by simp[c]]
   rfl
  ·rw[show ua n b none x=none from if_neg c,show(n == x.1)=false from by simp;exact fun z=>c z.symm]
   exact ih nd.2
def DY (ps:List Str) (sts:List (Str×List Str)):Prop:=sts.length<=2/\AB (sts.map (·.1))/\(sts.map (·.2)).flatten.Nodup/\∀x∈sts,x.2≠[]/\x.2.length<=ps.length/\∀p∈x.2,p∈ps
def qW:Sp:=fun vs H Q _=>∃(c:Int) (pp:Addr) (ps:List Str),vs=[.int c,.ref pp]/\H pp=some (.lst (ps.map V.str))/\ps.Nodup/\ps.length<=12/\
 ∀(sts:List (Str×List Str)) D us H',DY ps sts->au H H'->H' D=some (.lst us)->L2.IsL H' (sts.map gB) us->Q (.ref D) H'
theorem wR {H:Hp}:∀{nms:List Str} {rows:List (List Str)} {rv us:List V},nms.length=rows.length->RL (fun o v=>∃r,v=V.ref r/\H r=some (.tup (o.map V.str))) rows rv->Pairs H (nms.map V.str) rv us nms.length->L2.IsL H ((nms.zip rows).map gB) us
 | [],[],_,us,_,_,p=>by
  have:us=[]:=yr.mp p.1;rw[this];exact cG
 | n::ns,o::ot,_,us,hl,⟨v,rv,rfl,⟨r,ev,hr⟩,rl⟩,p=>by
  subst ev;cases us with
  | nil=>have:=p.1;simp at this
  | cons u us=>
   obtain⟨q,e1,e2⟩:=p.2 0 (.str n) (.ref r) (by simp) rfl rfl;simp at e1;subst e1;refine aQ (cB e2 (aQ eT (aQ (cB hr (yI o)) cG))) (wR (by simpa using hl) rl ⟨by have:=p.1;simpa using this,fun j x y hj hx hy=>?_⟩);obtain⟨q',f1,f2⟩:=p.2 (j+1) x y (by simp;omega) (by simpa using hx) (by simpa using hy);exact⟨q',by simpa using f1,f2⟩
 | [],_::_,_,_,hl,_,_=>by simp at hl
 | _::_,[],_,_,hl,_,_=>by simp at hl
theorem Ik {α β:Type}:∀{a:List α} {b:List β},a.length=b.length->(a.zip b).map (·.1)=a
 | [],[],_=>rfl
 | x::xs,y::ys,h=>by rw[List.zip_cons_cons,zh,Ik (by simpa using h)]
 | [],_::_,h=>by simp at h
 | _::_,[],h=>by simp at h
theorem Ck {α β:Type}:∀{a:List α} {b:List β},a.length=b.length->(a.zip b).map (·.2)=b
 | [],[],_=>rfl
 | x::xs,y::ys,h=>by rw[List.zip_cons_cons,zh,Ck (by simpa using h)]
 | [],_::_,h=>by simp at h
 | _::_,[],h=>by simp at h
noncomputable def two (o1 o2:List Str):List (List Str):=(if o1=[] then [] else [o1])++(if o2=[] then [] else [o2])
noncomputable def AG (o1 o2:List Str) (r1 r2:Addr):List V:=(if o1=[] then [] else [.ref r1])++(if o2=[] then [] else [.ref r2])
noncomputable def RY (o1 o2:List Str) (r1 r2:Addr):Nat->List V
 | 0=>[]
 | 1=>if o1=[] then [] else [.ref r1]
 | _=>AG o1 o2 r1 r2
theorem KP (o1 o2:List Str):(two o1 o2).flatten=o1++o2:=by
 unfold two
 by_cases h1:o1=[] <;> by_cases h2:o2=[] <;> simp[h1,h2]
theorem ON {o1 o2 o:List Str} (h:o∈two o1 o2):o≠[]/\(o=o1\/o=o2):=by
 unfold two at h;rcases zF.mp h with h | h
 ·by_cases h1:o1=[]
  ·rw[if_pos h1] at h;cases h
  ·rw[if_neg h1] at h;rw[zy.mp h];exact⟨h1,.inl rfl⟩
 ·by_cases h1:o2=[]
  ·rw[if_pos h1] at h;cases h
  ·rw[if_neg h1] at h;rw[zy.mp h];exact⟨h1,.inr rfl⟩
theorem OM {H:Hp} {o1 o2:List Str} {r1 r2:Addr} (h1:H r1=some (.tup (o1.map V.str))) (h2:H r2=some (.tup (o2.map V.str))):RL (fun o v=>∃r,v=V.ref r/\H r=some (.tup (o.map V.str))) (two o1 o2) (AG o1 o2 r1 r2):=by
 unfold two AG
 by_cases e1:o1=[] <;> by_cases e2:o2=[]
 ·rw[if_pos e1,if_pos e2,if_pos e1,if_pos e2];exact rfl
 ·rw[if_pos e1,if_neg e2,if_pos e1,if_neg e2];exact⟨_,_,rfl,⟨_,rfl,h2⟩,rfl⟩
 ·rw[if_neg e1,if_pos e2,if_neg e1,if_pos e2];exact⟨_,_,rfl,⟨_,rfl,h1⟩,rfl⟩
 ·rw[if_neg e1,if_neg e2,if_neg e1,if_neg e2];exact⟨_,_,rfl,⟨_,rfl,h1⟩,_,_,rfl,⟨_,rfl,h2⟩,rfl⟩
theorem Ip (o1 o2:List Str):(two o1 o2).length<=2:=by
 unfold two
 by_cases h1:o1=[] <;> by_cases h2:o2=[] <;> simp[h1,h2]
theorem Js {ps o1 o2:List Str} {nms:List Str} (pn:ps.Nodup) (hs:(o1++o2).Nodup) (hi:∀p∈o1++o2,p∈ps) (hl:(o1++o2).length<=ps.length) (nl:nms.length=(two o1 o2).length) (nok:AB nms):DY ps (nms.zip (two o1 o2)):=by
 refine⟨?_,by rw[Ik nl];exact nok,by rw[Ck nl,KP];exact hs,fun x hx=>?_⟩
 ·rw[List.length_zip,nl,Nat.min_self];exact Ip o1 o2
 ·have hm:x.2∈two o1 o2:=by
   have:=zO (f:=fun y:Str×List Str=>y.2) hx;rw[Ck nl] at this;exact this
  obtain⟨ne,e⟩:=ON hm;rw[zg] at hl;rcases e with e | e <;> rw[e]
  ·exact⟨e▸ne,nofun,fun p hp=>hi p (zI _ hp)⟩
  ·exact⟨e▸ne,nofun,fun p hp=>hi p (zH _ hp)⟩
theorem cq:aD ["_law_cell","_law_players","_law_m","_law_order","_law_alone","_law_cut","_law_rows"] ["_law_cell","_law_players"] (ao kF):=dJ
theorem sg (T:Txt K mg):dm P w base 2 T.jy qW:=by
 refine T.jy.F.dH cq fun _ _ _ _ H vs Q E hr h=>?_
 ·obtain⟨c,pp,ps,rfl,hpp,pn,pl,kk⟩:=h
  have sl:=yB;refine⟨_,(ag (bW 2 cq.nd (bR (bP T) hr T.cx (aa (pv 0) (aa ae af))))
   (ag (aI (ay de (ar aV (pv 2) ae) ae (aE _))
   (aj (aq (bD af)))
   aB)
   (ag (bW 3 cq.nd (mV iO T.tX (aa (pv 1) af)))
   (ag (aI (ay de (ar aV (ar aW (pv 2) ae) ae) ae (aE _))
   (aj (bT (Po PySem.F.plainAttrs_list PySem.F.slot_list_reverse PySem.F.type_list_reverse G7 (pv 3))))
   aB)
   (ag (bW 4 cq.nd (ar aV (ar aW (pv 2) ae) (ar bg (eX aC T.bB (aa (pv 3) af)) ae)))
   (ag (bW 3 cq.nd (ar gJ (dF gH (pv 3) eL (eK (pv 4))) (dF gH (pv 3) (eK (ar bg (pv 4) ae)) eL)))
   (ag (bW 5 cq.nd (ar aV (ar aW (pv 2) ae) (ar bg (eX aC T.bB (aa (pv 3) af)) ae)))
   (ag (MP (i:=6) (ts:=["_law_row"]) (ys:=[]) (js:=[]) (g:=(bc 0)) (tc:=(oY (fQ (Pc K) (bj 0) (Eu eO)))) (te:=(bj 0)) (bz (bD (aa (mV cL T.iG (aa (dF gH (pv 3) eL (eK (pv 5))) af)) (aa (mV cL T.iG (aa (dF gH (pv 3) (eK (pv 5)) eL) af)) af)))) (fun _ _ _ _=>(dj 0 (show List.Nodup [("_law_row": Str)] by decide +kernel))) (fun _ _ _ _=>(iF (ay (CU hr.units) (pv 0) (bK af) (aE _)))) (fun _ _ _ _=>(pv 0)) cq.nd)
   (aj (aq (LJ rfl (by rfl) T.tX (by rfl) T.LS (aa (bR (e9 T) hr T.eF (aa (ar aW (pv 2) ae) (aa (eX aC T.bB (aa (pv 6) af)) af))) (aa (pv 6) af))))))))))))),?_⟩
  ac_rfl;left;exists c,9,rfl,nofun,nofun,?_;have m0:0<=mixed c 9:=zv _ (by decide);have m1:mixed c 9<2147483399:=zr _ (by decide);generalize mixed c 9=m at m0 m1;left
  by_cases c0:m%4=0
  ·refine cj (ze (congrArg V.int c0)) ?_
   left;exists by show 0<=sizeLine;omega,fun D nD=>?_
   exact kk [] D [] _ ⟨by decide,⟨by simp,by simp⟩,by simp,by simp⟩ (aZ nD) aF cG
  refine cw (zd fun z=>c0 (V.int.inj z)) ?_;left;exists pp,_,rfl,.inl (aL.of hpp),fun D nD=>?_;have s1:au H (upd H D (.lst (ps.map V.str))):=aZ nD;have h1:upd H D (.lst (ps.map V.str)) D=some (.lst (ps.map V.str)):=aF;generalize upd H D (.lst (ps.map V.str))=H1 at s1 h1 ⊢;left;refine join (fun σ H'=>∃od:List Str,σ=[some (.int c),some (.ref pp),some (.int m),some (.ref D),none,none,none]/\au H H'/\H' D=some (.lst (od.map V.str))/\od.Perm ps) (fun N hN c1=>?_) (fun N hN c1=>?_) ?_
  ·left
   refine⟨.inl ⟨rfl,_,aL.of h1⟩,D,_,rfl,rfl,h1,?_⟩;left;exact hN _ _ ⟨ps.reverse,rfl,cM nD s1,by rw[aF,List.map_reverse],ps.reverse_perm⟩
  ·left
   exact hN _ _ ⟨ps,rfl,s1,h1,List.Perm.refl _⟩
  clear s1 h1 H1;rintro σ1 H1 ⟨od,rfl,s1,h1,pm⟩;have ol:=pm.length_eq;left;exists D,_,rfl,.inl (aL.of h1),?_;rw[za];left;exists by show 0<(od.length:Int)+2;omega,?_
  have a0:0<=m/5%((od.length:Int)+2):=zv _ nofun;obtain⟨al,hal⟩:∃j:Nat,m/5%((od.length:Int)+2)=(j:Int):=⟨(m/5%((od.length:Int)+2)).toNat,nofun⟩
  left;exists D,_,rfl,aL.of h1,fun p2 n2=>?_;generalize hU2:upd H1 p2 _=H2;have s2:au H1 H2:=au.lI hU2 n2;have h2:H2 p2=some (.lst ((od.take al).map V.str)):=(lS hU2).trans (congrArg (fun z=>some (HO.lst z)) (by show kr (od.map V.str) none (some (m/5%((od.length:Int)+2)))=_;rw[hal,DE,List.map_take]));clear hU2;left;exists D,_,rfl,aL.of (s2 _ _ h1),fun p3 n3=>?_;generalize hU3:upd H2 p3 _=H3;have s3:au H2 H3:=au.lI hU3 n3;have h3:H3 p3=some (.lst ((od.drop (al+1)).map V.str)):=(lS hU3).trans (congrArg (fun z=>some (HO.lst z)) (by
   show kr (od.map V.str) (some (m/5%((od.length:Int)+2)+1)) none=_;rw[hal,show((al:Int)+1)=((al+1:Nat):Int) by omega,fL,List.map_drop]))
  clear hU3;left;refine⟨p2,p3,_,_,rfl,rfl,aL.of (s3 _ _ h2),aL.of h3,?_,fun p4 n4=>?_⟩
  ·rw[za,za,zP,List.length_drop];omega
  generalize hU4:upd H3 p4 _=H4;have s4:au H3 H4:=au.lI hU4 n4;obtain⟨o0,eo0⟩:∃o0:List Str,o0=od.take al++od.drop (al+1):=⟨_,rfl⟩
  have h4:H4 p4=some (.lst (o0.map V.str)):=(lS hU4).trans (by rw[eo0,zj]);clear hU4;have sub:o0.Sublist od:=by
   rw[eo0]
   conv=>rhs;rw[<-zY al od]
   exact List.Sublist.append (List.Sublist.refl _) (by rw[List.drop_add_one_eq_tail_drop];exact List.tail_sublist _)
  have o0n:o0.Nodup:=sub.nodup (pm.nodup_iff.mpr pn);have o0l:o0.length<=ps.length:=by have:=sub.length_le;omega
  have o0i:∀p∈o0,p∈ps:=fun p hp=>pm.mem_iff.mp (sub.subset hp);have s04:=s1.trans (s2.trans (s3.trans s4));clear s1 s2 s3 s4 h1 h2 h3 sub eo0 hal a0 n2 n3 n4 ol pm;left;exists p4,_,rfl,.inl (aL.of h4),?_;rw[za];left;exists by show 0<(o0.length:Int)+1;omega,?_
  have a0:0<=m/8%((o0.length:Int)+1):=zv _ nofun;obtain⟨al,hal⟩:∃j:Nat,m/8%((o0.length:Int)+1)=(j:Int):=⟨(m/8%((o0.length:Int)+1)).toNat,nofun⟩
  left;exists p4,_,rfl,aL.of h4,fun p5 n5=>?_;generalize hU5:upd H4 p5 _=H5;have s5:au H4 H5:=au.lI hU5 n5;have h5:H5 p5=some (.lst ((o0.take al).map V.str)):=(lS hU5).trans (congrArg (fun z=>some (HO.lst z)) (by show kr (o0.map V.str) none (some (m/8%((o0.length:Int)+1)))=_;rw[hal,DE,List.map_take]));clear hU5;left;refine⟨p5,_,rfl,.inl ⟨aL.of h5,?_⟩⟩;right;rename_i p6 H6 s6 h6;left;exists p4,_,rfl,aL.of (s6 _ _ (s5 _ _ h4)),fun p7 n7=>?_;generalize hU7:upd H6 p7 _=H7;have s7:au H6 H7:=au.lI hU7 n7;have h7:H7 p7=some (.lst ((o0.drop al).map V.str)):=(lS hU7).trans (congrArg (fun z=>some (HO.lst z)) (by show kr (o0.map V.str) (some (m/8%((o0.length:Int)+1))) none=_;rw[hal,fL,List.map_drop]));clear hU7;left;refine⟨p7,_,rfl,.inl ⟨aL.of h7,?_⟩⟩;right;rename_i p8 H8 s8 h8;left;exists by show 2<=sizeLine;omega,?_
  right;rename_i p9 H9 s9 h9;left;exists⟨_,aL.of h9⟩,?_;have s49:=s5.trans (s6.trans (s7.trans (s8.trans s9)));have h69:H9 p6=some (.tup ((o0.take al).map V.str)):=s9 _ _ (s8 _ _ (s7 _ _ h6));have h89:H9 p8=some (.tup ((o0.drop al).map V.str)):=s9 _ _ h8;have fl:(o0.take al++o0.drop al)=o0:=zY al o0;generalize o0.take al=o1 at h69 fl;generalize o0.drop al=o2 at h89 fl;have s09:=s04.trans s49;clear s04 s49 s5 s6 s7 s8 s9 h5 h6 h7 h8;have tst:∀(o:List Str) (r:Addr) (H':Hp) (R:Bool->Hp->Prop),H' r=some (.tup (o.map V.str))->(∀H'',au H' H''->R (!decide (o=[])) H'')->oY (fQ (Pc K) (bj 0) (Eu eO)) [some (.ref r)] H' R:=fun o r H' R hr hR=>by
   left;exists by show 0<=sizeLine;omega,?_
   right;rename_i pa Ha sa ha;exists r,pa,_,_,rfl,rfl,.inr ⟨dB.of (sa _ _ hr),dB.of ha⟩,.inr (.inl rfl),?_;have e:decide (o.map V.str=[])=decide (o=[]):=by simp
   rw[e];exact⟨_,rfl,hR _ sa⟩
  refine om 2 (RY o1 o2 p6 p8) (fun i σ H'=>(∃v,σ=[v])/\au H9 H') ?_ nofun rfl ⟨⟨_,rfl⟩,au.refl _⟩ ?_ ?_ ?_ ?_
  ·intro i hi
   match i,hi with
   | 0,_=>exact zk _
   | 1,_=>show(if o1=[] then([]:List V) else [.ref p6]).length<=1;by_cases e:o1=[] <;> simp[e]
   | 2,_=>show(AG o1 o2 p6 p8).length<=2;unfold AG;by_cases e:o1=[] <;> by_cases e2:o2=[] <;> simp[e,e2]
  ·rintro i σ H' hi ⟨_,sm⟩
   exact Fy (aL.of (sm _ _ h9)) hi
  ·rintro σ H' ⟨_,sm⟩
   exact⟨_,aL.of (sm _ _ h9),zk _⟩
  ·rintro i x σ H' H'' hi ⟨⟨v,rfl⟩,sm⟩ ⟨rfl,hy⟩
   have hx:=hy _ (aL.of (sm _ _ h9))
   match i,hi with
   | 0,_=>
    have ex:V.ref p6=x:=yj hx;subst ex;refine tst o1 p6 _ _ (sm _ _ h69) fun H3 s3=>?_
    by_cases e:o1=[]
    ·rw[ze e]
     exact Gw.skip nofun (by show(if o1=[] then([]:List V) else [.ref p6])=[];rw[if_pos e]) ⟨⟨_,rfl⟩,sm.trans s3⟩
    ·rw[zd e]
     left;exact Gw.push nofun (by show(if o1=[] then([]:List V) else [.ref p6])=[]++[.ref p6];rw[if_neg e];rfl) ⟨⟨_,rfl⟩,sm.trans s3⟩
   | 1,_=>
    have ex:V.ref p8=x:=yj hx;subst ex;refine tst o2 p8 _ _ (sm _ _ h89) fun H3 s3=>?_
    by_cases e:o2=[]
    ·rw[ze e]
     exact Gw.skip nofun (by show AG o1 o2 p6 p8=(if o1=[] then([]:List V) else [.ref p6]);unfold AG;rw[if_pos e,zU]) ⟨⟨_,rfl⟩,sm.trans s3⟩
    ·rw[zd e]
     left;exact Gw.push nofun (by show AG o1 o2 p6 p8=(if o1=[] then([]:List V) else [.ref p6])++[.ref p8];unfold AG;rw[if_neg e]) ⟨⟨_,rfl⟩,sm.trans s3⟩
  ·rintro σ H' ⟨_,sm⟩ D5 n5'
   generalize hU:upd H' D5 _=H5;have s5:au H9 H5:=sm.trans (au.lI hU n5');have hD5:H5 D5=some (.lst (AG o1 o2 p6 p8)):=lS hU;clear hU;have rl5:=OM (s5 _ _ h69) (s5 _ _ h89);have tl:=rl5.len;have t2:=Ip o1 o2;left;exists D5,_,rfl,.inl (aL.of hD5),?_;rw[tl];left;refine⟨_,_,rfl,zV m0 (by decide),?_,nofun,nofun,fun nms pn2 H6 nl nok s6 h6=>?_⟩
   ·have:=zW (a:=m) 80 m0;omega
   left;have nl':nms.length=(two o1 o2).length:=by rw[nl];omega
   refine⟨false,false,pn2,D5,_,_,rfl,aL.of h6,aL.of (s6 _ _ hD5),by rw[za,tl];exact nl',fun l H7 us s7 n7 h7 pr=>?_⟩;rw[za] at pr;refine kk (nms.zip (two o1 o2)) l us H7 (Js pn (by rw[fl];exact o0n) (by rw[fl];exact o0i) (by rw[fl];exact o0l) nl' nok) (((s09.trans s5).trans s6).trans s7) h7 (wR nl' ?_ pr);exact rl5.imp fun o v ⟨r,e1,e2⟩=>⟨r,e1,s7 _ _ (s6 _ _ e2)⟩
def vB:Sp:=fun vs H Q _=>∃(m first last times:Int),vs=[.int m,.int first,.int last,.int times]/\0<=m/\m<1099511627776/\0<=first/\first<=last/\last<=200/\2<=times/\times<=9/\
 ∀(es:List Sc.End) v H',Jc first last times es->au H H'->Is H' (.tup (es.map mT)) v->Q v H'
def Ij (first last:Int) (bs:List Int):Prop:=bs≠[]/\bs.Pairwise (·<·)/\∀b∈bs,first<=b/\b<=last
theorem MB {first last:Int} {bs:List Int} (h:Ij first last bs):∃b,(bs.map V.int)[(bs.map V.int).length-1]?=some (.int b)/\first<=b/\b<=last/\∀x∈bs,x<=b:=by
 obtain⟨ne,asc,hin⟩:=h;have e:=List.dropLast_concat_getLast ne;have hm:=List.getLast_mem ne;refine⟨bs.getLast ne,?_,(hin _ hm).1,(hin _ hm).2,fun x hx=>?_⟩
 ·rw[za,zJ,List.getLast_eq_getElem,zb (by have:=yq.mpr ne;omega)];rfl
 ·rw[<-e] at hx asc
  rw[zT] at asc;rcases zF.mp hx with z | z
  ·exact Int.le_of_lt (asc.2.2 x z _ (zy.mpr rfl))
  ·rw[zy.mp z];exact Int.le_refl _
theorem MA {first last b c:Int} {bs:List Int} (h:Ij first last bs) (hb:∀x∈bs,x<=b) (h1:first<=b) (h2:b<c) (h3:c<=last):Ij first last (bs++[c]):=by
 obtain⟨ne,asc,hin⟩:=h;refine⟨by simp,?_,fun x hx=>?_⟩
 ·rw[zT]
  refine⟨asc,by simp,fun x hx y hy=>?_⟩;have ey:y=c:=by simpa using hy
  have:=hb x hx;omega
 ·rcases zF.mp hx with z | z
  ·exact hin x z
  ·have ey:x=c:=by simpa using z
   omega
noncomputable def mQ (m:Int) (n k:Nat):Nat:=if k<n then(k+(m/90).toNat)%n else(m/((k:Int)+7)%(n:Int)).toNat
theorem eA:aD ["_law_m","_law_first","_law_last","_law_times","_law_begins","_law_passes","_law_k","_law_spot"] ["_law_m","_law_first","_law_last","_law_times"] (ao nO):=dJ
theorem vR (T:Txt K mg):dm P w base 1 T.lX vB:=by
 refine T.lX.F.dH eA fun _ _ _ _ H vs Q E hr h=>?_
 ·obtain⟨m,first,last,times,rfl,m0,m1,f0,fl,l1,t0,t1,kk⟩:=h
  have sl:=yB;refine⟨_,(ag (aI (PW.pt (eJ (ay de (pv 2) (pv 1) (aE _)) (dw (ay de (ar aV (pv 0) ae) ae (aE _)))))
   (aj (aq (bK af)))
   aB)
   (ag (bW 4 eA.nd (bD (aa (ar bg (pv 1) (ar aV (ar aW (pv 0) ae) (ar bg (ar kf (pv 2) (pv 1)) ae))) af)))
   (ag (xS PassesOwn.never (PW.pt (cV (ay fg (eX aC T.bB (aa (pv 4) af)) (pv 3) (aE _)) (cV (ay fg (ax aN (pv 4) (rT kY ae) (fun _ _=>rfl)) (pv 2) (aE _)) (cK (ay fu (ar aV (ar aW (pv 0) (ar bg (ar d5 ae (eX aC T.bB (aa (pv 4) af))) ae)) ae) ae (aE _))))))
   (aj (bT (cu PySem.F.plainAttrs_list PySem.F.slot_list_append PySem.F.type_list_append bM (pv 4) (aa (eX (Kc rfl) T.QN (aa (pv 2) (aa (ar bg (ar bg (ax aN (pv 4) (rT kY ae) (fun _ _=>rfl)) ae) (ar aV (ar aW (pv 0) (ar bg (eX aC T.bB (aa (pv 4) af)) ae)) ae)) af))) af)))))
   (ag (MP (i:=5) (ts:=["_law_begin"]) (ys:=[]) (js:=[]) (g:=(bc 0)) (tc:=dt) (te:=(Ex eO)) (bz (pv 4)) (fun _ _ _ _=>(dj 0 (show List.Nodup [("_law_begin": Str)] by decide +kernel))) (fun _ _ _ _=>bx) (fun _ _ _ _=>(bD af)) eA.nd)
   (ag (cE PassesOwn.never rfl (cO (by rfl) T.dG (aa (pv 3) af)) (dj 6 eA.nd)
   (ag (bW 7 eA.nd (E1 (ay fg (pv 6) (eX aC T.bB (aa (pv 4) af)) (aE _)) (ar aV (ar bg (pv 6) (ar aW (pv 0) ae)) (eX aC T.bB (aa (pv 4) af))) (ar aV (ar aW (pv 0) (ar bg (pv 6) ae)) (eX aC T.bB (aa (pv 4) af)))))
    (aj (bT (cu PySem.F.plainAttrs_list PySem.F.slot_list_append PySem.F.type_list_append bM (ax aN (pv 5) (pv 7) (fun _ _=>rfl)) (aa (ar bg (pv 6) ae) af))))))
   (aj (aq (mV cL T.iG (aa (pK (ts:=["_law_begin","_law_some"]) (ys:=[]) (js:=[]) (g:=(FA K 2 (fZ (bc 0) (fZ (bc 1) FC)))) (tc:=dt) (te:=(Eu (bQ (bj 0) (bQ (Jq (Pf K) (bQ (bj 1) eO)) eO)))) (LF (by rfl) T.LS (aa (pv 4) (aa (pv 5) af))) (fun _ _ _ _=>(dY (n:=2) rfl (aO (dj 0 (show List.Nodup [("_law_begin": Str),("_law_some": Str)] by decide +kernel)) (aO (dj 1 (show List.Nodup [("_law_begin": Str),("_law_some": Str)] by decide +kernel)) cX)))) (fun _ _ _ _=>bx) (fun _ _ _ _=>(bK (aa (pv 0) (aa (mV cL T.iG (aa (pv 1) af)) af))))) af))))))))),?_⟩
  ac_rfl;left;have none_:∀(Hq:Hp),au H Hq->(∀p,Hq p=none->Q (.ref p) (upd Hq p (.tup []))):=fun Hq sq p n=>kk [] (.ref p) _ JZ (sq.trans (aZ n)) (cB aF cG);refine ID (decide (V.int last=V.int first)||decide (V.int (m%3)=V.int 0)) ?_ ?_ ?_
  ·intro c1 Z hz
   rw[c1,Bool.false_or] at hz;left;exact hz
  ·intro c1;rw[c1,Bool.true_or]
  cases qv:(decide (V.int last=V.int first)||decide (V.int (m%3)=V.int 0)) with
  | true=>
   left;exact⟨by show 0<=sizeLine;omega,none_ H (au.refl _)⟩
  | false=>
  left;exists by show 0<last-first+1;omega,?_
  have a0:0<=m/3%(last-first+1):=zv _ nofun;have a1:m/3%(last-first+1)<last-first+1:=zr _ nofun;left;exists by show 1<=sizeLine;omega,fun B nB=>?_
  generalize hU1:upd H B _=H1;have s1:au H H1:=au.lI hU1 nB;have h1:H1 B=some (.lst ([first+m/3%(last-first+1)].map V.int)):=lS hU1;have b1:Ij first last [first+m/3%(last-first+1)]:=by
   refine⟨by simp,by simp,fun b hb=>?_⟩;have:b=first+m/3%(last-first+1):=by simpa using hb
   omega
  clear hU1;left;refine Jj (fun n σ H'=>∃bs:List Int,n=9-bs.length/\σ=[some (.int m),some (.int first),some (.int last),some (.int times),some (.ref B),none,none,none]/\au H H'/\H' B=some (.lst (bs.map V.int))/\Ij first last bs/\(bs.length:Int)<=times)
   (fun σ H'=>∃bs:List Int,σ=[some (.int m),some (.int first),some (.int last),some (.int times),some (.ref B),none,none,none]/\au H H'/\H' B=some (.lst (bs.map V.int))/\Ij first last bs/\(bs.length:Int)<=times)
   ⟨_,_,rfl,rfl,s1,h1,b1,by show(1:Int)<=times;omega⟩ ?_ ?_
  ·rintro n σ H2 ⟨bs,rfl,rfl,s2,h2,b2,bl⟩ N hN
   obtain⟨lb,hlb,lb0,lb1,lbx⟩:=MB b2;have out:=hN _ _ ⟨bs,rfl,s2,h2,b2,bl⟩;left;exists B,_,rfl,.inl (aL.of h2),?_;rw[za];left;have q0:0<=m/(7*(bs.length:Int)+5)%4:=zv _ (by decide);refine eE (decide ((bs.length:Int)<times)&&(decide (lb<last)&&decide (0<m/(7*(bs.length:Int)+5)%4))) ?_ ?_ ?_
   ·intro c1 Z hz
    rw[c1,Bool.true_and] at hz;left;exists B,_,-1,_,rfl,rfl,aL.of h2,sP hlb,?_;left;refine eE (decide (lb<last)&&decide (0<m/(7*(bs.length:Int)+5)%4)) ?_ ?_ hz
    ·intro c2 Z hz
     rw[c2,Bool.true_and] at hz;left;exists B,_,rfl,.inl (aL.of h2),?_;rw[za];left;exists⟨by show 0<7*(bs.length:Int)+5;omega,by show 7*(bs.length:Int)+5<1073741824;omega⟩,?_;left;exact hz
    ·intro c2;rw[c2,Bool.false_and]
   ·intro c1;rw[c1,Bool.false_and]
   cases qw:(decide ((bs.length:Int)<times)&&(decide (lb<last)&&decide (0<m/(7*(bs.length:Int)+5)%4))) with
   | false=>exact cw rfl out
   | true=>
    simp only[zN,decide_eq_true_eq] at qw;obtain⟨c1,c2,c3⟩:=qw;refine cj rfl ⟨fun σ H'=>∃bs':List Int,bs'.length=bs.length+1/\σ=[some (.int m),some (.int first),some (.int last),some (.int times),some (.ref B),none,none,none]/\au H H'/\H' B=some (.lst (bs'.map V.int))/\Ij first last bs'/\(bs'.length:Int)<=times,?_,?_⟩
    ·rintro σ' H' ⟨bs',e1,e2,e3,e4,e5,e6⟩
     exact⟨9-bs'.length,nofun,bs',rfl,e2,e3,e4,e5,e6⟩
    left;exists .inl ⟨rfl,_,aL.of h2⟩,?_;left;exists B,_,-1,_,rfl,rfl,aL.of h2,sP hlb,?_;left;exists B,_,rfl,.inl (aL.of h2),?_;rw[za];left;exists⟨by show 0<(bs.length:Int)+11;omega,by show(bs.length:Int)+11<1073741824;omega⟩,?_;left;have r0:0<=m/((bs.length:Int)+11)%3:=zv _ (by decide);refine⟨_,_,rfl,?_⟩;left;exists B,_,_,rfl,rfl,h2,by rw[za];omega,?_
    left;refine⟨bs++[if lb+1+m/((bs.length:Int)+11)%3<last then lb+1+m/((bs.length:Int)+11)%3 else last],by rw[zg];rfl,rfl,cM nB s2,by rw[aF,zj];rfl,MA b2 lbx lb0 ?_ ?_,by rw[zg];show((bs.length+1:Nat):Int)<=times;omega⟩
    ·split <;> omega
    ·split <;> omega
  ·clear s1 h1 b1
   rintro σ1 H1 ⟨bs,rfl,s1,h1,b1,bl⟩;have bp:0<bs.length:=yq.mpr b1.1;left;exists⟨_,aL.of h1⟩,?_;refine DF (by rw[za];omega) (aL.of h1) ⟨none,rfl⟩ fun D qs H2 s2 nD h2 nd nDq ql hq=>?_;rw[za] at ql;left;exists by omega,nofun,?_
   have neB:∀q∈qs,q≠B:=fun q hq' e=>by
    have:=(hq q hq').1;rw[e,h1] at this;cases this
   have tn:((times.toNat:Nat):Int)=times:=nofun
   refine gy (fun k σ H'=>∃(v6 v7:Option V),σ=[some (.int m),some (.int first),some (.int last),some (.int times),some (.ref B),some (.ref D),v6,v7]/\au H H'/\H' B=some (.lst (bs.map V.int))/\H' D=some (.lst (qs.map V.ref))/\∀(i:Nat) (q:Addr),qs[i]?=some q->H' q=some (.lst ((cN (mQ m bs.length) k i).map V.int)))
    ⟨none,none,rfl,s1.trans s2,s2 _ _ h1,h2,fun i q e=>(hq q (zB e)).2⟩ ?_ ?_
   ·intro k σ H3 hk hh
    refine dU fun N kN0 kR0 _ _=>?_;obtain⟨v6,v7,rfl,s3,hB3,hD3,hq3⟩:=hh;left;have m90:0<=m/90:=zV m0 (by decide);have sl0:mQ m bs.length k<bs.length:=by
     unfold mQ;split
     ·exact Nat.mod_lt _ bp
     ·have:=zr (m/((k:Int)+7)) (b:=(bs.length:Int)) nofun
      have:=zv (m/((k:Int)+7)) (b:=(bs.length:Int)) nofun;omega
    refine⟨B,_,rfl,.inl (aL.of hB3),?_⟩;rw[za];left;refine SK (H:=H3) (.int ((mQ m bs.length k:Nat):Int)) ?_ ?_ ?_
    ·intro c1 Z hz
     have c1':k<bs.length:=by have:=yd c1;omega
     have e:((mQ m bs.length k:Nat):Int)=(0+(k:Int)+m/90)%(bs.length:Int):=by
      unfold mQ;rw[if_pos c1',Int.natCast_emod,Int.natCast_add,Int.toNat_of_nonneg m90,Int.zero_add]
     rw[e] at hz;left;exists B,_,rfl,.inl (aL.of hB3),?_;rw[za];left;exact⟨by show 0<(bs.length:Int);omega,hz⟩
    ·intro c1 Z hz
     have c1':¬k<bs.length:=by have:=of_decide_eq_false c1;omega
     have e:((mQ m bs.length k:Nat):Int)=m/(0+(k:Int)+7)%(bs.length:Int):=by
      unfold mQ;rw[if_neg c1',Int.zero_add,Int.toNat_of_nonneg (zv _ nofun)]
     rw[e] at hz;left;exists⟨by show 0<0+(k:Int)+7;omega,by show 0+(k:Int)+7<1073741824;omega⟩,?_;left;exists B,_,rfl,.inl (aL.of hB3),?_;rw[za];left;exact⟨by show 0<(bs.length:Int);omega,hz⟩
    left;have qe:qs[mQ m bs.length k]?=some (qs[mQ m bs.length k]'nofun):=zb nofun;generalize qs[mQ m bs.length k]'nofun=q at qe;have qm:=zB qe;refine⟨D,_,_,.ref q,rfl,rfl,aL.of hD3,bF (by rw[zJ,qe];rfl),?_⟩;have hq3':=hq3 _ _ qe;refine⟨.inl ⟨rfl,_,aL.of hq3'⟩,?_⟩;left;exists q,_,_,rfl,rfl,hq3',by rw[za];have:=xV (sp:=mQ m bs.length) (i:=mQ m bs.length k) (k:=k);omega,?_
    left;exists _,_,rfl,cM (s1.back (hq q qm).1) s3,by rw[aG (neB q qm).symm];exact hB3,by rw[aG (fun z=>nDq (by rw[z];exact qm))];exact hD3,fun i q' e=>?_
    by_cases ei:i=mQ m bs.length k
    ·have:q'=q:=by rw[ei,qe] at e;exact(yj e).symm
     rw[this,aF,cN,if_pos ei,zj,Int.zero_add,ei];rfl
    ·have nq:q'≠q:=fun z=>by
      rw[z] at e;exact ei (Fn nd e qe)
     rw[aG nq,cN,if_neg ei];exact hq3 i q' e
   ·rintro σ H3 ⟨v6,v7,rfl,s3,hB3,hD3,hq3⟩
    left;have eb:=tM V.int 0 bs;have eq:=tM V.ref 0 qs;rw[ql] at eq;exists false,false,B,D,_,_,rfl,aL.of hB3,aL.of hD3,?_;refine HJ (ws:=List.range bs.length) (e1:=fun i=>.int (bs.getD i 0)) (e2:=fun i=>.ref (qs.getD i 0)) (fun i=>mT (bs.getD i 0,cN (mQ m bs.length) times.toNat i)) (fun σ=>∃v w,σ=[v,w]) (by rw[zQ];omega) (by rw[eb];exact aL.of hB3) (by rw[eq];exact aL.of hD3) ⟨none,none,rfl⟩ ?_ ?_
    ·rintro i σ H4 p R hi s4 hp ⟨v,w',rfl⟩ rr
     have il:=List.mem_range.mp hi;have qe:qs[i]?=some (qs.getD i 0):=by rw[List.getD_eq_getElem?_getD,zb nofun];rfl
     have h5:=s4 _ _ (hq3 i _ qe);refine⟨p,_,rfl,dB.of hp,rfl,?_⟩;refine⟨_,_,rfl,⟨_,_,rfl,⟨rfl,?_⟩⟩⟩;left;refine⟨_,_,rfl,.inl ⟨aL.of h5,?_⟩⟩;right;rename_i p6 H6 s6 h6;left;exists du,?_;right;rename_i p7 H7 s7 h7;exact rr _ _ _ (s6.trans s7) (cB h7 (aQ cR (aQ (cB (s7 _ _ h6) sC) cG))) ⟨_,_,rfl⟩
    ·intro D5 vs5 H5 s5 _ h5 il5
     rw[J0] at il5;left;refine⟨D5,_,rfl,.inl ⟨aL.of h5,?_⟩⟩;right;rename_i p6 H6 s6 h6;refine kk _ _ _ ?_ ((s3.trans s5).trans s6) (cB h6 (il5.mono s6));have:=Hu (first:=first) (last:=last) (t:=times.toNat) (bs:=bs) (sp:=mQ m bs.length) nofun b1.1 b1.2.1 b1.2.2 ?_ ?_ nofun
     ·rw[tn] at this;exact this
     ·intro j hj
      unfold mQ;split
      ·exact Nat.mod_lt _ bp
      ·have:=zr (m/((j:Int)+7)) (b:=(bs.length:Int)) nofun
       have:=zv (m/((j:Int)+7)) (b:=(bs.length:Int)) nofun;omega
     ·intro i hi
      obtain⟨j,hj,ej⟩:=M3 (c:=(m/90).toNat) hi;exact⟨j,nofun,by unfold mQ;rw[if_pos hj];exact ej⟩
def D1 (many:Int) (r:Rep):Prop:=0<=r.first/\r.first<=r.last/\r.last<many/\2<=r.times/\r.times<=9/\Jc r.first r.last r.times r.ends
def Cj (many:Int) (rs:List Rep):Prop:=rs.length<=4/\(∀r∈rs,D1 many r)/\rs.Pairwise fun a b=>a.last<b.first
def pT:Sp:=fun vs H Q _=>∃(c many:Int),vs=[.int c,.int many]/\many<=200/\
 ∀(rs:List Rep) D us H',Cj many rs->au H H'->H' D=some (.lst us)->L2.IsL H' (rs.map jD) us->Q (.ref D) H'
theorem bC:aD ["_law_cell","_law_many","_law_repeats","_law_bar","_law_k","_law_m","_law_first","_law_last","_law_times"] ["_law_cell","_law_many"] (ao jK):=dJ
theorem qC (T:Txt K mg):dm P w base 2 T.ic pT:=by
 refine T.ic.F.dH bC fun _ _ _ _ H vs Q E hr h=>?_
 ·obtain⟨c,many,rfl,my,kk⟩:=h
  have sl:=yB;refine⟨_,(ag (bW 2 bC.nd (bD af))
   (ag (bW 3 bC.nd ae)
   (ag (cE PassesOwn.never rfl (cO (by rfl) T.dG (aa ae af)) (dj 4 bC.nd)
   (ag (bW 5 bC.nd (bR (bP T) hr T.cx (aa (pv 0) (aa (ar bg (pv 4) ae) af))))
    (ag (bW 6 bC.nd (ar bg (pv 3) (ar aV (pv 5) ae)))
    (ag (bW 7 bC.nd (ar bg (pv 6) (ar aV (ar aW (pv 5) ae) ae)))
    (aj (aI (PW.pt (cV (ay fg (pv 7) (pv 1) (aE _)) (cK (ay fu (ar aV (ar aW (pv 5) ae) ae) ae (aE _)))))
    (ag (bW 8 bC.nd (ar bg ae (ar aV (ar aW (pv 5) ae) (ax aN (bD (aa ae (aa ae (aa ae af)))) (ar aV (ar aW (pv 5) ae) ae) (fun _ _=>rfl)))))
     (ag (bT (cu PySem.F.plainAttrs_list PySem.F.slot_list_append PySem.F.type_list_append bM (pv 2) (aa (bK (aa (pv 6) (aa (pv 7) (aa (pv 8) (aa (bR (vR T) hr T.lX (aa (ar aW (pv 5) ae) (aa (pv 6) (aa (pv 7) (aa (pv 8) af))))) af))))) af)))
     (aj (bW 3 bC.nd (ar bg (pv 7) ae)))))
    aB))))))
   (aj (aq (pv 2)))))),?_⟩
  ac_rfl;left;exists by show 0<=sizeLine;omega,?_
  intro D nD;have s2:au H (upd H D (.lst [])):=aZ nD;have h2:upd H D (.lst []) D=some (.lst []):=aF;generalize upd H D (.lst [])=H2 at s2 h2 ⊢;left;exists by decide,(by decide),?_
  refine gy (fun i σ H'=>∃(rs:List Rep) (us:List V) (bar:Int),Lo [some (.int c),some (.int many),some (.ref D),some (.int bar)] 5 σ/\au H H'/\H' D=some (.lst us)/\L2.IsL H' (rs.map jD) us/\rs.length<=i/\0<=bar/\(∀r∈rs,D1 many r/\r.last<bar)/\rs.Pairwise fun a b=>a.last<b.first)
   ⟨[],[],0,Lo.of rfl rfl,s2,h2,cG,zk _,by decide,by simp,by simp⟩ ?_ ?_
  ·intro i σ H3 hi hh
   refine dU fun N kN0 kR0 _ _=>?_;obtain⟨rs,us,bar,⟨e,rfl⟩,s3,h3,il3,rl,b0,rok,asc⟩:=hh;left;exists c,_,rfl,nofun,nofun,?_;have m0:0<=mixed c (0+(i:Int)+500):=zv _ (by decide);have m1:mixed c (0+(i:Int)+500)<2147483399:=zr _ (by decide);generalize mixed c (0+(i:Int)+500)=m at m0 m1;have a0:0<=m%4:=zv _ (by decide);have e0:0<=m/4%8:=zv _ (by decide);left;refine eE (decide (bar+m%4+m/4%8<many)&&decide (0<m/32%4)) ?_ ?_ ?_
   ·intro c1 Z hz
    rw[c1,Bool.true_and] at hz;left;exact hz
   ·intro c1;rw[c1,Bool.false_and]
   cases qw:(decide (bar+m%4+m/4%8<many)&&decide (0<m/32%4)) with
   | false=>
    left;exact⟨rs,us,bar,Lo.of rfl rfl,s3,h3,il3,nofun,b0,rok,asc⟩
   | true=>
    simp only[zN,decide_eq_true_eq] at qw;obtain⟨c1,c2⟩:=qw;left;exists by show 3<=sizeLine;omega,?_
    right;rename_i p4 H4 s4 h4;have g0:0<=m/1024%3:=zv _ (by decide);have g1:m/1024%3<3:=zr _ (by decide);obtain⟨jj,hjj⟩:∃j:Nat,m/1024%3=(j:Int):=⟨(m/1024%3).toNat,nofun⟩
    obtain⟨z,hz,z0,z1⟩:∃z:Int,[V.int 2,V.int 3,V.int 8][jj]?=some (.int z)/\2<=z/\z<=8:=by
     have:jj<3:=nofun
     match jj,this with
     | 0,_=>exact⟨2,rfl,by decide,by decide⟩
     | 1,_=>exact⟨3,rfl,by decide,by decide⟩
     | 2,_=>exact⟨8,rfl,by decide,by decide⟩
    left;exists p4,_,m/1024%3,.int z,rfl,rfl,aL.of h4,(by rw[hjj];exact bF hz),?_;left;exists by show 0<z;omega,?_
    have t0:0<=m/128%z:=zv _ nofun;have t1:m/128%z<z:=zr _ nofun;left;exists .inl ⟨rfl,_,aL.of (s4 _ _ h3)⟩,?_;left;refine⟨_,_,_,_,rfl,zV m0 (by decide),?_,nofun,nofun,nofun,nofun,nofun,fun es v H5 eok s5 h5=>?_⟩
    ·have:=zW (a:=m) 7 m0;omega
    left;exists by show 4<=sizeLine;omega,?_
    right;rename_i p6 H6 s6 h6;have s36:=s4.trans (s5.trans s6);have h36:=s36 _ _ h3;refine⟨D,us,_,rfl,rfl,h36,by have:=aS il3;omega,?_⟩;have nt:cP (H6 D):=by rw[h36];exact fun _ z=>by cases z
    have ix:Is H6 (jD ⟨bar+m%4,bar+m%4+m/4%8,2+m/128%z,es⟩) (.ref p6):=cB h6 (aQ cR (aQ cR (aQ cR (aQ (h5.mono s6) cG))));left;refine⟨rs++[⟨bar+m%4,bar+m%4+m/4%8,2+m/128%z,es⟩],_,_,Lo.of rfl rfl,cM nD (s3.trans s36),aF,?_,by rw[zg];show rs.length+1<=i+1;omega,nofun,fun r hr=>?_,?_⟩
    ·rw[zj]
     exact cT (Is.upd nt ix) (IsL.upd nt (il3.mono s36))
    ·rcases zF.mp hr with y | y
     ·have:=rok r y
      exact⟨this.1,nofun⟩
     ·rw[zy.mp y]
      exact⟨⟨by show 0<=bar+m%4;omega,by show bar+m%4<=bar+m%4+m/4%8;omega,c1,by show 2<=2+m/128%z;omega,by show 2+m/128%z<=9;omega,eok⟩,by show bar+m%4+m/4%8<bar+m%4+m/4%8+1;omega⟩
    ·rw[zT]
     refine⟨asc,by simp,fun a ha b hb=>?_⟩;have eb:b=⟨bar+m%4,bar+m%4+m/4%8,2+m/128%z,es⟩:=by simpa using hb
     rw[eb];have:=(rok a ha).2;show a.last<bar+m%4;omega
  ·rintro σ H3 ⟨rs,us,bar,⟨e,rfl⟩,s3,h3,il3,rl,b0,rok,asc⟩
   left;exact kk rs D us H3 ⟨rl,fun r hr=>(rok r hr).1,asc⟩ s3 h3 il3
def OA (H:Hp) (p:Addr) (rs:List Rep):Prop:=rs.length<=1000/\(∀r∈rs,r.ends.length<=1000)/\∃rv,H p=some (.lst rv)/\L2.IsL H (rs.map jD) rv
theorem OA.mono {H H':Hp} (s:au H H') {p:Addr} {rs:List Rep} (h:OA H p rs):OA H' p rs:=by
 obtain⟨h1,h2,rv,h3,h4⟩:=h;exact⟨h1,h2,rv,s _ _ h3,h4.mono s⟩
def hJ:Sp:=fun vs H Q _=>∃(p:Addr) (rs:List Rep) (b:Int),vs=[.ref p,.int b]/\OA H p rs/\∀H',au H H'->Q (.bl (jW rs b)) H'
def j9:Sp:=fun vs H Q _=>∃(p:Addr) (rs:List Rep) (b:Int),vs=[.ref p,.int b]/\OA H p rs/\∀H',au H H'->Q (.bl (eU rs b)) H'
theorem AW:aD ["_law_repeats","_law_bar"] ["_law_repeats","_law_bar"] (ao rH):=dJ
theorem pL (T:Txt K mg):dm P w base 1 T.lW j9:=by
 refine T.lW.F.dH AW fun _ _ _ _ H vs Q E hr h=>?_
 ·obtain⟨p,rs,b,rfl,⟨rl,el,rv,hp,il⟩,kk⟩:=h
  have sl:=yB;obtain⟨ps,e1,e2,e3⟩:=gX il;have pln:ps.length=rs.length:=by rw[<-e1,za]
  refine⟨_,(aj (aq (eX (gE rfl) T.yD (aa (pK (ts:=["_law_first","_law_last","_law_times","_law_ends"]) (ys:=["_law_bar"]) (js:=[1]) (g:=(FA K 4 (fZ (bc 0) (fZ (bc 1) (fZ (bc 2) (fZ (bc 3) FC)))))) (tc:=dt) (te:=(xh (vK fun i j=>.bl (decide (i<j))) (vK fun i j=>.bl (decide (i<=j))) (bj 0) (bj 4) (bj 1))) (bz (pv 0)) (fun _ _ _ _=>(dY (n:=4) rfl (aO (dj 0 (show List.Nodup [("_law_first": Str),("_law_last": Str),("_law_times": Str),("_law_ends": Str),("_law_bar": Str)] by decide +kernel)) (aO (dj 1 (show List.Nodup [("_law_first": Str),("_law_last": Str),("_law_times": Str),("_law_ends": Str),("_law_bar": Str)] by decide +kernel)) (aO (dj 2 (show List.Nodup [("_law_first": Str),("_law_last": Str),("_law_times": Str),("_law_ends": Str),("_law_bar": Str)] by decide +kernel)) (aO (dj 3 (show List.Nodup [("_law_first": Str),("_law_last": Str),("_law_times": Str),("_law_ends": Str),("_law_bar": Str)] by decide +kernel)) cX)))))) (fun _ _ _ _=>bx) (fun _ _ _ _=>(E4 fg gn (pv 0) (pv 4) (pv 1)))) af)))),?_⟩;ac_rfl;left;exists⟨_,aL.of hp⟩,?_;refine d8 (enc:=fun q:Rep×V=>q.2) (ws:=ps) (fun q=>.bl (decide (q.1.first<b)&&decide (b<=q.1.last))) (fun σ=>∃v1 v2 v3 v4,σ=[v1,v2,v3,v4,some (.int b)]) nofun (by rw[e2];exact aL.of hp) ⟨_,_,_,_,rfl⟩ ?_ ?_
  ·rintro z σ H1 R hz s1 ⟨v1,v2,v3,v4,rfl⟩ rr
   obtain⟨a,e,ev,ha,_⟩:=fX ((e3 z hz).mono s1);rw[ev];exists a,_,rfl,dB.of ha,rfl,?_;refine⟨_,_,rfl,⟨_,_,rfl,⟨_,_,rfl,⟨_,_,rfl,⟨rfl,?_⟩⟩⟩⟩⟩;left
   by_cases c:z.1.first<b
   ·refine cj (ze c) ?_
    left;exact rr _ _ _ (au.refl _) (by rw[ze c,Bool.true_and];unfold Is;rfl) ⟨_,_,_,_,rfl⟩
   ·refine cw (zd c) ?_
    exact rr _ _ _ (au.refl _) (by rw[zd c,Bool.false_and];unfold Is;rfl) ⟨_,_,_,_,rfl⟩
  ·intro D vs H1 s1 nD hD ilD
   have ee:ps.map (fun q:Rep×V=>Dt.bl (decide (q.1.first<b)&&decide (b<=q.1.last)))=(rs.map fun r=>decide (r.first<b)&&decide (b<=r.last)).map Dt.bl:=by rw[<-e1,zA,zA];rfl
   rw[ee] at ilD;rw[kg ilD] at hD;left;exists D,_,rfl,aL.of hD,?_;have:=kk _ s1;unfold eU at this;rw[List.any_map];exact this
theorem dC:aD ["_law_repeats","_law_bar","_law_first","_law_last","_law_times","_law_ends","_law_mine"] ["_law_repeats","_law_bar"] (ao nM):=dJ
theorem mI (T:Txt K mg):dm P w base 1 T.iT hJ:=by
 refine T.iT.F.dH dC fun _ _ _ _ H vs Q E hr h=>?_
 ·obtain⟨p,rs,b,rfl,⟨rl,el,rv,hp,il⟩,kk⟩:=h
  have sl:=yB;have rvl:=aS il;refine⟨_,(ag (cE PassesOwn.never rfl (bz (pv 0)) (dY (n:=4) rfl (aO (dj 2 dC.nd) (aO (dj 3 dC.nd) (aO (dj 4 dC.nd) (aO (dj 5 dC.nd) cX)))))
   (aj (aI (Ly gn gn (pv 2) (pv 1) (pv 3))
    (ag (MP (i:=6) (ts:=["_law_begin","_law_passes"]) (ys:=["_law_bar"]) (js:=[1]) (g:=(FA K 2 (fZ (bc 0) (fZ (bc 1) FC)))) (tc:=(oY (fQ (vK fun i j=>.bl (decide (i<=j))) (bj 0) (bj 2)))) (te:=(bj 1)) (ke (pv 5)) (fun _ _ _ _=>(dY (n:=2) rfl (aO (dj 0 (show List.Nodup [("_law_begin": Str),("_law_passes": Str),("_law_bar": Str)] by decide +kernel)) (aO (dj 1 (show List.Nodup [("_law_begin": Str),("_law_passes": Str),("_law_bar": Str)] by decide +kernel)) cX)))) (fun _ _ _ _=>(iF (ay gn (pv 0) (pv 2) (aE _)))) (fun _ _ _ _=>(pv 1)) dC.nd)
     (aj (aq (LH (dZ (CV hr.units) (pv 6) (bD af) (aE _)) (qx (dZ oC (pv 4) (ax aN (pv 6) (rT kY ae) (fun _ _=>rfl)) (by with_unfolding_all rfl)))))))
    aB)))
   (aj (aq nU))),?_⟩
  ac_rfl;left;exists⟨_,aL.of hp⟩,?_;refine dX (K:=K) (a:=p) (xs:=rv) (fun i σ H'=>H'=H/\(∀r∈rs.take i,Eh r b=false)/\∃(v2 v3 v4 v5 v6:Option V),σ=[some (.ref p),some (.int b),v2,v3,v4,v5,v6]) ⟨rfl,by simp,none,none,none,none,none,rfl⟩ (fun i σ H' _ h=>by rw[h.1];exact aL.of hp) ?_ ?_
  ·rintro i x σ H1 hx ⟨rfl,no,v2,v3,v4,v5,v6,rfl⟩
   obtain⟨r,hr',ir⟩:=dz il hx;obtain⟨a,ep,rfl,ha,ie⟩:=fX ir;have rin:=zB hr';have nxt:Eh r b=false->∀y∈rs.take (i+1),Eh y b=false:=fun e y hy=>by
    rw[cU hr'] at hy;rcases zF.mp hy with z | z
    ·exact no y z
    ·rw[zy.mp z];exact e
   refine⟨a,_,rfl,dB.of ha,rfl,?_⟩;refine⟨_,_,rfl,⟨_,_,rfl,⟨_,_,rfl,⟨_,_,rfl,⟨rfl,?_⟩⟩⟩⟩⟩;left
   by_cases c1:r.first<=b
   ·refine cj (ze c1) ?_
    left
    by_cases c2:b<=r.last
    ·refine cj (ze c2) ?_
     left;obtain⟨ep',evs,e0,hep,ile⟩:∃ep' evs,V.ref ep=.ref ep'/\H1 ep'=some (.tup evs)/\L2.IsL H1 (r.ends.map mT) evs:=by unfold Is at ie;exact ie
     cases e0;obtain⟨ps,e1,e2,e3⟩:=gX ile;have pln:ps.length=r.ends.length:=by rw[<-e1,za]
     have elr:=el r rin;refine⟨⟨_,dB.of hep⟩,?_⟩;have hro:dP rs b=some r:=yO hr' (by rw[ze c1,ze c2];rfl) fun y hy=>no y hy;refine Ab (ws:=ps) (enc:=fun q:Sc.End×V=>q.2) (fun q=>decide (q.1.1<=b)) (fun q=>vj q.1.2) (fun σ=>∃v w',σ=[v,w',some (.int b)]) nofun ⟨_,_,rfl⟩ (fun i H hi sm=>Hm (iV sm hep) (by rw[<-e2,za];exact hi)) (fun H sm=>⟨_,iV sm hep,by rw[<-e2,za];exact zk _⟩) ?_ ?_ ?_
     ·rintro i x H H2 hi sm ⟨rfl,hy⟩
      have hx':=hy _ (iV sm hep);rw[<-e2,zJ,zb hi] at hx';cases hx';exact⟨rfl,rfl⟩
     ·rintro z σ H2 R N hz s2 ⟨v,w',rfl⟩ rr nn
      obtain⟨a2,q2,ev,ha2,hq2⟩:=ui ((e3 z hz).mono s2);rw[ev];exists a2,_,rfl,dB.of ha2,rfl,?_;refine⟨_,_,rfl,⟨_,_,rfl,⟨rfl,?_⟩⟩⟩;left
      by_cases c3:z.1.1<=b
      ·refine cj (ze c3) ?_
       left;exact rr (ze c3) _ _ _ (au.refl _) (cB hq2 sC) ⟨_,_,rfl⟩
      ·refine cw (zd c3) ?_
       exact nn (zd c3) _ _ (au.refl _) ⟨_,_,rfl⟩
     ·intro D vs H2 s2 nD hD ilD
      have ee:(ps.filter fun q:Sc.End×V=>decide (q.1.1<=b)).map (fun q=>vj q.1.2)=((r.ends.filter fun e=>decide (e.1<=b)).map (·.2)).map vj:=by
       rw[<-e1,List.filter_map,zA,zA];rfl
      rw[ee] at ilD;have vl:=aS ilD;rw[za] at vl;left;exists by show 0<=sizeLine;omega,?_
      right;rename_i p3 H3 s3 h3;exists D,p3,_,_,rfl,rfl,.inl ⟨aL.of (s3 _ _ hD),aL.of h3⟩,.inr (.inl rfl),?_;have hlp:jW rs b=(match (r.ends.filter fun e=>decide (e.1<=b)).getLast? with | none=>true | some e=>decide (r.times∈e.2)):=by unfold jW;rw[hro];try rfl
      rw[hlp] at kk;clear hlp ee;generalize (r.ends.filter fun e=>decide (e.1<=b))=fs at kk ilD vl;have s13:=s2.trans s3
      by_cases e:vs=[]
      ·refine⟨_,rfl,cj (ze e) ?_⟩
       have:fs=[]:=by
        rw[e] at vl;exact yr.mp vl.symm
       rw[this] at kk;exact kk _ s13
      ·refine⟨_,rfl,cw (zd e) ?_⟩
       have vp:0<vs.length:=yq.mpr e;obtain⟨ps5,hps5,i5⟩:=dz ilD (i:=vs.length-1) (zb nofun);rw[zJ] at hps5;cases qf:fs[vs.length-1]? with
       | none=>rw[qf] at hps5;cases hps5
       | some en=>
        rw[qf] at hps5;have e5:en.2=ps5:=yj hps5;subst e5;have gl:fs.getLast?=some en:=by rw[List.getLast?_eq_getElem?,<-vl];exact qf
        rw[gl] at kk;unfold vj Is at i5;obtain⟨a5,us5,ev5,ha5,il5⟩:=i5;rw[fF il5] at ha5;left;refine⟨D,vs,-1,_,rfl,rfl,aL.of (s3 _ _ hD),sP (zb nofun),?_⟩;rw[ev5];exists a5,_,rfl,.inr (dB.of (s3 _ _ ha5)),rfl,by rw[List.all_map];exact yo.mpr fun x _=>rfl,?_
        show Q (.bl (Eg (.int r.times) (en.2.map V.int))) _;rw[wL];exact kk _ s13
    ·refine cw (zd c2) ?_
     left;exact⟨nxt (by unfold Eh;rw[zd c2,Bool.and_false]),_,_,_,_,_,rfl⟩
   ·refine cw (zd c1) ?_
    left;exact⟨nxt (by unfold Eh;rw[zd c1,Bool.false_and]),_,_,_,_,_,rfl⟩
  ·rintro σ H1 ⟨rfl,no,v2,v3,v4,v5,v6,rfl⟩
   left;have e:jW rs b=true:=by
    unfold jW;rw[show dP rs b=none from List.find?_eq_none.mpr fun y hy=>by
     have:=no y (by rw[rvl,zM];exact hy);unfold Eh at this;rw[this];simp]
   rw[e] at kk;exact kk _ (au.refl _)
theorem Cj.apart {many:Int} {rs:List Rep} (h:Cj many rs):Apart rs:=by
 refine⟨fun r hr=>?_,h.2.2⟩;obtain⟨h1,h2,h3,h4,h5,e1,e2,e3,e4,e5⟩:=h.2.1 r hr;exact⟨h2,e5,fun e he=>⟨(e3 e he).1,(e3 e he).2.1⟩⟩
def vA:Sp:=fun vs H Q _=>∃(c many:Int) (p:Addr) (rs:List Rep),vs=[.int c,.int many,.ref p]/\OA H p rs/\Cj many rs/\1<=many/\many<=200/\
 ∀(jo:Option Jump) v H',(∀j,jo=some j->N4 many rs j)->au H H'->Is H' (dO jt jo) v->Q v H'
theorem IY {l:List Int} {j:Nat} (h:j<l.length):∃x,(l.map V.int)[j]?=some (.int x)/\x∈l:=⟨l[j],by rw[zJ,zb h];rfl,yk h⟩
theorem Hf {m:Int} {l:List Int} (h:l≠[]):∃x,Ci (l.map V.int) (m%(l.length:Int))=some (.int x)/\x∈l:=by
 have hp:0<l.length:=yq.mpr h;have a0:=zv m (b:=(l.length:Int)) nofun;have a1:=zr m (b:=(l.length:Int)) nofun;obtain⟨j,hj⟩:∃j:Nat,m%(l.length:Int)=(j:Int):=⟨(m%(l.length:Int)).toNat,nofun⟩
 obtain⟨x,e1,e2⟩:=IY (l:=l) (j:=j) nofun;exact⟨x,by rw[hj];exact bF e1,e2⟩
theorem Gf (l:List Int):(l.map V.int).all mL=true:=by rw[List.all_map];exact yo.mpr fun _ _=>rfl
theorem bO:aD ["_law_cell","_law_many","_law_repeats","_law_m","_law_lasts","_law_inside","_law_ats","_law_at","_law_tos","_law_to","_law_untils","_law_codas"] ["_law_cell","_law_many","_law_repeats"] (ao nN):=dJ
theorem vQ (T:Txt K mg):dm P w base 2 T.lV vA:=by
 refine T.lV.F.dH bO fun _ _ _ _ H vs Q E hr h=>?_
 ·obtain⟨c,many,p,rs,rfl,rsl,rd,mn1,mn2,kk⟩:=h
  have sl:=yB;have ap:=rd.apart;obtain⟨rl,el,rv,hp,il⟩:=id rsl;obtain⟨ps,e1,e2,e3⟩:=gX il;have pln:ps.length=rs.length:=by rw[<-e1,za]
  refine⟨_,(ag (bW 3 bO.nd (bR (bP T) hr T.cx (aa (pv 0) (aa ae af))))
   (ag (bW 4 bO.nd (pK (ts:=["_law_first","_law_last","_law_times","_law_ends"]) (ys:=[]) (js:=[]) (g:=(FA K 4 (fZ (bc 0) (fZ (bc 1) (fZ (bc 2) (fZ (bc 3) FC)))))) (tc:=dt) (te:=(bj 1)) (bz (pv 2)) (fun _ _ _ _=>(dY (n:=4) rfl (aO (dj 0 (show List.Nodup [("_law_first": Str),("_law_last": Str),("_law_times": Str),("_law_ends": Str)] by decide +kernel)) (aO (dj 1 (show List.Nodup [("_law_first": Str),("_law_last": Str),("_law_times": Str),("_law_ends": Str)] by decide +kernel)) (aO (dj 2 (show List.Nodup [("_law_first": Str),("_law_last": Str),("_law_times": Str),("_law_ends": Str)] by decide +kernel)) (aO (dj 3 (show List.Nodup [("_law_first": Str),("_law_last": Str),("_law_times": Str),("_law_ends": Str)] by decide +kernel)) cX)))))) (fun _ _ _ _=>bx) (fun _ _ _ _=>(pv 1))))
   (ag (bW 5 bO.nd (pK (ts:=["_law_bar"]) (ys:=["_law_repeats"]) (js:=[2]) (g:=(bc 0)) (tc:=(tB (Jq (Sh K) (bQ (mZ [none,some 0] (IJ K (bj 1)) (bc 0) dt (xh (vK fun i j=>.bl (decide (i<=j))) (vK fun i j=>.bl (decide (i<=j))) (fQ (rP K) (bj 0) (tC (.int (0)))) (bj 1) (fQ (rP K) (bj 0) (tC (.int (1)))))) eO)))) (te:=(bj 0)) (cO (by rfl) T.dG (aa (pv 1) af)) (fun _ _ _ _=>(dj 0 (show List.Nodup [("_law_bar": Str),("_law_repeats": Str)] by decide +kernel))) (fun _ _ _ _=>(iF (cW (eX (gE rfl) T.yD (aa (pK (ts:=["_law_one"]) (ys:=["_law_bar"]) (js:=[0]) (g:=(bc 0)) (tc:=dt) (te:=(xh (vK fun i j=>.bl (decide (i<=j))) (vK fun i j=>.bl (decide (i<=j))) (fQ (rP K) (bj 0) (tC (.int (0)))) (bj 1) (fQ (rP K) (bj 0) (tC (.int (1)))))) (bz (pv 1)) (fun _ _ _ _=>(dj 0 (show List.Nodup [("_law_one": Str),("_law_bar": Str)] by decide +kernel))) (fun _ _ _ _=>bx) (fun _ _ _ _=>(E4 gn gn (ax aA (pv 0) ae (fun _ _=>rfl)) (pv 1) (ax aA (pv 0) ae (fun _ _=>rfl))))) af))))) (fun _ _ _ _=>(pv 0))))
   (ag (MP (i:=6) (ts:=["_law_bar"]) (ys:=["_law_lasts","_law_inside"]) (js:=[4,5]) (g:=(bc 0)) (tc:=(R1 (oY (fQ (Qg K false) (bj 0) (bj 1))) (oY (fQ (Qg K true) (bj 0) (bj 2))))) (te:=(bj 0)) (cO (by rfl) T.dG (aa (pv 1) af)) (fun _ _ _ _=>(dj 0 (show List.Nodup [("_law_bar": Str),("_law_lasts": Str),("_law_inside": Str)] by decide +kernel))) (fun _ _ _ _=>(iF (PW.pt (eJ (ay oC (pv 0) (pv 1) (by with_unfolding_all rfl)) (dw (ay d4 (pv 0) (pv 2) (by with_unfolding_all rfl))))))) (fun _ _ _ _=>(pv 0)) bO.nd)
   (ag (aI (PW.pt (eJ (ay de (ar aV (ar aW (pv 3) ae) ae) ae (aE _)) (dw (ay (CV hr.units) (pv 6) (bD af) (aE _)))))
   (aj (aq aU))
   aB)
   (ag (bW 7 bO.nd (ax aN (pv 6) (ar aV (ar aW (pv 3) ae) (eX aC T.bB (aa (pv 6) af))) (fun _ _=>rfl)))
   (ag (MP (i:=8) (ts:=["_law_bar"]) (ys:=["_law_repeats"]) (js:=[2]) (g:=(bc 0)) (tc:=(MY (tB (gQ j9 [] E0 (bQ (bj 1) (bQ (bj 0) eO)))))) (te:=(bj 0)) (cO (by rfl) T.dG (aa (ar bg (pv 7) ae) af)) (fun _ _ _ _=>(dj 0 (show List.Nodup [("_law_bar": Str),("_law_repeats": Str)] by decide +kernel))) (fun _ _ _ _=>(iF (fG (cW (bR (pL T) hr T.lW (aa (pv 1) (aa (pv 0) af))))))) (fun _ _ _ _=>(pv 0)) bO.nd)
   (ag (bW 9 bO.nd (ax aN (pv 8) (ar aV (ar aW (pv 3) ae) (eX aC T.bB (aa (pv 8) af))) (fun _ _=>rfl)))
   (ag (MP (i:=10) (ts:=["_law_bar"]) (ys:=["_law_repeats"]) (js:=[2]) (g:=(bc 0)) (tc:=(tB (gQ hJ [] E0 (bQ (bj 1) (bQ (bj 0) eO))))) (te:=(bj 0)) (BM (by rfl) T.dG (aa (pv 9) (aa (ar bg (pv 7) ae) af))) (fun _ _ _ _=>(dj 0 (show List.Nodup [("_law_bar": Str),("_law_repeats": Str)] by decide +kernel))) (fun _ _ _ _=>(iF (cW (bR (mI T) hr T.iT (aa (pv 1) (aa (pv 0) af)))))) (fun _ _ _ _=>(pv 0)) bO.nd)
   (ag (MP (i:=11) (ts:=["_law_bar"]) (ys:=["_law_repeats"]) (js:=[2]) (g:=(bc 0)) (tc:=(O3 (MY (tB (gQ j9 [] E0 (bQ (bj 1) (bQ (bj 0) eO))))) (tB (gQ hJ [] E0 (bQ (bj 1) (bQ (bj 0) eO)))))) (te:=(bj 0)) (BM (by rfl) T.dG (aa (ar bg (pv 7) ae) (aa (pv 1) af))) (fun _ _ _ _=>(dj 0 (show List.Nodup [("_law_bar": Str),("_law_repeats": Str)] by decide +kernel))) (fun _ _ _ _=>(iF (PW.pt (cV (fG (cW (bR (pL T) hr T.lW (aa (pv 1) (aa (pv 0) af))))) (cK (cW (bR (mI T) hr T.iT (aa (pv 1) (aa (pv 0) af))))))))) (fun _ _ _ _=>(pv 0)) bO.nd)
   (ag (aI (ay (CV hr.units) (pv 10) (bD af) (aE _))
   (aj (aq aU))
   aB)
   (aj (aq (bK (aa (pv 7) (aa (pv 9) (aa (ax aN (pv 10) (ar aV (ar aW (pv 3) ae) (eX aC T.bB (aa (pv 10) af))) (fun _ _=>rfl)) (aa (ax aN (ar gJ (bD (aa aU af)) (pv 11)) (ar aV (ar aW (pv 3) ae) (ar bg ae (eX aC T.bB (aa (pv 11) af)))) (fun _ _=>rfl)) af)))))))))))))))))),?_⟩
  ac_rfl;left;exists c,520,rfl,nofun,nofun,?_;have m0:0<=mixed c 520:=zv _ (by decide);generalize mixed c 520=m at m0;left;exists⟨_,aL.of hp⟩,?_;refine d8 (enc:=fun q:Rep×V=>q.2) (ws:=ps) (fun q=>.int q.1.last) (fun σ=>∃v1 v2 v3 v4,σ=[v1,v2,v3,v4]) nofun (by rw[e2];exact aL.of hp) ⟨_,_,_,_,rfl⟩ ?_ ?_
  ·rintro z σ H1 R hz s1 ⟨v1,v2,v3,v4,rfl⟩ rr
   obtain⟨a,e,ev,ha,_⟩:=fX ((e3 z hz).mono s1);rw[ev];exists a,_,rfl,dB.of ha,rfl,?_;refine⟨_,_,rfl,⟨_,_,rfl,⟨_,_,rfl,⟨_,_,rfl,⟨rfl,?_⟩⟩⟩⟩⟩;left;exact rr _ _ _ (au.refl _) cR ⟨_,_,_,_,rfl⟩
  intro D4 vs4 H4 s4 _ hD4 il4;have ee:ps.map (fun q:Rep×V=>Dt.int q.1.last)=(rs.map (·.last)).map Dt.int:=by rw[<-e1,zA,zA];rfl
  rw[ee] at il4;rw[fF il4] at hD4;clear ee il4;left;exists by omega,nofun,?_
  have mt:((many.toNat:Nat):Int)=many:=nofun
  refine jw (rest:=[some (.ref p)]) (fun b=>rs.any fun r=>Eh r b) nofun ⟨none,rfl⟩ ?_ ?_
  ·intro i H5 R i0 i1 s5 hR
   have s05:=s4.trans s5;left;exists⟨_,aL.of (s05 _ _ hp)⟩,?_;refine d8 (enc:=fun q:Rep×V=>q.2) (ws:=ps) (fun q=>.bl (Eh q.1 i)) (fun σ=>∃v1,σ=[v1,some (.int i)]) nofun (by rw[e2];exact aL.of (s05 _ _ hp)) ⟨_,rfl⟩ ?_ ?_
   ·rintro z σ H6 R hz s6 ⟨v1,rfl⟩ rr
    obtain⟨a,e,ev,ha,_⟩:=fX ((e3 z hz).mono (s05.trans s6));rw[ev];left
    by_cases c1:z.1.first<=i
    ·refine cj (ze c1) ?_
     left;exact rr _ _ _ (au.refl _) (by unfold Eh;rw[ze c1,Bool.true_and];unfold Is;rfl) ⟨_,rfl⟩
    ·refine cw (zd c1) ?_
     exact rr _ _ _ (au.refl _) (by unfold Eh;rw[zd c1,Bool.false_and];unfold Is;rfl) ⟨_,rfl⟩
   ·intro D vs H6 s6 nD hD ilD
    have ee:ps.map (fun q:Rep×V=>Dt.bl (Eh q.1 i))=(rs.map fun r=>Eh r i).map Dt.bl:=by rw[<-e1,zA,zA];rfl
    rw[ee] at ilD;rw[kg ilD] at hD;left;exists D,_,rfl,aL.of hD,?_;rw[List.any_map];exact⟨_,rfl,hR _ s6⟩
  intro D5 H5 s5 _ hD5;have hD45:=s5 _ _ hD4;generalize hins:mM (fun b=>rs.any fun r=>Eh r b) 0 many.toNat=ins at hD5;left;exists by omega,nofun,?_
  refine jw (rest:=[some (.ref D4),some (.ref D5)]) (fun b=>decide (b∈rs.map (·.last))||!decide (b∈ins)) nofun ⟨none,rfl⟩ ?_ ?_
  ·intro i H6 R i0 i1 s6 hR
   left;exists D4,_,rfl,.inl (aL.of (s6 _ _ hD45)),rfl,Gf _,?_;show∃k,V.bl (Eg (.int i) ((rs.map (·.last)).map V.int))=.bl k/\_;rw[wL];refine⟨_,rfl,?_⟩;refine ID (decide (i∈rs.map (·.last))||!decide (i∈ins)) ?_ ?_ (hR _ (au.refl _))
   ·intro c1 Z hz
    rw[c1,Bool.false_or] at hz;left;exists D5,_,rfl,.inl (aL.of (s6 _ _ hD5)),rfl,Gf _,?_;show∃k,V.bl (!Eg (.int i) (ins.map V.int))=.bl k/\_;rw[wL];exact⟨_,rfl,hz⟩
   ·intro c1;rw[c1,Bool.true_or]
  intro D6 H6 s6 _ hD6;have s06:=(s4.trans s5).trans s6;generalize hats:mM (fun b=>decide (b∈rs.map (·.last))||!decide (b∈ins)) 0 many.toNat=ats at hD6;left;have out:∀H',au H H'->Q .bE H':=fun H' s'=>kk none .bE H' (fun j z=>by cases z) s' (by unfold dO Is;rfl)
  by_cases c0:m/7%3=0
  ·refine cj (ze (congrArg V.int c0)) ?_
   left;exact out _ s06
  refine cw (zd fun z=>c0 (V.int.inj z)) ?_;left;exists by show 0<=sizeLine;omega,?_
  right;rename_i p7 H7 s7 h7;exists D6,p7,_,_,rfl,rfl,.inl ⟨aL.of (s7 _ _ hD6),aL.of h7⟩,.inr (.inl rfl),?_
  by_cases cn:ats=[]
  ·rw[cn]
   left;exact out _ (s06.trans s7)
  have hn:decide (ats.map V.int=[])=false:=zd (by simpa using cn);rw[hn];have s07:=s06.trans s7;have hD67:=s7 _ _ hD6;left;obtain⟨at_,hat,atin⟩:=Hf (m:=m/3) cn;have anp:0<ats.length:=yq.mpr cn;refine⟨D6,_,rfl,.inl (aL.of hD67),?_⟩;rw[za];left;exists by show 0<(ats.length:Int);omega,?_
  refine⟨D6,_,_,_,rfl,rfl,aL.of hD67,hat,?_⟩;rw[<-hats] at atin;obtain⟨a0,a1,a2⟩:=oJ atin;have a1':at_<many:=nofun
  have aleave:(∃r∈rs,r.last=at_)\/(rs.any fun r=>Eh r at_)=false:=by
   rw[Bool.or_eq_true,decide_eq_true_eq] at a2;rcases a2 with z | z
   ·obtain⟨r,hr1,hr2⟩:=zG.mp z
    exact .inl ⟨r,hr1,hr2⟩
   ·right
    cases q:rs.any fun r=>Eh r at_ with
    | false=>rfl
    | true=>
     have:at_∈ins:=by rw[<-hins];exact FJ a0 nofun q
     rw[ze this] at z;cases z
  clear hats atin hat;left;exists by show -2^62<=at_+1;omega,(by show at_+1<2^62;omega),?_
  have pt:∀H',au H7 H'->OA H' p rs:=fun H' s'=>(rsl.mono s07).mono s';refine jw (rest:=[some (.ref p)]) (fun b=>!eU rs b) (by show(at_+1).toNat<=sizeLine;omega) ⟨none,rfl⟩ ?_ ?_
  ·intro i H8 R i0 i1 s8 hR
   left;exact⟨p,rs,i,rfl,pt _ s8,fun H' s'=>⟨_,rfl,hR _ s'⟩⟩
  intro D8 H8 s8 _ hD8;generalize htos:mM (fun b=>!eU rs b) 0 (at_+1).toNat=tos at hD8;have tn:tos≠[]:=by
   rw[<-htos];refine List.ne_nil_of_mem (FJ (x:=0) nofun nofun ?_);have:eU rs 0=false:=by
    unfold eU;rw[List.any_eq_false];intro r hr';have:=(rd.2.1 r hr').1;rw[zd (show¬r.first<0 by omega)];simp
   rw[this];rfl
  obtain⟨to_,hto,toin⟩:=Hf (m:=m/50) tn;have tnp:0<tos.length:=yq.mpr tn;left;exists D8,_,rfl,.inl (aL.of hD8),?_;rw[za];left;exists by show 0<(tos.length:Int);omega,?_
  refine⟨D8,_,_,_,rfl,rfl,aL.of hD8,hto,?_⟩;rw[<-htos] at toin;obtain⟨b0,b1,b2⟩:=oJ toin;have b2':eU rs to_=false:=by cases q:eU rs to_ with
   | false=>rfl
   | true=>rw[q] at b2;cases b2
  clear htos toin hto tnp tn;left;exists _,_,rfl,⟨nofun,nofun,(by show -2^62<=at_+1;omega),by show at_+1<2^62;omega⟩,?_;refine jw (rest:=[some (.ref p)]) (fun b=>jW rs b) (by show(at_+1-to_).toNat<=sizeLine;omega) ⟨none,rfl⟩ ?_ ?_
  ·intro i H9 R i0 i1 s9 hR
   left;exact⟨p,rs,i,rfl,pt _ (s8.trans s9),fun H' s'=>⟨_,rfl,hR _ s'⟩⟩
  intro D9 H9 s9 _ hD9;generalize hunt:mM (fun b=>jW rs b) to_ (at_+1-to_).toNat=unt at hD9;left;exists _,_,rfl,⟨by show -2^62<=at_+1;omega,(by show at_+1<2^62;omega),nofun,nofun⟩,?_;refine jw (rest:=[some (.ref p)]) (fun b=>!eU rs b&&jW rs b) (by show(many-(at_+1)).toNat<=sizeLine;omega) ⟨none,rfl⟩ ?_ ?_
  ·intro i Ha R i0 i1 sa hR
   left;refine⟨p,rs,i,rfl,pt _ ((s8.trans s9).trans sa),fun H' s'=>⟨_,rfl,?_⟩⟩;cases q:eU rs i with
   | true=>
    rw[q] at hR;exact cw rfl (hR _ s')
   | false=>
    rw[q] at hR;refine cj rfl ?_;left;exact⟨p,rs,i,rfl,(pt _ ((s8.trans s9).trans sa)).mono s',fun H'' s''=>⟨_,rfl,hR _ (s'.trans s'')⟩⟩
  intro Da Ha sa _ hDa;generalize hcod:mM (fun b=>!eU rs b&&jW rs b) (at_+1) (many-(at_+1)).toNat=cod at hDa;have cl:cod.length<=200:=by
   have:=JY (f:=fun b=>!eU rs b&&jW rs b) (lo:=at_+1) (n:=(many-(at_+1)).toNat);rw[hcod] at this;omega
  have s0a:=((s07.trans s8).trans s9).trans sa;left;exists by show 0<=sizeLine;omega,?_
  right;rename_i pb Hb sb hb;have hD9b:=sb _ _ (sa _ _ hD9);refine⟨D9,pb,_,_,rfl,rfl,.inl ⟨aL.of hD9b,aL.of hb⟩,.inr (.inl rfl),?_⟩
  by_cases un:unt=[]
  ·rw[un]
   left;exact out _ (s0a.trans sb)
  have hn2:decide (unt.map V.int=[])=false:=zd (by simpa using un);rw[hn2];obtain⟨u_,hu,uin⟩:=Hf (m:=m/500) un;have unp:0<unt.length:=yq.mpr un;rw[<-hunt] at uin;obtain⟨u0,u1,u2⟩:=oJ uin;left;exists D9,_,rfl,.inl (aL.of hD9b),?_;rw[za];left;exists by show 0<(unt.length:Int);omega,?_
  refine⟨D9,_,_,_,rfl,rfl,aL.of hD9b,hu,?_⟩;left;exists by show 1<=sizeLine;omega,?_
  right;rename_i pc Hc sc hc;have hDac:=sc _ _ (sb _ _ hDa);left;exists pc,Da,_,_,rfl,rfl,aL.of hc,aL.of hDac,by rw[za];show 1+cod.length<=sizeLine;omega,?_
  right;rename_i pd Hd sd hd;left;exists Da,_,rfl,.inl (aL.of (sd _ _ hDac)),?_;rw[za];left;exists by show 0<1+(cod.length:Int);omega,?_
  have k0:0<=m/7%(1+(cod.length:Int)):=zv _ nofun;have k1:m/7%(1+(cod.length:Int))<1+(cod.length:Int):=zr _ nofun;obtain⟨kj,hkj⟩:∃j:Nat,m/7%(1+(cod.length:Int))=(j:Int):=⟨(m/7%(1+(cod.length:Int))).toNat,nofun⟩
  obtain⟨co,cv,hcv,icv,cok⟩:∃(co:Option Int) (cv:V),(V.bE::cod.map V.int)[kj]?=some cv/\(∀H',Is H' (dO Dt.int co) cv)/\∀x,co=some x->x∈cod:=by
   cases kj with
   | zero=>exact⟨none,.bE,rfl,fun H'=>by unfold dO Is;rfl,fun x z=>by cases z⟩
   | succ k=>
    obtain⟨x,f1,f2⟩:=IY (l:=cod) (j:=k) nofun;exact⟨some x,.int x,by simpa using f1,fun H'=>by unfold dO Is;rfl,fun y z=>by cases z;exact f2⟩
  refine⟨pd,_,_,_,rfl,rfl,aL.of hd,(by rw[hkj];exact bF hcv),?_⟩;left;exists by show 4<=sizeLine;omega,?_
  right;rename_i pe He se he;refine kk (some ⟨at_,to_,u_,co⟩) _ _ (fun j z=>?_) ((((s0a.trans sb).trans sc).trans sd).trans se) (cB he (aQ cR (aQ cR (aQ cR (aQ (icv _) cG)))));cases z;refine PK ap a0 a1' aleave b0 nofun b2' u0 nofun u2 fun x hx=>?_;have xin:=cok x hx;rw[<-hcod] at xin;obtain⟨x0,x1,x2⟩:=oJ xin;rw[zN] at x2;refine⟨nofun,nofun,?_,x2.2⟩;cases q:eU rs x with
  | false=>rfl
  | true=>rw[q] at x2;cases x2.1
theorem KN:∀x∈Hg,∀z∈([2,3,5]:List Int),(red x.1 (x.2*z)).1*(red x.1 x.2).2<(red x.1 x.2).1*(red x.1 (x.2*z)).2:=by decide +kernel
structure Ee (most:Int) (S:cJ):Prop where
 QI:1<=S.players.length
 pl:S.players.length<=4
 pn:AB S.players
 ins:Rf S.ak
 st:DY S.players S.aK
 b1:1<=S.aP.length
 bl:(S.aP.length:Int)<=most
 bd:∀b∈S.aP,Kv b
 up:∀u,S.aH=some u->∃x z,S.aP[0]?=some x/\z∈([2,3,5]:List Int)/\u=red x.aT.1 (x.aT.2*z)
 hs:List.Sublist (S.holds.map (·.1)) S.players
 hr:∀x∈S.holds,I9 (S.ak.map (·.1)) S.aP.length x.2
 no:Ec S S.aJ
 nl:S.aJ.length<=9*S.aP.length
 rp:Cj S.aP.length S.repeats
 ju:∀j,S.cb=some j->N4 S.aP.length S.repeats j
theorem FP {aP:List Sc.KA} {upb:Option (Int×Int)} {S:cJ} (eb:S.aP=aP) (eu:S.aH=upb) (bd:∀b∈aP,Kv b) (up:∀u,upb=some u->∃x z,aP[0]?=some x/\z∈([2,3,5]:List Int)/\u=red x.aT.1 (x.aT.2*z)) (b:Nat) (hb:b<aP.length):Kr (S.len b):=by
 have hm:Kr (S.aT b):=by
  unfold cJ.aT;rw[eb,zb hb];obtain⟨m1,m2,m3,m4,m5⟩:=lJ (bd _ (yk hb)).1;exact Hj nofun nofun nofun nofun
 unfold cJ.len;rw[eu];cases q:upb with
 | none=>exact hm
 | some u=>
  dsimp only;split
  ·obtain⟨x,z,e1,e2,e3⟩:=up u q
   obtain⟨m1,m2,m3,m4,m5⟩:=lJ (bd _ (zB e1)).1;rw[e3];have z1:2<=z/\z<=5:=by
    simp only[zC,zD,or_false] at e2;omega
   have p1:0<x.aT.2*z:=Int.mul_pos nofun nofun;have p2:x.aT.2*z<=32*5:=Int.mul_le_mul m5 z1.2 nofun (by decide);exact Hj nofun nofun p1 nofun
  ·exact hm
def tw (K:yA):Sp:=fun vs H Q _=>∃(a:Addr) (ns:List Int) (most:Int),vs=[.ref a,.int most]/\aL K H a (ns.map V.int)/\ns.length<=1000/\1<=most/\most<=24/\∀S p H',Ee most S->au H H'->vn H' p S->Q (.ref p) H'
theorem bf:aD ["_law_script","_law_most","_law_m","_law_players","_law_instruments","_law_many","_law_bars","_law_upbeat","_law_holds","_law_notes","_law_repeats","_law_jump","_law_staffs"] ["_law_script","_law_most"] (ao mn):=dJ
theorem tS (T:Txt K mg):dm P w base 4 T.ky (tw K):=by
 refine T.ky.F.dH bf fun _ _ _ _ H vs Q E hr h=>?_
 ·obtain⟨a,ns,most,rfl,hS,nl,mo1,mo2,kk⟩:=h
  have sl:=yB;refine⟨_,(ag (bW 2 bf.nd (bR (bP T) hr T.cx (aa (bR (bY T) hr T.cy (aa (pv 0) (aa ae af))) (aa ae af))))
   (ag (bW 3 bf.nd (bR (e9 T) hr T.eF (aa (ar aW (pv 2) ae) (aa (ar bg ae (ar aV (pv 2) ae)) af))))
   (ag (bW 4 bf.nd (bR (lH T) hr T.fk (aa (bR (bY T) hr T.cy (aa (pv 0) (aa ae af))) af)))
   (ag (bW 5 bf.nd (ar bg ae (ar aV (bR (bP T) hr T.cx (aa (bR (bY T) hr T.cy (aa (pv 0) (aa ae af))) (aa ae af))) (pv 1))))
   (ag (bW 6 bf.nd (bR (vS T) hr T.lY (aa (bR (bY T) hr T.cy (aa (pv 0) (aa ae af))) (aa (pv 5) af))))
   (ag (bW 7 bf.nd aU)
   (ag (aI (ay de (ar aV (ar aW (pv 2) ae) ae) ae (aE _))
   (aj (bW 7 bf.nd (bR (fY T) hr T.fN (aa (ax aA (ax aA (ax aN (pv 6) ae (fun _ _=>rfl)) ae (fun _ _=>rfl)) ae (fun _ _=>rfl)) (aa (ar d5 (ax aA (ax aA (ax aN (pv 6) ae (fun _ _=>rfl)) ae (fun _ _=>rfl)) ae (fun _ _=>rfl)) (ax aN (bD (aa ae (aa ae (aa ae af)))) (ar aV (ar aW (pv 2) ae) ae) (fun _ _=>rfl))) af)))))
   aB)
   (ag (bW 8 bf.nd (bR (tW T) hr T.kC (aa (bR (bY T) hr T.cy (aa (pv 0) (aa ae af))) (aa (pv 3) (aa (pv 4) (aa (pv 5) af))))))
   (ag (bW 9 bf.nd (bR (tU T) hr T.kA (aa (bR (bY T) hr T.cy (aa (pv 0) (aa ae af))) (aa (pv 3) (aa (pv 6) (aa (pv 7) af))))))
   (ag (bW 10 bf.nd (bR (qC T) hr T.ic (aa (bR (bY T) hr T.cy (aa (pv 0) (aa ae af))) (aa (pv 5) af))))
   (ag (bW 11 bf.nd (bR (vQ T) hr T.lV (aa (bR (bY T) hr T.cy (aa (pv 0) (aa ae af))) (aa (pv 5) (aa (pv 10) af)))))
   (ag (bW 12 bf.nd (bR (sg T) hr T.jy (aa (bR (bY T) hr T.cy (aa (pv 0) (aa ae af))) (aa (pv 3) af))))
   (aj (aq (bK (aa (pv 3) (aa (pv 4) (aa (pv 12) (aa (pv 6) (aa (pv 7) (aa (pv 8) (aa (pv 9) (aa (pv 10) (aa (pv 11) af)))))))))))))))))))))))),?_⟩
  ac_rfl;left;exists a,ns,0,rfl,hS,(by decide),nl,fun c0=>?_;left;exists c0,1,rfl,(by decide),(by decide),?_;have m0:0<=mixed c0 1:=zv _ (by decide);have m1:mixed c0 1<2147483399:=zr _ (by decide);generalize mixed c0 1=m at m0 m1;have a0:0<=m%4:=zv _ (by decide);have a1:m%4<4:=zr _ (by decide);left;refine⟨_,_,rfl,zV m0 (by decide),?_,nofun,nofun,fun ps pp H1 pl pok s1 hpp=>?_⟩
  ·have:=zW (a:=m) 4 m0;omega
  have QI:1<=ps.length/\ps.length<=4:=nofun
  left;exists a,ns,1,rfl,s1.seq hS,(by decide),nl,fun c1=>?_;left;intro ins ip iv H2 iok s2 hip ili;left;exists a,ns,2,rfl,(s1.trans s2).seq hS,(by decide),nl,fun c2=>?_;left;exists c2,2,rfl,(by decide),(by decide),?_;have n0:0<=mixed c2 2:=zv _ (by decide);generalize mixed c2 2=n at n0;left;exists by show 0<most;omega,?_
  have d0:0<=n%most:=zv _ nofun;have d1:n%most<most:=zr _ nofun;left;exists a,ns,2,rfl,(s1.trans s2).seq hS,(by decide),nl,fun c3=>?_;left;exists c3,_,rfl,nofun,nofun,fun aP bp bv H3 bl bok s3 nb hbp ilb=>?_;have bl2:((aP.length:Nat):Int)=1+n%most:=nofun
  have bvl:=aS ilb;have s03:=(s1.trans s2).trans s3;have x0:aP[0]?=some (aP[0]'nofun):=zb nofun;generalize aP[0]'nofun=x at x0;obtain⟨y,hy,iy⟩:=dz ilb (i:=0) (zb nofun);have ey:y=x:=by rw[x0] at hy;exact(yj hy).symm
  subst ey;obtain⟨ab,mv,qb,ev,hab,imv,_⟩:=wH iy;have xin:y.aT∈Hg:=(bok y (zB x0)).1;obtain⟨e1,e2,e3,e4,e5⟩:=lJ xin;have av:bv[0]?=some (.ref ab):=by rw[<-ev];exact zb nofun
  cases fj (o:=some y.aT) imv with
  | ref hmv=>
  rename_i am;left;refine join (fun σ H'=>au H3 H'/\∃(upb:Option (Int×Int)) (uv:V),σ=[some (.ref a),some (.int most),some (.int m),some (.ref pp),some (.ref ip),some (.int (1+n%most)),some (.ref bp),some uv,none,none,none,none,none]/\Is H' (dO dL upb) uv/\∀u,upb=some u->∃x z,aP[0]?=some x/\z∈([2,3,5]:List Int)/\u=red x.aT.1 (x.aT.2*z)) (fun N hN cc=>?_) (fun N hN cc=>?_) ?_
  ·left
   refine⟨bp,bv,0,_,rfl,rfl,aL.of hbp,bF av,?_⟩;left;exists bp,bv,0,_,rfl,rfl,aL.of hbp,bF av,?_;left;exists by show 3<=sizeLine;omega,?_
   right;rename_i p4 H4 s4 h4;have g0:0<=m/64%3:=zv _ (by decide);have g1:m/64%3<3:=zr _ (by decide);obtain⟨jj,hjj⟩:∃j:Nat,m/64%3=(j:Int):=⟨(m/64%3).toNat,nofun⟩
   obtain⟨z,hz,zi⟩:∃z:Int,[V.int 2,V.int 3,V.int 5][jj]?=some (.int z)/\z∈([2,3,5]:List Int):=by
    have:jj<3:=nofun
    match jj,this with
    | 0,_=>exact⟨2,rfl,by decide⟩
    | 1,_=>exact⟨3,rfl,by decide⟩
    | 2,_=>exact⟨5,rfl,by decide⟩
   have z1:2<=z/\z<=5:=by
    simp only[zC,zD,or_false] at zi;omega
   left;exists p4,_,m/64%3,.int z,rfl,rfl,aL.of h4,(by rw[hjj];exact bF hz),?_;left;exists .inl ⟨nofun,nofun⟩,?_;have p1:0<y.aT.2*z:=Int.mul_pos nofun nofun;have p2:y.aT.2*z<=32*5:=Int.mul_le_mul e5 z1.2 nofun (by decide);refine⟨_,_,rfl,nofun,p1,(dn (n:=10) nofun nofun).mono (by decide),fun p5 H5 s5 h5=>?_⟩;left;exact hN _ _ ⟨s4.trans s5,some (red y.aT.1 (y.aT.2*z)),.ref p5,rfl,iK h5,fun u q=>by cases q;exact⟨y,z,x0,zi,rfl⟩⟩
  ·left
   exact hN _ _ ⟨au.refl _,none,.bE,rfl,by unfold dO Is;rfl,fun u z=>by cases z⟩
  rintro σ4 H4 ⟨s4,upb,uv,rfl,iuv,uok⟩;have s04:=s03.trans s4;left;exists a,ns,1,rfl,s04.seq hS,(by decide),nl,fun c5=>?_;left;have s14:=(s2.trans s3).trans s4;have s24:=s3.trans s4;refine⟨c5,_,pp,ip,ps,ins,iv,rfl,s14 _ _ hpp,s24 _ _ hip,ili.mono s24,nofun,by have:=iok.1;omega,nofun,fun hs hp hv H5 hsub hrow s5 hhp rlh=>?_⟩;have s05:=s04.trans s5;left;exists a,ns,3,rfl,s05.seq hS,(by decide),nl,fun c6=>?_;left;have s15:=s14.trans s5;have s25:=s24.trans s5;have s35:=s4.trans s5;refine⟨c6,pp,bp,{players:=ps,aP:=aP,aH:=upb},bv,uv,rfl,s15 _ _ hpp,s35 _ _ hbp,ilb.mono s35,iuv.mono s5,by show ps.length<=9;omega,pok.2,by show aP.length<=200;omega,bok,FP rfl rfl bok uok,fun nts np nv H6 nok nlen s6 hnp rln=>?_⟩;have s06:=s05.trans s6;left;exists a,ns,4,rfl,s06.seq hS,(by decide),nl,fun c7=>?_;left;exists c7,_,rfl,nofun,fun rs rp rv H7 rok s7 hrp ilr=>?_;have s07:=s06.trans s7;left;exists a,ns,4,rfl,s07.seq hS,(by decide),nl,fun c8=>?_;left;have rsl:OA H7 rp rs:=⟨by have:=rok.1;omega,fun r hr'=>by have:=(rok.2.1 r hr').2.2.2.2.2.2.1;omega,rv,hrp,ilr⟩
  refine⟨c8,_,rp,rs,rfl,rsl,rok,nofun,nofun,fun jo jv H8 jok s8 ij=>?_⟩;have s08:=s07.trans s8;left;exists a,ns,0,rfl,s08.seq hS,(by decide),nl,fun c9=>?_;left;have s18:=((s15.trans s6).trans s7).trans s8;refine⟨c9,pp,ps,rfl,s18 _ _ hpp,pok.2,nofun,fun sts sp sv H9 stok s9 hsp ils=>?_⟩;left;exists by show 9<=sizeLine;omega,?_
  right;rename_i pa Ha sa ha;have s9a:=sa;have s8a:=s9.trans sa;have s7a:=s8.trans s8a;have s6a:=s7.trans s7a;have s5a:=s6.trans s6a;have s4a:=s5.trans s5a;have s3a:=s4.trans s4a;have s2a:=s3.trans s3a;have s1a:=s2.trans s2a;refine kk ⟨ps,ins,sts,aP,upb,hs,nts,rs,jo⟩ pa Ha ?_ (s08.trans s8a) ?_
  ·exact⟨QI.1,QI.2,pok,iok,stok,by show 1<=aP.length;omega,by show(aP.length:Int)<=most;omega,bok,uok,hsub,fun x hx=>by show I9 (ins.map (·.1)) aP.length x.2;rw[bl2];exact hrow x hx,nok,nlen,by show Cj aP.length rs;rw[bl2];exact rok,fun j hj=>by show N4 aP.length rs j;rw[bl2];exact jok j hj⟩
  ·exact⟨pp,ip,sp,bp,hp,np,rp,uv,jv,iv,sv,bv,hv,nv,rv,ha,s1a _ _ hpp,⟨s2a _ _ hip,ili.mono s2a⟩,⟨s9a _ _ hsp,ils.mono s9a⟩,⟨s3a _ _ hbp,ilb.mono s3a⟩,iuv.mono s4a,⟨s5a _ _ hhp,rlh.imp fun x v z=>z.mono s5a⟩,⟨s6a _ _ hnp,rln.imp fun x v z=>z.mono s6a⟩,⟨s7a _ _ hrp,ilr.mono s7a⟩,ij.mono s8a⟩
theorem nY {n:Str} (h:gk n):n.length<=12:=by
 unfold gk cH at h;split at h
 ·cases h
 ·split at h
  ·cases h
  ·omega
theorem FW {n:Int} (h:NB n):(dec n).length<=5:=bw (by have:=h.1;omega) (by have:=h.2;omega)
theorem Er:∀es:List Sc.End,GI es=((es.map (·.2)).flatten).length
 | []=>rfl
 | e::r=>by rw[zh,z9,zg,<-Er r];rfl
theorem ET {n:Nat} (hn:n<=999):∀{l rs:List Rep},(rs++l).Pairwise (fun a b=>a.last<b.first)->(∀r∈l,D1 n r)->wQ n rs l
 | [],_,_,_=>trivial
 | r::l,rs,asc,ok=>by
  obtain⟨h1,h2,h3,h4,h5,e1,e2,e3,e4,e5⟩:=ok r zp;refine⟨fun b hb=>?_,?_,⟨by rw[Er];omega,nofun,nofun,nofun⟩,ET hn (by rw[zE];exact asc) fun x hx=>ok x (zm _ hx)⟩
  ·rcases zF.mp hb with z | z
   ·simp only[zC,zD,or_false] at z
    rcases z with z | z <;> omega
   ·obtain⟨e,he,rfl⟩:=zG.mp z
    have:=(e3 e he).2.1;omega
  ·have fin:(decide (r.first<=r.last)&&gb r)=true:=by rw[ze h2];exact e1
   unfold lA;cases q:rs.getLast? with
   | none=>exact fin
   | some p=>
    have:=(zT.mp asc).2.2 p (List.mem_of_getLast? q) r zp;dsimp only;rw[if_neg nofun];exact fin
theorem NR {most:Int} {S:cJ} (hm:most<=24) (D:Ee most S):SM S:=by
 have bl:=D.bl;have b1:=D.b1;have pl:=D.pl;obtain⟨i1,i2,i3⟩:=D.ins;obtain⟨t1,t2,t3,t4⟩:=D.st;have nl:=D.nl;obtain⟨r1,r2,r3⟩:=D.rp;have hl:=D.hs.length_le;rw[za] at hl;refine⟨D.pn.2,nofun,i2.2,nofun,t2.2,t3,fun x hx=>(t4 x hx).2.2,fun x hx=>by have:=(t4 x hx).2.1;omega,nofun,nofun,fun b hb=>?_,fun u hu=>?_,D.hs.nodup D.pn.2,nofun,fun x hx=>?_,D.no.1,nofun,fun x hx=>?_,ET nofun (by rw[List.nil_append];exact r3) r2,nofun,fun r hr=>?_,fun j hj=>?_⟩
 ·obtain⟨m1,m2,m3,m4,m5⟩:=lJ (D.bd b hb).1
  exact⟨nofun,nofun,nofun,nofun⟩
 ·obtain⟨x,z,e1,e2,e3⟩:=D.up u hu
  have xin:=(D.bd x (zB e1)).1;obtain⟨m1,m2,m3,m4,m5⟩:=lJ xin;refine⟨nofun,?_,?_⟩
  ·unfold cJ.aT
   rw[e1,e3];exact KN x.aT xin z e2
  ·have z1:2<=z/\z<=5:=by
    simp only[zC,zD,or_false] at e2;omega
   have p1:0<x.aT.2*z:=Int.mul_pos nofun nofun;have p2:x.aT.2*z<=32*5:=Int.mul_le_mul m5 z1.2 nofun (by decide);obtain⟨q1,q2,q3,q4⟩:=Hj (t:=x.aT.1) (b:=x.aT.2*z) nofun nofun p1 nofun;obtain⟨_,q5,_⟩:=q1.pos;rw[e3];exact⟨(dn (n:=10) nofun nofun).mono (by decide),(dn (n:=10) nofun nofun).mono (by decide)⟩
 ·obtain⟨h1,h2,h3,h4⟩:=D.hr x hx
  exact⟨h1,nofun,h3,D.hs.subset (zO (f:=fun y:Str×List (Int×Str)=>y.1) hx),fun h hh=>⟨(h4 h hh).2.1,(h4 h hh).2.2⟩⟩
 ·obtain⟨h1,h2,h3,h4,h5,h6,h7⟩:=D.no.2 x hx
  exact⟨h1,h2,h3,h4,fun it hit=>(h5 it hit).1,h6⟩
 ·have:=(r2 r hr).2.2.2.2.2.2.1
  omega
 ·obtain⟨j1,j2,j3,j4,j5⟩:=D.ju j hj
  refine⟨fun b hb=>?_,j1⟩;rcases zF.mp hb with z | z
  ·simp only[zC,zD,or_false] at z
   rcases z with z | z | z <;> omega
  ·cases q:j.gD with
   | none=>rw[q] at z;cases z
   | some c=>
    rw[q] at z;have:b=c:=by simpa using z
    have:=(j5 c q).2;omega
theorem B8 {many:Int} {r:Rep} (hm:many<=200) (h:D1 many r):Kp r:=by
 obtain⟨h1,h2,h3,h4,h5,e1,e2,e3,e4,e5⟩:=h;exact⟨⟨⟨h1,nofun⟩,⟨nofun,nofun⟩,h4,h5,fun e he=>⟨by have:=(e3 e he).1;omega,by have:=(e3 e he).2.1;omega,(e3 e he).2.2.1,(e3 e he).2.2.2.2⟩⟩,e2,fun e he=>(e3 e he).2.2.2.1⟩
theorem Mr {most:Int} {S:cJ} (hm:most<=24) (D:Ee most S):∀t∈eN S,TD t:=by
 have bl:=D.bl;have b1:=D.b1;have pl:=D.pl;obtain⟨i1,i2,i3⟩:=D.ins;obtain⟨t1,t2,t3,t4⟩:=D.st;obtain⟨r1,r2,r3⟩:=D.rp;have pnm:∀p∈S.players,gk p:=D.pn.1;have inm:∀p∈S.ak.map (·.1),gk p:=i2.1;intro t ht;unfold eN at ht;simp only[zF] at ht;rcases ht with((((((ht | ht) | ht) | ht) | ht) | ht) | ht) | (ht | ht)
 ·obtain⟨n,hn,rfl⟩:=zG.mp ht
  refine⟨pnm n hn,by show 2<=100;decide,fun w hw=>?_⟩;simp only[Sc.wordsOf,zC,zD,or_false] at hw;rcases hw with rfl | rfl
  ·decide
  ·have:=nY (pnm _ hn);omega
 ·obtain⟨x,hx,rfl⟩:=zG.mp ht
  obtain⟨q1,q2,q3,q4,q5,q6⟩:=i3 x hx;have nx:=inm x.1 (zO (f:=fun y:Str×(Int×Int)×(Int×Int)=>y.1) hx);obtain⟨p1,p2,_⟩:=q4.pos;refine⟨⟨nx,q1,q2,q3,q4,q5,q6⟩,by show 5<=100;decide,fun w hw=>?_⟩;simp only[Sc.wordsOf,zC,zD,or_false] at hw;obtain⟨o1,o2,o3,o4,_⟩:=q1;rcases hw with rfl | rfl | rfl | rfl | rfl
  ·decide
  ·have:=nY nx;omega
  ·have:=bw (n:=x.2.1.1) nofun nofun;omega
  ·have:=bw (n:=x.2.1.2) nofun nofun;omega
  ·have:=kK (x:=x.2.2) nofun q5 nofun q6;omega
 ·obtain⟨x,hx,rfl⟩:=zG.mp ht
  obtain⟨q1,q2,q3⟩:=t4 x hx;have nx:=t2.1 x.1 (zO (f:=fun y:Str×List Str=>y.1) hx);refine⟨⟨nx,q1,fun p hp=>pnm p (q3 p hp)⟩,by show x.2.length+1+1<=100;omega,fun w hw=>?_⟩;simp only[Sc.wordsOf,zC] at hw;rcases hw with rfl | rfl | hw
  ·decide
  ·have:=nY nx;omega
  ·have:=nY (pnm w (q3 w hw));omega
 ·obtain⟨b,hb,rfl⟩:=zG.mp ht
  obtain⟨q1,q2,q3,q4,q5⟩:=D.bd b hb;obtain⟨m1,m2,m3,m4,m5⟩:=lJ q1;refine⟨⟨m1,nofun,m3,q2,q3,q4⟩,by show b.marks.length+1+1+1<=100;omega,fun w hw=>?_⟩;simp only[Sc.wordsOf,zC] at hw;rcases hw with rfl | rfl | rfl | hw
  ·decide
  ·have l1:=bw (n:=b.aT.1) nofun nofun
   have l2:=bw (n:=b.aT.2) nofun nofun;rw[len_app,len_app];have:("/": Str).length=1:=rfl;omega
  ·have:=bw (n:=b.key) nofun nofun;omega
  ·have:=nY (q4 w hw);omega
 ·obtain⟨u,hu,rfl⟩:=zG.mp ht
  have hu':S.aH=some u:=by
   cases q:S.aH with
   | none=>rw[q] at hu;cases hu
   | some v=>
    rw[q] at hu;have:u=v:=by simpa using hu
    rw[this]
  have ln:=FP (S:=S) rfl rfl D.bd D.up 0 nofun;have el:S.len 0=u:=by unfold cJ.len;rw[hu'];rfl
  rw[el] at ln;obtain⟨l1,l2,l3,l4⟩:=ln;obtain⟨p1,p2,_⟩:=l1.pos;refine⟨⟨l1,l2,nofun,nofun⟩,by show 2<=100;decide,fun w hw=>?_⟩;simp only[Sc.wordsOf,zC,zD,or_false] at hw;rcases hw with rfl | rfl
  ·decide
  ·have:=kK (x:=u) nofun nofun nofun nofun;omega
 ·obtain⟨l,hl,ht⟩:=List.mem_flatten.mp ht
  obtain⟨x,hx,rfl⟩:=zG.mp hl;obtain⟨h,hh,rfl⟩:=zG.mp ht;obtain⟨h1,h2,h3,h4⟩:=D.hr x hx;have np:=pnm x.1 (D.hs.subset (zO (f:=fun y:Str×List (Int×Str)=>y.1) hx));have nb:NB h.1:=⟨(h4 h hh).1,by have:=(h4 h hh).2.1;omega⟩
  have ni:=inm h.2 (h4 h hh).2.2;refine⟨⟨np,nb,ni⟩,by show 4<=100;decide,fun w hw=>?_⟩;simp only[Sc.wordsOf,zC,zD,or_false] at hw;rcases hw with rfl | rfl | rfl | rfl
  ·decide
  ·have:=nY np;omega
  ·have:=FW nb;omega
  ·have:=nY ni;omega
 ·obtain⟨x,hx,rfl⟩:=zG.mp ht
  obtain⟨h1,h2,h3,h4,h5,h6,h7⟩:=D.no.2 x hx;have nb:NB x.1.1:=⟨h1,nofun⟩
  refine⟨⟨nb,pnm _ h3,h5,h7⟩,by show(x.2.map qE).length+1+1+1<=100;rw[za];omega,fun w hw=>?_⟩;simp only[Sc.wordsOf,zC] at hw;rcases hw with rfl | rfl | rfl | hw
  ·decide
  ·have:=FW nb;omega
  ·have:=nY (pnm _ h3);omega
  ·obtain⟨it,hit,rfl⟩:=zG.mp hw
   have:=JR (h5 it hit);omega
 ·obtain⟨r,hr,rfl⟩:=zG.mp ht
  obtain⟨⟨q1,q2,q3,q4,q5⟩,q6,q7⟩:=B8 nofun (r2 r hr);refine⟨⟨q1,q2,q3,q4,q5⟩,by show(r.ends.map oW).length+1+1+1+1<=100;rw[za];omega,fun w hw=>?_⟩;simp only[Sc.wordsOf,zC] at hw;rcases hw with rfl | rfl | rfl | rfl | hw
  ·decide
  ·have:=FW q1;omega
  ·have:=FW q2;omega
  ·have:=bw (n:=r.times) nofun nofun;omega
  ·obtain⟨e,he,rfl⟩:=zG.mp hw
   have:=FL (q5 e he) (q7 e he);omega
 ·obtain⟨j,hj,rfl⟩:=zG.mp ht
  have hj':S.cb=some j:=by
   cases q:S.cb with
   | none=>rw[q] at hj;cases hj
   | some v=>
    rw[q] at hj;have:j=v:=by simpa using hj
    rw[this]
  obtain⟨j1,j2,j3,j4,j5⟩:=D.ju j hj';have n1:NB j.wJ:=⟨j2.1,nofun⟩
  have n2:NB j.AE:=⟨j3.1,nofun⟩
  have n3:NB j.dy:=⟨j4.1,nofun⟩
  have n4:∀c,j.gD=some c->NB c:=fun c hc=>⟨(j5 c hc).1,by have:=(j5 c hc).2;omega⟩
  refine⟨⟨n1,n2,n3,n4⟩,by show 5<=100;decide,fun w hw=>?_⟩;simp only[Sc.wordsOf,zC,zD,or_false] at hw;rcases hw with rfl | rfl | rfl | rfl | rfl
  ·decide
  ·have:=FW n1;omega
  ·have:=FW n2;omega
  ·have:=FW n3;omega
  ·unfold ctxt
   cases q:j.gD with
   | none=>decide
   | some c=>have:=FW (n4 c q);dsimp only;omega
theorem IM {α:Type} {k:Nat}:∀{l:List (List α)},(∀x∈l,x.length<=k)->l.flatten.length<=k*l.length
 | [],_=>by simp
 | x::r,h=>by
  have ih:=IM (l:=r) fun y hy=>h y (zm _ hy);have:=h x zp;rw[z9,zg,zt,Nat.mul_succ];omega
theorem J2 {most:Int} {S:cJ} (hm:most<=24) (D:Ee most S):(eN S).length<=1000/\eN S≠[]:=by
 have bl:=D.bl;have b1:=D.b1;have pl:=D.pl;have QI:=D.QI;have i1:=D.ins.1;have t1:=D.st.1;have r1:=D.rp.1;have nl:=D.nl;have hl:=D.hs.length_le;rw[za] at hl;have f:=IM (k:=4) (l:=S.holds.map fun x=>x.2.map fun h=>Told.holds x.1 h.1 h.2) fun y hy=>by
  obtain⟨x,hx,rfl⟩:=zG.mp hy;rw[za];exact(D.hr x hx).2.1
 rw[za] at f;have u:S.aH.toList.length<=1:=by cases S.aH <;> simp
 have j:S.cb.toList.length<=1:=by cases S.cb <;> simp
 refine⟨?_,fun z=>?_⟩
 ·unfold eN
  simp only[zg,za];omega
 ·have:=congrArg List.length z
  unfold eN at this;simp only[zg,za,List.length_nil] at this;omega
def La (K:yA):Sp:=fun vs H Q _=>∃(a:Addr) (ns:List Int),vs=[.ref a]/\aL K H a (ns.map V.int)/\ns.length<=63/\∀H':Hp,Q (.bl true) H'
theorem pY:aD ["_law_script","_law_s","_law_score","_law_player","_law_bar","_law_due","_law_found"] ["_law_script"] (ao Od):=dJ
theorem Pw (T:Txt K mg) (B:Dk P w K T) (F:Cf K T.lR):dm P w base 9 T.Sk (La K):=by
 refine T.Sk.F.dH pY fun _ _ _ _ H vs Q E hr h=>?_
 ·obtain⟨a,ns,rfl,hS,nl,kk⟩:=h
  have sl:=yB;refine⟨_,(ag (bW 1 pY.nd (bR (tS T) hr T.ky (aa (pv 0) (aa ae af))))
   (ag (bW 2 pY.nd (bR (A1 T B F) hr T.qo (aa (bR (qA T) hr T.hZ (aa (pv 1) af)) af)))
   (ag (cE PassesOwn.never rfl (bz (ax aA (pv 1) ae (fun _ _=>rfl))) (dj 3 pY.nd)
   (aj (cE PassesOwn.never rfl (cO (by rfl) T.dG (aa (eX aC T.bB (aa (ax aA (pv 1) ae (fun _ _=>rfl)) af)) af)) (dj 4 pY.nd)
    (ag (bW 5 pY.nd (bR (qD T) hr T.ig (aa (pv 1) (aa (pv 3) (aa (pv 4) af)))))
     (ag (bW 6 pY.nd (bR (tR T F) hr T.ki (aa (pv 2) (aa (pv 3) (aa (pv 4) af)))))
     (ag (aI (PW.pt (cV (bA (cA (pv 5))) (cK (bA (fE (pv 6))))))
     (aj (aq nU))
     aB)
     (aj (aI (PW.pt (cV (bA (fE (pv 5))) (cK (PW.pt (eJ (fG (cW (Pn .str (by decide +kernel) (pv 6) T.Dc T.fh))) (dw (ay jR (pv 6) (pv 5) (aE _))))))))
     (aj (aq nU))
     aB))))))))
   (aj (aq nU))))),?_⟩
  ac_rfl;left;exists a,ns,24,rfl,hS,nofun,(by decide),(by decide),fun S p H1 D s1 la=>?_;have vok:=NR (by decide) D;have td:=Mr (by decide) D;obtain⟨tl,tne⟩:=J2 (by decide) D;have rok:∀r∈S.repeats,Kp r:=fun r hr'=>B8 (by have:=D.bl;omega) (D.rp.2.1 r hr');left;exists p,S,rfl,la,td,tl,rok,(by have:=D.rp.1;omega),fun H2 s2=>?_;left;exists _,eN S,S,rfl,text_len td tl,Na tne td,Lf vok,fun sa o H3 sc s3 ow=>?_;have la3:=(la.mono s2).mono s3;obtain⟨pl,il,st,bl,hl,nl',rl,ub,jm,iv,sv,bv,hv,nv,rv,h1,h2,_,_,⟨h5,ilb⟩,_,_,_,_,_⟩:=la3.at';have bvl:=aS ilb;left;exists⟨_,aL.of h2⟩,?_;refine dX (K:=K) (a:=pl) (xs:=S.players.map V.str) (fun i σ H'=>au H3 H'/\∃(w3 w4 w5 w6:Option V),σ=[some (.ref a),some (.ref p),some (.ref sa),w3,w4,w5,w6]) ⟨au.refl _,none,none,none,none,rfl⟩ (fun i σ H' _ h=>aL.of (h.1 _ _ h2)) ?_ ?_
  ·rintro i x σ H4 hx ⟨s4,w3,w4,w5,w6,rfl⟩
   rw[zJ] at hx;cases qr:S.players[i]? with
   | none=>rw[qr] at hx;cases hx
   | some pn=>
   rw[qr] at hx;simp only[Option.map_some,Option.some.injEq] at hx;subst hx;have pin:=zB qr;have h14:=s4 _ _ h1;left;exists bl,bv,rfl,.inl (aL.of (s4 _ _ h5)),?_;rw[bvl];have b24:=D.bl;left;exists by omega,nofun,?_
   rw[show((S.aP.length:Int)).toNat=S.aP.length from by omega];refine gy (fun j σ H'=>au H3 H'/\∃(w4 w5 w6:Option V),σ=[some (.ref a),some (.ref p),some (.ref sa),some (.str pn),w4,w5,w6]) ⟨s4,w4,w5,w6,rfl⟩ ?_ ?_
   ·rintro j σ H5 hj ⟨s5,w4,w5,w6,rfl⟩
    left;exists p,S,pn,_,rfl,la3.mono s5,?_;rw[L6 vok.hn];left;exists sa,S,o,pn,_,rfl,sc.mono s5,pin,nofun,nofun,fun H6 s6=>?_;have s36:=s5.trans s6;generalize yL S pn (0+(j:Int))=r;cases r with
    | none=>
     left;exact⟨s36,_,_,_,rfl⟩
    | some x=>
     left;refine cw (by show(!decide (V.str x=V.str x))=false;rw[ze rfl];rfl) ?_;left;exact⟨s36,_,_,_,rfl⟩
   ·rintro σ H5 ⟨s5,w4,w5,w6,rfl⟩
    exact⟨s5,_,_,_,_,rfl⟩
  ·rintro σ H4 ⟨s4,w3,w4,w5,w6,rfl⟩
   left;exact kk _
end
theorem oh {K:yA} {h:Heap} {mg:Str->Option Value} {x:Str} {st:Stmt} {f:Addr} {od an:Option Addr} {sl:Array (Option Value)} {oc kV dc pm cd ct:Value} {p0:Str} (X:K.In h) (G:h.Ns mainGlobals mg) (a:autoParam (PySem.W.nsIn K mainGlobals x=some (some (.ref f))) qm_) (l:autoParam (K.lookup f=some ⟨oc,od,.func (PySem.W.fnOf x x (cZ st) (cC st) (ao st) .none kV dc pm an cd ct),sl⟩) qm_) (c:autoParam (PySem.W.codeIn K cd x=true) qm_) (k:autoParam (PySem.W.keepIn K (.ref f)=true) qm_)
  (hb:autoParam (∀(kV dc pm:Value) (an:Option Addr) (cd ct u0:Value),bindArgs (PySem.W.fnOf x x (cZ st) (cC st) (ao st) .none kV dc pm an cd ct) ⟨[u0],[]⟩=pure [(p0,u0)]) qn_) :
  Df K mg x st f (PySem.W.fnOf x x (cZ st) (cC st) (ao st) .none kV dc pm an cd ct) [p0]:=
 ⟨km l c k,PySem.W.mg_of X G a,(km l c k).binds (ps:=[p0]) fun kV dc pm an cd ct us hl=>match us,hl with | [u0],_=>hb kV dc pm an cd ct u0⟩
theorem kW {K:yA} {h:Heap} {mg:Str->Option Value} {x:Str} {st:Stmt} {f:Addr} {od an:Option Addr} {sl:Array (Option Value)} {oc kV dc pm cd ct:Value} {p0 p1:Str} (X:K.In h) (G:h.Ns mainGlobals mg) (a:autoParam (PySem.W.nsIn K mainGlobals x=some (some (.ref f))) qm_) (l:autoParam (K.lookup f=some ⟨oc,od,.func (PySem.W.fnOf x x (cZ st) (cC st) (ao st) .none kV dc pm an cd ct),sl⟩) qm_) (c:autoParam (PySem.W.codeIn K cd x=true) qm_) (k:autoParam (PySem.W.keepIn K (.ref f)=true) qm_)
  (hb:autoParam (∀(kV dc pm:Value) (an:Option Addr) (cd ct u0 u1:Value),bindArgs (PySem.W.fnOf x x (cZ st) (cC st) (ao st) .none kV dc pm an cd ct) ⟨[u0,u1],[]⟩=pure [(p0,u0),(p1,u1)]) qn_) :
  Df K mg x st f (PySem.W.fnOf x x (cZ st) (cC st) (ao st) .none kV dc pm an cd ct) [p0,p1]:=
 ⟨km l c k,PySem.W.mg_of X G a,(km l c k).binds (ps:=[p0,p1]) fun kV dc pm an cd ct us hl=>match us,hl with | [u0,u1],_=>hb kV dc pm an cd ct u0 u1⟩
theorem Oy {K:yA} {h:Heap} {mg:Str->Option Value} {x:Str} {st:Stmt} {f:Addr} {od an:Option Addr} {sl:Array (Option Value)} {oc kV dc pm cd ct:Value} {p0 p1 p2:Str} (X:K.In h) (G:h.Ns mainGlobals mg) (a:autoParam (PySem.W.nsIn K mainGlobals x=some (some (.ref f))) qm_) (l:autoParam (K.lookup f=some ⟨oc,od,.func (PySem.W.fnOf x x (cZ st) (cC st) (ao st) .none kV dc pm an cd ct),sl⟩) qm_) (c:autoParam (PySem.W.codeIn K cd x=true) qm_) (k:autoParam (PySem.W.keepIn K (.ref f)=true) qm_)
  (hb:autoParam (∀(kV dc pm:Value) (an:Option Addr) (cd ct u0 u1 u2:Value),bindArgs (PySem.W.fnOf x x (cZ st) (cC st) (ao st) .none kV dc pm an cd ct) ⟨[u0,u1,u2],[]⟩=pure [(p0,u0),(p1,u1),(p2,u2)]) qn_) :
  Df K mg x st f (PySem.W.fnOf x x (cZ st) (cC st) (ao st) .none kV dc pm an cd ct) [p0,p1,p2]:=
 ⟨km l c k,PySem.W.mg_of X G a,(km l c k).binds (ps:=[p0,p1,p2]) fun kV dc pm an cd ct us hl=>match us,hl with | [u0,u1,u2],_=>hb kV dc pm an cd ct u0 u1 u2⟩
theorem Sy {K:yA} {h:Heap} {mg:Str->Option Value} {x:Str} {st:Stmt} {f:Addr} {od an:Option Addr} {sl:Array (Option Value)} {oc kV dc pm cd ct:Value} {p0 p1 p2 p3:Str} (X:K.In h) (G:h.Ns mainGlobals mg) (a:autoParam (PySem.W.nsIn K mainGlobals x=some (some (.ref f))) qm_) (l:autoParam (K.lookup f=some ⟨oc,od,.func (PySem.W.fnOf x x (cZ st) (cC st) (ao st) .none kV dc pm an cd ct),sl⟩) qm_) (c:autoParam (PySem.W.codeIn K cd x=true) qm_) (k:autoParam (PySem.W.keepIn K (.ref f)=true) qm_)
  (hb:autoParam (∀(kV dc pm:Value) (an:Option Addr) (cd ct u0 u1 u2 u3:Value),bindArgs (PySem.W.fnOf x x (cZ st) (cC st) (ao st) .none kV dc pm an cd ct) ⟨[u0,u1,u2,u3],[]⟩=pure [(p0,u0),(p1,u1),(p2,u2),(p3,u3)]) qn_) :
  Df K mg x st f (PySem.W.fnOf x x (cZ st) (cC st) (ao st) .none kV dc pm an cd ct) [p0,p1,p2,p3]:=
 ⟨km l c k,PySem.W.mg_of X G a,(km l c k).binds (ps:=[p0,p1,p2,p3]) fun kV dc pm an cd ct us hl=>match us,hl with | [u0,u1,u2,u3],_=>hb kV dc pm an cd ct u0 u1 u2 u3⟩
theorem walk {l:PySem.W.OpenLaw} {q:Program} {loose:List Str} {XP:(Str->Option Value)->Heap->Prop} {YP:World->Heap->Prop} {d:DefRec} {K:Params->yA} (hn:l.most=some 63) (hdf:d.params.defaults=[]) (hdn:d.name ="law")
  (hY:∀(w:World) (h:Heap),YP w h->(K w.params).In h)
  (F:∀(w:World) (mg:Str->Option Value) (h:Heap),(K w.params).In h->h.Ns mainGlobals mg->
   ∃T:Txt (K w.params) mg,Dk l.prog w (K w.params) T/\∀(s:Shared) (v:Value),BindsTo s T.Mv ⟨[v],[]⟩ [("_law_script",v)]) :
  PySem.W.WalkO q loose XP YP l.row.toRowW d [] (fun f vs=>PySem.call f vs):=
 L2.MW (n:=63) (k:=9) (x:="_law_script") (CX:=fun _=>Ii) (sp:=fun w=>La (K w.params)) hn (by decide) hdf ⟨rfl,by decide,by decide⟩ hY
  (fun w mg fa h kx hns hm=>by
   obtain⟨T,B,hb⟩:=F w mg h kx hns;rw[hdn] at hm;have e:=hm.symm.trans T.Sk.g;cases e;exact⟨T.Mv,hb,fun base _ _=>Pw T B T.cf⟩) (fun _ _ a ns hl _ hS=>⟨a,ns,rfl,hS,hl,fun _=>rfl⟩) fun _ _ _ _ _ z=>z
theorem SJ {P:Program} {w:World} {K:yA} {a:Addr} {n:Nat} {t0 t1 t2 t3 t4 t5 t6 t7 t8:Tok} {f0 f1 f2 f3 f4 f5 f6 f7 f8:Addr} {s0 s1 s2 s3 s4 s5 s6 s7 s8:Str} (r:K.lookup a=some {cls:=.type "dict",data:=.dict #[⟨PyData.keyHash w.params s0,.str s0 t0,.ref f0⟩,⟨PyData.keyHash w.params s1,.str s1 t1,.ref f1⟩,⟨PyData.keyHash w.params s2,.str s2 t2,.ref f2⟩,⟨PyData.keyHash w.params s3,.str s3 t3,.ref f3⟩,⟨PyData.keyHash w.params s4,.str s4 t4,.ref f4⟩,⟨PyData.keyHash w.params s5,.str s5 t5,.ref f5⟩,⟨PyData.keyHash w.params s6,.str s6 t6,.ref f6⟩,⟨PyData.keyHash w.params s7,.str s7 t7,.ref f7⟩,⟨PyData.keyHash w.params s8,.str s8 t8,.ref f8⟩] n}) (y:(a == sysModules)=false) (nd:List.Nodup [s0,s1,s2,s3,s4,s5,s6,s7,s8]) :
  KD P w K a [(s0,.ref f0),(s1,.ref f1),(s2,.ref f2),(s3,.ref f3),(s4,.ref f4),(s5,.ref f5),(s6,.ref f6),(s7,.ref f7),(s8,.ref f8)]:=QR (l:=[(s0,t0,f0),(s1,t1,f1),(s2,t2,f2),(s3,t3,f3),(s4,t4,f4),(s5,t5,f5),(s6,t6,f6),(s7,t7,f7),(s8,t8,f8)]) r y nd
theorem S7 {K:yA} {a:Addr} {rd:Option Addr} {rs:Array (Option Value)} {rn:Nat} {t0 t1 t2 t3 t4 t5:Tok} {x0 x1 x2 x3 x4 x5:Int} (r:K.lookup a=some ⟨.type "tuple",rd,.seq #[.int x0 t0,.int x1 t1,.int x2 t2,.int x3 t3,.int x4 t4,.int x5 t5] rn,rs⟩) (H:Hp):dB K H a [.int x0,.int x1,.int x2,.int x3,.int x4,.int x5]:=
 .inr ⟨_,_,_,r,rfl,rfl,by show 6<=sizeLine;decide,.cons ⟨_,rfl⟩ (.cons ⟨_,rfl⟩ (.cons ⟨_,rfl⟩ (.cons ⟨_,rfl⟩ (.cons ⟨_,rfl⟩ (.cons ⟨_,rfl⟩ (.nil))))))⟩
theorem Ta {K:yA} {x y:Str} {st:Stmt} {f:Addr} {od an:Option Addr} {sl:Array (Option Value)} {oc kV dc pm cd ct:Value} {p:Str} (l:autoParam (K.lookup f=some ⟨oc,od,.func (PySem.W.fnOf x y (cZ st) (cC st) (ao st) .none kV dc pm an cd ct),sl⟩) qm_) (c:autoParam (PySem.W.codeIn K cd y=true) qm_) (k:autoParam (PySem.W.keepIn K (.ref f)=true) qm_)
  (hb:autoParam (∀(kV dc pm:Value) (an:Option Addr) (cd ct u:Value),bindArgs (PySem.W.fnOf x y (cZ st) (cC st) (ao st) .none kV dc pm an cd ct) ⟨[u],[]⟩=pure [(p,u)]) qn_):SU K x y st f (PySem.W.fnOf x y (cZ st) (cC st) (ao st) .none kV dc pm an cd ct) [p]:=
 ⟨km l c k,(km l c k).binds (ps:=[p]) fun kV dc pm an cd ct us hl=>match us,hl with | [u],_=>hb kV dc pm an cd ct u⟩
theorem NC {K:yA} {C:Addr} {f:Str} (e:autoParam (PySem.W.findIn K (.ref C) f=some none) qm_):eW K C f:=e
theorem wG {K:yA} {h:Heap} {mg:Str->Option Value} {x:Str} {v:Value} (X:K.In h) (G:h.Ns mainGlobals mg) (e:autoParam (PySem.W.nsIn K mainGlobals x=some (some v)) qm_):mg x=some v:=PySem.W.mg_of X G e
theorem Gx {K:yA} {h:Heap} {mg:Str->Option Value} {x:Str} (X:K.In h) (G:h.Ns mainGlobals mg) (e:autoParam (PySem.W.nsIn K mainGlobals x=some none) qm_):mg x=none:=PySem.W.mg_none_of X G e
end K22
set_option genInjectivity false in
structure PySem.W.Fast:Prop where
 (tw4061662933380441792 tw13470551270044963875 tw8038555822525667823 tw9029307114788849380 tw1402943561656650442 tw14725702132752021214 tw13106275337150675491 tw9479589758614622186 tw12066916993520457929 tw2984635040238447862 tw13216676390850065142 tw16846207970323822949 tw10321050388235044089 tw4086475425846738337 tw12260521320381579875 tw11448298966504958397 tw11173386432737168258 tw10931570697759463297 tw5356274421384290358 tw5814733871619291537 tw18157911424084129064 tw15891452670734199559 tw17213940264620477388 tw14438186813944465220 tw7590287003293972974 tw449975383228786829 tw13614398036741807937 tw2333158470311445167 tw10122556471675623202 tw6571415466262686182 tw15479931202013244919 tw14568608792386753711 tw12688830002173852575 tw6948139315087360466 tw1933818939757128691 tw11995144028550021171 tw10465053781833089191 tw13668676862134390324 tw762909690590159880 tw17452441672291000425 tw14171312918351590421 tw9225729357264673321 tw13224227120043941970 tw6642334777062219091 tw13518942402362316024 tw4325542506734456827 tw11493688164501390496 tw2547139425465743248 tw16813070578225443581 tw9558226606186085164 tw10989306617391382764 tw7087294565127792412 tw14280946843441442781 tw15917163302742522644 tw3157263189615290660 tw10787497283435044336 tw4186030533780714089 tw9770404076489437006 tw365722788578758908 tw8208900802197040377 tw12759901814890633372 tw18167412093947341469 tw3767659032570095630 tw15778311098588098771 tw7567556373667636718 tw11509350256202191734 tw5246977762564856228 tw18146682976833505619 tw2771962825094684282 tw9856427655321468200 tw7128479374981605217 tw7330304383982776277 tw9782875892414839784 tw6705308819827557626 tw15466817590118410946 tw6926544888683089577 tw17993306610168399175 tw17130154789124543444 tw16795940074767200131 tw9788256151527928894 tw7288789519106061494 tw4786283917931063258 tw6326269883968594345 tw10152046920224871961 tw17062119969614966590 tw9226771705532229523 tw7487872801981534696 tw12936157837868417914 tw18070595429739881715 tw4234393101555679765 tw9670799310334505234 tw7960550593211226358 tw7385553331319744739 tw3227242543748328699 tw2028936894816588547 tw2366526361854269815 tw3946495025432303360 tw774123852105832418 tw17383283195397989402 tw12476612858162845925 tw91947434326248762 tw1965182017483016431 tw1822952816927355507 tw14708242394549510733 tw7454293831607024709 tw15143850718677360590 tw1250345922051464632 tw8123259287177459235 tw5590200979002359912 tw10622209517323439743 tw15741701016552766054 tw14463401388362577013 tw3587868306318549222 tw12697623779452861635 tw12758498237487695417 tw15856581999374351373 tw8426832886554705983 tw1654937057052867495 tw11341587254434415087 tw17518190302917434991 tw2966136466139660026 tw13364440183194100229 tw6166246709071316451 tw2040747456944285497 tw12381854140596439994 tw9543559775274762106 tw12017241901856781440 tw15609962121679700368 tw5089824024235428976 tw11012037193579628368 tw16440181758728299776 tw14934015277091661845 tw1051150276853819587 tw4797111031317712928 tw15040481282103706367 tw1648124410896701055 tw9532177719979113456 tw13220227017298831268 tw15460232041581486027 tw7443736957063744923 tw3301713271773522573 tw12379183838093595082 tw13002631822651117143 tw14384435792402326013 tw13079439947181651326 tw18021069858967932773 tw14071952303355098158 tw17188549502210930668 tw8172479351830320910 tw14239760520143326703 tw9485188020129995174 tw8919872109690663301 tw12854689564563635222 tw3533111158062512291 tw16421262586626751696 tw9786455832969384585 tw9096724689368984588 tw705123469997319235 tw7516959861333213439 tw16570245805200125450 tw14066419624688239571 tw12124106313143250062 tw15300354885287424219 tw7527614178445427903 tw15117739306169538420 tw6747363330569374107 tw8048903756233555099 tw4745247121218220607 tw12784620339052983915 tw913323619115016668 tw9810272428599503603 tw7447600749377832204 tw10481795871198475313 tw17858558825873390314 tw2237474212354856103 tw2024348953432383175 tw4812736523412785286 tw5076479735528041155 tw4379184653545573870 tw979054269589989312 tw1057256349066751503 tw11751220314570761476 tw8665893685364220922 tw6043260287652893675 tw8401145153504523896 tw18116466344016039709 tw14984344626926846975 tw9843242080678059885 tw10596863617592804198 tw17219038843584608259 tw16908305701550033743 tw9834679303691974841 tw223754678173411973 tw4857113494731090785 tw15119630550436088768 tw76268927803371965 tw1303541772080094712 tw4903033898242538086 tw2122277355013855514 tw3838574220989844499 tw5922422172861917333 tw7920022201310202524 tw3318654336837237947 tw3127250015410333285 tw12572084929568111722 tw2587764083679560623 tw6570902574499301891 tw1317093586384184553 tw17315952537852528657 tw7496461891751616713 tw11163990567375092099 tw15798024736735001903 tw7926365427282706824 tw6309221435097994402 tw8336518361085701813 tw5090947077514253584 tw16227928146251579374 tw73917327019590607 tw7005599638823877617 tw6938929017787853751 tw8208117601873999805 tw5256183115714887179 tw10520505260829956423 tw17114987627207238345 tw9178188330279037063 tw787667687102141865 tw9914031632197262577 tw9527558595014578618 tw11894112187697832961 tw14215242300843515322 tw17998462016258905304 tw5728794133878507597 tw11719098508568879422 tw12818336063399550511 tw895079364394806762 tw6250790412510845162 tw17571549398688866626 tw16333921074426771439 tw5962087029149024701 tw2451246517137652051 tw5959854334097740406 tw5377713705652114086 tw17947968153221089070 tw7345865954663644751 tw6439768778135346822 tw7589241006903163933 tw14291566242366565003 tw13731656022999912786 tw2387805868563308136 tw2709929221502623440 tw10618726412188878072 tw1923935576016110326 tw11343223657438014336 tw10772406281847015705 tw8594869978274509589 tw9520245707131527007 tw6489439131709573527 tw14535831434439302367 tw11064213552413545708 tw8565272273216783354 tw12401109936819755695 tw10550768125937783200 tw15914518650020379273 tw7801832245891033520 tw13842326215665849137 tw736339245893090940 tw8796954605021678638 tw16210721161810268968 tw4792340296430046481 tw14184755359569106731 tw3334280678164691003 tw8380469385413133626 tw12531381352516268558 tw11891353309291470388 tw8366054762982712519 tw8918807323799764230 tw16876251869486405576 tw5257529639678524171 tw17494710961149275574 tw12838728988680753762 tw795016316518653660 tw8683478817900653243 tw6904479001172906155 tw12993995623978148777 tw6670319201087882420 tw10738484206484254306 tw17221222911066763317 tw17727711243841987441 tw2310423992947248311 tw14939922795384860965 tw11988068314423104221 tw645536410511737656 tw13033986775718029043 tw6291444879522627324 tw1555643327343469365 tw17241048197012424247 tw15980023421506485055 tw17015900640716572633:True)
open PySem PySem.W PyProof.Rows L2 Sc K22
set_option maxRecDepth 100000 in
set_option maxHeartbeats 0 in
theorem PySem.Challenge.cw_partsmith_k22_instruments_holds : PySem.Challenge.rw_partsmith_k22_instruments.Holds := by
  w_on; o_law; k_head; (case hw => w_witness2)
  k_fill
  refine K22.walk (l := PySem.Challenge.rw_partsmith_k22_instruments) rfl rfl rfl (fun w h Y => PySem.W.kIn_of Y) ?F
  case F =>
    intro w mg h X G
    exact ⟨⟨_, _, _, _, _, _, _, _, _, _, _, _, _, _, _, _, _, _, _, _, _, _, _, _, _, _, _, _, _, _, _, _, _, _, _, _, _, _, _, _, _, _, _, _, _, _, _, _, _, _, _, _, _, _, _, _, _, _, _, _, _, _, _, _, _, _, _, _, _, _, _, _, _, _, _, _, _, _, _, _, _, _, _, _, _, _, _, _, _, _, _, _, _, _, _, _, _, _, _, _, _, _, _, _, _, _, _, _, _, _, _, _, _, _, _, _, _, _, _, _, _, _, _, _, _, _, _, _, _, _, _, _, _, _, _, _, _, _, _, _, _, _, _, _, _, _, _, _, _, _, _, _, _, _, _, _, _, _, _, _, _, _, _, _, _, _, _, _, _, _, _, _, _, _, _, _, _, _, _, _, _, _, _, _, _, _, _, _, _, _, _, _, _, _, _, _, _, _, kW X G, kW X G, kW X G, kW X G, kW X G, kW X G, oh X G, kW X G, oh X G, oh X G, oh X G, oh X G, oh X G, oh X G, Oy X G, oh X G, kW X G, oh X G, oh X G, oh X G, oh X G, oh X G, oh X G, oh X G, oh X G, oh X G, oh X G, oh X G, oh X G, oh X G, oh X G, oh X G, oh X G, kW X G, kW X G, kW X G, kW X G, kW X G, Oy X G, kW X G, kW X G, kW X G, oh X G, kW X G, kW X G, kW X G, kW X G, kW X G, kW X G, kW X G, kW X G, kW X G, kW X G, Oy X G, kW X G, Oy X G, oh X G, kW X G, kW X G, Oy X G, kW X G, kW X G, kW X G, kW X G, oh X G, kW X G, kW X G, Oy X G, Sy X G, Sy X G, Sy X G, kW X G, kW X G, kW X G, Oy X G, oh X G, kW X G, kW X G, oh X G, oh X G, oh X G, oh X G, oh X G, oh X G, Oy X G, oh X G, wG X G, ⟨by k_is, by k_is, by k_is, by k_is⟩, Ta, wG X G, wG X G, wG X G, wG X G, wG X G, wG X G, wG X G, wG X G, wG X G, wG X G, wG X G, wG X G, S7 (by k_is), wG X G, wG X G, wG X G, wG X G, wG X G, wG X G, wG X G, wG X G, wG X G, wG X G, Gx X G, Gx X G, Gx X G, Gx X G, Gx X G, Gx X G, Gx X G, Gx X G, Gx X G, Gx X G, Gx X G, Gx X G, Gx X G, Gx X G, Gx X G, Gx X G, by k_is, by k_exc, wG X G, ⟨⟨by k_is, by k_is, by k_is, by k_is⟩, NC, NC, NC, NC, NC, NC, NC, NC, NC⟩⟩, ⟨SJ (by k_is) (by rfl) (show List.Nodup [("player" : Str), ("instrument" : Str), ("staff" : Str), ("bar" : Str), ("upbeat" : Str), ("holds" : Str), ("notes" : Str), ("repeat" : Str), ("jump" : Str)] by decide +kernel), SJ (by k_is) (by rfl) (show List.Nodup [("player" : Str), ("instrument" : Str), ("staff" : Str), ("bar" : Str), ("upbeat" : Str), ("holds" : Str), ("notes" : Str), ("repeat" : Str), ("jump" : Str)] by decide +kernel)⟩, fun s v => .of_eq rfl⟩
