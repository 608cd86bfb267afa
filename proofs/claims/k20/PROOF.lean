import PyProof.Rows.All
import KE.KNestM
import Wide.FinOn
import PyProof.EqAt
import PyProof.EqKinds
import PyProof.TupleCall
import PyProof.ZipIter
import PyProof.WalksMore
import PyProof.CompFree
import PyProof.NeKinds
import KE.KRevIter
import PyProof.Rows.Range3
import KE.KIntText
import OpenK.KOwn
import PyProof.NsDelKeeps
import KE.KIsAll
import PyProof.CompMap
import PyProof.Cells
import PyProof.ConsumeWalk
import PyProof.SumWalk
import PyProof.Rows.SortShell
import PyProof.MeetsStr
import PyProof.StrOps2
import PyProof.DictWalks
import PyProof.Rows.SetFrom
import PyProof.SetRoads
import PyProof.ListRange
import PyProof.ListNew
import PySem.Challenge.RW_partsmith_k20_times
local macro_rules|`(tactic|omega)=>`(tactic|lia)
local macro_rules|`(nofun)=>`(by omega)
local macro_rules|`(∅)=>`(by decide)
local macro_rules|`(↑$s)=>`(($s).heap.objs.size)
local macro_rules|`($a <|> $b)=>`(autoParam $a $b)
set_option compiler.extract_closed false
set_option Elab.async false
set_option linter.all false
set_option maxRecDepth 100000
set_option maxHeartbeats 8000000
def qa_1(h:True:=by first | exact .inl rfl | exact .inr rfl | assumption):=h
def qa_:=qa_1._auto_1
def qb_1(h:True:=by decide):=h
def qb_:=qb_1._auto_1
def qc_1(h:True:=by first | exact GR _ (by decide) (by decide) | rfl):=h
def qc_:=qc_1._auto_1
def qd_1(h:True:=by intro _;rfl):=h
def qd_:=qd_1._auto_1
def qe_1(h:True:=by rfl):=h
def qe_:=qe_1._auto_1
def qf_1(h:True:=by with_unfolding_all rfl):=h
def qf_:=qf_1._auto_1
def qg_1(h:True:=by first | exact Or.inl rfl | exact Or.inr (Or.inl rfl) | exact Or.inr (Or.inr rfl)):=h
def qg_:=qg_1._auto_1
def qh_1(h:True:=by repeat constructor):=h
def qh_:=qh_1._auto_1
def qi_1(h:True:=by first | exact Or.inl rfl | exact Or.inr rfl):=h
def qi_:=qi_1._auto_1
def qj_1(h:True:=by exact fun _ _=>rfl):=h
def qj_:=qj_1._auto_1
def qk_1(h:True:=by intro vs H Q E h;first | (obtain⟨_,rfl,_⟩:=h;rfl) | (cases h;subst_vars;rfl)):=h
def qk_:=qk_1._auto_1
def ql_1(h:True:=by decide +kernel):=h
def ql_:=ql_1._auto_1
def qm_1(h:True:=by repeat' (first | exact trivial | exact .inl rfl | exact rfl | constructor)):=h
def qm_:=qm_1._auto_1
def qn_1(h:True:=by k_is):=h
def qn_:=qn_1._auto_1
def qo_1(h:True:=by intros;rfl):=h
def qo_:=qo_1._auto_1
def za:=@List.length_map
def zd:=@List.getElem?_eq_getElem
def ze:=@decide_eq_false
def zg:=@decide_eq_true
def zh:=@List.length_append
def zj:=@List.map_cons
def zk:=@List.map_append
def zm:=@Nat.le_refl
def zp:=@List.mem_cons_of_mem
def zr:=@List.mem_cons_self
def zt:=@Int.emod_lt_of_pos
def zv:=@List.length_cons
def zw:=@Int.emod_nonneg
def zy:=@List.getElem?_eq_some_iff
def zA:=@List.mem_singleton
def zB:=@List.map_map
def zC:=@List.mem_of_getElem?
def zD:=@List.mem_cons
def zE:=@List.not_mem_nil
def zF:=@List.append_assoc
def zG:=@List.mem_append
def zH:=@List.mem_map
def zI:=@List.mem_append_right
def zJ:=@List.mem_append_left
def zK:=@List.getElem?_map
def zL:=@Bool.false_ne_true
def zM:=@Nat.le_trans
def zN:=@List.take_length
def zO:=@Bool.and_eq_true
def zP:=@List.mem_map_of_mem
def zQ:=@List.length_take
def zR:=@List.length_range
def zT:=@List.nodup_append
def zU:=@List.pairwise_append
def zV:=@List.append_nil
def zW:=@Int.ediv_nonneg
def zX:=@Int.ediv_le_self
def zY:=@List.foldl_append
def zZ:=@List.take_append_drop
def z9:=@List.getElem?_append_right
def ya:=@List.flatten_cons
def yb:=@List.size_toArray
def yc:=@Nat.lt_of_lt_of_le
def yd:=@List.nodup_cons
def ye:=@of_decide_eq_true
def yf:=@Nat.lt_irrefl
def yg:=@Nat.zero_le
def yh:=@Nat.le_of_lt
def yi:=@Nat.ne_of_gt
def yj:=@Nat.ne_of_lt
def yk:=@Option.some.inj
def ym:=@List.getElem_mem
def yn:=@List.map_nil
def yo:=@List.any_eq_true
def yp:=@List.all_eq_true
def yq:=@List.lookup_cons
def yr:=@List.length_pos_iff
def yt:=@List.length_eq_zero_iff
def yu:=@PySem.wpAny_bind
def yv:=@PySem.Heap.get?_push_of_some
def yw:=@PySem.wpAny_pure
def yx:=@PySem.Heap.get?_push_size
def yy:=@PySem.Heap.lt_size
def yz:=@PySem.Heap.get?_update_other
def yA:=@PySem.Heap.get?_update_self
abbrev yB:=PySem.W.Frag
def yC:=@PySem.sizeLine_eq
def yD:=@PySem.F.plainAttrs_list
def yE:=@PySem.F.type_list_append
def yF:=@PySem.F.slot_list_append
def yG:=@PySem.F.plainAttrs_str
def yH:=@PySem.F.type_str_join
def yI:=@PySem.F.slot_str_join
def yJ:=@PySem.F.type_str_split
def yK:=@PySem.F.slot_str_split
def yL:=@Int.eq_ofNat_of_zero_le
def yM:=@PyProof.Rows.callWith_type1
namespace L2
open PySem PySem.Spec PyProof.Rows
abbrev Key:=Sum Int Str
def C7:Key->Value->Bool
 | .inl k,v=>Value.isInt k v
 | .inr x,v=>Value.isStrOf x v
def Ux (w:World):Key->Int
 | .inl k=>hashInt k
 | .inr x=>hashStr w x
def du:∀{k:Key} {v:Value},C7 k v=true->(∃i t,k=Sum.inl i/\v=Value.int i t)\/(∃x t,k=Sum.inr x/\v=Value.str x t)
 | .inl i,v,h=>by
  obtain⟨t,e⟩:=Value.isInt_shape (k:=i) (v:=v) h;exact .inl ⟨i,t,rfl,e⟩
 | .inr x,v,h=>by
  obtain⟨t,e⟩:=Value.isStrOf_shape (x:=x) (v:=v) h;exact .inr ⟨x,t,rfl,e⟩
def Ln (i:Int) (t:Tok):C7 (.inl i) (.int i t)=true:=by simp[C7,Value.isInt]
def pR (x:Str) (t:Tok):C7 (.inr x) (.str x t)=true:=by simp[C7,Value.isStrOf]
def Rl (a b:Int):decide ((Sum.inl a:Key)=Sum.inl b)=(a == b):=by
 by_cases e:a=b
 ·subst e;simp
 ·have h:¬(Sum.inl a:Key)=Sum.inl b:=fun q=>e (Sum.inl.inj q)
  rw[ze h];exact(beq_eq_false_iff_ne.mpr e).symm
def Ri (a b:Str):decide ((Sum.inr a:Key)=Sum.inr b)=decide (a=b):=by
 by_cases e:a=b
 ·subst e;simp
 ·have h:¬(Sum.inr a:Key)=Sum.inr b:=fun q=>e (Sum.inr.inj q)
  rw[ze h,ze e]
def Rk (a:Int) (b:Str):decide ((Sum.inl a:Key)=Sum.inr b)=false:=ze (fun q=>nomatch q)
def Rj (a:Str) (b:Int):decide ((Sum.inr a:Key)=Sum.inl b)=false:=ze (fun q=>nomatch q)
def dr (prog:Program) (w:World):PySem.KeyKind prog w Key where
 is:=C7
 hash:=Ux w
 inj:=fun v a b ha hb=>by
  rcases du ha with⟨i,t,rfl,rfl⟩ | ⟨x,t,rfl,rfl⟩
  ·rcases du hb with⟨j,u,rfl,e⟩ | ⟨y,u,rfl,e⟩
   ·injection e with e1 _;rw[e1]
   ·exact nomatch e
  ·rcases du hb with⟨j,u,rfl,e⟩ | ⟨y,u,rfl,e⟩
   ·exact nomatch e
   ·injection e with e1 _;rw[e1]
 byValue:=fun k v h=>by
  rcases du h with⟨i,t,rfl,rfl⟩ | ⟨x,t,rfl,rfl⟩ <;> rfl
 pyHash:=fun hv h=>by
  rcases du hv with⟨i,t,rfl,rfl⟩ | ⟨x,t,rfl,rfl⟩
  ·exact wpAny_pyHash_int h
  ·exact wpAny_pyHash_str h
 eqBool:=fun hu hv h=>by
  rcases du hu with⟨i,t,rfl,rfl⟩ | ⟨x,t,rfl,rfl⟩
  ·rcases du hv with⟨j,u,rfl,rfl⟩ | ⟨y,u,rfl,rfl⟩
   ·rw[Rl] at h;exact wpAny_eqBool_int h
   ·rw[Rk] at h;exact SeqAt.EqAt.int_str i t y u _ _ _ _ h
  ·rcases du hv with⟨j,u,rfl,rfl⟩ | ⟨y,u,rfl,rfl⟩
   ·rw[Rj] at h;exact SeqAt.EqAt.str_int x t j u _ _ _ _ h
   ·rw[Ri] at h;exact wpAny_eqBool_str h
 «strs»:=fun k x t v h=>by
  rcases du h with⟨i,u,rfl,e⟩ | ⟨y,u,rfl,e⟩
  ·exact nomatch e
  ·injection e with e1 _
   subst e1;cases v <;> rfl
def GU (prog:Program) (w:World) (i:Int) (t:Tok):(dr prog w).is (.inl i) (.int i t)=true:=Ln i t
def wm (prog:Program) (w:World) (x:Str) (t:Tok):(dr prog w).is (.inr x) (.str x t)=true:=pR x t
end L2
namespace L2
open PySem PySem.Spec PyProof.Rows
inductive V where
 | bR | bl (b:Bool) | int (i:Int) | str (x:Str) | Ks (b:Array UInt8) | Pk (b:UInt64) | ref (a:Addr) | ty (n:String)
 deriving DecidableEq
def RelV:V->Value->Prop
 | .bR,u=>u=Value.none
 | .bl b,u=>u=Value.bool b
 | .int i,u=>∃t,u=Value.int i t
 | .str x,u=>∃t,u=Value.str x t
 | .Ks b,u=>∃t,u=Value.bytes b t
 | .Pk b,u=>∃t,u=Value.float b t
 | .ref a,u=>u=Value.ref a
 | .ty n,u=>u=Value.type n
abbrev Vals:List V->List Value->Prop:=Paired RelV
theorem Vals.length (r:Vals xs us):xs.length=us.length:=Paired.length r
theorem Vals.get:∀{xs:List V} {us:List Value} {i:Nat} {x:V},Vals xs us->xs[i]?=some x->∃u,us[i]?=some u/\RelV x u
 | _,_,_,_,.nil,e=>by simp at e
 | _,_,0,_,.cons r _,e=>by simp at e;subst e;exact⟨_,rfl,r⟩
 | _,_,i+1,x,.cons _ t,e=>by
  obtain⟨u,h1,h2⟩:=Vals.get (i:=i) (x:=x) t (by simpa using e);exact⟨u,by simpa using h1,h2⟩
theorem Vals.append:∀{xs ys:List V} {us ws:List Value},Vals xs us->Vals ys ws->Vals (xs++ys) (us++ws)
 | _,_,_,_,.nil,s=>s
 | _,_,_,_,.cons r t,s=>.cons r (Vals.append t s)
theorem Vals.take:∀{xs:List V} {us:List Value} (n:Nat),Vals xs us->Vals (xs.take n) (us.take n)
 | _,_,0,_=>.nil
 | _,_,_+1,.nil=>.nil
 | _,_,n+1,.cons r t=>.cons r (Vals.take n t)
theorem Vals.drop:∀{xs:List V} {us:List Value} (n:Nat),Vals xs us->Vals (xs.drop n) (us.drop n)
 | _,_,0,r=>r
 | _,_,_+1,.nil=>.nil
 | _,_,n+1,.cons _ t=>Vals.drop n t
def m8:Option V->Option Value->Prop
 | some v,some u=>RelV v u
 | none,none=>True
 | _,_=>False
def KV:List (κ×V)->List (κ×Value)->Prop:=Paired fun(p:κ×V) (q:κ×Value)=>p.1=q.1/\RelV p.2 q.2
def kV:Key->V
 | .inl i=>.int i
 | .inr x=>.str x
inductive HO where
 | lst (xs:List V)
 | tup (xs:List V)
 | dK (kvs:List (Key×V)) | dT (kvs:List (List Key×V))
 | set (S:Int->Bool) (n:Nat)
 | ins (C dx:Addr) (fs:List (Str×V))
 | own (x:Addr)
 | xd (fs:List (Str×V))
 | met (f x:Addr)
 | K5 (lo hi:Int)
 | oy (o:Obj) (u:HO)
 | Mt (ps:Array Value)
 | ext (φ:Heap->Prop)
abbrev Hp:=Addr->Option HO
def upd (H:Hp) (a:Addr) (o:HO):Hp:=fun b=>if b=a then some o else H b
def aC:upd H a o a=some o:=by unfold upd;rw[if_pos rfl]
def aH (h:b≠a):upd H a o b=H b:=by unfold upd;rw[if_neg h]
def bq {H:Hp} {a b:Addr} {o u:HO} (h:H a=some o) (h':H b=some u) (d:o≠u):a≠b:=by
 intro e;subst e;rw[h] at h';exact d (yk h')
def bx {H:Hp} {a b:Addr} {o:HO} (h:H a=some o) (h':H b=none):a≠b:=by
 intro e;subst e;rw[h] at h';cases h'
section
variable (P:Program) (w:World)
def cI (H:Hp) (h:Heap) (a:Addr):HO->Prop
 | .lst xs=>xs.length<=sizeLine/\∃(its:List Value) (n:Nat),Vals xs its/\h.get? a=some {cls:=.type "list",data:=.seq its.toArray n}
 | .tup xs=>xs.length<=sizeLine/\∃its:List Value,Vals xs its/\IsTup h a its.toArray
 | .dK kvs=>kvs.length<=sizeLine/\(a == sysModules)=false/\∃vs,KV kvs vs/\h.DictOf (dr P w) a vs
 | .dT kvs=>kvs.length<=sizeLine/\(a == sysModules)=false/\∃xs:List (List Key×Addr×Value),
   Paired (fun(p:List Key×V) (q:List Key×Addr×Value)=>p.1=q.1/\H q.2.1=some (.tup (p.1.map kV))/\RelV p.2 q.2.2) kvs xs/\
   ∃o es ep,h.get? a=some o/\o.ExactDict/\o.data=.dict es ep/\es.toList=xs.map (entryOfKey (tupleKind (dr P w)))/\(xs.map (·.1)).Nodup
 | .set S n=>h.SetOf (intKind P w) a S n
 | .ins C dx fs=>H dx=some (.own a)/\fs.length<=1000/\dx≠a/\h.get? a=some (PySem.W.instObj C dx)/\
   ∃mA,h.Ns1 dx mA/\(∀f,m8 (fs.lookup f) (mA f))/\PySem.Within mA (fs.map (·.1))
 | .own _=>∃o,h.get? a=some o
 | .xd fs=>∃mA,h.Ns1 a mA/\∀f,m8 (fs.lookup f) (mA f)
 | .K5 lo hi=>∃t u v,h.get? a=some {cls:=.type "range",data:=.fields #[.int lo t,.int hi u,.int 1 v]}
 | .oy o u=>h.get? a=some o/\cI H h a u
 | .Mt ps=>h.get? a=some {cls:=.none,data:=.fields ps}
 | .met f x=>h.get? a=some (PySem.W.methodObj (.ref f) (.ref x))
 | .ext φ=>φ h/\(∃o,h.get? a=some o)/\∀h1 h2:Heap,φ h1->(∀o,h1.get? a=some o->h2.get? a=some o)->φ h2
def si (H:Hp) (h:Heap):Prop:=∀a o,H a=some o->cI P w H h a o
end
section
variable {P:Program} {w:World} {H H':Hp} {h h':Heap} {a:Addr} {o:HO}
theorem cI.lt (x:cI P w H h a o):a<h.objs.size:=by
 cases o with
 | lst xs=>obtain⟨_,_,_,_,e⟩:=x;exact yy e
 | tup xs=>obtain⟨_,_,_,p⟩:=x;exact p.lt
 | dK kvs=>obtain⟨_,_,_,_,o,_,_,e,_⟩:=x;exact yy e
 | dT kvs=>obtain⟨_,_,_,_,o,_,_,e,_⟩:=x;exact yy e
 | set S n=>obtain⟨o,_,_,_,e,_⟩:=x;exact yy e
 | ins C dx fs=>obtain⟨_,_,_,e,_⟩:=x;exact yy e
 | own y=>obtain⟨_,e⟩:=x;exact yy e
 | xd fs=>obtain⟨_,⟨_,_,_,e,_⟩,_⟩:=x;exact yy e
 | K5 lo hi=>obtain⟨_,_,_,e⟩:=x;exact yy e
 | oy ob u=>obtain⟨e,_⟩:=x;exact yy e
 | Mt ps=>exact yy (show h.get? a=some _ from x)
 | met f y=>exact yy (show h.get? a=some _ from x)
 | ext φ=>obtain⟨_,⟨_,e⟩,_⟩:=x;exact yy e
theorem Paired.Rc:∀{l₁:List α} {l₂:List β},Paired F l₁ l₂->(∀a b,F a b->G a b)->Paired G l₁ l₂
 | _,_,.nil,_=>.nil
 | _,_,.cons r t,f=>.cons (f _ _ r) (Paired.Rc t f)
def cI.mn (x:cI P w H h a o) (k:∀b u,(b=a\/H b=some (.own a))->h.get? b=some u->h'.get? b=some u)
  (ho:∀b,H b=some (.own a)->H' b=some (.own a)) (ht:∀b xs,H b=some (.tup xs)->H' b=some (.tup xs)):cI P w H' h' a o:=by
 induction o with
 | lst xs=>obtain⟨z,its,n,r,e⟩:=x;exact⟨z,its,n,r,k _ _ (.inl rfl) e⟩
 | tup xs=>obtain⟨z,its,r,ob,e,c⟩:=x;exact⟨z,its,r,ob,k _ _ (.inl rfl) e,c⟩
 | dK kvs=>obtain⟨z,y,vs,r,ob,es,ep,e,c⟩:=x;exact⟨z,y,vs,r,ob,es,ep,k _ _ (.inl rfl) e,c⟩
 | dT kvs=>
  obtain⟨z,y,xs,r,ob,es,ep,e,c⟩:=x;exact⟨z,y,xs,Paired.Rc r fun p q z=>⟨z.1,ht _ _ z.2.1,z.2.2⟩,ob,es,ep,k _ _ (.inl rfl) e,c⟩
 | set S n=>obtain⟨ob,es,ep,t,e,c⟩:=x;exact⟨ob,es,ep,t,k _ _ (.inl rfl) e,c⟩
 | ins C dx fs=>
  obtain⟨d,z,ne,e,mA,⟨od,es,ep,e2,c⟩,r⟩:=x;exact⟨ho _ d,z,ne,k _ _ (.inl rfl) e,mA,⟨od,es,ep,k _ _ (.inr d) e2,c⟩,r⟩
 | own y=>obtain⟨ob,e⟩:=x;exact⟨ob,k _ _ (.inl rfl) e⟩
 | xd fs=>obtain⟨mA,⟨od,es,ep,e,c⟩,r⟩:=x;exact⟨mA,⟨od,es,ep,k _ _ (.inl rfl) e,c⟩,r⟩
 | K5 lo hi=>obtain⟨t,u,v,e⟩:=x;exact⟨t,u,v,k _ _ (.inl rfl) e⟩
 | oy ob u ih=>obtain⟨e,q⟩:=x;exact⟨k _ _ (.inl rfl) e,ih q⟩
 | Mt ps=>
  have e:h.get? a=some {cls:=.none,data:=.fields ps}:=x;show h'.get? a=some {cls:=.none,data:=.fields ps};exact k a _ (.inl rfl) e
 | met f y=>
  have e:h.get? a=some (PySem.W.methodObj (.ref f) (.ref y)):=x;show h'.get? a=some (PySem.W.methodObj (.ref f) (.ref y));exact k a _ (.inl rfl) e
 | ext φ=>obtain⟨p,⟨o,e⟩,st⟩:=x;exact⟨st _ _ p fun o q=>k _ _ (.inl rfl) q,⟨o,k _ _ (.inl rfl) e⟩,st⟩
theorem si.lt (x:si P w H h) (e:H a=some o):a<h.objs.size:=(x a o e).lt
def si.fresh (x:si P w H h) (e:h.objs.size<=a):H a=none:=by
 cases q:H a with
 | none=>rfl
 | some u=>exact absurd (yc (x.lt q) e) (yf _)
def si.kept (x:si P w H h) (k:∀b u,h.get? b=some u->h'.get? b=some u):si P w H h':=fun a o e=>
 (x a o e).mn (fun b u _ q=>k b u q) (fun _ q=>q) fun _ _ q=>q
def si.laid (x:si P w H h) (k:∀b u,h.get? b=some u->h'.get? b=some u) (hp:h.objs.size<=a) (new:cI P w (upd H a o) h' a o):si P w (upd H a o) h':=fun b u e=>by
 have hn:=x.fresh hp
 by_cases hb:b=a
 ·subst hb;rw[aC] at e;cases e;exact new
 ·rw[aH hb] at e
  exact(x b u e).mn (fun c v _ q=>k c v q) (fun c q=>by rw[aH (bx q hn)];exact q) fun c xs q=>by rw[aH (bx q hn)];exact q
end
def Rd (H:Hp) (a:Addr) (u:HO):Prop:=H a=some u\/∃o,H a=some (.oy o u)
def Rd.ok (r:Rd H a u) (x:si P w H h):cI P w H h a u:=by
 rcases r with r | ⟨o,r⟩
 ·exact x a u r
 ·obtain⟨_,q⟩:=x a _ r
  exact q
def S6:Option HO->Prop
 | some (.lst _)=>True
 | some (.dK _)=>True
 | some (.dT _)=>True
 | some (.set _ _)=>True
 | some (.ins _ _ _)=>True
 | some (.ext _)=>True
 | _=>False
section
variable {P:Program} {w:World} {H:Hp} {h h':Heap} {x e:Addr} {o':HO}
def si.write (ok:si P w H h) (mu:S6 (H x)) (he:e=x\/H e=some (.own x)) (k:∀b u,b≠e->h.get? b=some u->h'.get? b=some u) (heo:∃u,h'.get? e=some u)
  (new:cI P w (upd H x o') h' x o'):si P w (upd H x o') h':=fun b u q=>by
 have nown:∀c y,H c=some (.own y)->c≠x:=fun c y r z=>by subst z;rw[r] at mu;exact mu
 have ntup:∀c xs,H c=some (.tup xs)->c≠x:=fun c xs r z=>by subst z;rw[r] at mu;exact mu
 by_cases hb:b=x
 ·subst hb;rw[aC] at q;cases q;exact new
 ·rw[aH hb] at q
  by_cases hbe:b=e
  ·have q':H b=some (.own x):=by
    rcases he with z | z
    ·exact absurd (hbe.trans z) hb
    ·rw[hbe];exact z
   rw[q] at q';cases q';obtain⟨v,hv⟩:=heo;exact⟨v,by rw[hbe];exact hv⟩
  ·refine(ok b u q).mn (fun c v hc r=>k c v ?_ r) (fun c r=>by rw[aH (nown c b r)];exact r) fun c xs r=>by rw[aH (ntup c xs r)];exact r
   rcases hc with rfl | hc
   ·exact hbe
   ·rintro rfl
    rcases he with z | z
    ·exact nown c b hc z
    ·rw[hc] at z;cases z;exact hb rfl
end
structure Un (fs ex:List Addr) (H H':Hp) (h h':Heap):Prop where
 keep:∀b o,h.get? b=some o->H b=none->b∉fs->b∉ex->h'.get? b=some o
 slot:∀b o,h.get? b=some o->H b=none->b∈fs->b∉ex->∃sl,h'.get? b=some {o with slots:=sl}
 free:∀b o,h.get? b=some o->H b=none->b∉ex->H' b=none
 there:∀b o,h.get? b=some o->b∉ex->∃o',h'.get? b=some o'
 pX:∀b xs,H b=some (.tup xs)->H' b=some (.tup xs)
 om:∀b o u,H b=some (.oy o u)->H' b=some (.oy o u)
 pY:∀b ps,H b=some (.Mt ps)->∃more,H' b=some (.Mt (ps++more))
section
variable {fs fs' ex ex':List Addr} {H H1 H2:Hp} {h h1 h2 h':Heap} {a x e:Addr} {o:HO}
def Un.any (u:Un fs ex H H1 h h1) (q:h.get? b=some ob) (n:H b=none) (hx:b∉ex):∃sl,h1.get? b=some {ob with slots:=sl}:=by
 by_cases hb:b∈fs
 ·exact u.slot b ob q n hb hx
 ·exact⟨ob.slots,u.keep b ob q n hb hx⟩
def Un.kept (k:∀b u,h.get? b=some u->h'.get? b=some u):Un fs ex H H h h':=
 ⟨fun b ob q _ _ _=>k b ob q,fun b ob q _ _ _=>⟨ob.slots,k b ob q⟩,fun _ _ _ n _=>n,fun b ob q _=>⟨ob,k b ob q⟩,fun _ _ q=>q,fun _ _ _ q=>q,fun _ ps q=>⟨#[],by rw[q];simp⟩⟩
def Un.refl:Un fs ex H H h h:=Un.kept fun _ _ q=>q
def Un.laid (k:∀b u,h.get? b=some u->h'.get? b=some u) (hp:h.objs.size<=a) (hn:H a=none):Un fs ex H (upd H a o) h h' where
 keep:=fun b u q _ _ _=>k b u q
 slot:=fun b u q _ _ _=>⟨u.slots,k b u q⟩
 free:=fun b u q n _=>by rw[aH (yj (yc (yy q) hp))];exact n
 there:=fun b u q _=>⟨u,k b u q⟩
 pX:=fun b xs q=>by rw[aH (bx q hn)];exact q
 om:=fun b u xs q=>by rw[aH (bx q hn)];exact q
 pY:=fun b ps q=>⟨#[],by rw[aH (bx q hn),q];simp⟩
def Un.write (mu:S6 (H x)) (he:e=x\/H e=some (.own x)) (k:∀b u,b≠e->h.get? b=some u->h'.get? b=some u) (heo:∃u,h'.get? e=some u):Un fs ex H (upd H x o) h h':=by
 have hx:∀b,H b=none->b≠x:=fun b n z=>by subst z;rw[n] at mu;exact mu
 have hb:∀b,H b=none->b≠e:=fun b n z=>by
  subst z;rcases he with r | r
  ·exact hx b n r
  ·rw[n] at r;cases r
 have hm:∀b u,H b=some u->¬S6 (some u)->b≠x:=fun b u q nm z=>by subst z;rw[q] at mu;exact nm mu
 refine⟨fun b u q n _ _=>k b u (hb b n) q,fun b u q n _ _=>⟨u.slots,k b u (hb b n) q⟩,fun b u q n _=>by rw[aH (hx b n)];exact n,fun b u q _=>?_,
  fun b xs q=>by rw[aH (hm b _ q fun z=>z)];exact q,fun b u xs q=>by rw[aH (hm b _ q fun z=>z)];exact q,fun b ps q=>⟨#[],by rw[aH (hm b _ q fun z=>z),q];simp⟩⟩
 by_cases hbe:b=e
 ·subst hbe;exact heo
 ·exact⟨u,k b u hbe q⟩
end
def Ti (h:Heap) (H:Hp):List Addr:=(List.range h.objs.size).filter fun a=>(H a).isSome
def EH (h:Heap) (H:Hp):Heap:=PySem.W.hideAll h (Ti h H)
def Lu (h:Heap) (H:Hp):(EH h H).objs.size=h.objs.size:=PySem.W.hideAll_size _ _
def NF (e:h.get? b=some o) (n:H b=none):(EH h H).get? b=some o:=
 PySem.W.hideAll_get _ e fun hm=>by
  have q:(H b).isSome=true:=(List.mem_filter.mp hm).2;rw[n] at q;simp at q
def O8 (e:(EH h H).get? b=some o):h.get? b=some o/\H b=none:=by
 have e':h.get? b=some o:=PySem.W.of_hideAll (Ti h H) e;refine⟨e',?_⟩;cases q:H b with
 | none=>rfl
 | some x=>
  have hm:b∈Ti h H:=List.mem_filter.mpr ⟨List.mem_range.mpr (yy e'),by simp[q]⟩;have z:(EH h H).get? b=none:=PySem.W.hideAll_none (Ti h H) hm;rw[z] at e;cases e
end L2
namespace L2
open PySem PySem.Spec PyProof.Rows
structure Mod (K:yB) (mg:Str->Option Value) (base:Heap):Prop where
 Rh:K.In base
 glob:base.Ns mainGlobals mg
 blt:∃mb,base.Ns builtinsNs mb/\∀x:Str,x≠ "__name__"->mb x=bootBuiltins x
 nolimit:base.NoLimit
set_option genInjectivity false in
structure Cx where
 prog:Program
 w:World
 K:yB
 mg:Str->Option Value
 base:Heap
 A:Around
 N:List Str
 s₀:Shared
 H₀:Hp
 env:Env
 outer:List Env
 stack:List Env
 ex:List Addr
 fn:Str->Bool
 calm:Bool
 pn:List (Addr×Obj)
 xe:Value->Shared->Prop
def qR (l:List Env):List Addr:=l.filterMap (·.frame)
abbrev Cx.fs (X:Cx):List Addr:=qR X.outer
def RI (sc:Scope) (x:Str):Prop:=sc.names.lookup x=some .local\/sc.names.lookup x=some .cell\/sc.names.lookup x=some .free
def Loc (sc:Scope) (x:Str):Prop:=sc.names.lookup x=some .local\/sc.names.lookup x=some .cell
def Look (env:Env) (h:Heap) (m:Str->Option Value) (x:Str) (u:Value):Prop:=
 (env.kindOf x=some .local/\m x=some u)\/((env.kindOf x=some .cell\/env.kindOf x=some .free)/\∃c,env.cells.lookup x=some c/\h.IsCell c (some u))
structure Cx.Ok (X:Cx):Prop where
 mod:Mod X.K X.mg X.base
 kind:X.env.scope.kind=.function
 glob:X.env.globals=mainGlobals
 blt:X.env.builtins=builtinsNs
 above:X.s₀.heap.objs.size<=X.env.locals
 inj:∀x y c,X.env.cells.lookup x=some c->X.env.cells.lookup y=some c->x=y
 has:∀x,(X.env.kindOf x=some .cell\/X.env.kindOf x=some .free)->∃c,X.env.cells.lookup x=some c
 RF:∀x c,X.fn x=true->X.env.cells.lookup x=some c->X.s₀.heap.objs.size<=c
 hd:X.calm=true->X.A.handled=none
 frames:X.A.frames=some X.stack
 RS:X.stack=X.outer\/(X.stack=X.env::X.outer/\X.env.frame=some X.env.locals)
 Tp:∀b∈X.ex,b≠X.env.locals/\∀x c,X.env.cells.lookup x=some c->c≠b
 bs:∀b o,X.base.get? b=some o->X.s₀.heap.get? b=some o/\X.H₀ b=none
 L9:X.base.objs.size<=X.s₀.heap.objs.size
 xg:∀b o,X.base.get? b=some o->b∉X.ex
 Jf:∀b∈X.ex,b∉X.fs
 qo:X.s₀.heap.FunFrames X.base X.outer
 G5:∀b∈X.fs,X.H₀ b=none
structure Inv (X:Cx) (pins:List (Addr×Obj)) (σ:List (Option V)) (H:Hp) (s:Shared):Prop where
 ok:X.Ok
 os:s.os=X.s₀.os
 bare:AllBare s.gens
 base:Un X.fs X.ex X.H₀ H X.s₀.heap s.heap
 loc:∃m,s.heap.Ns X.env.locals m/\∀(i:Nat) (x:Str) (v:V),X.N[i]?=some x->σ[i]?=some (some v)->RI X.env.scope x->∃u,RelV v u/\Look X.env s.heap m x u
 cell:∀x c,X.env.cells.lookup x=some c->∃v,s.heap.IsCell c v
 free:H X.env.locals=none
 kM:∀x c,X.env.cells.lookup x=some c->H c=none
 pin:∀p∈X.pn++pins,s.heap.get? p.1=some p.2/\H p.1=none/\p.1≠X.env.locals/\p.1∉X.fs/\∀v,p.2.data≠.cell v
 cm:si X.prog X.w H s.heap
 len:σ.length=X.N.length
section
variable {X:Cx} {pins:List (Addr×Obj)} {σ:List (Option V)} {H H':Hp} {s:Shared} {h':Heap}
def Cx.Ok.Uv (ok:X.Ok) (e:X.base.get? b=some o):b∉X.fs:=fun hb=>by
 have:=(ok.qo.mem hb).1;rw[e] at this;cases this
theorem Inv.bs (I:Inv X pins σ H s):∀b o,X.base.get? b=some o->s.heap.get? b=some o/\H b=none:=fun b o e=>
 ⟨I.base.keep b o (I.ok.bs b o e).1 (I.ok.bs b o e).2 (I.ok.Uv e) (I.ok.xg b o e),I.base.free b o (I.ok.bs b o e).1 (I.ok.bs b o e).2 (I.ok.xg b o e)⟩
def Inv.bk (I:Inv X pins σ H s):∀b o,X.base.get? b=some o->s.heap.get? b=some o:=fun b o e=>(I.bs b o e).1
theorem Inv.mod (I:Inv X pins σ H s):Mod X.K X.mg X.base:=I.ok.mod
def Inv.tW (I:Inv X pins σ H s):X.K.In s.heap:=I.ok.mod.Rh.keeps I.bk
theorem Inv.lt (I:Inv X pins σ H s):X.env.locals<↑s:=let ⟨_,hn,_⟩:=I.loc;hn.lt
def Inv.sz (I:Inv X pins σ H s):X.s₀.heap.objs.size<=↑s:=zM I.ok.above (yh I.lt)
def Inv.Ss (I:Inv X pins σ H s) (h:↑s<=a):a∉X.fs:=fun hb=>by
 obtain⟨_,o,ho,_⟩:=I.ok.qo.mem hb;exact absurd (yc (yy ho) (zM I.sz h)) (yf _)
def Inv.Ot (I:Inv X pins σ H s):∀x c,X.env.cells.lookup x=some c->c≠X.env.locals:=fun x c e z=>by
 obtain⟨v,o,ho,hd⟩:=I.cell x c e;obtain⟨m,⟨o',es,ep,ho',hd',_⟩,_⟩:=I.loc;rw[z,ho'] at ho;cases ho;rw[hd'] at hd;cases hd
theorem Inv.qo (I:Inv X pins σ H s):s.heap.FunFrames X.base X.outer:=by
 have all:∀(l:List Env),(∀b∈qR l,b∈X.fs)->X.s₀.heap.FunFrames X.base l->s.heap.FunFrames X.base l:=by
  intro l
  induction l with
  | nil=>intro _ _;trivial
  | cons env r ih=>
   intro hs hl;obtain⟨hk,⟨L,o,hf,hn,ho,hd⟩,hr⟩:=hl;have hL:L∈X.fs:=hs L (by unfold qR;rw[List.filterMap_cons,hf];exact zr);obtain⟨sl,e⟩:=I.base.slot L o ho (I.ok.G5 L hL) hL fun z=>I.ok.Jf L z hL;exact⟨hk,⟨L,_,hf,hn,e,hd⟩,ih (fun b hb=>hs b (by unfold qR;rw[List.filterMap_cons,hf];exact zp _ hb)) hr⟩
 exact all X.outer (fun _ hb=>hb) I.ok.qo
theorem Inv.stack (I:Inv X pins σ H s):s.heap.FunFrames X.base X.stack:=by
 rcases I.ok.RS with e | ⟨e,hf⟩
 ·rw[e];exact I.qo
 ·rw[e]
  obtain⟨m,hn,_⟩:=I.loc;refine .cons (by rw[I.ok.kind];decide) hf hn ?_ I.qo;exact Heap.get?_none_of_le (zM I.ok.L9 I.ok.above)
def Inv.DL (I:Inv X pins σ H s):∀b∈qR X.stack,b∈X.env.locals::X.fs:=fun b hb=>by
 rcases I.ok.RS with e | ⟨e,hf⟩
 ·rw[e] at hb;exact zp _ hb
 ·rw[e] at hb
  unfold qR at hb;rw[List.filterMap_cons,hf] at hb;exact hb
def Inv.su (I:Inv X pins σ H s):∀b∈qR X.stack,H b=none:=fun b hb=>by
 rcases zD.mp (I.DL b hb) with e | hb
 ·rw[e];exact I.free
 ·obtain⟨_,o,ho,_⟩:=I.ok.qo.mem hb
  exact I.base.free b o ho (I.ok.G5 b hb) fun z=>I.ok.Jf b z hb
def Inv.step {g':Array GenState} {t':Nat} {d':Drawn} {ch:List Addr} (I:Inv X pins σ H s)
  (hch:∀b∈ch,(b∈X.ex\/X.s₀.heap.objs.size<=b)/\b≠X.env.locals/\(∀x c,X.env.cells.lookup x=some c->c≠b)/\∀p∈X.pn++pins,p.1≠b)
  (keep:∀b o,b≠X.env.locals->b∉X.fs->b∉ch->s.heap.get? b=some o->H b=none->h'.get? b=some o)
  (slot:∀b o,b≠X.env.locals->b∈X.fs->b∉ch->s.heap.get? b=some o->H b=none->∃sl,h'.get? b=some {o with slots:=sl}) (free:∀b o,b∉ch->s.heap.get? b=some o->H b=none->H' b=none)
  (there:∀b o,b∉ch->s.heap.get? b=some o->∃o',h'.get? b=some o')
  (pX:∀b xs,H b=some (.tup xs)->H' b=some (.tup xs)) (om:∀b o u,H b=some (.oy o u)->H' b=some (.oy o u)) (pY:∀b ps,H b=some (.Mt ps)->∃more,H' b=some (.Mt (ps++more)))
  (ns:∀m,s.heap.Ns X.env.locals m->h'.Ns X.env.locals m) (cm:si X.prog X.w H' h') (hg:AllBare g') :
  Inv X pins σ H' {s with heap:=h',gens:=g',drawn:=d',toks:=t'}:=by
 have neL:∀b o,X.s₀.heap.get? b=some o->b≠X.env.locals:=fun b o e=>yj (yc (yy e) I.ok.above);have neC:∀b o,X.s₀.heap.get? b=some o->b∉X.ex->b∉ch:=fun b o e hx hb=>by
  rcases(hch b hb).1 with z | z
  ·exact hx z
  ·exact absurd (yc (yy e) z) (yf _)
 have cellK:∀x c,X.env.cells.lookup x=some c->∀v,s.heap.IsCell c v->h'.IsCell c v:=fun x c e v ⟨o,ho,hd⟩=>by
  have nch:c∉ch:=fun z=>(hch c z).2.2.1 x c e rfl
  by_cases hc:c∈X.fs
  ·obtain⟨sl,q⟩:=slot c o (I.Ot x c e) hc nch ho (I.kM x c e)
   exact⟨_,q,hd⟩
  ·exact⟨o,keep c o (I.Ot x c e) hc nch ho (I.kM x c e),hd⟩
 refine⟨I.ok,I.os,hg,⟨fun b o e n hb hx=>?_,fun b o e n hb hx=>?_,fun b o e n hx=>?_,fun b o e hx=>?_,fun b xs e=>pX b xs (I.base.pX b xs e),fun b o xs e=>om b o xs (I.base.om b o xs e),fun b ps e=>?_⟩,?_,fun x c e=>?_,?_,fun x c e=>?_,fun p hp=>?_,cm,I.len⟩
 ·exact keep b o (neL b o e) hb (neC b o e hx) (I.base.keep b o e n hb hx) (I.base.free b o e n hx)
 ·obtain⟨sl,e1⟩:=I.base.slot b o e n hb hx
  obtain⟨sl',e2⟩:=slot b _ (neL b o e) hb (neC b o e hx) e1 (I.base.free b o e n hx);exact⟨sl',e2⟩
 ·obtain⟨o',e1⟩:=I.base.there b o e hx
  exact free b o' (neC b o e hx) e1 (I.base.free b o e n hx)
 ·obtain⟨o',e1⟩:=I.base.there b o e hx
  exact there b o' (neC b o e hx) e1
 ·obtain⟨m1,e1⟩:=I.base.pY b ps e
  obtain⟨m2,e2⟩:=pY b _ e1;exact⟨m1++m2,by rw[e2,Array.append_assoc]⟩
 ·obtain⟨m,hn,hl⟩:=I.loc
  refine⟨m,ns m hn,fun i x v e1 e2 e3=>?_⟩;obtain⟨u,r,l⟩:=hl i x v e1 e2 e3;refine⟨u,r,?_⟩;rcases l with l | ⟨k,c,e,z⟩
  ·exact .inl l
  ·exact .inr ⟨k,c,e,cellK x c e _ z⟩
 ·obtain⟨v,z⟩:=I.cell x c e
  exact⟨v,cellK x c e v z⟩
 ·obtain⟨m,⟨o,_,_,ho,_⟩,_⟩:=I.loc
  exact free _ o (fun z=>(hch _ z).2.1 rfl) ho I.free
 ·obtain⟨v,o,ho,hd⟩:=I.cell x c e
  exact free c o (fun z=>(hch c z).2.2.1 x c e rfl) ho (I.kM x c e)
 ·obtain⟨e,n,ne,nf,d⟩:=I.pin p hp
  have nch:p.1∉ch:=fun z=>(hch p.1 z).2.2.2 p hp rfl;exact⟨keep p.1 p.2 ne nf nch e n,free p.1 p.2 nch e n,ne,nf,d⟩
def Inv.un {t':Nat} (I:Inv X pins σ H s) (u:Un X.fs [] H H' s.heap h') (cm:si X.prog X.w H' h'):Inv X pins σ H' {s with heap:=h',toks:=t'}:=by
 obtain⟨m,⟨o,es,ep,ho,r⟩,_⟩:=id I.loc;obtain⟨sl,hL⟩:=u.any ho I.free (by simp);exact I.step (g':=s.gens) (d':=s.drawn) (ch:=[]) (fun _ z=>nomatch z) (fun b o _ hb _ e n=>u.keep b o e n hb (by simp)) (fun b o _ hb _ e n=>u.slot b o e n hb (by simp)) (fun b o _ e n=>u.free b o e n (by simp)) (fun b o _ e=>u.there b o e (by simp)) u.pX u.om u.pY (fun m' hm=>by
  obtain⟨o',es',ep',ho',r'⟩:=hm;rw[ho] at ho';cases ho';exact⟨_,es',ep',hL,r'⟩) cm I.bare
def Inv.call {g':Array GenState} {t':Nat} {d':Drawn} {ch:List Addr} (I:Inv X pins σ H s) (u:Un (qR X.stack) ch H H' s.heap h') (cm:si X.prog X.w H' h') (hg:AllBare g')
  (hch:∀b∈ch,(b∈X.ex\/X.s₀.heap.objs.size<=b)/\b≠X.env.locals/\(∀x c,X.env.cells.lookup x=some c->c≠b)/\∀p∈X.pn++pins,p.1≠b) :
  Inv X pins σ H' {s with heap:=h',gens:=g',drawn:=d',toks:=t'}:=by
 obtain⟨m,⟨o,es,ep,ho,r⟩,_⟩:=id I.loc;obtain⟨sl,hL⟩:=u.any ho I.free fun z=>(hch _ z).2.1 rfl;exact I.step (ch:=ch) hch (fun b o hL hb hc e n=>u.keep b o e n (fun z=>(zD.mp (I.DL b z)).elim hL hb) hc) (fun b o _ _ hc e n=>u.any e n hc) (fun b o hc e n=>u.free b o e n hc) (fun b o hc e=>u.there b o e hc) u.pX u.om u.pY (fun m' hm=>by
  obtain⟨o',es',ep',ho',r'⟩:=hm;rw[ho] at ho';cases ho';exact⟨_,es',ep',hL,r'⟩) cm hg
def Inv.turned {t':Nat} {it:Addr} (I:Inv X pins σ H s) (k:∀b o,b≠it->s.heap.get? b=some o->h'.get? b=some o) (hn:H it=none) (hL:it≠X.env.locals)
  (h1:it∈X.ex\/X.s₀.heap.objs.size<=it) (h2:∀x c,X.env.cells.lookup x=some c->c≠it) (h3:∀p∈X.pn++pins,p.1≠it):Inv X pins σ H {s with heap:=h',toks:=t'}:=by
 have nit:∀b u,H b=some u->b≠it:=fun b u e z=>by rw[z,hn] at e;cases e
 refine I.step (g':=s.gens) (d':=s.drawn) (ch:=[it]) (fun b hb=>?_) (fun b o _ _ hc e _=>k b o (fun z=>hc (by simp[z])) e) (fun b o _ _ hc e _=>⟨o.slots,k b o (fun z=>hc (by simp[z])) e⟩) (fun _ _ _ _ n=>n)
  (fun b o hc e=>⟨o,k b o (fun z=>hc (by simp[z])) e⟩) (fun _ _ e=>e) (fun _ _ _ e=>e) (fun b ps e=>⟨#[],by rw[e];simp⟩) (fun m hm=>?_) (fun b u e=>?_) I.bare
 ·have e:b=it:=by simpa using hb
  subst e;exact⟨h1,hL,h2,h3⟩
 ·obtain⟨o,es,ep,ho,r⟩:=hm
  exact⟨o,es,ep,k _ o (Ne.symm hL) ho,r⟩
 ·refine(I.cm b u e).mn (fun c v hc q=>k c v ?_ q) (fun _ q=>q) fun _ _ q=>q
  rcases hc with z | z
  ·rw[z];exact nit b u e
  ·exact nit c _ z
def Inv.tok (I:Inv X pins σ H s) (t:Nat):Inv X pins σ H {s with toks:=t}:=I.un (h':=s.heap) (t':=t) Un.refl I.cm
theorem Inv.kept (I:Inv X pins σ H s) (k:∀b u,s.heap.get? b=some u->h'.get? b=some u):Inv X pins σ H {s with heap:=h',toks:=t'}:=I.un (Un.kept k) (I.cm.kept k)
theorem Inv.laid (I:Inv X pins σ H s) (k:∀b u,s.heap.get? b=some u->h'.get? b=some u) (hp:↑s<=a) (new:cI X.prog X.w (upd H a o) h' a o) :
  Inv X pins σ (upd H a o) {s with heap:=h',toks:=t'}:=I.un (Un.laid k hp (I.cm.fresh hp)) (I.cm.laid k hp new)
theorem Inv.write (I:Inv X pins σ H s) (mu:S6 (H x)) (he:e=x\/H e=some (.own x)) (k:∀b u,b≠e->s.heap.get? b=some u->h'.get? b=some u) (heo:∃u,h'.get? e=some u)
  (new:cI X.prog X.w (upd H x o) h' x o):Inv X pins σ (upd H x o) {s with heap:=h',toks:=t'}:=I.un (Un.write mu he k heo) (I.cm.write mu he k heo new)
def Inv.pM (I:Inv X pins σ H s) (h:∀p∈pins',s.heap.get? p.1=some p.2/\H p.1=none/\p.1≠X.env.locals/\p.1∉X.fs/\∀v,p.2.data≠.cell v):Inv X pins' σ H s:=
 ⟨I.ok,I.os,I.bare,I.base,I.loc,I.cell,I.free,I.kM,fun p hp=>(zG.mp hp).elim (fun z=>I.pin p (zJ _ z)) (h p),I.cm,I.len⟩
def GP {N:List Str} (hN:N.Nodup) {i j:Nat} {x:Str} (a:N[i]?=some x) (b:N[j]?=some x):i=j:=by
 obtain⟨h1,e1⟩:=zy.mp a;obtain⟨h2,e2⟩:=zy.mp b;exact(List.getElem_inj hN).mp (e1.trans e2.symm)
def CP {M:Model} {A:Around} {E:Value->Shared->Prop} {i:Nat} {x:Str} {v:V} {u:Value} {Q:Unit->Shared->Prop} (I:Inv X pins σ H s) (hN:X.N.Nodup) (hi:X.N[i]?=some x) (hx:Loc X.env.scope x) (r:RelV v u)
  (h:∀s',Inv X pins (σ.set i (some v)) H s'->(∃a,Heap.SameBut a s.heap s'.heap/\(a=X.env.locals\/X.env.cells.lookup x=some a))->Q () s') (hf:X.fn x=true\/X.env.scope.names.lookup x=some .local<|>qa_):wpAny M A (storeName X.env x u) Q E s:=by
 obtain⟨m,hn,hl⟩:=id I.loc;have hcls:(X.env.scope.kind == .class||(X.env.scope.kind == .module&&X.env.locals != X.env.globals))=false:=by rw[I.ok.kind];rfl
 have hiσ:i<σ.length:=by rw[I.len];exact(zy.mp hi).1
 have Ot:=I.Ot;have tracked:∀{a:Addr} {h':Heap},(∃o,s.heap.get? a=some o/\H a=none)->Heap.SameBut a s.heap h'->si X.prog X.w H h':=fun {a h'} ha hs b ob e=>by
  obtain⟨_,_,hfree⟩:=ha;refine(I.cm b ob e).mn (fun c w' hc q=>(hs.2 c ?_).trans q) (fun _ q=>q) fun _ _ q=>q;rintro rfl;rcases hc with rfl | hc
  ·rw[hfree] at e;cases e
  ·rw[hfree] at hc;cases hc
 rcases hx with hk | hk
 ·refine wpAny_storeName_local hk hn (fun h' hn' hs=>?_) hcls
  obtain⟨oL,_,_,hoL,_⟩:=id hn;refine h _ ⟨I.ok,I.os,I.bare,⟨fun b o e n hb hx=>?_,fun b o e n hb hx=>?_,I.base.free,fun b o e hx=>?_,I.base.pX,I.base.om,I.base.pY⟩,⟨_,hn',fun j y v' e1 e2 e3=>?_⟩,fun y c e=>?_,I.free,I.kM,fun p hp=>?_,tracked ⟨oL,hoL,I.free⟩ hs,by simpa using I.len⟩ ⟨_,hs,.inl rfl⟩
  ·exact(hs.2 b (yj (yc (yy e) I.ok.above))).trans (I.base.keep b o e n hb hx)
  ·obtain⟨sl,e1⟩:=I.base.slot b o e n hb hx
   exact⟨sl,(hs.2 b (yj (yc (yy e) I.ok.above))).trans e1⟩
  ·obtain⟨o',e1⟩:=I.base.there b o e hx
   exact⟨o',(hs.2 b (yj (yc (yy e) I.ok.above))).trans e1⟩
  ·by_cases hj:j=i
   ·subst hj
    rw[hi] at e1;cases e1;rw[List.getElem?_set_self hiσ] at e2;cases e2;exact⟨u,r,.inl ⟨hk,by simp⟩⟩
   ·rw[List.getElem?_set_ne (Ne.symm hj)] at e2
    obtain⟨u',r',q⟩:=hl j y v' e1 e2 e3;refine⟨u',r',?_⟩;rcases q with⟨k,e⟩ | ⟨k,c,e,z⟩
    ·refine .inl ⟨k,?_⟩
     have:y≠x:=fun e=>hj (GP hN e1 (e▸hi));simp[this,e]
    ·exact .inr ⟨k,c,e,z.sameBut hs (Ot y c e)⟩
  ·obtain⟨w',z⟩:=I.cell y c e
   exact⟨w',z.sameBut hs (Ot y c e)⟩
  ·obtain⟨e,n,ne,nf,d⟩:=I.pin p hp
   exact⟨(hs.2 p.1 ne).trans e,n,ne,nf,d⟩
 ·have hfn:X.fn x=true:=by
   rcases hf with z | z
   ·exact z
   ·rw[z] at hk;cases hk
  obtain⟨c,hc⟩:=I.ok.has x (.inl hk);obtain⟨w',z⟩:=I.cell x c hc;refine wpAny_storeName_cell I.ok.kind hk hc z (fun h' hc' hs=>?_);obtain⟨oc,hoc,hocd⟩:=id z;refine h {s with heap:=h'} ⟨I.ok,I.os,I.bare,⟨fun b o e n hb hx=>?_,fun b o e n hb hx=>?_,I.base.free,fun b o e hx=>?_,I.base.pX,I.base.om,I.base.pY⟩,⟨m,hn.sameBut hs (Ne.symm (Ot x c hc)),fun j y v' e1 e2 e3=>?_⟩,fun y c' e=>?_,I.free,I.kM,fun p hp=>?_,tracked ⟨oc,hoc,I.kM x c hc⟩ hs,by simpa using I.len⟩ ⟨c,hs,.inr hc⟩
  ·exact(hs.2 b (yj (yc (yy e) (I.ok.RF x c hfn hc)))).trans (I.base.keep b o e n hb hx)
  ·obtain⟨sl,e1⟩:=I.base.slot b o e n hb hx
   exact⟨sl,(hs.2 b (yj (yc (yy e) (I.ok.RF x c hfn hc)))).trans e1⟩
  ·obtain⟨o',e1⟩:=I.base.there b o e hx
   exact⟨o',(hs.2 b (yj (yc (yy e) (I.ok.RF x c hfn hc)))).trans e1⟩
  ·by_cases hj:j=i
   ·subst hj
    rw[hi] at e1;cases e1;rw[List.getElem?_set_self hiσ] at e2;cases e2;exact⟨u,r,.inr ⟨.inl hk,c,hc,hc'⟩⟩
   ·rw[List.getElem?_set_ne (Ne.symm hj)] at e2
    obtain⟨u',r',q⟩:=hl j y v' e1 e2 e3;refine⟨u',r',?_⟩;rcases q with q | ⟨k,c',e,z'⟩
    ·exact .inl q
    ·refine .inr ⟨k,c',e,z'.sameBut hs ?_⟩
     rintro rfl;exact hj (GP hN e1 (I.ok.inj _ _ _ e hc▸hi))
  ·by_cases hcc:c'=c
   ·subst hcc;exact⟨_,hc'⟩
   ·obtain⟨w2,z2⟩:=I.cell y c' e
    exact⟨w2,z2.sameBut hs hcc⟩
  ·obtain⟨e,n,ne,nf,d⟩:=I.pin p hp
   refine⟨(hs.2 p.1 ?_).trans e,n,ne,nf,d⟩;intro q;rw[q,hoc] at e;have q':oc=p.2:=yk e;exact d w' (by rw[<-q'];exact hocd)
def oC (I:Inv X pins σ H s) (hN:X.N.Nodup) (hi:X.N[i]?=some x) (hx:Loc X.env.scope x) (r:RelV v u)
  (h:∀s',Inv X pins (σ.set i (some v)) H s'->Q () s') (hf:X.fn x=true\/X.env.scope.names.lookup x=some .local<|>qa_):wpAny M A (storeName X.env x u) Q E s:=
 CP I hN hi hx r (fun s' I' _=>h s' I') hf
def Inv.N2 (I:Inv X pins σ H s) (ho:s'.os=s.os) (u:Un (qR X.stack) ch H H' s.heap s'.heap) (cm:si X.prog X.w H' s'.heap) (hg:AllBare s'.gens)
  (hch:∀b∈ch,(b∈X.ex\/X.s₀.heap.objs.size<=b)/\b≠X.env.locals/\(∀x c,X.env.cells.lookup x=some c->c≠b)/\∀p∈X.pn++pins,p.1≠b):Inv X pins σ H' s':=by
 obtain⟨h',g',d',t',o'⟩:=s';have e:o'=s.os:=ho;subst e;exact I.call (g':=g') (t':=t') (d':=d') u cm hg hch
end
abbrev XK:=Value->Option Addr->Hp->Prop
abbrev St:=List (Option V)
abbrev VK:=V->Hp->Prop
abbrev TE:=St->Hp->VK->Prop
abbrev TT:=St->Hp->(Bool->Hp->Prop)->Prop
abbrev TA:=St->Hp->(List V->Hp->Prop)->Prop
structure Ends where
 nx:St->Hp->Prop
 rt:VK
 bk:St->Hp->Prop:=fun _ _=>False
 ct:St->Hp->Prop:=fun _ _=>False
abbrev TS:=Ends->St->Hp->Prop
def EP (X:Cx) (pins:List (Addr×Obj)) (σ:St) (Q:VK) (u:Value) (s':Shared):Prop:=∃v H',Inv X pins σ H' s'/\RelV v u/\Q v H'
def TP (X:Cx) (pins:List (Addr×Obj)) (σ:St) (Q:Bool->Hp->Prop) (b:Bool) (s':Shared):Prop:=∃H',Inv X pins σ H' s'/\Q b H'
def AP (X:Cx) (pins:List (Addr×Obj)) (σ:St) (Q:List V->Hp->Prop) (us:List Value) (s':Shared):Prop:=∃vs H',Inv X pins σ H' s'/\Vals vs us/\Q vs H'
def SP (X:Cx) (pins:List (Addr×Obj)) (D:Ends) (f:Flow) (s':Shared):Prop:=
 match f with
 | .next=>∃σ' H',Inv X pins σ' H' s'/\D.nx σ' H'
 | .brk=>∃σ' H',Inv X pins σ' H' s'/\D.bk σ' H'
 | .cont=>∃σ' H',Inv X pins σ' H' s'/\D.ct σ' H'
 | .ret u=>∃v σ' H',Inv X pins σ' H' s'/\RelV v u/\D.rt v H'
def PE (X:Cx) (e:Expr) (t:TE):Prop:=
 ∀(pins:List (Addr×Obj)) (s:Shared) (σ:St) (H:Hp) (Q:VK),Inv X pins σ H s->t σ H Q->wpAny (model X.prog X.w) X.A (eval e X.env) (EP X pins σ Q) X.xe s
def PT (X:Cx) (e:Expr) (t:TT):Prop:=
 ∀(pins:List (Addr×Obj)) (s:Shared) (σ:St) (H:Hp) (Q:Bool->Hp->Prop),Inv X pins σ H s->t σ H Q->wpAny (model X.prog X.w) X.A (isTrue e X.env (eval e X.env)) (TP X pins σ Q) X.xe s
def PW (X:Cx) (e:Expr) (t:TT):Prop:=
 ∀(whole:Sem Value) (pins:List (Addr×Obj)) (s:Shared) (σ:St) (H:Hp) (Q:Bool->Hp->Prop),Inv X pins σ H s->t σ H Q->wpAny (model X.prog X.w) X.A (isTrue e X.env whole) (TP X pins σ Q) X.xe s
def PW.pt (h:PW X e t):PT X e t:=h _
def PA (X:Cx) (es:List Expr) (t:TA):Prop:=
 ∀(pos:Pos) (pins:List (Addr×Obj)) (s:Shared) (σ:St) (H:Hp) (Q:List V->Hp->Prop),Inv X pins σ H s->t σ H Q->wpAny (model X.prog X.w) X.A (spliced (backTo pos (starEach es X.env))) (AP X pins σ Q) X.xe s
def PS (X:Cx) (st:Stmt) (t:TS):Prop:=
 ∀(pins:List (Addr×Obj)) (s:Shared) (σ:St) (H:Hp) (D:Ends),Inv X pins σ H s->t D σ H->wpAny (model X.prog X.w) X.A (exec st X.env) (SP X pins D) X.xe s
def DC (X:Cx) (st:List Stmt) (t:TS):Prop:=
 ∀(pins:List (Addr×Obj)) (s:Shared) (σ:St) (H:Hp) (D:Ends),Inv X pins σ H s->t D σ H->wpAny (model X.prog X.w) X.A (execs st X.env) (SP X pins D) X.xe s
def dh (h:wpAny M A t Q E s) (hQ:∀a s,Q a s->Q' a s):wpAny M A t Q' E s:=wpAny_mono h hQ fun _ _ x=>x
end L2
namespace L2
open PySem PySem.Spec PyProof.Rows
section
variable {X:Cx}
def bf (i:Nat):TE:=fun σ H Q=>∃v,σ[i]?=some (some v)/\Q v H
def tC (v:V):TE:=fun _ H Q=>Q v H
def QY (hN:X.N[i]?=some x) (hv:RI X.env.scope x) (hd:(x == ("__debug__": Str))=false<|>qb_) (hcd:(x == ("__classdict__": Str))=false<|>qb_):PE X (.Name x pos) (bf i):=by
 intro pins s σ H Q I h;obtain⟨v,e,h⟩:=h;obtain⟨m,hn,hl⟩:=I.loc;obtain⟨u,r,l⟩:=hl i x v hN e hv;have fin:EP X pins σ Q u s:=⟨v,H,I,r,h⟩
 rcases l with⟨hk,hm⟩ | ⟨hk,c,hc,hcell⟩
 ·exact wpAny_Name (wpAny_loadName_local I.ok.kind hk hn hm fin) hd
 ·rcases hk with hk | hk
  ·exact wpAny_Name (wpAny_loadName_cell I.ok.kind hk hc hcell fin) hd
  ·exact wpAny_Name (wpAny_loadName_free I.ok.kind hk hc hcell fin hcd) hd
def ae:PE X (.Constant (.int i) j pos) (tC (.int i)):=fun _ _ _ H _ I h=>wpAny_Constant_int ⟨.int i,H,I.tok _,⟨_,rfl⟩,h⟩
def jS:PE X (.Constant (.bool b) j pos) (tC (.bl b)):=fun _ _ _ H _ I h=>Constant_bool ⟨.bl b,H,I,rfl,h⟩
def aW:PE X (.Constant .none j pos) (tC .bR):=fun _ _ _ H _ I h=>Constant_none ⟨.bR,H,I,rfl,h⟩
def aN:PE X (.Constant (.str x) j pos) (tC (.str x)):=fun _ _ _ H _ I h=>Calls.Constant_str ⟨.str x,H,I.tok _,⟨_,rfl⟩,h⟩
def Gl (X:Cx) (x:Str):Prop:=X.env.kindOf x=some .globalImplicit
def kJ (I:Inv X pins σ H s) (hg:Gl X x) (hm:X.mg x=some u) (h:Q u s)
  (hd:(x == ("__debug__": Str))=false<|>qb_):wpAny (model X.prog X.w) X.A (eval (.Name x pos) X.env) Q E s:=
 Calls.Name_function_global I.ok.kind hg (Calls.loadGlobal_global (by rw[I.ok.glob];exact I.mod.glob.keeps I.bk) hm h) hd
def jY (I:Inv X pins σ H s) (hg:Gl X x) (hm:X.mg x=none) (hv:bootBuiltins x=some u) (h:Q u s)
  (hn:x≠ "__name__"<|>qb_) (hd:(x == ("__debug__": Str))=false<|>qb_):wpAny (model X.prog X.w) X.A (eval (.Name x pos) X.env) Q E s:=by
 obtain⟨mb,h1,h2⟩:=I.mod.blt;exact Calls.Name_function_global I.ok.kind hg (Calls.loadGlobal_builtin (by rw[I.ok.glob];exact I.mod.glob.keeps I.bk) hm (by rw[I.ok.blt];exact h1.keeps I.bk) ((h2 x hn).trans hv) h) hd
def b8 (hg:Gl X x) (hm:X.mg x=some u) (r:RelV v u) (hd:(x == ("__debug__": Str))=false<|>qb_):PE X (.Name x pos) (tC v):=
 fun _ _ _ H _ I h=>kJ I hg hm ⟨v,H,I,r,h⟩ hd
def O2 (hg:Gl X x) (hm:X.mg x=none) (hv:bootBuiltins x=some u) (r:RelV v u) (hn:x≠ "__name__"<|>qb_) (hd:(x == ("__debug__": Str))=false<|>qb_):PE X (.Name x pos) (tC v):=
 fun _ _ _ H _ I h=>jY I hg hm hv ⟨v,H,I,r,h⟩ hn hd
variable {a b:Expr} {ta tb:TE} {pos:Pos}
def PC (X:Cx) (op:CmpOp) (a b:Expr) (t:TE):Prop:=
 ∀(pins:List (Addr×Obj)) (s:Shared) (σ:St) (H:Hp) (Q:VK),Inv X pins σ H s->t σ H Q->
  wpAny (model X.prog X.w) X.A (eval a X.env) (fun v s₁=>wpAny (model X.prog X.w) X.A (eval b X.env) (fun u s₂=>wpAny (model X.prog X.w) X.A (compareOp op v u) (EP X pins σ Q) X.xe s₂) X.xe s₁) X.xe s
def GR (b:Expr) (h:op≠.In) (h2:op≠.NotIn):behindInMarks op b=false:=by
 have e1:(op == CmpOp.In)=false:=by cases op <;> first | rfl | exact absurd rfl h
 have e2:(op == CmpOp.NotIn)=false:=by cases op <;> first | rfl | exact absurd rfl h2
 cases b <;> simp[behindInMarks,e1,e2]
def Mx (ta:TE):TE:=fun σ H Q=>ta σ H fun x H1=>Q (.bl (decide (x=.bR))) H1
def Mw (ta:TE):TE:=fun σ H Q=>ta σ H fun x H1=>Q (.bl (!decide (x=.bR))) H1
def RelV.GO (r:RelV x v):(v == Value.none)=decide (x=.bR):=by
 cases x with
 | bR=>cases r;rfl
 | bl _=>cases r;rfl
 | int _=>obtain⟨t,rfl⟩:=r;rfl
 | str _=>obtain⟨t,rfl⟩:=r;rfl
 | Ks _=>obtain⟨t,rfl⟩:=r;rfl
 | Pk _=>obtain⟨t,rfl⟩:=r;rfl
 | ref _=>cases r;rfl
 | ty _=>cases r;rfl
def cJ (ha:PE X a ta):PC X .Is a (.Constant .none j pos') (Mx ta):=by
 intro pins s σ H Q I h;refine dh (ha pins s σ H _ I h) fun v s1 zz=>?_;obtain⟨x,H1,I1,r1,q1⟩:=zz;exact Constant_none (is_none_gen ⟨.bl _,H1,I1,by rw[r1.GO];rfl,q1⟩)
def gr (ha:PE X a ta):PC X .IsNot a (.Constant .none j pos') (Mw ta):=by
 intro pins s σ H Q I h;refine dh (ha pins s σ H _ I h) fun v s1 zz=>?_;obtain⟨x,H1,I1,r1,q1⟩:=zz;exact Constant_none (isnot_none_gen ⟨.bl _,H1,I1,by rw[r1.GO];rfl,q1⟩)
def tB (t:TE):TT:=fun σ H Q=>t σ H fun x H1=>∃c,x=.bl c/\Q c H1
def uW (h:PC X op a b t) (h1:behindInMarks op b=false<|>qc_):PE X (.Compare a [op] [b] pos) t:=fun pins s σ H Q I hw=>wpAny_Compare1 (h pins s σ H Q I hw) h1
def bF (h:PC X op a b t) (h1:behindInMarks op b=false<|>qc_):PT X (.Compare a [op] [b] pos) (tB t):=by
 intro pins s σ H Q I hw;refine wpAny_isTrue_Compare1 (dh (h pins s σ H _ I hw) fun v s1 h1=>dh h1 fun u s2 h2=>dh h2 fun c s3 ⟨x,H1,I1,r1,q1⟩=>?_) h1;obtain⟨d,rfl,q⟩:=q1;cases r1;exact wpAny_truthy_bool ⟨H1,I1,q⟩
def cU (h:PE X e t) (he:(∀whole,isTrue e X.env whole=(do let v <-whole;standAt e.pos;holding [v] (truthy v)))<|>qd_):PT X e (tB t):=by
 intro pins s σ H Q I hw;refine isTrue_plain (dh (h pins s σ H _ I hw) fun v s1 ⟨x,H1,I1,r1,q1⟩=>?_) (he _);obtain⟨d,rfl,q⟩:=q1;cases r1;exact wpAny_truthy_bool ⟨H1,I1,q⟩
variable {tA tB':TT} {rest:List Expr}
def QK (t u:TT):TT:=fun σ H Q=>t σ H fun c H1=>if c=true then u σ H1 Q else Q false H1
def Ud (t u:TT):TT:=fun σ H Q=>t σ H fun c H1=>if c=true then Q true H1 else u σ H1 Q
def OD (t:TT):TT:=fun σ H Q=>t σ H fun c H1=>Q (!c) H1
def dn (ha:PT X a tA):PW X (.BoolOp .And [a] pos) tA:=by
 intro wh pins s σ H Q I h;refine isTrue_and (dh (ha pins s σ H Q I h) fun c s1 e=>?_);cases c with
 | true=>exact isTrue_and_nil e
 | false=>exact e
def dC (ha:PT X a tA):PW X (.BoolOp .Or [a] pos) tA:=by
 intro wh pins s σ H Q I h;refine isTrue_or (dh (ha pins s σ H Q I h) fun c s1 e=>?_);cases c with
 | false=>exact isTrue_or_nil e
 | true=>exact e
def dI (ha:PT X a tA) (hb:PW X (.BoolOp .And (b::rest) pos) tB'):PW X (.BoolOp .And (a::b::rest) pos) (QK tA tB'):=by
 intro wh pins s σ H Q I h;refine isTrue_and (dh (ha pins s σ H _ I h) fun c s1 ⟨H1,I1,q1⟩=>?_);cases c with
 | true=>exact hb wh pins s1 σ H1 Q I1 q1
 | false=>exact⟨H1,I1,q1⟩
def eD (ha:PT X a tA) (hb:PW X (.BoolOp .Or (b::rest) pos) tB'):PW X (.BoolOp .Or (a::b::rest) pos) (Ud tA tB'):=by
 intro wh pins s σ H Q I h;refine isTrue_or (dh (ha pins s σ H _ I h) fun c s1 ⟨H1,I1,q1⟩=>?_);cases c with
 | true=>exact⟨H1,I1,q1⟩
 | false=>exact hb wh pins s1 σ H1 Q I1 q1
def fB (ha:PT X a tA):PT X (.UnaryOp .Not a pos) (OD tA):=by
 intro pins s σ H Q I h;exact isTrue_not (ha pins s σ H (fun c H1=>Q (!c) H1) I h)
def PX (ta tb:TE):TE:=fun σ H Q=>ta σ H fun x H1=>∃c,x=.bl c/\if c=true then tb σ H1 Q else Q (.bl false) H1
def Sb (ta tb:TE):TE:=fun σ H Q=>ta σ H fun x H1=>∃c,x=.bl c/\if c=true then Q (.bl true) H1 else tb σ H1 Q
def PR (ta:TE):TE:=fun σ H Q=>ta σ H fun x H1=>∃c,x=.bl c/\Q (.bl (!c)) H1
def mI (h:PE X a t):PE X (.BoolOp op [a] pos) t:=fun pins s σ H Q I hw=>BoolOp_one (h pins s σ H Q I hw)
def lh (ha:PE X a ta) (hb:PE X (.BoolOp .And (b::rest) pos) tb):PE X (.BoolOp .And (a::b::rest) pos) (PX ta tb):=by
 intro pins s σ H Q I h;refine BoolOp_and (dh (ha pins s σ H _ I h) fun v s1 zz=>?_);obtain⟨x,H1,I1,r1,q1⟩:=zz;obtain⟨c,rfl,q1⟩:=q1;cases r1;refine wpAny_truthy_bool ?_;cases c with
 | true=>exact hb pins s1 σ H1 Q I1 q1
 | false=>exact⟨.bl false,H1,I1,rfl,q1⟩
def Na (ha:PE X a ta) (hb:PE X (.BoolOp .Or (b::rest) pos) tb):PE X (.BoolOp .Or (a::b::rest) pos) (Sb ta tb):=by
 intro pins s σ H Q I h;refine BoolOp_or (dh (ha pins s σ H _ I h) fun v s1 zz=>?_);obtain⟨x,H1,I1,r1,q1⟩:=zz;obtain⟨c,rfl,q1⟩:=q1;cases r1;refine wpAny_truthy_bool ?_;cases c with
 | false=>exact hb pins s1 σ H1 Q I1 q1
 | true=>exact⟨.bl true,H1,I1,rfl,q1⟩
def Q0 (ha:PE X a ta):PE X (.UnaryOp .Not a pos) (PR ta):=by
 intro pins s σ H Q I h;refine UnaryOp_ (dh (ha pins s σ H _ I h) fun v s1 zz=>?_);obtain⟨x,H1,I1,r1,q1⟩:=zz;obtain⟨c,rfl,q1⟩:=q1;cases r1;exact not_of (wpAny_truthy_bool ⟨.bl (!c),H1,I1,rfl,q1⟩)
def UO (t:TT) (ta tb:TE):TE:=fun σ H Q=>t σ H fun c H1=>if c=true then ta σ H1 Q else tb σ H1 Q
def Gr (hc:PT X c tA) (ha:PE X a ta) (hb:PE X b tb):PE X (.IfExp c a b pos) (UO tA ta tb):=by
 intro pins s σ H Q I h;refine wpAny_IfExp (dh (hc pins s σ H _ I h) fun d s1 ⟨H1,I1,q1⟩=>?_);cases d with
 | true=>exact ha pins s1 σ H1 Q I1 q1
 | false=>exact hb pins s1 σ H1 Q I1 q1
end
end L2
namespace L2
open PySem PySem.Spec PyProof.Rows
def aL (K:yB) (H:Hp) (a:Addr) (xs:List V):Prop:=
 Rd H a (.lst xs)\/
  ∃(o:Obj) (its:Array Value) (n:Nat),K.lookup a=some o/\o.cls=.type "list"/\o.dict=none/\o.data=.seq its n/\its.size<=sizeLine/\Vals xs its.toList
def dB (K:yB) (H:Hp) (a:Addr) (xs:List V):Prop:=
 Rd H a (.tup xs)\/
  ∃(o:Obj) (its:Array Value) (n:Nat),K.lookup a=some o/\o.cls=.type "tuple"/\o.data=.seq its n/\its.size<=sizeLine/\Vals xs its.toList
def UJ:Value->Option V
 | .none=>some .bR
 | .bool b=>some (.bl b)
 | .int i _=>some (.int i)
 | .str x _=>some (.str x)
 | .bytes b _=>some (.Ks b)
 | .float b _=>some (.Pk b)
 | .ref a=>some (.ref a)
 | .type n=>some (.ty n)
 | _=>none
def RelV.abs (r:RelV x u):UJ u=some x:=by
 cases x with
 | bR=>cases r;rfl
 | bl _=>cases r;rfl
 | int _=>obtain⟨t,rfl⟩:=r;rfl
 | str _=>obtain⟨t,rfl⟩:=r;rfl
 | Ks _=>obtain⟨t,rfl⟩:=r;rfl
 | Pk _=>obtain⟨t,rfl⟩:=r;rfl
 | ref _=>cases r;rfl
 | ty _=>cases r;rfl
def RelV.inj (r:RelV x u) (q:RelV y u):x=y:=yk (r.abs.symm.trans q.abs)
theorem Vals.inj:∀{xs ys:List V} {us:List Value},Vals xs us->Vals ys us->xs=ys
 | _,_,_,.nil,.nil=>rfl
 | _,_,_,.cons r t,.cons r' t'=>by rw[r.inj r',Vals.inj t t']
section
variable {X:Cx} {pins:List (Addr×Obj)} {σ:St} {H:Hp} {s:Shared} {a:Addr} {xs ys:List V}
def aL.of {K:yB} (h:H a=some (.lst xs)):aL K H a xs:=.inl (.inl h)
def dB.of {K:yB} (h:H a=some (.tup xs)):dB K H a xs:=.inl (.inl h)
def Inv.list (I:Inv X pins σ H s) (h:aL X.K H a xs):∃its:List Value,Vals xs its/\PlainL s.heap a its.toArray/\xs.length<=sizeLine:=by
 rcases h with h | ⟨o,its,n,hk,hc,hd,hs,hz,r⟩
 ·obtain⟨z,its,n,r,e⟩:=h.ok I.cm
  exact⟨its,r,⟨_,n,e,rfl,rfl,rfl⟩,z⟩
 ·refine⟨its.toList,r,⟨o,n,I.tW a o hk,hc,hd,by simpa using hs⟩,?_⟩
  have e:=r.length;simp only[Array.length_toList] at e;omega
def Inv.tuple (I:Inv X pins σ H s) (h:dB X.K H a xs):∃its:List Value,Vals xs its/\IsTup s.heap a its.toArray/\xs.length<=sizeLine:=by
 rcases h with h | ⟨o,its,n,hk,hc,hs,hz,r⟩
 ·obtain⟨z,its,r,p⟩:=h.ok I.cm
  exact⟨its,r,p,z⟩
 ·refine⟨its.toList,r,⟨o,I.tW a o hk,hc,n,by simpa using hs⟩,?_⟩
  have e:=r.length;simp only[Array.length_toList] at e;omega
def Inv.AE (I:Inv X pins σ H s) (h:aL X.K H a xs) (h':aL X.K H a ys):xs=ys:=by
 obtain⟨its,r,⟨o,n,e,_,_,d⟩,_⟩:=I.list h;obtain⟨its',r',⟨o',n',e',_,_,d'⟩,_⟩:=I.list h';rw[e] at e';cases e';rw[d] at d';injection d' with d1 _;have:its=its':=by simpa using congrArg Array.toList d1
 subst this;exact r.inj r'
def Inv.CO (I:Inv X pins σ H s) (h:dB X.K H a xs) (h':dB X.K H a ys):xs=ys:=by
 obtain⟨its,r,⟨o,e,_,n,d⟩,_⟩:=I.tuple h;obtain⟨its',r',⟨o',e',_,n',d'⟩,_⟩:=I.tuple h';rw[e] at e';cases e';rw[d] at d';injection d' with d1 _;have:its=its':=by simpa using congrArg Array.toList d1
 subst this;exact r.inj r'
end
abbrev Cx.sk (X:Cx) (E:Value->Shared->Prop):Cx:={X with xe:=E}
abbrev Cx.IU (X:Cx):Cx:=X.sk fun _ _=>False
theorem Cx.Ok.sk {X:Cx} (ok:X.Ok) (E:Value->Shared->Prop):(X.sk E).Ok:=
 ⟨ok.mod,ok.kind,ok.glob,ok.blt,ok.above,ok.inj,ok.has,ok.RF,ok.hd,ok.frames,ok.RS,ok.Tp,ok.bs,ok.L9,ok.xg,ok.Jf,ok.qo,ok.G5⟩
def Cx.Ok.iM {X:Cx} {E:Value->Shared->Prop} (ok:(X.sk E).Ok):X.Ok:=
 ⟨ok.mod,ok.kind,ok.glob,ok.blt,ok.above,ok.inj,ok.has,ok.RF,ok.hd,ok.frames,ok.RS,ok.Tp,ok.bs,ok.L9,ok.xg,ok.Jf,ok.qo,ok.G5⟩
section
variable {X:Cx} {pins:List (Addr×Obj)} {σ:St} {H:Hp} {s:Shared} {E:Value->Shared->Prop}
theorem Inv.sk (I:Inv X pins σ H s) (E:Value->Shared->Prop):Inv (X.sk E) pins σ H s:=⟨I.ok.sk E,I.os,I.bare,I.base,I.loc,I.cell,I.free,I.kM,I.pin,I.cm,I.len⟩
theorem Inv.iM (I:Inv (X.sk E) pins σ H s):Inv X pins σ H s:=⟨I.ok.iM,I.os,I.bare,I.base,I.loc,I.cell,I.free,I.kM,I.pin,I.cm,I.len⟩
theorem SP.iM (h:SP (X.sk E) pins D f s'):SP X pins D f s':=by
 cases f with
 | next=>obtain⟨σ',H',I,q⟩:=h;exact⟨σ',H',I.iM,q⟩
 | brk=>obtain⟨σ',H',I,q⟩:=h;exact⟨σ',H',I.iM,q⟩
 | cont=>obtain⟨σ',H',I,q⟩:=h;exact⟨σ',H',I.iM,q⟩
 | ret u=>obtain⟨v,σ',H',I,r,q⟩:=h;exact⟨v,σ',H',I.iM,r,q⟩
theorem DC.IU {st:List Stmt} {t:TS} (h:DC X.IU st t):DC X st t:=fun pins s σ H D I hw=>
 wpAny_mono (h pins s σ H D (I.sk _) hw) (fun _ _ q=>q.iM) fun _ _ z=>False.elim z
end
section
variable {X:Cx} {st:Stmt} {rest:List Stmt} {t u:TS} {e:Expr} {te:TE} {pos:Pos}
def PU:TS:=fun D σ H=>D.nx σ H
def Qy (t u:TS):TS:=fun D σ H=>t {D with nx:=u D} σ H
def aD:DC X [] PU:=fun _ _ σ H _ I h=>wpAny_execs_nil ⟨σ,H,I,h⟩
def ag (h1:PS X st t) (h2:DC X rest u):DC X (st::rest) (Qy t u):=by
 intro pins s σ H D I h;refine wpAny_execs_cons (dh (h1 pins s σ H {D with nx:=u D} I h) fun f s1 q=>?_);cases f with
 | next=>
  obtain⟨σ',H',I',q⟩:=q;exact h2 pins s1 σ' H' D I' q
 | ret v=>exact q
 | brk=>exact q
 | cont=>exact q
def ak (h1:PS X st t):DC X [st] t:=by
 intro pins s σ H D I h;refine wpAny_execs_cons (dh (h1 pins s σ H D I h) fun f s1 q=>?_);cases f with
 | next=>exact wpAny_execs_nil q
 | ret v=>exact q
 | brk=>exact q
 | cont=>exact q
def Inv.quiet (I:Inv X pins σ H s):interactive X.env=false:=by simp[interactive,I.ok.kind]
def PV (te:TE):TS:=fun D σ H=>te σ H fun _ H1=>D.nx σ H1
def bJ (he:PE X e te) (hs:swapsWith e none pos.line X.env=pure false<|>qe_):PS X (.Expr e pos) (PV te):=by
 intro pins s σ H D I h;exact wpAny_Expr_any (dh (he pins s σ H _ I h) fun v s1 ⟨x,H1,I1,r1,q1⟩=>⟨σ,H1,I1,q1⟩) I.quiet hs
def Qz (te:TE):TS:=fun D σ H=>te σ H D.rt
def au (he:PE X e te):PS X (.Return (some e) pos) (Qz te):=by
 intro pins s σ H D I h;exact wpAny_Return_some (dh (he pins s σ H _ I h) fun v s1 ⟨x,H1,I1,r1,q1⟩=>⟨x,σ,H1,I1,r1,q1⟩)
def OE (c:TT) (t u:TS):TS:=fun D σ H=>c σ H fun b H1=>if b=true then t D σ H1 else u D σ H1
def aJ (hc:PT X c tc) (ha:DC X a t) (hb:DC X b u):PS X (.If c a b pos) (OE tc t u):=by
 intro pins s σ H D I h;refine wpAny_If (dh (hc pins s σ H _ I h) fun d s1 ⟨H1,I1,q1⟩=>?_);cases d with
 | true=>exact ha pins s1 σ H1 D I1 q1
 | false=>exact hb pins s1 σ H1 D I1 q1
def QB:TS:=fun _ _ _=>False
def Gp:PS X st QB:=fun _ _ _ _ _ _ h=>h.elim
end
abbrev TG:=V->St->Hp->(St->Hp->Prop)->Prop
abbrev SY:=List V->St->Hp->(St->Hp->Prop)->Prop
def PG (X:Cx) (target:Expr) (t:TG):Prop:=
 ∀(pins:List (Addr×Obj)) (s:Shared) (σ:St) (H:Hp) (v:V) (u:Value) (Q:St->Hp->Prop),Inv X pins σ H s->RelV v u->t v σ H Q->
  wpAny (model X.prog X.w) X.A (assign target X.env u) (fun _ s'=>∃σ' H',Inv X pins σ' H' s'/\Q σ' H') X.xe s
def Tt (X:Cx) (ts:List Expr) (t:SY):Prop:=
 ∀(pins:List (Addr×Obj)) (s:Shared) (σ:St) (H:Hp) (vs:List V) (us:List Value) (Q:St->Hp->Prop),Inv X pins σ H s->Vals vs us->t vs σ H Q->
  wpAny (model X.prog X.w) X.A (assignInOrder ((assignEach ts X.env).map (·.2)) us) (fun _ s'=>∃σ' H',Inv X pins σ' H' s'/\Q σ' H') X.xe s
section
variable {X:Cx} {pos:Pos}
def cg (i:Nat):TG:=fun v σ H Q=>Q (σ.set i (some v)) H
def J8 (hN:X.N.Nodup) (hi:X.N[i]?=some x) (hx:Loc X.env.scope x) (hf:X.fn x=true\/X.env.scope.names.lookup x=some .local<|>qa_):PG X (.Name x pos) (cg i):=by
 intro pins s σ H v u Q I r h;exact wpAny_assign_Name (oC I hN hi hx r (fun s' I'=>⟨_,H,I',h⟩) hf)
def G4:SY:=fun vs σ H Q=>vs=[]/\Q σ H
def gx (t:TG) (u:SY):SY:=fun vs σ H Q=>∃v r,vs=v::r/\t v σ H fun σ' H'=>u r σ' H' Q
def dq:Tt X [] G4:=by
 intro pins s σ H vs us Q I r h;obtain⟨e,h⟩:=h;subst e;cases r;exact assignInOrder_nil ⟨σ,H,I,h⟩
def aP (h1:PG X e t) (h2:Tt X es u)
  (hs:(assignEach (e::es) X.env).map (·.2)=assign e X.env::(assignEach es X.env).map (·.2)<|>qe_):Tt X (e::es) (gx t u):=by
 intro pins s σ H vs us Q I r h;obtain⟨v,vr,e1,h⟩:=h;subst e1;cases r with
 | cons r rr=>
  rw[hs];refine assignInOrder_cons (dh (h1 pins s σ H _ _ _ I r h) fun _ s1 ⟨σ1,H1,I1,q1⟩=>?_);exact h2 pins s1 σ1 H1 _ _ Q I1 rr q1
def G3 (K:yB) (n:Nat) (t:SY):TG:=fun v σ H Q=>∃a xs,v=.ref a/\dB K H a xs/\xs.length=n/\t xs σ H Q
def d6 (hc:X.calm=true) (h:Tt X es t)
  (hn:(assignEach es X.env).length=n<|>qe_) (hst:(assignEach es X.env).findIdx? (·.1)=none<|>qe_):PG X (.Tuple es k pos) (G3 X.K n t):=by
 intro pins s σ H v u Q I r hw;obtain⟨a,xs,e1,hq,hl,hw⟩:=hw;subst e1;cases r;obtain⟨its,rv,ht,hz⟩:=I.tuple hq;refine assign_Tuple_tuple (I.ok.hd hc) ht (by simp[hn,<-hl,rv.length]) hst fun h' hx=>?_;have I1:Inv X pins σ H {s with heap:=h'}:=I.kept (t':=s.toks) fun b o e=>hx b o (yj (yy e)) e;exact h pins _ σ H xs _ Q I1 (by simpa using rv) hw
def FU (te:TE) (g:TG):TS:=fun D σ H=>te σ H fun x H1=>g x σ H1 D.nx
def M3 (hN:X.N.Nodup) (hi:X.N[i]?=some x) (hx:Loc X.env.scope x) (he:PE X e te) (hs:swapsWith e (some (.Name x pos')) pos.line X.env=pure false<|>qe_) (hf:X.fn x=true\/X.env.scope.names.lookup x=some .local<|>qa_) :
  PS X (.Assign [.Name x pos'] e pos) (FU te (cg i)):=by
 intro pins s σ H D I h;refine wpAny_Assign_Name (dh (he pins s σ H _ I h) fun v s1 ⟨y,H1,I1,r1,q1⟩=>?_) hs;exact oC I1 hN hi hx r1 (fun s2 I2=>⟨_,H1,I2,q1⟩) hf
def Uc (i j:Nat) (ta:TA):TS:=fun D σ H=>ta σ H fun vs H1=>∃v w,vs=[v,w]/\D.nx ((σ.set i (some v)).set j (some w)) H1
def M4 (hc:X.calm=true) (hN:X.N.Nodup) (hi:X.N[i]?=some x) (hj:X.N[j]?=some y) (hij:i≠j)
  (hx:X.env.scope.names.lookup x=some .local) (hy:X.env.scope.names.lookup y=some .local) (ha:PA X [a,b] ta)
  (hw:swappedStores [.Tuple [.Name x px,.Name y py] kt pt] (.Tuple [a,b] k2 pt2) X.env=pure (some [x,y]))
  (hs:swapsWithSole [.Tuple [.Name x px,.Name y py] kt pt] (.Tuple [a,b] k2 pt2) pos.line X.env=pure false<|>qe_) :
  PS X (.Assign [.Tuple [.Name x px,.Name y py] kt pt] (.Tuple [a,b] k2 pt2) pos) (Uc i j ta):=by
 intro pins s σ H D I h;rw[exec_Assign_arm];refine yu (wpAny_standAt ?_);rw[hs];refine yu (yw ?_);rw[if_neg ∅];refine yu (Tuple_ (dh (ha _ pins s σ H _ I h) fun us s1 zz=>?_));obtain⟨vs,H1,I1,r1,q1⟩:=zz;obtain⟨v,w,e1,q1⟩:=q1;subst e1;obtain⟨u1,u2,rfl,rv,rw'⟩:∃u1 u2,us=[u1,u2]/\RelV v u1/\RelV w u2:=by
  cases r1 with
  | cons p q=>
   cases q with
   | cons p' q'=>
    cases q';exact⟨_,_,rfl,p,p'⟩
 refine wpAny_newObj_type ?_ (by show 2<=sizeLine;decide);have I2:Inv X pins σ H1 {s1 with heap:=s1.heap.push {cls:=.type "tuple",data:=.seq [u1,u2].toArray}}:=I1.kept (t':=s1.toks) fun b o e=>yv _ e;rw[hw];refine yu (yw ?_);show wpAny (model X.prog X.w) X.A (do rule "assign.swapped-stores";let items <-unpackItems (.ref ↑s1) 2 none;assignInOrder [fun v=>bindName X.env y v,fun v=>bindName X.env x v] items.reverse;pure Flow.next) _ _ _;refine yu (wpAny_rule (yu (unpackItems_tuple (items:=#[u1,u2]) (I.ok.hd hc) (IsTup.new s1.heap _) fun h' hx'=>?_)));have I3:=I2.kept (h':=h') (t':=s1.toks) fun b o e=>hx' b o (yj (yy e)) e;show wpAny _ _ (assignInOrder [fun v=>bindName X.env y v,fun v=>bindName X.env x v] [u2,u1] >>= fun _=>pure Flow.next) _ _ _;refine yu (assignInOrder_cons (wpAny_bindName (oC I3 hN hj (.inl hy) rw' (fun s2 I4=>?_) (.inr hy))));refine assignInOrder_cons (wpAny_bindName (oC I4 hN hi (.inl hx) rv (fun s3 I5=>assignInOrder_nil (yw ?_)) (.inr hx)));rw[List.set_comm _ _ (Ne.symm hij)] at I5;exact⟨_,H1,I5,q1⟩
end
section
variable {X:Cx} {pos:Pos}
def Mu (c:TT) (tb:TS):TS:=fun D σ H=>∃W:Nat->St->Hp->Prop,(∃m,W m σ H)/\∀m σ H,W m σ H->
 c σ H fun b H1=>if b=true then∃N:St->Hp->Prop,(∀σ' H',N σ' H'->∃m',m'<m/\W m' σ' H')/\tb {D with nx:=N,ct:=N,bk:=D.nx} σ H1 else D.nx σ H1
def tI (hp:PassesOwn (model X.prog X.w) X.A X.env X.xe) (hc:PT X c tc) (hb:DC X body tb):PS X (.While c body [] pos) (Mu tc tb):=by
 intro pins s σ H D I h;obtain⟨W,⟨m0,w0⟩,turn⟩:=h;refine wpAny_While (codeAny_whileLoop (fun n s'=>∃σ' H',Inv X pins σ' H' s'/\W n σ' H') ?_ m0 ⟨σ,H,I,w0⟩);rintro n s1 ⟨σ1,H1,I1,w1⟩;refine wpAny_passesOwn hp (dh (hc pins s1 σ1 H1 _ I1 (turn n σ1 H1 w1)) fun b s2 ⟨H2,I2,q2⟩=>?_);cases b with
 | true=>
  obtain⟨N,hN,q2⟩:=q2;rw[if_pos rfl];refine wpAny_passesOwn hp (dh (hb pins s2 σ1 H2 _ I2 q2) fun f s3 q3=>?_);cases f with
  | next=>
   obtain⟨σ3,H3,I3,n3⟩:=q3;obtain⟨m',hm,w3⟩:=hN σ3 H3 n3;exact⟨m',hm,σ3,H3,I3,w3⟩
  | cont=>
   obtain⟨σ3,H3,I3,n3⟩:=q3;obtain⟨m',hm,w3⟩:=hN σ3 H3 n3;exact⟨m',hm,σ3,H3,I3,w3⟩
  | brk=>exact q3
  | ret v=>exact q3
 | false=>
  rw[if_neg zL];exact wpAny_execs_nil ⟨σ1,H2,I2,q2⟩
end
structure It where
 go:Nat->Hp->Prop
 KI:Nat->Hp->V->Hp->Prop
 stop:Nat->Hp->Prop
def sj (X:Cx) (pins:List (Addr×Obj)) (H:Hp) (b:Addr):Prop:=
 H b=none/\b≠X.env.locals/\b∉X.fs/\(b∈X.ex\/X.s₀.heap.objs.size<=b)/\(∀x c,X.env.cells.lookup x=some c->c≠b)/\∀p∈X.pn++pins,p.1≠b
def Inv.xj (I:Inv X pins σ H s) (hb:↑s<=b) (hn:H' b=none):sj X pins H' b:=by
 refine⟨hn,yi (yc I.lt hb),I.Ss hb,.inr (zM I.sz hb),fun x c e z=>?_,fun p hp z=>?_⟩
 ·obtain⟨v,q⟩:=I.cell x c e
  exact absurd (yc q.lt (by rw[z];exact hb)) (yf _)
 ·exact absurd (yc (yy (I.pin p hp).1) (by rw[z];exact hb)) (yf _)
structure Turn (P:Program) (w:World) (K:yB) (tg:Expr) (J:It) (fp:List Addr) (it:Addr) (tn:Nat->Heap->Prop):Prop where
 mem:it∈fp
 obj:∀i h,tn i h->∀b∈fp,∃o,h.get? b=some o/\∀v,o.data≠.cell v
 keep:∀i h h',tn i h->(∀b∈fp,∀o,h.get? b=some o->h'.get? b=some o)->tn i h'
 item:∀(X:Cx),X.prog=P->X.w=w->X.K=K->X.calm=true->∀(i:Nat) (pins:List (Addr×Obj)) (s:Shared) (σ:St) (H:Hp) (E:Value->Shared->Prop),Inv X pins σ H s->(∀b∈fp,sj X pins H b)->tn i s.heap->J.go i H->
  wpAny (model P w) X.A (pyNext (.ref it)) (fun r s1=>∃u,r=some u/\
   wpAny (model P w) X.A (letOwnedTupleGo tg (.ref it) u) (fun _ s2=>∃x H',Inv X pins σ H' s2/\RelV x u/\J.KI i H x H'/\tn (i+1) s2.heap/\∀b∈fp,H' b=none) E s1) E s
 done:∀(X:Cx),X.prog=P->X.w=w->X.K=K->X.calm=true->∀(i:Nat) (pins:List (Addr×Obj)) (s:Shared) (σ:St) (H:Hp) (E:Value->Shared->Prop),Inv X pins σ H s->(∀b∈fp,sj X pins H b)->tn i s.heap->J.stop i H->
  wpAny (model P w) X.A (pyNext (.ref it)) (fun r s1=>r=none/\Inv X pins σ H s1) E s
 self:∀(A:Around) (i:Nat) (s:Shared) (Q:Value->Shared->Prop) (E:Value->Shared->Prop),tn i s.heap->Q (.ref it) s->wpAny (model P w) A (pyIter (.ref it)) Q E s
abbrev TI:=St->Hp->(It->Hp->Prop)->Prop
def UU (X:Cx) (pins:List (Addr×Obj)) (σ:St) (tg:Expr) (R:It->Hp->Prop) (itv:Value) (s2:Shared):Prop:=
 ∃(it:Addr) (fp:List Addr) (tn:Nat->Heap->Prop) (J:It) (H':Hp),itv=.ref it/\Inv X pins σ H' s2/\Turn X.prog X.w X.K tg J fp it tn/\tn 0 s2.heap/\(∀b∈fp,sj X pins H' b)/\R J H'
def PI (X:Cx) (tg iter:Expr) (wi:TI):Prop:=
 ∀(pins:List (Addr×Obj)) (s:Shared) (σ:St) (H:Hp) (R:It->Hp->Prop),Inv X pins σ H s->wi σ H R->
  wpAny (model X.prog X.w) X.A (eval iter X.env) (fun v s1=>wpAny (model X.prog X.w) X.A (pyIter v) (UU X pins σ tg R) X.xe s1) X.xe s
def Dj (ho:s.heap.get? it=some o) (hc:o.cls=.type n) (hd:o.data=.fields vs)
    (hn:["enumerate","zip","dict_itemiterator","dict_reverseitemiterator","odict_iterator","itertools.zip_longest","itertools.pairwise"].contains n=false) (hQ:Q () s):wpAny M A (letOwnedTupleGo tg (.ref it) u) Q E s:=by
  unfold letOwnedTupleGo;cases tg <;> first
    | exact yw hQ
    | (cases u <;> first
        | exact yw hQ
        | (refine yu (wpAny_load ho ?_)
           rw[hc,hd];show wpAny M A (if(["enumerate","zip","dict_itemiterator","dict_reverseitemiterator","odict_iterator","itertools.zip_longest","itertools.pairwise"].contains n&&vs[0]? == some (rawInt _))=true then _ else _) Q E s;rw[if_neg (by intro h;rw[hn,Bool.false_and] at h;cases h)];exact yw hQ))
def Mc (K:yB) (a:Addr):It:=
 ⟨fun i H=>∃xs x,aL K H a xs/\xs[i]?=some x,fun i H x H'=>H'=H/\∀xs,aL K H a xs->xs[i]?=some x,fun i H=>∃xs,aL K H a xs/\xs.length<=i⟩
def Ql (K:yB) (a:Addr):It:=
 ⟨fun i H=>∃xs x,dB K H a xs/\xs[i]?=some x,fun i H x H'=>H'=H/\∀xs,dB K H a xs->xs[i]?=some x,fun i H=>∃xs,dB K H a xs/\xs.length<=i⟩
def Oh (lo:Int) (n:Nat):It:=⟨fun i _=>i<n,fun i H x H'=>H'=H/\x=.int (lo+i),fun i _=>n<=i⟩
def KL {P:Program} {w:World} {K:yB} {tg:Expr} (a it:Addr):Turn P w K tg (Mc K a) [it] it (fun i h=>h.IsListIter it a i) where
 mem:=by simp
 obj:=fun i h st b hb=>by
  have e:b=it:=by simpa using hb
  subst e;obtain⟨o,e,c,d⟩:=st;exact⟨o,e,fun v z=>by rw[d] at z;cases z⟩
 keep:=fun i h h' st k=>st.at fun o e=>k it (by simp) o e
 item:=by
  intro X hP hw hK hc i pins s σ H E I hf st hg;subst hP hw hK;obtain⟨xs,x,hq,hx⟩:=hg;obtain⟨its,rv,p,hz⟩:=I.list hq;obtain⟨u,hu,ru⟩:=rv.get hx;obtain⟨f0,f1,f2,f3,f4,f5⟩:=hf it (by simp);refine wpAny_pyNext_list_item st p.isList (x:=u) (by simpa using hu) fun h' st' sb=>?_;have I1:Inv X pins σ H {s with heap:=h'}:=I.turned (t':=s.toks) (fun b o hb e=>(sb.2 b hb).trans e) f0 f1 f3 f4 f5;obtain⟨o,e,c,d⟩:=id st';exact⟨u,rfl,Dj (s:={s with heap:=h'}) e c d ∅ ⟨x,H,I1,ru,⟨rfl,fun ys hy=>by rw[I.AE hy hq];exact hx⟩,st',fun b hb=>(hf b hb).1⟩⟩
 done:=by
  intro X hP hw hK hc i pins s σ H E I hf st hg;subst hP hw hK;obtain⟨xs,hq,hx⟩:=hg;obtain⟨its,rv,p,hz⟩:=I.list hq;obtain⟨f0,f1,f2,f3,f4,f5⟩:=hf it (by simp);have hl:=rv.length;exact wpAny_pyNext_list_end (I.ok.hd hc) st p.isList (by simp;omega) fun h' eb=>⟨rfl,I.turned (t':=s.toks) (fun b o hb e=>eb b o hb e) f0 f1 f3 f4 f5⟩
 self:=fun _ _ _ _ _ st h=>wpAny_pyIter_listiter st h
def Io {P:Program} {w:World} {K:yB} {tg:Expr} (a it:Addr):Turn P w K tg (Ql K a) [it] it (fun i h=>h.IsTupleIter it a i) where
 mem:=by simp
 obj:=fun i h st b hb=>by
  have e:b=it:=by simpa using hb
  subst e;obtain⟨o,e,c,d⟩:=st;exact⟨o,e,fun v z=>by rw[d] at z;cases z⟩
 keep:=fun i h h' st k=>st.at fun o e=>k it (by simp) o e
 item:=by
  intro X hP hw hK hc i pins s σ H E I hf st hg;subst hP hw hK;obtain⟨xs,x,hq,hx⟩:=hg;obtain⟨its,rv,p,hz⟩:=I.tuple hq;obtain⟨u,hu,ru⟩:=rv.get hx;obtain⟨f0,f1,f2,f3,f4,f5⟩:=hf it (by simp);refine wpAny_pyNext_tuple_item st (show s.heap.IsTuple a its.toArray from p) (x:=u) (by simpa using hu) fun h' st' sb=>?_;have I1:Inv X pins σ H {s with heap:=h'}:=I.turned (t':=s.toks) (fun b o hb e=>(sb.2 b hb).trans e) f0 f1 f3 f4 f5;obtain⟨o,e,c,d⟩:=id st';exact⟨u,rfl,Dj (s:={s with heap:=h'}) e c d ∅ ⟨x,H,I1,ru,⟨rfl,fun ys hy=>by rw[I.CO hy hq];exact hx⟩,st',fun b hb=>(hf b hb).1⟩⟩
 done:=by
  intro X hP hw hK hc i pins s σ H E I hf st hg;subst hP hw hK;obtain⟨xs,hq,hx⟩:=hg;obtain⟨its,rv,p,hz⟩:=I.tuple hq;obtain⟨f0,f1,f2,f3,f4,f5⟩:=hf it (by simp);have hl:=rv.length;exact wpAny_pyNext_tuple_end (I.ok.hd hc) st (show s.heap.IsTuple a its.toArray from p) (by simp;omega) fun h' eb=>⟨rfl,I.turned (t':=s.toks) (fun b o hb e=>eb b o hb e) f0 f1 f3 f4 f5⟩
 self:=fun _ _ _ _ _ st h=>wpAny_pyIter_tupleiter st h
def Ip {P:Program} {w:World} {K:yB} {tg:Expr} (it:Addr) (lo:Int) (n:Nat):Turn P w K tg (Oh lo n) [it] it (fun i h=>IsRangeIter h it (lo+(i:Nat)*1) ((n:Int)-(i:Nat)) 1) where
 mem:=by simp
 obj:=fun i h st b hb=>by
  have e:b=it:=by simpa using hb
  subst e;exact⟨_,st,fun v z=>by
   have z':Data.fields _=Data.cell v:=z;cases z'⟩
 keep:=fun i h h' st k=>k it (by simp) _ st
 item:=by
  intro X hP hw hK hc i pins s σ H E I hf st hg;subst hP hw hK;obtain⟨f0,f1,f2,f3,f4,f5⟩:=hf it (by simp);have W:=Walks.range (prog:=X.prog) (w:=X.w) (I.ok.hd hc) it lo 1 n;refine W.item i s _ _ hg st fun v h' tk hv st' kk=>?_;obtain⟨t,rfl⟩:=hv;have I1:Inv X pins σ H {s with heap:=h',toks:=tk}:=I.turned (fun b o hb e=>kk b o (by simpa using hb) e) f0 f1 f3 f4 f5;refine⟨_,rfl,Dj (s:={s with heap:=h',toks:=tk}) (n:="range_iterator") st' rfl rfl ∅ ⟨.int (lo+i),H,I1,⟨t,?_⟩,⟨rfl,rfl⟩,st',fun b hb=>(hf b hb).1⟩⟩;rw[Int.mul_one]
 done:=by
  intro X hP hw hK hc i pins s σ H E I hf st hg;subst hP hw hK;obtain⟨f0,f1,f2,f3,f4,f5⟩:=hf it (by simp);exact wpAny_pyNext_range_end (I.ok.hd hc) st (by have:n<=i:=hg;omega) fun h' eb=>⟨rfl,I.turned (t':=s.toks) (fun b o hb e=>eb b o hb e) f0 f1 f3 f4 f5⟩
 self:=fun _ _ _ _ _ st h=>wpAny_pyIter_rangeiter st h
end L2
namespace L2
open PySem PySem.Spec PyProof.Rows
section
variable {X:Cx} {tg:Expr}
def Kg (K:yB) (tl:TE):TI:=fun σ H R=>tl σ H fun x H1=>∃a,x=.ref a/\(∃xs,aL K H1 a xs)/\R (Mc K a) H1
def UA (K:yB) (tl:TE):TI:=fun σ H R=>tl σ H fun x H1=>∃a,x=.ref a/\(∃xs,dB K H1 a xs)/\R (Ql K a) H1
def bw {l:Expr} {tl:TE} (hl:PE X l tl):PI X tg l (Kg X.K tl):=by
 intro pins s σ H R I h;refine dh (hl pins s σ H _ I h) fun v s1 zz=>?_;obtain⟨x,H1,I1,r1,q1⟩:=zz;obtain⟨a,e,⟨xs,hq⟩,q⟩:=q1;subst e;cases r1;obtain⟨its,rv,p,hz⟩:=I1.list hq;refine wpAny_pyIter_list p.isList ?_;refine⟨↑s1,[↑s1],_,_,H1,rfl,I1.kept (t':=s1.toks) fun b o e=>yv _ e,KL a _,⟨_,yx _ rfl,rfl,rfl⟩,fun b hb=>?_,q⟩;have e:b=↑s1:=by simpa using hb
 subst e;exact I1.xj (zm _) (I1.cm.fresh (zm _))
def lg {l:Expr} {tl:TE} (hl:PE X l tl):PI X tg l (UA X.K tl):=by
 intro pins s σ H R I h;refine dh (hl pins s σ H _ I h) fun v s1 zz=>?_;obtain⟨x,H1,I1,r1,q1⟩:=zz;obtain⟨a,e,⟨xs,hq⟩,q⟩:=q1;subst e;cases r1;obtain⟨its,rv,p,hz⟩:=I1.tuple hq;refine wpAny_pyIter_tuple (show s1.heap.IsTuple a its.toArray from p) ?_;refine⟨↑s1,[↑s1],_,_,H1,rfl,I1.kept (t':=s1.toks) fun b o e=>yv _ e,Io a _,⟨_,yx _ rfl,rfl,rfl⟩,fun b hb=>?_,q⟩;have e:b=↑s1:=by simpa using hb
 subst e;exact I1.xj (zm _) (I1.cm.fresh (zm _))
def Gj {pins:List (Addr×Obj)} {σ:St} {H:Hp} {s:Shared} {R:It->Hp->Prop} {E:Value->Shared->Prop} {lo hi:Int} {t u v:Tok} {tk:Nat} (I:Inv X pins σ H s) (h1:-(2^62)<=lo) (h2:lo<2^62) (h3:-(2^62)<=hi) (h4:hi<2^62)
  (q:R (Oh lo (hi-lo).toNat) H):wpAny (model X.prog X.w) X.A (pyIter (.ref ↑s)) (UU X pins σ tg R) E {s with heap:=s.heap.push {cls:=.type "range",data:=.fields #[.int lo t,.int hi u,.int 1 v]},toks:=tk}:=by
 refine wpAny_pyIter_range (IsRange.new ..) (small_one h1 h2 h3 h4) ?_;have I1:Inv X pins σ H {s with heap:=s.heap.push {cls:=.type "range",data:=.fields #[.int lo t,.int hi u,.int 1 v]},toks:=tk}:=I.kept fun b o e=>yv _ e;refine⟨(s.heap.push {cls:=.type "range",data:=.fields #[.int lo t,.int hi u,.int 1 v]}).objs.size,[(s.heap.push {cls:=.type "range",data:=.fields #[.int lo t,.int hi u,.int 1 v]}).objs.size],_,_,H,rfl,
  I1.kept (t':=tk) fun b o e=>yv _ e,Ip _ lo (hi-lo).toNat,?_,fun b hb=>?_,q⟩
 ·have e1:lo+((0:Nat):Int)*1=lo:=by simp
  have e2:(((hi-lo).toNat:Nat):Int)-((0:Nat):Int)=Builtin.Range.rangeSize lo hi 1:=by rw[rangeSize_one];split <;> omega
  show IsRangeIter _ _ (lo+((0:Nat):Int)*1) ((((hi-lo).toNat:Nat):Int)-((0:Nat):Int)) 1;rw[e1,e2];exact yx _ rfl
 ·have e:b=(s.heap.push {cls:=.type "range",data:=.fields #[.int lo t,.int hi u,.int 1 v]}).objs.size:=by simpa using hb
  subst e;exact I1.xj (zm _) (I1.cm.fresh (zm _))
def ND (ta:TA):TI:=fun σ H R=>ta σ H fun vs H1=>∃j:Int,vs=[.int j]/\-(2^62)<=j/\j<2^62/\R (Oh 0 j.toNat) H1
def SH (ta:TA):TI:=fun σ H R=>ta σ H fun vs H1=>∃i j:Int,vs=[.int i,.int j]/\(-(2^62)<=i/\i<2^62/\-(2^62)<=j/\j<2^62)/\R (Oh i (j-i).toNat) H1
def de {a:Expr} {ta:TA} {p pos:Pos} (hg:Gl X "range") (hm:X.mg "range"= none) (ha:PA X [a] ta) (hs:starEach [a] X.env=[(false,eval a X.env)]<|>qe_):PI X tg (.Call (.Name "range" p) [a] [] pos) (ND ta):=by
 intro pins s σ H R I h;refine Call_ (jY I hg hm boot_range (yM (dh (ha pos pins s σ H _ I h) fun us s1 ⟨vs,H1,I1,r1,q1⟩=>?_) hs rfl));obtain⟨j,e,q1,q2,q⟩:=q1;subst e;cases r1 with
 | cons r rr=>
  cases rr;obtain⟨t,rfl⟩:=r;exact call_range_1 (Gj I1 nofun nofun q1 q2 (by simpa using q))
def uV (hg:Gl X "range") (hm:X.mg "range"= none) (ha:PA X [a,b] ta) (hs:starEach [a,b] X.env=[(false,eval a X.env),(false,eval b X.env)]<|>qe_) (hs2:starEach [b] X.env=[(false,eval b X.env)]<|>qe_) :
  PI X tg (.Call (.Name "range" p) [a,b] [] pos) (SH ta):=by
 intro pins s σ H R I h;refine Call_ (jY I hg hm boot_range (yM (dh (ha pos pins s σ H _ I h) fun us s1 ⟨vs,H1,I1,r1,q1⟩=>?_) (by rw[hs,hs2]) (by rw[hs2];rfl)));obtain⟨i,j,e,⟨q1,q2,q3,q4⟩,q⟩:=q1;subst e;cases r1 with
 | cons r rr=>
  cases rr with
  | cons r' rr=>
   cases rr;obtain⟨t,rfl⟩:=r;obtain⟨t',rfl⟩:=r';exact call_range_2 (Gj I1 q1 q2 q3 q4 q)
def QE (wi:TI) (g:TG) (tb:TS):TS:=fun D σ H=>wi σ H fun J H1=>∃W:Nat->Nat->St->Hp->Prop,(∃m,W 0 m σ H1)/\∀i m σ H,W i m σ H->
 (J.stop i H/\D.nx σ H)\/(J.go i H/\∃N:St->Hp->Prop,(∀σ' H',N σ' H'->∃m',m'<m/\W (i+1) m' σ' H')/\∀x H',J.KI i H x H'->g x σ H' fun σ2 H2=>tb {D with nx:=N,ct:=N,bk:=D.nx} σ2 H2)
def uU (fp:List Addr) (h:Heap):List (Addr×Obj):=fp.filterMap fun b=>(h.get? b).map fun o=>(b,o)
def gN (hb:b∈fp) (e:h.get? b=some o):(b,o)∈uU fp h:=List.mem_filterMap.mpr ⟨b,hb,by rw[e];rfl⟩
def Le (hp:p∈uU fp h):p.1∈fp/\h.get? p.1=some p.2:=by
 obtain⟨b,hb,e⟩:=List.mem_filterMap.mp hp;cases q:h.get? b with
 | none=>rw[q] at e;cases e
 | some o=>
  rw[q] at e;have e':(b,o)=p:=yk e;subst e';exact⟨hb,q⟩
def Inv.pinned (I:Inv X pins σ H s) (hf:∀b∈fp,sj X pins H b) (ho:∀b∈fp,∃o,s.heap.get? b=some o/\∀v,o.data≠.cell v):Inv X (pins++uU fp s.heap) σ H s:=
 I.pM fun p hp=>(zG.mp hp).elim (fun z=>I.pin p (zI _ z)) fun z=>by
  obtain⟨hb,e⟩:=Le z;obtain⟨f0,f1,f2,_⟩:=hf p.1 hb;obtain⟨o,e',d⟩:=ho p.1 hb;rw[e] at e';cases e';exact⟨e,f0,f1,f2,d⟩
def Inv.xW (I:Inv X (pins++pl) σ H s):Inv X pins σ H s:=I.pM fun p hp=>I.pin p (zI _ (zJ _ hp))
def cE (hp:PassesOwn (model X.prog X.w) X.A X.env X.xe) (hc:X.calm=true) (hi:PI X tg iter wi) (hg:PG X tg g) (hb:DC X body tb)
  (hs:(∀x,foldedSetIterable iter X.env x=pure x)<|>qd_):PS X (.For tg iter body [] pos) (QE wi g tb):=by
 intro pins s σ H D I h;refine wpAny_For (dh (hi pins s σ H _ I h) fun v s1 h1=>dh h1 fun itv s2 h2=>?_) hs;obtain⟨it,fp,tn,J,H2,e,I2,T,st2,f2,W,⟨m0,w0⟩,turn⟩:=h2;subst e;have stat:∀{H':Hp},(∀b∈fp,H' b=none)->∀b∈fp,sj X pins H' b:=fun hn b hb=>⟨hn b hb,(f2 b hb).2⟩
 refine codeAny_forLoop_any (fun n s'=>∃i σ' H',Inv X pins σ' H' s'/\tn i s'.heap/\(∀b∈fp,H' b=none)/\W i n σ' H') ?_ m0 ⟨0,σ,H2,I2,st2,fun b hb=>(f2 b hb).1,w0⟩;rintro n s3 ⟨i,σ3,H3,I3,st3,fr3,w3⟩;rcases turn i n σ3 H3 w3 with⟨stop,qn⟩ | ⟨go,N,hN,step⟩
 ·refine wpAny_passesOwn hp (dh (T.done X rfl rfl rfl hc i pins s3 σ3 H3 X.xe I3 (stat fr3) st3 stop) fun r s4 ⟨hr,I4⟩=>?_)
  subst hr;exact wpAny_execs_nil ⟨σ3,H3,I4,qn⟩
 ·refine wpAny_passesOwn hp (dh (T.item X rfl rfl rfl hc i pins s3 σ3 H3 X.xe I3 (stat fr3) st3 go) fun r s4 ⟨u,hr,h4⟩=>?_)
  subst hr;refine wpAny_passesOwn hp (dh h4 fun _ s5 zz=>?_);obtain⟨x,H5,I5,r5,y5,st5,fr5⟩:=zz;have I5':=I5.pinned (stat fr5) (T.obj _ _ st5);refine wpAny_passesOwn hp (dh (hg _ s5 σ3 H5 x u _ I5' r5 (step x H5 y5)) fun _ s6 ⟨σ6,H6,I6,q6⟩=>?_);refine wpAny_passesOwn hp (dh (hb _ s6 σ6 H6 _ I6 q6) fun f s7 q7=>?_);have again:∀{σ7:St} {H7:Hp},Inv X (pins++uU fp s5.heap) σ7 H7 s7->N σ7 H7->∃m,m<n/\∃i σ' H',Inv X pins σ' H' s7/\tn i s7.heap/\(∀b∈fp,H' b=none)/\W i m σ' H':=fun {σ7 H7} I7 n7=>by
   obtain⟨m',hm,w7⟩:=hN σ7 H7 n7;refine⟨m',hm,i+1,σ7,H7,I7.xW,T.keep _ _ _ st5 fun b hb o e=>(I7.pin (b,o) (zI _ (zI _ (gN hb e)))).1,fun b hb=>?_,w7⟩;obtain⟨o,e,d⟩:=T.obj _ _ st5 b hb;exact(I7.pin (b,o) (zI _ (zI _ (gN hb e)))).2.1
  cases f with
  | next=>obtain⟨σ7,H7,I7,n7⟩:=q7;exact again I7 n7
  | cont=>obtain⟨σ7,H7,I7,n7⟩:=q7;exact again I7 n7
  | brk=>obtain⟨σ7,H7,I7,q7⟩:=q7;exact⟨σ7,H7,I7.xW,q7⟩
  | ret v=>obtain⟨x7,σ7,H7,I7,r7,q7⟩:=q7;exact⟨x7,σ7,H7,I7.xW,r7,q7⟩
end
def dQ {K:yB} {a:Addr} {xs:List V} {g:TG} {tb:TS} {D:Ends} {σ:St} {H:Hp} (Pv:Nat->St->Hp->Prop) (h0:Pv 0 σ H) (hl:∀i σ H,i<=xs.length->Pv i σ H->aL K H a xs)
  (hs:∀i x σ H,xs[i]?=some x->Pv i σ H->g x σ H fun σ2 H2=>tb {D with nx:=Pv (i+1),ct:=Pv (i+1),bk:=D.nx} σ2 H2) (hd:∀σ H,Pv xs.length σ H->D.nx σ H) :
  ∃W:Nat->Nat->St->Hp->Prop,(∃m,W 0 m σ H)/\∀i m σ H,W i m σ H->
   ((Mc K a).stop i H/\D.nx σ H)\/((Mc K a).go i H/\∃N:St->Hp->Prop,(∀σ' H',N σ' H'->∃m',m'<m/\W (i+1) m' σ' H')/\∀x H',(Mc K a).KI i H x H'->g x σ H' fun σ2 H2=>tb {D with nx:=N,ct:=N,bk:=D.nx} σ2 H2):=by
 refine⟨fun i m σ H=>m=xs.length-i/\i<=xs.length/\Pv i σ H,⟨xs.length,by simp,yg _,h0⟩,?_⟩;rintro i m σ H ⟨rfl,hi,p⟩;have q:=hl i σ H hi p
 by_cases hlt:i<xs.length
 ·refine .inr ⟨⟨xs,xs[i],q,by simp[hlt]⟩,Pv (i+1),fun σ' H' p'=>⟨xs.length-(i+1),nofun,rfl,hlt,p'⟩,fun x H' y=>?_⟩
  obtain⟨e,y⟩:=y;subst e;exact hs i x σ _ (y xs q) p
 ·have e:i=xs.length:=nofun
  subst e;exact .inl ⟨⟨xs,q,zm _⟩,hd σ H p⟩
def Ki {K:yB} {a:Addr} {xs:List V} {g:TG} {tb:TS} {D:Ends} {σ:St} {H:Hp} (Pv:Nat->St->Hp->Prop) (h0:Pv 0 σ H) (hl:∀i σ H,i<=xs.length->Pv i σ H->dB K H a xs)
  (hs:∀i x σ H,xs[i]?=some x->Pv i σ H->g x σ H fun σ2 H2=>tb {D with nx:=Pv (i+1),ct:=Pv (i+1),bk:=D.nx} σ2 H2) (hd:∀σ H,Pv xs.length σ H->D.nx σ H) :
  ∃W:Nat->Nat->St->Hp->Prop,(∃m,W 0 m σ H)/\∀i m σ H,W i m σ H->
   ((Ql K a).stop i H/\D.nx σ H)\/((Ql K a).go i H/\∃N:St->Hp->Prop,(∀σ' H',N σ' H'->∃m',m'<m/\W (i+1) m' σ' H')/\∀x H',(Ql K a).KI i H x H'->g x σ H' fun σ2 H2=>tb {D with nx:=N,ct:=N,bk:=D.nx} σ2 H2):=by
 refine⟨fun i m σ H=>m=xs.length-i/\i<=xs.length/\Pv i σ H,⟨xs.length,by simp,yg _,h0⟩,?_⟩;rintro i m σ H ⟨rfl,hi,p⟩;have q:=hl i σ H hi p
 by_cases hlt:i<xs.length
 ·refine .inr ⟨⟨xs,xs[i],q,by simp[hlt]⟩,Pv (i+1),fun σ' H' p'=>⟨xs.length-(i+1),nofun,rfl,hlt,p'⟩,fun x H' y=>?_⟩
  obtain⟨e,y⟩:=y;subst e;exact hs i x σ _ (y xs q) p
 ·have e:i=xs.length:=nofun
  subst e;exact .inl ⟨⟨xs,q,zm _⟩,hd σ H p⟩
def fX {lo:Int} {n:Nat} {g:TG} {tb:TS} {D:Ends} {σ:St} {H:Hp} (Pv:Nat->St->Hp->Prop) (h0:Pv 0 σ H)
  (hs:∀i σ H,i<n->Pv i σ H->g (.int (lo+i)) σ H fun σ2 H2=>tb {D with nx:=Pv (i+1),ct:=Pv (i+1),bk:=D.nx} σ2 H2) (hd:∀σ H,Pv n σ H->D.nx σ H) :
  ∃W:Nat->Nat->St->Hp->Prop,(∃m,W 0 m σ H)/\∀i m σ H,W i m σ H->
   ((Oh lo n).stop i H/\D.nx σ H)\/((Oh lo n).go i H/\∃N:St->Hp->Prop,(∀σ' H',N σ' H'->∃m',m'<m/\W (i+1) m' σ' H')/\∀x H',(Oh lo n).KI i H x H'->g x σ H' fun σ2 H2=>tb {D with nx:=N,ct:=N,bk:=D.nx} σ2 H2):=by
 refine⟨fun i m σ H=>m=n-i/\i<=n/\Pv i σ H,⟨n,by simp,yg _,h0⟩,?_⟩;rintro i m σ H ⟨rfl,hi,p⟩
 by_cases hlt:i<n
 ·refine .inr ⟨hlt,Pv (i+1),fun σ' H' p'=>⟨n-(i+1),nofun,rfl,hlt,p'⟩,fun x H' y=>?_⟩
  obtain⟨e,y⟩:=y;subst e y;exact hs i σ _ hlt p
 ·have e:i=n:=nofun
  subst e;exact .inl ⟨zm _,hd σ H p⟩
end L2
namespace L2
open PySem PySem.Spec PyProof.Rows
abbrev R2:=V->V->Hp->VK->Prop
def pW (X:Cx) (f:Value->Value->Sem Value) (r:R2):Prop:=
 ∀(pins:List (Addr×Obj)) (s:Shared) (σ:St) (H:Hp) (x y:V) (v u:Value) (Q:VK),Inv X pins σ H s->RelV x v->RelV y u->r x y H Q->
  wpAny (model X.prog X.w) X.A (f v u) (EP X pins σ Q) X.xe s
def UK (X:Cx) (f:Value->Sem Value) (r:V->Hp->VK->Prop):Prop:=
 ∀(pins:List (Addr×Obj)) (s:Shared) (σ:St) (H:Hp) (x:V) (v:Value) (Q:VK),Inv X pins σ H s->RelV x v->r x H Q->
  wpAny (model X.prog X.w) X.A (f v) (EP X pins σ Q) X.xe s
def gc (X:Cx) (f:Value) (r:List V->Hp->VK->Prop):Prop:=
 ∀(pins:List (Addr×Obj)) (s:Shared) (σ:St) (H:Hp) (xs:List V) (us:List Value) (Q:VK),Inv X pins σ H s->Vals xs us->r xs H Q->
  wpAny (model X.prog X.w) X.A (call f us) (EP X pins σ Q) X.xe s
def fP (r:R2) (ta tb:TE):TE:=fun σ H Q=>ta σ H fun x H1=>tb σ H1 fun y H2=>r x y H2 Q
def U4 (r:V->Hp->VK->Prop) (ta:TE):TE:=fun σ H Q=>ta σ H fun x H1=>r x H1 Q
def rI (C:Int->Int->Prop) (g:Int->Int->V):R2:=fun x y H Q=>∃i j,x=.int i/\y=.int j/\C i j/\Q (g i j) H
def wj (g:Int->Int->V):R2:=fun x y H Q=>∃i j,x=.int i/\y=.int j/\Q (g i j) H
def rU (g:Int->V):V->Hp->VK->Prop:=fun x H Q=>∃i,x=.int i/\Q (g i) H
section
variable {X:Cx} {a b c:Expr} {ta tb tc:TE} {pos:Pos}
def RG (ha:PE X a ta) (hb:PE X b tb) {pins:List (Addr×Obj)} {s:Shared} {σ:St} {H:Hp} {R:V->V->Hp->Prop} (I:Inv X pins σ H s)
  (h:ta σ H fun x H1=>tb σ H1 fun y H2=>R x y H2) {Q:Value->Shared->Prop} {f:Value->Value->Sem Value}
  (hf:∀v u s2 x y H2,Inv X pins σ H2 s2->RelV x v->RelV y u->R x y H2->wpAny (model X.prog X.w) X.A (f v u) Q X.xe s2) :
  wpAny (model X.prog X.w) X.A (eval a X.env) (fun v s₁=>wpAny (model X.prog X.w) X.A (eval b X.env) (fun u s₂=>wpAny (model X.prog X.w) X.A (f v u) Q X.xe s₂) X.xe s₁) X.xe s:=by
 refine dh (ha pins s σ H _ I h) fun v s1 zz=>?_;obtain⟨x,H1,I1,r1,q1⟩:=zz;refine dh (hb pins s1 σ H1 _ I1 q1) fun u s2 zz=>?_;obtain⟨y,H2,I2,r2,q2⟩:=zz;exact hf v u s2 x y H2 I2 r1 r2 q2
def ax {op:Operator} {r:R2} (ho:pW X (binaryOp op) r) (ha:PE X a ta) (hb:PE X b tb):PE X (.BinOp a op b pos) (fP r ta tb):=by
 intro pins s σ H Q I h;exact wpAny_BinOp (RG ha hb I h fun v u s2 x y H2 I2 rx ry q=>ho pins s2 σ H2 x y v u Q I2 rx ry q)
def tK (ho:UK X (unaryOp op) r) (ha:PE X a ta):PE X (.UnaryOp op a pos) (U4 r ta):=by
 intro pins s σ H Q I h;exact UnaryOp_ (dh (ha pins s σ H _ I h) fun v s1 ⟨x,H1,I1,r1,q1⟩=>ho pins s1 σ H1 x v Q I1 r1 q1)
def RV {f:Value->Value->Sem Value} {C:Int->Int->Prop} {g:Int->Int->Int}
  (rule:∀(i j:Int) (t u:Tok) (s:Shared) (Q:Value->Shared->Prop) (E:Value->Shared->Prop),C i j->Q (.int (g i j) s.toks) {s with toks:=s.toks+1}->wpAny (model X.prog X.w) X.A (f (.int i t) (.int j u)) Q E s) :
  pW X f (rI C fun i j=>.int (g i j)):=by
 intro pins s σ H x y v u Q I rx ry h;obtain⟨i,j,rfl,rfl,hc,q⟩:=h;obtain⟨t,rfl⟩:=rx;obtain⟨t',rfl⟩:=ry;exact rule i j t t' s _ _ hc ⟨.int (g i j),H,I.tok _,⟨_,rfl⟩,q⟩
def Q7 {f:Value->Value->Sem Value} {g:Int->Int->Int}
  (rule:∀(i j:Int) (t u:Tok) (s:Shared) (Q:Value->Shared->Prop) (E:Value->Shared->Prop),Q (.int (g i j) s.toks) {s with toks:=s.toks+1}->wpAny (model X.prog X.w) X.A (f (.int i t) (.int j u)) Q E s) :
  pW X f (wj fun i j=>.int (g i j)):=by
 intro pins s σ H x y v u Q I rx ry h;obtain⟨i,j,rfl,rfl,q⟩:=h;obtain⟨t,rfl⟩:=rx;obtain⟨t',rfl⟩:=ry;exact rule i j t t' s _ _ ⟨.int (g i j),H,I.tok _,⟨_,rfl⟩,q⟩
def O7 {f:Value->Value->Sem Value} {g:Int->Int->Bool}
  (rule:∀(i j:Int) (t u:Tok) (s:Shared) (Q:Value->Shared->Prop) (E:Value->Shared->Prop),Q (.bool (g i j)) s->wpAny (model X.prog X.w) X.A (f (.int i t) (.int j u)) Q E s) :
  pW X f (wj fun i j=>.bl (g i j)):=by
 intro pins s σ H x y v u Q I rx ry h;obtain⟨i,j,rfl,rfl,q⟩:=h;obtain⟨t,rfl⟩:=rx;obtain⟨t',rfl⟩:=ry;exact rule i j t t' s _ _ ⟨.bl (g i j),H,I,rfl,q⟩
def RQ (i j:Int):Prop:=0<j/\j<1073741824
def L7 (i j:Int):Prop:=(-(2^64)<i/\i<2^64)\/(-(2^64)<j/\j<2^64)
def L7.ok (h:L7 i j):IntMulOk i j:=by
 rcases h with⟨h1,h2⟩ | ⟨h1,h2⟩
 ·exact .of_left (intBits_le_64 h1 h2)
 ·exact .of_right (intBits_le_64 h1 h2)
def Im (k:Nat):(0:Int)<=2^k:=by
 rw[two_pow_cast];exact Int.natCast_nonneg _
def aY:pW X (binaryOp .Add) (wj fun i j=>.int (i+j)):=Q7 fun _ _ _ _ _ _ _ q=>add_int q
def jT:pW X (binaryOp .Sub) (wj fun i j=>.int (i-j)):=Q7 fun _ _ _ _ _ _ _ q=>sub_int q
def dJ:pW X (binaryOp .Mult) (rI L7 fun i j=>.int (i*j)):=RV fun _ _ _ _ _ _ _ hc q=>mul_int q hc.ok
def aX:pW X (binaryOp .FloorDiv) (rI RQ fun i j=>.int (i/j)):=RV fun i j _ _ _ _ _ hc q=>by
 have h1:(0:Int)<j:=hc.1;have h2:j<1073741824:=hc.2;exact floordiv_int nofun (by rw[Int.fdiv_eq_ediv_of_nonneg i nofun];exact q) (.inl (PyProof.noPylong_small nofun))
def aV:pW X (binaryOp .Mod) (rI (fun _ j=>0<j) fun i j=>.int (i%j)):=RV fun i j _ _ _ _ _ hc q=>by
 have h1:(0:Int)<j:=hc;exact mod_int' nofun (by rw[Int.fmod_eq_emod_of_nonneg i nofun];exact q)
def Q5:pW X (binaryOp .RShift) (rI (fun _ j=>0<=j) fun i j=>.int (i/2^j.toNat)):=RV fun i j _ _ _ _ _ hc q=>
 rshift_int hc (by rw[Int.fdiv_eq_ediv_of_nonneg i (Im _)];exact q)
def Q6:pW X (binaryOp .BitAnd) (wj fun i j=>.int (Builtin.bitAnd i j)):=Q7 fun _ _ _ _ _ _ _ q=>and_int q
def U3 {f:Value->Sem Value} {g:Int->Int}
  (rule:∀(i:Int) (t:Tok) (s:Shared) (Q:Value->Shared->Prop) (E:Value->Shared->Prop),Q (.int (g i) s.toks) {s with toks:=s.toks+1}->wpAny (model X.prog X.w) X.A (f (.int i t)) Q E s) :
  UK X f (rU fun i=>.int (g i)):=by
 intro pins s σ H x v Q I rx h;obtain⟨i,rfl,q⟩:=h;obtain⟨t,rfl⟩:=rx;exact rule i t s _ _ ⟨.int (g i),H,I.tok _,⟨_,rfl⟩,q⟩
def mj:UK X (unaryOp .USub) (rU fun i=>.int (-i)):=U3 fun _ _ _ _ _ q=>neg_int q
end
def ON:V->V->Bool
 | .bR,.bR=>true | .bR,.int _=>true | .int _,.bR=>true | .bR,.bl _=>true | .bl _,.bR=>true | .bR,.str _=>true | .str _,.bR=>true
 | .int _,.int _=>true | .bl _,.bl _=>true | .str _,.str _=>true | .Ks _,.Ks _=>true
 | .int _,.str _=>true | .str _,.int _=>true | .bl _,.str _=>true | .str _,.bl _=>true
 | _,_=>false
def Ur:R2:=fun x y H Q=>ON x y=true/\Q (.bl (decide (x=y))) H
def Up:R2:=fun x y H Q=>ON x y=true/\Q (.bl (!decide (x=y))) H
def EL:decide (V.int i=V.int j)=(i == j):=by
 rw[Bool.eq_iff_iff];simp
def NW:decide (V.bl i=V.bl j)=(i == j):=by
 rw[Bool.eq_iff_iff];simp
def EJ:decide (V.str i=V.str j)=(i == j):=by
 rw[Bool.eq_iff_iff];simp
def Km:decide (V.Ks i=V.Ks j)=(i.toList == j.toList):=by
 rw[Bool.eq_iff_iff];cases i;cases j;simp
section
variable {X:Cx} {a b c:Expr} {ta tb tc:TE} {pos:Pos}
def cu (I:Inv X pins σ H s) (q:Q (.bl k) H) (e:k=k'):EP X pins σ Q (.bool k') s:=by
 subst e;exact⟨.bl k,H,I,rfl,q⟩
def dj:pW X (compareOp .Eq) Ur:=by
 intro pins s σ H x y v u Q I rx ry h;obtain⟨hs,q⟩:=h;cases x with
 | bR=>
  cases rx;cases y with
  | bR=>cases ry;exact PySem.EqNone.eq_none_none (cu I q (by simp))
  | bl j=>cases ry;exact PySem.EqNone.eq_none_bool (cu I q (by simp))
  | int j=>obtain⟨t',rfl⟩:=ry;exact PySem.EqNone.eq_none_int (cu I q (by simp))
  | str j=>obtain⟨t',rfl⟩:=ry;exact PySem.EqNone.eq_none_str (cu I q (by simp))
  | _=>exact absurd (show false=true from hs) zL
 | bl i=>
  cases rx;cases y with
  | bR=>cases ry;exact PySem.EqNone.eq_bool_none (cu I q (by simp))
  | bl j=>cases ry;exact eq_bool (cu I q NW)
  | str j=>obtain⟨t',rfl⟩:=ry;exact PySem.EqMixed.eq_bool_str (cu I q (by simp))
  | _=>exact absurd (show false=true from hs) zL
 | int i=>
  obtain⟨t,rfl⟩:=rx;cases y with
  | bR=>cases ry;exact PySem.EqNone.eq_int_none (cu I q (by simp))
  | int j=>obtain⟨t',rfl⟩:=ry;exact eq_int (cu I q EL)
  | str j=>obtain⟨t',rfl⟩:=ry;exact PySem.EqMixed.eq_int_str (cu I q (by simp))
  | _=>exact absurd (show false=true from hs) zL
 | str i=>
  obtain⟨t,rfl⟩:=rx;cases y with
  | bR=>cases ry;exact PySem.EqNone.eq_str_none (cu I q (by simp))
  | bl j=>cases ry;exact PySem.EqMixed.eq_str_bool (cu I q (by simp))
  | int j=>obtain⟨t',rfl⟩:=ry;exact PySem.EqMixed.eq_str_int (cu I q (by simp))
  | str j=>obtain⟨t',rfl⟩:=ry;exact eq_str (cu I q EJ)
  | _=>exact absurd (show false=true from hs) zL
 | Ks i=>
  obtain⟨t,rfl⟩:=rx;cases y with
  | Ks j=>obtain⟨t',rfl⟩:=ry;exact PySem.W.eq_bytes (cu I q Km)
  | _=>exact absurd (show false=true from hs) zL
 | _=>cases y <;> exact absurd (show false=true from hs) zL
def lT:pW X (compareOp .NotEq) Up:=by
 intro pins s σ H x y v u Q I rx ry h;obtain⟨hs,q⟩:=h;cases x with
 | bR=>
  cases rx;cases y with
  | bR=>cases ry;exact PySem.EqNone.ne_none_none (cu I q (by simp))
  | bl j=>cases ry;exact PySem.EqNone.ne_none_bool (cu I q (by simp))
  | int j=>obtain⟨t',rfl⟩:=ry;exact PySem.EqNone.ne_none_int (cu I q (by simp))
  | str j=>obtain⟨t',rfl⟩:=ry;exact PySem.EqNone.ne_none_str (cu I q (by simp))
  | _=>exact absurd (show false=true from hs) zL
 | bl i=>
  cases rx;cases y with
  | bR=>cases ry;exact PySem.EqNone.ne_bool_none (cu I q (by simp))
  | bl j=>cases ry;exact ne_bool (cu I q (congrArg not NW))
  | str j=>obtain⟨t',rfl⟩:=ry;exact PySem.EqMixed.ne_bool_str (cu I q (by simp))
  | _=>exact absurd (show false=true from hs) zL
 | int i=>
  obtain⟨t,rfl⟩:=rx;cases y with
  | bR=>cases ry;exact PySem.EqNone.ne_int_none (cu I q (by simp))
  | int j=>obtain⟨t',rfl⟩:=ry;exact ne_int (cu I q (congrArg not EL))
  | str j=>obtain⟨t',rfl⟩:=ry;exact PySem.EqMixed.ne_int_str (cu I q (by simp))
  | _=>exact absurd (show false=true from hs) zL
 | str i=>
  obtain⟨t,rfl⟩:=rx;cases y with
  | bR=>cases ry;exact PySem.EqNone.ne_str_none (cu I q (by simp))
  | bl j=>cases ry;exact PySem.EqMixed.ne_str_bool (cu I q (by simp))
  | int j=>obtain⟨t',rfl⟩:=ry;exact PySem.EqMixed.ne_str_int (cu I q (by simp))
  | str j=>obtain⟨t',rfl⟩:=ry;exact ne_str (cu I q (congrArg not EJ))
  | _=>exact absurd (show false=true from hs) zL
 | Ks i=>
  obtain⟨t,rfl⟩:=rx;cases y with
  | Ks j=>obtain⟨t',rfl⟩:=ry;exact PySem.W.ne_bytes (cu I q (congrArg not Km))
  | _=>exact absurd (show false=true from hs) zL
 | _=>cases y <;> exact absurd (show false=true from hs) zL
def fA:pW X (compareOp .Lt) (wj fun i j=>.bl (decide (i<j))):=O7 fun _ _ _ _ _ _ _ q=>lt_int q
def gJ:pW X (compareOp .LtE) (wj fun i j=>.bl (decide (i<=j))):=O7 fun _ _ _ _ _ _ _ q=>le_int q
def fI:pW X (compareOp .Gt) (wj fun i j=>.bl (decide (j<i))):=O7 fun _ _ _ _ _ _ _ q=>gt_int q
def C4:pW X (compareOp .GtE) (wj fun i j=>.bl (decide (j<=i))):=O7 fun _ _ _ _ _ _ _ q=>ge_int q
def C3:pW X (compareOp .In) (fun x y H Q=>∃i j,x=.str i/\y=.str j/\Q (.bl (!(Builtin.Str.occurrences j i 0 j.length 1).isEmpty)) H):=by
 intro pins s σ H x y v u Q I rx ry h;obtain⟨i,j,rfl,rfl,q⟩:=h;obtain⟨t,rfl⟩:=rx;obtain⟨t',rfl⟩:=ry;exact in_str (cu I q rfl)
def iS (b:Expr) (h:op≠.In<|>qb_) (h2:op≠.NotIn<|>qb_):behindInMarks op b=false:=by
 have e1:(op == CmpOp.In)=false:=by cases op <;> first | rfl | exact absurd rfl h
 have e2:(op == CmpOp.NotIn)=false:=by cases op <;> first | rfl | exact absurd rfl h2
 cases b <;> simp[behindInMarks,e1,e2]
def dY (ho:pW X (compareOp op) r) (ha:PE X a ta) (hb:PE X b tb) (hm:behindInMarks op b=false):PE X (.Compare a [op] [b] pos) (fP r ta tb):=by
 intro pins s σ H Q I h;exact wpAny_Compare1 (RG ha hb I h fun v u s2 x y H2 I2 rx ry q=>ho pins s2 σ H2 x y v u Q I2 rx ry q) hm
def m9 (t:TE):TT:=fun σ H Q=>t σ H fun x H'=>∃k,x=.bl k/\Q k H'
def jd (ho:pW X (compareOp op) r) (ha:PE X a ta) (hb:PE X b tb) (hm:behindInMarks op b=false):PT X (.Compare a [op] [b] pos) (m9 (fP r ta tb)):=by
 intro pins s σ H Q I h;refine wpAny_isTrue_Compare1 (dh (ha pins s σ H _ I h) fun v s1 ⟨x,H1,I1,r1,q1⟩=>dh (hb pins s1 σ H1 _ I1 q1) fun u s2 ⟨y,H2,I2,r2,q2⟩=>
  dh (ho pins s2 σ H2 x y v u _ I2 r1 r2 q2) fun c s3 ⟨z,H3,I3,r3,k,e,q3⟩=>?_) hm
 subst e;cases r3;exact wpAny_truthy_bool ⟨H3,I3,q3⟩
def yP (r r':R2) (ta tb tc:TE):TE:=fun σ H Q=>ta σ H fun x H1=>tb σ H1 fun y H2=>r x y H2 fun z H3=>∃k,z=.bl k/\
 (if k=true then tc σ H3 fun w' H4=>r' y w' H4 Q else Q (.bl false) H3)
def Gv (ho:pW X (compareOp op) r) (ho':pW X (compareOp op') r') (ha:PE X a ta) (hb:PE X b tb) (hc:PE X c tc)
  (hm:lastMarks [op,op'] [b,c]=false<|>qf_):PE X (.Compare a [op,op'] [b,c] pos) (yP r r' ta tb tc):=by
 intro pins s σ H Q I h;refine Compare_chain (dh (ha pins s σ H _ I h) fun v s1 ⟨x,H1,I1,r1,q1⟩=>chain_link (dh (hb pins s1 σ H1 _ I1 q1) fun u s2 ⟨y,H2,I2,r2,q2⟩=>
  dh (ho pins s2 σ H2 x y v u _ I2 r1 r2 q2) fun d s3 ⟨z,H3,I3,r3,k,e,q3⟩=>?_)) hm
 subst e;cases r3;refine wpAny_truthy_bool ?_;cases k with
 | false=>exact ite_ff ⟨.bl false,H3,I3,rfl,q3⟩
 | true=>exact ite_tt (chain_last (dh (hc pins s3 σ H3 _ I3 q3) fun w' s4 ⟨z',H4,I4,r4,q4⟩=>ho' pins s4 σ H4 y z' u w' Q I4 r2 r4 q4))
def M1 (ho:pW X (compareOp op) r) (ho':pW X (compareOp op') r') (ha:PE X a ta) (hb:PE X b tb) (hc:PE X c tc)
  (hm:lastMarks [op,op'] [b,c]=false<|>qf_):PT X (.Compare a [op,op'] [b,c] pos) (m9 (yP r r' ta tb tc)):=by
 intro pins s σ H Q I h;refine isTrue_chain (dh (ha pins s σ H _ I h) fun v s1 ⟨x,H1,I1,r1,q1⟩=>test_link (dh (hb pins s1 σ H1 _ I1 q1) fun u s2 ⟨y,H2,I2,r2,q2⟩=>
  dh (ho pins s2 σ H2 x y v u _ I2 r1 r2 q2) fun d s3 ⟨z,H3,I3,r3,k,e,q3⟩=>?_)) hm
 subst e;cases r3;refine wpAny_truthy_bool ?_;cases k with
 | false=>
  obtain⟨k',e',q'⟩:=q3;cases e';exact ite_ff ⟨H3,I3,q'⟩
 | true=>
  refine ite_tt (test_last (dh (hc pins s3 σ H3 _ I3 q3) fun w' s4 ⟨z',H4,I4,r4,q4⟩=>dh (ho' pins s4 σ H4 y z' u w' _ I4 r2 r4 q4) fun d' s5 zz=>?_));obtain⟨z2,H5,I5,r5,k2,e2,q5⟩:=zz;subst e2;cases r5;exact wpAny_truthy_bool ⟨H5,I5,q5⟩
def AF:(sizeLine:Nat)<2^63:=by rw[yC];decide
def b7:pW X (binaryOp .Add) (fun x y H Q=>∃i j,x=.str i/\y=.str j/\i.length+j.length<=sizeLine/\Q (.str (i++j)) H):=by
 intro pins s σ H x y v u Q I rx ry h;obtain⟨i,j,rfl,rfl,hz,q⟩:=h;obtain⟨t,rfl⟩:=rx;obtain⟨t',rfl⟩:=ry;exact add_str (fun t' tk=>⟨.str (i++j),H,I.tok _,⟨_,rfl⟩,q⟩) hz
def vals1 (r:Vals [x] us):∃u,us=[u]/\RelV x u:=by
 cases r with
 | cons r1 r2=>cases r2;exact⟨_,rfl,r1⟩
def vals2 (r:Vals [x,y] us):∃u w',us=[u,w']/\RelV x u/\RelV y w':=by
 cases r with
 | cons r1 r2=>
  cases r2 with
  | cons r3 r4=>cases r4;exact⟨_,_,rfl,r1,r3⟩
def HI:gc X (.builtin "abs") (fun xs H Q=>∃i,xs=[.int i]/\Q (.int (if i<0 then -i else i)) H):=by
 intro pins s σ H xs us Q I r h;obtain⟨i,rfl,q⟩:=h;obtain⟨u,rfl,t,rfl⟩:=vals1 r;exact call_abs_int fun u tk=>⟨.int (if i<0 then -i else i),H,I.tok _,⟨_,rfl⟩,q⟩
def LN (hc:X.calm=true):gc X (.builtin "min") (fun xs H Q=>∃i j,xs=[.int i,.int j]/\Q (.int (if j<i then j else i)) H):=by
 intro pins s σ H xs us Q I r h;obtain⟨i,j,rfl,q⟩:=h;obtain⟨u,w',rfl,⟨t,rfl⟩,⟨t',rfl⟩⟩:=vals2 r;refine min_two_ints (I.ok.hd hc) fun h' tk k=>⟨_,H,I.kept k,?_,q⟩
 by_cases hj:j<i
 ·rw[if_pos hj,if_pos hj];exact⟨_,rfl⟩
 ·rw[if_neg hj,if_neg hj];exact⟨_,rfl⟩
def aZ:gc X (.type "str") (fun xs H Q=>∃i,xs=[.int i]/\i.natAbs.log2<1920/\Q (.str (toString i)) H):=by
 intro pins s σ H xs us Q I r h;obtain⟨i,rfl,hz,q⟩:=h;obtain⟨u,rfl,t,rfl⟩:=vals1 r;exact PySem.P.str_of_int hz ⟨.str _,H,I.tok _,⟨_,rfl⟩,q⟩
end
end L2
namespace L2
open PySem PySem.Spec PyProof.Rows
structure L4 (h:Heap) (x dx C:Addr) (mA:Str->Option Value):Prop where
 obj:h.get? x=some (PySem.W.instObj C dx)
 ns:h.Ns1 dx mA
 ne:dx≠x
def Lj {h:Heap} {dx:Addr} {mA:Str->Option Value} (n:h.Ns1 dx mA):∃od,h.get? dx=some od/\∀name,PySem.W.lookIn name od=some (mA name):=by
 obtain⟨o,es,ep,ho,hd,hk,_,hm⟩:=n;refine⟨o,ho,fun name=>?_⟩;have e:=hm name;unfold nsFind findBy at e;rw[<-Array.find?_toList] at e;unfold PySem.W.lookIn;rw[hd];dsimp only;split
 ·rename_i y q
  rw[q] at e;exact congrArg some e
 ·rename_i q
  rw[q] at e;have a:es.toList.any (·.refKey)=false:=by
   rw[List.any_eq_false];intro y hy;obtain⟨z,t,hkey⟩:=hk y (Array.mem_toList_iff.mp hy);simp[DictEntry.refKey,hkey]
  have a':¬es.toList.any (·.refKey)=true:=by rw[a];exact zL
  rw[if_neg a'];exact congrArg some e
def L4.look (I:L4 h x dx C mA):∃od,PySem.W.InstAt h x (PySem.W.instObj C dx) C (some od)/\∀name,PySem.W.lookIn name od=some (mA name):=
 let ⟨od,ho,hl⟩:=Lj I.ns
 ⟨od,⟨I.obj,rfl,rfl,ho⟩,hl⟩
section
variable {prog:Program} {w:World} {A:Around} {E:Value->Shared->Prop} {s:Shared} {K:yB} {x dx C f:Addr} {mA:Str->Option Value} {name:Str} {v:Value}
def get_map (X:K.In s.heap) (I:L4 s.heap x dx C mA) (hg:PySem.W.plainGet K C name=true) (hh:PySem.W.hasDictIn K C=true)
  (ha:PySem.W.findIn K (.ref C) name=some none) (hv:mA name=some v) (hv':PySem.W.handedIn v=true) (h:Q v {s with toks:=s.toks+1}) :
  wpAny (model prog w) A (getAttr (.ref x) name expr) Q E s:=by
 obtain⟨od,J,hl⟩:=I.look;exact PySem.W.get_value X J (PySem.W.plainGet_of hg).1 (PySem.W.findObj_own hh ha rfl (by rw[hl,hv])) hv' h
def OM (X:K.In s.heap) (I:L4 s.heap x dx C mA)
  (hs:PySem.W.findIn K (.ref C) "__setattr__"= some (some (.builtin "object.__setattr__"))) (hp:PySem.W.plainOver K C=true) (ht:PySem.W.takerIn K C name=some none) (hh:PySem.W.hasDictIn K C=true)
  (hw:PySem.Within mA ns) (hsz:ns.length<=sizeLine)
  (h:∀h',L4 h' x dx C (fun y=>if y=name then some v else mA y)->Heap.SameBut dx s.heap h'->Q () {s with heap:=h',toks:=s.toks+2}) :
  wpAny (model prog w) A (setAttr (.ref x) name v) Q E s:=by
 obtain⟨od,J,hl⟩:=I.look;refine PySem.W.set_plain X J hs (PySem.W.osa_open (s:={s with toks:=s.toks+1}) (r:=none) X J hp ht fun b=>?_);obtain⟨cd,hc,hd'⟩:=PySem.W.any_some hh;have hx:s.heap.get? x=some ⟨.ref C,some dx,.plain,#[]⟩:=I.obj;refine yu (yw (yu (yu (wpAny_loadPart hx (yu (PySem.W.Looks.here (s:={s with toks:=s.toks+1}) (PySem.W.looks_clsIn X hc) ?_))))));rw[hd'];refine yw (a:=some dx) (yu (yw (yu ?_)));refine wpAny_nsSet1 (s:={s with toks:=s.toks+1}) I.ns fun h' hn2 hs2=>?_;obtain⟨oD,esD,epD,hoD,hdD,hcD⟩:=hn2.count (PySem.Within.cons name v hw);refine yu (wpAny_lookBehind hoD (by rw[hdD];exact pastItsLine_dict (zM hcD (by rw[zv];omega))) ?_);exact yw (h _ ⟨(hs2.2 _ (Ne.symm I.ne)).trans I.obj,hn2,I.ne⟩ hs2)
def Np (X:K.In s.heap) (hm:PySem.W.makesIn K C=true)
  (hi:PySem.W.findIn K (.ref C) "__init__"= some (some (.ref f))) (hf:PySem.W.typeIn K (.ref f)=some (.type "function"))
  (h:codeAny (model prog w) (A.under (.builtin "type.__call__" ⟨.ref C::vs,kw⟩)) (.call (.ref f) ⟨.ref (↑s+1)::vs,kw⟩) (PySem.W.InitBack (↑s+1) R)
   {s with heap:=(s.heap.push PySem.W.emptyDict).push (PySem.W.instObj C ↑s)}) :
  codeAny (model prog w) A (.call (.ref C) ⟨vs,kw⟩) R s:=by
 obtain⟨hh,g,d,t,os⟩:=s;exact PySem.W.make_core (PySem.W.makes_of X hm) (PySem.W.looks_findIn X hi) (fun self=>PySem.W.bind_fn X self hf) (.inl rfl) h
end
def bc (f:Str) (v:V):List (Str×V)->List (Str×V)
 | []=>[(f,v)]
 | (g,x)::r=>if g=f then(g,v)::r else(g,x)::bc f v r
theorem wq (f g:Str) (v:V):∀fs:List (Str×V),(bc f v fs).lookup g=if g=f then some v else fs.lookup g
 | []=>by
  show List.lookup g [(f,v)]=_
  by_cases h:g=f
  ·have hb:(g == f)=true:=beq_iff_eq.mpr h
   simp only[List.lookup,hb,if_pos h]
  ·have hb:(g == f)=false:=beq_eq_false_iff_ne.mpr h
   simp only[List.lookup,hb,if_neg h]
 | (k,x)::r=>by
  have ih:=wq f g v r;rw[show bc f v ((k,x)::r)=(if k=f then(k,v)::r else(k,x)::bc f v r) from rfl]
  by_cases hk:k=f
  ·rw[if_pos hk]
   by_cases h:g=k
   ·have hb:(g == k)=true:=beq_iff_eq.mpr h
    simp only[List.lookup,hb,if_pos (h.trans hk)]
   ·have hb:(g == k)=false:=beq_eq_false_iff_ne.mpr h
    simp only[List.lookup,hb,if_neg (fun e:g=f=>h (e.trans hk.symm))]
  ·rw[if_neg hk]
   by_cases h:g=k
   ·have hb:(g == k)=true:=beq_iff_eq.mpr h
    simp only[List.lookup,hb,if_neg (fun e:g=f=>hk (h.symm.trans e))]
   ·have hb:(g == k)=false:=beq_eq_false_iff_ne.mpr h
    simp only[List.lookup,hb];exact ih
theorem vf (f:Str) (v:V):∀fs:List (Str×V),f∈(bc f v fs).map (·.1)/\∀g,g∈fs.map (·.1)->g∈(bc f v fs).map (·.1)
 | []=>⟨by simp[bc],fun g h=>by simp at h⟩
 | (k,x)::r=>by
  obtain⟨i1,i2⟩:=vf f v r;rw[show bc f v ((k,x)::r)=(if k=f then(k,v)::r else(k,x)::bc f v r) from rfl]
  by_cases hk:k=f
  ·rw[if_pos hk]
   subst hk;exact⟨by simp,fun g h=>by simpa using h⟩
  ·rw[if_neg hk]
   refine⟨?_,fun g h=>?_⟩
   ·rw[zj]
    exact zp _ i1
   ·rw[zj] at h ⊢
    rcases zD.mp h with e | e
    ·exact zD.mpr (.inl e)
    ·exact zp _ (i2 g e)
theorem wt (f:Str) (v:V):∀fs:List (Str×V),(bc f v fs).length<=fs.length+1
 | []=>by simp[bc]
 | (k,x)::r=>by
  have ih:=wt f v r;rw[show bc f v ((k,x)::r)=(if k=f then(k,v)::r else(k,x)::bc f v r) from rfl]
  by_cases hk:k=f
  ·rw[if_pos hk,zv,zv];omega
  ·rw[if_neg hk,zv,zv];omega
def m8.some_of (r:m8 (some v) o):∃u,o=some u/\RelV v u:=by
 cases o with
 | none=>exact(show False from r).elim
 | some u=>exact⟨u,rfl,r⟩
def Lv (r:RelV v u):PySem.W.handedIn u=true:=by
 cases v with
 | bR=>cases(show u=Value.none from r);rfl
 | bl b=>cases(show u=Value.bool b from r);rfl
 | int i=>obtain⟨t,e⟩:=(show∃t,u=Value.int i t from r);cases e;rfl
 | str x=>obtain⟨t,e⟩:=(show∃t,u=Value.str x t from r);cases e;rfl
 | Ks b=>obtain⟨t,e⟩:=(show∃t,u=Value.bytes b t from r);cases e;rfl
 | Pk b=>obtain⟨t,e⟩:=(show∃t,u=Value.float b t from r);cases e;rfl
 | ref a=>cases(show u=Value.ref a from r);rfl
 | ty n=>cases(show u=Value.type n from r);rfl
section
variable {P:Program} {w:World} {H H':Hp} {h h':Heap} {a C dx:Addr} {fs fs':List (Str×V)}
def EF (cm:si P w H h) (e:H a=some (.ins C dx fs)):∃mA,L4 h a dx C mA/\(∀f,m8 (fs.lookup f) (mA f))/\PySem.Within mA (fs.map (·.1))/\fs.length<=1000/\H dx=some (.own a):=by
 obtain⟨d,z,ne,ob,mA,n,r,q⟩:=(show cI P w H h a (.ins C dx fs) from cm a _ e)
 exact⟨mA,⟨ob,n,ne⟩,r,q,z,d⟩
end
structure PN (K:yB) (C:Addr):Prop where
 pg:PySem.W.plainGet K C Str.empty=true
 hd:PySem.W.hasDictIn K C=true
 po:PySem.W.plainOver K C=true
 sa:PySem.W.findIn K (.ref C) "__setattr__"= some (some (.builtin "object.__setattr__"))
def PN.get {K:yB} {C:Addr} (c:PN K C) (f:Str):PySem.W.plainGet K C f=true:=c.pg
def fi (K:yB) (C:Addr) (f:Str):Prop:=PySem.W.findIn K (.ref C) f=some none
def fi.R8 {K:yB} {C:Addr} {f:Str} (n:fi K C f):PySem.W.takerIn K C f=some none:=by
 unfold PySem.W.takerIn;rw[show PySem.W.findIn K (.ref C) f=some none from n];rfl
section
variable {X:Cx} {pins:List (Addr×Obj)} {σ:St} {H:Hp} {s:Shared} {a C dx:Addr} {fs:List (Str×V)} {f:Str} {v:V} {A:Around} {E:Value->Shared->Prop}
def Jd (I:Inv X pins σ H s) (e:H a=some (.ins C dx fs)) (c:PN X.K C) (n:fi X.K C f) (l:fs.lookup f=some v)
  (h:∀u s',Inv X pins σ H s'->RelV v u->Q u s'):wpAny (model X.prog X.w) A (getAttr (.ref a) f b) Q E s:=by
 obtain⟨mA,O,r,_,_,_⟩:=EF I.cm e;obtain⟨u,hu,ru⟩:=m8.some_of (v:=v) (o:=mA f) (by rw[<-l];exact r f);exact get_map I.tW O (c.get f) c.hd n hu (Lv ru) (h u _ (I.tok _) ru)
def IC (I:Inv X pins σ H s) (e:H a=some (.ins C dx fs)) (c:PN X.K C) (n:fi X.K C f) (hl:fs.length<1000) (ry:RelV y u)
  (h:∀s',Inv X pins σ (upd H a (.ins C dx (bc f y fs))) s'->Q () s'):wpAny (model X.prog X.w) A (setAttr (.ref a) f u) Q E s:=by
 obtain⟨mA,O,r,wi,_,ho⟩:=EF I.cm e;have hz:(fs.map (·.1)).length<=sizeLine:=by rw[za,yC];omega
 refine OM I.tW O c.sa c.po n.R8 c.hd wi hz fun h' O' sb=>h _ ?_;have hd:∃o,h'.get? dx=some o:=let ⟨o,_,_,e',_⟩:=O'.ns;⟨o,e'⟩;refine I.write (x:=a) (e:=dx) (by rw[e];exact True.intro) (.inr ho) (fun b q hb z=>(sb.2 b hb).trans z) hd ?_;refine⟨by rw[aH O.ne];exact ho,?_,O.ne,O'.obj,_,O'.ns,fun g=>?_,fun g hg=>?_⟩
 ·have:=wt f y fs;omega
 ·show m8 ((bc f y fs).lookup g) (if g=f then some u else mA g)
  rw[wq]
  by_cases q:g=f
  ·rw[if_pos q,if_pos q];exact ry
  ·rw[if_neg q,if_neg q];exact r g
 ·by_cases q:g=f
  ·rw[q];exact(vf f y fs).1
  ·refine(vf f y fs).2 g (wi g fun z=>hg ?_)
   show(if g=f then some u else mA g)=none;rw[if_neg q];exact z
def Inv.made (I:Inv X pins σ H s):Inv X pins σ (upd (upd H ↑s (.own (↑s+1))) (↑s+1) (.ins C ↑s []))
  {s with heap:=(s.heap.push PySem.W.emptyDict).push (PySem.W.instObj C ↑s)}:=by
 have e1:(s.heap.push PySem.W.emptyDict).get? ↑s=some PySem.W.emptyDict:=yx s.heap rfl;have e2:((s.heap.push PySem.W.emptyDict).push (PySem.W.instObj C ↑s)).get? (↑s+1)=some (PySem.W.instObj C ↑s):=by
  have:=yx (s.heap.push PySem.W.emptyDict) (o:=PySem.W.instObj C ↑s) rfl
  rwa [Heap.size_push] at this
 have e3:(s.heap.push PySem.W.emptyDict).Ns ↑s (fun _=>none):=⟨PySem.W.emptyDict,#[],_,e1,rfl,(fun e he=>absurd he (by simp)),fun _=>rfl⟩
 have I1:=I.laid (a:=↑s) (o:=.own (↑s+1)) (h':=s.heap.push PySem.W.emptyDict) (t':=s.toks) (fun b u q=>yv _ q) (zm _) ⟨_,e1⟩;refine I1.laid (a:=↑s+1) (o:=.ins C ↑s []) (t':=s.toks) (fun b u q=>yv _ q) (Nat.le_of_eq (Heap.size_push _ _)) ?_;have ne:↑s≠↑s+1:=yj (Nat.lt_succ_self _);refine⟨by rw[aH ne,aC],yg _,ne,e2,fun _=>none,(Heap.Ns1.of_empty e3).at fun o q=>yv _ q,fun _=>True.intro,fun y hy=>absurd rfl hy⟩
def Py (hb:attributeBase e f env (eval e env)=eval e env)
  (h:wpAny (model prog w) A (eval e env) (fun o s₁=>wpAny (model prog w) A (getAttr o f true) Q E s₁) E s):wpAny (model prog w) A (eval (.Attribute e f pos) env) Q E s:=
 Attribute_any_ h (by rw[arm_eval_Attribute,hb])
end
def OF (K:yB) (ta:TE) (f:Str):TE:=fun σ H Q=>ta σ H fun x H1=>∃a C dx fs v,x=.ref a/\H1 a=some (.ins C dx fs)/\PN K C/\fi K C f/\fs.lookup f=some v/\Q v H1
def Um (K:yB) (ta tv:TE) (f:Str):TS:=fun D σ H=>tv σ H fun y H1=>ta σ H1 fun x H2=>∃a C dx fs,x=.ref a/\H2 a=some (.ins C dx fs)/\PN K C/\fi K C f/\fs.length<1000/\
 D.nx σ (upd H2 a (.ins C dx (bc f y fs)))
section
variable {X:Cx} {o e value:Expr} {f:Str} {pos pos' tpos:Pos} {ta tv:TE}
def bP (he:PE X e ta) (hb:attributeBase e f X.env (eval e X.env)=eval e X.env):PE X (.Attribute e f pos) (OF X.K ta f):=by
 intro pins s σ H Q I h;refine Py hb (dh (he pins s σ H _ I h) fun u s1 zz=>?_);obtain⟨x,H1,I1,rx,a,C,dx,fs,v,ex,ea,c,n,l,q⟩:=zz;subst ex;obtain rfl:u=Value.ref a:=rx;exact Jd I1 ea c n l fun u' s2 I2 ru=>⟨v,H1,I2,ru,q⟩
def jQ (ha:PE X o ta) (hv:PE X value tv) (hs:swapsWith value (some (.Attribute o f pos')) pos.line X.env=pure false):PS X (.Assign [.Attribute o f pos'] value pos) (Um X.K ta tv f):=by
 intro pins s σ H D I h;refine plainObj_wpAny_Assign_Attribute (dh (hv pins s σ H _ I h) fun u s1 ⟨y,H1,I1,ry,q⟩=>dh (ha pins s1 σ H1 _ I1 q) fun ov s2 ⟨x,H2,I2,rx,a,C,dx,fs,ex,ea,c,n,l,q2⟩=>?_) hs;subst ex;obtain rfl:ov=Value.ref a:=rx;exact IC I2 ea c n l ry fun s3 I3=>⟨σ,_,I3,q2⟩
end
section
variable {X:Cx} {pins:List (Addr×Obj)} {σ:St} {H:Hp} {s:Shared} {A:Around} {E:Value->Shared->Prop} {Q:Value->Shared->Prop} {c:Value} {b:Bool}
inductive vI (K:yB) (H:Hp):V->Value->Prop where
 | bR:vI K H .bR (.type "NoneType")
 | bl (x:Bool):vI K H (.bl x) (.type "bool")
 | int (i:Int):vI K H (.int i) (.type "int")
 | str (x:Str):vI K H (.str x) (.type "str")
 | Pk (x:UInt64):vI K H (.Pk x) (.type "float")
 | lst {a:Addr} {xs:List V} (e:H a=some (.lst xs)):vI K H (.ref a) (.type "list")
 | oy {a:Addr} {o:Obj} {xs:List V} (e:H a=some (.oy o (.lst xs))):vI K H (.ref a) (.type "list")
 | tup {a:Addr} {xs:List V} (e:H a=some (.tup xs)):vI K H (.ref a) (.type "tuple")
 | dK {a:Addr} {kvs:List (Key×V)} (e:H a=some (.dK kvs)):vI K H (.ref a) (.type "dict")
 | dT {a:Addr} {kvs:List (List Key×V)} (e:H a=some (.dT kvs)):vI K H (.ref a) (.type "dict")
 | ins {a C dx:Addr} {fs:List (Str×V)} (e:H a=some (.ins C dx fs)) (cl:PN K C) (ha:PySem.W.findIn K (.ref C) "__class__"= some (some (.builtin "object.__class__")))
   (hn:PySem.W.specialIn K (.builtin "object.__class__") "__get__"= some (some (.builtin "getset_descriptor.__get__"))) (htk:PySem.W.takesIn K (.builtin "object.__class__")=some true)
   (hm:PySem.W.mroIn K C (.type "object")=some true):vI K H (.ref a) (.ref C)
def Lq (I:Inv X pins σ H s) (rx:RelV x u) (ty:vI X.K H x t) (e:PySem.W.kitOne X.K t c=some b) (h:∀tk,Q (.bool b) {s with toks:=tk}) :
  wpAny (model X.prog X.w) A (call (.builtin "isinstance") [u,c]) Q E s:=by
 cases ty with
 | bR=>cases(show u=Value.none from rx);exact PySem.W.kia_one PySem.W.kitx_none I.tW True.intro e (fun z=>nomatch z) h
 | bl y=>cases(show u=Value.bool y from rx);exact PySem.W.kia_one PySem.W.kitx_bool I.tW True.intro e (fun z=>nomatch z) h
 | int i=>obtain⟨t,q⟩:=(show∃t,u=Value.int i t from rx);cases q;exact PySem.W.kia_one PySem.W.kitx_int I.tW True.intro e (fun z=>nomatch z) h
 | str y=>obtain⟨t,q⟩:=(show∃t,u=Value.str y t from rx);cases q;exact PySem.W.kia_one PySem.W.kitx_str I.tW True.intro e (fun z=>nomatch z) h
 | Pk y=>obtain⟨t,q⟩:=(show∃t,u=Value.float y t from rx);cases q;exact PySem.W.kia_one PySem.W.kitx_float I.tW True.intro e (fun z=>nomatch z) h
 | @lst a xs ea=>
  cases(show u=Value.ref a from rx);obtain⟨_,_,n,_,h1⟩:=(show cI X.prog X.w H s.heap a (.lst xs) from I.cm a _ ea)
  exact PySem.W.kia_one PySem.W.kitx_list I.tW ⟨_,h1,rfl⟩ e (fun z=>nomatch z) h
 | @oy a ob xs ea=>
  cases(show u=Value.ref a from rx);obtain⟨_,_,_,n,_,h1⟩:=(show cI X.prog X.w H s.heap a (.oy ob (.lst xs)) from I.cm a _ ea)
  exact PySem.W.kia_one PySem.W.kitx_list I.tW ⟨_,h1,rfl⟩ e (fun z=>nomatch z) h
 | @tup a xs ea=>
  cases(show u=Value.ref a from rx);obtain⟨_,_,_,p⟩:=(show cI X.prog X.w H s.heap a (.tup xs) from I.cm a _ ea)
  obtain⟨o,h1,h2,_⟩:=p;exact PySem.W.kia_one PySem.W.kitx_tuple I.tW ⟨o,h1,h2⟩ e (fun z=>nomatch z) h
 | @dK a kvs ea=>
  cases(show u=Value.ref a from rx);obtain⟨_,_,vs,_,p⟩:=(show cI X.prog X.w H s.heap a (.dK kvs) from I.cm a _ ea)
  obtain⟨o,es,ep,h1,h2,_⟩:=p;exact PySem.W.kia_one PySem.W.kitx_dict I.tW ⟨o,h1,h2.1⟩ e (fun z=>nomatch z) h
 | @dT a kvs ea=>
  cases(show u=Value.ref a from rx);obtain⟨_,_,xs,_,o,es,ep,h1,h2,_⟩:=(show cI X.prog X.w H s.heap a (.dT kvs) from I.cm a _ ea)
  exact PySem.W.kia_one PySem.W.kitx_dict I.tW ⟨o,h1,h2.1⟩ e (fun z=>nomatch z) h
 | @ins a C dx fs ea cl ha hn htk hm=>
  cases(show u=Value.ref a from rx);obtain⟨mA,O,_⟩:=EF I.cm ea;obtain⟨od,J,_⟩:=O.look;exact PySem.W.kia_one (PySem.W.kitx_own (cl.get _) cl.hd ha hn htk hm) I.tW J e (fun z=>nomatch z) h
end
end L2
namespace L2
open PySem PySem.Spec PyProof.Rows
structure gg (k:Nat) (A:Around):Prop where
 hd:A.handled=none
 dp:A.depth+3*k+5<recursionLimit
 un:A.units+16*k+200<cLine
def gg.mono (r:gg k A) (h:j<=k):gg j A:=⟨r.hd,by have:=r.dp;omega,by have:=r.un;omega⟩
theorem gg.deeper (r:gg (k+1) A) (env:Env):gg k (A.deeper env):=
 ⟨r.hd,by have:=r.dp;show A.depth+1+3*k+5<_;omega,by have:=r.un;show A.units+3+16*k+200<_;omega⟩
def I0 {A:Around} {C:Addr} {us:List Value} {kw:List (Str×Value)}:(A.under (.builtin "type.__call__" ⟨.ref C::us,kw⟩)).depth=A.depth+1:=by
 first | rfl | simp[Around.under,Code.weight,Code.isCreation,Code.isGuard,Code.isCaller,Code.frames,Code.isFrame,guardIds]
def IZ {A:Around} {C:Addr} {us:List Value} {kw:List (Str×Value)}:(A.under (.builtin "type.__call__" ⟨.ref C::us,kw⟩)).units=A.units+1:=by
 first | rfl | simp[Around.under,Code.cUnits,Code.frames,Code.isFrame]
def gg.make (r:gg (k+1) A) (C:Addr) (us:List Value) (kw:List (Str×Value)):gg k (A.under (.builtin "type.__call__" ⟨.ref C::us,kw⟩)):=
 ⟨r.hd,by have:=r.dp;rw[I0];omega,by have:=r.un;rw[IZ];omega⟩
theorem gg.depth (r:gg k A):A.depth<recursionLimit:=by have:=r.dp;omega
theorem gg.units (r:gg k A):A.units+64<cLine:=by have:=r.un;omega
def eV:TA:=fun _ H Q=>Q [] H
def bX (ta:TE) (tr:TA):TA:=fun σ H Q=>ta σ H fun x H1=>tr σ H1 fun xs H2=>Q (x::xs) H2
section
variable {X:Cx} {e:Expr} {es:List Expr} {te:TE} {t:TA} {pos:Pos}
def af:PA X [] eV:=fun _ _ _ _ H Q I h=>Calls.spliced_nil ⟨[],H,I,.nil,h⟩
def ah (ha:PE X e te) (hr:PA X es t) (hs:starEach (e::es) X.env=(false,eval e X.env)::starEach es X.env<|>qe_):PA X (e::es) (bX te t):=by
 intro pos pins s σ H Q I h;rw[hs];show wpAny _ _ (spliced ((false,eval e X.env)::backTo pos (starEach es X.env))) _ _ s;refine Calls.spliced_cons (dh (ha pins s σ H _ I h) fun u s1 zz=>?_);obtain⟨x,H1,I1,r1,q1⟩:=zz;exact dh (hr pos pins s1 σ H1 _ I1 q1) fun us s2 ⟨xs,H2,I2,r2,q2⟩=>⟨x::xs,H2,I2,.cons r1 r2,q2⟩
def FQ (t:TA):TE:=fun σ H Q=>t σ H fun xs H1=>xs.length<=sizeLine/\∀p,H1 p=none->Q (.ref p) (upd H1 p (.tup xs))
def FT (t:TA):TE:=fun σ H Q=>t σ H fun xs H1=>xs.length<=sizeLine/\∀p,H1 p=none->Q (.ref p) (upd H1 p (.lst xs))
def bG {x1} (h:PA X es t):PE X (.Tuple es x1 pos) (FQ t):=by
 intro pins s σ H Q I hq;refine wpAny_Tuple_spliced (dh (h pos pins s σ H _ I hq) fun us s1 ⟨xs,H1,I1,r,z,q⟩=>⟨by rw[<-r.length];exact z,?_⟩);have hf:H1 ↑s1=none:=I1.cm.fresh (zm _);refine⟨.ref ↑s1,upd H1 ↑s1 (.tup xs),I1.laid (t':=s1.toks) (fun b u e=>yv _ e) (zm _) ?_,rfl,q _ hf⟩;exact⟨z,us,r,⟨_,yx _ rfl,rfl,_,rfl⟩⟩
def bB (h:PA X es t):PE X (.List es pos) (FT t):=by
 intro pins s σ H Q I hq;refine wpAny_List_spliced (dh (h pos pins s σ H _ I hq) fun us s1 ⟨xs,H1,I1,r,z,q⟩=>⟨by rw[<-r.length];exact z,?_⟩);have hf:H1 ↑s1=none:=I1.cm.fresh (zm _);refine⟨.ref ↑s1,upd H1 ↑s1 (.lst xs),I1.laid (t':=s1.toks) (fun b u e=>yv _ e) (zm _) ?_,rfl,q _ hf⟩;exact⟨z,us,0,r,yx _ rfl⟩
end
abbrev Sp:=List V->Hp->VK->XK->Prop
abbrev JR:=List Env->Hp->Shared->XK->Value->Shared->Prop
structure Ib (P:Program) (w:World) (K:yB) (mg:Str->Option Value) (base:Heap) (A:Around) (outer:List Env) (s:Shared) (H:Hp):Prop where
 frames:A.frames=some outer
 mod:Mod K mg base
 bs:∀b o,base.get? b=some o->s.heap.get? b=some o/\H b=none
 L9:base.objs.size<=↑s
 qo:s.heap.FunFrames base outer
 G5:∀b∈qR outer,H b=none
 cm:si P w H s.heap
 bare:AllBare s.gens
def CE (outer:List Env) (P:Program) (w:World) (H:Hp) (s:Shared) (Q:VK) (u:Value) (s':Shared):Prop:=
 ∃v H',s'.os=s.os/\AllBare s'.gens/\Un (qR outer) [] H H' s.heap s'.heap/\si P w H' s'.heap/\RelV v u/\Q v H'
def CR (CX:JR) (outer:List Env) (P:Program) (w:World) (H:Hp) (s:Shared) (Q:VK) (E:XK) (r:Result) (s':Shared):Prop:=
 match r with
 | .ok (.ret u)=>CE outer P w H s Q u s'
 | .ok _=>False
 | .error e=>CX outer H s E e s'
structure dU (P:Program) (w:World) (K:yB) (mg:Str->Option Value) (base:Heap) (CX:JR) (k:Nat) (f:Addr) (fd:FuncData) (ps:List Str) (sp:Sp):Prop where
 len:∀vs H Q E,sp vs H Q E->vs.length=ps.length
 run:∀(A:Around) (outer:List Env) (s:Shared) (H:Hp) (args:Args) (us:List Value) (vs:List V) (Q:VK) (E:XK),gg k A->Ib P w K mg base A outer s H->BindsTo s fd args (ps.zip us)->Vals vs us->sp vs H Q E->
  codeAny (model P w) A (.call (.ref f) args) (CR CX outer P w H s Q E) s
theorem dU.mono {P:Program} {w:World} {K:yB} {mg:Str->Option Value} {base:Heap} {CX:JR} {j k:Nat} {f:Addr} {fd:FuncData} {ps:List Str} {sp:Sp} (F:dU P w K mg base CX j f fd ps sp) (h:j<=k) :
  dU P w K mg base CX k f fd ps sp:=⟨F.len,fun A outer s H args us vs Q E hr=>F.run A outer s H args us vs Q E (hr.mono h)⟩
def Ib.make {P:Program} {w:World} {K:yB} {mg:Str->Option Value} {base:Heap} {A:Around} {outer:List Env} {s:Shared} {H:Hp} (e:Ib P w K mg base A outer s H) (C:Addr) (us:List Value) (kw:List (Str×Value)) :
  Ib P w K mg base (A.under (.builtin "type.__call__" ⟨.ref C::us,kw⟩)) outer s H:=⟨by first | exact e.frames | (simpa[Around.under,Code.envs,Code.isFrame,pushEnvs] using e.frames),e.mod,e.bs,e.L9,e.qo,e.G5,e.cm,e.bare⟩
section
variable {X:Cx} {pins:List (Addr×Obj)} {σ:St} {H:Hp} {s s':Shared}
def Inv.Po (I:Inv X pins σ H s):Ib X.prog X.w X.K X.mg X.base X.A X.stack s H:=
 ⟨I.ok.frames,I.ok.mod,I.bs,zM I.ok.L9 I.sz,I.stack,I.su,I.cm,I.bare⟩
def Inv.after (I:Inv X pins σ H s) (h:CE X.stack X.prog X.w H s Q u s'):EP X pins σ Q u s':=by
 obtain⟨v,H',os,bare,un,cm,r,q⟩:=h;obtain⟨hh,g,d,t,os'⟩:=s';obtain rfl:os'=s.os:=os;exact⟨v,H',I.call (h':=hh) (g':=g) (d':=d) (t':=t) (ch:=[]) un cm bare (fun b z=>absurd z (by simp)),r,q⟩
end
def iA (sp:Sp) (dvs:List V) (E:XK) (t:TA):TE:=fun σ H Q=>t σ H fun vs H1=>sp (vs++dvs) H1 Q E
def Sd (C:Addr) (sp:Sp) (dvs:List V) (E:XK) (t:TA):TE:=fun σ H Q=>t σ H fun vs H1=>∀x dx,H1 x=none->H1 dx=none->dx≠x->
 sp (.ref x::(vs++dvs)) (upd (upd H1 dx (.own x)) x (.ins C dx [])) (fun v H2=>v=.bR/\Q (.ref x) H2) E
def Binds (K:yB) (fd:FuncData) (ps:List Str) (ds:List Value):Prop:=
 ∀(s:Shared) (us:List Value),K.In s.heap->(us++ds).length=ps.length->BindsTo s fd ⟨us,[]⟩ (ps.zip (us++ds))
def Binds.all {K:yB} {fd:FuncData} {ps:List Str} (h:∀us:List Value,us.length=ps.length->bindArgs fd ⟨us,[]⟩=pure (ps.zip us)):Binds K fd ps []:=fun s us _ hl=>by
 rw[zV] at hl ⊢;exact .of_eq (h us hl)
def Passes (CX:JR) (X:Cx) (E:XK):Prop:=∀(pins:List (Addr×Obj)) (σ:St) (H:Hp) (s:Shared) (e:Value) (s':Shared),Inv X pins σ H s->CX X.stack H s E e s'->X.xe e s'
section
variable {X:Cx} {CX:JR} {k:Nat} {f C:Addr} {fd:FuncData} {ps:List Str} {sp:Sp} {dvs:List V} {ds:List Value} {E:XK} {x m:Str} {p pos apos:Pos} {e o:Expr} {es:List Expr} {ta:TE} {t:TA}
def MN (F:dU X.prog X.w X.K X.mg X.base CX k f fd ps sp) (hr:gg k X.A) (hb:Binds X.K fd ps ds) (hd:Vals dvs ds) (hx:Passes CX X E)
  (I:Inv X pins σ H s) (r:Vals vs us) (h:sp (vs++dvs) H Q E):wpAny (model X.prog X.w) X.A (call (.ref f) us) (EP X pins σ Q) X.xe s:=by
 have r2:Vals (vs++dvs) (us++ds):=r.append hd;have hl:(us++ds).length=ps.length:=by rw[<-r2.length];exact F.len _ _ _ _ h
 refine wpAny_call (codeAny_mono (F.run X.A X.stack s H ⟨us,[]⟩ (us++ds) (vs++dvs) Q E hr I.Po (hb s us I.tW hl) r2 h) fun r s' hq=>?_);cases r with
 | error e=>exact hx pins σ H s e s' I hq
 | ok fl=>
  cases fl with
  | ret u=>exact I.after hq
  | next=>exact False.elim hq
  | brk=>exact False.elim hq
  | cont=>exact False.elim hq
def O1 (F:dU X.prog X.w X.K X.mg X.base CX k f fd ps sp) (hr:gg k X.A) (hg:Gl X x) (hm:X.mg x=some (.ref f)) (hk:PySem.W.keepIn X.K (.ref f)=true) (hb:Binds X.K fd ps ds) (hd:Vals dvs ds) (hx:Passes CX X E)
  (ha:PA X (e::es) t) (hdb:(x == ("__debug__": Str))=false<|>qb_) (he:starEach (e::es) X.env=(false,eval e X.env)::starEach es X.env<|>qe_) (hpl:(backTo pos (starEach es X.env)).any (·.1)=false<|>qe_) :
  PE X (.Call (.Name x p) (e::es) [] pos) (iA sp dvs E t):=by
 intro pins s σ H Q I h;refine wpAny_Call_Name_kw (kJ I hg hm ?_ hdb);refine PySem.W.callWith_K (h₀:=X.base) I.ok.mod.Rh hk (dh (ha pos pins s σ H _ I h) fun us s1 ⟨vs,H1,I1,r,q⟩=>⟨I1.tW,?_⟩) he hpl;exact MN F hr hb hd hx I1 r q
structure Mk (K:yB) (C f:Addr):Prop where
 makes:PySem.W.makesIn K C=true
 init:PySem.W.findIn K (.ref C) "__init__"= some (some (.ref f))
 fn:PySem.W.isFn K (.ref f)=true
 kp:PySem.W.keepIn K (.ref C)=true
def MM (M:Mk X.K C f) (F:dU X.prog X.w X.K X.mg X.base CX k f fd ps sp) (hr:gg (k+1) X.A) (hb:Binds X.K fd ps ds) (hd:Vals dvs ds)
  (hx:Passes CX X E) (I:Inv X pins σ H s) (r:Vals vs us)
  (h:∀x dx,H x=none->H dx=none->dx≠x->sp (.ref x::(vs++dvs)) (upd (upd H dx (.own x)) x (.ins C dx [])) (fun v H2=>v=.bR/\Q (.ref x) H2) E) :
  wpAny (model X.prog X.w) X.A (call (.ref C) us) (EP X pins σ Q) X.xe s:=by
 have hq:=h (↑s+1) ↑s (I.cm.fresh (Nat.le_succ _)) (I.cm.fresh (zm _)) (yj (Nat.lt_succ_self _));have I2:=Inv.made (C:=C) I;have r2:Vals (V.ref (↑s+1)::(vs++dvs)) (Value.ref (↑s+1)::(us++ds)):=.cons rfl (r.append hd);have hl:(Value.ref (↑s+1)::us++ds).length=ps.length:=by
  have e:=r2.length;rw[F.len _ _ _ _ hq] at e;exact e.symm
 refine wpAny_call (Np (f:=f) I.tW M.makes M.init (beq_iff_eq.mp M.fn) (codeAny_mono (F.run _ X.stack _ _ ⟨Value.ref (↑s+1)::us,[]⟩ (Value.ref (↑s+1)::(us++ds)) _ _ E (hr.make C us [])
  (I2.Po.make C us []) (hb _ (Value.ref (↑s+1)::us) I2.tW hl) r2 hq) fun r s' hq'=>?_))
 cases r with
 | error e=>exact hx pins σ _ _ e s' I2 hq'
 | ok fl=>
  cases fl with
  | ret u=>
   obtain⟨v,H',I3,rv,ev,q3⟩:=I2.after hq';subst ev;exact⟨rv,⟨V.ref (↑s+1),H',I3,rfl,q3⟩⟩
  | next=>exact False.elim hq'
  | brk=>exact False.elim hq'
  | cont=>exact False.elim hq'
def Nb (M:Mk X.K C f) (F:dU X.prog X.w X.K X.mg X.base CX k f fd ps sp) (hr:gg (k+1) X.A) (hg:Gl X x) (hm:X.mg x=some (.ref C)) (hb:Binds X.K fd ps ds) (hd:Vals dvs ds) (hx:Passes CX X E)
  (hdb:(x == ("__debug__": Str))=false<|>qb_):PE X (.Call (.Name x p) [] [] pos) (Sd C sp dvs E eV):=by
 intro pins s σ H Q I h;refine wpAny_Call_Name_kw (kJ I hg hm ?_ hdb);exact PySem.W.callWith_K0 I.tW M.kp (MM (us:=[]) M F hr hb hd hx I .nil h)
end
section
variable {X:Cx} {CX:JR} {k:Nat} {f C:Addr} {fd:FuncData} {ps ks:List Str} {sp:Sp} {E:XK} {x m:Str} {p pos apos kpos:Pos} {e o:Expr} {es:List Expr} {kws:List Keyword} {te ta:TE} {t tk:TA} {nm:Option Str}
variable {g:List Value->List Value->List Value} {gV:List V->List V->List V}
end
structure aF (N P:List Str) (sc:Scope):Prop where
 kind:sc.kind=.function
 co:sc.isCoroutine=false
 gen:sc.isGenerator=false
 nd:N.Nodup
 pre:N.take P.length=P
 par:∀x∈P,sc.names.lookup x=some .local\/sc.names.lookup x=some .cell
 Q9:∀y∈sc.names,y.2≠.free
theorem Du {kindOf:Str->Option NameKind} {x:Str}:∀{binds:List (Str×Value)} {m:Str->Option Value},(∀v,(x,v)∉binds)->bindL kindOf binds m x=m x
 | [],_,_=>rfl
 | (n,v)::r,m,h=>by
  unfold bindL;rw[Du fun w hw=>h w (zp _ hw)];split
  ·have:x≠n:=by rintro rfl;exact h v zr
   simp[this]
  ·rfl
theorem Dw {kindOf:Str->Option NameKind} {x:Str}:∀{binds:List (Str×Value)} {m:Str->Option Value},(∀v,(x,v)∉binds)->bindC kindOf binds m x=m x
 | [],_,_=>rfl
 | (n,v)::r,m,h=>by
  unfold bindC;rw[Dw fun w hw=>h w (zp _ hw)];split
  ·rfl
  ·have:x≠n:=by rintro rfl;exact h v zr
   simp[this]
theorem Dv {kindOf:Str->Option NameKind} {x:Str} {v:Value}:∀{P:List Str} {vs:List Value} {i:Nat} {m:Str->Option Value},P.Nodup->P[i]?=some x->vs[i]?=some v->kindOf x=some .local->
  bindL kindOf (P.zip vs) m x=some v
 | [],_,_,_,_,h,_,_=>by simp at h
 | _::_,[],_,_,_,_,h,_=>by simp at h
 | p::P,w::vs,0,m,nd,h1,h2,hk=>by
  simp at h1 h2;subst h1;subst h2;show bindL kindOf ((p,w)::P.zip vs) m p=_;unfold bindL;rw[Du fun v hv=>(yd.mp nd).1 (List.of_mem_zip hv).1,if_pos hk];simp
 | p::P,w::vs,i+1,m,nd,h1,h2,hk=>by
  show bindL kindOf ((p,w)::P.zip vs) m x=_;unfold bindL;exact Dv (i:=i) (yd.mp nd).2 (by simpa using h1) (by simpa using h2) hk
theorem Dy {kindOf:Str->Option NameKind} {x:Str} {v:Value}:∀{P:List Str} {vs:List Value} {i:Nat} {m:Str->Option Value},P.Nodup->P[i]?=some x->vs[i]?=some v->kindOf x≠some .local->
  bindC kindOf (P.zip vs) m x=some v
 | [],_,_,_,_,h,_,_=>by simp at h
 | _::_,[],_,_,_,_,h,_=>by simp at h
 | p::P,w::vs,0,m,nd,h1,h2,hk=>by
  simp at h1 h2;subst h1;subst h2;show bindC kindOf ((p,w)::P.zip vs) m p=_;unfold bindC;rw[Dw fun v hv=>(yd.mp nd).1 (List.of_mem_zip hv).1,if_neg hk];simp
 | p::P,w::vs,i+1,m,nd,h1,h2,hk=>by
  show bindC kindOf ((p,w)::P.zip vs) m x=_;unfold bindC;exact Dy (i:=i) (yd.mp nd).2 (by simpa using h1) (by simpa using h2) hk
def start (N:List Str) (vs:List V):St:=vs.map some++List.replicate (N.length-vs.length) none
def lB (CX:JR) (P:Program) (w:World) (K:yB) (mg:Str->Option Value) (base:Heap) (N:List Str) (qual:Str) (scope:Scope) (f:Addr) (cd:Value) (A:Around) (outer:List Env) (s:Shared) (H:Hp) (E:XK):Cx where
 prog:=P
 w:=w
 K:=K
 mg:=mg
 base:=base
 A:=A.deeper (envOfC qual scope ↑s f cd)
 N:=N
 s₀:=s
 H₀:=H
 env:=envOfC qual scope ↑s f cd
 outer:=outer
 stack:=envOfC qual scope ↑s f cd::outer
 ex:=[]
 calm:=true
 fn:=fun _=>true
 pn:=[]
 xe:=fun e s'=>wpAny (model P w) (A.deeper (envOfC qual scope ↑s f cd)) (leaving (envOfC qual scope ↑s f cd) e) (fun _ s''=>CX outer H s E e s'') (fun e' s''=>CX outer H s E e' s'') s'
def HG {sc:Scope} {n:Nat} {x:Str} (h:sc.names.lookup x=some .cell):∃c,(cellsFrom n sc.names []).lookup x=some c:=by
 have q:=PySem.W.cellsFrom_some sc.names n [] (.inl h);exact Option.isSome_iff_exists.mp q
def Lr {CX:JR} {P:Program} {w:World} {K:yB} {mg:Str->Option Value} {base:Heap} {N ps:List Str} {qual:Str} {scope:Scope} {f:Addr} {cd:Value} {A:Around} {outer:List Env} {s s1:Shared} {H:Hp} {E:XK} {us:List Value} {vs:List V}
  (S:aF N ps scope) (hd:A.handled=none) (e0:Ib P w K mg base A outer s H) (hl:vs.length=ps.length) (r:Vals vs us)
  (x:InCallC s ↑s (bindL (envOfC qual scope ↑s f cd).kindOf (ps.zip us) fun _=>none) (cellsFrom (↑s+1) scope.names []) (bindC (envOfC qual scope ↑s f cd).kindOf (ps.zip us) fun _=>none) s1) :
  Inv (lB CX P w K mg base N qual scope f cd A outer s H E) [] (start N vs) H s1:=by
 have hpl:ps.length<=N.length:=by have:=congrArg List.length S.pre;rw[zQ] at this;omega
 obtain⟨h1,tk,rfl,hk⟩:=x.done;have noA:∀b:Addr,b∉(lB CX P w K mg base N qual scope f cd A outer s H E).ex:=fun b z=>absurd (show b∈([]:List Addr) from z) (by simp);refine⟨⟨e0.mod,S.kind,rfl,rfl,zm _,fun y z c h1 h2=>?_,fun y hy=>?_,fun y c _ h=>?_,fun _=>hd,Around.frames_deeper e0.frames,.inr ⟨rfl,rfl⟩,fun b z=>absurd z (noA b),e0.bs,e0.L9,fun b _ _=>noA b,fun b z=>absurd z (noA b),e0.qo,e0.G5⟩,
  rfl,e0.bare,Un.kept hk,⟨_,x.toInCall.ns,fun i y v h1 h2 h3=>?_⟩,fun y c h=>⟨_,x.cell y c h⟩,e0.cm.fresh (zm _),fun y c h=>?_,fun p hp=>absurd (show p∈([]:List (Addr×Obj)) from hp) (by simp),e0.cm.kept hk,?_⟩
 ·exact name_of_addr x.apart (PySem.mem_of_lookup h1) (PySem.mem_of_lookup h2)
 ·have hy:scope.names.lookup y=some .cell\/scope.names.lookup y=some .free:=hy
  rcases hy with hy | hy
  ·exact HG hy
  ·exact absurd rfl (S.Q9 _ (PySem.mem_of_lookup hy))
 ·exact yh (x.above y c (PySem.mem_of_lookup h))
 ·have hi:i<vs.length:=by
   unfold start at h2
   by_cases hi:i<vs.length
   ·exact hi
   ·rw[z9 (by simpa using hi)] at h2
    rw[List.getElem?_replicate] at h2;split at h2 <;> cases h2
  have ha:vs[i]?=some v:=by
   unfold start at h2;rw[List.getElem?_append_left (by simpa using hi),zK] at h2;cases e:vs[i]? with
   | none=>rw[e] at h2;cases h2
   | some a=>rw[e] at h2;cases h2;rfl
  obtain⟨u,hu,rv⟩:=r.get ha;have hp:ps[i]?=some y:=by
   rw[<-S.pre,List.getElem?_take_of_lt nofun];exact h1
  have ndP:ps.Nodup:=by rw[<-S.pre];exact S.nd.sublist (List.take_sublist _ _)
  refine⟨u,rv,?_⟩;rcases S.par y (zC hp) with k | k
  ·exact .inl ⟨k,Dv ndP hp hu k⟩
  ·obtain⟨c,e⟩:=HG (n:=↑s+1) k
   refine .inr ⟨.inl k,c,e,?_⟩;have q:=x.cell y c e;rw[Dy ndP hp hu (by show scope.names.lookup y≠_;rw[k];decide)] at q;exact q
 ·exact e0.cm.fresh (yh (x.above y c (PySem.mem_of_lookup h)))
 ·unfold start
  show _=N.length;rw[zh,za,List.length_replicate];omega
def Qf {CX:JR} {P:Program} {w:World} {K:yB} {mg:Str->Option Value} {base:Heap} {k:Nat} {f:Addr} {name qual:Str} {params:Arguments} {body:List Stmt} {scope:Scope} {dV kV doc pm cdv ct oc:Value} {an od:Option Addr}
  {osl:Array (Option Value)} {N ps:List Str} {sp:Sp} (lk:K.lookup f=some ⟨oc,od,.func (PySem.W.fnOf name qual params body scope dV kV doc pm an cdv ct),osl⟩) (hcd:PySem.W.codeIn K cdv qual=true) (S:aF N ps scope)
  (len:∀vs H Q E,sp vs H Q E->vs.length=ps.length)
  (hbody:∀(A:Around) (outer:List Env) (s:Shared) (H:Hp) (vs:List V) (Q:VK) (E:XK),gg k (A.deeper (envOfC qual scope ↑s f cdv))->sp vs H Q E->
   ∃t,DC (lB CX P w K mg base N qual scope f cdv A outer s H E) body t/\t {nx:=fun _ H'=>Q .bR H',rt:=Q} (start N vs) H) :
  dU P w K mg base CX (k+1) f (PySem.W.fnOf name qual params body scope dV kV doc pm an cdv ct) ps sp:=by
 refine⟨len,fun A outer s H args us vs Q E hr e0 hb r hsp=>?_⟩;have hl:=len _ _ _ _ hsp;have KX:K.In s.heap:=e0.mod.Rh.keeps fun b o e=>(e0.bs b o e).1;have lim:s.heap.NoLimit:=e0.mod.nolimit.keeps fun b o e=>(e0.bs b o e).1;have hkind:∀y∈ps.zip us,scope.names.lookup y.1=some .local\/(scope.names.lookup y.1=some .cell/\((cellsFrom (↑s+1) scope.names []).lookup y.1).isSome=true):=fun⟨n,v⟩ hy=>by
  rcases S.par n (List.of_mem_zip hy).1 with q | q
  ·exact .inl q
  ·exact .inr ⟨q,PySem.W.cellsFrom_some _ _ _ (.inl q)⟩
 refine codeAny_call_function hr.depth (KX _ _ lk) rfl S.co S.gen rfl (PySem.W.codeRec_of KX hcd) (hb _ _ _ _ ?_);refine wpAny_newFunctionEnv_cells S.kind hkind fun env he s1 x=>?_;subst he;refine⟨lim.keeps x.toInCall.keep,codeAny_func ?_⟩;obtain⟨t,ht,hq⟩:=hbody A outer s H vs Q E (hr.deeper _) hsp;have I:Inv (lB CX P w K mg base N qual scope f cdv A outer s H E) [] (start N vs) H s1:=Lr S hr.hd e0 hl r x;refine wpAny_mono (ht [] s1 (start N vs) H _ I hq) (fun fl s' hs=>?_) fun e s' hs=>hs;have fin:∀{σ':St} {H':Hp} {v:V} {u:Value},Inv (lB CX P w K mg base N qual scope f cdv A outer s H E) [] σ' H' s'->RelV v u->Q v H'->CE outer P w H s Q u s':=
  fun {σ' H' v u} J rv q=>⟨v,H',J.os,J.bare,J.base,J.cm,rv,q⟩
 cases fl with
 | ret u=>
  obtain⟨v,σ',H',J,rv,q⟩:=hs;exact fin J rv q
 | next=>
  obtain⟨σ',H',J,q⟩:=hs;exact fin (v:=V.bR) (u:=Value.none) J rfl q
 | brk=>
  obtain⟨_,_,_,q⟩:=hs;exact False.elim q
 | cont=>
  obtain⟨_,_,_,q⟩:=hs;exact False.elim q
end L2
namespace L2
open PySem PySem.Spec PyProof.Rows
section
variable {X:Cx} {x:Str} {p pos:Pos} {e:Expr} {es:List Expr} {t:TA} {id T:String} {r:List V->Hp->VK->Prop}
def KR (r:List V->Hp->VK->Prop) (t:TA):TE:=fun σ H Q=>t σ H fun vs H1=>r vs H1 Q
def Gx (hc:gc X (.builtin id) r) (hg:Gl X x) (hm:X.mg x=none) (hv:bootBuiltins x=some (.builtin id)) (ha:PA X (e::es) t) (hn:x≠ "__name__"<|>qb_) (hdb:(x == ("__debug__": Str))=false<|>qb_)
  (he:starEach (e::es) X.env=(false,eval e X.env)::starEach es X.env<|>qe_) (hpl:(backTo pos (starEach es X.env)).any (·.1)=false<|>qe_):PE X (.Call (.Name x p) (e::es) [] pos) (KR r t):=by
 intro pins s σ H Q I h;refine wpAny_Call_Name_kw (jY I hg hm hv ?_ hn hdb);exact PyProof.Rows.callWith_builtin1 (dh (ha pos pins s σ H _ I h) fun us s1 ⟨vs,H1,I1,r1,q1⟩=>hc pins s1 σ H1 vs us Q I1 r1 q1) he hpl
def Lc (hc:gc X (.type T) r) (hg:Gl X x) (hm:X.mg x=none) (hv:bootBuiltins x=some (.type T)) (ha:PA X (e::es) t) (hn:x≠ "__name__"<|>qb_) (hdb:(x == ("__debug__": Str))=false<|>qb_)
  (he:starEach (e::es) X.env=(false,eval e X.env)::starEach es X.env<|>qe_) (hpl:(backTo pos (starEach es X.env)).any (·.1)=false<|>qe_):PE X (.Call (.Name x p) (e::es) [] pos) (KR r t):=by
 intro pins s σ H Q I h;refine wpAny_Call_Name_kw (jY I hg hm hv ?_ hn hdb);exact yM (dh (ha pos pins s σ H _ I h) fun us s1 ⟨vs,H1,I1,r1,q1⟩=>hc pins s1 σ H1 vs us Q I1 r1 q1) he hpl
end
end L2
namespace HT
open PySem PyProof.Rows
section
open PySem.SeqAt
open PySem.AutoSeq1 (wpAny_loadPart')
open PySem.MeetsSeq PySem.MeetsSeq2 PySem.MeetsSeq3
end
section
variable {prog:Program} {w:World} {A:Around} {E:Value->Shared->Prop} {s:Shared}
def fG (n d:Nat):Option Int->Nat
 | none=>d
 | some v=>if v<0 then(v+(n:Int)).toNat else min v.toNat n
def Gd (n d:Nat):fG n d none=d:=rfl
def QO (n d:Nat) (hd:d<=n) (o:Option Int):fG n d o<=n:=by
 cases o with
 | none=>exact hd
 | some v=>
  show(if v<0 then(v+(n:Int)).toNat else min v.toNat n)<=n
  by_cases hv:v<0
  ·rw[if_pos hv];omega
  ·rw[if_neg hv];exact Nat.min_le_right _ _
def Kr (v:Int) (n d:Nat):(if v<0 then max (v+(n:Int)) 0 else min v (n:Int))=((fG n d (some v):Nat):Int):=by
 show(if v<0 then max (v+(n:Int)) 0 else min v (n:Int))=(((if v<0 then(v+(n:Int)).toNat else min v.toNat n):Nat):Int)
 by_cases hv:v<0
 ·simp only[if_pos hv];omega
 ·simp only[if_neg hv];omega
def JB (lo hi:Option Int) (n:Nat):Builtin.Slice.sliceAdjust lo hi 1 (n:Int)=(((fG n 0 lo:Nat):Int),((fG n n hi:Nat):Int)):=by
 have h1:¬((1:Int)<0):=nofun
 unfold Builtin.Slice.sliceAdjust;simp only[h1,if_false];refine Prod.ext ?_ ?_
 ·cases lo with
  | none=>rfl
  | some v=>exact Kr v n 0
 ·cases hi with
  | none=>rfl
  | some v=>exact Kr v n n
def IP (i j:Nat):Builtin.Slice.slicePlaces (i:Int) (j:Int) 1=j-i:=by
 unfold Builtin.Slice.slicePlaces;have h1:(1:Int)>0:=nofun
 simp only[h1,if_true,Int.ediv_one];split <;> omega
def yU (p:IsPart v o) (h:Q o s):wpAny (model prog w) A (Builtin.Slice.slicePartIndex v) Q E s:=by
 cases p with
 | none=>exact slicePart_none h
 | int i t=>exact slicePart_int h
def lL {sl:Addr} {vl vu:Value} {lo hi:Option Int} {n:Nat} {Q:Int×Int×Nat->Shared->Prop} (hs:s.heap.IsSliceOf sl vl vu .none) (pl:IsPart vl lo) (pu:IsPart vu hi)
  (h:Q (((fG n 0 lo:Nat):Int),1,fG n n hi-fG n 0 lo) s):wpAny (model prog w) A (Builtin.Slice.sliceApplied (.ref sl) (pure (n:Int))) Q E s:=by
 obtain⟨os,hos,hcs,hds⟩:=id hs;unfold Builtin.Slice.sliceApplied Builtin.Slice.sliceFields;refine yu (yu (wpAny_field hos hds (x:=vl) rfl (yu (wpAny_field hos hds (x:=vu) rfl (yu (wpAny_field hos hds (x:=.none) rfl (yw ?_)))))));refine yu (slicePart_none ?_);show wpAny _ _ (if((1:Int) == 0)=true then _ else _) _ _ s;rw[if_neg ∅];refine yu (yU pl (yu (yU pu (yu (yw ?_)))));show wpAny _ _ (match Builtin.Slice.sliceAdjust lo hi 1 (n:Int) with | (lo,hi)=>pure (lo,(1:Int),Builtin.Slice.slicePlaces lo hi 1)) _ _ s;rw[JB lo hi n];show wpAny _ _ (pure (((fG n 0 lo:Nat):Int),(1:Int),Builtin.Slice.slicePlaces ((fG n 0 lo:Nat):Int) ((fG n n hi:Nat):Int) 1)) _ _ s;rw[IP];exact yw h
def M7 (xs:Array Value) (i k:Nat):((List.range k).filterMap fun(m:Nat)=>xs[((i:Int)+(m:Int)*1).toNat]?).toArray=((xs.toList.drop i).take k).toArray:=by
 have e:(fun(m:Nat)=>xs[((i:Int)+(m:Int)*1).toNat]?)=fun m=>xs[i+m]?:=by
  funext m
  have:((i:Int)+(m:Int)*1).toNat=i+m:=nofun
  rw[this]
 rw[e];have:=pick_run xs i k;rw[List.filterMap_map] at this;have e2:((fun x=>xs[x]?)∘fun x=>i+x)=fun m=>xs[i+m]?:=rfl;rw[e2] at this;rw[this]
def ud {t sl:Addr} {items:Array Value} {vl vu:Value} {lo hi:Option Int} {Q:Value->Shared->Prop} (ht:IsTup s.heap t items) (hs:s.heap.IsSliceOf sl vl vu .none) (pl:IsPart vl lo) (pu:IsPart vu hi)
  (hw:¬(fG items.size 0 lo=0/\fG items.size items.size hi=items.size))
  (h:Q (.ref ↑s) {s with heap:=s.heap.push {cls:=.type "tuple",data:=.seq ((items.toList.drop (fG items.size 0 lo)).take (fG items.size items.size hi-fG items.size 0 lo)).toArray}})
  (hsz:items.size<=sizeLine):wpAny (model prog w) A (getItem (.ref t) (.ref sl)) Q E s:=by
 have htake:sizeOk (.seq ((items.toList.drop (fG items.size 0 lo)).take (fG items.size items.size hi-fG items.size 0 lo)).toArray):=by
  show((items.toList.drop (fG items.size 0 lo)).take (fG items.size items.size hi-fG items.size 0 lo)).toArray.size<=sizeLine;rw[yb,zQ,List.length_drop,Array.length_toList];omega
 have hj:fG items.size items.size hi<=items.size:=QO _ _ (zm _) hi;obtain⟨os,hos,hcs,hds⟩:=id hs;have hTs:s.TypeIs (.ref sl) "slice":=⟨os,hos,hcs⟩
 unfold getItem
 try with_reducible refine wpAny_holding ?_
 first | refine yu (yw ?_) | skip
 refine yu (wpAny_sequenceKey ht.typeIs ∅ ?_);refine yu (wpAny_callSpecial?_slot (name:=Str.ofString "__getitem__") ht.typeIs PyProof.Rows.slot_tuple_getitem
  (wpAny_call_entry PyProof.Rows.slot_tuple_getitem ht.typeIs entry_tuple_getitem ?_ (args_tuple_getitem _ _)))
 show wpAny _ _ (Builtin.Tuple.tupleItemsOf (.ref t) >>= _) _ _ s;refine yu (tupleItemsOf_ ht ?_);refine yu (wpAny_typeOf hTs ?_);rw[if_pos ∅];refine yu (lL hs pl pu ?_);have hno:¬((((fG items.size 0 lo:Nat):Int) == 0&&(1:Int) == 1&&(fG items.size items.size hi-fG items.size 0 lo) == items.size)=true):=by
  intro q;rw[zO,zO] at q;have q1:((fG items.size 0 lo:Nat):Int)=0:=eq_of_beq q.1.1;have q2:fG items.size items.size hi-fG items.size 0 lo=items.size:=eq_of_beq q.2;exact hw ⟨nofun,nofun⟩
 show wpAny _ _ (if(((fG items.size 0 lo:Nat):Int) == 0&&(1:Int) == 1&&(fG items.size items.size hi-fG items.size 0 lo) == items.size)=true then _ else _) _ _ s;rw[if_neg hno,M7]
 first
  | exact yu (m:=Builtin.Tuple.tupleExact _) (wpAny_newObj_type (yw ⟨_,rfl,yw h⟩) htake)
  | exact yu (m:=Builtin.Tuple.tupleExact _) (wpAny_newObj_type (yu (yw (yw ⟨_,rfl,yw h⟩))) htake)
  | exact yu (yu (m:=Builtin.Tuple.tupleExact _) (wpAny_newObj_type (yw (yw ⟨_,rfl,yw h⟩)) htake))
  | exact yu (yu (m:=Builtin.Tuple.tupleExact _) (wpAny_newObj_type (yw ⟨_,rfl,yw h⟩) htake))
end
end HT
namespace L2
open PySem PySem.Spec PyProof.Rows
abbrev TO:=St->Hp->(Option Int->Hp->Prop)->Prop
def PO (X:Cx) (e:Option Expr) (t:TO):Prop:=
 ∀(pins:List (Addr×Obj)) (s:Shared) (σ:St) (H:Hp) (Q:Option Int->Hp->Prop),Inv X pins σ H s->t σ H Q->
  wpAny (model X.prog X.w) X.A (evalPart e X.env) (fun u s'=>∃o H',Inv X pins σ H' s'/\IsPart u o/\Q o H') X.xe s
def DI:TO:=fun _ H Q=>Q none H
def Mv (t:TE):TO:=fun σ H Q=>t σ H fun x H1=>∃i,x=.int i/\Q (some i) H1
def intsAre_of:∀{us:List Value},Vals (ns.map V.int) us->IntsAre us ns:=by
 induction ns with
 | nil=>intro us r;rw[yn] at r;cases r;exact .nil
 | cons n ns ih=>
  intro us r;rw[zj] at r;cases r with
  | cons r1 r2=>
   obtain⟨t,e⟩:=r1;subst e;exact .cons n t (ih r2)
section
variable {X:Cx} {e:Expr} {te:TE} {lo hi:Option Expr} {tl th:TO} {pos p2:Pos}
def eO:PO X none DI:=by
 intro pins s σ H Q I h;rw[evalPart_none];exact yw ⟨none,H,I,.none,h⟩
def eN (h:PE X e te):PO X (some e) (Mv te):=by
 intro pins s σ H Q I hw;rw[evalPart_some];refine dh (h pins s σ H _ I hw) fun u s1 zz=>?_;obtain⟨x,H1,I1,r1,q1⟩:=zz;obtain⟨i,rfl,q⟩:=q1;obtain⟨t,rfl⟩:=r1;exact⟨some i,H1,I1,.int i t,q⟩
def Of (X:Cx) (r:V->Option Int->Option Int->Hp->VK->Prop):Prop:=
 ∀(pins:List (Addr×Obj)) (s:Shared) (σ:St) (H:Hp) (x:V) (v vl vu:Value) (lo hi:Option Int) (sl:Addr) (Q:VK),Inv X pins σ H s->RelV x v->s.heap.IsSliceOf sl vl vu .none->IsPart vl lo->IsPart vu hi->r x lo hi H Q->
  ∃T id,typeLookup (.type T) "__getitem__"= pure (some (.builtin id))/\s.TypeIs v T/\wpAny (model X.prog X.w) X.A (getItem v (.ref sl)) (EP X pins σ Q) X.xe s
def Of.or (h:Of X r) (h':Of X r'):Of X (fun x lo hi H Q=>r x lo hi H Q\/r' x lo hi H Q):=by
 intro pins s σ H x v vl vu lo hi sl Q I rx hs pl pu q;rcases q with q | q
 ·exact h pins s σ H x v vl vu lo hi sl Q I rx hs pl pu q
 ·exact h' pins s σ H x v vl vu lo hi sl Q I rx hs pl pu q
def Ub (r:V->Option Int->Option Int->Hp->VK->Prop) (te:TE) (tl th:TO):TE:=fun σ H Q=>te σ H fun x H1=>tl σ H1 fun l H2=>th σ H2 fun u H3=>r x l u H3 Q
def dP (hr:Of X r) (he:PE X e te) (hl:PO X lo tl) (hu:PO X hi th):PE X (.Subscript e (.Slice lo hi none p2) pos) (Ub r te tl th):=by
 intro pins s σ H Q I h;refine Subscript_ (dh (he pins s σ H _ I h) fun v s1 zz=>?_);obtain⟨x,H1,I1,r1,q1⟩:=zz;refine wpAny_Slice (dh (hl pins s1 σ H1 _ I1 q1) fun vl s2 ⟨l,H2,I2,pl,q2⟩=>dh (hu pins s2 σ H2 _ I2 q2) fun vu s3 zz=>?_);obtain⟨u,H3,I3,pu,q3⟩:=zz;rw[evalPart_none];refine yw ?_;have I4:Inv X pins σ H3 {s3 with heap:=s3.heap.push {cls:=.type "slice",data:=.fields #[vl,vu,.none]}}:=I3.kept (t':=s3.toks) fun b ob q=>yv _ q;obtain⟨T,id,hT,ht,hg⟩:=hr pins {s3 with heap:=s3.heap.push {cls:=.type "slice",data:=.fields #[vl,vu,.none]}} σ H3 x v vl vu l u ↑s3 Q I4 r1 (Heap.IsSliceOf.new ..) pl pu q3;show wpAny (model X.prog X.w) X.A (subscriptTail e (.Slice lo hi none p2) v (.ref ↑s3)) (EP X pins σ Q) X.xe {s3 with heap:=s3.heap.push {cls:=.type "slice",data:=.fields #[vl,vu,.none]}};exact tail_any (ops:=[.ref ↑s3,v]) ht hT hg (by with_unfolding_all rfl)
def lC (xs:List V) (lo hi:Option Int):List V:=(xs.drop (HT.fG xs.length 0 lo)).take (HT.fG xs.length xs.length hi-HT.fG xs.length 0 lo)
def wC (xs:List V) (lo hi:Option Int):(lC xs lo hi).length<=xs.length:=by
 unfold lC;rw[zQ,List.length_drop];omega
def Sl (K:yB):V->Option Int->Option Int->Hp->VK->Prop:=fun x lo hi H Q=>∃a xs,x=.ref a/\dB K H a xs/\
 ¬(HT.fG xs.length 0 lo=0/\HT.fG xs.length xs.length hi=xs.length)/\∀p,H p=none->Q (.ref p) (upd H p (.tup (lC xs lo hi)))
def QM:Of X (Sl X.K):=by
 intro pins s σ H x v vl vu lo hi sl Q I rx hs pl pu h;obtain⟨a,xs,rfl,hx,hw,q⟩:=h;cases rx;obtain⟨its,r,ht,hz⟩:=I.tuple hx;have hlen:its.toArray.size=xs.length:=by rw[yb];exact r.length.symm
 refine⟨"tuple",_,PyProof.Rows.slot_tuple_getitem.lookup,ht.typeIs,?_⟩;refine HT.ud ht hs pl pu (by rw[hlen];exact hw) ?_ (by rw[hlen];exact hz);rw[hlen];refine⟨.ref ↑s,_,I.laid (t':=s.toks) (o:=.tup (lC xs lo hi)) (fun b ob q=>yv _ q) (zm _) ?_,rfl,q _ (I.cm.fresh (zm _))⟩;exact⟨zM (wC xs lo hi) hz,_,(r.drop (HT.fG xs.length 0 lo)).take (HT.fG xs.length xs.length hi-HT.fG xs.length 0 lo),IsTup.new _ _⟩
end
end L2
namespace L2
open PySem PySem.Spec PyProof.Rows
def Qb (n:Nat) (i:Int):Option Nat:=if 0<=i then(if i<n then some i.toNat else none) else if -(n:Int)<=i then some (i+n).toNat else none
def DA (xs:List α) (i:Int):Option α:=(Qb xs.length i).bind fun j=>xs[j]?
def Pg (h:Qb n i=some j):seqIndex? i n=some j/\j<n/\-(n:Int)<=i/\i<n:=by
 unfold Qb at h
 by_cases h0:0<=i
 ·rw[if_pos h0] at h
  by_cases h1:i<n
  ·rw[if_pos h1] at h
   have e:i.toNat=j:=yk h;exact⟨by rw[seqIndex_of h0 h1,e],nofun,nofun,h1⟩
  ·rw[if_neg h1] at h;cases h
 ·rw[if_neg h0] at h
  by_cases h1:-(n:Int)<=i
  ·rw[if_pos h1] at h
   have e:(i+n).toNat=j:=yk h;exact⟨by rw[seqIndex_neg nofun h1,e],nofun,h1,nofun⟩
  ·rw[if_neg h1] at h;cases h
def Fd (h:DA xs i=some v):∃j,seqIndex? i xs.length=some j/\xs[j]?=some v/\j<xs.length/\-(xs.length:Int)<=i/\i<xs.length:=by
 unfold DA at h;cases e:Qb xs.length i with
 | none=>rw[e] at h;cases h
 | some j=>
  rw[e] at h;obtain⟨h1,h2,h3,h4⟩:=Pg e;exact⟨j,h1,h,h2,h3,h4⟩
def bE {α:Type} {xs:List α} {j:Nat} {v:α} (h:xs[j]?=some v):DA xs (j:Int)=some v:=by
 have hj:j<xs.length:=(zy.mp h).1;have e:Qb xs.length (j:Int)=some j:=by
  unfold Qb;rw[if_pos nofun,if_pos nofun];simp
 unfold DA;rw[e];exact h
def Bh (xs:List α) (v:α):DA (xs++[v]) (-1)=some v:=by
 have hl:(xs++[v]).length=xs.length+1:=by simp
 have e:Qb (xs++[v]).length (-1)=some xs.length:=by
  unfold Qb;rw[hl,if_neg ∅,if_pos nofun]
  congr 1
  omega
 unfold DA;rw[e];show(xs++[v])[xs.length]?=some v;simp
def uA (b:Expr):Prop:=∀o i,subscripted b false o i=operate [o,i] (getItem o i)
def Tw (X:Cx) (r:R2):Prop:=
 ∀(value slice:Expr) (pins:List (Addr×Obj)) (s:Shared) (σ:St) (H:Hp) (x y:V) (v u:Value) (Q:VK),Inv X pins σ H s->RelV x v->RelV y u->r x y H Q->
  subscripted slice false v u=operate [v,u] (getItem v u)->wpAny (model X.prog X.w) X.A (subscriptTail value slice v u) (EP X pins σ Q) X.xe s
def UW (X:Cx) (id:String) (r:V->List V->Hp->VK->Prop):Prop:=
 ∀(pins:List (Addr×Obj)) (s:Shared) (σ:St) (H:Hp) (x:V) (xs:List V) (v:Value) (us:List Value) (Q:VK),Inv X pins σ H s->RelV x v->Vals xs us->r x xs H Q->
  wpAny (model X.prog X.w) X.A (call (.builtin id) (v::us)) (EP X pins σ Q) X.xe s
section
variable {X:Cx} {a b:Expr} {ta tb:TE} {pos:Pos}
def Aq (hr:Tw X r) (ha:PE X a ta) (hb:PE X b tb) (hs:uA b):PE X (.Subscript a b pos) (fP r ta tb):=by
 intro pins s σ H Q I h;exact Subscript_ (RG ha hb I h fun v u s2 x y H2 I2 rx ry q=>hr a b pins s2 σ H2 x y v u Q I2 rx ry q (hs _ _))
def OV (K:yB):R2:=fun x y H Q=>∃p xs i v,x=.ref p/\y=.int i/\aL K H p xs/\DA xs i=some v/\Q v H
def rH (K:yB):R2:=fun x y H Q=>∃p xs i v,x=.ref p/\y=.int i/\dB K H p xs/\DA xs i=some v/\Q v H
def OU:R2:=fun x y H Q=>∃z i c,x=.str z/\y=.int i/\z.length<=sizeLine/\DA z.cps.toList i=some c/\Q (.str ⟨#[c]⟩) H
def Kf:Tw X (OV X.K):=by
 intro value slice pins s σ H x y v u Q I rx ry h hs;obtain⟨p,xs,i,z,rfl,rfl,hq,he,q⟩:=h;cases rx;obtain⟨t,rfl⟩:=ry;obtain⟨its,r,pl,hz⟩:=I.list hq;obtain⟨j,h1,h2,h3,h4,h5⟩:=Fd he;obtain⟨w,ew,rw'⟩:=r.get h2;have hl:=r.length;have hn:=AF;have fin:EP X pins σ Q w s:=⟨z,H,I,rw',q⟩
 by_cases h0:0<=i
 ·have hj:i.toNat=j:=by
   rw[seqIndex_of h0 h5] at h1;exact yk h1
  exact item_listR pl.isList h0 nofun (by rw[hj];simpa using ew) fin hs
 ·have hj:(i+(its.toArray.size:Int)).toNat=j:=by
   rw[seqIndex_neg nofun h4] at h1;rw[yb,<-hl];exact yk h1
  exact subscriptTail_builtinR (x:=w) pl.isList.typeIs slot_list_getitem.lookup
   (wpAny_getItem_list_neg (Q:=fun r s'=>r=w/\EP X pins σ Q r s') pl.isList nofun (by rw[yb] <;> omega) nofun (by rw[hj];simpa using ew) ⟨rfl,fin⟩) hs
def Rn:Tw X (rH X.K):=by
 intro value slice pins s σ H x y v u Q I rx ry h hs;obtain⟨p,xs,i,z,rfl,rfl,hq,he,q⟩:=h;cases rx;obtain⟨t,rfl⟩:=ry;obtain⟨its,r,pl,hz⟩:=I.tuple hq;obtain⟨j,h1,h2,h3,h4,h5⟩:=Fd he;obtain⟨w,ew,rw'⟩:=r.get h2;have hl:=r.length;have hn:=AF;have fin:EP X pins σ Q w s:=⟨z,H,I,rw',q⟩
 exact subscriptTail_builtinR (x:=w) pl.typeIs slot_tuple_getitem.lookup
  (getItem_tuple (j:=j) (Q:=fun r s'=>r=w/\EP X pins σ Q r s') pl nofun nofun (by rw[yb,<-hl];exact h1) (by simpa using ew) ⟨rfl,fin⟩) hs
def EE:Tw X OU:=by
 intro value slice pins s σ H x y v u Q I rx ry h hs;obtain⟨z,i,c,rfl,rfl,hz,he,q⟩:=h;obtain⟨t,rfl⟩:=rx;obtain⟨t',rfl⟩:=ry;obtain⟨j,h1,h2,h3,h4,h5⟩:=Fd he;have hl:z.cps.toList.length=z.length:=by simp[Str.length]
 rw[hl] at h1 h4 h5;have hn:=AF;exact tail_any (typeIs_str s z t) slot_str_getitem.lookup (getItem_str (c:=c) (by
  have e1:decide (i < -(2^63:Int))=false:=ze nofun;have e2:decide (i≥2^63)=false:=ze nofun;rw[e1,e2,Bool.or_false]) (by rw[h1];simpa using h2) ⟨.str ⟨#[c]⟩,H,I.tok _,⟨_,rfl⟩,q⟩) hs
def DX (lo hi:Option Int) (n:Nat):(sliceBounds lo hi none n).1=((HT.fG n 0 lo:Nat):Int)/\(sliceBounds lo hi none n).2.1=((HT.fG n n hi:Nat):Int)/\(sliceBounds lo hi none n).2.2=1:=by
 refine⟨?_,?_,rfl⟩
 ·cases lo with
  | none=>simp[sliceBounds,HT.fG]
  | some i=>
   simp only[sliceBounds,HT.fG,Option.getD_none,show(1:Int)>0 by decide,if_true]
   by_cases h:i<0
   ·simp only[h,if_true] <;> omega
   ·simp only[h,if_false] <;> omega
 ·cases hi with
  | none=>simp[sliceBounds,HT.fG]
  | some i=>
   simp only[sliceBounds,HT.fG,Option.getD_none,show(1:Int)>0 by decide,if_true]
   by_cases h:i<0
   ·simp only[h,if_true] <;> omega
   ·simp only[h,if_false] <;> omega
def BS (its:List Value) (lo hi:Option Int):slicePick its.toArray lo hi none=((its.drop (HT.fG its.length 0 lo)).take (HT.fG its.length its.length hi-HT.fG its.length 0 lo)).toArray:=by
 obtain⟨h1,h2,h3⟩:=DX lo hi its.toArray.size;unfold slicePick;rw[h1,h2,h3];simp only[sliceRange_one,pick_run,yb] <;> rfl
def Uo (K:yB):V->Option Int->Option Int->Hp->VK->Prop:=fun x lo hi H Q=>∃a xs,x=.ref a/\aL K H a xs/\∀p,H p=none->Q (.ref p) (upd H p (.lst (lC xs lo hi)))
def gX:Of X (Uo X.K):=by
 intro pins s σ H x v vl vu lo hi sl Q I rx hs pl pu h;obtain⟨a,xs,rfl,hx,q⟩:=h;cases rx;obtain⟨its,r,ht,hz⟩:=I.list hx;have hlen:=r.length;refine⟨"list",_,slot_list_getitem.lookup,ht.isList.typeIs,?_⟩;refine wpAny_getItem_list_slice ht.isList hs pl pu .none (by simp) ?_ (by rw[yb] <;> omega);rw[BS,<-hlen];refine⟨.ref ↑s,_,I.laid (t':=s.toks) (o:=.lst (lC xs lo hi)) (fun b ob q=>yv _ q) (zm _) ?_,rfl,q _ (I.cm.fresh (zm _))⟩;exact⟨zM (wC xs lo hi) hz,_,0,(r.drop (HT.fG xs.length 0 lo)).take (HT.fG xs.length xs.length hi-HT.fG xs.length 0 lo),yx _ rfl⟩
def nZ:V->Bool
 | .bR=>true
 | .bl _=>true
 | .int _=>true
 | .str _=>true
 | _=>false
def Jg:V->V->Bool
 | .bR,.bR=>true
 | .bl a,.bl b=>a == b
 | .bl a,.int b=>(if a then 1 else 0) == b
 | .int a,.bl b=>a == (if b then 1 else 0)
 | .int a,.int b=>a == b
 | .str a,.str b=>a == b
 | _,_=>false
def NQ (ry:RelV y u) (rx:RelV x v) (fy:nZ y=true) (fx:nZ x=true):SeqAt.EqAt A s u v (Jg y x):=by
 cases y with
 | bR=>
  cases ry;cases x with
  | bR=>cases rx;exact SeqAt.EqAt.same _
  | bl b=>cases rx;exact SeqAt.EqAt.none_bool b
  | int b=>obtain⟨t,rfl⟩:=rx;exact SeqAt.EqAt.none_int b t
  | str b=>obtain⟨t,rfl⟩:=rx;exact SeqAt.EqAt.none_str b t
  | _=>exact absurd (show false=true from fx) zL
 | bl a=>
  cases ry;cases x with
  | bR=>cases rx;exact SeqAt.EqAt.bool_none a
  | bl b=>cases rx;exact SeqAt.EqAt.bool_bool a b
  | int b=>obtain⟨t,rfl⟩:=rx;exact SeqAt.EqAt.bool_int a b t
  | str b=>obtain⟨t,rfl⟩:=rx;exact SeqAt.EqAt.bool_str a b t
  | _=>exact absurd (show false=true from fx) zL
 | int a=>
  obtain⟨t',rfl⟩:=ry;cases x with
  | bR=>cases rx;exact SeqAt.EqAt.int_none a t'
  | bl b=>cases rx;exact SeqAt.EqAt.int_bool a t' b
  | int b=>obtain⟨t,rfl⟩:=rx;exact SeqAt.EqAt.int_int a t' b t
  | str b=>obtain⟨t,rfl⟩:=rx;exact SeqAt.EqAt.int_str a t' b t
  | _=>exact absurd (show false=true from fx) zL
 | str a=>
  obtain⟨t',rfl⟩:=ry;cases x with
  | bR=>cases rx;exact SeqAt.EqAt.str_none a t'
  | bl b=>cases rx;exact SeqAt.EqAt.str_bool a t' b
  | int b=>obtain⟨t,rfl⟩:=rx;exact SeqAt.EqAt.str_int a t' b t
  | str b=>obtain⟨t,rfl⟩:=rx;exact SeqAt.EqAt.str_str a t' b t
  | _=>exact absurd (show false=true from fx) zL
 | _=>exact absurd (show false=true from fy) zL
def Jh (x:V) (u:Value):Bool:=match u with
 | .none=>Jg .bR x
 | .bool b=>Jg (.bl b) x
 | .int i _=>Jg (.int i) x
 | .str z _=>Jg (.str z) x
 | _=>false
def NP (r:RelV y u) (f:nZ y=true):Jh x u=Jg y x:=by
 cases y with
 | bR=>cases r;rfl
 | bl b=>cases r;rfl
 | int i=>obtain⟨t,rfl⟩:=r;rfl
 | str z=>obtain⟨t,rfl⟩:=r;rfl
 | _=>exact absurd (show false=true from f) zL
theorem uq:∀{xs:List V} {us:List Value},Vals xs us->xs.all nZ=true->us.any (Jh x)=xs.any fun y=>Jg y x
 | _,_,.nil,_=>rfl
 | y::xs,u::us,.cons r t,f=>by
  rw[List.all_cons,zO] at f;rw[List.any_cons,List.any_cons,NP r f.1,uq t f.2]
theorem pz (rx:RelV x v) (fx:nZ x=true):∀{xs:List V} {us:List Value},Vals xs us->xs.all nZ=true->∀u∈us,SeqAt.EqAt A s u v (Jh x u)
 | _,_,.nil,_=>fun u hu=>by cases hu
 | y::xs,u::us,.cons r t,f=>fun u' hu=>by
  rw[List.all_cons,zO] at f;rcases zD.mp hu with rfl | hu
  ·rw[NP r f.1];exact NQ r rx f.1 fx
  ·exact pz rx fx t f.2 u' hu
def GZ (x:V) (xs:List V):Bool:=xs.any fun y=>Jg y x
def RU (K:yB) (neg:Bool):R2:=fun x y H Q=>∃p xs,y=.ref p/\(aL K H p xs\/dB K H p xs)/\nZ x=true/\xs.all nZ=true/\Q (.bl (if neg then !GZ x xs else GZ x xs)) H
def lU:pW X (compareOp .In) (RU X.K false):=by
 intro pins s σ H x y v u Q I rx ry h;obtain⟨p,xs,rfl,hq,fx,fs,q⟩:=h;cases ry;rcases hq with hq | hq
 ·obtain⟨its,r,pl,hz⟩:=I.list hq
  refine SeqAt.in_listAt (Jh x) pl.isList (fun w hw=>pz rx fx r fs w (by simpa using hw)) ⟨.bl _,H,I,rfl,?_⟩;rw[show its.toArray.any (Jh x)=its.any (Jh x) by simp,uq r fs];exact q
 ·obtain⟨its,r,pl,hz⟩:=I.tuple hq
  refine SeqAt.in_tupleAt (Jh x) pl (fun w hw=>pz rx fx r fs w (by simpa using hw)) ⟨.bl _,H,I,rfl,?_⟩;rw[show its.toArray.any (Jh x)=its.any (Jh x) by simp,uq r fs];exact q
def fk:pW X (compareOp .NotIn) (RU X.K true):=by
 intro pins s σ H x y v u Q I rx ry h;obtain⟨p,xs,rfl,hq,fx,fs,q⟩:=h;cases ry;rcases hq with hq | hq
 ·obtain⟨its,r,pl,hz⟩:=I.list hq
  refine SeqAt.notIn_listAt (Jh x) pl.isList (fun w hw=>pz rx fx r fs w (by simpa using hw)) ⟨.bl _,H,I,rfl,?_⟩;rw[show its.toArray.any (Jh x)=its.any (Jh x) by simp,uq r fs];exact q
 ·obtain⟨its,r,pl,hz⟩:=I.tuple hq
  refine SeqAt.notIn_tupleAt (Jh x) pl (fun w hw=>pz rx fx r fs w (by simpa using hw)) ⟨.bl _,H,I,rfl,?_⟩;rw[show its.toArray.any (Jh x)=its.any (Jh x) by simp,uq r fs];exact q
def aG:gc X (.builtin "len") (fun xs H Q=>∃p ys,xs=[.ref p]/\(aL X.K H p ys\/dB X.K H p ys)/\Q (.int ys.length) H):=by
 intro pins s σ H xs us Q I r h;obtain⟨p,ys,rfl,hq,q⟩:=h;obtain⟨u,rfl,rx⟩:=vals1 r;cases rx;have hn:=AF;rcases hq with hq | hq
 ·obtain⟨its,r',pl,hz⟩:=I.list hq
  have hlen:=r'.length;exact Calls.call_len_list pl.isList (by simp only[yb] <;> omega) ⟨.int ys.length,H,I.tok _,⟨s.toks+1,by rw[yb,hlen]⟩,q⟩
 ·obtain⟨its,r',pl,hz⟩:=I.tuple hq
  have hlen:=r'.length;exact len_tuple pl (by simp only[yb] <;> omega) ⟨.int ys.length,H,I.tok _,⟨s.toks+1,by rw[yb,hlen]⟩,q⟩
def gC:gc X (.builtin "len") (fun xs H Q=>∃z,xs=[.str z]/\z.length<=sizeLine/\Q (.int z.length) H):=by
 intro pins s σ H xs us Q I r h;obtain⟨z,rfl,hz,q⟩:=h;obtain⟨u,rfl,t,rfl⟩:=vals1 r;have hn:=AF;exact len_str nofun ⟨.int z.length,H,I.tok _,⟨_,rfl⟩,q⟩
def jn:gc X (.type "list") (fun xs H Q=>∃p ys,xs=[.ref p]/\(aL X.K H p ys\/dB X.K H p ys)/\∀l,H l=none->Q (.ref l) (upd H l (.lst ys))):=by
 intro pins s σ H xs us Q I r h;obtain⟨p,ys,rfl,hq,q⟩:=h;obtain⟨u,rfl,rx⟩:=vals1 r;cases rx;have fin:∀(its:List Value),Vals ys its->ys.length<=sizeLine->∀(h':Heap) (c':Nat),(∀b o',s.heap.get? b=some o'->h'.get? b=some o')->
   h'.get? ↑s=some {cls:=.type "list",dict:=none,data:=.seq its.toArray c',slots:=#[]}->EP X pins σ Q (.ref ↑s) {s with heap:=h'}:=fun its r' hz h' c' kp e=>
  ⟨.ref ↑s,_,I.laid (t':=s.toks) kp (zm _) (show cI X.prog X.w _ h' _ (.lst ys) from⟨hz,its,c',r',e⟩),rfl,q _ (I.cm.fresh (zm _))⟩
 rcases hq with hq | hq
 ·obtain⟨its,r',pl,hz⟩:=I.list hq
  have hlen:=r'.length;obtain⟨o,ho,hc,n,hd⟩:=pl.isList;exact call_list_seq p (.inl rfl) ho hc hd (fun h' c' kp e=>fin its r' hz h' c' kp e) (by simp only[yb] <;> omega)
 ·obtain⟨its,r',pl,hz⟩:=I.tuple hq
  have hlen:=r'.length;obtain⟨o,ho,hc,n,hd⟩:=pl;exact call_list_seq p (.inr rfl) ho hc hd (fun h' c' kp e=>fin its r' hz h' c' kp e) (by simp only[yb] <;> omega)
def cS:gc X (.type "tuple") (fun xs H Q=>∃p ys,xs=[.ref p]/\((aL X.K H p ys/\∀l,H l=none->Q (.ref l) (upd H l (.tup ys)))\/(dB X.K H p ys/\Q (.ref p) H))):=by
 intro pins s σ H xs us Q I r h;obtain⟨p,ys,rfl,h⟩:=h;obtain⟨u,rfl,rx⟩:=vals1 r;cases rx;rcases h with⟨hq,q⟩ | ⟨hq,q⟩
 ·obtain⟨its,r',pl,hz⟩:=I.list hq
  have hlen:=r'.length;refine call_tuple_list pl.isList (fun h' kp=>?_) (by simp only[yb] <;> omega);have I1:Inv X pins σ H {s with heap:=h'}:=I.kept (t':=s.toks) kp;have I2:Inv X pins σ (upd H h'.objs.size (.tup ys)) {s with heap:=h'.push {cls:=.type "tuple",data:=.seq its.toArray}}:=
   I1.laid (t':=s.toks) (fun b o e=>yv _ e) (zm _) (show cI X.prog X.w _ _ _ (.tup ys) from⟨hz,its,r',IsTup.new _ _⟩)
  exact⟨.ref h'.objs.size,_,I2,rfl,q _ (I1.cm.fresh (zm _))⟩
 ·obtain⟨its,r',pl,hz⟩:=I.tuple hq
  exact call_tuple_same pl ⟨.ref p,H,I,rfl,q⟩
def Th (K:yB) (T:String) (x:V) (H:Hp):Prop:=match x with
 | .str _=>T ="str"
 | .int _=>T ="int"
 | .ref p=>(T ="list"/\∃xs,aL K H p xs)\/(T ="tuple"/\∃o,K.lookup p=some o/\o.cls=.type "tuple"/\o.dict=none)\/
   (T ="dict"/\((∃kvs,H p=some (.dK kvs))\/∃kvs,H p=some (.dT kvs)))\/(T ="set"/\∃S n,H p=some (.set S n))
 | _=>False
def Mn (I:Inv X pins σ H s) (r:RelV x v) (ty:Th X.K T x H) :
  s.TypeIs v T/\∀a,v=.ref a->∃ob,s.heap.get? a=some ob/\ob.dict=none:=by
 cases x with
 | str z=>
  obtain⟨t,rfl⟩:=r;cases(show T ="str" from ty);exact⟨typeIs_str s z t,fun _ e=>nomatch e⟩
 | int i=>
  obtain⟨t,rfl⟩:=r;cases(show T ="int" from ty);exact⟨typeIs_int s i t,fun _ e=>nomatch e⟩
 | ref p=>
  cases r;rcases ty with⟨rfl,xs,hq⟩ | ⟨rfl,o,hk,hc,hd⟩ | ⟨rfl,hk⟩ | ⟨rfl,S,n,hk⟩
  ·obtain⟨its,_,pl,_⟩:=I.list hq
   refine⟨pl.isList.typeIs,fun a e=>?_⟩;cases e;obtain⟨o,n,e,c,hd,_⟩:=pl;exact⟨o,e,hd⟩
  ·refine⟨⟨o,I.tW p o hk,hc⟩,fun a e=>?_⟩
   cases e;exact⟨o,I.tW _ o hk,hd⟩
  ·have z:∃o,s.heap.get? p=some o/\o.ExactDict:=by
    rcases hk with⟨kvs,hk⟩ | ⟨kvs,hk⟩
    ·obtain⟨_,_,_,_,o,_,_,e,ex,_⟩:=I.cm p _ hk
     exact⟨o,e,ex⟩
    ·obtain⟨_,_,_,_,o,_,_,e,ex,_⟩:=I.cm p _ hk
     exact⟨o,e,ex⟩
   obtain⟨o,e,ex⟩:=z;refine⟨⟨o,e,ex.1⟩,fun a e2=>?_⟩;cases e2;exact⟨o,e,ex.2.1⟩
  ·obtain⟨o,_,_,_,e,ex,_⟩:=I.cm p _ hk
   refine⟨⟨o,e,ex.1⟩,fun a e2=>?_⟩;cases e2;exact⟨o,e,ex.2.1⟩
 | _=>exact False.elim ty
def Uh (K:yB) (T:String) (r:V->List V->Hp->VK->Prop) (to:TE):TE:=fun σ H Q=>to σ H fun x H1=>Th K T x H1/\r x [] H1 Q
def Tn (K:yB) (T:String) (r:V->List V->Hp->VK->Prop) (to:TE) (t:TA):TE:=fun σ H Q=>to σ H fun x H1=>Th K T x H1/\t σ H1 fun xs H2=>r x xs H2 Q
variable {o e:Expr} {es:List Expr} {to:TE} {t:TA} {name:Str} {apos cpos:Pos} {T id:String} {r:V->List V->Hp->VK->Prop}
def Q2 (pa:PlainAttrs T) (slot:Slot T name id) (hty:typeOf (.builtin id)=pure (.type "method_descriptor")) (hm:UW X id r) (ho:PE X o to)
  (hbase:attributeBase o name X.env (eval o X.env)=eval o X.env<|>qe_) (hline:(apos.endLine == cpos.line)=true<|>qe_):PE X (.Call (.Attribute o name apos) [] [] cpos) (Uh X.K T r to):=by
 intro pins s σ H Q I h;refine wpAny_Call_method0_late hbase hline (dh (ho pins s σ H _ I h) fun v s1 zz=>?_);obtain⟨x,H1,I1,r1,ty,q1⟩:=zz;obtain⟨h1,h2⟩:=Mn I1 r1 ty;exact⟨T,id,pa,slot,hty,h1,h2,Calls.callWith_builtin rfl (PySem.evalArgs_none (hm pins s1 σ H1 x [] v [] Q I1 r1 .nil q1))⟩
def bY (pa:PlainAttrs T) (slot:Slot T name id) (hty:typeOf (.builtin id)=pure (.type "method_descriptor")) (hm:UW X id r) (ho:PE X o to) (ha:PA X (e::es) t)
  (hbase:attributeBase o name X.env (eval o X.env)=eval o X.env<|>qe_)
  (hfew:((backTo cpos (starEach (e::es) X.env)).all (fun x=>!x.1)&&(backToKw cpos (keywordEach [] X.env)).all (fun x=>x.1.isSome)
   &&decide ((e::es).length+([]:List Keyword).length+(if([]:List Keyword).isEmpty then 0 else 1)<30))=true<|>qe_)
  (hline:(apos.endLine == cpos.line)=true<|>qe_) (hs:starEach (e::es) X.env=(false,eval e X.env)::starEach es X.env<|>qe_) (hplain:(backTo cpos (starEach es X.env)).any (·.1)=false<|>qe_) :
  PE X (.Call (.Attribute o name apos) (e::es) [] cpos) (Tn X.K T r to t):=by
 intro pins s σ H Q I h;refine wpAny_Call_method_late hbase hfew hline rfl (dh (ho pins s σ H _ I h) fun v s1 zz=>?_);obtain⟨x,H1,I1,r1,ty,q1⟩:=zz;obtain⟨h1,h2⟩:=Mn I1 r1 ty;refine⟨T,id,pa,slot,hty,h1,h2,?_⟩;have hA:=ha cpos pins s1 σ H1 _ I1 q1;rw[hs] at hA ⊢;refine Calls.callWith_builtin (by show(false||(backTo cpos (starEach es X.env)).any (·.1))=false;rw[hplain] <;> rfl) (Calls.evalArgs_plain ?_);exact dh hA fun us s2 ⟨vs,H2,I2,r2,q2⟩=>hm pins s2 σ H2 x vs v us Q I2 r1 r2 q2
end
end L2
namespace L2
open PySem PySem.Spec PyProof.Rows
def Qj (X:Cx) (id:String) (r:V->List V->Hp->VK->Prop):Prop:=
 ∀(pins:List (Addr×Obj)) (s:Shared) (σ:St) (H:Hp) (x:V) (xs:List V) (v:Value) (us:List Value) (Q:VK),Inv X pins σ H s->RelV x v->Vals xs us->r x xs H Q->
  wpAny (model X.prog X.w) X.A (call (.builtin id) (v::us)) (EP X pins σ Q) X.xe s
theorem Vals.one:∀{x:V} {us:List Value},Vals [x] us->∃u,us=[u]/\RelV x u
 | _,_,.cons r .nil=>⟨_,rfl,r⟩
theorem Vals.zero:∀{us:List Value},Vals [] us->us=[]
 | _,.nil=>rfl
theorem Vals.reverse (h:Vals xs us):Vals xs.reverse us.reverse:=by
 induction h with
 | nil=>exact .nil
 | cons r t ih=>rw[List.reverse_cons,List.reverse_cons];exact Vals.append ih (.cons r .nil)
section
variable {X:Cx} {pins:List (Addr×Obj)} {σ:St} {H:Hp} {s:Shared} {l b:Addr} {xs ys zs:List V}
def Inv.Pb {its its':List Value} {n:Nat} {f:Array Value->Array Value} {t':Nat} (I:Inv X pins σ H s) (hH:H l=some (.lst xs))
  (e:s.heap.get? l=some {cls:=.type "list",data:=.seq its.toArray n}) (hf:f its.toArray=its'.toArray) (hv:Vals ys its') (hz:ys.length<=sizeLine) :
  Inv X pins σ (upd H l (.lst ys)) {s with heap:=s.heap.update l (Obj.mapSeq f),toks:=t'}:=by
 have q:=PySem.IsL.update e f;rw[hf] at q;refine I.write (x:=l) (e:=l) (by rw[hH];exact trivial) (.inl rfl) (fun b' u hb hu=>(yz s.heap (Obj.mapSeq f) (Ne.symm hb)).trans hu) ⟨_,q⟩ ?_;exact⟨hz,its',_,hv,q⟩
def Inv.Sx (I:Inv X pins σ H s) (hv:Vals ys its) (hz:ys.length<=sizeLine) :
  Inv X pins σ (upd H ↑s (.lst ys)) {s with heap:=s.heap.push {cls:=.type "list",data:=.seq its.toArray},toks:=t'}:=
 I.laid (fun _ _ q=>yv _ q) (zm _) ⟨hz,its,0,hv,yx _ rfl⟩
theorem Inv.fresh (I:Inv X pins σ H s):H ↑s=none:=I.cm.fresh (zm _)
def Inv.Nq (I:Inv X pins σ H s) (hH:H l=some (.lst xs)):xs.length<=sizeLine/\∃(its:List Value) (n:Nat),Vals xs its/\xs.length=its.length/\s.heap.get? l=some {cls:=.type "list",data:=.seq its.toArray n}:=by
 obtain⟨z,its,n,r,e⟩:=I.cm l _ hH;exact⟨z,its,n,r,r.length,e⟩
def GN (h:n<=sizeLine):Builtin.List.listTooLong n=false:=by
 unfold Builtin.List.listTooLong;exact ze nofun
end
section
variable {X:Cx}
def OW:V->List V->Hp->VK->Prop:=fun x vs H Q=>∃l xs y,x=.ref l/\vs=[y]/\H l=some (.lst xs)/\xs.length<sizeLine/\Q .bR (upd H l (.lst (xs++[y])))
def bH:Qj X "list.append" OW:=by
 intro pins s σ H x vs v us Q I rx rv h;obtain⟨l,xs,y,rfl,rfl,hH,hz,q⟩:=h;cases rx;obtain⟨u,rfl,ru⟩:=rv.one;obtain⟨z,its,n,r,hl,e⟩:=I.Nq hH;refine call_meets F.slot_list_append ⟨_,e,rfl⟩ F.entry_list_append (F.args_list_append_2 _ _) (PySem.list_append l its.toArray n u (by rw[yb];omega)) ⟨e,?_⟩;refine⟨.bR,_,I.Pb (its':=its++[u]) hH e (by simp) (r.append (.cons ru .nil)) ?_,rfl,q⟩;rw[zh,List.length_singleton];omega
def J7:V->List V->Hp->VK->Prop:=fun x vs H Q=>∃l b xs zs,x=.ref l/\vs=[.ref b]/\H l=some (.lst xs)/\H b=some (.lst zs)/\xs.length+zs.length<=sizeLine/\Q .bR (upd H l (.lst (xs++zs)))
def Lg:Qj X "list.extend" J7:=by
 intro pins s σ H x vs v us Q I rx rv h;obtain⟨l,b,xs,zs,rfl,rfl,hH,hB,hz,q⟩:=h;cases rx;obtain⟨u,rfl,ru⟩:=rv.one;cases ru;obtain⟨z,its,n,r,hl,e⟩:=I.Nq hH;obtain⟨z2,its2,n2,r2,hl2,e2⟩:=I.Nq hB;have hsz:its.toArray.size+its2.toArray.size<=sizeLine:=by rw[yb,yb];omega
 have hlong:¬(!its.toArray.isEmpty&&Builtin.List.listTooLong (its.toArray.size+its2.toArray.size))=true:=by
  rw[GN hsz,Bool.and_false];exact zL
 refine call_meets F.slot_list_extend ⟨_,e,rfl⟩ F.entry_list_extend (F.args_list_extend_2 _ _)
  (AutoSeq1.list_extend_list_list_0 l its.toArray n b its2.toArray n2 hlong (by rw[yb];omega) nofun) ⟨e,e2,?_⟩
 refine⟨.bR,_,I.Pb (its':=its++its2) hH e (by simp) (r.append r2) ?_,rfl,q⟩;rw[zh];omega
def MY:V->List V->Hp->VK->Prop:=fun x vs H Q=>∃l xs,x=.ref l/\vs=[]/\H l=some (.lst xs)/\Q .bR (upd H l (.lst xs.reverse))
def IW:Qj X "list.reverse" MY:=by
 intro pins s σ H x vs v us Q I rx rv h;obtain⟨l,xs,rfl,rfl,hH,q⟩:=h;cases rx;have hus:=rv.zero;subst hus;obtain⟨z,its,n,r,hl,e⟩:=I.Nq hH;refine call_meets F.slot_list_reverse ⟨_,e,rfl⟩ F.entry_list_reverse (F.args_list_reverse_1 _) (AutoSeq1.list_reverse_list_0 l its.toArray n (by rw[yb];omega)) ⟨e,?_⟩;refine⟨.bR,_,I.Pb (its':=its.reverse) hH e (by simp) r.reverse ?_,rfl,q⟩;rw[List.length_reverse];omega
end
section
variable {prog:Program} {w:World} {A:Around} {E:Value->Shared->Prop} {s:Shared}
end
section
variable {X:Cx}
end
end L2
namespace U0
open PySem PySem.W PySem.Calls PyProof.Rows
def xi:∀(ns:List Int) (vs:List Value),WellAll P h vs (ns.map WData.int)->IntsAre vs ns:=by
 intro ns
 induction ns with
 | nil=>
  intro vs w;rw[yn] at w;cases w;exact .nil
 | cons n ns ih=>
  intro vs w;rw[zj] at w;cases w with
  | cons a b=>
   cases a;exact .cons _ _ (ih _ b)
def K1 {l:OpenLaw} {n:Nat} (hn:l.most=some n) {P:Params} {h:Heap} {args:List WData} {vals:List Value}
  (hpre:l.row.toRowW.claim.pre args=true) (hwl:WellAll P h vals args) :
  ∃a vs ns,vals=[Value.ref a]/\args=[WData.list (ns.map WData.int)]/\h.get? a=some {cls:=.type "list",data:=.seq vs.toArray}/\IntsAre vs ns/\ns.length<=n:=by
 have hsh:WShape.hasAll [] args [.list .int]=true:=(pre_splitW hpre).1;have hc:l.pre.holds [] {args:=args}=true:=(pre_splitW hpre).2;obtain⟨d,r,rfl,h1,h2⟩:=hasAllW_cons hsh;obtain rfl:=hasAllW_nil h2;obtain⟨xs,rfl,h3⟩:=hasW_list h1;obtain⟨ns,rfl⟩:=items_int h3;have hlen:ns.length<=n:=by
  unfold OpenLaw.pre at hc;have h4:(WTm.not (.lt (.lit (.int (n:Int))) (.len (.arg 0)))).holds [] {args:=[.list (ns.map .int)]}=true:=by
   have h4:=(holds_andW hc).1;rw[hn] at h4;exact h4
  have h5:=condW_of h4 (w_not (w_lt w_lit (w_len_list (w_arg rfl))));rw[za] at h5;refine Nat.le_of_not_lt fun q=>?_;have q':(n:Int)<((ns.length:Nat):Int):=nofun
  first
   | (rw[zg q'] at h5;exact absurd h5 ∅)
   | (simp at h5;omega)
 cases hwl with
 | cons w1 w2=>
  cases w2;cases w1 with
  | list ho hall=>exact⟨_,_,ns,rfl,rfl,ho,xi ns _ hall,hlen⟩
def K8 (l:OpenLaw) (args:List WData):l.row.toRowW.claim.post args (.bool true) args=true:=
 postW_of (r:=l.row.toRowW) (X:=(true == true))
  (show WShape.has [] (.bool true) .bool=true by first | rfl | decide | simp[WShape.has,WShape.arms,WShape.armsAll])
  (show(WTm.eq .res (.lit (.bool true))).value [] {args:=args,res:=some (.bool true),after:=args}=some (.bool (true == true)) from w_eq_bool (w_res rfl) w_lit) rfl
def HK {l:OpenLaw} {n:Nat} {q:Program} {loose:List Str} {XP:(Str->Option Value)->Heap->Prop} {YP:World->Heap->Prop} {d:DefRec}
  (hn:l.most=some n) (hdf:d.params.defaults=[])
  (call:∀(w:World) (s₀ s₁:Shared) (mg mb:Str->Option Value) (fa:Addr) (o:Obj) (pm cd doc:Value) (a:Addr) (vs:List Value) (ns:List Int),
   Ground q loose [] XP w s₀ mg mb s₁.heap->YP w s₁.heap->
   s₁.heap.get? fa=some o->o.data=.func (docDef d.name d.params d.body d.scope pm cd doc)->s₁.heap.CodeRec cd d.name->mg d.name=some (.ref fa)->
   s₁.heap.get? a=some {cls:=.type "list",data:=.seq vs.toArray}->IntsAre vs ns->ns.length<=n->s₁.gens=#[]->
   codeAny (model l.prog w) callerA (.call (.ref fa) ⟨[.ref a],[]⟩) (fun r s'=>r=.ok (.ret (.bool true))/\OldK s₁.heap s'.heap/\s'.os=s₁.os/\AllBare s'.gens) s₁) :
  WalkO q loose XP YP l.row.toRowW d [] (fun f vs=>PySem.call f vs):=by
 intro w s₀ s₁ mg mb G Y fa o pm cd doc dV kV ho hd hcd hD hmg hg args vals as hpre hlay hrd hwl hlo;obtain rfl:dV=.none:=Dflts.none hD hdf;obtain rfl:kV=.none:=Dflts.noKw hD;obtain⟨a,vs,ns,rfl,rfl,hobj,hints,hlen⟩:=K1 hn hpre hwl;refine enter_call (codeAny_mono (call w s₀ s₁ mg mb fa o pm cd doc a vs ns G Y ho (fd_plain hd) hcd hmg hobj hints hlen hg) fun r s' hq=>?_);obtain⟨rfl,h2,h3,h4⟩:=hq;exact⟨.inl ⟨.bool true,.bool true,[],rfl,fun _=>rfl,.bool true,K8 l _,fun _=>⟨List.Pairwise.nil,fun _ hm=>(nomatch hm)⟩⟩,h2,h3,h4⟩
section
variable {prog:Program} {w:World} {A:Around} {E:Value->Shared->Prop} {s:Shared} {K:Frag}
end
end U0
namespace L2
open PySem PySem.Spec PyProof.Rows
theorem CM:∀{vs:List Value} {ns:List Int},IntsAre vs ns->Vals (ns.map V.int) vs
 | _,_,.nil=>.nil
 | _,_,.cons n t h=>.cons ⟨t,rfl⟩ (CM h)
def RM (H:Hp):Prop:=∀b,H b=none\/∃o xs,H b=some (.oy o (.lst xs))
def Ny {P:Program} {w:World} {K:yB} {mg mb:Str->Option Value} {CX:JR} {k:Nat} {fa a:Addr} {fd:FuncData} {x:Str} {sp:Sp} {s₁:Shared} {vs:List Value} {ns:List Int}
  (KX:K.In s₁.heap) (hns:s₁.heap.Ns mainGlobals mg) (hb:s₁.heap.Ns builtinsNs mb) (hbb:∀x:Str,x≠ "__name__"->mb x=bootBuiltins x) (hlim:s₁.heap.NoLimit) (hg:s₁.gens=#[])
  (ha:s₁.heap.get? a=some {cls:=.type "list",data:=.seq vs.toArray}) (hi:IntsAre vs ns) (hl:ns.length<=sizeLine) (hr:gg k callerA)
  (F:∀base:Heap,K.In base->base.Ns mainGlobals mg->dU P w K mg base CX k fa fd [x] sp) (hbind:∀(s:Shared) (u:Value),BindsTo s fd ⟨[u],[]⟩ [(x,u)])
  (hsp:∀H:Hp,RM H->aL K H a (ns.map V.int)->sp [.ref a] H (fun v _=>v=.bl true) fun _ _ _=>False)
  (hCX:∀H e s',CX [] H s₁ (fun _ _ _=>False) e s'->False) :
  codeAny (model P w) callerA (.call (.ref fa) ⟨[.ref a],[]⟩) (fun r s'=>r=.ok (.ret (.bool true))/\OldK s₁.heap s'.heap/\s'.os=s₁.os/\AllBare s'.gens) s₁:=by
 have rv:=CM hi;have lenV:=hi.length;have core:∀H:Hp,RM H->aL K H a (ns.map V.int)->si P w H s₁.heap->(∀b,H b≠none->b=a)->(H a≠none->K.lookup a=none)->
   codeAny (model P w) callerA (.call (.ref fa) ⟨[.ref a],[]⟩) (fun r s'=>r=.ok (.ret (.bool true))/\OldK s₁.heap s'.heap/\s'.os=s₁.os/\AllBare s'.gens) s₁:=by
  intro H hO hS cm hA hK;have base_of:∀{b:Addr} {o:Obj},s₁.heap.get? b=some o->H b=none->(EH s₁.heap H).get? b=some o:=fun e n=>NF e n;have noA:∀{b:Addr} {o:Obj} {es:Array DictEntry} {ep:Nat},s₁.heap.get? b=some o->o.data=.dict es ep->H b=none:=fun {b o es ep} e d=>by
   cases q:H b with
   | none=>rfl
   | some u=>
    have e':b=a:=hA b (by rw[q];simp);subst e';rw[ha] at e;cases e;have d':Data.seq vs.toArray _=Data.dict es ep:=d;cases d'
  have nsK:∀{b:Addr} {m:Str->Option Value},s₁.heap.Ns b m->(EH s₁.heap H).Ns b m:=fun {b m} ⟨o,es,ep,e,d,r⟩=>⟨o,es,ep,base_of e (noA e d),d,r⟩
  have hKb:K.In (EH s₁.heap H):=fun b o e=>base_of (KX b o e) (by
   cases q:H b with
   | none=>rfl
   | some u=>
    have e':b=a:=hA b (by rw[q];simp);subst e';rw[hK (by rw[q];simp)] at e;cases e)
  have hM:Mod K mg (EH s₁.heap H):=⟨hKb,nsK hns,⟨mb,nsK hb,hbb⟩,let ⟨mc,h1,h2⟩:=hlim;⟨mc,nsK h1,h2⟩⟩
  have e0:Ib P w K mg (EH s₁.heap H) callerA [] s₁ H:=⟨rfl,hM,fun b o e=>O8 e,Nat.le_of_eq (Lu _ _),trivial,fun b hb=>absurd (show b∈([]:List Addr) from hb) (by simp),cm,.of_eq hg⟩
  refine codeAny_mono ((F _ hKb (nsK hns)).run callerA [] s₁ H ⟨[.ref a],[]⟩ [.ref a] [.ref a] _ _ hr e0 (hbind s₁ (.ref a)) (.cons rfl .nil) (hsp H hO hS)) fun r s' h=>?_;cases r with
  | error e=>exact(hCX H e s' h).elim
  | ok fl=>
   cases fl with
   | next=>exact False.elim h
   | brk=>exact False.elim h
   | cont=>exact False.elim h
   | ret u=>
    obtain⟨v,H',os,bare,un,hok',r',q⟩:=h;have q':v=.bl true:=q;subst q';obtain rfl:u=Value.bool true:=r';refine⟨rfl,OldK.of_keep fun b o e=>?_,os,bare⟩;cases q:H b with
    | none=>exact un.keep b o e q (by intro z;exact absurd (show b∈([]:List Addr) from z) (by simp)) (by simp)
    | some u=>
     rcases hO b with z | ⟨ob,xs,z⟩
     ·rw[q] at z;cases z
     ·have z2:=un.om b ob _ z
      obtain⟨e1,_⟩:=cm b _ z;obtain⟨e2,_⟩:=hok' b _ z2;rw[e] at e1;cases e1;exact e2
 cases hk:K.lookup a with
 | some o=>
  have e:=KX a o hk;rw[ha] at e;cases e;refine core (fun _=>none) (fun _=>.inl rfl) (.inr ⟨_,vs.toArray,_,hk,rfl,rfl,rfl,by rw[yb,lenV];exact hl,by simpa using rv⟩) (fun b u z=>by have z':(none:Option HO)=some u:=z;cases z') (fun b z=>absurd rfl z) fun z=>absurd rfl z
 | none=>
  refine core (fun b=>if b=a then some (.oy {cls:=.type "list",data:=.seq vs.toArray} (.lst (ns.map V.int))) else none) (fun b=>?_) (.inl (.inr ⟨{cls:=.type "list",data:=.seq vs.toArray},if_pos rfl⟩)) (fun b u z=>?_) (fun b z=>?_) fun _=>hk
  ·by_cases hb:b=a
   ·exact .inr ⟨_,_,if_pos hb⟩
   ·exact .inl (if_neg hb)
  ·by_cases hb:b=a
   ·have z':=(if_pos hb).symm.trans z
    cases z';subst hb;exact⟨ha,by rw[za];exact hl,vs,_,rv,ha⟩
   ·have z':=(if_neg hb).symm.trans z
    cases z'
  ·by_cases hb:b=a
   ·exact hb
   ·exact absurd (if_neg hb) z
end L2
namespace L2
open PySem PySem.Spec PyProof.Rows
def Oz {l:PySem.W.OpenLaw} {n k:Nat} {q:Program} {loose:List Str} {XP:(Str->Option Value)->Heap->Prop} {YP:World->Heap->Prop} {d:DefRec} {K:Params->yB} {CX:World->JR} {sp:World->Sp} {x:Str}
  (hn:l.most=some n) (hn2:n<=sizeLine) (hdf:d.params.defaults=[]) (hr:gg k callerA)
  (hY:∀(w:World) (h:Heap),YP w h->(K w.params).In h)
  (F:∀(w:World) (mg:Str->Option Value) (fa:Addr) (h:Heap),(K w.params).In h->h.Ns mainGlobals mg->mg d.name=some (.ref fa)->
   ∃fd:FuncData,(∀(s:Shared) (u:Value),BindsTo s fd ⟨[u],[]⟩ [(x,u)])/\
    ∀base:Heap,(K w.params).In base->base.Ns mainGlobals mg->dU l.prog w (K w.params) mg base (CX w) k fa fd [x] (sp w))
  (hsp:∀(w:World) (H:Hp) (a:Addr) (ns:List Int),ns.length<=n->RM H->aL (K w.params) H a (ns.map V.int)->sp w [.ref a] H (fun v _=>v=.bl true) fun _ _ _=>False)
  (hCX:∀(w:World) (H:Hp) (s:Shared) (e:Value) (s':Shared),CX w [] H s (fun _ _ _=>False) e s'->False) :
  PySem.W.WalkO q loose XP YP l.row.toRowW d [] (fun f vs=>PySem.call f vs):=by
 refine U0.HK hn hdf fun w s₀ s₁ mg mb fa o pm cd doc a vs ns G Y ho hd hcd hmg hobj hints hlen hg=>?_;have KX:=hY w _ Y;obtain⟨fd,hb,hF⟩:=F w mg fa _ KX G.T.g hmg;exact Ny KX G.T.g G.T.b G.T.builtins G.T.nolimit hg hobj hints (zM hlen hn2) hr hF hb (fun H hO hS=>hsp w H a ns hlen hO hS) fun H e s'=>hCX w H s₁ e s'
end L2
namespace L2
open PySem PySem.Spec PyProof.Rows
def inClass (s:Stmt) (j:Nat):Stmt:=match s with
 | .ClassDef _ _ _ body _ _ _ _ _ _ _=>body.getD j (.Pass ⟨0,0,0,0⟩)
 | _=>.Pass ⟨0,0,0,0⟩
def dt (s:Stmt):Arguments:=match s with
 | .FunctionDef _ a _ _ _ _ _ _ _ _=>a
 | _=>{posonlyargs:=[],args:=[],vararg:=none,kwonlyargs:=[],kw_defaults:=[],kwarg:=none,defaults:=[]}
def cF (s:Stmt):List Stmt:=match s with
 | .FunctionDef _ _ b _ _ _ _ _ _ _=>b
 | _=>[]
def aq (s:Stmt):Scope:=match s with
 | .FunctionDef _ _ _ _ _ _ sc _ _ _=>sc
 | _=>{kind:=.function,names:=[],isGenerator:=false,isCoroutine:=false}
abbrev Ie:JR:=fun _ _ _ _ _ _=>False
abbrev E0:XK:=fun _ _ _=>False
def J9:Passes Ie X E0:=fun _ _ _ _ _ _ _ h=>h.elim
structure Oj (K:yB) (x qual:Str) (st:Stmt) (f:Addr) (fd:FuncData):Prop where
 ex:∃(oc:Value) (od:Option Addr) (kV doc pm:Value) (an:Option Addr) (cdv ct:Value) (osl:Array (Option Value)),
  fd=PySem.W.fnOf x qual (dt st) (cF st) (aq st) .none kV doc pm an cdv ct/\K.lookup f=some ⟨oc,od,.func fd,osl⟩/\PySem.W.codeIn K cdv qual=true
 kp:PySem.W.keepIn K (.ref f)=true
section
variable {P:Program} {w:World} {K:yB} {mg:Str->Option Value} {base:Heap}
def Oj.ok {x qual:Str} {st:Stmt} {f:Addr} {fd:FuncData} {N ps:List Str} {k:Nat} {sp:Sp} (F:Oj K x qual st f fd) (S:aF N ps (aq st)) (len:∀vs H Q E,sp vs H Q E->vs.length=ps.length)
  (hbody:∀(cdv:Value) (A:Around) (outer:List Env) (s:Shared) (H:Hp) (vs:List V) (Q:VK) (E:XK),gg k (A.deeper (envOfC qual (aq st) ↑s f cdv))->sp vs H Q E->
   ∃t,DC (lB Ie P w K mg base N qual (aq st) f cdv A outer s H E).IU (cF st) t/\t {nx:=fun _ H'=>Q .bR H',rt:=Q} (start N vs) H):dU P w K mg base Ie (k+1) f fd ps sp:=by
 obtain⟨oc,od,kV,doc,pm,an,cdv,ct,osl,rfl,lk,hcd⟩:=F.ex;refine Qf lk hcd S len fun A outer s H vs Q E hr hsp=>?_;obtain⟨t,h,q⟩:=hbody cdv A outer s H vs Q E hr hsp;exact⟨t,h.IU,q⟩
def Oj.binds {x qual:Str} {st:Stmt} {f:Addr} {fd:FuncData} {ps:List Str} (F:Oj K x qual st f fd)
  (h:∀(kV doc pm:Value) (an:Option Addr) (cdv ct:Value) (us:List Value),us.length=ps.length->bindArgs (PySem.W.fnOf x qual (dt st) (cF st) (aq st) .none kV doc pm an cdv ct) ⟨us,[]⟩=pure (ps.zip us)):Binds K fd ps []:=by
 obtain⟨oc,od,kV,doc,pm,an,cdv,ct,osl,rfl,lk,hcd⟩:=F.ex;exact .all (h kV doc pm an cdv ct)
def lz {x qual:Str} {st:Stmt} {f:Addr} {oc:Value} {od an:Option Addr} {osl:Array (Option Value)} {kV doc pm cdv ct:Value} (l:K.lookup f=some ⟨oc,od,.func (PySem.W.fnOf x qual (dt st) (cF st) (aq st) .none kV doc pm an cdv ct),osl⟩)
  (c:PySem.W.codeIn K cdv qual=true) (k:PySem.W.keepIn K (.ref f)=true):Oj K x qual st f (PySem.W.fnOf x qual (dt st) (cF st) (aq st) .none kV doc pm an cdv ct):=⟨⟨oc,od,kV,doc,pm,an,cdv,ct,osl,rfl,l,c⟩,k⟩
end
def iI (hr:gg k A):A.units+1<cLine:=Nat.lt_of_le_of_lt (Nat.add_le_add_left (by decide:1<=64) _) hr.units
section
variable {X:Cx}
def pv (i:Nat) (hN:X.N[i]?=some x<|>qe_) (hv:RI X.env.scope x<|>qg_) (hd:(x == ("__debug__": Str))=false<|>qb_)
  (hcd:(x == ("__classdict__": Str))=false<|>qb_):PE X (.Name x pos) (bf i):=QY hN hv hd hcd
end
def SD {A B:Prop} (h:B):if false=true then A else B:=by
 rw[if_neg zL];exact h
def Uy {A B:Prop} (h:A):if true=true then A else B:=by
 rw[if_pos rfl];exact h
def xh {c A B:Prop} [Decidable c] (h1:c->A) (h2:¬c->B):if c then A else B:=by
 by_cases h:c
 ·rw[if_pos h]
  exact h1 h
 ·rw[if_neg h]
  exact h2 h
def Qc {c A B:Prop} [Decidable c] (hc:c) (h:B):if(!decide c)=true then A else B:=by
 rw[zg hc];exact SD h
def aB (H H':Hp):Prop:=∀b o,H b=some o->H' b=some o
def aB.refl (H:Hp):aB H H:=fun _ _ h=>h
def aB.trans (a:aB H H1) (b:aB H1 H2):aB H H2:=fun c o h=>b c o (a c o h)
def aB.seq {K:yB} {H H':Hp} {a:Addr} {xs:List V} (e:aB H H') (h:aL K H a xs):aL K H' a xs:=by
 rcases h with(h | ⟨o,h⟩) | h
 ·exact .inl (.inl (e _ _ h))
 ·exact .inl (.inr ⟨o,e _ _ h⟩)
 ·exact .inr h
end L2
namespace Lm
def red (t b:Int):Int×Int:=(t/(Int.gcd t b:Int),b/(Int.gcd t b:Int))
def xO {t b:Int} (hb:0<b):0<(Int.gcd t b:Int):=by
 have:0<Int.gcd t b:=Int.gcd_pos_of_ne_zero_right t nofun;omega
def mD {t b k:Int} (hk:0<k) (hb:0<b):red (k*t) (k*b)=red t b:=by
 have g0:=xO (t:=t) hb;have e:(Int.gcd (k*t) (k*b):Int)=k*(Int.gcd t b:Int):=by
  rw[Int.gcd_mul_left];simp only[Int.natCast_mul];rw[Int.natAbs_of_nonneg nofun]
 unfold red;rw[e,Int.mul_ediv_mul_of_pos _ _ hk,Int.mul_ediv_mul_of_pos _ _ hk]
def jO {t b:Int} (hb:0<b):∃g,0<g/\t=g*(red t b).1/\b=g*(red t b).2/\0<(red t b).2/\(red t b).2<=b:=by
 have g0:=xO (t:=t) hb;have d1:(Int.gcd t b:Int) ∣ t:=Int.gcd_dvd_left ..;have d2:(Int.gcd t b:Int) ∣ b:=Int.gcd_dvd_right ..;have e1:(Int.gcd t b:Int)*(t/(Int.gcd t b:Int))=t:=Int.mul_ediv_cancel' d1;have e2:(Int.gcd t b:Int)*(b/(Int.gcd t b:Int))=b:=Int.mul_ediv_cancel' d2;refine⟨_,g0,e1.symm,e2.symm,?_,?_⟩
 ·exact Int.ediv_pos_of_pos_of_dvd hb nofun d2
 ·exact zX _ nofun
def Ak {t b:Int} (ht:0<=t):0<=(red t b).1:=zW ht (Int.natCast_nonneg _)
def Al {t b:Int} (ht:0<=t):(red t b).1<=t:=zX _ ht
def OR {t b:Int} (hb:0<b):red (red t b).1 (red t b).2=red t b:=by
 obtain⟨g,g0,e1,e2,p,_⟩:=jO (t:=t) hb;have h:=mD (t:=(red t b).1) (b:=(red t b).2) g0 p;rw[<-e1,<-e2] at h;exact h.symm
def QR {t b s c:Int} (hb:0<b) (hc:0<c) (h:t*c=s*b):red t b=red s c:=by
 have h1:red (c*t) (c*b)=red t b:=mD hc hb;have h2:red (b*s) (b*c)=red s c:=mD hb hc;rw[<-h1,<-h2,Int.mul_comm c t,h,Int.mul_comm s b,Int.mul_comm c b]
def add (x y:Int×Int):Int×Int:=red (x.1*y.2+y.1*x.2) (x.2*y.2)
def PB {t b s c:Int} (hb:0<b) (hc:0<c):add (red t b) (red s c)=red (t*c+s*b) (b*c):=by
 obtain⟨g,g0,e1,e2,p,_⟩:=jO (t:=t) hb;obtain⟨k,k0,f1,f2,q,_⟩:=jO (t:=s) hc;unfold add;generalize hx:red t b=x at *;generalize hy:red s c=y at *;have h:=mD (t:=x.1*y.2+y.1*x.2) (b:=x.2*y.2) (Int.mul_pos g0 k0) (Int.mul_pos p q);rw[<-h]
 congr 1
 ·rw[e1,e2,f1,f2,Int.mul_add]
  congr 1 <;> simp only[Int.mul_assoc,Int.mul_left_comm,Int.mul_comm]
 ·rw[e2,f2];simp only[Int.mul_assoc,Int.mul_left_comm,Int.mul_comm]
end Lm
namespace Lm
def Rd (x:Int×Int):Prop:=∃t b,0<=t/\0<b/\x=red t b
def Rd.of {t b:Int} (ht:0<=t) (hb:0<b):Rd (red t b):=⟨t,b,ht,hb,rfl⟩
def Rd.pos {x:Int×Int} (h:Rd x):0<=x.1/\0<x.2/\red x.1 x.2=x:=by
 obtain⟨t,b,ht,hb,rfl⟩:=h;obtain⟨g,g0,e1,e2,p,_⟩:=jO (t:=t) hb;exact⟨Ak ht,p,OR hb⟩
def Rd.zero:Rd (0,1):=⟨0,1,∅,∅,∅⟩
theorem Rd.add {x y:Int×Int} (h:Rd x) (k:Rd y):Rd (add x y):=by
 obtain⟨a,b,_⟩:=h.pos;obtain⟨c,d,_⟩:=k.pos;refine⟨_,_,?_,Int.mul_pos b d,rfl⟩;exact Int.add_nonneg (Int.mul_nonneg a nofun) (Int.mul_nonneg c nofun)
theorem add_comm (x y:Int×Int):add x y=add y x:=by
 unfold add;rw[Int.add_comm,Int.mul_comm x.2 y.2]
theorem add_zero {x:Int×Int} (h:Rd x):add x (0,1)=x:=by
 unfold add;simp only[Int.mul_one,Int.zero_mul,Int.add_zero];exact h.pos.2.2
def G1 {x y:Int} (hx:0<=x) (hy:0<y):Int.gcd y (x%y)=Int.gcd x y:=by
 have e:(x%y).natAbs=x.natAbs%y.natAbs:=by
  obtain⟨a,rfl⟩:=yL hx;obtain⟨b,rfl⟩:=yL (Int.le_of_lt hy);rfl
 show Nat.gcd y.natAbs (x%y).natAbs=Nat.gcd x.natAbs y.natAbs;rw[e,Nat.gcd_comm x.natAbs,Nat.gcd_rec y.natAbs x.natAbs,Nat.gcd_comm]
def NI {t b:Int} (hb:0<b):(Int.gcd t b:Int)<=b:=by
 have h:Int.gcd t b<=b.natAbs:=Nat.gcd_le_right _ nofun;omega
end Lm
namespace Lm
end Lm
namespace Lm
theorem Kq {c:Nat}:∀{p q A B:List Nat},c∉p->c∉q->p++c::A=q++c::B->p=q/\A=B
 | [],[],A,B,_,_,h=>⟨rfl,by simpa using h⟩
 | [],y::q,A,B,_,hq,h=>by
  simp at h;exact absurd (by rw[h.1];exact zr) hq
 | x::p,[],A,B,hp,_,h=>by
  simp at h;exact absurd (by rw[<-h.1];exact zr) hp
 | x::p,y::q,A,B,hp,hq,h=>by
  simp only[List.cons_append,List.cons.injEq] at h;obtain⟨e,h⟩:=h;obtain⟨e1,e2⟩:=Kq (fun z=>hp (zp _ z)) (fun z=>hq (zp _ z)) h;exact⟨by rw[e,e1],e2⟩
def NG:∀(n:Nat),0<n->∃c r,Nat.toDigits 10 n=c::r/\c≠'0':=by
 intro n
 induction n using Nat.strongRecOn with
 | _ n ih=>
  intro hn
  by_cases h:n<10
  ·rw[Nat.toDigits_of_lt_base h]
   refine⟨_,[],rfl,?_⟩;exact(by decide:∀n<10,0<n->Nat.digitChar n≠'0') n h hn
  ·have hd:n%10<10:=Nat.mod_lt _ ∅
   obtain⟨c,r,e,hc⟩:=ih (n/10) nofun nofun;have t:=Nat.toDigits_append_toDigits (b:=10) (n:=n/10) (d:=n%10) ∅ nofun hd;rw[Nat.div_add_mod,e] at t;exact⟨c,r++Nat.toDigits 10 (n%10),by rw[<-t];rfl,hc⟩
def Rg {n k:Nat} (hk:0<k):n<10^k->(Nat.toDigits 10 n).length<=k:=by
 intro h
 induction k generalizing n with
 | zero=>omega
 | succ k ih=>
  by_cases h10:n<10
  ·rw[Nat.toDigits_of_lt_base h10];simp
  ·have hd:n%10<10:=Nat.mod_lt _ ∅
   have hk0:0<k:=by
    rcases Nat.eq_zero_or_pos k with rfl | z
    ·simp at h;omega
    ·exact z
   have:=ih hk0 (n:=n/10) (by rw[Nat.div_lt_iff_lt_mul ∅];rw[Nat.pow_succ] at h;exact h);have t:=Nat.toDigits_append_toDigits (b:=10) (n:=n/10) (d:=n%10) ∅ nofun hd;rw[Nat.div_add_mod] at t;rw[<-t,zh,Nat.toDigits_of_lt_base hd];simp;omega
end Lm
namespace L2
open PySem
def fF (t:Bool) (h:Heap) (a:Addr) (items:Array Value):Prop:=match t with
 | true=>h.IsTuple a items
 | false=>h.IsList a items
def dG (t:Bool) (h:Heap) (it a:Addr) (k:Nat):Prop:=match t with
 | true=>h.IsTupleIter it a k
 | false=>h.IsListIter it a k
def tZ (t:Bool) (a:Addr):Obj:=match t with
 | true=>{cls:=.type "tuple_iterator",data:=.fields #[.ref a,.int 0 0]}
 | false=>{cls:=.type "list_iterator",data:=.fields #[.ref a,.int 0 0]}
theorem fF.at {t:Bool} {h h':Heap} {a:Addr} {items:Array Value} (x:fF t h a items) (e:∀o,h.get? a=some o->h'.get? a=some o):fF t h' a items:=by
 cases t
 ·exact Heap.IsList.at x e
 ·obtain⟨o,ho,r⟩:=x;exact⟨o,e o ho,r⟩
theorem dG.at {t:Bool} {h h':Heap} {it a:Addr} {k:Nat} (x:dG t h it a k) (e:∀o,h.get? it=some o->h'.get? it=some o):dG t h' it a k:=by
 cases t
 ·exact Heap.IsListIter.at x e
 ·exact Heap.IsTupleIter.at x e
def fF.but {t:Bool} {h h':Heap} {a b:Addr} {items:Array Value} (x:fF t h a items) (hs:Heap.SameBut b h h') (n:a≠b):fF t h' a items:=x.at fun o e=>hs.extBut a o n e
def dG.but {t:Bool} {h h':Heap} {it a b:Addr} {k:Nat} (x:dG t h it a k) (hs:Heap.SameBut b h h') (n:it≠b):dG t h' it a k:=x.at fun o e=>hs.extBut it o n e
theorem dG.get {t:Bool} {h:Heap} {it a:Addr} {k:Nat} (x:dG t h it a k):∃o,h.get? it=some o/\∀v,o.data≠.cell v:=by
 cases t
 ·obtain⟨o,e,_,d⟩:=x;exact⟨o,e,fun v z=>by rw[d] at z;cases z⟩
 ·obtain⟨o,e,_,d⟩:=x;exact⟨o,e,fun v z=>by rw[d] at z;cases z⟩
def dG.new (t:Bool) (h:Heap) (a:Addr):dG t (h.push (tZ t a)) h.objs.size a 0:=by
 cases t
 ·exact⟨_,yx _ rfl,rfl,rfl⟩
 ·exact⟨_,yx _ rfl,rfl,rfl⟩
section
variable {prog:Program} {w:World} {A:Around} {E:Value->Shared->Prop} {s:Shared}
def J2 {t:Bool} {a:Addr} {items:Array Value} {Q:Value->Shared->Prop} (hl:fF t s.heap a items) (hQ:Q (.ref ↑s) {s with heap:=s.heap.push (tZ t a)}) :
  wpAny (model prog w) A (pyIter (.ref a)) Q E s:=by
 cases t
 ·exact wpAny_pyIter_list hl hQ
 ·exact wpAny_pyIter_tuple hl hQ
def sA {t:Bool} {it a:Addr} {i:Nat} {items:Array Value} {x:Value} {Q:Value->Shared->Prop} (hit:dG t s.heap it a i) (hl:fF t s.heap a items) (hx:items[i]?=some x)
  (hQ:∀h',dG t h' it a (i+1)->Heap.SameBut it s.heap h'->Q x {s with heap:=h'}):wpAny (model prog w) A (Builtin.SmallTypes.nextOf (.ref it)) Q E s:=by
 cases t
 ·exact wpAny_nextOf_list_item hit hl hx hQ
 ·have hit':s.heap.IsTupleIter it a i:=hit
  obtain⟨o,ho,hc,hd⟩:=id hit';obtain⟨ol,hol,_,nl,hdl⟩:=(show s.heap.IsTuple a items from hl)
  unfold Builtin.SmallTypes.nextOf;refine yu (wpAny_callSpecial?_slot (name:=Str.ofString "__next__") hit'.typeIs F.slot_tuple_iterator_next (wpAny_call_entry F.slot_tuple_iterator_next hit'.typeIs F.entry_tuple_iterator_next ?_ (F.args_tuple_iterator_next_1 _)));show wpAny _ _ (field (.ref it) 0 >>= _) _ _ s;refine yu (wpAny_field ho hd (x:=.ref a) rfl ?_);show wpAny _ _ (if(Value.ref a == Value.none)=true then _ else _) _ _ s;rw[if_neg (show¬((Value.ref a == Value.none)=true) from zL)];show wpAny _ _ (field (.ref it) 1 >>= _) _ _ s;refine yu (wpAny_field ho hd (x:=.int i 0) rfl ?_);show wpAny _ _ (seqItems? (.ref a) >>= _) _ _ s;refine yu (wpAny_seqItems hol hdl ?_);simp only[Int.toNat_natCast,hx];refine yu (wpAny_setField ho hd (by simp) (yw ⟨x,rfl,yw (hQ _ ?_ (Heap.SameBut.update ..))⟩));exact⟨_,yA _ ho (Obj.isFreed_of_fields (Obj.data_mapFields hd _)),(Obj.cls_mapFields ..).trans hc,by rw[Obj.data_mapFields hd];simp[rawInt]⟩
def DN {t:Bool} {it a:Addr} {i:Nat} {items:Array Value} {Q:Value->Shared->Prop} (hh:A.handled=none) (hit:dG t s.heap it a i) (hl:fF t s.heap a items) (hx:items[i]?=none)
  (hE:∀h' e,Heap.ExtBut it s.heap h'->(∃o,h'.get? e=some o/\o.cls=.type "StopIteration")->E (.ref e) {s with heap:=h'}):wpAny (model prog w) A (Builtin.SmallTypes.nextOf (.ref it)) Q E s:=by
 cases t
 ·exact wpAny_nextOf_list_end hh hit hl hx hE
 ·have hit':s.heap.IsTupleIter it a i:=hit
  obtain⟨o,ho,hc,hd⟩:=id hit';obtain⟨ol,hol,_,nl,hdl⟩:=(show s.heap.IsTuple a items from hl)
  unfold Builtin.SmallTypes.nextOf;refine yu (wpAny_callSpecial?_slot (name:=Str.ofString "__next__") hit'.typeIs F.slot_tuple_iterator_next (wpAny_call_entry F.slot_tuple_iterator_next hit'.typeIs F.entry_tuple_iterator_next ?_ (F.args_tuple_iterator_next_1 _)));show wpAny _ _ (field (.ref it) 0 >>= _) _ _ s;refine yu (wpAny_field ho hd (x:=.ref a) rfl ?_);show wpAny _ _ (if(Value.ref a == Value.none)=true then _ else _) _ _ s;rw[if_neg (show¬((Value.ref a == Value.none)=true) from zL)];show wpAny _ _ (field (.ref it) 1 >>= _) _ _ s;refine yu (wpAny_field ho hd (x:=.int i 0) rfl ?_);show wpAny _ _ (seqItems? (.ref a) >>= _) _ _ s;refine yu (wpAny_seqItems hol hdl ?_);simp only[Int.toNat_natCast,hx];refine yu (wpAny_rule (yu (wpAny_setField ho hd (by simp) ?_)));show wpAny _ _ (newExc (.type "StopIteration") [] >>= _) _ _ _;refine yu ?_;simp only[newExc,newTuple];refine yu (wpAny_newObj_type ?_ (by size_fits));refine yu (m:=firstArgMember _ _) (wpAny_of_eq (a:=Value.none) (by first | rfl | (simp only[firstArgMember];rfl)) (wpAny_newObj_type ?_ (by size_fits)));simp only[raiseNew];refine yu (wpAny_handled ?_)
  first | rw[show A.in1.handled=none from hh] | rw[hh]
  exact yu (yw (wpAny_throw (hE _ _ (((Heap.SameBut.update ..).extBut.push _).push _) ⟨_,yx _ rfl,rfl⟩)))
structure LZ (z TI TO i1 i2:Addr):Prop where
 a1:TI≠z
 a2:TO≠z
 a3:i1≠z
 a4:i2≠z
 a5:TI≠TO
 a6:TI≠i1
 a7:TI≠i2
 a8:TO≠i1
 a9:TO≠i2
 b1:i1≠i2
structure BB (l z TO i1 i2:Addr):Prop where
 a1:l≠z
 a2:l≠TO
 a3:l≠i1
 a4:l≠i2
def uz (z TO i1 i2:Addr) (h h':Heap):Prop:=∀c o,c≠z->c≠TO->c≠i1->c≠i2->h.get? c=some o->h'.get? c=some o
structure Ou (t1 t2:Bool) (h:Heap) (z TI TO i1 i2 l1 l2:Addr) (k:Nat) (f0:Value):Prop where
 z:IsZip h z TI TO f0
 ti:IsPair h TI (.ref i1) (.ref i2)
 to:∃a b,IsPair h TO a b
 i1:dG t1 h i1 l1 k
 i2:dG t2 h i2 l2 k
def Mg {t1 t2:Bool} {z TI TO i1 i2 l1 l2:Addr} {k:Nat} {xs ys:Array Value} {x y:Value} {Q:Value->Shared->Prop} (D:LZ z TI TO i1 i2) (L1:BB l1 z TO i1 i2) (L2:BB l2 z TO i1 i2)
  (S:Ou t1 t2 s.heap z TI TO i1 i2 l1 l2 k .none) (hl1:fF t1 s.heap l1 xs) (hl2:fF t2 s.heap l2 ys) (hx:xs[k]?=some x) (hy:ys[k]?=some y)
  (hQ:∀h',Ou t1 t2 h' z TI TO i1 i2 l1 l2 (k+1) (rawInt ↑s)->IsPair h' ↑s x y->uz z TO i1 i2 s.heap h'->Q (.ref ↑s) {s with heap:=h'}) :
  wpAny (model prog w) A (Builtin.«zip.__next__» ⟨[.ref z],[]⟩) (fun fin s'=>∃v,fin=.done (.ret v)/\Q v s') E s:=by
 obtain⟨hz,hTI,⟨a,b,hTO⟩,h1,h2⟩:=S;show wpAny _ _ (field (.ref z) 2 >>= _) _ _ _;refine yu (wpAny_field hz rfl (x:=.bool false) rfl ?_);show wpAny _ _ (field (.ref z) 3 >>= _) _ _ _;refine yu (wpAny_field hz rfl (x:=.ref TI) rfl (yu (wpAny_seqItems hTI rfl ?_)));show wpAny _ _ (Builtin.SmallTypes.ownedTupleIsFree (.ref z) >>= _) _ _ _;refine yu ?_;unfold Builtin.SmallTypes.ownedTupleIsFree;refine yu (wpAny_field hz rfl (x:=.none) rfl (yw ?_));simp only[if_true];refine yu (wpAny_rule (yu (wpAny_field hz rfl (x:=.ref TO) rfl (yu (wpAny_setField_rec hz (by simp) fun g1 z1 q1=>?_)))));replace z1:IsZip g1 z TI TO .ellipsis:=z1;refine yu ?_;simp only[List.zipIdx_cons,List.zipIdx_nil,List.forIn_cons,List.forIn_nil];refine yu (yu (wpAny_onRaise ?_));show wpAny _ _ (Builtin.SmallTypes.nextOf (.ref i1) >>= _) _ _ _;refine yu (sA (h1.but q1 D.a3) (hl1.but q1 L1.a1) hx fun g2 p2 q2=>yw ?_);have o2:IsPair g2 TO a b:=q2.extBut _ _ D.a8 (q1.extBut _ _ D.a2 hTO);refine yu (wpAny_seqItems o2 rfl (yu (wpAny_updateSeq_pair o2 fun g3 o3 q3=>yu (wpAny_letGo (yw (yu (yu (wpAny_onRaise ?_))))))));replace o3:IsPair g3 TO x b:=o3;show wpAny _ _ (Builtin.SmallTypes.nextOf (.ref i2) >>= _) _ _ _;refine yu (sA (((h2.but q1 D.a4).but q2 D.b1.symm).but q3 D.a9.symm) (((hl2.but q1 L2.a1).but q2 L2.a3).but q3 L2.a2) hy fun g4 p4 q4=>yw ?_);have o4:IsPair g4 TO x b:=q4.extBut _ _ D.a9 o3;refine yu (wpAny_seqItems o4 rfl (yu (wpAny_updateSeq_pair o4 fun g5 o5 q5=>yu (wpAny_letGo (yw (yw ?_))))));replace o5:IsPair g5 TO x y:=o5;refine yu (wpAny_seqItems o5 rfl (yu (wpAny_newTuple ?_)));have sz:g5.objs.size=↑s:=by rw[q5.1,q4.1,q3.1,q2.1,q1.1]
 have z5:IsZip g5 z TI TO .ellipsis:=q5.extBut _ _ D.a2.symm (q4.extBut _ _ D.a4.symm (q3.extBut _ _ D.a2.symm (q2.extBut _ _ D.a3.symm z1)));have k5:uz z TO i1 i2 s.heap g5:=fun c o c1 c2 c3 c4 e=>q5.extBut _ _ c2 (q4.extBut _ _ c4 (q3.extBut _ _ c2 (q2.extBut _ _ c3 (q1.extBut _ _ c1 e))));have r1:dG t1 g5 i1 l1 (k+1):=((p2.but q3 D.a8.symm).but q4 D.b1).but q5 D.a8.symm;have r2:dG t2 g5 i2 l2 (k+1):=p4.but q5 D.a9.symm;have zl:z<g5.objs.size:=yy z5;show wpAny _ _ (Builtin.SmallTypes.ownedTupleHandOut (.ref z) (.ref g5.objs.size) >>= _) _ _ _;refine yu ?_;unfold Builtin.SmallTypes.ownedTupleHandOut;have z6:IsZip (g5.push {cls:=.type "tuple",data:=.seq #[x,y]}) z TI TO .ellipsis:=yv _ z5;refine yu (wpAny_setField_rec z6 (by simp) fun g7 z7 q7=>?_);replace z7:IsZip g7 z TI TO (rawInt g5.objs.size):=z7;refine wpAny_setField_rec z7 (by simp) fun g8 z8 q8=>?_;replace z8:IsZip g8 z TI TO (rawInt g5.objs.size):=z8;have up:∀c o,c≠z->g5.get? c=some o->g8.get? c=some o:=fun c o c1 e=>q8.extBut _ _ c1 (q7.extBut _ _ c1 (yv _ e));have t8:IsPair g8 g5.objs.size x y:=q8.extBut _ _ (yi zl) (q7.extBut _ _ (yi zl) (yx _ rfl));rw[sz] at z8 t8;refine yw ⟨_,rfl,?_⟩;show Q (.ref g5.objs.size) _;rw[sz];exact hQ g8 ⟨z8,up _ _ D.a1 (k5 _ _ D.a1 D.a5 D.a6 D.a7 hTI),⟨_,_,up _ _ D.a2 o5⟩,r1.at fun o e=>up _ o D.a3 e,r2.at fun o e=>up _ o D.a4 e⟩ t8 fun c o c1 c2 c3 c4 e=>up c o c1 (k5 c o c1 c2 c3 c4 e)
def Mf {t1 t2:Bool} {z TI TO i1 i2 l1 l2:Addr} {k:Nat} {xs ys:Array Value} {Q:Fin->Shared->Prop} (hh:A.handled=none) (D:LZ z TI TO i1 i2) (L1:BB l1 z TO i1 i2) (L2:BB l2 z TO i1 i2)
  (S:Ou t1 t2 s.heap z TI TO i1 i2 l1 l2 k .none) (hl1:fF t1 s.heap l1 xs) (hl2:fF t2 s.heap l2 ys) (hend:xs[k]?=none\/ys[k]?=none)
  (hE:∀h' e,uz z TO i1 i2 s.heap h'->(∃o,h'.get? e=some o/\o.cls=.type "StopIteration")->E (.ref e) {s with heap:=h'}) :
  wpAny (model prog w) A (Builtin.«zip.__next__» ⟨[.ref z],[]⟩) Q E s:=by
 obtain⟨hz,hTI,⟨a,b,hTO⟩,h1,h2⟩:=S;show wpAny _ _ (field (.ref z) 2 >>= _) _ _ _;refine yu (wpAny_field hz rfl (x:=.bool false) rfl ?_);show wpAny _ _ (field (.ref z) 3 >>= _) _ _ _;refine yu (wpAny_field hz rfl (x:=.ref TI) rfl (yu (wpAny_seqItems hTI rfl ?_)));show wpAny _ _ (Builtin.SmallTypes.ownedTupleIsFree (.ref z) >>= _) _ _ _;refine yu ?_;unfold Builtin.SmallTypes.ownedTupleIsFree;refine yu (wpAny_field hz rfl (x:=.none) rfl (yw ?_));simp only[if_true];refine yu (wpAny_rule (yu (wpAny_field hz rfl (x:=.ref TO) rfl (yu (wpAny_setField_rec hz (by simp) fun g1 z1 q1=>?_)))));replace z1:IsZip g1 z TI TO .ellipsis:=z1;refine yu ?_;simp only[List.zipIdx_cons,List.zipIdx_nil,List.forIn_cons,List.forIn_nil];refine yu (yu (wpAny_onRaise ?_));show wpAny _ _ (Builtin.SmallTypes.nextOf (.ref i1) >>= _) _ _ _;cases hx:xs[k]? with
 | none=>
  refine yu (DN hh (h1.but q1 D.a3) (hl1.but q1 L1.a1) hx fun g2 e q2 he=>?_);obtain⟨oe,hoe,hce⟩:=he;have z2:IsZip g2 z TI TO .ellipsis:=q2 _ _ D.a3.symm z1;have hez:e≠z:=fun x=>by subst x;rw[z2] at hoe;cases hoe;simp at hce
  exact wpAny_setField_rec z2 (by simp) fun g3 _ q3=>hE g3 e (fun c o c1 _ c3 _ x=>q3.extBut _ _ c1 (q2 _ _ c3 (q1.extBut _ _ c1 x))) ⟨oe,q3.extBut _ _ hez hoe,hce⟩
 | some x=>
  have hy:ys[k]?=none:=by rcases hend with h | h;rw[hx] at h;cases h;exact h
  refine yu (sA (h1.but q1 D.a3) (hl1.but q1 L1.a1) hx fun g2 p2 q2=>yw ?_);have o2:IsPair g2 TO a b:=q2.extBut _ _ D.a8 (q1.extBut _ _ D.a2 hTO);refine yu (wpAny_seqItems o2 rfl (yu (wpAny_updateSeq_pair o2 fun g3 o3 q3=>yu (wpAny_letGo (yw (yu (yu (wpAny_onRaise ?_))))))));show wpAny _ _ (Builtin.SmallTypes.nextOf (.ref i2) >>= _) _ _ _;refine yu (DN hh (((h2.but q1 D.a4).but q2 D.b1.symm).but q3 D.a9.symm) (((hl2.but q1 L2.a1).but q2 L2.a3).but q3 L2.a2) hy fun g4 e q4 he=>?_);obtain⟨oe,hoe,hce⟩:=he;have z4:IsZip g4 z TI TO .ellipsis:=q4 _ _ D.a4.symm (q3.extBut _ _ D.a2.symm (q2.extBut _ _ D.a3.symm z1));have hez:e≠z:=fun x=>by subst x;rw[z4] at hoe;cases hoe;simp at hce
  exact wpAny_setField_rec z4 (by simp) fun g5 _ q5=>hE g5 e (fun c o c1 c2 c3 c4 x=>q5.extBut _ _ c1 (q4 _ _ c4 (q3.extBut _ _ c2 (q2.extBut _ _ c3 (q1.extBut _ _ c1 x))))) ⟨oe,q5.extBut _ _ hez hoe,hce⟩
def FG {t1 t2:Bool} {z TI TO i1 i2 l1 l2:Addr} {k:Nat} {xs ys:Array Value} {x y:Value} {Q:Option Value->Shared->Prop} (D:LZ z TI TO i1 i2) (L1:BB l1 z TO i1 i2) (L2:BB l2 z TO i1 i2)
  (S:Ou t1 t2 s.heap z TI TO i1 i2 l1 l2 k .none) (hl1:fF t1 s.heap l1 xs) (hl2:fF t2 s.heap l2 ys) (hx:xs[k]?=some x) (hy:ys[k]?=some y)
  (hQ:∀h',Ou t1 t2 h' z TI TO i1 i2 l1 l2 (k+1) (rawInt ↑s)->IsPair h' ↑s x y->uz z TO i1 i2 s.heap h'->Q (some (.ref ↑s)) {s with heap:=h'}) :
  wpAny (model prog w) A (pyNext (.ref z)) Q E s:=by
 have hT:s.TypeIs (.ref z) "zip":=⟨_,S.z,rfl⟩
 unfold pyNext;exact yu (wpAny_attempt (wpAny_callSpecial?_slot (name:=Str.ofString "__next__") hT F.slot_zip_next (wpAny_call_entry F.slot_zip_next hT F.entry_zip_next (Mg D L1 L2 S hl1 hl2 hx hy fun h' a1 a2 a3=>yw (hQ h' a1 a2 a3)) (F.args_zip_next_1 _))))
def FE {t1 t2:Bool} {z TI TO i1 i2 l1 l2:Addr} {k:Nat} {xs ys:Array Value} {Q:Option Value->Shared->Prop} (hh:A.handled=none) (D:LZ z TI TO i1 i2) (L1:BB l1 z TO i1 i2) (L2:BB l2 z TO i1 i2)
  (S:Ou t1 t2 s.heap z TI TO i1 i2 l1 l2 k .none) (hl1:fF t1 s.heap l1 xs) (hl2:fF t2 s.heap l2 ys) (hend:xs[k]?=none\/ys[k]?=none)
  (hQ:∀h',uz z TO i1 i2 s.heap h'->Q none {s with heap:=h'}):wpAny (model prog w) A (pyNext (.ref z)) Q E s:=by
 have hT:s.TypeIs (.ref z) "zip":=⟨_,S.z,rfl⟩
 unfold pyNext;refine yu (wpAny_attempt (wpAny_callSpecial?_slot (name:=Str.ofString "__next__") hT F.slot_zip_next (wpAny_call_entry F.slot_zip_next hT F.entry_zip_next (Mf hh D L1 L2 S hl1 hl2 hend fun h' e hk he=>?_) (F.args_zip_next_1 _))));obtain⟨o,ho,hc⟩:=he;exact yu (wpAny_isInstance (T:="StopIteration") (b:=true) ⟨o,ho,hc⟩ isSubtype_stop (yw (hQ _ hk)))
end
abbrev Tg (t1:Bool) (h:Heap) (l1:Addr):Heap:=h.push (tZ t1 l1)
abbrev RX (t1 t2:Bool) (h:Heap) (l1 l2:Addr):Heap:=(Tg t1 h l1).push (tZ t2 l2)
abbrev Tf (t1 t2:Bool) (h:Heap) (l1 l2:Addr):Heap:=(RX t1 t2 h l1 l2).push {cls:=.type "tuple",data:=.seq #[.ref h.objs.size,.ref (Tg t1 h l1).objs.size]}
abbrev Te (t1 t2:Bool) (h:Heap) (l1 l2:Addr):Heap:=(Tf t1 t2 h l1 l2).push {cls:=.type "tuple",data:=.seq #[.none,.none]}
abbrev Qm (t1 t2:Bool) (h:Heap) (l1 l2:Addr):Heap:=(Te t1 t2 h l1 l2).push {cls:=.type "zip",data:=.fields #[.none,.bool false,.bool false,.ref (RX t1 t2 h l1 l2).objs.size,.ref (Tf t1 t2 h l1 l2).objs.size]}
def Mi (t1 t2:Bool) (l1 l2:Addr) (xs ys:Array Value) :
  Meets (Builtin.«zip.__new__» ⟨[.type "zip",.ref l1,.ref l2],[]⟩) (fun _ R s=>fF t1 s.heap l1 xs/\fF t2 s.heap l2 ys/\R (.ok (.ret (.ref (Te t1 t2 s.heap l1 l2).objs.size))) {s with heap:=Qm t1 t2 s.heap l1 l2}):=
 .of_wp fun prog w A R s h=>by
  obtain⟨hp,g,d,tk,os⟩:=s;obtain⟨a1,a2,h⟩:=h;have hsub:=sub_zip;have b1:fF t1 (Shared.heap ⟨hp,g,d,tk,os⟩) l1 xs:=a1;have b2:fF t2 (Shared.heap ⟨hp.push (tZ t1 l1),g,d,tk,os⟩) l2 ys:=a2.at fun o e=>yv _ e;wp_walk using J2 b1,J2 b2;exact⟨_,rfl,h⟩
def FH {prog:Program} {w:World} {A:Around} {E:Value->Shared->Prop} {s:Shared} {t1 t2:Bool} {l1 l2:Addr} {xs ys:Array Value} {Q:Value->Shared->Prop} (hl1:fF t1 s.heap l1 xs) (hl2:fF t2 s.heap l2 ys)
  (h:∀h',Ou t1 t2 h' (↑s+4) (↑s+2) (↑s+3) ↑s (↑s+1) l1 l2 0 .none->(∀c o,s.heap.get? c=some o->h'.get? c=some o)->Q (.ref (↑s+4)) {s with heap:=h'}) :
  wpAny (model prog w) A (call (.type "zip") [.ref l1,.ref l2]) Q E s:=by
 refine callType_new F.called_zip ∅ (F.typeCall_zip_2 _ _) (F.newCall_zip_2 _ _) (fun obj=>F.args_object_init_3 obj _ _) F.entry_zip_new (Mi t1 t2 l1 l2 xs ys) ⟨hl1,hl2,?_⟩;have z1:(Tg t1 s.heap l1).objs.size=↑s+1:=Heap.size_push ..;have z2:(RX t1 t2 s.heap l1 l2).objs.size=↑s+2:=by rw[Heap.size_push,z1]
 have z3:(Tf t1 t2 s.heap l1 l2).objs.size=↑s+3:=by rw[Heap.size_push,z2]
 have z4:(Te t1 t2 s.heap l1 l2).objs.size=↑s+4:=by rw[Heap.size_push,z3]
 have up:∀c o,(RX t1 t2 s.heap l1 l2).get? c=some o->(Qm t1 t2 s.heap l1 l2).get? c=some o:=fun c o e=>yv _ (yv _ (yv _ e));have g5:(Qm t1 t2 s.heap l1 l2).get? (Te t1 t2 s.heap l1 l2).objs.size=some _:=yx _ rfl;have g4:(Qm t1 t2 s.heap l1 l2).get? (Tf t1 t2 s.heap l1 l2).objs.size=some _:=yv _ (yx _ rfl);have g3:(Qm t1 t2 s.heap l1 l2).get? (RX t1 t2 s.heap l1 l2).objs.size=some _:=yv _ (yv _ (yx _ rfl));have g2:dG t2 (Qm t1 t2 s.heap l1 l2) (Tg t1 s.heap l1).objs.size l2 0:=(dG.new t2 _ l2).at (up _);have g1:dG t1 (Qm t1 t2 s.heap l1 l2) ↑s l1 0:=((dG.new t1 _ l1).at fun o e=>yv _ e).at (up _);show _/\_;rw[z2,z3,z4] at g5;rw[z1,z2] at g3;rw[z3] at g4;rw[z1] at g2;rw[z4];exact⟨⟨_,g5,rfl⟩,h _ ⟨g5,g3,⟨_,_,g4⟩,g1,g2⟩ fun c o x=>up c o (yv _ (yv _ x))⟩
end L2
namespace L2
open PySem PySem.Spec PyProof.Rows
def aS (h:H p=none):aB H (upd H p o):=fun b u e=>by rw[aH (bx e h)];exact e
def laid {H:Hp} {o:HO} {Q:VK} (k:∀p H',aB H H'->H' p=some o->Q (.ref p) H'):∀p,H p=none->Q (.ref p) (upd H p o):=fun p hp=>k p _ (aS hp) aC
def aB.tup {K:yB} {H H':Hp} {a:Addr} {xs:List V} (e:aB H H') (h:dB K H a xs):dB K H' a xs:=by
 rcases h with(h | ⟨o,h⟩) | h
 ·exact .inl (.inl (e _ _ h))
 ·exact .inl (.inr ⟨o,e _ _ h⟩)
 ·exact .inr h
section
variable {X:Cx} {pins:List (Addr×Obj)} {σ:St} {H:Hp} {s:Shared} {h':Heap}
def Inv.xX {T:Addr} {o:HO} {ch:List Addr} {t':Nat} (I:Inv X pins σ H s) (hf:∀b∈ch,sj X pins H b) (hT:↑s<=T) (k:∀b u,b∉ch->s.heap.get? b=some u->h'.get? b=some u)
  (new:cI X.prog X.w (upd H T o) h' T o):Inv X pins σ (upd H T o) {s with heap:=h',toks:=t'}:=by
 have hn:H T=none:=I.cm.fresh hT;have neT:∀b u,s.heap.get? b=some u->b≠T:=fun b u e=>yj (yc (yy e) hT);have nch:∀b u,H b=some u->b∉ch:=fun b u e hb=>by rw[(hf b hb).1] at e;cases e
 refine I.step (g':=s.gens) (d':=s.drawn) (ch:=ch) (fun b hb=>?_) (fun b u _ _ hc e _=>k b u hc e) (fun b u _ _ hc e _=>⟨u.slots,k b u hc e⟩) (fun b u hc e n=>by rw[aH (neT b u e)];exact n) (fun b u hc e=>⟨u,k b u hc e⟩)
  (fun b xs e=>by rw[aH (bx e hn)];exact e) (fun b ob u e=>by rw[aH (bx e hn)];exact e) (fun b ps e=>⟨#[],by rw[aH (bx e hn),e];simp⟩) (fun m hm=>?_) (fun b u e=>?_) I.bare
 ·obtain⟨f0,f1,f2,f3,f4,f5⟩:=hf b hb
  exact⟨f3,f1,f4,f5⟩
 ·obtain⟨ob,es,ep,ho,r⟩:=hm
  exact⟨ob,es,ep,k _ _ (fun z=>(hf _ z).2.1 rfl) ho,r⟩
 ·by_cases hb:b=T
  ·subst hb;rw[aC] at e;cases e;exact new
  ·rw[aH hb] at e
   refine(I.cm b u e).mn (fun c v hc q=>k c v ?_ q) (fun c q=>by rw[aH (bx q hn)];exact q) fun c xs q=>by rw[aH (bx q hn)];exact q
   rcases hc with z | z
   ·rw[z];exact nch b u e
   ·exact nch c _ z
def Inv.turns {ch:List Addr} {t':Nat} (I:Inv X pins σ H s) (hf:∀b∈ch,sj X pins H b) (k:∀b u,b∉ch->s.heap.get? b=some u->h'.get? b=some u):Inv X pins σ H {s with heap:=h',toks:=t'}:=by
 have nch:∀b u,H b=some u->b∉ch:=fun b u e hb=>by rw[(hf b hb).1] at e;cases e
 refine I.step (g':=s.gens) (d':=s.drawn) (ch:=ch) (fun b hb=>?_) (fun b u _ _ hc e _=>k b u hc e) (fun b u _ _ hc e _=>⟨u.slots,k b u hc e⟩) (fun b u hc e n=>n) (fun b u hc e=>⟨u,k b u hc e⟩)
  (fun b xs e=>e) (fun b ob u e=>e) (fun b ps e=>⟨#[],by rw[e];simp⟩) (fun m hm=>?_) (fun b u e=>?_) I.bare
 ·obtain⟨f0,f1,f2,f3,f4,f5⟩:=hf b hb
  exact⟨f3,f1,f4,f5⟩
 ·obtain⟨ob,es,ep,ho,r⟩:=hm
  exact⟨ob,es,ep,k _ _ (fun z=>(hf _ z).2.1 rfl) ho,r⟩
 ·refine(I.cm b u e).mn (fun c v hc q=>k c v ?_ q) (fun c q=>q) fun c xs q=>q
  rcases hc with z | z
  ·rw[z];exact nch b u e
  ·exact nch c _ z
def Fb:bootBuiltins "enumerate"= some (.type "enumerate"):=by decide +kernel
def N4:bootBuiltins "zip"= some (.type "zip"):=by decide +kernel
def RO (K:yB) (a:Addr):It:=
 ⟨fun i H=>∃xs x,aL K H a xs/\xs[i]?=some x,fun i H x H'=>∃p v,H p=none/\x=.ref p/\H'=upd H p (.tup [.int (i:Int),v])/\∀xs,aL K H a xs->xs[i]?=some v,fun i H=>∃xs,aL K H a xs/\xs.length<=i⟩
def KO {P:Program} {w:World} {K:yB} {es:List Expr} {kt:Nat} {tp:Pos} (a it e:Addr) (hne:e≠it) :
  Turn P w K (.Tuple es kt tp) (RO K a) [e,it] e (fun i h=>(∃old,IsEnum h e it (i:Int) old)/\h.IsListIter it a i) where
 mem:=by simp
 obj:=fun i h st b hb=>by
  obtain⟨⟨old,he⟩,o,e1,c,d⟩:=st;rcases zD.mp hb with z | z
  ·subst z;exact⟨_,he,fun v z=>by cases z⟩
  ·have z':b=it:=by simpa using z
   subst z';exact⟨o,e1,fun v z=>by rw[d] at z;cases z⟩
 keep:=fun i h h' st k=>⟨let ⟨old,he⟩:=st.1;⟨old,k e (by simp) _ he⟩,st.2.at fun o e=>k it (by simp) o e⟩
 item:=by
  intro X hP hw hK hc i pins s σ H E I hf st hg;subst hP hw hK;obtain⟨xs,x,hq,hx⟩:=hg;obtain⟨its,rv,p,hz⟩:=I.list hq;obtain⟨u,hu,ru⟩:=rv.get hx;obtain⟨⟨old,he⟩,hit⟩:=st;refine wpAny_pyNext_enum_item he hit p.isList (x:=u) (by simpa using hu) hne fun g1 ho hit1 hT hsz hk=>?_;refine⟨_,rfl,wpAny_letOwnedTupleGo_enum (s:={s with heap:=g1,toks:=s.toks+1}) ho fun g2 he2 hs2=>?_⟩;have hel:e<↑s:=yy he;have gT:g2.get? ↑s=some {cls:=.type "tuple",data:=.seq #[.int i s.toks,u]}:=hs2.extBut _ _ (yi hel) hT;have I1:Inv X pins σ (upd H ↑s (.tup [.int (i:Int),x])) {s with heap:=g2,toks:=s.toks+1}:=
   I.xX hf (zm _) (fun b ob hb q=>hs2.extBut _ _ (fun z=>hb (by simp[z])) (hk b ob (fun z=>hb (by simp[z])) (fun z=>hb (by simp[z])) q))
    ⟨by show 2<=sizeLine;decide,[.int i s.toks,u],.cons ⟨_,rfl⟩ (.cons ru .nil),⟨_,gT,rfl,_,rfl⟩⟩
  refine⟨.ref ↑s,_,I1,rfl,⟨_,x,I.cm.fresh (zm _),rfl,rfl,fun ys hy=>by rw[I.AE hy hq];exact hx⟩,⟨⟨_,by simpa using he2⟩,hit1.at fun o q=>hs2.extBut _ _ hne.symm q⟩,fun b hb=>?_⟩;have hb':=(hf b hb).1;obtain⟨o,ho',_⟩:∃o,s.heap.get? b=some o/\True:=by
   rcases zD.mp hb with z | z
   ·subst z;exact⟨_,he,trivial⟩
   ·have z':b=it:=by simpa using z
    subst z';obtain⟨o,e1,_⟩:=hit;exact⟨o,e1,trivial⟩
  rw[aH (yj (yy ho'))];exact hb'
 done:=by
  intro X hP hw hK hc i pins s σ H E I hf st hg;subst hP hw hK;obtain⟨xs,hq,hx⟩:=hg;obtain⟨its,rv,p,hz⟩:=I.list hq;obtain⟨⟨old,he⟩,hit⟩:=st;have hl:=rv.length;exact wpAny_pyNext_enum_end (I.ok.hd hc) he hit p.isList (by simp;omega) fun g1 eb=>⟨rfl,I.turns (t':=s.toks) hf fun b o hb q=>eb b o (fun z=>hb (by simp[z])) q⟩
 self:=fun _ _ _ _ _ st h=>let ⟨_,he⟩:=st.1;wpAny_pyIter_enum he h
def Qd (K:yB) (ta:TA):TI:=fun σ H R=>ta σ H fun vs H1=>∃a xs,vs=[.ref a]/\aL K H1 a xs/\R (RO K a) H1
def xI {a:Expr} {ta:TA} {es:List Expr} {kt:Nat} {tp p pos:Pos} (hg:Gl X "enumerate") (hm:X.mg "enumerate"= none) (ha:PA X [a] ta) (hs:starEach [a] X.env=[(false,eval a X.env)]<|>qe_) :
  PI X (.Tuple es kt tp) (.Call (.Name "enumerate" p) [a] [] pos) (Qd X.K ta):=by
 intro pins s σ H R I h;refine Call_ (jY I hg hm Fb (yM (dh (ha pos pins s σ H _ I h) fun us s1 ⟨vs,H1,I1,r1,q1⟩=>?_) hs rfl));obtain⟨l,xs,e,hq,q⟩:=q1;subst e;cases r1 with
 | cons r rr=>
  cases rr;cases r;obtain⟨its,rv,pl,hz⟩:=I1.list hq;refine call_enumerate_list pl.isList fun g he hit hsz hk=>?_;refine wpAny_pyIter_enum (s:={s1 with heap:=g}) he ?_;have I2:Inv X pins σ H1 {s1 with heap:=g}:=I1.kept (t':=s1.toks) hk;refine⟨↑s1+1,[↑s1+1,↑s1],_,RO X.K l,H1,rfl,I2,KO l ↑s1 (↑s1+1) (yi (Nat.lt_succ_self _)),⟨⟨_,by simpa using he⟩,hit⟩,fun b hb=>?_,q⟩;have hb':↑s1<=b:=by
   rcases zD.mp hb with z | z
   ·subst z;exact Nat.le_succ _
   ·have z':b=↑s1:=by simpa using z
    subst z';exact zm _
  exact I1.xj hb' (I1.cm.fresh hb')
def CH (t:Bool) (K:yB) (H:Hp) (a:Addr) (xs:List V):Prop:=match t with
 | true=>dB K H a xs
 | false=>aL K H a xs
def Inv.sq (I:Inv X pins σ H s) (h:CH t X.K H a xs):∃its:List Value,Vals xs its/\fF t s.heap a its.toArray/\xs.length<=sizeLine:=by
 cases t
 ·obtain⟨its,r,p,z⟩:=I.list h;exact⟨its,r,p.isList,z⟩
 ·obtain⟨its,r,p,z⟩:=I.tuple h;exact⟨its,r,p,z⟩
def Inv.MF (I:Inv X pins σ H s) (h:CH t X.K H a xs) (h':CH t X.K H a ys):xs=ys:=by
 cases t
 ·exact I.AE h h'
 ·exact I.CO h h'
def fF.lt (x:fF t h a items):a<h.objs.size:=by
 cases t
 ·obtain⟨o,e,_⟩:=x;exact yy e
 ·obtain⟨o,e,_⟩:=x;exact yy e
def Tx (t1 t2:Bool) (K:yB) (a b:Addr):It:=
  ⟨fun i H=>∃xs ys x y,CH t1 K H a xs/\CH t2 K H b ys/\xs[i]?=some x/\ys[i]?=some y,
   fun i H x H'=>∃p u v,H p=none/\x=.ref p/\H'=upd H p (.tup [u,v])/\(∀xs,CH t1 K H a xs->xs[i]?=some u)/\∀ys,CH t2 K H b ys->ys[i]?=some v,
   fun i H=>∃xs ys,CH t1 K H a xs/\CH t2 K H b ys/\(xs.length<=i\/ys.length<=i)⟩
def Mp {P:Program} {w:World} {K:yB} {es:List Expr} {kt:Nat} {tp:Pos} (t1 t2:Bool) (a b z TI TO i1 i2:Addr) (D:LZ z TI TO i1 i2) (L1:BB a z TO i1 i2) (L2:BB b z TO i1 i2) :
  Turn P w K (.Tuple es kt tp) (Tx t1 t2 K a b) [z,TI,TO,i1,i2] z (fun i h=>Ou t1 t2 h z TI TO i1 i2 a b i .none) where
 mem:=by simp
 obj:=fun i h st c hc=>by
  obtain⟨hz,hi,⟨_,_,ho⟩,h1,h2⟩:=st;simp only[zD,zE,or_false] at hc;rcases hc with e | e | e | e | e
  ·subst e;exact⟨_,hz,fun v q=>by cases q⟩
  ·subst e;exact⟨_,hi,fun v q=>by cases q⟩
  ·subst e;exact⟨_,ho,fun v q=>by cases q⟩
  ·subst e;exact h1.get
  ·subst e;exact h2.get
 keep:=fun i h h' st k=>⟨k z (by simp) _ st.z,k TI (by simp) _ st.ti,let ⟨x,y,e⟩:=st.to;⟨x,y,k TO (by simp) _ e⟩,st.i1.at fun o e=>k i1 (by simp) o e,st.i2.at fun o e=>k i2 (by simp) o e⟩
 item:=by
  intro X hP hw hK hc i pins s σ H E I hf st hg;subst hP hw hK;obtain⟨xs,ys,x,y,hq,hq',hx,hy⟩:=hg;obtain⟨its,rv,p,hz⟩:=I.sq hq;obtain⟨jts,rw',p',hz'⟩:=I.sq hq';obtain⟨u,hu,ru⟩:=rv.get hx;obtain⟨u',hu',ru'⟩:=rw'.get hy;refine FG D L1 L2 st p p' (x:=u) (y:=u') (by simpa using hu) (by simpa using hu') fun g1 S1 hT hk=>?_;refine⟨_,rfl,wpAny_letOwnedTupleGo_zip (s:={s with heap:=g1}) S1.z fun g2 z2 hs2=>?_⟩;have zl:z<↑s:=yy st.z;have gT:g2.get? ↑s=some {cls:=.type "tuple",data:=.seq #[u,u']}:=hs2.extBut _ _ (yi zl) hT;have I1:Inv X pins σ (upd H ↑s (.tup [x,y])) {s with heap:=g2}:=
   I.xX (t':=s.toks) hf (zm _) (fun c ob hb q=>hs2.extBut _ _ (fun e=>hb (by simp[e])) (hk c ob (fun e=>hb (by simp[e])) (fun e=>hb (by simp[e])) (fun e=>hb (by simp[e])) (fun e=>hb (by simp[e])) q))
    ⟨by show 2<=sizeLine;decide,[u,u'],.cons ru (.cons ru' .nil),⟨_,gT,rfl,_,rfl⟩⟩
  refine⟨.ref ↑s,_,I1,rfl,⟨_,x,y,I.cm.fresh (zm _),rfl,rfl,fun zs h=>by rw[I.MF h hq];exact hx,fun zs h=>by rw[I.MF h hq'];exact hy⟩,⟨z2,hs2.extBut _ _ D.a1 S1.ti,let ⟨x,y,e⟩:=S1.to;⟨x,y,hs2.extBut _ _ D.a2 e⟩,S1.i1.but hs2 D.a3,S1.i2.but hs2 D.a4⟩,fun c hc=>?_⟩;have hb':=(hf c hc).1;obtain⟨o,ho',_⟩:∃o,s.heap.get? c=some o/\True:=by
   obtain⟨hz,hi,⟨_,_,ho⟩,⟨q1,e1,_⟩,⟨q2,e2,_⟩⟩:_/\_/\_/\_/\_:=⟨st.z,st.ti,st.to,st.i1.get,st.i2.get⟩
   simp only[zD,zE,or_false] at hc;rcases hc with e | e | e | e | e
   ·subst e;exact⟨_,hz,trivial⟩
   ·subst e;exact⟨_,hi,trivial⟩
   ·subst e;exact⟨_,ho,trivial⟩
   ·subst e;exact⟨_,e1,trivial⟩
   ·subst e;exact⟨_,e2,trivial⟩
  rw[aH (yj (yy ho'))];exact hb'
 done:=by
  intro X hP hw hK hc i pins s σ H E I hf st hg;subst hP hw hK;obtain⟨xs,ys,hq,hq',hx⟩:=hg;obtain⟨its,rv,p,hz⟩:=I.sq hq;obtain⟨jts,rw',p',hz'⟩:=I.sq hq';have hl:=rv.length;have hl':=rw'.length;refine FE (I.ok.hd hc) D L1 L2 st p p' ?_ fun g1 eb=>⟨rfl,I.turns (t':=s.toks) hf fun c o hb q=>eb c o (fun e=>hb (by simp[e])) (fun e=>hb (by simp[e])) (fun e=>hb (by simp[e])) (fun e=>hb (by simp[e])) q⟩
  rcases hx with h | h
  ·exact .inl (by simp;omega)
  ·exact .inr (by simp;omega)
 self:=fun _ _ _ _ _ st h=>wpAny_pyIter_zip st.z h
def Uz (K:yB) (ta:TA):TI:=fun σ H R=>ta σ H fun vs H1=>∃t1 t2 a b xs ys,vs=[.ref a,.ref b]/\CH t1 K H1 a xs/\CH t2 K H1 b ys/\R (Tx t1 t2 K a b) H1
def M8 {a b:Expr} {ta:TA} {es:List Expr} {kt:Nat} {tp p pos:Pos} (hg:Gl X "zip") (hm:X.mg "zip"= none) (ha:PA X [a,b] ta)
  (hs:starEach [a,b] X.env=[(false,eval a X.env),(false,eval b X.env)]<|>qe_) (hs2:starEach [b] X.env=[(false,eval b X.env)]<|>qe_) :
  PI X (.Tuple es kt tp) (.Call (.Name "zip" p) [a,b] [] pos) (Uz X.K ta):=by
 intro pins s σ H R I h;refine Call_ (jY I hg hm N4 (yM (dh (ha pos pins s σ H _ I h) fun us s1 ⟨vs,H1,I1,r1,q1⟩=>?_) (by rw[hs,hs2]) (by rw[hs2];rfl)));obtain⟨t1,t2,a,b,xs,ys,e,hq,hq',q⟩:=q1;subst e;cases r1 with
 | cons r rr=>
  cases rr with
  | cons r' rr=>
   cases rr;cases r;cases r';obtain⟨its,rv,pl,hz⟩:=I1.sq hq;obtain⟨jts,rv',pl',hz'⟩:=I1.sq hq';have la:=pl.lt;have lb:=pl'.lt;refine FH pl pl' fun g S hk=>?_;refine wpAny_pyIter_zip (s:={s1 with heap:=g}) S.z ?_;have I2:Inv X pins σ H1 {s1 with heap:=g}:=I1.kept (t':=s1.toks) hk;have D:LZ (↑s1+4) (↑s1+2) (↑s1+3) ↑s1 (↑s1+1):=by
    constructor <;> (show _≠(_:Nat)) <;> omega
   have L:∀c,c<↑s1->BB c (↑s1+4) (↑s1+3) ↑s1 (↑s1+1):=fun c hc=>by
    constructor <;> (show _≠(_:Nat)) <;> omega
   refine⟨↑s1+4,[_,_,_,_,_],_,Tx t1 t2 X.K a b,H1,rfl,I2,Mp t1 t2 a b _ _ _ _ _ D (L a la) (L b lb),S,fun c hc=>?_,q⟩;have hb':↑s1<=c:=by
    simp only[zD,zE,or_false] at hc;rcases hc with e | e | e | e | e <;> (subst e;first | exact Nat.le_add_right _ _ | exact zm _)
   exact I1.xj hb' (I1.cm.fresh hb')
def Eh (bs:List Bool):((List.range bs.length).all fun i=>(bs[i]?).getD true)=bs.all id:=by
 rw[Bool.eq_iff_iff,yp,yp];constructor
 ·intro h b hb
  obtain⟨i,hi,e⟩:=List.mem_iff_getElem.mp hb;have:=h i (List.mem_range.mpr hi);rw[zd hi,e] at this;exact this
 ·intro h i hi
  have hi':=List.mem_range.mp hi;rw[zd hi'];exact h _ (ym hi')
def pU (hc:X.calm=true):gc X (.builtin "all") (fun xs H Q=>∃(a:Addr) (bs:List Bool),xs=[.ref a]/\aL X.K H a (bs.map V.bl)/\Q (.bl (bs.all id)) H):=by
 intro pins s σ H xs us Q I r h;obtain⟨a,bs,e,hq,q⟩:=h;subst e;cases r with
 | cons r rr=>
  cases rr;cases r;obtain⟨its,rv,p,hz⟩:=I.list hq;have hlt:a<↑s:=by obtain⟨o,n,e,_⟩:=p;exact yy e
  have hlen:bs.length=its.length:=by have:=rv.length;rw[za] at this;exact this
  refine call_all_walk (wpAny_pyIter_list p.isList ?_);refine⟨↑s,[↑s,a],[↑s],its.toArray.size,_,_,fun i=>(bs[i]?).getD true,rfl,Walks.list (A:=X.A.in1) (I.ok.hd hc) _ a (yj hlt) its.toArray,
   ⟨⟨_,yx _ rfl,rfl,rfl⟩,p.isList.push _⟩,fun i v s' Q' E' hP hQ=>?_,fun h' tk hk=>?_⟩
  ·have hP':its[i]?=some v:=by simpa using hP
   have hi:i<bs.length:=by rw[hlen];exact(zy.mp hP').1
   have hm:(bs.map V.bl)[i]?=some (.bl bs[i]):=by rw[zK,zd hi];rfl
   obtain⟨u,hu,ru⟩:=rv.get hm;rw[hP'] at hu;cases hu;cases ru;dsimp only at hQ;rw[zd hi] at hQ;exact wpAny_truthy_bool hQ
  ·have e:((List.range its.toArray.size).all fun i=>(bs[i]?).getD true)=bs.all id:=by rw[yb,<-hlen];exact Eh bs
   rw[e];exact⟨.bl _,H,I.kept fun b o x=>hk b o (fun hm=>by rw[zA.mp hm] at x;exact yf _ (yy x)) (yv _ x),rfl,q⟩
end
section
variable {X:Cx} {pos:Pos}
end
inductive Ty where
 | bR | bl | int | str | tup | lst | SV
def Ty.name:Ty->String
 | .bR=> "NoneType" | .bl=> "bool" | .int=> "int" | .str=> "str" | .tup=> "tuple" | .lst=> "list" | .SV=> "dict"
def tag (H:Hp):V->Option Ty
 | .bR=>some .bR
 | .bl _=>some .bl
 | .int _=>some .int
 | .str _=>some .str
 | .ref a=>match H a with
  | some (.tup _)=>some .tup
  | some (.lst _)=>some .lst
  | some (.oy _ (.lst _))=>some .lst
  | some (.dK _)=>some .SV
  | some (.dT _)=>some .SV
  | _=>none
 | _=>none
def OC {H:Hp} {a:Addr} {xs:List V} (h:H a=some (.tup xs)):tag H (.ref a)=some .tup:=by simp only[tag,h]
def Qx {K:yB} {H:Hp} {x:V} {n:Ty} (h:tag H x=some n):vI K H x (.type n.name):=by
 cases x with
 | bR=>cases h;exact .bR
 | bl b=>cases h;exact .bl b
 | int i=>cases h;exact .int i
 | str y=>cases h;exact .str y
 | Ks _=>cases h
 | Pk _=>cases h
 | ty _=>cases h
 | ref a=>
  simp only[tag] at h;split at h
  ·cases h;exact .tup ‹_›
  ·cases h;exact .lst ‹_›
  ·cases h;exact .oy ‹_›
  ·cases h;exact .dK ‹_›
  ·cases h;exact .dT ‹_›
  ·cases h
def Ty.sub:Ty->Ty->Bool
 | .bl,.bl=>true | .int,.int=>true | .str,.str=>true | .tup,.tup=>true | .lst,.lst=>true | .SV,.SV=>true | .bR,.bR=>true
 | .bl,.int=>true
 | _,_=>false
def Pf (K:yB) (a b:Ty):PySem.W.kitOne K (.type a.name) (.type b.name)=some (a.sub b):=by
 cases a <;> cases b <;> first | rfl | decide +kernel | kernel_rfl
def Ue (c:Ty) (ta:TE):TE:=fun σ H Q=>ta σ H fun x H1=>∃n,tag H1 x=some n/\Q (.bl (n.sub c)) H1
section
variable {X:Cx}
def IQ (c:Ty) (hx:bootBuiltins x=some (.type c.name)) (ha:PE X a ta) (hm:X.mg "isinstance"= none) (hm2:X.mg x=none)
  (hg:Gl X "isinstance"<|>qe_) (hg2:Gl X x<|>qe_) (hn:x≠ "__name__"<|>qb_) (hd:(x == ("__debug__": Str))=false<|>qb_)
  (hs:starEach [a,.Name x p2] X.env=(false,eval a X.env)::starEach [.Name x p2] X.env<|>qe_) (hs2:starEach [.Name x p2] X.env=[(false,eval (.Name x p2) X.env)]<|>qe_) :
  PE X (.Call (.Name "isinstance" p1) [a,.Name x p2] [] pos) (Ue c ta):=by
 have hc:gc X (.builtin "isinstance") (fun xs H Q=>∃v n,xs=[v,.ty c.name]/\tag H v=some n/\Q (.bl (n.sub c)) H):=by
  intro pins s σ H xs us Q I r h;obtain⟨v,n,e,ht,q⟩:=h;subst e;cases r with
  | cons r rr=>
   cases rr with
   | cons r' rr=>
    cases rr;cases r';exact Lq I r (Qx ht) (Pf _ _ _) fun tk=>⟨.bl _,H,I.tok tk,rfl,q⟩
 have hb:PE X (.Name x p2) (tC (.ty c.name)):=O2 (u:=.type c.name) hg2 hm2 hx rfl hn hd;have ht:=Gx (p:=p1) (pos:=pos) hc hg hm (by decide +kernel) (ah ha (ah hb af hs2) hs) (he:=hs) (hpl:=by rw[hs2];rfl);intro pins s σ H Q I h;have mono:ta σ H (fun x H1=>∃n,tag H1 x=some n/\Q (.bl (n.sub c)) H1)->KR (fun xs H Q=>∃v n,xs=[v,.ty c.name]/\tag H v=some n/\Q (.bl (n.sub c)) H) (bX ta (bX (tC (.ty c.name)) eV)) σ H Q:=fun z=>by
  show ta σ H fun x H1=>∃v n,[x,V.ty c.name]=[v,.ty c.name]/\tag H1 v=some n/\Q (.bl (n.sub c)) H1;have e:(fun x H1=>∃n,tag H1 x=some n/\Q (.bl (n.sub c)) H1)=(fun(x:V) (H1:Hp)=>∃v n,[x,V.ty c.name]=[v,V.ty c.name]/\tag H1 v=some n/\Q (.bl (n.sub c)) H1):=by
   funext x H1
   apply propext;constructor
   ·rintro⟨n,h1,h2⟩;exact⟨x,n,rfl,h1,h2⟩
   ·rintro⟨v,n,e,h1,h2⟩;cases e;exact⟨n,h1,h2⟩
  rw[<-e];exact z
 exact ht pins s σ H Q I (mono h)
end
inductive Dt where
 | bR | bl (b:Bool) | int (i:Int) | str (x:Str) | tup (l:List Dt)
mutual
def Is (H:Hp):Dt->V->Prop
 | .bR,v=>v=.bR
 | .bl b,v=>v=.bl b
 | .int i,v=>v=.int i
 | .str x,v=>v=.str x
 | .tup l,v=>∃a vs,v=.ref a/\H a=some (.tup vs)/\aE H l vs
def aE (H:Hp):List Dt->List V->Prop
 | [],vs=>vs=[]
 | d::l,vs=>∃v r,vs=v::r/\Is H d v/\aE H l r
end
mutual
theorem Is.mono (s:aB H H'):∀{d:Dt} {v:V},Is H d v->Is H' d v
 | .bR,_,h=>by unfold Is at h ⊢;exact h
 | .bl _,_,h=>by unfold Is at h ⊢;exact h
 | .int _,_,h=>by unfold Is at h ⊢;exact h
 | .str _,_,h=>by unfold Is at h ⊢;exact h
 | .tup l,_,h=>by
  unfold Is at h ⊢;obtain⟨a,vs,e,ha,hl⟩:=h;exact⟨a,vs,e,s _ _ ha,aE.mono s hl⟩
theorem aE.mono (s:aB H H'):∀{l:List Dt} {vs:List V},aE H l vs->aE H' l vs
 | [],_,h=>by unfold aE at h ⊢;exact h
 | d::l,_,h=>by
  unfold aE at h ⊢;obtain⟨v,r,e,hv,hr⟩:=h;exact⟨v,r,e,Is.mono s hv,aE.mono s hr⟩
end
theorem aE.len:∀{l:List Dt} {vs:List V},aE H l vs->vs.length=l.length
 | [],_,h=>by unfold aE at h;rw[h];rfl
 | d::l,_,h=>by
  unfold aE at h;obtain⟨v,r,e,_,hr⟩:=h;rw[e,zv,zv,aE.len hr]
theorem aE.get:∀{l:List Dt} {vs:List V} {i:Nat} {v:V},aE H l vs->vs[i]?=some v->∃d,l[i]?=some d/\Is H d v
 | [],_,i,v,h,e=>by unfold aE at h;rw[h] at e;simp at e
 | d::l,_,i,v,h,e=>by
  unfold aE at h;obtain⟨u,r,e1,hv,hr⟩:=h;subst e1;cases i with
  | zero=>simp at e;subst e;exact⟨d,rfl,hv⟩
  | succ i=>
   obtain⟨d',h1,h2⟩:=aE.get (i:=i) hr (by simpa using e);exact⟨d',by simpa using h1,h2⟩
def aB.lj (e:upd H p o=H') (h:H p=none):aB H H':=e▸aS h
def lD (e:upd H p o=H'):H' p=some o:=e▸aC
def cb {c:Bool} {A B:Prop} (h:c=true) (q:A):if c=true then A else B:=by rw[if_pos h];exact q
def cq {c:Bool} {A B:Prop} (h:c=false) (q:B):if c=true then A else B:=by rw[if_neg (by rw[h];decide)];exact q
def cT:[a,b].length<=sizeLine:=by show 2<=sizeLine;decide
def oI:[a,b,c].length<=sizeLine:=by show 3<=sizeLine;decide
def jh (h:H p=some (.tup [.int a,.int b])):Is H (.tup [.int a,.int b]) (.ref p):=by
 unfold Is;exact⟨p,_,rfl,h,by simp only[aE,Is];exact⟨_,_,rfl,rfl,_,_,rfl,rfl,rfl⟩⟩
def ue {K:yB} {a:Addr} {xs:List V} {g:TG} {tb:TS} {D:Ends} {σ:St} {H:Hp} (Pv:Nat->St->Hp->Prop) (h0:Pv 0 σ H) (hl:∀i σ H,i<=xs.length->Pv i σ H->aL K H a xs)
  (hs:∀i x σ H p H',xs[i]?=some x->Pv i σ H->aB H H'->H' p=some (.tup [.int (i:Int),x])->g (.ref p) σ H' fun σ2 H2=>tb {D with nx:=Pv (i+1),ct:=Pv (i+1),bk:=D.nx} σ2 H2) (hd:∀σ H,Pv xs.length σ H->D.nx σ H) :
  ∃W:Nat->Nat->St->Hp->Prop,(∃m,W 0 m σ H)/\∀i m σ H,W i m σ H->
   ((RO K a).stop i H/\D.nx σ H)\/((RO K a).go i H/\∃N:St->Hp->Prop,(∀σ' H',N σ' H'->∃m',m'<m/\W (i+1) m' σ' H')/\∀x H',(RO K a).KI i H x H'->g x σ H' fun σ2 H2=>tb {D with nx:=N,ct:=N,bk:=D.nx} σ2 H2):=by
 refine⟨fun i m σ H=>m=xs.length-i/\i<=xs.length/\Pv i σ H,⟨xs.length,by simp,yg _,h0⟩,?_⟩;rintro i m σ H ⟨rfl,hi,p⟩;have q:=hl i σ H hi p
 by_cases hlt:i<xs.length
 ·refine .inr ⟨⟨xs,xs[i],q,by simp[hlt]⟩,Pv (i+1),fun σ' H' p'=>⟨xs.length-(i+1),nofun,rfl,hlt,p'⟩,fun x H' y=>?_⟩
  obtain⟨pp,v,hp,e1,e2,y⟩:=y;subst e1 e2;exact hs i v σ H pp _ (y xs q) p (aS hp) aC
 ·have e:i=xs.length:=nofun
  subst e;exact .inl ⟨⟨xs,q,zm _⟩,hd σ H p⟩
section
variable {X:Cx} {pos:Pos}
def Inv.Sy (I2:Inv X pins σ2 H2 s2) (hC:↑s2<=C) (I:Inv X pins σ H s) (hn:H C=none) (hs:Heap.SameBut C s.heap h'):Inv X pins σ H {s with heap:=h'}:=by
 obtain⟨f0,f1,f2,f3,f4,f5⟩:=I2.xj hC hn;exact I.turned (t':=s.toks) (fun b o hb e=>hs.extBut b o hb e) f0 f1 f3 f4 f5
end
section
variable {X:Cx} {pins:List (Addr×Obj)} {σ:St} {H:Hp} {s:Shared}
def Sz (n:Nat) (i:Int):Prop:=i.natAbs<2^n
def Sz.mono (h:Sz n i) (k:n<=m):Sz m i:=yc h (Nat.pow_le_pow_right ∅ k)
def Sz.mul (h:Sz n i) (k:Sz m j):Sz (n+m) (i*j):=by
 unfold Sz at *;rw[Int.natAbs_mul,Nat.pow_add];exact Nat.mul_lt_mul'' h k
def Sz.add (h:Sz n i) (k:Sz n j):Sz (n+1) (i+j):=by
 unfold Sz at *;have:=Int.natAbs_add_le i j;rw[Nat.pow_succ];omega
def Sz.le (h:Sz n j) (h0:0<=i) (hl:i<=j):Sz n i:=by
 unfold Sz at *;have:i.natAbs<=j.natAbs:=nofun
 omega
def Sz.bits (h:Sz n i):Builtin.Int.intBits i<=n:=by
 unfold Builtin.Int.intBits;split
 ·exact yg _
 ·rename_i hz
  have:i.natAbs≠0:=by
   intro e;have:i=0:=Int.natAbs_eq_zero.mp e;subst this;exact hz rfl
  have:=(Nat.log2_lt this).mpr h;omega
def Tc (i j:Int):Prop:=Sz 20000 i/\Sz 20000 j
def Td (_ j:Int):Prop:=0<j/\Sz 8999 j
def tN:pW X (binaryOp .Mult) (rI Tc fun i j=>.int (i*j)):=RV fun _ _ _ _ _ _ _ hc q=>mul_int q (.of_bits (zM hc.1.bits ∅) (zM hc.2.bits ∅))
def tO:pW X (binaryOp .FloorDiv) (rI Td fun i j=>.int (i/j)):=RV fun i j _ _ _ _ _ hc q=>by
 have h1:(0:Int)<j:=hc.1;refine floordiv_int nofun (by rw[Int.fdiv_eq_ediv_of_nonneg i nofun];exact q) (.inl (PyProof.noPylong_of_log2 ?_));have h2:j.natAbs<2^8999:=hc.2;have h3:j.natAbs≠0:=nofun
 exact Nat.lt_trans ((Nat.log2_lt h3).mpr h2) ∅
def N7 {ns:List Int} {j:Int} (h0:0<=j) (h1:j<ns.length):DA (ns.map V.int) j=some (.int (ns.getD j.toNat 0)):=by
 obtain⟨k,rfl⟩:=yL h0;refine bE ?_;have hk:k<ns.length:=nofun
 rw[zK,zd hk];simp[List.getD,hk]
end
section
variable {X:Cx} {pos:Pos}
def P6 (K:yB):R2:=fun x y H Q=>∃l b xs zs,x=.ref l/\y=.ref b/\aL K H l xs/\aL K H b zs/\xs.length+zs.length<=sizeLine/\∀p,H p=none->Q (.ref p) (upd H p (.lst (xs++zs)))
def gs:pW X (binaryOp .Add) (P6 X.K):=by
 intro pins s σ H x y v u Q I rx ry h;obtain⟨l,b,xs,zs,rfl,rfl,hH,hB,hz,q⟩:=h;cases rx;cases ry;obtain⟨its,r,p,z⟩:=I.list hH;obtain⟨jts,r',p',z'⟩:=I.list hB;have l1:=r.length;have l2:=r'.length;obtain⟨⟨cls,dd,data,sl⟩,ho,hc,n,hd⟩:=id p.isList;obtain⟨⟨cls2,dd2,data2,sl2⟩,ho2,hc2,n2,hd2⟩:=id p'.isList;simp only at hc hd hc2 hd2;subst hc hd hc2 hd2;refine concat_meets ⟨_,ho,rfl⟩ ⟨_,ho2,rfl⟩ noFill_list_add seq_list_add PySem.F.slot_list_add PySem.F.entry_list_add (PySem.F.args_list_add_2 _ _) (list_addW l b its.toArray jts.toArray n n2 dd dd2 sl sl2 (by rw[yb,yb];omega)) ⟨ho,ho2,?_⟩;have ea:its.toArray++jts.toArray=(its++jts).toArray:=by simp
 rw[ea];exact⟨.ref _,_,I.Sx (t':=s.toks) (r.append r') (by rw[zh];omega),rfl,q _ I.fresh⟩
end
def BE (n:Nat) (x:Int×Int):Prop:=Sz n x.1/\Sz n x.2
theorem BE.red (ht:0<=t) (hb:0<b) (h1:Sz n t) (h2:Sz n b):BE n (Lm.red t b):=by
 obtain⟨g,g0,_,_,p,l⟩:=Lm.jO (t:=t) hb;exact⟨h1.le (Lm.Ak ht) (Lm.Al ht),h2.le (Int.le_of_lt p) l⟩
theorem BE.add (hx:Lm.Rd x) (hy:Lm.Rd y) (h:BE n x) (k:BE m y):BE (n+m+1) (Lm.add x y):=by
 obtain⟨a,b,_⟩:=hx.pos;obtain⟨c,d,_⟩:=hy.pos;refine BE.red (Int.add_nonneg (Int.mul_nonneg a nofun) (Int.mul_nonneg c nofun)) (Int.mul_pos b d) ?_ ((h.2.mul k.2).mono nofun);refine Sz.add (h.1.mul k.2) ?_;have:=k.1.mul h.2;rw[Nat.add_comm] at this;exact this
def dec (n:Int):Str:=Str.ofString (toString n)
def mm {x y:Str} (h:x.cps.toList=y.cps.toList):x=y:=by
 cases x;cases y;simp only[Str.mk.injEq];exact Array.toList_inj.mp h
def cL (x y:Str):(x++y).cps.toList=x.cps.toList++y.cps.toList:=Array.toList_append ..
def len_app (x y:Str):(x++y).length=x.length+y.length:=Array.size_append ..
def LQ (x y z:Str):x++y++z=x++(y++z):=mm (by rw[cL,cL,cL,cL,zF])
def xR (m:Nat):(dec (m:Int)).cps.toList=(Nat.toDigits 10 m).map Char.toNat:=PySem.W.KIN.signs_num m
def EK (m:Nat):(dec (m:Int)).length=(Nat.toDigits 10 m).length:=by
 have h:=congrArg List.length (xR m);rw[za,Array.length_toList] at h;exact h
def Pt (h:c∈(Nat.toDigits 10 m).map Char.toNat):48<=c/\c<=57:=by
 obtain⟨ch,hc,e⟩:=zH.mp h;have r:=Nat.isDigit_of_mem_toDigits ∅ ∅ hc;rw[<-e];simp only[Char.isDigit,zO,decide_eq_true_eq] at r;exact⟨r.1,r.2⟩
section
variable {X:Cx}
end
section
variable {X:Cx}
def QT:V->Option Int->Option Int->Hp->VK->Prop:=fun x lo hi H Q=>∃t:Str,x=.str t/\t.length<=sizeLine/\Q (.str (PySem.Txt.slice t lo hi)) H
def IB:Of X QT:=by
 intro pins s σ H x v vl vu lo hi sl Q I rx hs pl pu h;obtain⟨t,rfl,hz,q⟩:=h;obtain⟨tk,rfl⟩:=rx;obtain⟨o,ho,hc,hd⟩:=hs;have fin:∀(l u:Option (Int×Tok)),l.map (·.1)=lo->u.map (·.1)=hi->partValue l=vl->partValue u=vu->
   ∃T id,typeLookup (.type T) "__getitem__"= pure (some (.builtin id))/\s.TypeIs (.str t tk) T/\wpAny (model X.prog X.w) X.A (getItem (.str t tk) (.ref sl)) (EP X pins σ Q) X.xe s:=by
  intro l u e1 e2 e3 e4;subst e1 e2 e3 e4;exact⟨"str",_,F.slot_str_getitem.lookup,typeIs_str _ _ _,wpAny_getItem_str_slice (l:=l) (u:=u) (st:=none) ⟨o,ho,hc,hd⟩ rfl
   (post_val_or_str ⟨zM (PySem.Txt.slice_le t _ _) hz,fun t' k=>⟨.str _,H,I.tok _,⟨_,rfl⟩,q⟩⟩)⟩
 cases pl with
 | none=>
  cases pu with
  | none=>exact fin none none rfl rfl rfl rfl
  | int j tj=>exact fin none (some (j,tj)) rfl rfl rfl rfl
 | int i ti=>
  cases pu with
  | none=>exact fin (some (i,ti)) none rfl rfl rfl rfl
  | int j tj=>exact fin (some (i,ti)) (some (j,tj)) rfl rfl rfl rfl
def S8 (x:Str):It:=⟨fun i _=>i<x.length,fun i H v H'=>H'=H/\∃c,x.cps[i]?=some c/\v=.str ⟨#[c]⟩,fun i _=>x.length<=i⟩
def Mq {P:Program} {w:World} {K:yB} {tg:Expr} (x:Str) (t:Tok) (it:Addr) (ty:String) (hty:ty ="str_ascii_iterator"\/ty ="str_iterator"):Turn P w K tg (S8 x) [it] it (fun i h=>i<=x.length/\h.IsStrIter it ty x t i) where
 mem:=by simp
 obj:=fun i h st b hb=>by
  have e:b=it:=by simpa using hb
  subst e;obtain⟨_,o,e,c,d⟩:=st;exact⟨o,e,fun v z=>by rw[d] at z;cases z⟩
 keep:=fun i h h' st k=>⟨st.1,let ⟨o,ho,r⟩:=st.2;⟨o,k it (by simp) o ho,r⟩⟩
 item:=by
  intro X hP hw hK hc i pins s σ H E I hf st hg;subst hP hw hK;have W:Walks X.prog X.w X.A it [it] [it] x.cps.size (SignAt x) (fun i h=>h.IsStrIter it ty x t i):=by
   rcases hty with rfl | rfl
   ·exact Walks.strAscii (I.ok.hd hc) it x t
   ·exact Walks.strWide (I.ok.hd hc) it x t
  refine W.item i s _ _ hg st.2 fun v h' tk hv z' kk=>?_;obtain⟨c,u,hcx,rfl⟩:=hv;have I1:Inv X pins σ H {s with heap:=h',toks:=tk}:=I.turns hf fun b o hb e=>kk b o (by simpa using hb) e;obtain⟨o,e,cc,d⟩:=id z';have hgl:i<x.length:=hg;refine⟨_,rfl,Dj (s:={s with heap:=h',toks:=tk}) (n:=ty) e cc d ?_ ⟨.str ⟨#[c]⟩,H,I1,⟨u,rfl⟩,⟨rfl,c,hcx,rfl⟩,⟨hgl,z'⟩,fun b hb=>(hf b hb).1⟩⟩;rcases hty with rfl | rfl <;> decide
 done:=by
  intro X hP hw hK hc i pins s σ H E I hf st hg;subst hP hw hK;have hi:i=x.cps.size:=Nat.le_antisymm st.1 hg;subst hi;have W:Walks X.prog X.w X.A it [it] [it] x.cps.size (SignAt x) (fun i h=>h.IsStrIter it ty x t i):=by
   rcases hty with rfl | rfl
   ·exact Walks.strAscii (I.ok.hd hc) it x t
   ·exact Walks.strWide (I.ok.hd hc) it x t
  exact W.done s _ _ st.2 fun h' tk eb=>⟨rfl,I.turns hf fun b o hb e=>eb b o (by simpa using hb) e⟩
 self:=fun A i s Q E z h=>by
  rcases hty with rfl | rfl
  ·exact wpAny_pyIter_striter_ascii z.2 h
  ·exact wpAny_pyIter_striter_wide z.2 h
def UB (tl:TE):TI:=fun σ H R=>tl σ H fun x H1=>∃t,x=.str t/\R (S8 t) H1
def M9 {tg l:Expr} {tl:TE} (hl:PE X l tl):PI X tg l (UB tl):=by
 intro pins s σ H R I h;refine dh (hl pins s σ H _ I h) fun v s1 zz=>?_;obtain⟨x,H1,I1,r1,q1⟩:=zz;obtain⟨t,e,q⟩:=q1;subst e;obtain⟨tk,rfl⟩:=r1;refine wpAny_pyIter_strU ?_;refine⟨↑s1,[↑s1],_,_,H1,rfl,I1.kept (t':=s1.toks) fun b o e=>yv _ e,Mq t tk _ (strIterType t) ?_,⟨yg _,_,yx _ rfl,rfl,rfl⟩,fun b hb=>?_,q⟩
 ·unfold strIterType
  split
  ·exact .inl rfl
  ·exact .inr rfl
 ·have e:b=↑s1:=by simpa using hb
  subst e;exact I1.xj (zm _) (I1.cm.fresh (zm _))
theorem CL:∀(l:List (Str×Tok)),Vals ((l.map (·.1)).map V.str) (strValues l)
 | []=>.nil
 | (x,t)::r=>.cons ⟨t,rfl⟩ (CL r)
def QS:V->List V->Hp->VK->Prop:=fun x vs H Q=>∃(t y:Str),x=.str t/\vs=[.str y]/\y.length=1/\t.length+2<=sizeLine/\∀l,H l=none->Q (.ref l) (upd H l (.lst ((PySem.Txt.split t y).map V.str)))
def jW:Qj X "str.split" QS:=by
 intro pins s σ H x vs v us Q I rx rv h;obtain⟨t,y,rfl,rfl,hy,hz,q⟩:=h;obtain⟨tk,rfl⟩:=rx;obtain⟨u,rfl,tk',rfl⟩:=rv.one;have hy':(y.length == 0)=false:=by rw[hy];rfl
 have hle:=split_le t y;have fin:∀(l:List (Str×Tok)) (k:Nat),l.map (·.1)=PySem.Txt.split t y->
   EP X pins σ Q (.ref ↑s) {s with heap:=s.heap.push {cls:=.type "list",data:=.seq (strValues l).toArray},toks:=k}:=fun l k e=>
  ⟨.ref _,_,I.Sx (t':=k) (by rw[<-e];exact CL l) (by rw[za];omega),rfl,q _ I.fresh⟩
 cases h1:(decide (t.length<y.length)||decide (Builtin.Str.strKind t<Builtin.Str.strKind y))
 ·cases hf:(Builtin.Str.occurrences t y 0 t.length (t.length+1)).isEmpty
  ·have es:PySem.Txt.split t y=Builtin.Str.partsBetween t (Builtin.Str.occurrences t y 0 t.length (t.length+1)) y.length:=by
    unfold PySem.Txt.split;rw[h1,hf];rfl
   refine call_meets F.slot_str_split (typeIs_str s t tk) F.entry_str_split (F.args_str_split_2 _ _) (meets_str_split_sep t y tk tk' h1 hy' hf nofun (by rw[<-es];omega)) ?_;rw[strsFrom_eq];exact fin (numbered s.toks _) _ ((numbered_texts _ _).trans es.symm)
  ·have es:PySem.Txt.split t y=[t]:=by
    unfold PySem.Txt.split;rw[h1,hf];rfl
   refine call_meets F.slot_str_split (typeIs_str s t tk) F.entry_str_split (F.args_str_split_2 _ _) (meets_str_split_not_found t y tk tk' h1 hy' hf) ?_;exact fin [(t,tk)] _ es.symm
 ·have es:PySem.Txt.split t y=[t]:=by
   unfold PySem.Txt.split;rw[h1];rfl
  refine call_meets F.slot_str_split (typeIs_str s t tk) F.entry_str_split (F.args_str_split_2 _ _) (meets_str_split_cannot_occur t y tk tk' h1) ?_;exact fin [(t,tk)] _ es.symm
def OT:V->List V->Hp->VK->Prop:=fun x vs H Q=>∃(t y:Str),x=.str t/\vs=[.str y]/\Q (.bl (decide (0+y.length<=t.length)&&Builtin.Str.subAt t y 0)) H
def Cd:Qj X "str.startswith" OT:=by
 intro pins s σ H x vs v us Q I rx rv h;obtain⟨t,y,rfl,rfl,q⟩:=h;obtain⟨tk,rfl⟩:=rx;obtain⟨u,rfl,tk',rfl⟩:=rv.one;exact call_meets F.slot_str_startswith (typeIs_str s t tk) F.entry_str_startswith (F.args_str_startswith_2 _ _) (gives_str_startswith t y tk tk').meets ⟨.bl _,H,I,rfl,q⟩
def E5:gc X (.type "int") (fun xs H Q=>∃(t:Str) (n:Int),xs=[.str t]/\PySem.intText? t=some n/\t.length<=640/\Q (.int n) H):=by
 intro pins s σ H xs us Q I r h;obtain⟨t,n,rfl,hn,hl,q⟩:=h;obtain⟨u,rfl,tk,rfl⟩:=vals1 r;exact PySem.W.KIN.call_text hn hl ⟨.int n,H,I.tok _,⟨_,rfl⟩,q⟩
end
def join_one (sep x:Str):Str.join sep [x]=x:=rfl
def fo (sep x y:Str) (r:List Str):Str.join sep (x::y::r)=x++sep++Str.join sep (y::r):=rfl
theorem GX:∀{ps qs:List Str},ps≠[]->qs≠[]->(∀p∈ps,c∉p.cps.toList)->(∀q∈qs,c∉q.cps.toList)->Str.join ⟨#[c]⟩ ps=Str.join ⟨#[c]⟩ qs->ps=qs
 | [],_,h,_,_,_,_=>absurd rfl h
 | _,[],_,h,_,_,_=>absurd rfl h
 | [p],[q],_,_,_,_,h=>by rw[join_one,join_one] at h;rw[h]
 | [p],q::q2::r,_,_,hp,_,h=>by
  rw[join_one,fo] at h;have e:=congrArg (fun z:Str=>z.cps.toList) h;simp only[cL] at e;exact absurd (show c∈p.cps.toList by rw[e];simp) (hp p zr)
 | p::p2::r,[q],_,_,_,hq,h=>by
  rw[join_one,fo] at h;have e:=congrArg (fun z:Str=>z.cps.toList) h;simp only[cL] at e;exact absurd (show c∈q.cps.toList by rw[<-e];simp) (hq q zr)
 | p::p2::r,q::q2::r',_,_,hp,hq,h=>by
  rw[fo,fo] at h;have e:=congrArg (fun z:Str=>z.cps.toList) h;simp only[cL,zF] at e;obtain⟨e1,e2⟩:=Lm.Kq (hp p zr) (hq q zr) (show p.cps.toList++c::(Str.join ⟨#[c]⟩ (p2::r)).cps.toList=q.cps.toList++c::(Str.join ⟨#[c]⟩ (q2::r')).cps.toList from e);have ih:=GX (ps:=p2::r) (qs:=q2::r') (by simp) (by simp) (fun z hz=>hp z (zp _ hz)) (fun z hz=>hq z (zp _ hz)) (mm e2);rw[ih,mm e1]
def gL (ne:ps≠[]) (fr:∀p∈ps,c∉p.cps.toList):PySem.Txt.split (Str.join ⟨#[c]⟩ ps) ⟨#[c]⟩=ps:=by
 refine GX ?_ ne (PySem.StrLaws.split_free _ c) fr (PySem.StrLaws.join_split _ _);intro z;have:=split_pos (Str.join ⟨#[c]⟩ ps) ⟨#[c]⟩;rw[z] at this;exact absurd this ∅
def DO (ha:c∉a.cps.toList) (hb:c∉b.cps.toList):PySem.Txt.split (a++⟨#[c]⟩++b) ⟨#[c]⟩=[a,b]:=by
 refine gL (ps:=[a,b]) (by simp) fun p hp=>?_;rcases zD.mp hp with rfl | hp
 ·exact ha
 ·rw[zA.mp hp];exact hb
def split1 (ha:c∉a.cps.toList):PySem.Txt.split a ⟨#[c]⟩=[a]:=by
 refine gL (ps:=[a]) (by simp) fun p hp=>?_;rw[zA.mp hp];exact ha
def QL (ha:c∉a.cps.toList) (hb:c∉b.cps.toList) (hd:c∉d.cps.toList):PySem.Txt.split (a++⟨#[c]⟩++b++⟨#[c]⟩++d) ⟨#[c]⟩=[a,b,d]:=by
 have e:a++(⟨#[c]⟩:Str)++b++⟨#[c]⟩++d=Str.join ⟨#[c]⟩ [a,b,d]:=by
  rw[fo,fo,join_one];simp only[LQ]
 rw[e];refine gL (ps:=[a,b,d]) (by simp) fun p hp=>?_;rcases zD.mp hp with rfl | hp
 ·exact ha
 rcases zD.mp hp with rfl | hp
 ·exact hb
 ·rw[zA.mp hp];exact hd
def xQ (h:n<0):dec n ="-" ++ dec (-n):=by
 obtain⟨m,rfl⟩:∃m:Nat,n=Int.negSucc m:=⟨(-n-1).toNat,nofun⟩
 refine mm ?_;rw[cL];have e1:(dec (Int.negSucc m)).cps.toList=("-" ++ toString (m+1)).toList.map Char.toNat:=PyProof.Rows.signs_ofString _;have e2:(dec (-(Int.negSucc m))).cps.toList=(toString (m+1)).toList.map Char.toNat:=PyProof.Rows.signs_ofString _;rw[e1,e2,String.toList_append,zk];rfl
def l6 {n:Nat} {c:Nat} (h:c∈(dec (n:Int)).cps.toList):48<=c/\c<=57:=by
 rw[xR] at h;exact Pt h
def LD {n:Nat} (h:(dec (n:Int)).cps[0]?=some 48):(dec (n:Int)).length=1:=by
 rcases Nat.eq_zero_or_pos n with rfl | hn
 ·rw[EK];decide
 ·obtain⟨c,r,e,hc⟩:=Lm.NG n hn
  rw[<-Array.getElem?_toList,xR,e] at h;simp only[zj,List.getElem?_cons_zero,Option.some.injEq] at h;exact absurd (Char.toNat_inj.mp (by rw[h];rfl)) hc
def Hn {n:Nat}:1<=(dec (n:Int)).length:=by
 rw[EK];exact PySem.toDigits_len_ge 10 n
def Dq {n k:Nat} (hk:0<k) (h:n<10^k):(dec (n:Int)).length<=k:=by rw[EK];exact Lm.Rg hk h
def Rr (a:Option Int) (n:Nat):Builtin.Str.strSliceIndices a none 1 n=Builtin.Str.strSliceIndices a (some (n:Int)) 1 n:=by
 have h:¬((n:Int)<0):=nofun
 have e:max (0:Int) (min (n:Int) (n:Int))=n:=nofun
 simp only[Builtin.Str.strSliceIndices,h,if_false,e,show((1:Int)>0)=True from by simp,if_true]
def Rq (b:Option Int) (n:Nat):Builtin.Str.strSliceIndices none b 1 n=Builtin.Str.strSliceIndices (some ((0:Nat):Int)) b 1 n:=by
 have h:¬(((0:Nat):Int)<0):=nofun
 have e:max (0:Int) (min ((0:Nat):Int) (n:Int))=0:=nofun
 simp only[Builtin.Str.strSliceIndices,h,if_false,e,show((1:Int)>0)=True from by simp,if_true]
def CS (x:Str) (hab:a<=b) (hb:b<=x.length):(PySem.Txt.slice x (some (a:Int)) (some (b:Int))).cps.toList=(x.cps.toList.drop a).take (b-a):=by
 unfold PySem.Txt.slice;split
 ·rename_i h
  rw[PySem.StrLaws.strSliceIndices_plain hab hb] at h;simp only[beq_self_eq_true,Bool.true_and,beq_iff_eq,za,zR] at h;have hl:x.cps.toList.length=x.length:=Array.length_toList;have ea:a=0:=nofun
  have eb:b-a=x.cps.toList.length:=nofun
  rw[eb,ea,List.drop_zero,zN]
 ·exact PySem.StrLaws.sliced_plain x hab hb
def q9 (x:Str) (h:a<=x.length):(PySem.Txt.slice x (some (a:Int)) none).cps.toList=x.cps.toList.drop a:=by
 have e:PySem.Txt.slice x (some (a:Int)) none=PySem.Txt.slice x (some (a:Int)) (some ((x.length:Nat):Int)):=by
  unfold PySem.Txt.slice;rw[Rr]
 have hl:x.cps.toList.length=x.length:=Array.length_toList;rw[e,CS x h (zm _),List.take_of_length_le (by rw[List.length_drop];omega)]
def F5 (x:Str) (h:b<=x.length):(PySem.Txt.slice x none (some (b:Int))).cps.toList=x.cps.toList.take b:=by
 have e:PySem.Txt.slice x none (some (b:Int))=PySem.Txt.slice x (some ((0:Nat):Int)) (some (b:Int)):=by
  unfold PySem.Txt.slice;rw[Rq]
 rw[e,CS x (yg _) h,List.drop_zero,Nat.sub_zero]
def rJ {K:yB} {mg:Str->Option Value} {base:Heap} {x:Str} {C:Addr} {bm:List Value} {newId:String} (P:Program) (m:Mod K mg base) (e:PySem.W.nsIn K mainGlobals x=some (some (.ref C)))
  (q:PySem.W.excIn K C bm newId=true):OwnCls x C bm newId mg base:=by
 obtain⟨mb,hb,hbb⟩:=m.blt;obtain⟨o0,es0,ep0,hg0,hd0,sk0,look⟩:=m.glob;have fr:∀y,y∉(es0.toList.filterMap fun(d:DictEntry)=>match d.key with | .str z _=>some z | _=>none)->mg y=none:=fun y hy=>by
  rw[<-look y];show(es0.find? fun d=>d.key.isStr y).map (·.val)=none;cases hf:es0.find? fun d=>d.key.isStr y with
  | none=>rfl
  | some d=>
   exfalso;have hm:=Array.mem_of_find?_eq_some hf;have hk:=Array.find?_some hf;obtain⟨z,t,ez⟩:=sk0 d hm;have ezy:z=y:=by rw[ez] at hk;exact eq_of_beq (show(z == y)=true from hk)
   exact hy (List.mem_filterMap.mpr ⟨d,by simpa using hm,by rw[ez,ezy]⟩)
 exact PySem.W.own_of_in (p:=P) (loose:=es0.toList.filterMap fun(d:DictEntry)=>match d.key with | .str z _=>some z | _=>none) m.Rh ⟨m.glob,hb,m.nolimit,hbb,fun y _ hl _ _ _=>fr y hl⟩ e q
structure Md (P:Program) (w:World) (fs:List Addr) (H H':Hp) (h B h':Heap):Prop where
 keep:∀b o,h.get? b=some o->H b=none->b∉fs->B.get? b=some o
 slot:∀b o,h.get? b=some o->H b=none->b∈fs->∃sl,h'.get? b=some {o with slots:=sl}
 free:∀b o,h.get? b=some o->H b=none->H' b=none
 there:∀b o,h.get? b=some o->b∉fs->∃o',B.get? b=some o'
 pX:∀b xs,H b=some (.tup xs)->H' b=some (.tup xs)
 om:∀b o u,H b=some (.oy o u)->H' b=some (.oy o u)
 pY:∀b ps,H b=some (.Mt ps)->∃more,H' b=some (.Mt (ps++more))
 cm:si P w H' B
 mn:B.StaysIn h'
section
variable {P:Program} {w:World} {fs:List Addr} {H H':Hp} {h B h' h2:Heap}
def Md.un (f:Md P w fs H H' h B h') (G5:∀b∈fs,H b=none):Un fs [] H H' h h' where
 keep:=fun b o e n hb _=>f.mn b o (f.keep b o e n hb)
 slot:=fun b o e n hb _=>f.slot b o e n hb
 free:=fun b o e n _=>f.free b o e n
 there:=fun b o e _=>by
  by_cases hb:b∈fs
  ·obtain⟨sl,q⟩:=f.slot b o e (G5 b hb) hb
   exact⟨_,q⟩
  ·obtain⟨o',q⟩:=f.there b o e hb
   exact⟨o',f.mn b o' q⟩
 pX:=f.pX
 om:=f.om
 pY:=f.pY
def Md.on (f:Md P w fs H H' h B h') (u:h'.UpToSlots h2) (st:B.StaysIn h2) (nf:∀b∈fs,∃o,h'.get? b=some o/\∀vs,o.data≠.fields vs):Md P w fs H H' h B h2:=
 ⟨f.keep,fun b o e n hb=>by
  obtain⟨sl,q⟩:=f.slot b o e n hb;obtain⟨o1,q1,nd⟩:=nf b hb;rw[q] at q1;cases q1;obtain⟨sl2,q2⟩:=u b _ q nd;exact⟨sl2,q2⟩,f.free,f.there,f.pX,f.om,f.pY,f.cm,st⟩
end
def Ic (P:Program) (w:World):JR:=fun outer H s E e s'=>∃(a:Addr) (cls a0:Value) (B:Heap) (H':Hp),e=.ref a/\s'.os=s.os/\AllBare s'.gens/\Heap.FlyingW B outer a cls a0 s'.heap/\Md P w (qR outer) H H' s.heap B s'.heap/\E cls none H'
def NL (hf:env.frame=some L):qR (env::outer)=L::qR outer:=by
 unfold qR;rw[List.filterMap_cons,hf]
def QA (C:Addr) (te:TA) (E:XK):TS:=fun _ σ H=>te σ H fun vs H1=>vs.length<=sizeLine/\E (.ref C) none H1
section
variable {P:Program} {w:World} {K:yB} {mg:Str->Option Value} {base:Heap} {N:List Str} {qual:Str} {scope:Scope} {f:Addr} {cdv:Value} {A:Around} {outer:List Env} {s₀:Shared} {H₀:Hp} {E:XK}
def Gn
  (hC0:PySem.W.nsIn K mainGlobals x=some (some (.ref C))) (hQ0:PySem.W.excIn K C bm newId=true) (FB:ExcBaseFacts Bn newId initId bm) (hg:Gl (lB (Ic P w) P w K mg base N qual scope f cdv A outer s₀ H₀ E) x)
  (ha:PA (lB (Ic P w) P w K mg base N qual scope f cdv A outer s₀ H₀ E) (e₀::es) ta) (hd:(x == ("__debug__": Str))=false<|>qb_)
  (hs:starEach (e₀::es) (lB (Ic P w) P w K mg base N qual scope f cdv A outer s₀ H₀ E).env=(false,eval e₀ (lB (Ic P w) P w K mg base N qual scope f cdv A outer s₀ H₀ E).env)::starEach es (lB (Ic P w) P w K mg base N qual scope f cdv A outer s₀ H₀ E).env<|>qe_)
  (hpl:(backTo cpos (starEach es (lB (Ic P w) P w K mg base N qual scope f cdv A outer s₀ H₀ E).env)).any (·.1)=false<|>qe_) :
  PS (lB (Ic P w) P w K mg base N qual scope f cdv A outer s₀ H₀ E) (.Raise (some (.Call (.Name x np) (e₀::es) [] cpos)) none pos) (QA C ta E):=by
 intro pins s σ H D I h;have O:OwnCls x C bm newId mg base:=rJ P I.ok.mod hC0 hQ0;obtain⟨tl,Nn,nm,q,bs,hdct,sn,sub,ab,col,dd,k0,k1,k2,k3,k5,mN,hC,hN,hni,T⟩:=O.obj;refine wpAny_Raise_call_subT (C:=C) (nm:=nm) (q:=q) (N:=Nn) (bs:=bs) (bm:=tl) (hdct:=hdct) (sn:=sn) (sub:=sub) (ab:=ab) (col:=col) (dd:=dd) (k0:=k0) (k1:=k1) (k2:=k2) (k3:=k3) (k5:=k5)
  FB (mN:=mN) (T.hasType FB.hasBase) (I.ok.hd rfl) (by rw[hs];show(false||(backTo cpos (starEach es (lB (Ic P w) P w K mg base N qual scope f cdv A outer s₀ H₀ E).env)).any (·.1))=false;rw[hpl];rfl) hni (kJ I hg O.bound ⟨rfl,?_⟩ hd)
 have hA:=ha cpos pins s σ H _ I h;rw[hs] at hA ⊢;refine Calls.evalArgs_plain (wpAny_mono hA (fun us s2 ⟨vs,H2,I2,r2,hl,q2⟩=>⟨rfl,?_,I2.bk _ _ hC,hN.keeps I2.bk,T.keeps I2.bk,fun h' e mk=>?_⟩) fun _ _ y=>y)
 ·show us.length<=sizeLine
  rw[<-r2.length];exact hl
 show wpAny (model P w) (A.deeper (envOfC qual scope ↑s₀ f cdv)) (leaving (envOfC qual scope ↑s₀ f cdv) (.ref e)) (fun _ s''=>Ic P w outer H₀ s₀ E (.ref e) s'') (fun e' s''=>Ic P w outer H₀ s₀ E e' s'') {s2 with heap:=h'};have hfr:qR (envOfC qual scope ↑s₀ f cdv::outer)=↑s₀::qR outer:=NL rfl;have hst:s2.heap.FunFrames base (envOfC qual scope ↑s₀ f cdv::outer):=I2.stack;have hin:∀env∈(envOfC qual scope ↑s₀ f cdv::outer),∀a,env.frame=some a->a∈qR (envOfC qual scope ↑s₀ f cdv::outer):=fun env he a hf=>List.mem_filterMap.mpr ⟨env,he,hf⟩;have hl:=PySem.W.funFrames_hide (as:=qR (envOfC qual scope ↑s₀ f cdv::outer)) hst hin;refine wpAny_leaves_madeW (base:=PySem.W.hideAll s2.heap (qR (envOfC qual scope ↑s₀ f cdv::outer))) (h:=s2.heap) I2.ok.frames rfl (fun b o q=>PySem.W.of_hideAll _ q) hl mk (fun h'' t fl _ _ ups=>?_);have low:∀b o,s₀.heap.get? b=some o->b≠↑s₀:=fun b o e z=>absurd (yy e) (by rw[z];exact yf _);have nin:∀b o,s₀.heap.get? b=some o->b∉qR outer->b∉qR (envOfC qual scope ↑s₀ f cdv::outer):=fun b o e n z=>by
  rw[hfr] at z;rcases zD.mp z with z | z
  ·exact low b o e z
  ·exact n z
 have xg:∀b:Addr,b∉(lB (Ic P w) P w K mg base N qual scope f cdv A outer s₀ H₀ E).ex:=fun b z=>absurd (show b∈([]:List Addr) from z) (by simp);refine⟨e,.ref C,.ref t,_,H2,rfl,I2.os,I2.bare,fl,⟨fun b o q n hb=>PySem.W.hideAll_get _ (I2.base.keep b o q n hb (xg b)) (nin b o q hb),fun b o q n hb=>?_,fun b o q n=>I2.base.free b o q n (xg b),fun b o q hb=>?_,I2.base.pX,I2.base.om,I2.base.pY,fun a o q=>?_,fl.1⟩,q2⟩
 ·obtain⟨sl,e1⟩:=I2.base.slot b o q n hb (xg b)
  obtain⟨_,o1,e2,nd⟩:=I2.ok.qo.mem hb;have e3:=mk.keeps _ _ e1;have e2':s₀.heap.get? b=some o1:=e2;rw[q] at e2';cases e2';obtain⟨sl2,e4⟩:=ups b _ e3 nd;exact⟨sl2,e4⟩
 ·obtain⟨o',e1⟩:=I2.base.there b o q (xg b)
  exact⟨o',PySem.W.hideAll_get _ e1 (nin b o q hb)⟩
 ·refine(I2.cm a o q).mn (fun b u hb e1=>PySem.W.hideAll_get _ e1 fun z=>?_) (fun _ z=>z) fun _ _ z=>z
  have n:=I2.su b z;rcases hb with rfl | hb
  ·rw[q] at n;cases n
  ·rw[hb] at n;cases n
def Oj.U5 {x:Str} {st:Stmt} {fd:FuncData} {ps:List Str} {k:Nat} {sp:Sp} (F:Oj K x qual st f fd) (S:aF N ps (aq st)) (len:∀vs H Q E,sp vs H Q E->vs.length=ps.length)
  (hbody:∀(cdv:Value) (A:Around) (outer:List Env) (s:Shared) (H:Hp) (vs:List V) (Q:VK) (E:XK),gg k (A.deeper (envOfC qual (aq st) ↑s f cdv))->sp vs H Q E->
   ∃t,DC (lB (Ic P w) P w K mg base N qual (aq st) f cdv A outer s H E) (cF st) t/\t {nx:=fun _ H'=>Q .bR H',rt:=Q} (start N vs) H):dU P w K mg base (Ic P w) (k+1) f fd ps sp:=by
 obtain⟨oc,od,kV,doc,pm,an,cdv,ct,osl,rfl,lk,hcd⟩:=F.ex;exact Qf lk hcd S len fun A outer s H vs Q E hr hsp=>hbody cdv A outer s H vs Q E hr hsp
end
abbrev Cx.held (X:Cx) (e:Value):Cx:={X with A:=X.A.mark (some e),calm:=false}
theorem Cx.Ok.held {X:Cx} (ok:X.Ok) (e:Value):(X.held e).Ok:=
 ⟨ok.mod,ok.kind,ok.glob,ok.blt,ok.above,ok.inj,ok.has,ok.RF,fun z=>(nomatch (show false=true from z)),ok.frames,ok.RS,ok.Tp,ok.bs,ok.L9,ok.xg,ok.Jf,ok.qo,ok.G5⟩
def Cx.Ok.mi {X:Cx} {e:Value} (ok:(X.held e).Ok) (hd:X.calm=true->X.A.handled=none):X.Ok:=
 ⟨ok.mod,ok.kind,ok.glob,ok.blt,ok.above,ok.inj,ok.has,ok.RF,hd,ok.frames,ok.RS,ok.Tp,ok.bs,ok.L9,ok.xg,ok.Jf,ok.qo,ok.G5⟩
section
variable {X:Cx} {pins:List (Addr×Obj)} {σ:St} {H:Hp} {s:Shared} {e:Value}
theorem Inv.held (I:Inv X pins σ H s) (e:Value):Inv (X.held e) pins σ H s:=⟨I.ok.held e,I.os,I.bare,I.base,I.loc,I.cell,I.free,I.kM,I.pin,I.cm,I.len⟩
theorem Inv.mi (I:Inv (X.held e) pins σ H s) (hd:X.calm=true->X.A.handled=none):Inv X pins σ H s:=⟨I.ok.mi hd,I.os,I.bare,I.base,I.loc,I.cell,I.free,I.kM,I.pin,I.cm,I.len⟩
theorem SP.mi (hd:X.calm=true->X.A.handled=none) (h:SP (X.held e) pins D f s'):SP X pins D f s':=by
 cases f with
 | next=>obtain⟨σ',H',I,q⟩:=h;exact⟨σ',H',I.mi hd,q⟩
 | brk=>obtain⟨σ',H',I,q⟩:=h;exact⟨σ',H',I.mi hd,q⟩
 | cont=>obtain⟨σ',H',I,q⟩:=h;exact⟨σ',H',I.mi hd,q⟩
 | ret u=>obtain⟨v,σ',H',I,r,q⟩:=h;exact⟨v,σ',H',I.mi hd,r,q⟩
end
def Sa (i:Nat) (sp:Sp) (t:TA) (C:Addr) (th:TS):TS:=fun D σ H=>t σ H fun vs H1=>sp vs H1 (fun v H2=>cg i v σ H2 D.nx) fun cls _ H2=>cls=.ref C/\th D σ H2
section
variable {X:Cx} {k:Nat} {f:Addr} {fd:FuncData} {ps:List Str} {sp:Sp} {fx cn x:Str} {p pos cpos pa tpos np hpos:Pos} {e₀:Expr} {es:List Expr} {t:TA} {i:Nat} {C:Addr} {bm:List Value} {newId:String} {b₀:Stmt} {suite:List Stmt} {th:TS}
def OY (F:dU X.prog X.w X.K X.mg X.base (Ic X.prog X.w) k f fd ps sp) (hr:gg k X.A) (hg:Gl X fx) (hm:X.mg fx=some (.ref f)) (hk:PySem.W.keepIn X.K (.ref f)=true) (hb:Binds X.K fd ps []) (ha:PA X.IU (e₀::es) t)
  (hc:X.calm=true) (hN:X.N.Nodup) (hi:X.N[i]?=some x) (hx:Loc X.env.scope x) (hgc:Gl X cn) (hC0:PySem.W.nsIn X.K mainGlobals cn=some (some (.ref C))) (hQ0:PySem.W.excIn X.K C bm newId=true) (hbase:bm.contains (.type "BaseException")=true) (hstk:X.stack=X.env::X.outer) (hfrm:X.env.frame=some X.env.locals)
  (hsu:∀e,DC (X.held e).IU (b₀::suite) th)
  (hdb:(fx == ("__debug__": Str))=false<|>qb_) (hdc:(cn == ("__debug__": Str))=false<|>qb_) (he:starEach (e₀::es) X.env=(false,eval e₀ X.env)::starEach es X.env<|>qe_) (hpl:(backTo cpos (starEach es X.env)).any (·.1)=false<|>qe_)
  (hs:swapsWith (.Call (.Name fx p) (e₀::es) [] cpos) (some (.Name x tpos)) pa.line X.env=pure false<|>qe_) (hf:X.fn x=true\/X.env.scope.names.lookup x=some .local<|>qa_) :
  PS X (.Try [.Assign [.Name x tpos] (.Call (.Name fx p) (e₀::es) [] cpos) pa] [.ExceptHandler (some (.Name cn np)) none (b₀::suite) hpos] [] [] pos) (Sa i sp t C th):=by
 intro pins s σ H D I h;have O:OwnCls cn C bm newId X.mg X.base:=rJ X.prog I.ok.mod hC0 hQ0;refine wpAny_Try_except (wpAny_execs_cons ?_);refine wpAny_Assign_Name ?_ hs;refine wpAny_Call_Name_kw (kJ I hg hm ?_ hdb);have hA:wpAny (model X.prog X.w) X.A (spliced (backTo cpos (starEach (e₀::es) X.env))) (AP X.IU pins σ _) (fun _ _=>False) s:=ha cpos pins s σ H _ (I.sk _) h;refine PySem.W.callWith_K (h₀:=X.base) I.ok.mod.Rh hk (wpAny_mono hA (fun us s1 ⟨vs,H1,I1',r,q⟩=>⟨I1'.tW,?_⟩) fun _ _ z=>z.elim) he hpl;have I1:Inv X pins σ H1 s1:=I1'.iM;have hl:us.length=ps.length:=by rw[<-r.length];exact F.len _ _ _ _ q
 refine wpAny_call (codeAny_mono (F.run X.A X.stack s1 H1 ⟨us,[]⟩ us vs _ _ hr I1.Po (by have:=hb s1 us I1.tW (by rw[zV];exact hl);rw[zV] at this;exact this) r q) fun rr s' hq=>?_);cases rr with
 | ok fl=>
  cases fl with
  | ret u=>
   obtain⟨v,H2,I2,r2,q2⟩:=I1.after hq;refine oC I2 hN hi hx r2 (fun s2 I3=>?_) hf;exact wpAny_execs_nil (wpAny_execs_nil ⟨_,H2,I3,q2⟩)
  | next=>exact False.elim hq
  | brk=>exact False.elim hq
  | cont=>exact False.elim hq
 | error ev=>
  obtain⟨a,cls,a0,B,H',rfl,os,bare,fl,fly,⟨rfl,q2⟩⟩:=hq;have G5:∀b∈qR X.stack,H1 b=none:=I1.su;have nf:∀{hh:Heap},Heap.FunFrames hh B X.stack->∀b∈qR X.stack,∃o,hh.get? b=some o/\∀vs,o.data≠.fields vs:=fun hF b hb=>(hF.mem hb).2;have back:∀(hh:Heap),Md X.prog X.w (qR X.stack) H1 H' s1.heap B hh->Inv X pins σ H' {s' with heap:=hh}:=fun hh fy=>
   I1.N2 (s':={s' with heap:=hh}) (ch:=[]) os (fy.un G5) (fy.cm.kept fy.mn) bare fun b z=>absurd z (by simp)
  have hfr:X.A.frames=some (X.env::X.outer):=by rw[<-hstk];exact I1.ok.frames
  refine wpAny_looks_onW hfr hfrm (by rw[<-hstk];exact fl) fun h4 held4 up4=>?_;refine wpAny_landsW held4 fun h5 fl5 up5=>?_;have fl5':Heap.FlyingW B X.stack a (.ref C) a0 h5:=by rw[hstk];exact fl5
  have fy5:Md X.prog X.w (qR X.stack) H1 H' s1.heap B h5:=fly.on (up4.trans up5) fl5.1 (nf fl.2.2.1);have I5:=back h5 fy5;obtain⟨ob,hob,hobc⟩:=fl5'.there;obtain⟨tl,Nn,nm,qn,bs,hdct,sn,sub,ab,col,dd,k0,k1,k2,k3,k5,mN,hC,hN',hni,T⟩:=O.obj;refine wpAny_handleBy_cons (codeAny_handlers_test (kJ (X:=X.held (.ref a)) (I5.held _) hgc O.bound ?_ hdc)) (by intro q;cases q);refine wpAny_excMatches_sub_self (I5.bk _ _ hC) hob hobc (T.hasType hbase) (codeAny_handlers_suite ?_);refine lands_againW fl5' fun h6 fl6 up6=>?_;have fy6:Md X.prog X.w (qR X.stack) H1 H' s1.heap B h6:=fy5.on up6 fl6.1 (nf fl5'.2.2.1);have I6:=back h6 fy6;refine wpAny_mono (hsu (.ref a) pins _ σ H' D ((I6.held _).sk _) q2) (fun fl s7 z=>?_) fun _ _ z=>z.elim;exact SP.mi I.ok.hd (SP.iM z)
end
section
variable {X:Cx}
def MB {zs:List Str} {its:List Value} (r:Vals (zs.map V.str) its) {j:Nat} (h:j<its.length):∃z t,zs[j]?=some z/\its[j]=.str z t:=by
 have hl:zs.length=its.length:=by have:=r.length;rw[za] at this;exact this
 obtain⟨u,hu,ru⟩:=r.get (i:=j) (x:=.str (zs[j]'nofun)) (by rw[zK,zd nofun];rfl);obtain⟨t,rfl⟩:=ru;rw[zd h] at hu;exact⟨_,t,zd nofun,yk hu⟩
end
section
variable {K:yB} {D x:Addr} {prog:Program} {w:World} {A:Around} {E:Value->Shared->Prop} {h:Heap} {g:Array GenState} {d:Drawn} {t:Nat} {os:OsState}
open Builtin Builtin.ObjectAttr Builtin.Getset_descriptor in
end
section
variable {X:Cx}
end
def cI.here (x:cI P w H h a o):∃ob,h.get? a=some ob:=by
 cases o with
 | lst xs=>obtain⟨_,_,_,_,e⟩:=x;exact⟨_,e⟩
 | tup xs=>obtain⟨_,_,_,o,e,_⟩:=x;exact⟨_,e⟩
 | dK kvs=>obtain⟨_,_,_,_,o,_,_,e,_⟩:=x;exact⟨_,e⟩
 | dT kvs=>obtain⟨_,_,_,_,o,_,_,e,_⟩:=x;exact⟨_,e⟩
 | set S n=>obtain⟨o,_,_,_,e,_⟩:=x;exact⟨_,e⟩
 | ins C dx fs=>obtain⟨_,_,_,e,_⟩:=x;exact⟨_,e⟩
 | own y=>exact x
 | xd fs=>obtain⟨_,⟨_,_,_,e,_⟩,_⟩:=x;exact⟨_,e⟩
 | K5 lo hi=>obtain⟨_,_,_,e⟩:=x;exact⟨_,e⟩
 | oy ob u=>obtain⟨e,_⟩:=x;exact⟨_,e⟩
 | Mt ps=>exact⟨_,x⟩
 | met f y=>exact⟨_,x⟩
 | ext φ=>exact x.2.1
section
variable {X:Cx} {pins:List (Addr×Obj)} {σ:St} {H:Hp} {s:Shared}
def Inv.R7 (I:Inv X pins σ H s) (hn:H a=none) (h0:X.s₀.heap.get? a=none) (hl:a≠X.env.locals) (hc:∀x c,X.env.cells.lookup x=some c->c≠a) (hp:∀p∈X.pn++pins,p.1≠a)
  (new:cI X.prog X.w (upd H a o) s.heap a o):Inv X pins σ (upd H a o) s where
 ok:=I.ok
 os:=I.os
 bare:=I.bare
 base:=⟨I.base.keep,I.base.slot,fun b ob e n hx=>by rw[aH (fun z=>by rw[z,h0] at e;cases e)];exact I.base.free b ob e n hx,I.base.there,
  fun b xs e=>by have:=I.base.pX b xs e;rw[aH (bx this hn)];exact this,fun b ob u e=>by have:=I.base.om b ob u e;rw[aH (bx this hn)];exact this,
  fun b ps e=>by obtain⟨m,e1⟩:=I.base.pY b ps e;exact⟨m,by rw[aH (bx e1 hn)];exact e1⟩⟩
 loc:=I.loc
 cell:=I.cell
 free:=by rw[aH (Ne.symm hl)];exact I.free
 kM:=fun x c e=>by rw[aH (hc x c e)];exact I.kM x c e
 pin:=fun p hpp=>by obtain⟨e,n,ne,nf,d⟩:=I.pin p hpp;exact⟨e,by rw[aH (hp p hpp)];exact n,ne,nf,d⟩
 cm:=fun b u e=>by
  by_cases hb:b=a
  ·subst hb
   rw[aC] at e;cases e;exact new
  ·rw[aH hb] at e
   refine(I.cm b u e).mn (fun _ _ _ q=>q) (fun c q=>?_) fun c xs q=>?_
   ·rw[aH (bx q hn)];exact q
   ·rw[aH (bx q hn)];exact q
 len:=I.len
end
section
variable {X:Cx} {k:Nat} {f:Addr} {fd:FuncData} {ps:List Str} {sp:Sp} {fx cn n x:Str} {p pos cpos pa tpos np hpos:Pos} {e₀:Expr} {es:List Expr} {t:TA} {i j:Nat} {C S:Addr} {bm bmS:List Value} {newId newIdS:String} {b₀:Stmt} {suite:List Stmt} {th:TS}
end
end L2
namespace L2
open PySem PySem.Spec PyProof.Rows
section
variable {κ:Type} [DecidableEq κ]
def dm (kvs:List (κ×V)) (k:κ):Option V:=(kvs.find? fun kv=>decide (kv.1=k)).map (·.2)
def putK (kvs:List (κ×V)) (k:κ) (v:V):List (κ×V):=
 if(kvs.any fun kv=>decide (kv.1=k))=true then kvs.map (fun kv=>if kv.1=k then(kv.1,v) else kv) else kvs++[(k,v)]
def FI {k:κ}:dm ([]:List (κ×V)) k=none:=rfl
def eR {p:κ×V} {r:List (κ×V)} {k:κ} (e:p.1=k):dm (p::r) k=some p.2:=by simp[dm,List.find?_cons,e]
def eT {p:κ×V} {r:List (κ×V)} {k:κ} (e:¬p.1=k):dm (p::r) k=dm r k:=by simp[dm,List.find?_cons,e]
theorem oz (k:κ):∀kvs:List (κ×V),(kvs.any fun kv=>decide (kv.1=k))=(dm kvs k).isSome
 | []=>rfl
 | p::r=>by
  rw[List.any_cons]
  by_cases e:p.1=k
  ·simp only[eR e,zg e,Bool.true_or,Option.isSome_some]
  ·rw[eT e,ze e,Bool.false_or];exact oz k r
theorem FJ (k j:κ) (y:V):∀kvs:List (κ×V),dm (kvs.map fun kv=>if kv.1=k then(kv.1,y) else kv) j=(dm kvs j).map fun x=>if j=k then y else x
 | []=>rfl
 | p::r=>by
  have ih:=FJ k j y r;rw[zj]
  by_cases h:p.1=k
  ·rw[if_pos h]
   by_cases e:p.1=j
   ·rw[eR (p:=(p.1,y)) e,eR e,Option.map_some,if_pos (e.symm.trans h)]
   ·rw[eT (p:=(p.1,y)) e,eT e,ih]
  ·rw[if_neg h]
   by_cases e:p.1=j
   ·rw[eR (p:=p) e,eR e,Option.map_some,if_neg (fun z=>h (e.trans z))]
   ·rw[eT (p:=p) e,eT e,ih]
theorem CN (k j:κ) (y:V):∀kvs:List (κ×V),dm kvs k=none->dm (kvs++[(k,y)]) j=if j=k then some y else dm kvs j
 | [],_=>by
  by_cases e:k=j
  ·rw[if_pos e.symm];exact eR (p:=(k,y)) e
  ·rw[if_neg (fun z=>e z.symm)];exact eT (p:=(k,y)) e
 | p::r,hn=>by
  rw[List.cons_append];have hk:¬p.1=k:=fun z=>by rw[eR z] at hn;cases hn
  rw[eT hk] at hn;have ih:=CN k j y r hn
  by_cases e:p.1=j
  ·rw[eR e,eR e,if_neg (fun z=>hk (e.trans z))]
  ·rw[eT e,eT e,ih]
def xV (kvs:List (κ×V)) (k j:κ) (y:V):dm (putK kvs k y) j=if j=k then some y else dm kvs j:=by
 unfold putK
 by_cases a:(kvs.any fun kv=>decide (kv.1=k))=true
 ·rw[if_pos a,FJ]
  rw[oz] at a
  by_cases e:j=k
  ·obtain⟨x,hx⟩:=Option.isSome_iff_exists.mp a
   rw[if_pos e,e,hx,Option.map_some,if_pos rfl]
  ·rw[if_neg e]
   cases dm kvs j with
   | none=>rfl
   | some x=>rw[Option.map_some,if_neg e]
 ·rw[if_neg a]
  refine CN k j y kvs ?_;rw[oz] at a;cases q:dm kvs k with
  | none=>rfl
  | some x=>rw[q] at a;exact(a rfl).elim
def kI (kvs:List (κ×V)) (k:κ) (v:V):(putK kvs k v).length<=kvs.length+1:=by
 unfold putK;split
 ·rw[za];omega
 ·rw[zh,zv,List.length_nil];omega
def M0 {kvs:List (κ×V)} {k:κ} (v:V) (h:dm kvs k=none):putK kvs k v=kvs++[(k,v)]:=by
 unfold putK;rw[oz,h];exact if_neg ∅
def m8.lW (r:m8 o u):o.isSome=u.isSome:=by
 cases o with
 | none=>cases u with
  | none=>rfl
  | some _=>exact(show False from r).elim
 | some _=>cases u with
  | none=>exact(show False from r).elim
  | some _=>rfl
theorem m8.getD (r:m8 o u) (rd:RelV d d'):RelV (o.getD d) (u.getD d'):=by
 cases o with
 | none=>cases u with
  | none=>exact rd
  | some _=>exact(show False from r).elim
 | some _=>cases u with
  | none=>exact(show False from r).elim
  | some _=>exact r
def KV.val {kvs:List (κ×V)} {vs:List (κ×Value)} (r:KV kvs vs) (k:κ):m8 (dm kvs k) (valueAt vs k):=by
 unfold KV at r
 induction r with
 | nil=>exact True.intro
 | @cons p q ps qs h t ih=>
  obtain⟨h1,h2⟩:=h
  by_cases e:p.1=k
  ·have e':q.1=k:=h1.symm.trans e
   have b:valueAt (q::qs) k=some q.2:=by simp[valueAt,List.find?_cons,e']
   rw[eR e,b];exact h2
  ·have e':¬q.1=k:=fun z=>e (h1.trans z)
   have b:valueAt (q::qs) k=valueAt qs k:=by simp[valueAt,List.find?_cons,e']
   rw[eT e,b];exact ih
theorem KV.any (r:KV kvs vs) (k:κ):(kvs.any fun kv=>decide (kv.1=k))=vs.any fun kv=>decide (kv.1=k):=by
 unfold KV at r
 induction r with
 | nil=>rfl
 | cons h t ih=>rw[List.any_cons,List.any_cons,ih,h.1]
def KV.QQ (r:KV kvs vs) (k:κ) (ry:RelV y u) :
  KV (kvs.map fun kv=>if kv.1=k then(kv.1,y) else kv) (vs.map fun kv=>if kv.1=k then(kv.1,u) else kv):=by
 unfold KV at r ⊢
 induction r with
 | nil=>exact .nil
 | @cons p q ps qs h t ih=>
  rw[zj,zj];refine .cons ?_ ih;obtain⟨h1,h2⟩:=h
  by_cases e:p.1=k
  ·rw[if_pos e,if_pos (h1.symm.trans e)];exact⟨h1,ry⟩
  ·rw[if_neg e,if_neg (fun z=>e (h1.trans z))];exact⟨h1,h2⟩
def KV.put (r:KV kvs vs) (k:κ) (ry:RelV y u):KV (putK kvs k y) (stored vs k u):=by
 unfold putK stored;rw[r.any k]
 by_cases e:(vs.any fun kv=>decide (kv.1=k))=true
 ·rw[if_pos e,if_pos e];exact r.QQ k ry
 ·rw[if_neg e,if_neg e];exact Paired.snoc r ⟨rfl,ry⟩
theorem KV.length (r:KV kvs vs):kvs.length=vs.length:=Paired.length r
end
def C8 (r:RelV (kV k) u):(dr P w).is k u=true:=by
 cases k with
 | inl i=>obtain⟨t,e⟩:=(show∃t,u=Value.int i t from r);subst e;exact GU P w i t
 | inr x=>obtain⟨t,e⟩:=(show∃t,u=Value.str x t from r);subst e;exact wm P w x t
theorem C9:∀{ks:List Key} {us:List Value},Vals (ks.map kV) us->ItemsAre (dr P w) ks us
 | [],_,r=>by rw[yn] at r;cases r;exact .nil
 | k::ks,_,r=>by
  rw[zj] at r;cases r with
  | cons h t=>exact .cons (C8 h) (C9 t)
abbrev KT (H:Hp):List (List Key×V)->List (List Key×Addr×Value)->Prop:=Paired fun p q=>p.1=q.1/\H q.2.1=some (.tup (p.1.map kV))/\RelV p.2 q.2.2
def KT.val {H:Hp} {kvs:List (List Key×V)} {xs:List (List Key×Addr×Value)} (r:KT H kvs xs) (k:List Key):m8 (dm kvs k) ((atKey xs k).map (·.2)):=by
 induction r with
 | nil=>exact True.intro
 | @cons p q ps qs h t ih=>
  obtain⟨h1,_,h2⟩:=h
  by_cases e:p.1=k
  ·have e':q.1=k:=h1.symm.trans e
   have b:atKey (q::qs) k=some q.2:=by simp[atKey,List.find?_cons,e']
   rw[eR e,b];exact h2
  ·have e':¬q.1=k:=fun z=>e (h1.trans z)
   have b:atKey (q::qs) k=atKey qs k:=by simp[atKey,List.find?_cons,e']
   rw[eT e,b];exact ih
def KT.QQ (r:KT H kvs xs) (k:List Key) (ry:RelV y u) :
  KT H (kvs.map fun kv=>if kv.1=k then(kv.1,y) else kv) (xs.map (putAt k u)):=by
 induction r with
 | nil=>exact .nil
 | @cons p q ps qs h t ih=>
  rw[zj,zj];refine .cons ?_ ih;obtain⟨h1,h2,h3⟩:=h;unfold putAt
  by_cases e:p.1=k
  ·rw[if_pos e,if_pos (h1.symm.trans e)];exact⟨h1,h2,ry⟩
  ·rw[if_neg e,if_neg (fun z=>e (h1.trans z))];exact⟨h1,h2,h3⟩
def KT.put (r:KT H kvs xs) (k:List Key) (hb:H b=some (.tup (k.map kV))) (ry:RelV y u) :
  KT H (putK kvs k y) (storedH xs k b u):=by
 have e:(kvs.any fun kv=>decide (kv.1=k))=(atKey xs k).isSome:=by
  rw[oz,(r.val k).lW,Option.isSome_map]
 unfold putK storedH;rw[e]
 by_cases q:(atKey xs k).isSome=true
 ·rw[if_pos q,if_pos q];exact r.QQ k ry
 ·rw[if_neg q,if_neg q];exact Paired.snoc r ⟨rfl,hb,ry⟩
def KT.keeps (r:KT H kvs xs) (ht:∀b ys,H b=some (.tup ys)->H' b=some (.tup ys)):KT H' kvs xs:=
 Paired.Rc r fun _ _ z=>⟨z.1,ht _ _ z.2.1,z.2.2⟩
section
variable {P:Program} {w:World} {H:Hp} {h:Heap} {a:Addr}
def P1 (ok:si P w H h) (e:Rd H a u):cI P w H h a u:=e.ok ok
def wz (ok:si P w H h) (e:Rd H a (.dK kvs)):kvs.length<=sizeLine/\(a == sysModules)=false/\∃vs,KV kvs vs/\h.DictOf (dr P w) a vs:=
 show cI P w H h a (.dK kvs) from P1 ok e
def SU (ok:si P w H h) (e:H a=some (.dK kvs)):kvs.length<=sizeLine/\(a == sysModules)=false/\∃vs,KV kvs vs/\h.DictOf (dr P w) a vs:=wz ok (.inl e)
def vg (ok:si P w H h) (e:H a=some (.tup (ks.map kV))):(tupleKind (dr P w)).is h ks a:=by
 obtain⟨_,its,r,o,h1,h2,n,h3⟩:=(show cI P w H h a (.tup (ks.map kV)) from ok a _ e)
 exact⟨o,its.toArray,n,h1,h2,h3,by simpa using C9 r⟩
def AS (ok:si P w H h) (e:Rd H a (.dT kvs)):kvs.length<=sizeLine/\(a == sysModules)=false/\
  ∃xs,KT H kvs xs/\h.DictOfH (tupleKind (dr P w)) a xs:=by
 obtain⟨z,y,xs,r,o,es,ep,h1,h2,h3,h4,h5⟩:=(show cI P w H h a (.dT kvs) from P1 ok e)
 refine⟨z,y,xs,r,o,es,ep,h1,h2,h3,h4,fun x hx=>?_,h5⟩;have all:∀{l:List (List Key×V)} {m:List (List Key×Addr×Value)},KT H l m->∀x∈m,(tupleKind (dr P w)).is h x.1 x.2.1:=by
  intro l m q
  induction q with
  | nil=>intro x hx;exact nomatch hx
  | @cons p q ps qs hq t ih=>
   intro x hx;rcases zD.mp hx with e | hx
   ·subst e
    exact vg ok (by rw[<-hq.1];exact hq.2.1)
   ·exact ih x hx
 exact all r x hx
def SS (ok:si P w H h) (e:H a=some (.dT kvs)):kvs.length<=sizeLine/\(a == sysModules)=false/\
  ∃xs,KT H kvs xs/\h.DictOfH (tupleKind (dr P w)) a xs:=AS ok (.inl e)
end
def Fy (H:Hp) (a:Addr) (y:V) (r:Option V):Prop:=
 (∃kvs k,Rd H a (.dK kvs)/\y=kV k/\r=dm kvs k)\/∃kvs k b,Rd H a (.dT kvs)/\y=.ref b/\H b=some (.tup (k.map kV))/\r=dm kvs k
def Ta (H:Hp) (a:Addr) (y v:V) (H':Hp):Prop:=
 (∃kvs k,H a=some (.dK kvs)/\y=kV k/\kvs.length<sizeLine/\H'=upd H a (.dK (putK kvs k v)))\/
 ∃kvs k b,H a=some (.dT kvs)/\y=.ref b/\H b=some (.tup (k.map kV))/\kvs.length<sizeLine/\H'=upd H a (.dT (putK kvs k v))
section
variable {X:Cx} {pins:List (Addr×Obj)} {σ:St} {H:Hp} {s:Shared} {a:Addr} {y v:V} {u r:Value} {o:Option V} {A:Around} {E:Value->Shared->Prop}
def Inv.big (I:Inv X pins σ H s):sysModules<↑s:=by
 have h:mainGlobals<↑s:=(I.mod.glob.keeps I.bk).lt;exact Nat.lt_trans ∅ h
def LH (hu:A.units+1<cLine) (I:Inv X pins σ H s) (g:Fy H a y (some v)) (ry:RelV y u) (h:∀w' s',Inv X pins σ H s'->RelV v w'->Q w' s') :
  wpAny (model X.prog X.w) A (getItem (.ref a) u) Q E s:=by
 rcases g with⟨kvs,k,e,ey,l⟩ | ⟨kvs,k,b,e,ey,eb,l⟩
 ·subst ey
  obtain⟨z,hd,vs,rel,dd⟩:=wz I.cm e;obtain⟨w',hw,rw'⟩:=m8.some_of (v:=v) (o:=valueAt vs k) (by rw[l];exact rel.val k);exact wpAny_getItem_of (C8 ry) dd.mapOf hw (h w' _ (I.tok _) rw')
 ·subst ey
  cases(show u=Value.ref b from ry);obtain⟨z,hd,xs,rel,dd⟩:=AS I.cm e;obtain⟨w',hw,rw'⟩:=m8.some_of (v:=v) (o:=(atKey xs k).map (·.2)) (by rw[l];exact rel.val k);obtain⟨p,hp,hp2⟩:=Option.map_eq_some_iff.mp hw;refine wpAny_getItem_heap (tupleKind_room_in1 hu) (vg I.cm eb) dd hp ?_;rw[hp2];exact h w' _ (I.tok _) rw'
def UI (hu:A.units+1<cLine) (I:Inv X pins σ H s) (g:Fy H a y o) (ry:RelV y u) (h:∀s',Inv X pins σ H s'->Q (.bool o.isSome) s') :
  wpAny (model X.prog X.w) A (compareOp .In u (.ref a)) Q E s:=by
 rcases g with⟨kvs,k,e,ey,l⟩ | ⟨kvs,k,b,e,ey,eb,l⟩
 ·subst ey
  obtain⟨z,hd,vs,rel,dd⟩:=wz I.cm e;refine wpAny_in_of (C8 ry) hd dd.mapOf ?_;rw[<-(rel.val k).lW,<-l];exact h _ (I.tok _)
 ·subst ey
  cases(show u=Value.ref b from ry);obtain⟨z,hd,xs,rel,dd⟩:=AS I.cm e;refine wpAny_in_heap (tupleKind_room_in1 hu) (vg I.cm eb) hd dd ?_;have q:=(rel.val k).lW;rw[Option.isSome_map] at q;rw[<-q,<-l];exact h _ (I.tok _)
def Pu (hu:A.units+1<cLine) (I:Inv X pins σ H s) (g:Fy H a y o) (ry:RelV y u) (h:∀s',Inv X pins σ H s'->Q (.bool (!o.isSome)) s') :
  wpAny (model X.prog X.w) A (compareOp .NotIn u (.ref a)) Q E s:=by
 rcases g with⟨kvs,k,e,ey,l⟩ | ⟨kvs,k,b,e,ey,eb,l⟩
 ·subst ey
  obtain⟨z,hd,vs,rel,dd⟩:=wz I.cm e;refine wpAny_notIn_of (C8 ry) hd dd.mapOf ?_;rw[<-(rel.val k).lW,<-l];exact h _ (I.tok _)
 ·subst ey
  cases(show u=Value.ref b from ry);obtain⟨z,hd,xs,rel,dd⟩:=AS I.cm e;refine wpAny_notIn_heap (tupleKind_room_in1 hu) (vg I.cm eb) hd dd ?_;have q:=(rel.val k).lW;rw[Option.isSome_map] at q;rw[<-q,<-l];exact h _ (I.tok _)
def Ko (I:Inv X pins σ H s) (mu:S6 (H a)) (hs:Heap.SameBut a s.heap h') (he:∃q,h'.get? a=some q) (new:cI X.prog X.w (upd H a ob) h' a ob) :
  Inv X pins σ (upd H a ob) {s with heap:=h',toks:=t'}:=
 I.write (x:=a) (e:=a) mu (.inl rfl) (fun b q hb z=>(hs.2 b hb).trans z) he new
def RD (z:kvs.length<=sizeLine) (hd:(a == sysModules)=false) (rel:KV kvs vs) (dd:h'.DictOf (dr P w) a vs) :
  cI P w H' h' a (.dK kvs):=⟨z,hd,vs,rel,dd⟩
def LG (hu:A.units+1<cLine) (I:Inv X pins σ H s) (g:Ta H a y v H') (ry:RelV y u) (rv:RelV v r) (h:∀s',Inv X pins σ H' s'->Q () s') :
  wpAny (model X.prog X.w) A (setItem (.ref a) u r) Q E s:=by
 rcases g with⟨kvs,k,e,ey,l,eH⟩ | ⟨kvs,k,b,e,ey,eb,l,eH⟩
 ·subst ey eH
  obtain⟨z,hd,vs,rel,dd⟩:=SU I.cm e;have hz:vs.length<=sizeLine:=by rw[<-rel.length];exact z
  have hl:(putK kvs k v).length<=sizeLine:=by have:=kI kvs k v;omega
  refine wpAny_setItem_pairs (hsz:=hz) (C8 ry) dd fun h' dd' hs=>h _ ?_;have he:∃q,h'.get? a=some q:=let ⟨q,_,_,hq,_⟩:=dd';⟨q,hq⟩;exact Ko I (by rw[e];exact True.intro) hs he (RD hl hd (rel.put k rv) dd')
 ·subst ey eH
  cases(show u=Value.ref b from ry);obtain⟨z,hd,xs,rel,dd⟩:=SS I.cm e;have hz:xs.length<=sizeLine:=by rw[<-Paired.length rel];exact z
  have hl:(putK kvs k v).length<=sizeLine:=by have:=kI kvs k v;omega
  refine wpAny_setItem_heap (hsz:=hz) (tupleKind_room_in1 hu) (vg I.cm eb) dd fun h' dd' hs=>h _ ?_;obtain⟨q,es,ep,hq,h2,h3,h4,_,h5⟩:=dd';refine Ko I (by rw[e];exact True.intro) hs ⟨q,hq⟩ ⟨hl,hd,_,(rel.put k eb rv).keeps fun c ys ec=>?_,q,es,ep,hq,h2,h3,h4,h5⟩;rw[aH (bq ec e (fun z=>nomatch z))];exact ec
end
section
variable {X:Cx} {pins:List (Addr×Obj)} {σ:St} {H:Hp} {s:Shared} {a:Addr} {kvs:List (Key×V)} {k:Key} {u:Value} {A:Around} {E:Value->Shared->Prop}
def SW (I:Inv X pins σ H s) (e:Rd H a (.dK kvs)) (h:∀t s',Inv X pins σ H s'->Q (.int kvs.length t) s'):wpAny (model X.prog X.w) A (call (.builtin "len") [.ref a]) Q E s:=by
 obtain⟨z,hd,vs,rel,dd⟩:=wz I.cm e;refine call_len_dict hd dd (by rw[<-rel.length];rw[yC] at z;omega) ?_;rw[<-rel.length];exact h _ _ (I.tok _)
end
def RN (i:Expr):Prop:=∀ov iv,subscripted i false ov iv=operate [ov,iv] (getItem ov iv)
def J0 {prog:Program} {w:World} {A:Around} {E:Value->Shared->Prop} {s:Shared} {env:Env} {value slice:Expr} {pos:Pos} {T id:String} {Q:Value->Shared->Prop}
  (hl:typeLookup (.type T) "__getitem__"= pure (some (.builtin id))) (hs:RN slice)
  (h:wpAny (model prog w) A (eval value env) (fun o s₁=>wpAny (model prog w) A (eval slice env) (fun i s₂=>s₂.TypeIs o T/\wpAny (model prog w) A (getItem o i) Q E s₂) E s₁) E s) :
  wpAny (model prog w) A (eval (.Subscript value slice pos) env) Q E s:=by
 refine Subscript_ (wpAny_mono h (fun o s₁ h₁=>wpAny_mono h₁ (fun i s₂ h₂=>?_) fun _ _ x=>x) fun _ _ x=>x);obtain⟨hT,h₂⟩:=h₂;unfold subscriptTail;refine yu ?_;rw[getitemInPython_of_ne hT.not_modules];refine yu (wpAny_specialOf hT hl ?_);have fin:wpAny (model prog w) A (subscripted slice false o i) (fun r s₃=>wpAny (model prog w) A (letTemporaryGo value o r >>= fun _=>pure r) Q E s₃) E s₂:=by
  rw[hs o i];exact wpAny_operating (wpAny_mono h₂ (fun r s₃ h₃=>yu (wpAny_letTemporaryGo (yw h₃))) fun _ _ x=>x)
 first
  | exact yw (yu fin)
  | exact yu (yw (yu fin))
  | exact yu fin
def Hl (I:Inv X pins σ H s) (g:Fy H a y o):s.TypeIs (.ref a) "dict":=by
 rcases g with⟨kvs,k,e,_,_⟩ | ⟨kvs,k,b,e,_,_,_⟩
 ·obtain⟨_,_,vs,_,dd⟩:=wz I.cm e
  exact dd.typeIs
 ·obtain⟨_,_,xs,_,dd⟩:=AS I.cm e
  exact dd.typeIs
def Sf (td ty:TE):TE:=fun σ H Q=>td σ H fun x H1=>ty σ H1 fun y H2=>∃a v,x=.ref a/\Fy H2 a y (some v)/\Q v H2
def Ug (ty td:TE):TE:=fun σ H Q=>ty σ H fun y H1=>td σ H1 fun x H2=>∃a o,x=.ref a/\Fy H2 a y o/\Q (.bl o.isSome) H2
def OG (ty td:TE):TE:=fun σ H Q=>ty σ H fun y H1=>td σ H1 fun x H2=>∃a o,x=.ref a/\Fy H2 a y o/\Q (.bl (!o.isSome)) H2
def Sk (td ty tv:TE):TS:=fun D σ H=>tv σ H fun v H1=>td σ H1 fun x H2=>ty σ H2 fun y H3=>∃a H4,x=.ref a/\Ta H3 a y v H4/\D.nx σ H4
section
variable {X:Cx} {o i e value:Expr} {pos pos' tpos:Pos} {td ty tv:TE}
def Ej (hu:X.A.units+1<cLine) (ho:PE X o td) (hi:PE X i ty) (hs:RN i):PE X (.Subscript o i pos) (Sf td ty):=by
 intro pins s σ H Q I h;refine J0 PySem.F.slot_dict_getitem.lookup hs (dh (ho pins s σ H _ I h) fun u s1 ⟨x,H1,I1,rx,q1⟩=>dh (hi pins s1 σ H1 _ I1 q1) fun iv s2 zz=>?_);obtain⟨y,H2,I2,ry,a,v,ex,g,q2⟩:=zz;subst ex;obtain rfl:u=Value.ref a:=rx;exact⟨Hl I2 g,LH hu I2 g ry fun w' s3 I3 rw'=>⟨v,H2,I3,rw',q2⟩⟩
def Ek (hu:X.A.units+1<cLine) (hi:PE X i ty) (ho:PE X o td):PC X .In i o (Ug ty td):=by
 intro pins s σ H Q I h;refine dh (hi pins s σ H _ I h) fun iv s1 ⟨y,H1,I1,ry,q1⟩=>dh (ho pins s1 σ H1 _ I1 q1) fun u s2 zz=>?_;obtain⟨x,H2,I2,rx,a,ov,ex,g,q2⟩:=zz;subst ex;obtain rfl:u=Value.ref a:=rx;exact UI hu I2 g ry fun s3 I3=>⟨.bl ov.isSome,H2,I3,rfl,q2⟩
def C0 (hu:X.A.units+1<cLine) (hi:PE X i ty) (ho:PE X o td):PC X .NotIn i o (OG ty td):=by
 intro pins s σ H Q I h;refine dh (hi pins s σ H _ I h) fun iv s1 ⟨y,H1,I1,ry,q1⟩=>dh (ho pins s1 σ H1 _ I1 q1) fun u s2 zz=>?_;obtain⟨x,H2,I2,rx,a,ov,ex,g,q2⟩:=zz;subst ex;obtain rfl:u=Value.ref a:=rx;exact Pu hu I2 g ry fun s3 I3=>⟨.bl (!ov.isSome),H2,I3,rfl,q2⟩
def pL (hu:X.A.units+1<cLine) (ho:PE X o td) (hi:PE X i ty) (hv:PE X value tv) (hs:swapsWith value (some (.Subscript o i pos')) pos.line X.env=pure false) :
  PS X (.Assign [.Subscript o i pos'] value pos) (Sk td ty tv):=by
 intro pins s σ H D I h;refine wpAny_Assign_Subscript (dh (hv pins s σ H _ I h) fun r s1 ⟨v,H1,I1,rv,q1⟩=>dh (ho pins s1 σ H1 _ I1 q1) fun u s2 ⟨x,H2,I2,rx,q2⟩=>dh (hi pins s2 σ H2 _ I2 q2) fun iv s3 ⟨y,H3,I3,ry,a,H4,ex,g,q3⟩=>?_) hs;subst ex;obtain rfl:u=Value.ref a:=rx;exact LG hu I3 g ry rv fun s4 I4=>⟨σ,H4,I4,q3⟩
end
def NV (h:Heap) (hb:sysModules<h.objs.size):cI P w H (h.push {cls:=.type "dict",data:=.dict #[]}) h.objs.size (.dK []):=
 ⟨yg _,beq_eq_false_iff_ne.mpr (Ne.symm (yj hb)),[],.nil,Heap.DictOf.new h⟩
def NT (h:Heap) (hb:sysModules<h.objs.size):cI P w H (h.push {cls:=.type "dict",data:=.dict #[]}) h.objs.size (.dT []):=
 ⟨yg _,beq_eq_false_iff_ne.mpr (Ne.symm (yj hb)),[],.nil,_,#[],0,yx _ rfl,⟨rfl,rfl,rfl⟩,rfl,rfl,List.nodup_nil⟩
def QG:TE:=fun _ H Q=>∀p,H p=none->Q (.ref p) (upd H p (.dK []))
def QF:TE:=fun _ H Q=>∀p,H p=none->Q (.ref p) (upd H p (.dT []))
section
variable {X:Cx} {pos:Pos}
def o9:PE X (.Dict [] [] pos) QG:=fun pins s σ H Q I h=>
 wpAny_Dict_empty ⟨.ref ↑s,_,I.laid (a:=↑s) (o:=.dK []) (t':=s.toks) (fun _ _ q=>yv _ q) (zm _) (NV s.heap I.big),rfl,h _ (I.cm.fresh (zm _))⟩
def Nf:PE X (.Dict [] [] pos) QF:=fun pins s σ H Q I h=>
 wpAny_Dict_empty ⟨.ref ↑s,_,I.laid (a:=↑s) (o:=.dT []) (t':=s.toks) (fun _ _ q=>yv _ q) (zm _) (NT s.heap I.big),rfl,h _ (I.cm.fresh (zm _))⟩
end
structure M2 (X:Cx) (o:Expr) (m:Str) (apos:Pos) (e f:Expr) (cpos:Pos):Prop where
 base:attributeBase o m X.env (eval o X.env)=eval o X.env
 U8:((backTo cpos (starEach [e,f] X.env)).all (fun x=>!x.1)&&(backToKw cpos (keywordEach [] X.env)).all (fun x=>x.1.isSome)
  &&decide (([e,f]:List Expr).length+([]:List Keyword).length+(if([]:List Keyword).isEmpty then 0 else 1)<30))=true
 line:(apos.endLine == cpos.line)=true
 trees:backTo cpos (starEach [e,f] X.env)=[(false,eval e X.env),(false,eval f X.env)]
def UY (H:Hp) (a:Addr):Prop:=(∃kvs,Rd H a (.dK kvs))\/∃kvs,Rd H a (.dT kvs)
def Rp (I:Inv X pins σ H s) (d:UY H a) :
  s.TypeIs (.ref a) "dict"/\(∀b,Value.ref a=.ref b->∃ob,s.heap.get? b=some ob/\ob.dict=none)/\(a == sysModules)=false:=by
 rcases d with⟨kvs,e⟩ | ⟨kvs,e⟩
 ·obtain⟨_,hd,vs,_,dd⟩:=wz I.cm e
  refine⟨dd.typeIs,fun b q=>?_,hd⟩;cases q;obtain⟨ob,_,_,h1,h2,_⟩:=dd;exact⟨ob,h1,h2.2.1⟩
 ·obtain⟨_,hd,xs,_,dd⟩:=AS I.cm e
  refine⟨dd.typeIs,fun b q=>?_,hd⟩;cases q;obtain⟨ob,_,_,h1,h2,_⟩:=dd;exact⟨ob,h1,h2.2.1⟩
section
variable {X:Cx} {pins:List (Addr×Obj)} {σ:St} {H:Hp} {s:Shared} {a:Addr} {y d:V} {u r:Value} {o:Option V} {A:Around} {E:Value->Shared->Prop}
def RE (hu:A.units+1<cLine) (I:Inv X pins σ H s) (g:Fy H a y o) (ry:RelV y u) (rd:RelV d r) (h:∀w' s',Inv X pins σ H s'->RelV (o.getD d) w'->Q w' s') :
  wpAny (model X.prog X.w) A (call (.builtin "dict.get") [.ref a,u,r]) Q E s:=by
 rcases g with⟨kvs,k,e,ey,l⟩ | ⟨kvs,k,b,e,ey,eb,l⟩
 ·subst ey
  obtain⟨z,hd,vs,rel,dd⟩:=wz I.cm e;refine call_meetsIn PySem.F.slot_dict_get dd.typeIs PySem.F.entry_dict_get (PySem.F.args_dict_get_3 _ _ _) (meets_dict_get_default (dr X.prog X.w) a (C8 ry) hd r) ⟨_,dd.mapOf,h _ _ (I.tok _) ?_⟩;rw[l];exact(rel.val k).getD rd
 ·subst ey
  cases(show u=Value.ref b from ry);obtain⟨z,hd,xs,rel,dd⟩:=AS I.cm e;refine call_meetsIn PySem.F.slot_dict_get dd.typeIs PySem.F.entry_dict_get (PySem.F.args_dict_get_3 _ _ _) (meetsH_dict_get_default (tupleKind (dr X.prog X.w)) a b hd r) ⟨tupleKind_room_in1 hu,k,xs,vg I.cm eb,dd,h _ _ (I.tok _) ?_⟩;rw[l];exact(rel.val k).getD rd
end
def QI (td ty tx:TE):TE:=fun σ H Q=>td σ H fun x H1=>∃a,x=.ref a/\UY H1 a/\ty σ H1 fun y H2=>tx σ H2 fun z H3=>∃o,Fy H3 a y o/\Q (o.getD z) H3
section
variable {X:Cx} {o e f:Expr} {apos cpos:Pos} {td ty tx:TE}
def Gu (hu:X.A.units+1<cLine) (ho:PE X o td) (he:PE X e ty) (hf:PE X f tx) (m:M2 X o "get" apos e f cpos):PE X (.Call (.Attribute o "get" apos) [e,f] [] cpos) (QI td ty tx):=by
 intro pins s σ H Q I h;refine wpAny_Call_method m.base m.U8 m.line PySem.F.plainAttrs_dict PySem.F.slot_dict_get PySem.F.type_dict_get (dh (ho pins s σ H _ I h) fun u s1 zz=>?_);obtain⟨x,H1,I1,rx,a,ex,d,q1⟩:=zz;subst ex;obtain rfl:u=Value.ref a:=rx;obtain⟨t1,t2,_⟩:=Rp I1 d;refine⟨t1,t2,?_⟩;rw[m.trees];refine Calls.callWith_builtin rfl (Calls.evalArgs_plain (Calls.spliced_cons (dh (he pins s1 σ H1 _ I1 q1) fun iv s2 ⟨y,H2,I2,ry,q2⟩=>
  Calls.spliced_cons (dh (hf pins s2 σ H2 _ I2 q2) fun fv s3 ⟨z,H3,I3,rz,ov,g,q3⟩=>Calls.spliced_nil ?_))))
 exact RE hu I3 g ry rz fun w' s4 I4 rw'=>⟨_,H3,I4,rw',q3⟩
end
section
variable {X:Cx} {pins:List (Addr×Obj)} {σ:St} {H:Hp} {s:Shared} {a:Addr} {kvs:List (Key×V)} {A:Around} {E:Value->Shared->Prop}
end
section
variable {X:Cx} {pins:List (Addr×Obj)} {σ:St} {H:Hp} {s:Shared} {a:Addr} {y:V} {u:Value} {A:Around} {E:Value->Shared->Prop}
end
end L2
namespace L2
open PySem PySem.Spec PyProof.Rows
section
variable {κ:Type} [DecidableEq κ]
end
end L2
namespace L2
open PySem PySem.Spec PyProof.Rows
def dR (σ₀:St) (g:TG) (tc:TT) (te:TE) (Q:VK) (J:It) (H1:Hp):Prop:=∃W:Nat->Nat->List V->St->Hp->Prop,(∃m,W 0 m [] σ₀ H1)/\∀i m xs σ' H',W i m xs σ' H'->
 (J.stop i H'/\xs.length<=sizeLine/\∀D,H' D=none->Q (.ref D) (upd H' D (.lst xs)))\/
 (J.go i H'/\xs.length<sizeLine/\∀x H2,J.KI i H' x H2->g x σ' H2 fun σ3 H3=>tc σ3 H3 fun b H4=>if b=true then te σ3 H4 fun y H5=>∃m',m'<m/\W (i+1) m' (xs++[y]) σ3 H5 else∃m',m'<m/\W (i+1) m' xs σ3 H4)
def cY (X:Cx) (N:List Str) (scope:Scope) (cl:List (Str×Addr)) (C:Addr) (s₀:Shared) (H₀:Hp) (ex:List Addr):Cx:=
 {X with N:=N,s₀:=s₀,H₀:=H₀,env:=compEnvC scope (cellsFrom (C+1) scope.names cl) C X.env,outer:=X.stack,stack:=X.stack,ex:=ex,fn:=fun x=>((cellsFrom (C+1) scope.names []).lookup x).isSome,pn:=[],xe:=fun _ _=>False}
def oB (fr:List (Option Nat)) (wi:TI) (g:TG) (tc:TT) (te:TE):TE:=fun σ H Q=>wi σ H fun J H1=>dR (fr.map fun o=>o.bind fun j=>(σ[j]?).join) g tc te Q J H1
def PH (X:Cx) (ifs:List Expr) (tc:TT):Prop:=∀(pins:List (Addr×Obj)) (s:Shared) (σ:St) (H:Hp) (Q:Bool->Hp->Prop),Inv X pins σ H s->tc σ H Q->
 wpAny (model X.prog X.w) X.A (forIn ifs true fun c r=>if r=true then do let ok <-isTrue c X.env (eval c X.env);pure (ForInStep.yield ok) else pure (ForInStep.yield r)) (TP X pins σ Q) X.xe s
def wH:TT:=fun _ H Q=>Q true H
def bD:PH X [] wH:=fun _ _ _ H _ I h=>wpAny_tests_nil ⟨H,I,h⟩
def g9 (h:PT X c tc):PH X [c] tc:=fun pins s σ H Q I q=>wpAny_tests_one (h pins s σ H Q I q)
theorem dw:∀(names:List (Str×NameKind)) (n:Nat) (acc:List (Str×Addr)),cellsFrom n names acc=cellsFrom n names []++acc
 | [],_,_=>rfl
 | (x,k)::r,n,acc=>by
  unfold cellsFrom;split
  ·rw[dw r (n+1) ((x,n)::acc),dw r (n+1) [(x,n)],zF];rfl
  ·exact dw r n acc
def O5 {h:Heap} {lo:Nat} {cs:List (Str×Addr)} (ok:CellsOk h lo cs) {x y:Str} {c:Addr} (e:cs.lookup x=some c) (e':cs.lookup y=some c):x=y:=by
 have key:∀(l:List (Str×Addr)),l.Pairwise (fun x y=>x.2≠y.2)->(x,c)∈l->(y,c)∈l->x=y:=by
  intro l
  induction l with
  | nil=>intro _ h;cases h
  | cons p r ih=>
   intro hp h1 h2;rw[List.pairwise_cons] at hp;rcases zD.mp h1 with h1 | h1
   ·rcases zD.mp h2 with h2 | h2
    ·rw[<-h1] at h2;exact(Prod.mk.inj h2).1.symm
    ·exact absurd rfl (by have:=hp.1 _ h2;rw[<-h1] at this;exact this)
   ·rcases zD.mp h2 with h2 | h2
    ·exact absurd rfl (by have:=hp.1 _ h1;rw[<-h2] at this;exact this)
    ·exact ih hp.2 h1 h2
 exact key cs ok.apart (mem_of_lookup e) (mem_of_lookup e')
def EA
  (hQ:∀g1:Heap,g1.Ns ↑s (fun _=>none)->(∀b o,s.heap.get? b=some o->g1.get? b=some o)->CellsOk g1 (↑s+1) (cellsFrom (↑s+1) scope.names [])->
   Q (newEnv scope ↑s globals (cellsFrom (↑s+1) scope.names cl) qual none .none (some outer) builtinsNs) {s with heap:=g1}) :
  wpAny M A (newFunctionEnv scope globals cl [] qual none .none (some outer)) Q E s:=by
 simp only[newFunctionEnv,Option.isSome_some,if_true];refine yu (wpAny_alloc ?_);refine yu (wpAny_layCells _ (fun name kind cells=>by cases hkc:kind == NameKind.cell <;> simp[hkc]) _ _ _ _ ?_);have ok:=cellsFrom_ok scope.names (s.heap.push {cls:=.type "dict",data:=.dict #[]}) (↑s+1) [] ⟨fun _ _ hm=>(nomatch hm),List.Pairwise.nil⟩ (by rw[Heap.size_push];exact zm _);rw[Heap.size_push] at ok;rw[show({s with heap:=s.heap.push {cls:=.type "dict",data:=.dict #[]}}:Shared).heap.objs.size=↑s+1 from Heap.size_push ..];exact yu (yw (yw (hQ _ ((Heap.Ns.new s.heap (.type "dict")).keeps (pushCells_keeps _ _)) (fun b o e=>pushCells_keeps _ _ b o (yv _ e)) ok)))
def Ju (I:Nat->Shared->Prop)
  (turn:∀n s,I n s->wpAny (model prog w) A (pyNext it) (fun r s1=>match r with
   | none=>R (.ok .next) s1
   | some v=>wpAny (model prog w) A (letOwnedTupleGo target it v) (fun _ s2=>wpAny (model prog w) A (assign target env v) (fun _ s3=>
     wpAny (model prog w) A (forIn ifs true fun c r=>if r=true then do let ok <-isTrue c env (eval c env);pure (ForInStep.yield ok) else pure (ForInStep.yield r)) (fun ok s3'=>if ok=true then wpAny (model prog w) A (eval elt env) (fun x s4=>
     wpAny (model prog w) A (call (.builtin "list.append") [acc,x]) (fun _ s5=>∃m,m<n/\I m s5) (fun _ _=>False) s4) (fun _ _=>False) s3' else∃m,m<n/\I m s3') (fun _ _=>False) s3) (fun _ _=>False) s2) (fun _ _=>False) s1) (fun _ _=>False) s)
  (n:Nat) (h:I n s):codeAny (model prog w) A (.compLoop (.ListComp elt [⟨target,iter,ifs,0⟩] scope pos) 0 it acc env) R s:=by
 refine codeAny_loop rfl I (fun n s hI=>?_) n h;show wpAny _ _ ((compTurn (.ListComp elt [⟨target,iter,ifs,0⟩] scope pos) 0 it acc env).onRaise (fun x=>do noteFrame x env;theTreesLotGoes x)) _ _ s;refine wpAny_noted ?_;rw[compTurn_list];have no:∀(E:Value->Shared->Prop) (x:Value) (s':Shared),False->E x s':=fun _ _ _ f=>f.elim;refine yu (wpAny_standAt (yu (wpAny_mono (turn n s hI) (fun r s1 h1=>?_) (no _))));cases r with
 | none=>exact yw h1
 | some v=>
  refine yu (wpAny_mono h1 (fun _ s2 h2=>yu (wpAny_mono h2 (fun _ s3 h3=>yu (wpAny_mono h3 (fun ok s3' h3'=>?_) (no _))) (no _))) (no _));cases ok with
  | false=>
   rw[if_neg ∅] at h3';exact yw ⟨rfl,h3'⟩
  | true=>
   rw[if_pos rfl] at h3';exact yu (yu (wpAny_mono h3' (fun x s4 h4=>yu (wpAny_mono h4 (fun _ s5 h5=>yw (yw ⟨rfl,h5⟩)) (no _))) (no _)))
section
variable {X:Cx} {pos:Pos}
def Ba {elt target iter:Expr} {scope:Scope} {N:List Str} {fr:List (Option Nat)} {cl:List (Str×Addr)} {g:TG} {tc:TT} {te:TE} {ifs:List Expr} (hc:X.calm=true) (hsub:∀x c,cl.lookup x=some c->X.env.cells.lookup x=some c) (hhas:∀C x,((compEnvC scope cl C X.env).kindOf x=some .cell\/(compEnvC scope cl C X.env).kindOf x=some .free)->(∃c,cl.lookup x=some c)\/∃c,(cellsFrom (C+1) scope.names []).lookup x=some c)
  (hlen:fr.length=N.length) (hfr:∀(i:Nat) x j,N[i]?=some x->fr[i]?=some (some j)->X.N[j]?=some x/\RI X.env.scope x/\X.env.kindOf x≠some .local/\(∀C,(compEnvC scope cl C X.env).kindOf x=some .cell\/(compEnvC scope cl C X.env).kindOf x=some .free)/\(∀c,X.env.cells.lookup x=some c->cl.lookup x=some c)/\∀C,(cellsFrom (C+1) scope.names []).lookup x=none) (hkind:scope.kind=.function)
  (hg:∀C s₀ H₀ ex,PG (cY X N scope cl C s₀ H₀ ex) target g) (hif:∀C s₀ H₀ ex,PH (cY X N scope cl C s₀ H₀ ex) ifs tc) (he:∀C s₀ H₀ ex,PE (cY X N scope cl C s₀ H₀ ex) elt te)
  {pins:List (Addr×Obj)} {σ:St} {s2:Shared} {it:Addr} {fp:List Addr} {tn:Nat->Heap->Prop} {J:It} {H2:Hp} {Q:VK} {RR:Value->Addr->Result->Shared->Prop} (I2:Inv X pins σ H2 s2) (T:Turn X.prog X.w X.K target J fp it tn) (st2:tn 0 s2.heap) (f2:∀b∈fp,sj X pins H2 b)
  (ok:dR (fr.map fun o=>o.bind fun j=>(σ[j]?).join) g tc te Q J H2)
  (fin:∀D C s4 H' xs,↑s2<=D->↑s2<=C->C≠D->Inv X pins σ (upd H' D (.lst xs)) s4->H' D=none->H' C=none->(∃m,s4.heap.Ns C m)->(∀D,H' D=none->Q (.ref D) (upd H' D (.lst xs)))->RR (.ref D) C (.ok .next) s4) :
  wpAny (model X.prog X.w) X.A (newList []) (fun acc s3=>wpAny (model X.prog X.w) X.A (newFunctionEnv scope X.env.globals cl [] X.env.qual none .none (some X.env)) (fun cenv s4=>
   codeAny (model X.prog X.w) X.A (.compStart (.ListComp elt [⟨target,iter,ifs,0⟩] scope pos) 0 (.ref it) acc {cenv with scope:=relabel scope X.env}) (RR acc cenv.locals) s4) X.xe s3) X.xe s2:=by
 obtain⟨W,⟨m0,w0⟩,turn⟩:=ok;refine wpAny_newObj_type (EA fun g1 hns hold hown=>?_);dsimp only at hns hold hown ⊢;generalize hG:s2.heap.push {cls:=.type "list",dict:=none,data:=.seq ([]:List Value).toArray}=G2 at hns hold hown ⊢;have hC:G2.objs.size=↑s2+1:=by rw[<-hG,Heap.size_push]
 have below:∀b,b<↑s2->b≠G2.objs.size/\b≠↑s2:=fun b hb=>⟨by rw[hC];exact yj (Nat.lt_succ_of_lt hb),yj hb⟩
 have hDC:↑s2≠G2.objs.size:=by rw[hC];exact yj (Nat.lt_succ_self _)
 have old:∀b o,s2.heap.get? b=some o->g1.get? b=some o:=fun b o e=>hold b o (hG▸yv _ e);have hacc:g1.get? ↑s2=some {cls:=.type "list",data:=.seq ([]:List Value).toArray 0}:=hold _ _ (hG▸yx _ rfl);have hsC:↑s2<G2.objs.size:=by rw[hC];exact Nat.lt_succ_self _
 have csl:∀x c,(cellsFrom (G2.objs.size+1) scope.names cl).lookup x=some c->((cellsFrom (G2.objs.size+1) scope.names []).lookup x=some c/\G2.objs.size<c/\g1.IsCell c none)\/((cellsFrom (G2.objs.size+1) scope.names []).lookup x=none/\cl.lookup x=some c/\X.env.cells.lookup x=some c/\c<↑s2):=fun x c e=>by
  rw[dw,List.lookup_append] at e;cases q:(cellsFrom (G2.objs.size+1) scope.names []).lookup x with
  | some d=>
   rw[q] at e;cases e;obtain⟨z1,z2⟩:=hown.empty x _ (mem_of_lookup q);exact .inl ⟨rfl,z2,z1⟩
  | none=>
   rw[q] at e;obtain⟨v,z⟩:=I2.cell x c (hsub x c e);exact .inr ⟨rfl,e,hsub x c e,z.lt⟩
 have fplt:∀b∈fp,b<↑s2:=fun b hb=>let ⟨o,e,_⟩:=T.obj _ _ st2 b hb;yy e;have Ot:∀b∈fp,∀x c,(cellsFrom (G2.objs.size+1) scope.names cl).lookup x=some c->c≠b:=fun b hb x c e=>by
  rcases csl x c e with⟨_,l,_⟩ | ⟨_,_,z,_⟩
  ·exact yi (Nat.lt_trans (fplt b hb) (Nat.lt_trans hsC l))
  ·exact(f2 b hb).2.2.2.2.1 x c z
 let Y:Cx:=cY X N scope cl G2.objs.size s2 H2 fp
 have okY:Y.Ok:=by
  refine⟨I2.ok.mod,hkind,I2.ok.glob,I2.ok.blt,?_,fun x y c e e'=>?_,fun x hx=>?_,fun x c hf e=>?_,I2.ok.hd,I2.ok.frames,.inl rfl,fun b hb=>⟨(below b (fplt b hb)).1,fun x c e=>Ot b hb x c e⟩,I2.bs,zM I2.ok.L9 I2.sz,fun b o e hb=>?_,fun b hb hf=>?_,I2.stack,I2.su⟩
  ·show ↑s2<=G2.objs.size
   rw[hC];exact Nat.le_succ _
  ·rcases csl x c e with⟨q,l,_⟩ | ⟨_,q,z,l⟩
   ·rcases csl y c e' with⟨q',l',_⟩ | ⟨_,q',z',l'⟩
    ·exact O5 hown q q'
    ·exact absurd (Nat.lt_trans (Nat.lt_trans hsC l) l') (yf _)
   ·rcases csl y c e' with⟨q',l',_⟩ | ⟨_,q',z',l'⟩
    ·exact absurd (Nat.lt_trans (Nat.lt_trans hsC l') l) (yf _)
    ·exact I2.ok.inj x y c z z'
  ·show∃c,(cellsFrom (G2.objs.size+1) scope.names cl).lookup x=some c
   rw[dw,List.lookup_append];rcases hhas G2.objs.size x hx with⟨c,e⟩ | ⟨c,e⟩
   ·rw[e];cases(cellsFrom (G2.objs.size+1) scope.names []).lookup x with
    | none=>exact⟨c,rfl⟩
    | some d=>exact⟨d,rfl⟩
   ·rw[e];exact⟨c,rfl⟩
  ·have hf':((cellsFrom (G2.objs.size+1) scope.names []).lookup x).isSome=true:=hf
   rcases csl x c e with⟨q,l,_⟩ | ⟨q,_⟩
   ·exact yh (Nat.lt_trans hsC l)
   ·rw[q] at hf';cases hf'
  ·rcases(f2 b hb).2.2.2.1 with z | z
   ·exact I2.ok.xg b o e z
   ·exact absurd (yc (yy e) (zM I2.ok.L9 z)) (yf _)
  ·rcases zD.mp (I2.DL b hf) with z | z
   ·exact(f2 b hb).2.1 z
   ·exact(f2 b hb).2.2.1 z
 have cl2:∀x c,(cellsFrom (G2.objs.size+1) scope.names cl).lookup x=some c->(∃v,g1.IsCell c v)/\H2 c=none/\c≠↑s2:=fun x c e=>by
  rcases csl x c e with⟨_,l,z⟩ | ⟨_,_,z,l⟩
  ·exact⟨⟨_,z⟩,I2.cm.fresh (yh (Nat.lt_trans hsC l)),yi (Nat.lt_trans hsC l)⟩
  ·obtain⟨v,oc,hoc,hd⟩:=I2.cell x c z
   exact⟨⟨v,oc,old _ _ hoc,hd⟩,I2.kM x c z,yj l⟩
 have Dfs:↑s2∉Y.fs:=fun hb=>by
  rcases zD.mp (I2.DL _ hb) with z | z
  ·exact absurd (z▸I2.lt) (yf _)
  ·exact I2.Ss (zm _) z
 have hCf:H2 G2.objs.size=none:=I2.cm.fresh (by rw[hC];exact Nat.le_succ _);have start:∀tk,Inv Y [(↑s2,{cls:=.type "list",data:=.seq ([]:List Value).toArray 0})] (fr.map fun o=>o.bind fun j=>(σ[j]?).join) H2 {s2 with heap:=g1,toks:=tk}:=fun tk=>
  ⟨okY,rfl,I2.bare,Un.kept old,⟨_,hns,fun i x v e1 e2 _=>by
    rw[zK] at e2;cases ef:fr[i]? with
    | none=>rw[ef] at e2;cases e2
    | some o=>
     cases o with
     | none=>rw[ef] at e2;cases e2
     | some j=>
      rw[ef] at e2;have e2':(σ[j]?).join=some v:=by simpa using e2
      have ej:σ[j]?=some (some v):=by
       cases q:σ[j]? with
       | none=>rw[q] at e2';cases e2'
       | some w=>rw[q] at e2';cases w with
        | none=>cases e2'
        | some w=>cases e2';rfl
      obtain⟨k1,k2,k3,k4,k5,k6⟩:=hfr i x j e1 ef;obtain⟨m,_,hl⟩:=I2.loc;obtain⟨u,r,l⟩:=hl j x v k1 ej k2;refine⟨u,r,?_⟩;rcases l with l | ⟨_,c,ec,z⟩
      ·exact absurd l.1 k3
      ·obtain⟨oc,hoc,hd⟩:=z
       exact .inr ⟨k4 G2.objs.size,c,by show(cellsFrom (G2.objs.size+1) scope.names cl).lookup x=some c;rw[dw,List.lookup_append,k6];exact k5 c ec,oc,old _ _ hoc,hd⟩⟩,
   fun x c e=>(cl2 x c e).1,hCf,fun x c e=>(cl2 x c e).2.1,
   fun p hp=>by
    have e:p=(↑s2,{cls:=.type "list",data:=.seq ([]:List Value).toArray 0}):=by simpa using (show p∈[]++[_] from hp)
    subst e;exact⟨hacc,I2.cm.fresh (zm _),hDC,Dfs,fun v z=>by cases z⟩,I2.cm.kept old,by rw[za,hlen];rfl⟩
 have stat:∀{H':Hp} {ob:Obj},(∀b∈fp,H' b=none)->∀b∈fp,sj Y [(↑s2,ob)] H' b:=fun {H' ob} hn b hb=>by
  refine⟨hn b hb,(below b (fplt b hb)).1,fun z=>okY.Jf b hb z,.inl hb,Ot b hb,fun p hp=>?_⟩;have e:p=(↑s2,ob):=by simpa using (show p∈[]++[_] from hp)
  subst e;exact(below b (fplt b hb)).2.symm
 have loop:∀tk,codeAny (model X.prog X.w) X.A (.compLoop (.ListComp elt [⟨target,iter,ifs,0⟩] scope pos) 0 (.ref it) (.ref ↑s2) (compEnvC scope (cellsFrom (G2.objs.size+1) scope.names cl) G2.objs.size X.env))
   (RR (.ref ↑s2) G2.objs.size) {s2 with heap:=g1,toks:=tk}:=by
  intro tk;refine Ju (fun n s'=>∃i σ' H' xs its k,Inv Y [(↑s2,{cls:=.type "list",data:=.seq its.toArray k})] σ' H' s'/\tn i s'.heap/\(∀b∈fp,H' b=none)/\Vals xs its/\W i n xs σ' H') ?_ m0
   ⟨0,_,H2,[],[],0,start tk,T.keep _ _ _ st2 fun b _ o e=>old b o e,fun b hb=>(f2 b hb).1,.nil,w0⟩
  rintro n s3 ⟨i,σ3,H3,xs,its,k,I3,st3,fr3,rv3,w3⟩;rcases turn i n xs σ3 H3 w3 with⟨stop,hz,qn⟩ | ⟨go,hz,step⟩
  ·refine dh (T.done Y rfl rfl rfl hc i _ s3 σ3 H3 _ I3 (stat fr3) st3 stop) fun r s4 ⟨hr,I4⟩=>?_
   subst hr;obtain⟨m,hm,_⟩:=id I4.loc;obtain⟨pD,nD,neD,fD,_⟩:=I4.pin (↑s2,{cls:=.type "list",data:=.seq its.toArray k}) (by show _∈[]++[_];simp);refine fin ↑s2 G2.objs.size s4 H3 xs (zm _) (by rw[hC];exact Nat.le_succ _) hDC.symm (I2.N2 (s':=s4) (ch:=fp) I4.os ?_ ?_ I4.bare (fun b hb=>⟨(f2 b hb).2.2.2.1,(f2 b hb).2.1,(f2 b hb).2.2.2.2.1,(f2 b hb).2.2.2.2.2⟩)) nD I4.free ⟨m,hm⟩ qn
   ·have ub:Un Y.fs Y.ex H2 H3 s2.heap s4.heap:=I4.base
    have lt:∀b o,s2.heap.get? b=some o->b≠G2.objs.size/\b≠↑s2:=fun b o e=>below b (yy e);refine⟨fun b o e n hb hx=>ub.keep b o e n hb hx,fun b o e n hb hx=>ub.slot b o e n hb hx,fun b o e n hx=>?_,fun b o e hx=>ub.there b o e hx,fun b ys e=>?_,fun b o u e=>?_,fun b ps e=>?_⟩
    ·rw[aH (lt b o e).2];exact ub.free b o e n hx
    ·have q:=ub.pX b ys e
     rw[aH (bx q nD)];exact q
    ·have q:=ub.om b o u e
     rw[aH (bx q nD)];exact q
    ·obtain⟨more,q⟩:=ub.pY b ps e
     exact⟨more,by rw[aH (bx q nD)];exact q⟩
   ·intro b u e
    by_cases hb:b=↑s2
    ·subst hb;rw[aC] at e;cases e
     exact⟨hz,its,k,rv3,pD⟩
    ·rw[aH hb] at e
     exact(I4.cm b u e).mn (fun c v hc' q=>q) (fun c q=>by rw[aH (bx q nD)];exact q) fun c ys q=>by rw[aH (bx q nD)];exact q
  ·refine dh (T.item Y rfl rfl rfl hc i _ s3 σ3 H3 _ I3 (stat fr3) st3 go) fun r s4 ⟨u,hr,h4⟩=>?_
   subst hr;refine dh h4 fun _ s5 zz=>?_;obtain⟨x,H5,I5,r5,y5,st5,fr5⟩:=zz;have I5':=I5.pinned (stat fr5) (T.obj _ _ st5);refine dh (hg G2.objs.size s2 H2 fp _ s5 σ3 H5 x u _ I5' r5 (step x H5 y5)) fun _ s6 ⟨σ6,H6,I6,q6⟩=>?_;refine dh (hif G2.objs.size s2 H2 fp _ s6 σ6 H6 _ I6 q6) fun b s6' ⟨H6',I6',q6'⟩=>?_;cases b with
   | false=>
    rw[if_neg ∅] at q6' ⊢;obtain⟨m',hm,w7⟩:=q6';have inD:(↑s2,({cls:=.type "list",data:=.seq its.toArray k}:Obj))∈Y.pn++([(↑s2,({cls:=.type "list",data:=.seq its.toArray k}:Obj))]++uU fp s5.heap):=by show _∈[]++_;simp
    obtain⟨pD,nD,neD,fD,dD⟩:=I6'.pin _ inD;have I7':Inv Y [] σ6 H6' s6':=I6'.pM fun p hp=>nomatch hp;refine⟨m',hm,i+1,σ6,H6',xs,its,k,I7'.pM fun p hp=>?_,T.keep _ _ _ st5 (fun b hb o e=>(I6'.pin (b,o) (zI _ (zI _ (gN hb e)))).1),fun b hb=>?_,rv3,w7⟩
    ·have e:p=(↑s2,{cls:=.type "list",data:=.seq its.toArray k}):=by simpa using hp
     subst e;exact⟨pD,nD,neD,fD,dD⟩
    ·obtain⟨o,e,d⟩:=T.obj _ _ st5 b hb
     exact(I6'.pin (b,o) (zI _ (zI _ (gN hb e)))).2.1
   | true=>
   rw[if_pos rfl] at q6' ⊢;refine dh (he G2.objs.size s2 H2 fp _ s6' σ6 H6' _ I6' q6') fun v s7 zz=>?_;obtain⟨y,H7,I7,r7,m',hm,w7⟩:=zz;have inD:(↑s2,({cls:=.type "list",data:=.seq its.toArray k}:Obj))∈Y.pn++([(↑s2,({cls:=.type "list",data:=.seq its.toArray k}:Obj))]++uU fp s5.heap):=by show _∈[]++_;simp
   obtain⟨pD,nD,neD,fD,dD⟩:=I7.pin _ inD;have hlen:=rv3.length;refine wpAny_list_append_plain (items:=its.toArray) (hsz:=by rw[yb];omega) ⟨k,pD⟩ fun g8 pl8 sb8=>?_;obtain⟨k8,e8⟩:=pl8;have I7':Inv Y [] σ6 H7 s7:=I7.pM fun p hp=>nomatch hp;have I8:Inv Y [] σ6 H7 {s7 with heap:=g8}:=I7'.turned (t':=s7.toks) (fun b o hb e=>sb8.extBut b o hb e) nD neD (.inr (zm _)) (fun x c e=>(cl2 x c e).2.2) (fun p hp=>(nomatch (show p∈([]:List (Addr×Obj)) from hp)));have e8':g8.get? ↑s2=some {cls:=.type "list",data:=.seq (its++[v]).toArray k8}:=by rw[e8];simp
   have fpD:∀b∈fp,∀o,s5.heap.get? b=some o->g8.get? b=some o:=fun b hb o e=>sb8.extBut b o (below b (fplt b hb)).2 (I7.pin (b,o) (zI _ (zI _ (gN hb e)))).1;refine⟨m',hm,i+1,σ6,H7,xs++[y],its++[v],k8,I8.pM fun p hp=>?_,T.keep _ _ _ st5 fpD,fun b hb=>?_,rv3.append (.cons r7 .nil),w7⟩
   ·have e:p=(↑s2,{cls:=.type "list",data:=.seq (its++[v]).toArray k8}):=by simpa using hp
    subst e;exact⟨e8',nD,neD,fD,fun v z=>by cases z⟩
   ·obtain⟨o,e,d⟩:=T.obj _ _ st5 b hb
    exact(I7.pin (b,o) (zI _ (zI _ (gN hb e)))).2.1
 exact codeAny_compStart_list (loop _) (T.self _ _ _ _ _ (T.keep _ _ _ st2 fun b _ o e=>old b o e) (loop _))
def Lb {elt target iter:Expr} {scope:Scope} {N:List Str} {fr:List (Option Nat)} {cl:List (Str×Addr)} {wi:TI} {g:TG} {tc:TT} {te:TE} {ifs:List Expr} (hc:X.calm=true) (hclos:closureFor scope X.env=pure cl) (hsub:∀x c,cl.lookup x=some c->X.env.cells.lookup x=some c) (hhas:∀C x,((compEnvC scope cl C X.env).kindOf x=some .cell\/(compEnvC scope cl C X.env).kindOf x=some .free)->(∃c,cl.lookup x=some c)\/∃c,(cellsFrom (C+1) scope.names []).lookup x=some c)
  (hlen:fr.length=N.length) (hfr:∀(i:Nat) x j,N[i]?=some x->fr[i]?=some (some j)->X.N[j]?=some x/\RI X.env.scope x/\X.env.kindOf x≠some .local/\(∀C,(compEnvC scope cl C X.env).kindOf x=some .cell\/(compEnvC scope cl C X.env).kindOf x=some .free)/\(∀c,X.env.cells.lookup x=some c->cl.lookup x=some c)/\∀C,(cellsFrom (C+1) scope.names []).lookup x=none) (hkind:scope.kind=.function)
  (hnames:∀y∈scope.names,y.2=.local->scope.names.lookup y.1=some .local) (hi:PI X target iter wi)
  (hg:∀C s₀ H₀ ex,PG (cY X N scope cl C s₀ H₀ ex) target g) (hif:∀C s₀ H₀ ex,PH (cY X N scope cl C s₀ H₀ ex) ifs tc) (he:∀C s₀ H₀ ex,PE (cY X N scope cl C s₀ H₀ ex) elt te) (hs:(∀x,foldedSetIterable iter X.env x=pure x)<|>qd_) :
  PE X (.ListComp elt [⟨target,iter,ifs,0⟩] scope pos) (oB fr wi g tc te):=by
 intro pins s σ H Q I h;rw[eval_ListComp];refine wpAny_comprehension_free (use:=none) (cl:=cl) rfl hs hclos hkind hnames (dh (hi pins s σ H _ I h) fun xv s1 h1=>dh h1 fun itv s2 h2=>?_);obtain⟨it,fp,tn,J,H2,e,I2,T,st2,f2,ok⟩:=h2;subst e;refine Ba (RR:=fun acc C=>compPost (model X.prog X.w) X.A X.xe none (EP X pins σ Q) acc C) hc hsub hhas hlen hfr hkind hg hif he I2 T st2 f2 ok ?_;intro D C s4 H' xs hD hC hne I4 nD nC ⟨m,hm⟩ qn;refine⟨m,hm,fun g5 hs5=>⟨.ref D,upd H' D (.lst xs),I2.Sy hC I4 (by rw[aH hne];exact nC) hs5,rfl,qn D nD⟩⟩
def K7 {elt target iter:Expr} {scope:Scope} {N:List Str} {fr:List (Option Nat)} {cl:List (Str×Addr)} {wi:TI} {g:TG} {tc:TT} {te:TE} {ifs:List Expr} (hc:X.calm=true) (hclos:closureFor scope X.env=pure cl) (hsub:∀x c,cl.lookup x=some c->X.env.cells.lookup x=some c) (hhas:∀C x,((compEnvC scope cl C X.env).kindOf x=some .cell\/(compEnvC scope cl C X.env).kindOf x=some .free)->(∃c,cl.lookup x=some c)\/∃c,(cellsFrom (C+1) scope.names []).lookup x=some c)
  (hlen:fr.length=N.length) (hfr:∀(i:Nat) x j,N[i]?=some x->fr[i]?=some (some j)->X.N[j]?=some x/\RI X.env.scope x/\X.env.kindOf x≠some .local/\(∀C,(compEnvC scope cl C X.env).kindOf x=some .cell\/(compEnvC scope cl C X.env).kindOf x=some .free)/\(∀c,X.env.cells.lookup x=some c->cl.lookup x=some c)/\∀C,(cellsFrom (C+1) scope.names []).lookup x=none) (hkind:scope.kind=.function)
  (hnames:∀y∈scope.names,y.2=.local->scope.names.lookup y.1=some .local) (hi:PI X target iter wi)
  (hg:∀C s₀ H₀ ex,PG (cY X N scope cl C s₀ H₀ ex) target g) (hif:∀C s₀ H₀ ex,PH (cY X N scope cl C s₀ H₀ ex) ifs tc) (he:∀C s₀ H₀ ex,PE (cY X N scope cl C s₀ H₀ ex) elt te) (hs:(∀x,foldedSetIterable iter X.env x=pure x)<|>qd_)  {i:Nat} {x:Str} {ps pa:Pos} (hN:X.N.Nodup) (hx1:X.N[i]?=some x) (hx2:Loc X.env.scope x) (hsw:swapsWith (.ListComp elt [⟨target,iter,ifs,0⟩] scope pos) (some (.Name x ps)) pa.line X.env=pure true<|>qe_)
  (hf:X.fn x=true\/X.env.scope.names.lookup x=some .local<|>qa_) :
  PS X (.Assign [.Name x ps] (.ListComp elt [⟨target,iter,ifs,0⟩] scope pos) pa) (FU (oB fr wi g tc te) (cg i)):=by
 intro pins s σ H D I h;rw[exec_Assign_Name_used _ _ _ _ hsw];refine yu (wpAny_standAt (yu ?_));show wpAny _ X.A (do let _ <-comprehension (.ListComp elt [⟨target,iter,ifs,0⟩] scope pos) scope X.env _ (newList []) false (eval iter X.env) (some (assign (.Name x ps) X.env))) _ _ s;refine yu (wpAny_mono (wpAny_comprehension_free (use:=some (assign (.Name x ps) X.env)) (cl:=cl) (Q:=fun _ s'=>SP X pins D .next s') rfl hs hclos hkind hnames (dh (hi pins s σ H _ I h) fun xv s1 h1=>dh h1 fun itv s2 h2=>?_)) (fun _ s' hq=>yw (yw hq)) fun _ _ e=>e);obtain⟨it,fp,tn,J,H2,e,I2,T,st2,f2,ok⟩:=h2;subst e;refine Ba (RR:=fun acc C=>compPost (model X.prog X.w) X.A X.xe (some (assign (.Name x ps) X.env)) (fun _ s'=>SP X pins D .next s') acc C) hc hsub hhas hlen hfr hkind hg hif he I2 T st2 f2 ok ?_;intro E C s4 H' xs hE hC hne I4 nE nC ⟨m,hm⟩ qn;show wpAny _ X.A (assign (.Name x ps) X.env (.ref E)) _ _ s4;refine wpAny_assign_Name (CP I4 hN hx1 hx2 (v:=.ref E) rfl (fun s5 I5 hw=>?_) hf);obtain⟨aw,sb,ha⟩:=hw;have hCn:(upd H' E (.lst xs)) C=none:=by rw[aH hne];exact nC
 obtain⟨f0,f1,f2',f3,f4,f5⟩:=I2.xj hC hCn;have neC:C≠aw:=by
  rcases ha with z | z
  ·rw[z];exact f1
  ·exact fun q=>f4 x aw z q.symm
 refine⟨m,hm.sameBut sb neC,fun g6 hs6=>?_⟩;exact⟨_,_,I2.Sy hC I5 hCn hs6,qn E nE⟩
end
def Fs (cells:List (Str×Addr)):List (Str×Addr)->Prop
 | []=>True
 | p::r=>cells.lookup p.1=some p.2/\Fs cells r
theorem Fs.sub:∀{cl:List (Str×Addr)},Fs cells cl->∀x c,cl.lookup x=some c->cells.lookup x=some c
 | [],_,x,c,e=>by cases e
 | (y,d)::r,h,x,c,e=>by
  rw[yq] at e;split at e
  ·rename_i q
   cases e;rw[eq_of_beq q];exact h.1
  ·exact Fs.sub h.2 x c e
def L6 (X:Cx) (scope:Scope) (cl:List (Str×Addr)):List Str->List Nat->Prop
 | [],[]=>True
 | y::ys,j::js=>(X.N[j]?=some y/\(X.env.kindOf y=some .cell\/X.env.kindOf y=some .free)/\((relabel scope X.env).names.lookup y=some .cell\/(relabel scope X.env).names.lookup y=some .free)/\∃c,X.env.cells.lookup y=some c/\cl.lookup y=some c)/\L6 X scope cl ys js
 | _,_=>False
theorem L6.len:∀{ys:List Str} {js:List Nat},L6 X scope cl ys js->js.length=ys.length
 | [],[],_=>rfl
 | _::_,_::_,h=>by rw[zv,zv,L6.len h.2]
 | [],_::_,h=>h.elim
 | _::_,[],h=>h.elim
theorem L6.get:∀{ys:List Str} {js:List Nat} {i:Nat} {y:Str} {j:Nat},L6 X scope cl ys js->ys[i]?=some y->js[i]?=some j->
  X.N[j]?=some y/\(X.env.kindOf y=some .cell\/X.env.kindOf y=some .free)/\((relabel scope X.env).names.lookup y=some .cell\/(relabel scope X.env).names.lookup y=some .free)/\∃c,X.env.cells.lookup y=some c/\cl.lookup y=some c
 | [],_,_,_,_,_,e,_=>by simp at e
 | _::_,[],_,_,_,h,_,_=>h.elim
 | y::ys,j::js,0,_,_,h,e,e'=>by simp at e e';subst e e';exact h.1
 | y::ys,j::js,i+1,_,_,h,e,e'=>L6.get (i:=i) h.2 (by simpa using e) (by simpa using e')
theorem Jx:∀{names:List (Str×NameKind)} {n:Nat} {x:Str} {c:Addr},(cellsFrom n names []).lookup x=some c->(x,NameKind.cell)∈names
 | [],_,_,_,e=>by cases e
 | (y,k)::r,n,x,c,e=>by
  unfold cellsFrom at e;split at e
  ·rename_i hk
   rw[dw,List.lookup_append] at e;cases q:(cellsFrom (n+1) r []).lookup x with
   | some d=>exact zp _ (Jx q)
   | none=>
    rw[q] at e;have e':([(y,n)]:List (Str×Addr)).lookup x=some c:=e;rw[yq] at e';split at e'
    ·rename_i z
     rw[eq_of_beq z,eq_of_beq hk];exact zr
    ·cases e'
  ·exact zp _ (Jx e)
theorem Jy:∀{names:List (Str×NameKind)} {n:Nat} {x:Str},(x,NameKind.cell)∈names->∃c,(cellsFrom n names []).lookup x=some c
 | [],_,_,h=>by cases h
 | (y,k)::r,n,x,h=>by
  unfold cellsFrom;split
  ·rw[dw,List.lookup_append]
   cases q:(cellsFrom (n+1) r []).lookup x with
   | some d=>exact⟨d,rfl⟩
   | none=>
    rcases zD.mp h with h | h
    ·obtain⟨e1,_⟩:=Prod.mk.inj h
     exact⟨n,by show([(y,n)]:List (Str×Addr)).lookup x=some n;rw[e1,yq,beq_self_eq_true]⟩
    ·obtain⟨c,e⟩:=Jy (n:=n+1) h
     rw[q] at e;cases e
  ·rename_i hk
   rcases zD.mp h with h | h
   ·cases h;exact absurd rfl hk
   ·exact Jy h
theorem wo:∀{L:List (Str×NameKind)} {x:Str} {k:NameKind},L.lookup x=some k->(x,k)∈L
 | [],_,_,h=>by cases h
 | (y,j)::r,x,k,h=>by
  rw[yq] at h;split at h
  ·rename_i q;cases h;rw[eq_of_beq q];exact zr
  ·exact zp _ (wo h)
section
variable {X:Cx} {pos:Pos} {elt target iter:Expr} {ifs:List Expr} {scope:Scope} {ts ys:List Str} {js:List Nat} {cl:List (Str×Addr)} {wi:TI} {g:TG} {tc:TT} {te:TE}
def Dr (hcl:Fs X.env.cells cl) (hLo:((relabel scope X.env).names.all fun p=>(p.2 != .cell&&p.2 != .free)||ys.contains p.1||scope.names.contains (p.1,.cell))=true) (hno:∀p∈scope.names,p.2=.cell->p.1∉ys) (hfr:L6 X scope cl ys js) :
  (∀(C:Addr) x,((compEnvC scope cl C X.env).kindOf x=some .cell\/(compEnvC scope cl C X.env).kindOf x=some .free)->(∃c,cl.lookup x=some c)\/∃c,(cellsFrom (C+1) scope.names []).lookup x=some c)/\
  (ts.map (fun _=>(none:Option Nat))++js.map some).length=(ts++ys).length/\
  (∀(i:Nat) x j,(ts++ys)[i]?=some x->(ts.map (fun _=>(none:Option Nat))++js.map some)[i]?=some (some j)->X.N[j]?=some x/\RI X.env.scope x/\X.env.kindOf x≠some .local/\(∀C,(compEnvC scope cl C X.env).kindOf x=some .cell\/(compEnvC scope cl C X.env).kindOf x=some .free)/\(∀c,X.env.cells.lookup x=some c->cl.lookup x=some c)/\∀C,(cellsFrom (C+1) scope.names []).lookup x=none):=by
 refine⟨fun C x hx=>?_,by simp[L6.len hfr],fun i x j h1 h2=>?_⟩
 ·have key:∀k,(relabel scope X.env).names.lookup x=some k->(k=.cell\/k=.free)->(∃c,cl.lookup x=some c)\/∃c,(cellsFrom (C+1) scope.names []).lookup x=some c:=fun k hk hk'=>by
   have:=(yp.mp hLo) _ (wo hk);rw[Bool.or_eq_true,Bool.or_eq_true] at this;rcases this with(z | z) | z
   ·rcases hk' with rfl | rfl <;> simp at z
   ·have hm:x∈ys:=List.contains_iff_mem.mp z
    obtain⟨n,hn⟩:=List.getElem?_of_mem hm;have hl:n<js.length:=by rw[hfr.len];exact(zy.mp hn).1
    obtain⟨_,_,_,c,_,e⟩:=hfr.get hn (zd hl);exact .inl ⟨c,e⟩
   ·exact .inr (Jy (List.contains_iff_mem.mp z))
  rcases hx with hx | hx
  ·exact key _ hx (.inl rfl)
  ·exact key _ hx (.inr rfl)
 ·have hi:ts.length<=i:=by
   rcases Nat.lt_or_ge i ts.length with h | h
   ·rw[List.getElem?_append_left (by simpa using h),zK] at h2
    cases q:ts[i]? with
    | none=>rw[q] at h2;cases h2
    | some z=>rw[q] at h2;cases h2
   ·exact h
  rw[z9 hi] at h1;rw[z9 (by simpa using hi),za,zK] at h2;have h2':js[i-ts.length]?=some j:=by
   cases q:js[i-ts.length]? with
   | none=>rw[q] at h2;cases h2
   | some z=>rw[q] at h2;cases h2;rfl
  obtain⟨k1,k2,k3,c,k4,k5⟩:=hfr.get h1 h2';refine⟨k1,.inr k2,fun z=>?_,fun C=>k3,fun d hd=>?_,fun C=>?_⟩
  ·rcases k2 with k2 | k2 <;> (rw[z] at k2;cases k2)
  ·rw[k4] at hd;cases hd;exact k5
  ·cases q:(cellsFrom (C+1) scope.names []).lookup x with
   | none=>rfl
   | some d=>exact absurd (zC h1) (hno _ (Jx q) rfl)
def Ng (hc:X.calm=true) (hclos:closureFor scope X.env=pure cl) (hcl:Fs X.env.cells cl) (hLo:((relabel scope X.env).names.all fun p=>(p.2 != .cell&&p.2 != .free)||ys.contains p.1||scope.names.contains (p.1,.cell))=true) (hno:∀p∈scope.names,p.2=.cell->p.1∉ys) (hfr:L6 X scope cl ys js) (hkind:scope.kind=.function)
  (hnames:∀y∈scope.names,y.2=.local->scope.names.lookup y.1=some .local) (hi:PI X target iter wi)
  (hg:∀C s₀ H₀ ex,PG (cY X (ts++ys) scope cl C s₀ H₀ ex) target g) (hif:∀C s₀ H₀ ex,PH (cY X (ts++ys) scope cl C s₀ H₀ ex) ifs tc) (he:∀C s₀ H₀ ex,PE (cY X (ts++ys) scope cl C s₀ H₀ ex) elt te) (hs:(∀x,foldedSetIterable iter X.env x=pure x)<|>qd_) :
  PE X (.ListComp elt [⟨target,iter,ifs,0⟩] scope pos) (oB (ts.map (fun _=>none)++js.map some) wi g tc te):=by
 obtain⟨a,b,c⟩:=Dr (ts:=ts) hcl hLo hno hfr;exact Lb hc hclos hcl.sub a b c hkind hnames hi hg hif he hs
def M5 (hc:X.calm=true) (hclos:closureFor scope X.env=pure cl) (hcl:Fs X.env.cells cl) (hLo:((relabel scope X.env).names.all fun p=>(p.2 != .cell&&p.2 != .free)||ys.contains p.1||scope.names.contains (p.1,.cell))=true) (hno:∀p∈scope.names,p.2=.cell->p.1∉ys) (hfr:L6 X scope cl ys js) (hkind:scope.kind=.function)
  (hnames:∀y∈scope.names,y.2=.local->scope.names.lookup y.1=some .local) (hi:PI X target iter wi)
  (hg:∀C s₀ H₀ ex,PG (cY X (ts++ys) scope cl C s₀ H₀ ex) target g) (hif:∀C s₀ H₀ ex,PH (cY X (ts++ys) scope cl C s₀ H₀ ex) ifs tc) (he:∀C s₀ H₀ ex,PE (cY X (ts++ys) scope cl C s₀ H₀ ex) elt te) (hN:X.N.Nodup) (hx1:X.N[i]?=some x) (hx2:Loc X.env.scope x) (hs:(∀x,foldedSetIterable iter X.env x=pure x)<|>qd_) (hsw:swapsWith (.ListComp elt [⟨target,iter,ifs,0⟩] scope pos) (some (.Name x ps)) pa.line X.env=pure true<|>qe_)
  (hf:X.fn x=true\/X.env.scope.names.lookup x=some .local<|>qa_) :
  PS X (.Assign [.Name x ps] (.ListComp elt [⟨target,iter,ifs,0⟩] scope pos) pa) (FU (oB (ts.map (fun _=>none)++js.map some) wi g tc te) (cg i)):=by
 obtain⟨a,b,c⟩:=Dr (ts:=ts) hcl hLo hno hfr;exact K7 hc hclos hcl.sub a b c hkind hnames hi hg hif he hs hN hx1 hx2 hsw hf
end
def Ig (n:Nat) (f:Nat->List V) (Pv:Nat->St->Hp->Prop) (i m:Nat) (xs:List V) (σ:St) (H:Hp):Prop:=m=n-i/\i<=n/\xs=f i/\Pv i σ H
def Ig.push (hi:i<n) (e:f (i+1)=f i++[y]) (p:Pv (i+1) σ H):∃m',m'<n-i/\Ig n f Pv (i+1) m' (f i++[y]) σ H:=⟨n-(i+1),nofun,rfl,hi,e.symm,p⟩
def Ig.skip (hi:i<n) (e:f (i+1)=f i) (p:Pv (i+1) σ H):∃m',m'<n-i/\Ig n f Pv (i+1) m' (f i) σ H:=⟨n-(i+1),nofun,rfl,hi,e.symm,p⟩
def pC (n:Nat) (f:Nat->List V) (Pv:Nat->St->Hp->Prop) (hz:∀i,i<=n->(f i).length<=i) (hn:n<=sizeLine) (f0:f 0=[]) (h0:Pv 0 σ₀ H1)
  (go:∀i σ H,i<n->Pv i σ H->J.go i H) (stop:∀σ H,Pv n σ H->J.stop n H)
  (turn:∀i x σ H H2,i<n->Pv i σ H->J.KI i H x H2->g x σ H2 fun σ3 H3=>tc σ3 H3 fun b H4=>if b=true then te σ3 H4 fun y H5=>∃m',m'<n-i/\Ig n f Pv (i+1) m' (f i++[y]) σ3 H5 else∃m',m'<n-i/\Ig n f Pv (i+1) m' (f i) σ3 H4)
  (fin:∀σ H,Pv n σ H->∀D,H D=none->Q (.ref D) (upd H D (.lst (f n)))):dR σ₀ g tc te Q J H1:=by
 refine⟨Ig n f Pv,⟨n,by simp,yg _,f0.symm,h0⟩,?_⟩;rintro i m xs σ H ⟨rfl,hi,rfl,p⟩;have:=hz i hi;rcases Nat.lt_or_ge i n with hlt | hge
 ·exact .inr ⟨go i σ H hlt p,nofun,fun x H2 y=>turn i x σ H H2 hlt p y⟩
 ·have e:i=n:=nofun
  subst e;exact .inl ⟨stop σ H p,nofun,fin σ H p⟩
section
variable {X:Cx}
def Eg (bs:List Bool):((List.range bs.length).any fun i=>(bs[i]?).getD false)=bs.any id:=by
 rw[Bool.eq_iff_iff,yo,yo];constructor
 ·rintro⟨i,hi,e⟩
  have hi':=List.mem_range.mp hi;rw[zd hi'] at e;exact⟨_,ym hi',e⟩
 ·rintro⟨b,hb,e⟩
  obtain⟨i,hi,e'⟩:=List.mem_iff_getElem.mp hb;exact⟨i,List.mem_range.mpr hi,by rw[zd hi,e'];exact e⟩
def gS (hc:X.calm=true):gc X (.builtin "any") (fun xs H Q=>∃(a:Addr) (bs:List Bool),xs=[.ref a]/\aL X.K H a (bs.map V.bl)/\Q (.bl (bs.any id)) H):=by
 intro pins s σ H xs us Q I r h;obtain⟨a,bs,e,hq,q⟩:=h;subst e;cases r with
 | cons r rr=>
  cases rr;cases r;obtain⟨its,rv,p,hz⟩:=I.list hq;have hlt:a<↑s:=by obtain⟨o,n,e,_⟩:=p;exact yy e
  have hlen:bs.length=its.length:=by have:=rv.length;rw[za] at this;exact this
  refine call_any_walk (wpAny_pyIter_list p.isList ?_);refine⟨↑s,[↑s,a],[↑s],its.toArray.size,_,_,fun i=>(bs[i]?).getD false,rfl,Walks.list (A:=X.A.in1) (I.ok.hd hc) _ a (yj hlt) its.toArray,
   ⟨⟨_,yx _ rfl,rfl,rfl⟩,p.isList.push _⟩,fun i v s' Q' E' hP hQ=>?_,fun h' tk hk=>?_⟩
  ·have hP':its[i]?=some v:=by simpa using hP
   have hi:i<bs.length:=by rw[hlen];exact(zy.mp hP').1
   have hm:(bs.map V.bl)[i]?=some (.bl bs[i]):=by rw[zK,zd hi];rfl
   obtain⟨u,hu,ru⟩:=rv.get hm;rw[hP'] at hu;cases hu;cases ru;dsimp only at hQ;rw[zd hi] at hQ;exact wpAny_truthy_bool hQ
  ·have e:((List.range its.toArray.size).any fun i=>(bs[i]?).getD false)=bs.any id:=by rw[yb,<-hlen];exact Eg bs
   rw[e];exact⟨.bl _,H,I.kept fun b o x=>hk b o (fun hm=>by rw[zA.mp hm] at x;exact yf _ (yy x)) (yv _ x),rfl,q⟩
def wk (ns:List Int):∀k,k<=ns.length->preSum (fun i=>(ns[i]?).getD 0) k=(ns.take k).sum:=by
 intro k
 induction k with
 | zero=>intro _;simp[preSum]
 | succ k ih=>
  intro hk;have hk':k<ns.length:=hk;have e:=ih (yh hk');rw[List.take_succ,List.sum_append,<-e,zd hk'];simp[preSum,zd hk']
def LL (hc:X.calm=true):gc X (.builtin "sum") (fun xs H Q=>∃(a:Addr) (ns:List Int),xs=[.ref a]/\aL X.K H a (ns.map V.int)/\(∀n∈ns,0<=n/\n<1000000)/\ns.length<=1000/\Q (.int ns.sum) H):=by
 intro pins s σ H xs us Q I r h;obtain⟨a,ns,e,hq,hb,hl,q⟩:=h;subst e;cases r with
 | cons r rr=>
  cases rr;cases r;obtain⟨its,rv,p,hz⟩:=I.list hq;have hlt:a<↑s:=by obtain⟨o,n,e,_⟩:=p;exact yy e
  have hlen:ns.length=its.length:=by have:=rv.length;rw[za] at this;exact this
  have bnd:∀k,k<=ns.length->0<=(ns.take k).sum/\(ns.take k).sum<=1000000*k:=by
   intro k
   induction k with
   | zero=>intro _;simp
   | succ k ih=>
    intro hk;have hk':k<ns.length:=hk;have:=ih (yh hk');rw[List.take_succ,List.sum_append,zd hk'];have hb':=hb _ (ym hk');simp only[Option.toList_some,List.sum_cons,List.sum_nil];omega
  refine call_sum_walk (wpAny_pyIter_list p.isList ?_);refine⟨↑s,[↑s,a],[↑s],its.toArray.size,_,_,fun i=>(ns[i]?).getD 0,rfl,Walks.list (A:=X.A.in1) (I.ok.hd hc) _ a (yj hlt) its.toArray,
   ⟨⟨_,yx _ rfl,rfl,rfl⟩,p.isList.push _⟩,fun b hb'=>?_,fun i v hP=>?_,fun j hj=>?_,fun h' tk t' hk=>?_⟩
  ·rw[Heap.size_push]
   rcases zD.mp hb' with e | e
   ·rw[e];exact Nat.lt_succ_self _
   ·rw[zA.mp e];exact Nat.lt_succ_of_lt hlt
  ·have hP':its[i]?=some v:=by simpa using hP
   have hi:i<ns.length:=by rw[hlen];exact(zy.mp hP').1
   have hm:(ns.map V.int)[i]?=some (.int ns[i]):=by rw[zK,zd hi];rfl
   obtain⟨u,hu,ru⟩:=rv.get hm;rw[hP'] at hu;cases hu;dsimp only;rw[zd hi];exact ru
  ·have hj':j<ns.length:=by rw[hlen];simpa using hj
   have b1:=hb _ (ym hj');have b2:=bnd (j+1) hj';rw[wk ns (j+1) hj'];dsimp only;rw[zd hj'];simp only[Option.getD_some];constructor <;> (unfold InLong;omega)
  ·have e:preSum (fun i=>(ns[i]?).getD 0) its.toArray.size=ns.sum:=by rw[yb,<-hlen,wk ns _ (zm _),zN]
   rw[e];exact⟨.int _,H,I.kept fun b o x=>hk b o (fun hm=>by rw[zA.mp hm] at x;exact yf _ (yy x)) (yv _ x),⟨_,rfl⟩,q⟩
end
section
variable {prog:Program} {w:World} {A:Around} {E:Value->Shared->Prop} {s:Shared}
def Ct (hl:IsTup s.heap l vs.toArray)
  (h:Q vs {s with heap:=(s.heap.push (seqObj "list" #[] 0)).update ↑s (Obj.mapSeq (·++vs.toArray))}) (hsz:vs.length<=sizeLine) :
  wpAny (model prog w) A (collect (.ref l)) Q E s:=by
 obtain⟨o,ho,hc,n,hd⟩:=id hl;unfold collect;refine yu (wpAny_runValue (codeAny_builtin entry_proto_collect' ?_));show wpAny _ _ (do again (.builtin "list.__iadd__" ⟨[<-newList [],.ref l],[]⟩)) _ _ s;refine yu (wpAny_newList (yw ⟨Code.quiet_builtin _ (by decide +kernel),codeAny_builtin entry_list_iadd' ?_⟩));show wpAny _ _ (Builtin.List.listExtendWith (.ref ↑s) (.ref l) (.ref ↑s)) _ _ {s with heap:=s.heap.push (seqObj "list" #[] 0)};unfold Builtin.List.listExtendWith;have ho':(s.heap.push (seqObj "list" #[] 0)).get? l=some o:=yv _ ho;refine yu (wpAny_typeOf (T:="tuple") ⟨o,ho',hc⟩ ?_);have ht:(Value.type "tuple"== Value.type "tuple")=true:=by rfl
 rw[if_pos (by rw[ht];simp)];refine yu (listItems_at ho' hd ?_);refine yu (listItems_at (xs:=#[]) (n:=0) (yx _ rfl) rfl ?_);rw[if_neg (by simp)];refine yu (listUpdate_at (xs:=#[]) (n:=0) (yx _ rfl) rfl ?_ (yg _) (by show(#[]++vs.toArray).size<=sizeLine+1;simp only[Array.size_append,yb,List.length_nil];omega));refine yw ?_;show wpAny (model prog w) A (do
   let o <-load ↑s
   match o.data with
   | .seq xs _=>pure xs.toList
   | _=>unsupported "internal:collect") Q E {s with heap:=(s.heap.push (seqObj "list" #[] 0)).update ↑s (Obj.mapSeq (·++vs.toArray))}
 refine yu (wpAny_load (get?_update_seq (yx _ rfl) _) ?_);show wpAny _ _ (pure ((#[]:Array Value)++vs.toArray).toList) Q E _;rw[show((#[]:Array Value)++vs.toArray).toList=vs by simp];exact yw h
def IA (hl:IsTup s.heap l vs.toArray) (hI:IntsAre vs ns) (h64:vs.length<64)
  (h:∀(out:Array Value) (ns':List Int),IntsAre out.toList ns'->ns'.Perm ns->ns'.Pairwise (·<=·)->Q (.ref (↑s+1)) {s with heap:=sortedAll s.heap vs out}) :
  wpAny (model prog w) A (call (.builtin "sorted") [.ref l]) Q E s:=by
 refine Calls.call_function_entry kind_sorted plain_sorted entry_sorted (args_sorted1 _) ?_;unfold Builtin.«sorted»;refine yu (m:=checkCount "sorted" 1 1 _) (yw ?_);refine yu (Ct hl ?_ (by rw[yC];omega));refine yu (wpAny_newList ?_);have hsz:((s.heap.push (seqObj "list" #[] 0)).update ↑s (Obj.mapSeq (·++vs.toArray))).objs.size=↑s+1:=by
  rw[Heap.size_update,size_push']
 have hoL:(((s.heap.push (seqObj "list" #[] 0)).update ↑s (Obj.mapSeq (·++vs.toArray))).push (seqObj "list" vs.toArray 0)).get? (↑s+1)=some (seqObj "list" vs.toArray 0):=by
  rw[<-hsz];exact yx _ rfl
 show wpAny _ _ _ _ _ {s with heap:=((s.heap.push (seqObj "list" #[] 0)).update ↑s (Obj.mapSeq (·++vs.toArray))).push (seqObj "list" vs.toArray 0)};rw[hsz];refine yu (wpAny_holding (wpAny_call_entry slot_list_sort ⟨_,hoL,rfl⟩ entry_list_sort (list_sort_tree hoL hI h64 fun out ns' a1 a2 a3=>⟨_,rfl,?_⟩) (args_list_sort _)));exact yw ⟨_,rfl,h out ns' a1 a2 a3⟩
def BR (h:Heap) (vs:List Value) (out:Array Value):∃n,(sortedAll h vs out).get? (h.objs.size+1)=some {cls:=.type "list",data:=.seq out n}:=by
 have hsz:((h.push (seqObj "list" #[] 0)).update h.objs.size (Obj.mapSeq (·++vs.toArray))).objs.size=h.objs.size+1:=by rw[Heap.size_update,size_push']
 have h1:(((h.push (seqObj "list" #[] 0)).update h.objs.size (Obj.mapSeq (·++vs.toArray))).push (seqObj "list" vs.toArray 0)).get? (h.objs.size+1)=some (seqObj "list" vs.toArray 0):=by
  rw[<-hsz];exact yx _ rfl
 unfold sortedAll sortedHeap;have h2:=get?_update_seq h1 (fun _=>#[]);have h3:=yv (seqObj "list" #[] 0) (yv (seqObj "tuple" vs.toArray 0) h2);exact⟨_,get?_update_seq h3 (fun _=>out)⟩
def wU (h:Heap) (vs:List Value) (out:Array Value) (b:Addr) (o:Obj) (e:h.get? b=some o):(sortedAll h vs out).get? b=some o:=by
 have hb:b<h.objs.size:=yy e;unfold sortedAll sortedHeap;have n1:h.objs.size≠b:=yi hb;have n2:h.objs.size+1≠b:=yi (Nat.lt_succ_of_lt hb);rw[yz _ _ n2];refine yv _ (yv _ ?_);rw[yz _ _ n2];refine yv _ ?_;rw[yz _ _ n1];exact yv _ e
end
theorem so:∀{us:List Value} {ns:List Int},IntsAre us ns->Vals (ns.map V.int) us
 | _,_,.nil=>.nil
 | _,_,.cons r t h=>.cons ⟨_,rfl⟩ (so h)
section
variable {X:Cx}
def um:gc X (.builtin "sorted") (fun xs H Q=>∃(a:Addr) (ns:List Int),xs=[.ref a]/\(aL X.K H a (ns.map V.int)\/dB X.K H a (ns.map V.int))/\ns.length<64/\∀ns':List Int,ns'.Perm ns->ns'.Pairwise (·<=·)->∀l,H l=none->Q (.ref l) (upd H l (.lst (ns'.map V.int)))):=by
 intro pins s σ H xs us Q I r h;obtain⟨a,ns,rfl,hq,h64,q⟩:=h;obtain⟨u,rfl,rx⟩:=vals1 r;cases rx;have fin:∀(its:List Value),ns.length=its.length->∀(out:Array Value) (ns':List Int),IntsAre out.toList ns'->ns'.Perm ns->ns'.Pairwise (·<=·)->EP X pins σ Q (.ref (↑s+1)) {s with heap:=sortedAll s.heap its out}:=fun its hl out ns' a1 a2 a3=>by
  obtain⟨n,hn⟩:=BR s.heap its out;refine⟨.ref _,_,I.laid (t':=s.toks) (a:=↑s+1) (o:=.lst (ns'.map V.int)) (wU s.heap its out) (Nat.le_succ _) ?_,rfl,q ns' a2 a3 _ (I.cm.fresh (Nat.le_succ _))⟩;refine⟨by rw[za,a2.length_eq,yC];omega,out.toList,n,so a1,by simpa using hn⟩
 rcases hq with hq | hq
 ·obtain⟨its,rv,p,_⟩:=I.list hq
  have hl:ns.length=its.length:=by have:=rv.length;rw[za] at this;exact this
  exact sorted_ints p.isList (intsAre_of rv) nofun (fin its hl)
 ·obtain⟨its,rv,p,_⟩:=I.tuple hq
  have hl:ns.length=its.length:=by have:=rv.length;rw[za] at this;exact this
  exact IA p (intsAre_of rv) nofun (fin its hl)
theorem J1:∀{zs:List Str} {us:List Value},Vals (zs.map V.str) us->∃l:List (Str×Tok),us=strValues l/\l.map (·.1)=zs
 | [],_,.nil=>⟨[],rfl,rfl⟩
 | z::zs,_,.cons ⟨t,e⟩ r=>by
  obtain⟨l,e1,e2⟩:=J1 r;subst e e1 e2;exact⟨(z,t)::l,rfl,rfl⟩
def rJoin (K:yB):V->List V->Hp->VK->Prop:=fun x vs H Q=>∃(sep:Str) (a:Addr) (zs:List Str),x=.str sep/\vs=[.ref a]/\aL K H a (zs.map V.str)/\(zs.map (fun z:Str=>z.length+sep.length)).sum<=sizeLine/\Q (.str (Str.join sep zs)) H
theorem G6 (sep:Str):∀(zs:List Str) (k:Nat),zs.foldl (fun n z=>n+z.length+sep.length) k=k+(zs.map (fun z:Str=>z.length+sep.length)).sum
 | [],k=>by simp
 | z::zs,k=>by
  rw[List.foldl_cons,G6 sep zs,zj,List.sum_cons];omega
theorem JZ (sep:Str):∀zs:List Str,(zs.map (·.length)).sum+zs.length*sep.length=(zs.map (fun z:Str=>z.length+sep.length)).sum
 | []=>by simp
 | z::zs=>by
  have ih:=JZ sep zs;simp only[zj,List.sum_cons,zv,Nat.succ_mul] at ih ⊢;omega
def hX:Qj X "str.join" (rJoin X.K):=by
 intro pins s σ H x vs v us Q I rx rv h;obtain⟨sep,a,zs,rfl,rfl,hq,hz,q⟩:=h;obtain⟨tk,rfl⟩:=rx;obtain⟨u,rfl,ru⟩:=rv.one;cases ru;obtain⟨its,ri,p,_⟩:=I.list hq;obtain⟨l,e1,e2⟩:=J1 ri;subst e1;have hl:Builtin.Str.tooLong ((l.map (·.1)).toArray.foldl (·+·.length+sep.length) 0)=false:=by
  rw[e2,List.foldl_toArray,G6,Nat.zero_add];exact ze nofun
 have hj:Builtin.Str.glued sep (l.map (·.1))=Str.join sep zs:=by rw[e2];exact StrLaws.glued_eq_join sep zs
 have jl:(Str.join sep zs).length<=sizeLine:=by
  exact zM (StrLaws.join_length_le sep zs) (zM (Nat.le_of_eq (JZ sep zs)) hz)
 refine call_meets F.slot_str_join (typeIs_str s sep tk) F.entry_str_join (F.args_str_join_2 _ _) (meets_str_join_list sep tk a l hl) ⟨p.isList,?_⟩
 match l,e2,hj with
 | [],e2,hj=>
  subst e2;exact⟨by rw[hj];exact jl,.str _,H,I.tok _,⟨_,rfl⟩,by rw[hj];exact q⟩
 | [z],e2,hj=>
  subst e2;exact⟨.str _,H,I,⟨_,rfl⟩,q⟩
 | z::z'::r,e2,hj=>
  subst e2;exact⟨by rw[hj];exact jl,.str _,H,I.tok _,⟨_,rfl⟩,by rw[hj];exact q⟩
def rC (x:Str) (n:Nat):Str:=⟨(List.replicate n x.cps).foldl (·++·) #[]⟩
def P5:R2:=fun x y H Q=>∃(t:Str) (n:Int),x=.str t/\y=.int n/\0<=n/\n<=1000/\t.length<=1000/\Q (.str (rC t n.toNat)) H
def tD (x:Str) (n:Nat):(rC x n).cps.toList=(List.replicate n x.cps.toList).flatten:=by
 have key:∀(n:Nat) (a:Array Nat),((List.replicate n x.cps).foldl (·++·) a).toList=a.toList++(List.replicate n x.cps.toList).flatten:=by
  intro n
  induction n with
  | zero=>intro a;simp
  | succ n ih=>intro a;rw[List.replicate_succ,List.foldl_cons,ih,List.replicate_succ,ya];simp
 have:=key n #[];show((List.replicate n x.cps).foldl (·++·) #[]).toList=_;rw[this];rfl
def Gi (x:Str) (n:Nat):(rC x n).length=n*x.length:=by
 have e:(rC x n).length=(rC x n).cps.toList.length:=Array.length_toList.symm;rw[e,tD];have e2:x.cps.toList.length=x.length:=Array.length_toList;simp[e2]
def MS (x:Str):rC x 1=x:=mm (by rw[tD];simp)
def O6:pW X (binaryOp .Mult) P5:=by
 intro pins s σ H x y v u Q I rx ry h;obtain⟨t,n,rfl,rfl,h0,h1,hl,q⟩:=h;obtain⟨tk,rfl⟩:=rx;obtain⟨tk',rfl⟩:=ry;have sl:=yC;have hm:t.length*n.toNat<=1000000:=by
  have:t.length*n.toNat<=1000*1000:=Nat.mul_le_mul hl nofun;omega
 refine P.mul_str (by rw[ze nofun,ze nofun];rfl) (fun h2 _=>?_) (fun _ _=>ze nofun) ?_
 ·have:(2^63-1)/1000<=((2:Int)^63-1)/n:=by
   rw[Int.le_ediv_iff_mul_le nofun];have:n*9223372036854775<=1000*9223372036854775:=Int.mul_le_mul_of_nonneg_right h1 ∅;omega
  omega
 ·by_cases c1:n<1
  ·have e:n.toNat=0:=nofun
   rw[if_pos c1];rw[e] at q;exact⟨∅,.str _,H,I.tok _,⟨_,rfl⟩,q⟩
  ·rw[if_neg c1]
   refine post_val_or_str ⟨?_,fun t' k=>⟨.str _,H,I.tok _,⟨_,rfl⟩,?_⟩⟩
   ·split
    ·omega
    ·have:=Gi t n.toNat
     have e:n.toNat*t.length=t.length*n.toNat:=Nat.mul_comm _ _;show(rC t n.toNat).length<=sizeLine;omega
   ·have ee:(if(n == 1||t.length == 0)=true then t else rC t n.toNat)=rC t n.toNat:=by
     split
     ·rename_i c2
      rw[Bool.or_eq_true,beq_iff_eq,beq_iff_eq] at c2;rcases c2 with rfl | c2
      ·exact(MS t).symm
      ·refine mm ?_
       have e2:t.cps.toList=[]:=yt.mp (by rw[Array.length_toList];exact c2);rw[tD,e2];simp
     ·rfl
    show Q (.str (if(n == 1||t.length == 0)=true then t else rC t n.toNat)) H;rw[ee];exact q
end
def KD (P:Program) (w:World) (K:yB) (a:Addr) (kvs:List (Str×V)):Prop:=
 (a == sysModules)=false/\(kvs.map (·.1)).Nodup/\∀h:Heap,K.In h->∃vs:List (Key×Value),KV (kvs.map fun p=>((Sum.inr p.1:Key),p.2)) vs/\h.DictOf (dr P w) a vs
def Hj (Pm:Params) (l:List (Str×Tok×Addr)):List DictEntry:=l.map fun p=>⟨PyData.keyHash Pm p.1,.str p.1 p.2.1,.ref p.2.2⟩
theorem Nk:∀{l:List Str},l.Nodup->(l.map (Sum.inr:Str->Key)).Nodup
 | [],_=>List.nodup_nil
 | x::r,h=>by
  rw[yd] at h;rw[zj,yd];exact⟨fun z=>by obtain⟨y,hy,e⟩:=zH.mp z;exact h.1 (Sum.inr.inj e▸hy),Nk h.2⟩
def SA {P:Program} {w:World} {K:yB} {a:Addr} {l:List (Str×Tok×Addr)} {n:Nat} (hl:K.lookup a=some {cls:=.type "dict",data:=.dict (Hj w.params l).toArray n}) (hs:(a == sysModules)=false) (nd:(l.map (·.1)).Nodup) :
  KD P w K a (l.map fun p=>(p.1,V.ref p.2.2)):=by
 have e1:(l.map fun p=>(p.1,V.ref p.2.2)).map (·.1)=l.map (·.1):=by rw[zB];rfl
 refine⟨hs,by rw[e1];exact nd,fun h X=>⟨l.map fun p=>(Sum.inr p.1,.ref p.2.2),?_,_,_,_,X _ _ hl,⟨rfl,rfl,rfl⟩,rfl,?_,?_,?_⟩⟩
 ·clear hl nd e1
  induction l with
  | nil=>exact .nil
  | cons p r ih=>exact .cons ⟨rfl,rfl⟩ ih
 ·intro e he
  rw[List.mem_toArray] at he;obtain⟨p,_,rfl⟩:=zH.mp he;exact⟨Sum.inr p.1,pR p.1 p.2.1,rfl⟩
 ·show PySem.Pairs _ (Hj w.params l) _
  clear hl nd e1
  induction l with
  | nil=>exact .nil
  | cons p r ih=>exact .cons (pR p.1 p.2.1) rfl ih
 ·have e2:(l.map fun p=>((Sum.inr p.1:Key),(Value.ref p.2.2))).map (·.1)=(l.map (·.1)).map Sum.inr:=by rw[zB,zB];rfl
  rw[e2];exact Nk nd
def uD (kvs:List (Str×V)) (k:Str):Option V:=(kvs.find? fun p=>decide (p.1=k)).map (·.2)
theorem Ja:∀{kvs:List (Str×V)} {vs:List (Key×Value)} (k:Str),KV (kvs.map fun p=>((Sum.inr p.1:Key),p.2)) vs->m8 (uD kvs k) (valueAt vs (Sum.inr k))
 | [],_,_,.nil=>trivial
 | (x,v)::r,_,k,.cons (b:=b) h t=>by
  obtain⟨h1,h2⟩:=h;obtain⟨bk,bv⟩:=b;dsimp only at h1 h2;subst h1
  by_cases e:x=k
  ·subst e
   simp only[uD,valueAt,List.find?_cons,decide_true];exact h2
  ·have ih:=Ja k t
   have e':¬((Sum.inr x:Key)=Sum.inr k):=fun z=>e (Sum.inr.inj z);simp only[uD,valueAt,List.find?_cons,e,e',decide_false] at ih ⊢;exact ih
def QH (P:Program) (w:World) (K:yB) (td ty:TE):TE:=fun σ H Q=>td σ H fun x H1=>ty σ H1 fun y H2=>∃a kvs k v,x=.ref a/\KD P w K a kvs/\y=.str k/\uD kvs k=some v/\Q v H2
def Se (P:Program) (w:World) (K:yB) (b:Bool) (ty td:TE):TE:=fun σ H Q=>ty σ H fun y H1=>td σ H1 fun x H2=>∃a kvs k,x=.ref a/\KD P w K a kvs/\y=.str k/\Q (.bl (b ^^ (uD kvs k).isSome)) H2
section
variable {X:Cx} {pos:Pos} {o i:Expr} {td ty:TE}
theorem m8.Jb:∀{a:Option V} {b:Option Value},m8 a b->a.isSome=b.isSome
 | some _,some _,_=>rfl
 | none,none,_=>rfl
 | some _,none,h=>h.elim
 | none,some _,h=>h.elim
def Gs (ho:PE X o td) (hi:PE X i ty) (hs:RN i):PE X (.Subscript o i pos) (QH X.prog X.w X.K td ty):=by
 intro pins s σ H Q I h;refine J0 PySem.F.slot_dict_getitem.lookup hs (dh (ho pins s σ H _ I h) fun u s1 ⟨x,H1,I1,rx,q1⟩=>dh (hi pins s1 σ H1 _ I1 q1) fun iv s2 zz=>?_);obtain⟨y,H2,I2,ry,a,kvs,k,v,ex,kd,ey,hv,q2⟩:=zz;subst ex ey;obtain rfl:u=Value.ref a:=rx;obtain⟨tk,rfl⟩:=ry;obtain⟨hd,_,hk⟩:=kd;obtain⟨vs,rel,dd⟩:=hk _ I2.tW;have rv:=Ja k rel;rw[hv] at rv;cases hw:valueAt vs (Sum.inr k) with
 | none=>rw[hw] at rv;exact rv.elim
 | some w'=>
  rw[hw] at rv;exact⟨dd.typeIs,wpAny_getItem_of (pR k tk) dd.mapOf hw ⟨v,H2,I2.tok _,rv,q2⟩⟩
def O3 (hi:PE X i ty) (ho:PE X o td):PC X .In i o (Se X.prog X.w X.K false ty td):=by
 intro pins s σ H Q I h;refine dh (hi pins s σ H _ I h) fun iv s1 ⟨y,H1,I1,ry,q1⟩=>dh (ho pins s1 σ H1 _ I1 q1) fun u s2 zz=>?_;obtain⟨x,H2,I2,rx,a,kvs,k,ex,kd,ey,q2⟩:=zz;subst ex ey;obtain rfl:u=Value.ref a:=rx;obtain⟨tk,rfl⟩:=ry;obtain⟨hd,_,hk⟩:=kd;obtain⟨vs,rel,dd⟩:=hk _ I2.tW;refine wpAny_in_of (wm _ _ k tk) hd dd.mapOf ?_;have e:=m8.Jb (Ja k rel);exact⟨.bl _,H2,I2.tok _,rfl,by rw[e,Bool.false_xor] at q2;exact q2⟩
end
structure RP (X:Cx) (CX:JR) (k:Nat) (f:Addr) (sp:Sp):Prop where
 ok:∃fd ps,dU X.prog X.w X.K X.mg X.base CX k f fd ps sp/\PySem.W.keepIn X.K (.ref f)=true/\Binds X.K fd ps []
def QJ (Tb:Addr->Sp->Prop) (E:XK) (i:Nat) (t:TA):TE:=fun σ H Q=>∃f sp,σ[i]?=some (some (.ref f))/\Tb f sp/\t σ H fun vs H1=>sp vs H1 Q E
section
variable {X:Cx} {CX:JR} {k:Nat} {x:Str} {i:Nat} {p pos:Pos} {e:Expr} {es:List Expr} {t:TA} {E:XK}
def Gw (Tb:Addr->Sp->Prop) (hT:∀f sp,Tb f sp->RP X CX k f sp) (hr:gg k X.A) (hv:PE X (.Name x p) (bf i)) (hx:Passes CX X E)
  (ha:PA X (e::es) t) (he:starEach (e::es) X.env=(false,eval e X.env)::starEach es X.env<|>qe_) (hpl:(backTo pos (starEach es X.env)).any (·.1)=false<|>qe_) :
  PE X (.Call (.Name x p) (e::es) [] pos) (QJ Tb E i t):=by
 intro pins s σ H Q I h;obtain⟨f,sp,hf,hTb,h⟩:=h;obtain⟨fd,ps,F,hk,hb⟩:=(hT f sp hTb).ok;refine wpAny_Call_Name_kw (dh (hv pins s σ H (fun v H1=>v=.ref f/\H1=H) I ⟨_,hf,rfl,rfl⟩) fun u s1 zz=>?_);obtain⟨v,H1,I1,rv,ev,eH⟩:=zz;subst ev eH;obtain rfl:u=Value.ref f:=rv;refine PySem.W.callWith_K (h₀:=X.base) I1.ok.mod.Rh hk (dh (ha pos pins s1 σ _ _ I1 h) fun us s2 ⟨vs,H2,I2,r,q⟩=>⟨I2.tW,?_⟩) he hpl;exact MN F hr hb .nil hx I2 r (by rw[zV];exact q)
end
def R9 (sp:Sp) (t:TA) (C:Addr) (th:TS):TS:=fun D σ H=>t σ H fun vs H1=>sp vs H1 (fun v H2=>D.rt v H2) fun cls _ H2=>cls=.ref C/\th D σ H2
section
variable {X:Cx} {k:Nat} {f:Addr} {fd:FuncData} {ps:List Str} {sp:Sp} {fx cn:Str} {p pos cpos pa np hpos:Pos} {e₀:Expr} {es:List Expr} {t:TA} {C:Addr} {bm:List Value} {newId:String} {b₀:Stmt} {suite:List Stmt} {th:TS}
def OX (F:dU X.prog X.w X.K X.mg X.base (Ic X.prog X.w) k f fd ps sp) (hr:gg k X.A) (hg:Gl X fx) (hm:X.mg fx=some (.ref f)) (hk:PySem.W.keepIn X.K (.ref f)=true) (hb:Binds X.K fd ps []) (ha:PA X.IU (e₀::es) t)
  (hc:X.calm=true) (hgc:Gl X cn) (hC0:PySem.W.nsIn X.K mainGlobals cn=some (some (.ref C))) (hQ0:PySem.W.excIn X.K C bm newId=true) (hbase:bm.contains (.type "BaseException")=true) (hstk:X.stack=X.env::X.outer) (hfrm:X.env.frame=some X.env.locals)
  (hsu:∀e,DC (X.held e).IU (b₀::suite) th)
  (hdb:(fx == ("__debug__": Str))=false<|>qb_) (hdc:(cn == ("__debug__": Str))=false<|>qb_) (he:starEach (e₀::es) X.env=(false,eval e₀ X.env)::starEach es X.env<|>qe_) (hpl:(backTo cpos (starEach es X.env)).any (·.1)=false<|>qe_) :
  PS X (.Try [.Return (some (.Call (.Name fx p) (e₀::es) [] cpos)) pa] [.ExceptHandler (some (.Name cn np)) none (b₀::suite) hpos] [] [] pos) (R9 sp t C th):=by
 intro pins s σ H D I h;have O:OwnCls cn C bm newId X.mg X.base:=rJ X.prog I.ok.mod hC0 hQ0;refine wpAny_Try_except (wpAny_execs_cons ?_);refine wpAny_Return_some ?_;refine wpAny_Call_Name_kw (kJ I hg hm ?_ hdb);have hA:wpAny (model X.prog X.w) X.A (spliced (backTo cpos (starEach (e₀::es) X.env))) (AP X.IU pins σ _) (fun _ _=>False) s:=ha cpos pins s σ H _ (I.sk _) h;refine PySem.W.callWith_K (h₀:=X.base) I.ok.mod.Rh hk (wpAny_mono hA (fun us s1 ⟨vs,H1,I1',r,q⟩=>⟨I1'.tW,?_⟩) fun _ _ z=>z.elim) he hpl;have I1:Inv X pins σ H1 s1:=I1'.iM;have hl:us.length=ps.length:=by rw[<-r.length];exact F.len _ _ _ _ q
 refine wpAny_call (codeAny_mono (F.run X.A X.stack s1 H1 ⟨us,[]⟩ us vs _ _ hr I1.Po (by have:=hb s1 us I1.tW (by rw[zV];exact hl);rw[zV] at this;exact this) r q) fun rr s' hq=>?_);cases rr with
 | ok fl=>
  cases fl with
  | ret u=>
   obtain⟨v,H2,I2,r2,q2⟩:=I1.after hq;exact⟨v,σ,H2,I2,r2,q2⟩
  | next=>exact False.elim hq
  | brk=>exact False.elim hq
  | cont=>exact False.elim hq
 | error ev=>
  obtain⟨a,cls,a0,B,H',rfl,os,bare,fl,fly,⟨rfl,q2⟩⟩:=hq;have G5:∀b∈qR X.stack,H1 b=none:=I1.su;have nf:∀{hh:Heap},Heap.FunFrames hh B X.stack->∀b∈qR X.stack,∃o,hh.get? b=some o/\∀vs,o.data≠.fields vs:=fun hF b hb=>(hF.mem hb).2;have back:∀(hh:Heap),Md X.prog X.w (qR X.stack) H1 H' s1.heap B hh->Inv X pins σ H' {s' with heap:=hh}:=fun hh fy=>
   I1.N2 (s':={s' with heap:=hh}) (ch:=[]) os (fy.un G5) (fy.cm.kept fy.mn) bare fun b z=>absurd z (by simp)
  have hfr:X.A.frames=some (X.env::X.outer):=by rw[<-hstk];exact I1.ok.frames
  refine wpAny_looks_onW hfr hfrm (by rw[<-hstk];exact fl) fun h4 held4 up4=>?_;refine wpAny_landsW held4 fun h5 fl5 up5=>?_;have fl5':Heap.FlyingW B X.stack a (.ref C) a0 h5:=by rw[hstk];exact fl5
  have fy5:Md X.prog X.w (qR X.stack) H1 H' s1.heap B h5:=fly.on (up4.trans up5) fl5.1 (nf fl.2.2.1);have I5:=back h5 fy5;obtain⟨ob,hob,hobc⟩:=fl5'.there;obtain⟨tl,Nn,nm,qn,bs,hdct,sn,sub,ab,col,dd,k0,k1,k2,k3,k5,mN,hC,hN',hni,T⟩:=O.obj;refine wpAny_handleBy_cons (codeAny_handlers_test (kJ (X:=X.held (.ref a)) (I5.held _) hgc O.bound ?_ hdc)) (by intro q;cases q);refine wpAny_excMatches_sub_self (I5.bk _ _ hC) hob hobc (T.hasType hbase) (codeAny_handlers_suite ?_);refine lands_againW fl5' fun h6 fl6 up6=>?_;have fy6:Md X.prog X.w (qR X.stack) H1 H' s1.heap B h6:=fy5.on up6 fl6.1 (nf fl5'.2.2.1);have I6:=back h6 fy6;refine wpAny_mono (hsu (.ref a) pins _ σ H' D ((I6.held _).sk _) q2) (fun fl s7 z=>?_) fun _ _ z=>z.elim;exact SP.mi I.ok.hd (SP.iM z)
end
section
variable {prog:Program} {w:World} {A:Around} {E:Value->Shared->Prop} {s:Shared}
def MW (hd:(d == sysModules)=false) (ho:s.heap.get? d=some o) (hx:o.ExactDict) (hdat:o.data=.dict es ep)
  (hQ:Q (.ref ↑s) {s with heap:=s.heap.push {cls:=.type "dict_keyiterator",data:=.fields #[.ref d,.int 0 0,.int es.size 0,.int ep 0]}}) :
  wpAny (model prog w) A (pyIter (.ref d)) Q E s:=by
 have hT:s.TypeIs (.ref d) "dict":=⟨o,ho,hx.1⟩
 refine wpAny_pyIter_slot hT F.slot_dict_iter (wpAny_call_entry F.slot_dict_iter hT F.entry_dict_iter ?_ (F.args_dict_iter_1 _));unfold Builtin.«dict.__iter__»;refine yu ?_;unfold Builtin.Dict.dictSlotNone;refine yu (wpAny_notOrdered_dict hT ?_);show wpAny _ _ (pure (Value.ref d)) _ _ s;refine yw ?_;show wpAny _ _ (Builtin.Dict.showsAll d >>= _) _ _ s;unfold Builtin.Dict.showsAll;rw[if_neg (by rw[hd];exact zL)];refine yu (yw ?_);refine yu (wpAny_dictEntries ho hdat ?_);refine yu (wpAny_dictEpoch ho hdat ?_);refine yu (wpAny_newObj_type (yw ⟨_,rfl,"dict_keyiterator",_,⟨_,yx _ rfl,rfl⟩,F.slot_dict_keyiterator_next.lookup,?_⟩))
 simpa[rawInt] using hQ
def MX (hit:s.heap.IsKeyIter it d i es.size ep)
  (hod:s.heap.get? d=some od) (hdd:od.data=.dict es ep) (hx:es[i]?=some e)
  (hQ:∀h',h'.IsKeyIter it d (i+1) es.size ep->Heap.SameBut it s.heap h'->Q (some e.key) {s with heap:=h'}) :
  wpAny (model prog w) A (pyNext (.ref it)) Q E s:=by
 obtain⟨o,ho,hc,hd⟩:=id hit;unfold pyNext;refine yu (wpAny_attempt (wpAny_callSpecial?_slot (name:=Str.ofString "__next__") hit.typeIs F.slot_dict_keyiterator_next
  (wpAny_call_entry F.slot_dict_keyiterator_next hit.typeIs F.entry_dict_keyiterator_next ?_ (F.args_dict_keyiterator_next_1 _))))
 refine yu (yw ?_);refine yu ?_;refine yu ?_
 first | refine yu (wpAny_typeNameOfWhole_keyiter hit.typeIs (yw ?_)) | refine yu (wpAny_typeNameOf_keyiter hit.typeIs (yw ?_))
 refine yu (wpAny_fieldsOf ho hd ?_);have hown:Builtin.Dict_items.ownsTuple "dict_keyiterator"= false:=by decide
 simp only[hown,Bool.false_eq_true,if_false];show wpAny _ _ (if(Value.ref d == Value.none)=true then _ else _) _ _ s;rw[if_neg (show¬((Value.ref d == Value.none)=true) from zL)];refine yu (yw ?_);refine yu (wpAny_dictEntries hod hdd ?_);rw[if_neg (by simp)];refine yu (yw ?_);refine yu (wpAny_dictEpoch hod hdd ?_);rw[if_neg (by simp)];refine yw ?_;simp only[show¬((i:Int)<0) from by omega,if_false,Int.toNat_natCast,hx];refine yu ?_
 first | refine yu (wpAny_typeNameOfWhole_keyiter hit.typeIs (yw ?_)) | refine yu (wpAny_typeNameOf_keyiter hit.typeIs (yw ?_))
 refine yu (wpAny_isOneOf_keyiter hit.typeIs ?_);show wpAny _ _ (setField (.ref it) 1 (rawInt ((i:Int)+1)) >>= _) _ _ s;refine yu (wpAny_setField ho hd (by simp) ?_);have hit':(s.heap.update it (Obj.mapFields (·.setIfInBounds 1 (rawInt ((i:Int)+1))))).IsKeyIter it d (i+1) es.size ep:=
  ⟨_,yA _ ho (Obj.isFreed_of_fields (Obj.data_mapFields hd _)),(Obj.cls_mapFields ..).trans hc,by rw[Obj.data_mapFields hd];simp[rawInt]⟩
 refine yu (wpAny_holding ?_);refine yu (wpAny_isOneOf_keyiter (s:={s with heap:=s.heap.update it (Obj.mapFields (·.setIfInBounds 1 (rawInt ((i:Int)+1))))}) hit'.typeIs ?_);show wpAny _ _ (pure e.key) _ _ _;exact yw (yw ⟨_,rfl,yw (hQ _ hit' (Heap.SameBut.update ..))⟩)
def OS (hh:A.handled=none) (hit:s.heap.IsKeyIter it d i es.size ep)
  (hod:s.heap.get? d=some od) (hdd:od.data=.dict es ep) (hx:es.size<=i)
  (hQ:∀h',Heap.ExtBut it s.heap h'->Q none {s with heap:=h'}):wpAny (model prog w) A (pyNext (.ref it)) Q E s:=by
 obtain⟨o,ho,hc,hd⟩:=id hit;unfold pyNext;refine yu (wpAny_attempt (wpAny_callSpecial?_slot (name:=Str.ofString "__next__") hit.typeIs F.slot_dict_keyiterator_next
  (wpAny_call_entry F.slot_dict_keyiterator_next hit.typeIs F.entry_dict_keyiterator_next ?_ (F.args_dict_keyiterator_next_1 _))))
 refine yu (yw ?_);refine yu ?_;refine yu ?_
 first | refine yu (wpAny_typeNameOfWhole_keyiter hit.typeIs (yw ?_)) | refine yu (wpAny_typeNameOf_keyiter hit.typeIs (yw ?_))
 refine yu (wpAny_fieldsOf ho hd ?_);have hown:Builtin.Dict_items.ownsTuple "dict_keyiterator"= false:=by decide
 simp only[hown,Bool.false_eq_true,if_false];show wpAny _ _ (if(Value.ref d == Value.none)=true then _ else _) _ _ s;rw[if_neg (show¬((Value.ref d == Value.none)=true) from zL)];refine yu (yw ?_);refine yu (wpAny_dictEntries hod hdd ?_);rw[if_neg (by simp)];refine yu (yw ?_);refine yu (wpAny_dictEpoch hod hdd ?_);rw[if_neg (by simp)];refine yw ?_;simp only[show¬((i:Int)<0) from by omega,if_false,Int.toNat_natCast,Array.getElem?_eq_none hx];refine yu ?_
 first | refine yu (wpAny_typeNameOfWhole_keyiter hit.typeIs (yw ?_)) | refine yu (wpAny_typeNameOf_keyiter hit.typeIs (yw ?_))
 show wpAny _ _ (setField (.ref it) 0 .none >>= _) _ _ s;refine yu (wpAny_setField ho hd (by simp) ?_);show wpAny _ _ (newExc (.type "StopIteration") [] >>= _) _ _ _;refine yu ?_;simp only[newExc,newTuple];refine yu (wpAny_newObj_type ?_ (by size_fits));refine yu (m:=firstArgMember _ _) (wpAny_of_eq (a:=Value.none) (by first | rfl | (simp only[firstArgMember];rfl)) ?_);refine wpAny_newObj_type ?_ (by size_fits);simp only[raiseNew];refine yu (wpAny_handled ?_);rw[show A.in1.handled=none from hh];refine yu (yw (wpAny_throw ?_));refine yu (wpAny_isInstance (T:="StopIteration") (b:=true) ⟨_,yx _ rfl,rfl⟩ isSubtype_stop ?_);exact yw (hQ _ (((Heap.SameBut.update ..).extBut.push _).push _))
end
def Ol (H:Hp) (d:Addr) (o:Obj) (n:Nat) (kat:Hp->Nat->V->Prop):Prop:=∃u,H d=some (.oy o u)/\((∃kvs:List (Key×V),u=.dK kvs/\n=kvs.length/\kat=fun _ i x=>∃p,kvs[i]?=some p/\x=kV p.1)\/
 ∃kvs:List (List Key×V),u=.dT kvs/\n=kvs.length/\kat=fun H i x=>∃p b,kvs[i]?=some p/\H b=some (.tup (p.1.map kV))/\x=.ref b)
theorem C2 {K:Type} [DecidableEq K] {prog:Program} {w:World} {knd:KeyKind prog w K}:∀{es:List DictEntry} {kvs:List (K×Value)} {i:Nat} {e:DictEntry},PySem.Pairs knd es kvs->es[i]?=some e->∃kv,kvs[i]?=some kv/\knd.is kv.1 e.key=true/\e.val=kv.2
 | _,_,_,_,.nil,h=>by simp at h
 | _,_,0,_,.cons a b _,h=>by simp at h;subst h;exact⟨_,rfl,a,b⟩
 | _,_,i+1,_,.cons _ _ t,h=>by
  obtain⟨kv,h1,h2⟩:=C2 (i:=i) t (by simpa using h);exact⟨kv,by simpa using h1,h2⟩
theorem mJ:∀{l:List α} {m:List β} {i:Nat} {b:β},Paired F l m->m[i]?=some b->∃a,l[i]?=some a/\F a b
 | _,_,_,_,.nil,h=>by simp at h
 | _,_,0,_,.cons r _,h=>by simp at h;subst h;exact⟨_,rfl,r⟩
 | _,_,i+1,_,.cons _ t,h=>by
  obtain⟨a,h1,h2⟩:=mJ (i:=i) t (by simpa using h);exact⟨a,by simpa using h1,h2⟩
section
variable {X:Cx} {pins:List (Addr×Obj)} {σ:St} {H:Hp} {s:Shared} {d:Addr} {o:Obj} {n:Nat} {kat:Hp->Nat->V->Prop}
def Ol.raw (f:Ol H d o n kat) (I:Inv X pins σ H s):(d == sysModules)=false/\∃es ep,s.heap.get? d=some o/\o.ExactDict/\o.data=.dict es ep/\es.size=n/\∀i e,es[i]?=some e->∃x,RelV x e.key/\kat H i x:=by
 obtain⟨u,hH,hu⟩:=f;obtain⟨ho,ok⟩:=(show cI X.prog X.w H s.heap d (.oy o u) from I.cm d _ hH)
 rcases hu with⟨kvs,rfl,rfl,rfl⟩ | ⟨kvs,rfl,rfl,rfl⟩
 ·obtain⟨_,hd,vs,rel,o',es,ep,ho',hx,hdat,_,hp,_⟩:=ok
  have hl:es.size=kvs.length:=by
   have h1:=hp.length;have h2:kvs.length=vs.length:=Paired.length rel;have h3:es.toList.length=es.size:=Array.length_toList;omega
  rw[ho] at ho';cases ho';refine⟨hd,es,ep,ho,hx,hdat,hl,fun i e he=>?_⟩;obtain⟨kv,h1,h2,_⟩:=C2 hp (i:=i) (e:=e) (by rw[Array.getElem?_toList];exact he);obtain⟨p,h3,h4,_⟩:=mJ rel h1;refine⟨kV p.1,?_,p,h3,rfl⟩;rw[<-h4] at h2;rcases du h2 with⟨j,t,e1,e2⟩ | ⟨y,t,e1,e2⟩
  ·rw[e1,e2];exact⟨t,rfl⟩
  ·rw[e1,e2];exact⟨t,rfl⟩
 ·obtain⟨_,hd,xs,rel,o',es,ep,ho',hx,hdat,he,_⟩:=ok
  have h3:es.toList.length=es.size:=Array.length_toList;have hl:es.size=kvs.length:=by
   have h2:kvs.length=xs.length:=Paired.length rel;rw[he,za] at h3;omega
  rw[ho] at ho';cases ho';refine⟨hd,es,ep,ho,hx,hdat,hl,fun i e hi=>?_⟩;rw[<-Array.getElem?_toList,he,zK] at hi;cases q:xs[i]? with
  | none=>rw[q] at hi;cases hi
  | some y=>
   rw[q] at hi;cases hi;obtain⟨p,h4,h5,h6,_⟩:=mJ rel q;exact⟨.ref y.2.1,rfl,p,y.2.1,h4,h6,rfl⟩
end
def UX (d:Addr) (o:Obj) (n:Nat) (kat:Hp->Nat->V->Prop):It:=⟨fun i H=>Ol H d o n kat/\i<n,fun i H x H'=>H'=H/\kat H i x,fun i H=>Ol H d o n kat/\n<=i⟩
def KN {P:Program} {w:World} {K:yB} {tg:Expr} (d it:Addr) (n:Nat) (kat:Hp->Nat->V->Prop) (o:Obj) (es:Array DictEntry) (ep:Nat) (hdat:o.data=.dict es ep) (hn:es.size=n) :
  Turn P w K tg (UX d o n kat) [it] it (fun i h=>h.IsKeyIter it d i n ep) where
 mem:=by simp
 obj:=fun i h st b hb=>by
  have e:b=it:=by simpa using hb
  subst e;obtain⟨o,e,c,d⟩:=st;exact⟨o,e,fun v z=>by rw[d] at z;cases z⟩
 keep:=fun i h h' st k=>st.at fun o e=>k it (by simp) o e
 item:=by
  intro X hP hw hK hc i pins s σ H E I hf st hg;subst hP hw hK hn;obtain⟨fz,hlt⟩:=hg;obtain⟨hd,es',ep',ho,hx,hdat',hsz,hk⟩:=fz.raw I;rw[hdat] at hdat';cases hdat';obtain⟨f0,f1,f2,f3,f4,f5⟩:=hf it (by simp);have he:es[i]?=some es[i]:=Array.getElem?_eq_getElem hlt;obtain⟨x,rx,kx⟩:=hk i _ he;refine MX st ho hdat he fun h' st' sb=>?_;have I1:Inv X pins σ H {s with heap:=h'}:=I.turned (t':=s.toks) (fun b o hb e=>(sb.2 b hb).trans e) f0 f1 f3 f4 f5;obtain⟨oi,e,c,dd⟩:=id st';exact⟨_,rfl,Dj (s:={s with heap:=h'}) e c dd ∅ ⟨x,H,I1,rx,⟨rfl,kx⟩,st',fun b hb=>(hf b hb).1⟩⟩
 done:=by
  intro X hP hw hK hc i pins s σ H E I hf st hg;subst hP hw hK hn;obtain⟨fz,hge⟩:=hg;obtain⟨hd,es',ep',ho,hx,hdat',hsz,hk⟩:=fz.raw I;rw[hdat] at hdat';cases hdat';obtain⟨f0,f1,f2,f3,f4,f5⟩:=hf it (by simp);exact OS (I.ok.hd hc) st ho hdat hge fun h' eb=>⟨rfl,I.turned (t':=s.toks) (fun b o hb e=>eb b o hb e) f0 f1 f3 f4 f5⟩
 self:=fun _ _ _ _ _ st h=>wpAny_pyIter_keyiter st h
def SI (td:TE):TI:=fun σ H R=>td σ H fun x H1=>∃d o n kat,x=.ref d/\Ol H1 d o n kat/\R (UX d o n kat) H1
section
variable {X:Cx} {tg l:Expr} {tl:TE}
def OZ (hl:PE X l tl):PI X tg l (SI tl):=by
 intro pins s σ H R I h;refine dh (hl pins s σ H _ I h) fun v s1 zz=>?_;obtain⟨x,H1,I1,r1,q1⟩:=zz;obtain⟨d,o,n,kat,e,fz,q⟩:=q1;subst e;cases r1;obtain⟨hd,es,ep,ho,hx,hdat,hsz,hk⟩:=fz.raw I1;refine MW hd ho hx hdat ?_;refine⟨↑s1,[↑s1],_,_,H1,rfl,I1.kept (t':=s1.toks) fun b o e=>yv _ e,KN d _ n kat o es ep hdat hsz,⟨_,yx _ rfl,rfl,by rw[hsz];rfl⟩,fun b hb=>?_,q⟩;have e:b=↑s1:=by simpa using hb
 subst e;exact I1.xj (zm _) (I1.cm.fresh (zm _))
end
def JP (H:Hp) (d:Addr) (o:Obj) (kvs:List (Key×V)):Prop:=H d=some (.oy o (.dK kvs))
def Oi (d:Addr) (o:Obj) (kvs:List (Key×V)):It:=⟨fun i H=>JP H d o kvs/\i<kvs.length,fun i H x H'=>H'=H/\∃p,kvs[i]?=some p/\x=p.2,fun i H=>JP H d o kvs/\kvs.length<=i⟩
section
variable {X:Cx} {pins:List (Addr×Obj)} {σ:St} {H:Hp} {s:Shared} {d:Addr} {o:Obj} {kvs:List (Key×V)}
def JP.at' (f:JP H d o kvs) (I:Inv X pins σ H s):(d == sysModules)=false/\∃vs es ep,KV kvs vs/\o.data=.dict es ep/\s.heap.DictAt (dr X.prog X.w) d vs ep:=by
 obtain⟨ho,ok⟩:=(show cI X.prog X.w H s.heap d (.oy o (.dK kvs)) from I.cm d _ f)
 obtain⟨_,hd,vs,rel,o',es,ep,ho',hx,hdat,hk,hp,nd⟩:=ok;rw[ho] at ho';cases ho';exact⟨hd,vs,es,ep,rel,hdat,o,es,ho,hx,hdat,hk,hp,nd⟩
end
def FL {P:Program} {w:World} {K:yB} {tg:Expr} (d it:Addr) (o:Obj) (kvs:List (Key×V)) (es:Array DictEntry) (ep:Nat) (hdat:o.data=.dict es ep) :
  Turn P w K tg (Oi d o kvs) [it] it (fun i h=>h.IsValIter it d i kvs.length ep) where
 mem:=by simp
 obj:=fun i h st b hb=>by
  have e:b=it:=by simpa using hb
  subst e;obtain⟨o,e,c,d⟩:=st;exact⟨o,e,fun v z=>by rw[d] at z;cases z⟩
 keep:=fun i h h' st k=>st.at fun o e=>k it (by simp) o e
 item:=by
  intro X hP hw hK hc i pins s σ H E I hf st hg;subst hP hw hK;obtain⟨fz,hlt⟩:=hg;obtain⟨hd,vs,es',ep',rel,hdat',da⟩:=fz.at' I;rw[hdat] at hdat';cases hdat';obtain⟨f0,f1,f2,f3,f4,f5⟩:=hf it (by simp);have hl:kvs.length=vs.length:=Paired.length rel;have hi:vs[i]?=some (vs[i]'nofun):=zd nofun;obtain⟨p,h3,h4,h5⟩:=mJ rel hi;refine wpAny_pyNext_values_item (by rw[<-hl];exact st) da hi fun h' st' sb=>?_;have I1:Inv X pins σ H {s with heap:=h'}:=I.turned (t':=s.toks) (fun b o hb e=>(sb.2 b hb).trans e) f0 f1 f3 f4 f5;obtain⟨oi,e,c,dd⟩:=id st';exact⟨_,rfl,Dj (s:={s with heap:=h'}) e c dd ∅ ⟨p.2,H,I1,h5,⟨rfl,p,h3,rfl⟩,by rw[hl];exact st',fun b hb=>(hf b hb).1⟩⟩
 done:=by
  intro X hP hw hK hc i pins s σ H E I hf st hg;subst hP hw hK;obtain⟨fz,hge⟩:=hg;obtain⟨hd,vs,es',ep',rel,hdat',da⟩:=fz.at' I;rw[hdat] at hdat';cases hdat';obtain⟨f0,f1,f2,f3,f4,f5⟩:=hf it (by simp);have hl:kvs.length=vs.length:=Paired.length rel;exact wpAny_pyNext_values_end (I.ok.hd hc) (by rw[<-hl];exact st) da (by simp;omega) fun h' eb=>⟨rfl,I.turned (t':=s.toks) (fun b o hb e=>eb b o hb e) f0 f1 f3 f4 f5⟩
 self:=fun _ _ _ _ _ st h=>wpAny_pyIter_valiter st h
def Pj (td:TE):TI:=fun σ H R=>td σ H fun x H1=>∃d o kvs,x=.ref d/\JP H1 d o kvs/\R (Oi d o kvs) H1
section
variable {X:Cx} {tg l:Expr} {tl:TE} {apos cpos:Pos}
def La (hl:PE X l tl) (hbase:attributeBase l "values" X.env (eval l X.env)=eval l X.env<|>qe_) (hline:(apos.endLine == cpos.line)=true<|>qe_):PI X tg (.Call (.Attribute l "values" apos) [] [] cpos) (Pj tl):=by
 intro pins s σ H R I h;refine wpAny_Call_method0_late hbase hline (dh (hl pins s σ H _ I h) fun v s1 zz=>?_);obtain⟨x,H1,I1,r1,q1⟩:=zz;obtain⟨d,o,kvs,e,fz,q⟩:=q1;subst e;cases r1;obtain⟨hd,vs,es,ep,rel,hdat,da⟩:=fz.at' I1;refine⟨"dict","dict.values",F.plainAttrs_dict,F.slot_dict_values,F.type_dict_values,da.dictOf.typeIs,da.dictOf.mapOf.noDict,Calls.callWith_builtin rfl (PySem.evalArgs_none ?_)⟩;refine call_meetsIn F.slot_dict_values da.dictOf.typeIs F.entry_dict_values (F.args_dict_values_1 _) (meets_dict_values (dr X.prog X.w) d hd) ⟨⟨vs,da.dictOf⟩,?_⟩;have I2:Inv X pins σ H1 {s1 with heap:=s1.heap.push {cls:=.type "dict_values",data:=.fields #[.ref d]}}:=I1.kept (t':=s1.toks) fun b o e=>yv _ e;obtain⟨_,vs2,es2,ep2,rel2,hdat2,da2⟩:=fz.at' I2;rw[hdat] at hdat2;cases hdat2;have hl2:kvs.length=vs2.length:=Paired.length rel2;refine wpAny_pyIter_values (knd:=dr X.prog X.w) ⟨_,yx _ rfl,rfl,rfl⟩ da2 ?_;refine⟨_,[_],_,_,H1,rfl,I2.kept (t':=s1.toks) fun b o e=>yv _ e,FL d _ o kvs es ep hdat,⟨_,yx _ rfl,rfl,by rw[hl2];rfl⟩,fun b hb=>?_,q⟩;rw[zA.mp hb];exact I2.xj (zm _) (I2.cm.fresh (zm _))
end
def Je {d:Addr} {o:Obj} {kvs:List (Key×V)} {g:TG} {tb:TS} {D:Ends} {σ:St} {H:Hp} (Pv:Nat->St->Hp->Prop) (h0:Pv 0 σ H) (hf:∀i σ H,i<=kvs.length->Pv i σ H->JP H d o kvs)
  (hs:∀i p σ H,kvs[i]?=some p->Pv i σ H->g p.2 σ H fun σ2 H2=>tb {D with nx:=Pv (i+1),ct:=Pv (i+1),bk:=D.nx} σ2 H2) (hd:∀σ H,Pv kvs.length σ H->D.nx σ H) :
  ∃W:Nat->Nat->St->Hp->Prop,(∃m,W 0 m σ H)/\∀i m σ H,W i m σ H->
   ((Oi d o kvs).stop i H/\D.nx σ H)\/((Oi d o kvs).go i H/\∃Nn:St->Hp->Prop,(∀σ' H',Nn σ' H'->∃m',m'<m/\W (i+1) m' σ' H')/\∀v H',(Oi d o kvs).KI i H v H'->g v σ H' fun σ2 H2=>tb {D with nx:=Nn,ct:=Nn,bk:=D.nx} σ2 H2):=by
 refine⟨fun i m σ H=>m=kvs.length-i/\i<=kvs.length/\Pv i σ H,⟨kvs.length,by simp,yg _,h0⟩,?_⟩;rintro i m σ H ⟨rfl,hi,pv'⟩;rcases Nat.lt_or_ge i kvs.length with hlt | hge
 ·refine .inr ⟨⟨hf i σ H hi pv',hlt⟩,Pv (i+1),fun σ' H' p'=>⟨kvs.length-(i+1),nofun,rfl,hlt,p'⟩,fun v H' y=>?_⟩
  obtain⟨e1,p,hp,e2⟩:=y;rw[e1,e2];exact hs i p σ H hp pv'
 ·have e:i=kvs.length:=nofun
  subst e;exact .inl ⟨⟨hf _ σ H hi pv',zm _⟩,hd σ H pv'⟩
def SG:HO->Bool
 | .dK _=>true
 | .dT _=>true
 | _=>false
def dU.PY {P:Program} {w:World} {K:yB} {mg:Str->Option Value} {base:Heap} {k:Nat} {f:Addr} {fd:FuncData} {ps:List Str} {sp sp':Sp} (F:dU P w K mg base Ie k f fd ps sp) (len:∀vs H Q E,sp' vs H Q E->vs.length=ps.length)
  (h:∀vs H Q E,sp' vs H Q E->∃d u,H d=some u/\SG u=true/\∀o,sp vs (upd H d (.oy o u)) (fun v H'=>Q v (upd H' d u)) E):dU P w K mg base Ie k f fd ps sp':=by
 refine⟨len,fun A outer s H args us vs Q E hr e hb hv hs=>?_⟩;obtain⟨d,u,hd,hu,hsp⟩:=h vs H Q E hs;have okd:=e.cm d u hd;obtain⟨o,ho⟩:=okd.here;have nt:∀xs,u≠.tup xs:=fun xs z=>by rw[z] at hu;cases hu
 have no:∀x,u≠.own x:=fun x z=>by rw[z] at hu;cases hu
 have nf:∀a b,u≠.oy a b:=fun a b z=>by rw[z] at hu;cases hu
 have nb:∀a,u≠.Mt a:=fun a z=>by rw[z] at hu;cases hu
 have off:∀b,H b=none->b≠d:=fun b n z=>by rw[z,hd] at n;cases n
 have tup1:∀b xs,H b=some (.tup xs)->upd H d (.oy o u) b=some (.tup xs):=fun b xs q=>by rw[aH (fun z=>by rw[z,hd] at q;exact nt xs (yk q))];exact q
 have own1:∀b x,H b=some (.own x)->upd H d (.oy o u) b=some (.own x):=fun b x q=>by rw[aH (fun z=>by rw[z,hd] at q;exact no x (yk q))];exact q
 have e1:Ib P w K mg base A outer s (upd H d (.oy o u)):=by
  refine⟨e.frames,e.mod,fun b ob q=>⟨(e.bs b ob q).1,by rw[aH (off b (e.bs b ob q).2)];exact(e.bs b ob q).2⟩,e.L9,e.qo,fun b hb=>by rw[aH (off b (e.G5 b hb))];exact e.G5 b hb,fun b ub q=>?_,e.bare⟩
  by_cases hbd:b=d
  ·subst hbd
   rw[aC] at q;cases q;exact⟨ho,okd.mn (fun _ _ _ z=>z) (fun c z=>own1 c _ z) tup1⟩
  ·rw[aH hbd] at q
   exact(e.cm b ub q).mn (fun _ _ _ z=>z) (fun c z=>own1 c _ z) tup1
 refine codeAny_mono (F.run A outer s _ args us vs _ E hr e1 hb hv (hsp o)) fun r s' hq=>?_;cases r with
 | error x=>exact hq
 | ok fl=>
  cases fl with
  | next=>exact hq
  | brk=>exact hq
  | cont=>exact hq
  | ret uv=>
   obtain⟨v,H',os,bare,un,cm,rv,q⟩:=hq;have hd':H' d=some (.oy o u):=un.om d o u aC;have off1:∀b,H b=none->upd H d (.oy o u) b=none:=fun b n=>by rw[aH (off b n)];exact n
   have back:∀b z,H b=some z->b≠d->upd H d (.oy o u) b=some z:=fun b z q n=>by rw[aH n];exact q
   refine⟨v,upd H' d u,os,bare,⟨fun b ob q n hb hx=>un.keep b ob q (off1 b n) hb hx,fun b ob q n hb hx=>un.slot b ob q (off1 b n) hb hx,fun b ob q n hx=>by rw[aH (off b n)];exact un.free b ob q (off1 b n) hx,un.there,
    fun b xs q=>?_,fun b ob uu q=>?_,fun b ps' q=>?_⟩,fun b ub q=>?_,rv,q⟩
   ·have n:b≠d:=fun z=>by rw[z,hd] at q;exact nt xs (yk q)
    rw[aH n];exact un.pX b xs (back b _ q n)
   ·have n:b≠d:=fun z=>by rw[z,hd] at q;exact nf ob uu (yk q)
    rw[aH n];exact un.om b ob uu (back b _ q n)
   ·have n:b≠d:=fun z=>by rw[z,hd] at q;exact nb ps' (yk q)
    obtain⟨m,z⟩:=un.pY b ps' (back b _ q n);exact⟨m,by rw[aH n];exact z⟩
   ·have own2:∀c x,H' c=some (.own x)->upd H' d u c=some (.own x):=fun c x z=>by rw[aH (fun y=>by rw[y,hd'] at z;cases z)];exact z
    have tup2:∀c xs,H' c=some (.tup xs)->upd H' d u c=some (.tup xs):=fun c xs z=>by rw[aH (fun y=>by rw[y,hd'] at z;cases z)];exact z
    by_cases hbd:b=d
    ·subst hbd
     rw[aC] at q;cases q;obtain⟨_,ok'⟩:=(show cI P w H' s'.heap b (.oy o u) from cm b _ hd')
     exact ok'.mn (fun _ _ _ z=>z) (fun c z=>own2 c _ z) tup2
    ·rw[aH hbd] at q
     exact(cm b ub q).mn (fun _ _ _ z=>z) (fun c z=>own2 c _ z) tup2
def Gm (σ:List Str) (x:Str):List Str:=if x∈σ then σ else σ++[x]
def gP (l:List Str):List Str:=l.foldl Gm []
def Hm (l:List Str):(gP l).length<=l.length/\((gP l).length=l.length↔l.Nodup):=by
 have key:∀(l σ:List Str),σ.Nodup->(l.foldl Gm σ).length<=σ.length+l.length/\((l.foldl Gm σ).length=σ.length+l.length↔(σ++l).Nodup):=by
  intro l
  induction l with
  | nil=>intro σ h;simp[h]
  | cons x l ih=>
   intro σ h;rw[List.foldl_cons,zv]
   by_cases hx:x∈σ
   ·rw[show Gm σ x=σ from if_pos hx]
    have:=ih σ h;refine⟨nofun,⟨fun e=>nofun,fun e=>?_⟩⟩;exact absurd hx (fun z=>(zT.mp e).2.2 x z x zr rfl)
   ·rw[show Gm σ x=σ++[x] from if_neg hx]
    have hn:(σ++[x]).Nodup:=zT.mpr ⟨h,by simp,fun a ha b hb e=>by rw[zA.mp hb] at e;exact hx (e▸ha)⟩;have:=ih (σ++[x]) hn;rw[zh,List.length_singleton,zF,List.singleton_append] at this;exact⟨nofun,⟨fun e=>this.2.mp nofun,fun e=>by have:=this.2.mpr e;omega⟩⟩
 have:=key l [] List.nodup_nil
 simpa[gP] using this
def sub_tuple_set:isSubtype (.type "tuple") (.type "set")=pure false:=by rw[isSubtype_type];kernel_rfl
def sub_tuple_frozenset:isSubtype (.type "tuple") (.type "frozenset")=pure false:=by rw[isSubtype_type];kernel_rfl
section
variable {prog:Program} {w:World}
def MJ {A:Around} {R:Result->Shared->Prop} {I:Addr} {fp wr:List Addr} {G:Array GenState->Array GenState->Prop} {n:Nat} {P:Nat->Value->Prop} {St:Nat->Shared->Prop} (W:WalksS prog w A.in1 I fp wr G n P St) (S:Addr) (hSf:S∉fp)
  (zs:List Str) (hn:n=zs.length) (hval:∀i v,P i v->∃z t,zs[i]?=some z/\v=.str z t) (hb:n+1<scanBound) :
  ∀(k i:Nat) (s:Shared),n-i=k->i<=n->St i s->s.heap.SetOf (PySem.strKind prog w) S (fun x=>decide (x∈gP (zs.take i))) (gP (zs.take i)).length->
   (∀s',Moved (S::wr) G s s'->s'.heap.SetOf (PySem.strKind prog w) S (fun x=>decide (x∈gP zs)) (gP zs).length->R (.ok (.ret .none)) s')->
   codeAny (model prog w) A (.builtin "set.update.loop" ⟨[.ref S,.ref I],[]⟩) R s:=by
 have hSw:S∉wr:=fun h=>hSf (W.sub _ h);have hsub:∀b∈wr,b∈S::wr:=fun b hb=>zp _ hb;intro k
 induction k with
 | zero=>
  intro i s hk hi hst hS hR;have hin:i=n:=nofun
  subst hin;rw[hn,zN] at hS;refine codeAny_builtin F.entry_set_update_loop ?_;rw[Around.under_plainId F.plain_set_update_loop _];show wpAny _ A.in1 (pyNext (.ref I) >>= _) _ _ s;refine yu (W.done s _ _ hst fun s' hm=>?_);obtain⟨o,es,ep,t,ho,rest⟩:=hS;exact yw (hR s' (hm.mono hsub) ⟨o,es,ep,t,hm.heap S _ hSw ho,rest⟩)
 | succ k ih=>
  intro i s hk hi hst hS hR;have hlt:i<n:=nofun
  refine codeAny_builtin F.entry_set_update_loop ?_;rw[Around.under_plainId F.plain_set_update_loop _];show wpAny _ A.in1 (pyNext (.ref I) >>= _) _ _ s;refine yu (W.item i s _ _ hlt hst fun v s' hP hst' hm=>?_);obtain⟨z,t,hz,rfl⟩:=hval i v hP;obtain⟨o,es,ep,tb,ho,rest⟩:=hS;have hS':s'.heap.SetOf (PySem.strKind prog w) S (fun x=>decide (x∈gP (zs.take i))) (gP (zs.take i)).length:=⟨o,es,ep,tb,hm.heap S _ hSw ho,rest⟩
  show wpAny _ A.in1 (holding [Value.str z t] (setAdd S (.str z t)) >>= _) _ _ s';refine yu (wpAny_holding ?_);unfold setAdd;refine wpAny_holding ?_;refine yu ((PySem.strKind prog w).pyHash (k:=z) (strKind_is _ _ _ _) ?_);have hl:=(Hm (zs.take i)).1;rw[zQ] at hl;refine wpAny_setAddHashed_of (knd:=PySem.strKind prog w) (s:={s' with toks:=s'.toks+1}) (strKind_is _ _ _ _) rfl hS' nofun fun h' hsb hS2=>?_;have et:zs.take (i+1)=zs.take i++[z]:=by rw[List.take_succ,hz];rfl
  have ed:gP (zs.take (i+1))=Gm (gP (zs.take i)) z:=by rw[et];unfold gP;rw[zY];rfl
  have hSi:h'.SetOf (PySem.strKind prog w) S (fun x=>decide (x∈gP (zs.take (i+1)))) (gP (zs.take (i+1))).length:=by
   refine SetOf_congr hS2 (fun x=>?_) ?_
   ·rw[ed]
    unfold Gm
    by_cases hx:z∈gP (zs.take i)
    ·rw[if_pos hx]
     by_cases e:x=z
     ·subst e;simp[hx]
     ·simp[e]
    ·rw[if_neg hx];simp[zG]
   ·rw[ed]
    unfold Gm
    by_cases hx:z∈gP (zs.take i) <;> simp[hx]
  refine yw ⟨plainId_quiet F.plain_set_update_loop _,ih (i+1) _ nofun hlt (W.frame _ s' _ _ hst' (Nat.le_succ _) fun b hb o e=>?_) hSi fun s'' hm'' hS''=>?_⟩
  ·rw[hsb.2 b (fun h:b=S=>hSf (by rw[<-h];exact hb))];exact e
  ·refine hR s'' (Moved.trans W.gtrans ((hm.mono hsub).then_heap (Nat.le_succ _) fun b o hb e=>?_) hm'') hS''
   rw[hsb.2 b (fun h:b=S=>hb (by rw[h];exact zr))];exact e
variable {A:Around} {E:Value->Shared->Prop} {s:Shared}
def ID {l:Addr} {items:Array Value} {zs:List Str} {Q:Value->Shared->Prop} (hh:A.handled=none) (hl:IsTup s.heap l items) (hi:∀(i:Nat) (v:Value),items[i]?=some v->∃z t,zs[i]?=some z/\v=.str z t) (hn:items.size=zs.length) (hb:items.size+1<scanBound)
  (h:∀(h':Heap) (tk:Nat),h'.SetOf (PySem.strKind prog w) ↑s (fun x=>decide (x∈gP zs)) (gP zs).length->(∀b o,b<↑s->s.heap.get? b=some o->h'.get? b=some o)->Q (.ref ↑s) {s with heap:=h',toks:=tk}) :
  wpAny (model prog w) A (call (.type "set") [.ref l]) Q E s:=by
 obtain⟨c,tl,hmro⟩:=F.called_set.mro;have hmade:=F.called_set.made;have hsub:=F.called_set.sub;refine wpAny_call (codeAny_of_tree ?_);show wpAny _ _ (callAny (.type "set") _) _ _ _;refine yw ⟨Code.quiet_builtin _ (by decide +kernel),codeAny_builtin F.entry_type_call ?_⟩;rw[Around.under_plain (weight_type_call_type "set" [.ref l] []) rfl];have h1:=F.called_set.notType;have h2:=F.called_set.canCreate;have hct:=F.typeCall_set_1 (.ref l)
 repeat (any_goals (first | assumption | wp_step))
 let fresh:Bool->Obj:=fun led=>{cls:=.type "set",dict:=none,data:=.set #[] 0 (.fresh 0 0 led)}
 refine codeAny_mono (code_set_new_1 (.ref l) (E:=E) (Q₁:=fun obj s₁=>∃led:Bool,obj=.ref ↑s/\s₁={s with heap:=s.heap.push (fresh led)}) fun led=>⟨led,rfl,rfl⟩) fun r s₁ hr=>?_;cases r with
 | error e=>exact hr
 | ok fl=>
  cases fl with
  | next=>exact hr.elim
  | brk=>exact hr.elim
  | cont=>exact hr.elim
  | ret obj=>
   obtain⟨led,rfl,rfl⟩:=hr;have hS:(s.heap.push (fresh led)).get? ↑s=some (fresh led):=yx _ rfl;have hT:Shared.TypeIs {s with heap:=s.heap.push (fresh led)} (.ref ↑s) "set":=⟨_,hS,rfl⟩
   have hli:=F.called_set.init.lookup;have hbi:=F.called_set.init.bind (.ref ↑s)
   repeat (any_goals (first | assumption | wp_step))
   refine codeAny_mono (codeAny_call_builtin (R:=wants (fun r s₂=>r=.none/\∃h' tk,s₂={s with heap:=h',toks:=tk}/\h'.SetOf (PySem.strKind prog w) ↑s (fun x=>decide (x∈gP zs)) (gP zs).length/\
     (∀b o,b<↑s->s.heap.get? b=some o->h'.get? b=some o)) E) F.called_set.init.plain F.entry_set_init (check_set_init_1 hT ?_)) fun r₂ s₂ hr₂=>?_
   ·obtain⟨⟨ocls,odict,odata,oslots⟩,hol,hcl,nl,hdl⟩:=hl
    simp only at hcl hdl;subst hcl hdl;have hol':(s.heap.push (fresh led)).get? l=some {cls:=.type "tuple",dict:=odict,data:=.seq items nl,slots:=oslots}:=yv _ hol;have hsls:=sub_tuple_set;have hslf:=sub_tuple_frozenset;have hne:(Value.type "tuple"== Value.type "dict")=false:=by decide
    have hl1:(s.heap.push (fresh led)).IsTuple l items:=⟨_,hol',rfl,nl,rfl⟩
    unfold Builtin.«set.__init__» noKeywords Builtin.Frozenset.updateFrom;generalize hPI:pyIter=PI;wp_walk;subst hPI;refine wpAny_pyIter_tuple hl1 ?_;refine yu (wpAny_runValue ?_);have hlS:l<↑s:=yy hol;have hh3:A.in1.in1.in1.handled=none:=by simp[hh]
    have hz:(s.heap.push (fresh led)).objs.size=↑s+1:=Heap.size_push ..;have hSf:↑s∉[(s.heap.push (fresh led)).objs.size,l]:=by
     rw[hz];simp only[zD,zE,or_false,not_or];exact⟨yj (Nat.lt_succ_self _),yi hlS⟩
    refine MJ ((Walks.tuple hh3 _ l (by rw[hz];exact yj (Nat.lt_succ_of_lt hlS)) items).toS) ↑s hSf zs hn hi hb (items.size-0) 0 _ nofun (yg _)
     ⟨⟨_,yx _ rfl,rfl,rfl⟩,(hl1.push _)⟩ ?hS0 ?hR
    case hS0=>
     exact SetOf_congr ((setObjOf_fresh (knd:=PySem.strKind prog w) led).setOf (yv _ hS) (by unfold scanBound;omega)) (fun _=>rfl) rfl
    case hR=>
     intro s' hm hS';obtain⟨h',g',d',tk',os'⟩:=s';have eg:g'=s.gens:=hm.gens;have ed:d'=s.drawn:=hm.drawn;have eo:os'=s.os:=hm.os;subst eg ed eo;refine yw (yw ⟨rfl,h',tk',rfl,hS',fun b o hb e=>?_⟩);refine hm.heap b o ?_ (yv _ (yv _ e));simp only[zD,zE,or_false,not_or];exact⟨yj hb,by rw[hz];exact yj (Nat.lt_succ_of_lt hb)⟩
   ·cases r₂ with
    | error e=>exact hr₂
    | ok fl₂=>
     cases fl₂ with
     | next=>exact hr₂.elim
     | brk=>exact hr₂.elim
     | cont=>exact hr₂.elim
     | ret r=>
      obtain⟨rfl,h',tk,rfl,hS',hk'⟩:=hr₂
      repeat (any_goals (first | assumption | wp_step))
      exact h _ _ hS' hk'
end
def HZ (a:Addr) (n:Nat):HO:=.ext fun h=>∃o es ep t,h.get? a=some o/\o.ExactSet/\o.data=.set es ep t/\t.fits es.size=true/\es.size=n
section
variable {X:Cx}
def LM (hc:X.calm=true):gc X (.type "set") (fun xs H Q=>∃(a:Addr) (zs:List Str),xs=[.ref a]/\dB X.K H a (zs.map V.str)/\zs.length<=1000/\∀p,H p=none->Q (.ref p) (upd H p (HZ p (gP zs).length))):=by
 intro pins s σ H xs us Q I r h;obtain⟨a,zs,rfl,hq,hz,q⟩:=h;obtain⟨u,rfl,rx⟩:=vals1 r;cases rx;obtain⟨its,rv,p,_⟩:=I.tuple hq;have hl:zs.length=its.length:=by have:=rv.length;rw[za] at this;exact this
 refine ID (zs:=zs) (I.ok.hd hc) p (fun i v hv=>?_) (by rw[yb,hl]) (by rw[yb];unfold scanBound;omega) fun h' tk hS hk=>?_
 ·have hv':its[i]?=some v:=by simpa using hv
  have hi:i<its.length:=(zy.mp hv').1;obtain⟨z,t,e1,e2⟩:=MB rv hi;have:=(zy.mp hv').2;exact⟨z,t,e1,by rw[<-this,e2]⟩
 ·obtain⟨o,es,ep,t,ho,hex,hd,hel,hmem,hb,hf,hn⟩:=hS
  refine⟨.ref _,_,I.laid (t':=tk) (a:=↑s) (o:=HZ ↑s (gP zs).length) (fun b ob e=>hk b ob (yy e) e) (zm _) ?_,rfl,q _ (I.cm.fresh (zm _))⟩;exact⟨⟨o,es,ep,t,ho,hex,hd,hf,hn⟩,⟨o,ho⟩,fun h1 h2 ⟨o,es,ep,t,e1,r⟩ kk=>⟨o,es,ep,t,kk o e1,r⟩⟩
def LO:gc X (.builtin "len") (fun xs H Q=>∃(p:Addr) (n:Nat),xs=[.ref p]/\H p=some (HZ p n)/\n<=1000/\Q (.int n) H):=by
 intro pins s σ H xs us Q I r h;obtain⟨p,n,rfl,hp,hn,q⟩:=h;obtain⟨u,rfl,rx⟩:=vals1 r;cases rx;obtain⟨⟨o,es,ep,t,ho,hex,hd,hf,rfl⟩,_⟩:=(show cI X.prog X.w H s.heap p (HZ p n) from I.cm p _ hp)
 exact call_len_set ho hex hd hf nofun ⟨.int _,H,I.tok _,⟨_,rfl⟩,q⟩
end
def P7:V->Bool
 | .bR=>true
 | .int _=>true
 | .str _=>true
 | _=>false
def Gq (h:P7 x=true):nZ x=true:=by cases x <;> first | rfl | cases h
def QX {x y:V} (a:P7 x=true) (b:P7 y=true):Jg x y=decide (x=y):=by
 cases x <;> first | cases a;done | skip
 all_goals (cases y <;> first | rfl | exact EL.symm | exact EJ.symm | cases b)
def UT (K:yB) (H:Hp) (a b:Addr) (xs ys:List V):Prop:=(aL K H a xs/\aL K H b ys)\/(dB K H a xs/\dB K H b ys)
def UL (xs ys:List V):Prop:=xs=[]\/ys=[]\/(xs.all P7=true/\ys.all P7=true)
def Uq (K:yB):R2:=fun x y H Q=>∃a b xs ys,x=.ref a/\y=.ref b/\UT K H a b xs ys/\UL xs ys/\Q (.bl (decide (xs=ys))) H
def QU (K:yB):R2:=fun x y H Q=>∃a b xs ys,x=.ref a/\y=.ref b/\UT K H a b xs ys/\UL xs ys/\Q (.bl (!decide (xs=ys))) H
def JW (r:Vals xs its) (h:j<its.length):∃x,xs[j]?=some x/\RelV x its[j]:=by
 have hl:=r.length;obtain⟨u,hu,ru⟩:=r.get (i:=j) (x:=xs[j]'nofun) (zd nofun);rw[zd h] at hu;cases hu;exact⟨_,zd nofun,ru⟩
section
variable {X:Cx}
def EI (r:Vals xs its) (r':Vals ys jts) (p:UL xs ys):∀j (h1:j<its.toArray.size) (h2:j<jts.toArray.size),SeqAt.EqAt A s its.toArray[j] jts.toArray[j] (decide (xs[j]?=ys[j]?)):=by
 intro j h1 h2;have h1':j<its.length:=by simpa using h1
 have h2':j<jts.length:=by simpa using h2
 obtain⟨x,ex,rx⟩:=JW r h1';obtain⟨y,ey,ry⟩:=JW r' h2';have l1:=r.length;have l2:=r'.length;have hp:P7 x=true/\P7 y=true:=by
  rcases p with e | e | ⟨q1,q2⟩
  ·rw[e] at ex;simp at ex
  ·rw[e] at ey;simp at ey
  ·exact⟨yp.mp q1 x (zC ex),yp.mp q2 y (zC ey)⟩
 have g1:its.toArray[j]=its[j]:=by simp
 have g2:jts.toArray[j]=jts[j]:=by simp
 have z:=NQ (A:=A) (s:=s) rx ry (Gq hp.1) (Gq hp.2);rw[QX hp.1 hp.2] at z;have e:decide (xs[j]?=ys[j]?)=decide (x=y):=by rw[ex,ey,Bool.eq_iff_iff];simp
 rw[g1,g2,e];exact z
def all_eq {xs ys:List V} (h:xs.length=ys.length):((List.range xs.length).all fun j=>decide (xs[j]?=ys[j]?))=decide (xs=ys):=by
 rw[Bool.eq_iff_iff,yp,decide_eq_true_eq];constructor
 ·intro hh
  refine List.ext_getElem? fun j=>?_;rcases Nat.lt_or_ge j xs.length with hj | hj
  ·exact ye (hh j (List.mem_range.mpr hj))
  ·rw[List.getElem?_eq_none hj,List.getElem?_eq_none nofun]
 ·intro hh j _
  rw[hh];exact zg rfl
def EB {xs ys:List V} (h:xs.length≠ys.length):decide (xs=ys)=false:=ze fun e=>h (by rw[e])
def Em (hu:X.A.units+64<cLine):pW X (compareOp .Eq) (Uq X.K):=by
 intro pins s σ H x y v u Q I rx ry h;obtain⟨a,b,xs,ys,rfl,rfl,hs,pl,q⟩:=h;cases rx;cases ry;rcases hs with⟨ha,hb⟩ | ⟨ha,hb⟩
 ·obtain⟨its,r,p,_⟩:=I.list ha
  obtain⟨jts,r',p',_⟩:=I.list hb;have l1:=r.length;have l2:=r'.length
  by_cases hl:xs.length=ys.length
  ·have z:=SeqAt.RcAt.lists (A:=X.A) (s:=s) p.isList p'.isList (by rw[yb,yb];omega) nofun (EI r r' pl)
   rw[yb,<-l1,all_eq hl] at z;exact z _ _ _ _ ⟨.bl _,H,I,rfl,q⟩
  ·have z:=SeqAt.RcAt.lists_lengths (A:=X.A) (s:=s) p.isList p'.isList (by rw[yb,yb];simp;omega) nofun
   rw[EB hl] at q;exact z _ _ _ _ ⟨.bl false,H,I,rfl,q⟩
 ·obtain⟨its,r,p,_⟩:=I.tuple ha
  obtain⟨jts,r',p',_⟩:=I.tuple hb;have l1:=r.length;have l2:=r'.length;have z:=SeqAt.RcAt.tuples (A:=X.A) (s:=s) p p' nofun (EI r r' pl);rw[yb,yb,<-l1,<-l2] at z
  by_cases hl:xs.length=ys.length
  ·have em:min xs.length ys.length=xs.length:=nofun
   rw[em,all_eq hl,hl,beq_self_eq_true,Bool.and_true] at z;exact z _ _ _ _ ⟨.bl _,H,I,rfl,q⟩
  ·rw[show(xs.length == ys.length)=false by simpa using hl,Bool.and_false] at z
   rw[EB hl] at q;exact z _ _ _ _ ⟨.bl false,H,I,rfl,q⟩
def uX (hu:X.A.units+64<cLine):pW X (compareOp .NotEq) (QU X.K):=by
 intro pins s σ H x y v u Q I rx ry h;obtain⟨a,b,xs,ys,rfl,rfl,hs,pl,q⟩:=h;cases rx;cases ry;rcases hs with⟨ha,hb⟩ | ⟨ha,hb⟩
 ·obtain⟨its,r,p,_⟩:=I.list ha
  obtain⟨jts,r',p',_⟩:=I.list hb;have l1:=r.length;have l2:=r'.length
  by_cases hl:xs.length=ys.length
  ·have z:=SeqAt.RcNeAt.lists (A:=X.A) (s:=s) p.isList p'.isList (by rw[yb,yb];omega) nofun (EI r r' pl)
   rw[yb,<-l1,all_eq hl] at z;exact z _ _ _ _ ⟨.bl _,H,I,rfl,q⟩
  ·have z:=SeqAt.RcNeAt.lists_lengths (A:=X.A) (s:=s) p.isList p'.isList (by rw[yb,yb];simp;omega) nofun
   rw[EB hl] at q;exact z _ _ _ _ ⟨.bl true,H,I,rfl,q⟩
 ·obtain⟨its,r,p,_⟩:=I.tuple ha
  obtain⟨jts,r',p',_⟩:=I.tuple hb;have l1:=r.length;have l2:=r'.length;have z:=SeqAt.RcNeAt.tuples (A:=X.A) (s:=s) p p' nofun (EI r r' pl);rw[yb,yb,<-l1,<-l2] at z
  by_cases hl:xs.length=ys.length
  ·have em:min xs.length ys.length=xs.length:=nofun
   rw[em,all_eq hl,hl,beq_self_eq_true,Bool.and_true] at z;exact z _ _ _ _ ⟨.bl _,H,I,rfl,q⟩
  ·rw[show(xs.length == ys.length)=false by simpa using hl,Bool.and_false] at z
   rw[EB hl] at q;exact z _ _ _ _ ⟨.bl true,H,I,rfl,q⟩
def P2 (K:yB):V->Option Int->Option Int->Hp->VK->Prop:=fun x lo hi H Q=>∃a xs,x=.ref a/\dB K H a xs/\(HT.fG xs.length 0 lo=0/\HT.fG xs.length xs.length hi=xs.length)/\Q (.ref a) H
def OI:Of X (P2 X.K):=by
 intro pins s σ H x v vl vu lo hi sl Q I rx hs pl pu h;obtain⟨a,xs,rfl,hx,hw,q⟩:=h;cases rx;obtain⟨its,r,ht,hz⟩:=I.tuple hx;have hlen:its.toArray.size=xs.length:=by rw[yb];exact r.length.symm
 refine⟨"tuple",_,PyProof.Rows.slot_tuple_getitem.lookup,ht.typeIs,?_⟩;rw[<-hlen] at hw;obtain⟨os,hos,hcs,hds⟩:=id hs;have hTs:s.TypeIs (.ref sl) "slice":=⟨os,hos,hcs⟩
 unfold getItem
 try with_reducible refine wpAny_holding ?_
 first | refine yu (yw ?_) | skip
 refine yu (wpAny_sequenceKey ht.typeIs ∅ ?_);refine yu (wpAny_callSpecial?_slot (name:=Str.ofString "__getitem__") ht.typeIs PyProof.Rows.slot_tuple_getitem
  (wpAny_call_entry PyProof.Rows.slot_tuple_getitem ht.typeIs entry_tuple_getitem ?_ (args_tuple_getitem _ _)))
 show wpAny _ _ (Builtin.Tuple.tupleItemsOf (.ref a) >>= _) _ _ s;refine yu (tupleItemsOf_ ht ?_);refine yu (wpAny_typeOf hTs ?_);rw[if_pos ∅];refine yu (HT.lL hs pl pu ?_);show wpAny _ _ (if(((HT.fG its.toArray.size 0 lo:Nat):Int) == 0&&(1:Int) == 1&&(HT.fG its.toArray.size its.toArray.size hi-HT.fG its.toArray.size 0 lo) == its.toArray.size)=true then _ else _) _ _ s;rw[if_pos (by rw[hw.1,hw.2];simp)];unfold Builtin.Tuple.tupleIsExact;refine yu ?_
 repeat (any_goals (first | assumption | exact⟨_,rfl,yw ⟨.ref a,H,I,rfl,q⟩⟩ | refine yu (wpAny_typeOf ht.typeIs ?_) | wp_step))
def P4 (K:yB):V->Option Int->Option Int->Hp->VK->Prop:=fun x lo hi H Q=>Sl K x lo hi H Q\/P2 K x lo hi H Q
def OJ:Of X (P4 X.K):=Of.or QM OI
def Gk (K:yB):V->List V->Hp->VK->Prop:=fun x vs H Q=>∃l b xs zs,x=.ref l/\vs=[.ref b]/\H l=some (.lst xs)/\H b=some (.tup zs)/\xs.length+zs.length<=sizeLine/\Q .bR (upd H l (.lst (xs++zs)))
def MZ (K:yB):V->List V->Hp->VK->Prop:=fun x vs H Q=>J7 x vs H Q\/Gk K x vs H Q
def IX:Qj X "list.extend" (Gk X.K):=by
 intro pins s σ H x vs v us Q I rx rv h;obtain⟨l,b,xs,zs,rfl,rfl,hH,hB,hz,q⟩:=h;cases rx;obtain⟨u,rfl,ru⟩:=rv.one;cases ru;obtain⟨z,its,n,r,hl,e⟩:=I.Nq hH;obtain⟨_,its2,r2,⟨oc,od,oda,osl⟩,ho,hoc,n2,hod⟩:=(show cI X.prog X.w H s.heap b (.tup zs) from I.cm b _ hB)
 have l1:=r.length;have l2:=r2.length;have hsz:its.toArray.size+its2.toArray.size<=sizeLine:=by rw[yb,yb];omega
 have hlong:¬(!its.toArray.isEmpty&&Builtin.List.listTooLong (its.toArray.size+its2.toArray.size))=true:=by
  rw[GN hsz,Bool.and_false];exact zL
 dsimp only at hoc hod;subst hoc hod;refine wpAny_call_entry F.slot_list_extend ⟨_,e,rfl⟩ F.entry_list_extend ?_ (F.args_list_extend_2 _ _);show wpAny _ _ (Builtin.List.listExtendWith (.ref l) (.ref b) .none) _ _ s;unfold Builtin.List.listExtendWith;refine yu (wpAny_typeOf (T:="tuple") ⟨_,ho,rfl⟩ ?_);have ht:(Value.type "tuple"== Value.type "tuple")=true:=by rfl
 rw[if_pos (by rw[ht];simp)];refine yu (listItems_at ho rfl ?_);refine yu (listItems_at e rfl ?_);rw[if_neg hlong];refine yu (listUpdate_at e rfl ?_ (by rw[yb];omega) (by show(its.toArray++its2.toArray).size<=sizeLine+1;rw[Array.size_append];omega));refine yw ⟨_,rfl,?_⟩;refine⟨.bR,_,I.Pb (its':=its++its2) hH e (by simp) (r.append r2) ?_,rfl,q⟩;rw[zh];omega
def jX:Qj X "list.extend" (MZ X.K):=by
 intro pins s σ H x vs v us Q I rx rv h;rcases h with h | h
 ·exact Lg pins s σ H x vs v us Q I rx rv h
 ·exact IX pins s σ H x vs v us Q I rx rv h
def Jz:gc X (.builtin "len") (fun xs H Q=>∃p kvs,xs=[.ref p]/\H p=some (.dK kvs)/\Q (.int (kvs.length:Nat)) H):=by
 intro pins s σ H xs us Q I r h;obtain⟨p,kvs,rfl,hp,q⟩:=h;obtain⟨u,rfl,rx⟩:=vals1 r;cases rx;exact SW I (.inl hp) fun t s' I'=>⟨.int _,H,I',⟨_,rfl⟩,q⟩
end
abbrev Us (K:yB):List V->Hp->VK->Prop:=fun xs H Q=>∃p ys,xs=[.ref p]/\(aL K H p ys\/dB K H p ys)/\Q (.int ys.length) H
abbrev Ut (K:yB):List V->Hp->VK->Prop:=fun xs H Q=>∃(a:Addr) (bs:List Bool),xs=[.ref a]/\aL K H a (bs.map V.bl)/\Q (.bl (bs.any id)) H
abbrev Sm:List V->Hp->VK->Prop:=fun xs H Q=>∃i,xs=[.int i]/\i.natAbs.log2<1920/\Q (.str (toString i)) H
abbrev QV (K:yB):List V->Hp->VK->Prop:=fun xs H Q=>∃p ys,xs=[.ref p]/\((aL K H p ys/\∀l,H l=none->Q (.ref l) (upd H l (.tup ys)))\/(dB K H p ys/\Q (.ref p) H))
abbrev Sn (K:yB):List V->Hp->VK->Prop:=fun xs H Q=>∃p ys,xs=[.ref p]/\(aL K H p ys\/dB K H p ys)/\∀l,H l=none->Q (.ref l) (upd H l (.lst ys))
def rB (lo:Int) (n:Nat):List Int:=(List.range n).map fun i=>lo+(i:Nat)
def QD (ta:TA):TE:=fun σ H Q=>ta σ H fun vs H1=>∃i j:Int,vs=[.int i,.int j]/\(-(2^62)<=i/\i<2^62/\-(2^62)<=j/\j<2^62)/\(j-i).toNat<=1000000/\∀l,H1 l=none->Q (.ref l) (upd H1 l (.lst ((rB i (j-i).toNat).map V.int)))
theorem JV:∀{xs:List V} {us:List Value},xs.length=us.length->(∀(i:Nat) (x:V) (u:Value),xs[i]?=some x->us[i]?=some u->RelV x u)->Vals xs us
 | [],[],_,_=>.nil
 | x::xs,u::us,h,k=>.cons (k 0 x u rfl rfl) (JV (by simpa using h) fun i y v e e'=>k (i+1) y v (by simpa using e) (by simpa using e'))
 | [],_::_,h,_=>by simp at h
 | _::_,[],h,_=>by simp at h
section
variable {X:Cx}
def tL (hc:X.calm=true) (hg0:Gl X "list") (hm0:X.mg "list"= none) (hg:Gl X "range") (hm:X.mg "range"= none) (ha:PA X [a,b] ta)
  (hs:starEach [a,b] X.env=[(false,eval a X.env),(false,eval b X.env)]<|>qe_) (hs2:starEach [b] X.env=[(false,eval b X.env)]<|>qe_)
  (hs1:starEach [.Call (.Name "range" p2) [a,b] [] pos2] X.env=[(false,eval (.Call (.Name "range" p2) [a,b] [] pos2) X.env)]<|>qe_) :
  PE X (.Call (.Name "list" p1) [.Call (.Name "range" p2) [a,b] [] pos2] [] pos1) (QD ta):=by
 intro pins s σ H Q I h;refine wpAny_Call_Name_kw (jY I hg0 hm0 (by decide +kernel:bootBuiltins "list"= some (.type "list")) ?_ ∅ ∅);refine yM (Q:=_) ?_ hs1 rfl;rw[hs1];refine Calls.spliced_cons ?_;refine Call_ (jY I hg hm boot_range (yM (dh (ha pos2 pins s σ H _ I h) fun us s1 ⟨vs,H1,I1,r1,q1⟩=>?_) (by rw[hs,hs2]) (by rw[hs2];rfl)));obtain⟨i,j,e,⟨q1,q2,q3,q4⟩,hz,q⟩:=q1;subst e;cases r1 with
 | cons r rr=>
  cases rr with
  | cons r' rr=>
   cases rr;obtain⟨t,rfl⟩:=r;obtain⟨t',rfl⟩:=r';refine call_range_2 ?_;refine Calls.spliced_nil ?_;have I2:Inv X pins σ H1 {s1 with heap:=s1.heap.push {cls:=.type "range",data:=.fields #[.int i t,.int j t',.int 1 s1.toks]},toks:=s1.toks+1}:=I1.kept fun b o e=>yv _ e;have hn:Builtin.Range.rangeSize i j 1=(((j-i).toNat:Nat):Int):=by rw[rangeSize_one];split <;> omega
   refine call_list_range (I2.ok.hd hc) (IsRange.new ..) (small_one q1 q2 q3 q4) hn (zM hz ∅) fun h' tk acc c hk hS hit=>?_;have rv:Vals ((rB i (j-i).toNat).map V.int) acc.toList:=by
    refine JV ?_ ?_
    ·have e1:acc.toList.length=(j-i).toNat:=by rw[Array.length_toList];exact hit.1
     rw[za,e1];unfold rB;simp
    ·intro k x u hx hu
     rw[Array.getElem?_toList] at hu;obtain⟨tk',rfl⟩:=hit.2 k u hu;have hk':k<(j-i).toNat:=by
      have:=(Array.getElem?_eq_some_iff.mp hu).1;rw[hit.1] at this;exact this
     unfold rB at hx;rw[zB,zK,List.getElem?_range hk'] at hx;cases hx;exact⟨tk',by simp⟩
   have hl:H1 (s1.heap.push {cls:=.type "range",data:=.fields #[.int i t,.int j t',.int 1 s1.toks]}).objs.size=none:=I2.cm.fresh (zm _);refine⟨.ref _,_,I2.laid (t':=tk) hk (zm _) (show cI X.prog X.w _ h' _ (.lst ((rB i (j-i).toNat).map V.int)) from⟨?_,acc.toList,c,rv,?_⟩),rfl,q _ hl⟩
   ·rw[za]
    have sl:=yC;unfold rB;simp;omega
   ·simpa using hS
end
def Ih:typeLookup (.type "zip") "__len__"= pure none:=by rw[typeLookup_type,builtinLookup_eq_fast];kernel_rfl
def FF:typeLookup (.type "zip") "__length_hint__"= pure none:=by rw[typeLookup_type,builtinLookup_eq_fast];kernel_rfl
section
variable {prog:Program} {w:World} {A:Around} {E:Value->Shared->Prop} {s:Shared}
def wD (ho:s.heap.get? a=some o) (h:Q (some o) s):wpAny (model prog w) A (loadIfAlive a) Q E s:=
 fun Γ p _=>by
  unfold loadIfAlive;rw[Sem.wp_loadIfAlive,ho];exact h
abbrev JO (h:Heap) (z TI TO T:Addr) (f1:Bool):Prop:=h.get? z=some {cls:=.type "zip",dict:=none,data:=.fields #[rawInt T,.bool f1,.bool false,.ref TI,.ref TO],slots:=#[]}
structure Tr (t1 t2:Bool) (h:Heap) (z TI TO i1 i2 l1 l2:Addr) (k:Nat):Prop where
 z:∃T f1,JO h z TI TO T f1/\(∃o,h.get? T=some o)/\T≠z/\T≠i1/\T≠i2
 ti:IsPair h TI (.ref i1) (.ref i2)
 to:∃o,h.get? TO=some o
 i1:dG t1 h i1 l1 k
 i2:dG t2 h i2 l2 k
def GL {z TI TO T:Addr} {f1:Bool} {o:Obj} {Q:Bool->Shared->Prop} (hz:JO s.heap z TI TO T f1) (hT:s.heap.get? T=some o)
  (hQ:∀h',JO h' z TI TO T true->Heap.SameBut z s.heap h'->Q false {s with heap:=h'}):wpAny (model prog w) A (Builtin.SmallTypes.ownedTupleIsFree (.ref z)) Q E s:=by
 unfold Builtin.SmallTypes.ownedTupleIsFree;refine yu (wpAny_field hz rfl (x:=rawInt T) rfl ?_);show wpAny _ _ (loadIfAlive ((T:Int).toNat) >>= _) _ _ _;rw[Int.toNat_natCast];refine yu (wD hT ?_);show wpAny _ _ (field (.ref z) 1 >>= _) _ _ _;refine yu (wpAny_field hz rfl (x:=.bool f1) rfl ?_);cases f1 with
 | true=>exact yw (hQ s.heap hz ⟨rfl,fun _ _=>rfl⟩)
 | false=>
  show wpAny _ _ (setField (.ref z) 1 (.bool true) >>= _) _ _ _;exact yu (wpAny_setField_rec hz (by simp) fun g1 z1 q1=>yw (hQ g1 z1 q1))
def KH {t1 t2:Bool} {z TI TO i1 i2 l1 l2:Addr} {k:Nat} {xs ys:Array Value} {x y:Value} {Q:Value->Shared->Prop} (D:LZ z TI TO i1 i2) (L1:BB l1 z TO i1 i2) (L2:BB l2 z TO i1 i2)
  (S:Tr t1 t2 s.heap z TI TO i1 i2 l1 l2 k) (hl1:fF t1 s.heap l1 xs) (hl2:fF t2 s.heap l2 ys) (hx:xs[k]?=some x) (hy:ys[k]?=some y)
  (hQ:∀h',Tr t1 t2 h' z TI TO i1 i2 l1 l2 (k+1)->IsPair h' ↑s x y->uz z TO i1 i2 s.heap h'->Q (.ref ↑s) {s with heap:=h'}) :
  wpAny (model prog w) A (Builtin.«zip.__next__» ⟨[.ref z],[]⟩) (fun fin s'=>∃v,fin=.done (.ret v)/\Q v s') E s:=by
 obtain⟨⟨T,f1,hz,⟨o,hT⟩,n1,n2,n3⟩,hTI,⟨oT,hTO⟩,h1,h2⟩:=S;show wpAny _ _ (field (.ref z) 2 >>= _) _ _ _;refine yu (wpAny_field hz rfl (x:=.bool false) rfl ?_);show wpAny _ _ (field (.ref z) 3 >>= _) _ _ _;refine yu (wpAny_field hz rfl (x:=.ref TI) rfl (yu (wpAny_seqItems hTI rfl ?_)));show wpAny _ _ (Builtin.SmallTypes.ownedTupleIsFree (.ref z) >>= _) _ _ _;refine yu (GL hz hT fun g1 z1 q1=>?_);simp only[Bool.false_eq_true,if_false];refine yu ?_;simp only[List.forIn_toArray,List.forIn_cons,List.forIn_nil];refine yu (yu (wpAny_holding ?_));show wpAny _ _ (Builtin.SmallTypes.nextOf (.ref i1) >>= _) _ _ _;refine yu (sA (h1.but q1 D.a3) (hl1.but q1 L1.a1) hx fun g2 p2 q2=>yw ?_);refine yw ?_;refine yu (yu (wpAny_holding ?_));show wpAny _ _ (Builtin.SmallTypes.nextOf (.ref i2) >>= _) _ _ _;refine yu (sA ((h2.but q1 D.a4).but q2 D.b1.symm) ((hl2.but q1 L2.a1).but q2 L2.a3) hy fun g3 p3 q3=>yw ?_);refine yw (yw ?_);have sz:g3.objs.size=↑s:=by rw[q3.1,q2.1,q1.1]
 have k3:∀c o,c≠z->c≠i1->c≠i2->s.heap.get? c=some o->g3.get? c=some o:=fun c o c1 c3 c4 e=>q3.extBut _ _ c4 (q2.extBut _ _ c3 (q1.extBut _ _ c1 e));show wpAny _ _ (newTuple [x,y] >>= _) _ _ _;refine yu (wpAny_newTuple ?_);refine yw ⟨_,rfl,?_⟩;have up:∀c o,g3.get? c=some o->(g3.push {cls:=.type "tuple",data:=.seq #[x,y]}).get? c=some o:=fun c o e=>yv _ e;have gp:(g3.push {cls:=.type "tuple",data:=.seq #[x,y]}).get? g3.objs.size=some {cls:=.type "tuple",data:=.seq #[x,y]}:=yx _ rfl;rw[sz] at gp;show Q (.ref g3.objs.size) _;rw[sz];refine hQ _ ⟨⟨T,true,up _ _ (q3.extBut _ _ D.a4.symm (q2.extBut _ _ D.a3.symm z1)),⟨o,up _ _ (k3 _ _ n1 n2 n3 hT)⟩,n1,n2,n3⟩,up _ _ (k3 _ _ D.a1 D.a6 D.a7 hTI),⟨oT,up _ _ (k3 _ _ D.a2 D.a8 D.a9 hTO)⟩,(p2.but q3 D.b1).at (up _),p3.at (up _)⟩ gp fun c o c1 c2 c3 c4 e=>up _ _ (k3 c o c1 c3 c4 e)
def KG {t1 t2:Bool} {z TI TO i1 i2 l1 l2:Addr} {k:Nat} {xs:Array Value} {Q:Fin->Shared->Prop} (hh:A.handled=none) (D:LZ z TI TO i1 i2) (L1:BB l1 z TO i1 i2)
  (S:Tr t1 t2 s.heap z TI TO i1 i2 l1 l2 k) (hl1:fF t1 s.heap l1 xs) (hx:xs[k]?=none)
  (hE:∀h' e,uz z TO i1 i2 s.heap h'->(∃o,h'.get? e=some o/\o.cls=.type "StopIteration")->E (.ref e) {s with heap:=h'}) :
  wpAny (model prog w) A (Builtin.«zip.__next__» ⟨[.ref z],[]⟩) Q E s:=by
 obtain⟨⟨T,f1,hz,⟨o,hT⟩,n1,n2,n3⟩,hTI,⟨oT,hTO⟩,h1,h2⟩:=S;show wpAny _ _ (field (.ref z) 2 >>= _) _ _ _;refine yu (wpAny_field hz rfl (x:=.bool false) rfl ?_);show wpAny _ _ (field (.ref z) 3 >>= _) _ _ _;refine yu (wpAny_field hz rfl (x:=.ref TI) rfl (yu (wpAny_seqItems hTI rfl ?_)));show wpAny _ _ (Builtin.SmallTypes.ownedTupleIsFree (.ref z) >>= _) _ _ _;refine yu (GL hz hT fun g1 z1 q1=>?_);simp only[Bool.false_eq_true,if_false];refine yu ?_;simp only[List.forIn_toArray,List.forIn_cons,List.forIn_nil];refine yu (yu (wpAny_holding ?_));show wpAny _ _ (Builtin.SmallTypes.nextOf (.ref i1) >>= _) _ _ _;refine yu (DN hh (h1.but q1 D.a3) (hl1.but q1 L1.a1) hx fun g2 e q2 he=>?_);exact hE g2 e (fun c o c1 c2 c3 c4 x=>q2 _ _ c3 (q1.extBut _ _ c1 x)) he
def LY (t1 t2:Bool) (h:Heap) (z TI TO i1 i2 l1 l2:Addr) (k:Nat):Prop:=(k=0/\Ou t1 t2 h z TI TO i1 i2 l1 l2 0 .none)\/Tr t1 t2 h z TI TO i1 i2 l1 l2 k
def LY.type {t1 t2:Bool} {z TI TO i1 i2 l1 l2:Addr} {k:Nat} (S:LY t1 t2 s.heap z TI TO i1 i2 l1 l2 k):s.TypeIs (.ref z) "zip":=by
 rcases S with⟨_,S⟩ | S
 ·exact⟨_,S.z,rfl⟩
 ·obtain⟨_,_,e,_⟩:=S.z;exact⟨_,e,rfl⟩
theorem LY.at {t1 t2:Bool} {h h':Heap} {z TI TO i1 i2 l1 l2:Addr} {k:Nat} (S:LY t1 t2 h z TI TO i1 i2 l1 l2 k) {B:Addr} (hk:∀c o,c≠B->h.get? c=some o->h'.get? c=some o) (hB:∃o,h'.get? B=some o) (nB:B∉[z,TI,TO,i1,i2]):LY t1 t2 h' z TI TO i1 i2 l1 l2 k:=by
 simp only[zD,zE,or_false,not_or] at nB;obtain⟨b1,b2,b3,b4,b5⟩:=nB;rcases S with⟨e,S⟩ | S
 ·exact .inl ⟨e,hk _ _ (Ne.symm b1) S.z,hk _ _ (Ne.symm b2) S.ti,(let ⟨x,y,q⟩:=S.to;⟨x,y,hk _ _ (Ne.symm b3) q⟩),S.i1.at fun o=>hk _ o (Ne.symm b4),S.i2.at fun o=>hk _ o (Ne.symm b5)⟩
 ·obtain⟨T,f1,z1,⟨o,hT⟩,n1,n2,n3⟩:=S.z
  refine .inr ⟨⟨T,f1,hk _ _ (Ne.symm b1) z1,?_,n1,n2,n3⟩,hk _ _ (Ne.symm b2) S.ti,(let ⟨x,q⟩:=S.to;⟨x,hk _ _ (Ne.symm b3) q⟩),S.i1.at fun o=>hk _ o (Ne.symm b4),S.i2.at fun o=>hk _ o (Ne.symm b5)⟩
  by_cases e:T=B
  ·rw[e];exact hB
  ·exact⟨o,hk _ _ e hT⟩
def LY.obj {t1 t2:Bool} {h:Heap} {z TI TO i1 i2 l1 l2:Addr} {k:Nat} (S:LY t1 t2 h z TI TO i1 i2 l1 l2 k):∀b∈[z,TI,TO,i1,i2],∃o,h.get? b=some o:=by
 intro b hb;simp only[zD,zE,or_false] at hb;rcases S with⟨e,S⟩ | S
 ·rcases hb with rfl | rfl | rfl | rfl | rfl
  ·exact⟨_,S.z⟩
  ·exact⟨_,S.ti⟩
  ·exact let ⟨x,y,q⟩:=S.to;⟨_,q⟩
  ·exact let ⟨o,e,_⟩:=S.i1.get;⟨o,e⟩
  ·exact let ⟨o,e,_⟩:=S.i2.get;⟨o,e⟩
 ·rcases hb with rfl | rfl | rfl | rfl | rfl
  ·obtain⟨_,_,e,_⟩:=S.z;exact⟨_,e⟩
  ·exact⟨_,S.ti⟩
  ·exact S.to
  ·exact let ⟨o,e,_⟩:=S.i1.get;⟨o,e⟩
  ·exact let ⟨o,e,_⟩:=S.i2.get;⟨o,e⟩
def KC {t1 t2:Bool} {z TI TO i1 i2 l1 l2:Addr} {k:Nat} {xs ys:Array Value} {x y:Value} {Q:Option Value->Shared->Prop} (D:LZ z TI TO i1 i2) (L1:BB l1 z TO i1 i2) (L2:BB l2 z TO i1 i2)
  (S:LY t1 t2 s.heap z TI TO i1 i2 l1 l2 k) (hl1:fF t1 s.heap l1 xs) (hl2:fF t2 s.heap l2 ys) (hx:xs[k]?=some x) (hy:ys[k]?=some y)
  (hQ:∀h',LY t1 t2 h' z TI TO i1 i2 l1 l2 (k+1)->IsPair h' ↑s x y->uz z TO i1 i2 s.heap h'->Q (some (.ref ↑s)) {s with heap:=h'}) :
  wpAny (model prog w) A (pyNext (.ref z)) Q E s:=by
 have ob:=S.obj;have lt:∀b∈[z,TI,TO,i1,i2],↑s≠b:=fun b hb e=>by
  obtain⟨o,ho⟩:=ob b hb;rw[<-e] at ho;exact absurd (yy ho) (yf _)
 rcases S with⟨e,S⟩ | S
 ·subst e
  refine FG D L1 L2 S hl1 hl2 hx hy fun h' a1 a2 a3=>hQ h' (.inr ⟨⟨_,false,a1.z,⟨_,a2⟩,lt z (by simp),lt i1 (by simp),lt i2 (by simp)⟩,a1.ti,(let ⟨x,y,q⟩:=a1.to;⟨_,q⟩),a1.i1,a1.i2⟩) a2 a3
 ·have hT:s.TypeIs (.ref z) "zip":=by obtain⟨_,_,e,_⟩:=S.z;exact⟨_,e,rfl⟩
  unfold pyNext;exact yu (wpAny_attempt (wpAny_callSpecial?_slot (name:=Str.ofString "__next__") hT F.slot_zip_next (wpAny_call_entry F.slot_zip_next hT F.entry_zip_next (KH D L1 L2 S hl1 hl2 hx hy fun h' a1 a2 a3=>yw (hQ h' (.inr a1) a2 a3)) (F.args_zip_next_1 _))))
def KA {t1 t2:Bool} {z TI TO i1 i2 l1 l2:Addr} {k:Nat} {xs ys:Array Value} {Q:Option Value->Shared->Prop} (hh:A.handled=none) (D:LZ z TI TO i1 i2) (L1:BB l1 z TO i1 i2) (L2:BB l2 z TO i1 i2)
  (S:LY t1 t2 s.heap z TI TO i1 i2 l1 l2 k) (hl1:fF t1 s.heap l1 xs) (hl2:fF t2 s.heap l2 ys) (hx:xs[k]?=none)
  (hQ:∀h',uz z TO i1 i2 s.heap h'->Q none {s with heap:=h'}):wpAny (model prog w) A (pyNext (.ref z)) Q E s:=by
 rcases S with⟨e,S⟩ | S
 ·subst e
  exact FE hh D L1 L2 S hl1 hl2 (.inl hx) hQ
 ·have hT:s.TypeIs (.ref z) "zip":=by obtain⟨_,_,e,_⟩:=S.z;exact⟨_,e,rfl⟩
  unfold pyNext;refine yu (wpAny_attempt (wpAny_callSpecial?_slot (name:=Str.ofString "__next__") hT F.slot_zip_next (wpAny_call_entry F.slot_zip_next hT F.entry_zip_next (KG hh D L1 S hl1 hx fun h' e hk he=>?_) (F.args_zip_next_1 _))));obtain⟨o,ho,hc⟩:=he;exact yu (wpAny_isInstance (T:="StopIteration") (b:=true) ⟨o,ho,hc⟩ isSubtype_stop (yw (hQ _ hk)))
end
def Pairs (H:Hp) (xs ys us:List V) (k:Nat):Prop:=us.length=k/\∀(j:Nat) (x y:V),j<k->xs[j]?=some x->ys[j]?=some y->∃q,us[j]?=some (.ref q)/\H q=some (.tup [x,y])
def aB.PZ {t:Bool} {K:yB} {H H':Hp} {a:Addr} {xs:List V} (e:aB H H') (h:CH t K H a xs):CH t K H' a xs:=by
 cases t
 ·exact e.seq h
 ·exact e.tup h
abbrev Ky (h:Heap) (S:Addr) (acc:Array Value) (c:Nat):Prop:=h.get? S=some {cls:=.type "list",dict:=none,data:=.seq acc c,slots:=#[]}
section
variable {X:Cx} {pins:List (Addr×Obj)} {σ:St}
def Mj {A:Around} {R:Result->Shared->Prop} {t1 t2:Bool} {a b z TI TO i1 i2 S:Addr} {xs ys:List V} {res:Value} (hh:A.handled=none) (D:LZ z TI TO i1 i2) (L1:BB a z TO i1 i2) (L2:BB b z TO i1 i2) (hl:xs.length=ys.length) (hz:xs.length<=sizeLine) (nS:S∉[z,TI,TO,i1,i2]) :
  ∀(n k:Nat) (s:Shared) (H:Hp) (acc:Array Value) (c:Nat) (us:List V),xs.length-k=n->k<=xs.length->Inv X pins σ H s->(∀b∈[z,TI,TO,i1,i2,S],sj X pins H b)->LY t1 t2 s.heap z TI TO i1 i2 a b k->CH t1 X.K H a xs->CH t2 X.K H b ys->
  Ky s.heap S acc c->Vals us acc.toList->Pairs H xs ys us k->
  (∀(s':Shared) (H':Hp) (us':List V) (acc':Array Value) (c':Nat),Inv X pins σ H' s'->sj X pins H' S->aB H H'->Ky s'.heap S acc' c'->Vals us' acc'.toList->Pairs H' xs ys us' xs.length->R (.ok (.ret res)) s')->
  codeAny (model X.prog X.w) A (.builtin "list.extend.loop" ⟨[.ref S,.ref z,res],[]⟩) R s:=by
 intro n
 induction n with
 | zero=>
  intro k s H acc c us hk hi I hf S0 q1 q2 hS rv pr hR;have e:k=xs.length:=nofun
  subst e;obtain⟨its,rx,p1,_⟩:=I.sq q1;obtain⟨jts,ry,p2,_⟩:=I.sq q2;refine codeAny_builtin F.entry_extend_loop ?_;rw[Around.under_plainId F.plain_extend_loop _];show wpAny _ A.in1 (pyNext (.ref z) >>= _) _ _ s;have hl:=rx.length;refine yu (KA (A:=A.in1) hh D L1 L2 S0 p1 p2 (by simp;omega) fun h' hk'=>?_);have kk:∀b u,b∉[z,TI,TO,i1,i2,S]->s.heap.get? b=some u->h'.get? b=some u:=fun b u hb e=>hk' b u (fun z=>hb (by simp[z])) (fun z=>hb (by simp[z])) (fun z=>hb (by simp[z])) (fun z=>hb (by simp[z])) e;have kS:Ky h' S acc c:=hk' S _ (fun z=>nS (by simp[z])) (fun z=>nS (by simp[z])) (fun z=>nS (by simp[z])) (fun z=>nS (by simp[z])) hS;exact yw (hR _ H us acc c (I.turns (t':=s.toks) hf kk) (hf S (by simp)) (fun _ _ e=>e) kS rv pr)
 | succ n ih=>
  intro k s H acc c us hk hi I hf S0 q1 q2 hS rv pr hR;have hlt:k<xs.length:=nofun
  obtain⟨its,rx,p1,_⟩:=I.sq q1;obtain⟨jts,ry,p2,_⟩:=I.sq q2;obtain⟨u,hu,ru⟩:=rx.get (zd hlt);obtain⟨u',hu',ru'⟩:=ry.get (zd (show k<ys.length by omega));refine codeAny_builtin F.entry_extend_loop ?_;rw[Around.under_plainId F.plain_extend_loop _];show wpAny _ A.in1 (pyNext (.ref z) >>= _) _ _ s;have ob:=S0.obj;have lt:∀b∈[z,TI,TO,i1,i2,S],b≠↑s:=fun b hb e=>by
   obtain⟨o,ho⟩:∃o,s.heap.get? b=some o:=by
    rcases zG.mp (show b∈[z,TI,TO,i1,i2]++[S] from hb) with z' | z'
    ·exact ob b z'
    ·rw[zA.mp z'];exact⟨_,hS⟩
   rw[e] at ho;exact absurd (yy ho) (yf _)
  refine yu (KC (A:=A.in1) D L1 L2 S0 p1 p2 (x:=u) (y:=u') (by simpa using hu) (by simpa using hu') fun h' S1 hT hk'=>?_);have kS:Ky h' S acc c:=hk' S _ (fun z=>nS (by simp[z])) (fun z=>nS (by simp[z])) (fun z=>nS (by simp[z])) (fun z=>nS (by simp[z])) hS;have az:acc.size=k:=by rw[<-Array.length_toList,<-rv.length];exact pr.1
  show wpAny _ A.in1 (updateSeq S (·.push (.ref ↑s)) >>= _) _ _ _;refine yu ?_;have oth:∀b o,b≠S->h'.get? b=some o->(h'.update S (Obj.mapSeq (·.push (.ref ↑s)))).get? b=some o:=fun b o hb e=>(yz _ _ (Ne.symm hb)).trans e;have S2:=yA (Obj.mapSeq (·.push (Value.ref ↑s))) kS rfl;have hn:H ↑s=none:=I.cm.fresh (zm _);have hT2:=oth _ _ (Ne.symm (lt S (by simp))) hT;have I2:Inv X pins σ (upd H ↑s (.tup [xs[k],ys[k]])) {s with heap:=h'.update S (Obj.mapSeq (·.push (.ref ↑s))),toks:=s.toks}:=
   I.xX (t':=s.toks) hf (zm _) (fun b o hb e=>oth b o (fun z=>hb (by simp[z])) (hk' b o (fun z=>hb (by simp[z])) (fun z=>hb (by simp[z])) (fun z=>hb (by simp[z])) (fun z=>hb (by simp[z])) e))
    ⟨by show 2<=sizeLine;decide,[u,u'],.cons ru (.cons ru' .nil),⟨_,hT2,rfl,_,rfl⟩⟩
  have s1:aB H (upd H ↑s (.tup [xs[k],ys[k]])):=aS hn;refine wpAny_updateSeq kS rfl (yw ⟨plainId_quiet F.plain_extend_loop _,ih (k+1) _ (upd H ↑s (.tup [xs[k],ys[k]])) (acc.push (.ref ↑s)) _ (us++[.ref ↑s]) nofun hlt I2 (fun b hb=>?_) ?_ (s1.PZ q1) (s1.PZ q2) S2 ?_ ?_ ?_⟩)
   (by rw[az];omega) (by show(acc.push _).size<=sizeLine+1;rw[Array.size_push,az];omega)
  ·obtain⟨f0,f1,f2,f3,f4,f5⟩:=hf b hb
   exact⟨by rw[aH (lt b hb)];exact f0,f1,f2,f3,f4,f5⟩
  ·exact S1.at (B:=S) oth ⟨_,S2⟩ nS
  ·rw[Array.toList_push]
   exact Vals.append rv (.cons rfl .nil)
  ·refine⟨by rw[zh,pr.1];rfl,fun j x y hj hx hy=>?_⟩
   rcases Nat.lt_or_ge j k with z' | z'
   ·obtain⟨q,e1,e2⟩:=pr.2 j x y z' hx hy
    exact⟨q,by rw[List.getElem?_append_left (by rw[pr.1];exact z')];exact e1,s1 _ _ e2⟩
   ·have e:j=k:=nofun
    subst e;rw[zd hlt] at hx;rw[zd (show j<ys.length by omega)] at hy;cases hx;cases hy;exact⟨↑s,by rw[z9 (by rw[pr.1];exact zm _),pr.1,Nat.sub_self];rfl,aC⟩
  ·exact fun s' H' us' acc' c' I' f' sm l' v' p'=>hR s' H' us' acc' c' I' f' (s1.trans sm) l' v' p'
def Cu {A:Around} {E:Value->Shared->Prop} {s:Shared} {H:Hp} {Q:Value->Shared->Prop} {t1 t2:Bool} {a b z TI TO i1 i2:Addr} {xs ys:List V} (hh:A.handled=none) (D:LZ z TI TO i1 i2) (L1:BB a z TO i1 i2) (L2:BB b z TO i1 i2) (hl:xs.length=ys.length) (hz:xs.length<=sizeLine)
  (I:Inv X pins σ H s) (hf:∀b∈[z,TI,TO,i1,i2],sj X pins H b) (Z0:Ou t1 t2 s.heap z TI TO i1 i2 a b 0 .none) (q1:CH t1 X.K H a xs) (q2:CH t2 X.K H b ys)
  (hQ:∀(s':Shared) (H':Hp) (us':List V) (l:Addr),Inv X pins σ H' s'->H l=none->aB H H'->H' l=some (.lst us')->Pairs H' xs ys us' xs.length->Q (.ref l) s') :
  wpAny (model X.prog X.w) A (call (.type "list") [.ref z]) Q E s:=by
 have S0:LY t1 t2 s.heap z TI TO i1 i2 a b 0:=.inl ⟨rfl,Z0⟩;have nS:↑s∉[z,TI,TO,i1,i2]:=fun hb=>by
  obtain⟨o,ho⟩:=S0.obj _ hb;exact absurd (yy ho) (yf _)
 refine callType_codes (Q₁:=fun obj s₁=>obj=.ref ↑s/\s₁={s with heap:=s.heap.push {cls:=.type "list",data:=.seq #[]}}) F.called_list (F.typeCall_list_1 _) F.entry_list_init
  (code_list_new _ ⟨rfl,rfl⟩) fun obj s₁ h₁=>?_
 obtain⟨rfl,rfl⟩:=h₁;have hS:(s.heap.push {cls:=.type "list",data:=.seq #[]}).get? ↑s=some {cls:=.type "list",data:=.seq #[]}:=yx _ rfl;refine⟨⟨_,hS,rfl⟩,F.args_list_init_2 _ _,?_⟩;have kp:∀b o,s.heap.get? b=some o->(s.heap.push {cls:=.type "list",data:=.seq #[]}).get? b=some o:=fun b o e=>yv _ e;have fS:sj X pins H ↑s:=I.xj (zm _) (I.cm.fresh (zm _));have hf6:∀b∈[z,TI,TO,i1,i2,↑s],sj X pins H b:=fun b hb=>by
  rcases zG.mp (show b∈[z,TI,TO,i1,i2]++[↑s] from hb) with z' | z'
  ·exact hf b z'
  ·rw[zA.mp z'];exact fS
 have S1:LY t1 t2 (s.heap.push {cls:=.type "list",data:=.seq #[]}) z TI TO i1 i2 a b 0:=S0.at (B:=↑s) (fun c o _ e=>kp c o e) ⟨_,hS⟩ nS;have I1:Inv X pins σ H {s with heap:=s.heap.push {cls:=.type "list",data:=.seq #[]}}:=I.kept (t':=s.toks) kp;have zz:IsZip (s.heap.push {cls:=.type "list",data:=.seq #[]}) z TI TO .none:=kp _ _ Z0.z;generalize hS0:↑s=S at hS nS fS hf6 ⊢;have s0S:X.s₀.heap.objs.size<=S:=by rw[<-hS0];exact I.sz
 have lo:↑s<=S:=Nat.le_of_eq hS0;clear kp;generalize (s.heap.push {cls:=.type "list",data:=.seq #[]}:Heap)=h1 at hS S1 I1 zz;show wpAny _ A.in1.in1 (do let old <-Builtin.List.listItems (.ref S);Builtin.List.listUpdate (.ref S) (fun _=>#[]);letGo old.toList.reverse;Builtin.List.listExtendWith (.ref S) (.ref z) .none) _ _ _;refine yu ?_;unfold Builtin.List.listItems;refine yu (wpAny_seqItems hS rfl (yw ?_));show wpAny _ A.in1.in1 (updateSeq S (fun _=>#[]) >>= fun _=>letGo (#[]:Array Value).toList.reverse >>= fun _=>Builtin.List.listExtendWith (.ref S) (.ref z) .none) _ _ _;refine yu (wpAny_updateSeq hS rfl ?_);have hS2:=yA (Obj.mapSeq (fun _=>(#[]:Array Value))) hS rfl;have oth:∀b o,b≠S->h1.get? b=some o->(h1.update S (Obj.mapSeq (fun _=>(#[]:Array Value)))).get? b=some o:=
  fun b o hb e=>(yz _ _ (Ne.symm hb)).trans e
 refine yu (wpAny_letGo ?_);have hSI:S≠z:=fun e=>nS (by rw[e];simp);replace zz:=oth _ _ hSI.symm zz;have S2:=S1.at (B:=S) oth ⟨_,hS2⟩ nS;have I2:=I1.turns (t':=s.toks) (ch:=[S]) (fun b hb=>by rw[zA.mp hb];exact fS) (fun b o hb e=>oth b o (fun z=>hb (by simp[z])) e);clear oth S1 I1 hS;generalize (h1.update S (Obj.mapSeq (fun _=>(#[]:Array Value))):Heap)=h2 at hS2 S2 I2 zz;dsimp only at I2 ⊢;unfold Builtin.List.listExtendWith;have hT:Shared.TypeIs {s with heap:=h2,toks:=s.toks} (.ref z) "zip":=S2.type (s:={s with heap:=h2,toks:=s.toks});refine yu (wpAny_typeOf hT ?_);have e1:Builtin.List.listSameRef (.ref S) (.ref z)=false:=by simp[Builtin.List.listSameRef,hSI]
 have e2:(Value.type "zip"== Value.type "list")=false:=by decide
 have e3:(Value.type "zip"== Value.type "tuple")=false:=by decide
 simp only[e1,e2,e3,Bool.or_false,Bool.false_eq_true,if_false];refine yu (wpAny_pyIter_zip (s:={s with heap:=h2,toks:=s.toks}) zz ?_);refine yu (wpAny_holding ?_);unfold Builtin.List.listLengthHint;refine yu (wpAny_specialOf hT Ih ?_);show wpAny _ A.in1.in1 (specialOf (Value.ref z) (Str.ofString "__length_hint__") >>= _) _ _ _;refine yu (wpAny_specialOf hT FF ?_);refine yw ?_;show wpAny _ A.in1.in1 (rule "list.extend.makes-room" >>= fun _=>Builtin.List.listTouch (.ref S) >>= fun _=>
  again (.builtin "list.extend.loop" ⟨[.ref S,.ref z,.none],[]⟩)) _ _ _
 refine yu (wpAny_rule ?_);refine yu ?_;show wpAny _ A.in1.in1 (updateSeq S (·.push .none) >>= fun _=>updateSeq S (·.pop)) _ _ _;refine yu (wpAny_updateSeq hS2 rfl ?_);have hS3:=yA (Obj.mapSeq (·.push Value.none)) hS2 rfl;refine wpAny_updateSeq (hz:=by seq_fits) hS3 rfl ?_;have hS4:=yA (Obj.mapSeq (·.pop)) hS3 rfl;have oth:∀b o,b≠S->h2.get? b=some o->((h2.update S (Obj.mapSeq (·.push Value.none))).update S (Obj.mapSeq (·.pop))).get? b=some o:=
  fun b o hb e=>(yz _ _ (Ne.symm hb)).trans ((yz _ _ (Ne.symm hb)).trans e)
 have S4:=S2.at (B:=S) oth ⟨_,hS4⟩ nS;have I4:=I2.turns (t':=s.toks) (ch:=[S]) (fun b hb=>by rw[zA.mp hb];exact fS) (fun b o hb e=>oth b o (fun z=>hb (by simp[z])) e);refine yw ⟨plainId_quiet F.plain_extend_loop _,Mj (X:=X) (pins:=pins) (σ:=σ) (A:=A.in1) hh D L1 L2 hl hz nS xs.length 0 _ H _ _ [] rfl (yg _) I4 hf6 S4 q1 q2 hS4 .nil ⟨rfl,fun j x y hj=>nofun⟩ fun s' H' us' acc' c' I' f' sm l' v' p'=>?_⟩;refine⟨rfl,?_⟩;obtain⟨f0,f1,f2,f3,f4,f5⟩:=f';have I5:Inv X pins σ (upd H' S (.lst us')) s':=I'.R7 f0 (by
  cases q:X.s₀.heap.get? S with
  | none=>rfl
  | some o=>exact absurd (yy q) (Nat.not_lt.mpr s0S)) f1 f4 f5 ⟨by rw[p'.1];exact hz,acc'.toList,c',v',l'⟩
 refine hQ s' _ us' S I5 fS.1 (sm.trans (aS f0)) aC ⟨p'.1,fun j x y hj hx hy=>?_⟩;obtain⟨q,e1,e2⟩:=p'.2 j x y hj hx hy;exact⟨q,e1,aS f0 _ _ e2⟩
def QC (K:yB) (ta:TA):TE:=fun σ H Q=>ta σ H fun vs H1=>∃t1 t2 a b xs ys,vs=[.ref a,.ref b]/\CH t1 K H1 a xs/\CH t2 K H1 b ys/\xs.length=ys.length/\∀l H2 us,aB H1 H2->H1 l=none->H2 l=some (.lst us)->Pairs H2 xs ys us xs.length->Q (.ref l) H2
def Nc (hc:X.calm=true) (hg0:Gl X "list") (hm0:X.mg "list"= none) (hg:Gl X "zip") (hm:X.mg "zip"= none) (ha:PA X [a,b] ta)
  (hs:starEach [a,b] X.env=[(false,eval a X.env),(false,eval b X.env)]<|>qe_) (hs2:starEach [b] X.env=[(false,eval b X.env)]<|>qe_)
  (hs1:starEach [.Call (.Name "zip" p2) [a,b] [] pos2] X.env=[(false,eval (.Call (.Name "zip" p2) [a,b] [] pos2) X.env)]<|>qe_) :
  PE X (.Call (.Name "list" p1) [.Call (.Name "zip" p2) [a,b] [] pos2] [] pos1) (QC X.K ta):=by
 intro pins s σ H Q I h;refine wpAny_Call_Name_kw (jY I hg0 hm0 (by decide +kernel:bootBuiltins "list"= some (.type "list")) ?_ ∅ ∅);refine yM (Q:=_) ?_ hs1 rfl;rw[hs1];refine Calls.spliced_cons ?_;refine Call_ (jY I hg hm N4 (yM (dh (ha pos2 pins s σ H _ I h) fun us s1 ⟨vs,H1,I1,r1,q1⟩=>?_) (by rw[hs,hs2]) (by rw[hs2];rfl)));obtain⟨t1,t2,a,b,xs,ys,e,hq,hq',hl,q⟩:=q1;subst e;cases r1 with
 | cons r rr=>
  cases rr with
  | cons r' rr=>
   cases rr;cases r;cases r';obtain⟨its,rv,pl,hz⟩:=I1.sq hq;obtain⟨jts,rv',pl',hz'⟩:=I1.sq hq';have la:=pl.lt;have lb:=pl'.lt;refine FH pl pl' fun g S hk=>?_;refine Calls.spliced_nil ?_;have I2:Inv X pins σ H1 {s1 with heap:=g}:=I1.kept (t':=s1.toks) hk;have D:LZ (↑s1+4) (↑s1+2) (↑s1+3) ↑s1 (↑s1+1):=by
    constructor <;> (show _≠(_:Nat)) <;> omega
   have L:∀c,c<↑s1->BB c (↑s1+4) (↑s1+3) ↑s1 (↑s1+1):=fun c hc=>by
    constructor <;> (show _≠(_:Nat)) <;> omega
   refine Cu (I2.ok.hd hc) D (L a la) (L b lb) hl hz I2 (fun c hc=>?_) S hq hq' fun s' H' us' l I' hn sm e pr=>⟨.ref l,H',I',rfl,q l H' us' sm hn e pr⟩
   have hb':↑s1<=c:=by
    simp only[zD,zE,or_false] at hc;rcases hc with e | e | e | e | e <;> (subst e;first | exact Nat.le_add_right _ _ | exact zm _)
   exact I1.xj hb' (I1.cm.fresh hb')
end
end L2
namespace Sc
open PySem L2 Lm
noncomputable def mixed (c k:Int):Int:=(c%2305843009213693951+1)*(k*k+48271)*40692%2147483399
def cw (h0:0<=i) (h1:i<2^n):Sz n i:=by
 unfold Sz;have e:((2^n:Nat):Int)=(2:Int)^n:=by simp
 rw[<-e] at h1;omega
def Ru (h1:48<=c) (h2:c<=57):c∈("0123456789": Str).cps.toList:=by
 have:c=48\/c=49\/c=50\/c=51\/c=52\/c=53\/c=54\/c=55\/c=56\/c=57:=nofun
 rcases this with rfl | rfl | rfl | rfl | rfl | rfl | rfl | rfl | rfl | rfl <;> decide
noncomputable def jg (x:Int×Int):Str:=if x.2=1 then dec x.1 else dec x.1 ++"/" ++ dec x.2
abbrev Item:=Option (Int×Int)×(Int×Int)
noncomputable def rO:Item->Str
 | (none,x)=> "r:" ++ jg x
 | (some q,x)=>dec q.1 ++":" ++ dec q.2 ++":" ++ jg x
def Ov (x:Int×Int):Prop:=Rd x/\0<x.1/\x.1<10000/\x.2<10000
def Og (q:Int×Int):Prop:=-100<q.1/\q.1<100/\-100<q.2/\q.2<100/\(q.2-7*q.1)%12=0
def L5 (it:Item):Prop:=Ov it.2/\∀q,it.1=some q->Og q
def gA (h1:c≠45) (h2:¬(48<=c/\c<=57)):c∉(dec n).cps.toList:=by
 intro z
 by_cases h0:0<=n
 ·obtain⟨m,rfl⟩:=yL h0
  exact h2 (l6 z)
 ·obtain⟨m,em⟩:∃m:Nat,-n=(m:Int):=⟨(-n).toNat,nofun⟩
  rw[xQ nofun,em,cL] at z;rcases zG.mp z with z | z
  ·have e:("-": Str).cps.toList=[45]:=rfl
   rw[e] at z;exact h1 (zA.mp z)
  ·exact h2 (l6 z)
def C6 (h:Ov x):58∉(jg x).cps.toList:=by
 unfold jg;split
 ·exact gA ∅ ∅
 ·rw[cL,cL]
  intro z;rcases zG.mp z with z | z
  ·rcases zG.mp z with z | z
   ·exact gA ∅ ∅ z
   ·have e:("/": Str).cps.toList=[47]:=rfl
    rw[e] at z;exact absurd (zA.mp z) ∅
  ·exact gA ∅ ∅ z
def Ho (h0:0<=n) (h:n<10000):(dec n).length<=4:=by
 obtain⟨m,rfl⟩:=yL h0;exact Dq ∅ nofun
abbrev fR (x:Int×Int):HO:=.tup [.int x.1,.int x.2]
inductive JN (H:Hp):V->Option (Int×Int)->Prop where
 | bR:JN H .bR none
 | ref {b:Addr} {q:Int×Int}:H b=some (fR q)->JN H (.ref b) (some q)
def JN.mono (s:aB H H') (h:JN H v o):JN H' v o:=by
 cases h with
 | bR=>exact .bR
 | ref h=>exact .ref (s _ _ h)
def UM (H:Hp) (v:V) (it:Item):Prop:=∃p pv a,v=.ref p/\H p=some (.tup [pv,.ref a])/\H a=some (fR it.2)/\JN H pv it.1
noncomputable def xk:List Nat:=("0123456789": Str).cps.toList
noncomputable def rn (most:Int) (cs:List Nat):Option Int:=
 if(cs.length:Int)<1 then none else if most<cs.length then none else if cs.all (fun c=>decide (c∈xk))=true then(if cs[0]?=some 48/\1<cs.length then none else some ((NumText.digitsVal cs:Nat):Int)) else none
noncomputable def ov:Option Int->V
 | none=>.bR
 | some n=>.int n
noncomputable def rs (most:Int) (t:Str):Option Int:=if t.cps.toList[0]?=some 45 then(match rn most (t.cps.toList.drop 1) with | some n=>if n=0 then none else some (-n) | none=>none) else rn most t.cps.toList
noncomputable def rp (a b:Str):Option (Int×Int):=match rs 2 a,rs 2 b with
 | some f,some h=>if(h-7*f)%12=0 then some (f,h) else none
 | _,_=>none
noncomputable def Oq (t:Str):Option (Int×Int):=match Txt.split t "/" with
 | [a]=>(match rn 4 a.cps.toList with | some n=>some (red n 1) | none=>none)
 | [a,b]=>(match rn 4 a.cps.toList,rn 4 b.cps.toList with | some n,some m=>if m=0 then none else some (red n m) | _,_=>none)
 | _=>none
noncomputable def lr (t:Str):Option (Int×Int):=match Oq t with
 | some x=>if x.1=0 then none else some x
 | none=>none
noncomputable def ir (t:Str):Option Item:=match lr ((Txt.split t ":").getLast?.getD "") with
 | none=>none
 | some x=>if(Txt.split t ":").dropLast=[("r": Str)] then some (none,x) else match (Txt.split t ":").dropLast with
  | [a,b]=>(match rp a b with | some q=>some (some q,x) | none=>none)
  | _=>none
def PL (H:Hp) (v:V):Option Item->Prop
 | none=>v=.bR
 | some it=>UM H v it
def Hh (h:c∈xk):48<=c/\c<=57:=by
 have e:xk=[48,49,50,51,52,53,54,55,56,57]:=rfl;rw[e] at h;simp at h;omega
def MQ (h:rn most cs=some n) (hm:most<=4):0<=n/\n<10000/\(cs.all (fun c=>decide (c∈xk))=true):=by
 unfold rn at h;split at h
 ·cases h
 ·split at h
  ·cases h
  ·split at h
   ·rename_i h1 h2 h3
    split at h
    ·cases h
    ·cases h
     refine⟨Int.natCast_nonneg _,?_,h3⟩;have hl:cs.length<=4:=nofun
     have key:∀(l:List Nat) (a:Nat),l.all (fun c=>decide (c∈xk))=true->l.foldl (fun acc c=>acc*10+(c-48)) a<(a+1)*10^l.length:=by
      intro l
      induction l with
      | nil=>intro a _;simp
      | cons c l ih=>
       intro a ha;rw[List.all_cons,zO] at ha;have i3:=Hh (ye ha.1);have i1:=ih (a*10+(c-48)) ha.2;have i2:(a*10+(c-48)+1)*10^l.length<=((a+1)*10)*10^l.length:=Nat.mul_le_mul_right _ nofun;rw[List.foldl_cons,zv,Nat.pow_succ,Nat.mul_comm (10^l.length) 10,<-Nat.mul_assoc];exact yc i1 i2
     have k1:NumText.digitsVal cs<10^cs.length:=by have:=key cs 0 h3;rw[Nat.zero_add,Nat.one_mul] at this;exact this
     have k2:10^cs.length<=10^4:=Nat.pow_le_pow_right ∅ hl;omega
   ·cases h
def JA (h:cs.all (fun c=>decide (c∈xk))=true):NumText.AllDigits cs:=fun c hc=>by
 have:=(yp.mp h) c hc;exact Hh (ye this)
inductive kf (vs:List V) (H:Hp) (Q:VK) (E:XK):Prop
 | mk (a b:Int) (_:vs=[.int a,.int b]) (_:0<=a) (_:0<=b) (_:Q (.int (Int.gcd a b:Nat)) H)
inductive gj (vs:List V) (H:Hp) (Q:VK) (E:XK):Prop
 | mk (t b:Int) (_:vs=[.int t,.int b]) (_:0<=t) (_:0<b) (_:Sz 8999 b) (_:∀p H',aB H H'->H' p=some (fR (red t b))->Q (.ref p) H')
inductive MH (vs:List V) (H:Hp) (Q:VK) (E:XK):Prop
 | mk (x y:Int×Int) (p q:Addr) (n m:Nat) (_:vs=[.ref p,.ref q]) (_:H p=some (fR x)) (_:H q=some (fR y)) (_:Rd x) (_:Rd y) (_:BE n x) (_:BE m y) (_:n+m<=8999) (_:∀r H',aB H H'->H' r=some (fR (add x y))->Q (.ref r) H')
inductive Iw (vs:List V) (H:Hp) (Q:VK) (E:XK):Prop
 | mk (x y:Int×Int) (p q:Addr) (_:vs=[.ref p,.ref q]) (_:H p=some (fR x)) (_:H q=some (fR y)) (_:BE 8999 x) (_:BE 8999 y) (_:Q (.bl (decide (x.1*y.2<y.1*x.2))) H)
inductive BP (vs:List V) (H:Hp) (Q:VK) (E:XK):Prop
 | mk (c k:Int) (_:vs=[.int c,.int k]) (_:0<=k) (_:k<1000000) (_:Q (.int (mixed c k)) H)
abbrev yT:Sp:=gj
inductive iO (vs:List V) (H:Hp) (Q:VK) (E:XK):Prop
 | mk (t:Str) (most:Int) (_:vs=[.str t,.int most]) (_:t.length<=600) (_:∀H',aB H H'->Q (ov (rn most t.cps.toList)) H')
inductive ng (vs:List V) (H:Hp) (Q:VK) (E:XK):Prop
 | mk (t:Str) (most:Int) (_:vs=[.str t,.int most]) (_:t.length<=600) (_:∀H',aB H H'->Q (ov (rs most t)) H')
inductive oF (vs:List V) (H:Hp) (Q:VK) (E:XK):Prop
 | mk (a b:Str) (_:vs=[.str a,.str b]) (_:a.length<=600) (_:b.length<=600) (_:∀v H',aB H H'->JN H' v (rp a b)->Q v H')
def nc (C:Addr):Sp:=fun vs H Q E=>∃(t:Str),vs=[.str t]/\t.length<=600/\(∀x,Oq t=some x->∀p H',aB H H'->H' p=some (fR x)->Q (.ref p) H')/\(Oq t=none->∀H',aB H H'->E (.ref C) none H')
def iC:Sp:=fun vs H Q _=>∃(t:Str),vs=[.str t]/\t.length<=600/\∀v H',aB H H'->JN H' v (lr t)->Q v H'
def qq:Sp:=fun vs H Q _=>∃(t:Str),vs=[.str t]/\t.length<=600/\∀v H',aB H H'->PL H' v (ir t)->Q v H'
noncomputable def dL (x:Int×Int):Dt:=.tup [.int x.1,.int x.2]
noncomputable def dO (f:α->Dt):Option α->Dt
 | none=>.bR
 | some x=>f x
noncomputable def fe (it:Item):Dt:=.tup [dO dL it.1,dL it.2]
noncomputable def wA (l:List Int):Dt:=.tup (l.map .int)
noncomputable def og (l:List Str):Dt:=.tup (l.map .str)
abbrev End:=Int×List Int
noncomputable def oq (e:End):Dt:=.tup [.int e.1,wA e.2]
structure Rep where
 first:Int
 last:Int
 times:Int
 ends:List End
noncomputable def iK (r:Rep):Dt:=.tup [.int r.first,.int r.last,.int r.times,.tup (r.ends.map oq)]
structure Me where
 aU:Int×Int
 key:Int
 marks:List Str
noncomputable def l8 (b:Me):Dt:=.tup [dL b.aU,.int b.key,og b.marks]
structure Jump where
 uB:Int
 wu:Int
 cW:Int
 gf:Option Int
noncomputable def jZ (j:Jump):Dt:=.tup [.int j.uB,.int j.wu,.int j.cW,dO .int j.gf]
noncomputable def words (t:Str):List Str:=(Txt.split t " ").filter fun w=>decide (w≠ "")
noncomputable def sgn:List Nat:=("abcdefghijklmnopqrstuvwxyz0123456789": Str).cps.toList
noncomputable def cP (t:Str):Option Str:=if(t.length:Int)<1 then none else if(12:Int)<t.length then none else if t.cps.toList.all (fun c=>decide (c∈sgn))=true then some t else none
noncomputable def os:Option Str->V
 | none=>.bR
 | some x=>.str x
noncomputable def fV (t:Str):Option Int:=rn 3 t.cps.toList
noncomputable def nN (t:Str) (lo hi:Int):Option Int:=match fV t with
 | some n=>if n<lo then none else if hi<n then none else some n
 | none=>none
noncomputable def Ai (a b:Str):Option (Int×Int):=match rp a b with
 | some q=>if 12<(if q.1<0 then -q.1 else q.1) then none else some q
 | none=>none
noncomputable def Cy:List Int:=[1,2,4,8,16,32]
noncomputable def jN (t:Str):Option (Int×Int):=match Txt.split t "/" with
 | [a,b]=>(match nN a 1 32,fV b with | some m,some n=>if n∈Cy then some (m,n) else none | _,_=>none)
 | _=>none
noncomputable def Gg (t:Str):Option Int:=match rs 3 t with
 | some k=>if 7<(if k<0 then -k else k) then none else some k
 | none=>none
noncomputable def pF:List (Option α)->Option (List α)
 | []=>some []
 | none::_=>none
 | some x::r=>match pF r with
  | some l=>some (x::l)
  | none=>none
noncomputable def Aj (t:Str):Option End:=match Txt.split t ":" with
 | [a,b]=>(match fV a,pF ((Txt.split b ",").map fV) with | some n,some ps=>some (n,ps) | _,_=>none)
 | _=>none
noncomputable def mG:List Str->Option (Str×(Int×Int)×(Int×Int))
 | [a,b,c,d]=>(match cP a,Ai b c,Oq d with | some n,some t,some l=>some (n,t,l) | _,_,_=>none)
 | _=>none
noncomputable def rG (ws:List Str):Option (Str×List Str):=match ws with
 | a::b::r=>(match pF ((a::b::r).map cP) with | some (n::ps)=>some (n,ps) | _=>none)
 | _=>none
noncomputable def B1:List Str->Option Me
 | m::k::ms=>(match pF (ms.map cP) with | some l=>(match jN m,Gg k with | some x,some y=>some ⟨x,y,l⟩ | _,_=>none) | none=>none)
 | _=>none
noncomputable def tG:List Str->Option (Str×Int×Str)
 | [a,b,c]=>(match cP a,fV b,cP c with | some x,some y,some z=>some (x,y,z) | _,_,_=>none)
 | _=>none
noncomputable def kZ:List Str->Option (Int×Str×List Item)
 | b::p::i::r=>(match pF ((i::r).map ir) with | some l=>if l.all (fun it=>it.1.isNone)=true then none else(match fV b,cP p with | some x,some y=>some (x,y,l) | _,_=>none) | none=>none)
 | _=>none
noncomputable def kB:List Str->Option Rep
 | a::b::c::r=>(match pF (r.map Aj) with | some l=>(match fV a,fV b,nN c 2 9 with | some x,some y,some z=>some ⟨x,y,z,l⟩ | _,_,_=>none) | none=>none)
 | _=>none
noncomputable def wg:List Str->Option Jump
 | [a,b,c,d]=>(match fV a,fV b,fV c with | some x,some y,some z=>(match fV d with | some n=>some ⟨x,y,z,some n⟩ | none=>if d ="end" then some ⟨x,y,z,none⟩ else none) | _,_,_=>none)
 | _=>none
noncomputable def one (f:Str->Option α):List Str->Option α
 | [w]=>f w
 | _=>none
inductive Told where
 | bN (n:Str)
 | cQ (n:Str) (t l:Int×Int)
 | cC (n:Str) (ps:List Str)
 | bar (b:Me)
 | aI (l:Int×Int)
 | holds (p:Str) (b:Int) (i:Str)
 | aK (b:Int) (p:Str) (its:List Item)
 | rep (r:Rep)
 | b9 (j:Jump)
noncomputable def pK:List Str->Option Told
 | []=>none
 | w::r=>
  if w ="player" then(one cP r).map .bN
  else if w ="instrument" then(mG r).map fun x=>.cQ x.1 x.2.1 x.2.2
  else if w ="staff" then(rG r).map fun x=>.cC x.1 x.2
  else if w ="bar" then(B1 r).map .bar
  else if w ="upbeat" then(one lr r).map .aI
  else if w ="holds" then(tG r).map fun x=>.holds x.1 x.2.1 x.2.2
  else if w ="notes" then(kZ r).map fun x=>.aK x.1 x.2.1 x.2.2
  else if w ="repeat" then(kB r).map .rep
  else if w ="jump" then(wg r).map .b9
  else none
noncomputable def fQ (r:Rep):List (Int×Int×List Int):=(r.ends.zip ((r.ends.drop 1).map (·.1)++[r.last+1])).map fun p=>(p.1.1,p.2-1,p.1.2)
noncomputable def sortI (l:List Int):List Int:=l.mergeSort
noncomputable def gy:List End->Int->List Int->Option (Int×List Int)
 | [],a,ps=>some (a,ps)
 | e::r,a,ps=>if e.1<=a then none else if e.2≠sortI e.2 then none else gy r e.1 (ps++e.2)
noncomputable def K5 (lo:Int) (n:Nat):List Int:=(List.range n).map fun i=>lo+(i:Nat)
noncomputable def gz (r:Rep):Bool:=match r.ends with
 | []=>true
 | _=>(match gy r.ends (r.first-1) [] with | none=>false | some (a,ps)=>decide (a<=r.last)&&decide (sortI ps=K5 1 (r.times+1-1).toNat))
noncomputable def mC (rs:List Rep) (r:Rep):Bool:=match rs.getLast? with
 | some q=>if r.first<=q.last then false else decide (r.first<=r.last)&&gz r
 | none=>decide (r.first<=r.last)&&gz r
noncomputable def dX (rs:List Rep) (b:Int):Option Rep:=rs.find? fun r=>decide (r.first<=b)&&decide (b<=r.last)
noncomputable def iF (rs:List Rep) (b:Int):Bool:=match dX rs b with
 | none=>true
 | some r=>decide (b=r.last)
noncomputable def eE (rs:List Rep) (b:Int):Bool:=match dX rs b with
 | none=>true
 | some r=>decide (b=r.first)
noncomputable def mQ (rs:List Rep) (b:Int):Bool:=rs.all fun r=>(fQ r).all fun e=>!(decide (e.1<=b)&&decide (b<=e.2.1)&&!decide (r.times∈e.2.2))
noncomputable def iH (rs:List Rep) (j:Jump):Bool:=
 if j.cW<j.wu then false else if j.uB<j.cW then false else
 match j.gf with
 | some c=>(decide (j.uB<c)&&eE rs c&&mQ rs c)&&(iF rs j.uB&&eE rs j.wu&&mQ rs j.cW)
 | none=>iF rs j.uB&&eE rs j.wu&&mQ rs j.cW
structure cB where
 players:List Str:=[]
 ao:List (Str×(Int×Int)×(Int×Int)):=[]
 aM:List (Str×List Str):=[]
 aO:List Me:=[]
 aI:Option (Int×Int):=none
 holds:List (Str×List (Int×Str)):=[]
 aK:List ((Int×Str)×List Item):=[]
 repeats:List Rep:=[]
 b9:Option Jump:=none
noncomputable def cB.aU (S:cB) (b:Nat):Int×Int:=match S.aO[b]? with
 | some x=>red x.aU.1 x.aU.2
 | none=>(0,1)
noncomputable def cB.len (S:cB) (b:Nat):Int×Int:=match S.aI with
 | some u=>if b=0 then u else S.aU b
 | none=>S.aU b
noncomputable def kR (l:List Item):Int×Int:=l.foldl (fun t it=>add t it.2) (0,1)
noncomputable def cB.has (S:cB) (bs:List Int):Bool:=bs.all fun b=>decide (b<S.aO.length)
noncomputable def fault (S:cB):Told->Option Str
 | .bN n=>if n∈S.players then some "twice" else if 12<=S.players.length then some "many" else none
 | .cQ n _ _=>if n∈S.ao.map (·.1) then some "twice" else if 12<=S.ao.length then some "many" else none
 | .cC n ps=>if n∈S.aM.map (·.1) then some "twice" else if¬ps.Nodup then some "twice" else if S.aM.any (fun q=>ps.any fun p=>decide (p∈q.2))=true then some "twice" else if ps.any (fun p=>!decide (p∈S.players))=true then some "name" else none
 | .bar _=>if 200<=S.aO.length then some "many" else none
 | .aI l=>if S.aI.isSome=true then some "twice" else if S.aO.length=0 then some "bar" else if¬l.1*(S.aU 0).2<(S.aU 0).1*l.2 then some "length" else if S.aK.any (fun p=>decide (p.1.1=0))=true then some "length" else none
 | .holds p b i=>
  let hs:=(S.holds.lookup p).getD []
  if(match hs.getLast? with | some q=>decide (b<=q.1) | none=>false)=true then some "twice" else if p∉S.players then some "name" else if i∉S.ao.map (·.1) then some "name" else if¬S.has [b]=true then some "bar" else if 20<=hs.length then some "many" else none
 | .aK b p its=>if(b,p)∈S.aK.map (·.1) then some "twice" else if p∉S.players then some "name" else if¬S.has [b]=true then some "bar" else if kR its≠S.len b.toNat then some "length" else if 40<its.length then some "many" else none
 | .rep r=>if¬S.has ([r.first,r.last]++r.ends.map (·.1))=true then some "bar" else if S.b9.isSome=true then some "form" else if¬mC S.repeats r=true then some "form" else if 20<=S.repeats.length then some "many" else none
 | .b9 j=>if S.b9.isSome=true then some "twice" else if¬S.has ([j.uB,j.wu,j.cW]++j.gf.toList)=true then some "bar" else if¬iH S.repeats j=true then some "form" else none
noncomputable def fw (hs:List (Str×List (Int×Str))) (p:Str) (h:Int×Str):List (Str×List (Int×Str)):=
 if p∈hs.map (·.1) then hs.map fun q=>if q.1=p then(q.1,q.2++[h]) else q else hs++[(p,[h])]
noncomputable def bS (S:cB):Told->cB
 | .bN n=>{S with players:=S.players++[n]}
 | .cQ n t l=>{S with ao:=S.ao++[(n,t,l)]}
 | .cC n ps=>{S with aM:=S.aM++[(n,ps)]}
 | .bar b=>{S with aO:=S.aO++[b]}
 | .aI l=>{S with aI:=some l}
 | .holds p b i=>{S with holds:=fw S.holds p (b,i)}
 | .aK b p its=>{S with aK:=S.aK++[((b,p),its)]}
 | .rep r=>{S with repeats:=S.repeats++[r]}
 | .b9 j=>{S with b9:=some j}
theorem dk (h:Is H d v):∀{ds:List Dt} {vs:List V},aE H ds vs->aE H (ds++[d]) (vs++[v])
 | [],_,q=>by unfold aE at q;subst q;show aE H [d] [v];unfold aE;exact⟨v,[],rfl,h,by unfold aE;rfl⟩
 | c::ds,_,q=>by
  unfold aE at q;obtain⟨u,r,rfl,h1,h2⟩:=q;show aE H (c::(ds++[d])) (u::(r++[v]));unfold aE;exact⟨u,_,rfl,h1,dk h h2⟩
def Di (h:aL K H p xs) (hi:i<xs.length):(Mc K p).go i H:=⟨xs,xs[i],h,zd hi⟩
def Jc (h:dB K H p xs) (hi:i<xs.length):(Ql K p).go i H:=⟨xs,xs[i],h,zd hi⟩
def jB (e:aB H H') (h:H a=some (.tup xs)):dB K H' a xs:=dB.of (e _ _ h)
theorem _root_.L2.aB.back (s:aB H H') (h:H' a=none):H a=none:=by
 cases q:H a with
 | none=>rfl
 | some u=>rw[s _ _ q] at h;cases h
def pB {α:Type} {J:It} {ws:List α} {enc:α->V} {σ₀:St} {g:TG} {te:TE} {Q:VK} {H1:Hp} (F:α->Dt) (Pσ:St->Prop) (hn:ws.length<=sizeLine) (h0:Pσ σ₀)
  (go:∀i H,i<ws.length->aB H1 H->J.go i H) (stop:∀H,aB H1 H->J.stop ws.length H) (yl:∀(i:Nat) x H H2 (hi:i<ws.length),aB H1 H->J.KI i H x H2->H2=H/\x=enc ws[i])
  (turn:∀(a:α) (σ:St) (H:Hp) (R:St->V->Hp->Prop),a∈ws->aB H1 H->Pσ σ->(∀σ3 y H5,aB H H5->Is H5 (F a) y->Pσ σ3->R σ3 y H5)->g (enc a) σ H fun σ3 H3=>te σ3 H3 fun y H5=>R σ3 y H5)
  (fin:∀D vs H,aB H1 H->H1 D=none->H D=some (.lst vs)->aE H (ws.map F) vs->Q (.ref D) H):dR σ₀ g wH te Q J H1:=by
 refine⟨fun i m xs σ H=>m=ws.length-i/\i<=ws.length/\xs.length=i/\aB H1 H/\aE H ((ws.take i).map F) xs/\Pσ σ,⟨_,rfl,yg _,rfl,aB.refl _,by simp[aE],h0⟩,?_⟩;rintro i m xs σ H ⟨rfl,hi,hx,sm,il,pσ⟩;rcases Nat.lt_or_ge i ws.length with hlt | hge
 ·refine .inr ⟨go i H hlt sm,nofun,?_⟩
  intro x H2 hy;obtain⟨rfl,rfl⟩:=yl i x H H2 hlt sm hy;refine turn ws[i] σ H2 (fun σ3 y H5=>if true=true then∃m',m'<ws.length-i/\(m'=ws.length-(i+1)/\i+1<=ws.length/\(xs++[y]).length=i+1/\aB H1 H5/\aE H5 ((ws.take (i+1)).map F) (xs++[y])/\Pσ σ3) else False) (ym hlt) sm pσ ?_;rintro σ3 y H5 s5 iy p3;rw[if_pos rfl];refine⟨_,nofun,rfl,hlt,by simp[hx],sm.trans s5,?_,p3⟩;rw[List.take_add_one,zd hlt,zk];exact dk iy (il.mono s5)
 ·have e:i=ws.length:=nofun
  subst e;refine .inl ⟨stop H sm,nofun,fun D hD=>?_⟩;have il':aE H (ws.map F) xs:=by rw[zN] at il;exact il
  exact fin D xs _ (sm.trans (aS hD)) (sm.back hD) aC (il'.mono (aS hD))
def A9 {α:Type} {J:It} {ws:List α} {enc:α->V} {σ₀:St} {g:TG} {te:TE} {Q:VK} {H1:Hp} (F:α->Dt) (Pσ:St->Prop) (hn:ws.length<=sizeLine) (h0:Pσ σ₀)
  (go:∀i H,i<ws.length->aB H1 H->J.go i H) (stop:∀H,aB H1 H->J.stop ws.length H) (yl:∀(i:Nat) x H H2 (hi:i<ws.length),aB H1 H->J.KI i H x H2->H2=H/\x=enc ws[i])
  (turn:∀(a:α) (σ:St) (H:Hp) (R:St->V->Hp->Prop),a∈ws->aB H1 H->Pσ σ->(∀σ3 y H5,aB H H5->Is H5 (F a) y->Pσ σ3->R σ3 y H5)->g (enc a) σ H fun σ3 H3=>te σ3 H3 fun y H5=>R σ3 y H5)
  (fin:∀D vs H,aB H1 H->H D=some (.lst vs)->aE H (ws.map F) vs->Q (.ref D) H):dR σ₀ g wH te Q J H1:=pB F Pσ hn h0 go stop yl turn fun D vs H s _=>fin D vs H s
def d9 {K:yB} {α:Type} {p:Addr} {ws:List α} {enc:α->V} {σ₀:St} {g:TG} {te:TE} {Q:VK} {H1:Hp} (F:α->Dt) (Pσ:St->Prop) (hn:ws.length<=sizeLine) (hp:aL K H1 p (ws.map enc)) (h0:Pσ σ₀)
  (turn:∀(a:α) (σ:St) (H:Hp) (R:St->V->Hp->Prop),a∈ws->aB H1 H->Pσ σ->(∀σ3 y H5,aB H H5->Is H5 (F a) y->Pσ σ3->R σ3 y H5)->g (enc a) σ H fun σ3 H3=>te σ3 H3 fun y H5=>R σ3 y H5)
  (fin:∀D vs H,aB H1 H->H1 D=none->H D=some (.lst vs)->aE H (ws.map F) vs->Q (.ref D) H):dR σ₀ g wH te Q (Mc K p) H1:=by
 refine pB F Pσ hn h0 (fun i H hi sm=>Di (sm.seq hp) (by rw[za];exact hi)) (fun H sm=>⟨_,sm.seq hp,by rw[za];exact zm _⟩) ?_ turn fin;rintro i x H H2 hi sm ⟨rfl,hy⟩;have hx':=hy _ (sm.seq hp);rw[zK,zd hi] at hx';cases hx';exact⟨rfl,rfl⟩
def f9 {K:yB} {α:Type} {p:Addr} {ws:List α} {enc:α->V} {σ₀:St} {g:TG} {te:TE} {Q:VK} {H1:Hp} (F:α->Dt) (Pσ:St->Prop) (hn:ws.length<=sizeLine) (hp:aL K H1 p (ws.map enc)) (h0:Pσ σ₀)
  (turn:∀(a:α) (σ:St) (H:Hp) (R:St->V->Hp->Prop),a∈ws->aB H1 H->Pσ σ->(∀σ3 y H5,aB H H5->Is H5 (F a) y->Pσ σ3->R σ3 y H5)->g (enc a) σ H fun σ3 H3=>te σ3 H3 fun y H5=>R σ3 y H5)
  (fin:∀D vs H,aB H1 H->H D=some (.lst vs)->aE H (ws.map F) vs->Q (.ref D) H):dR σ₀ g wH te Q (Mc K p) H1:=by
 refine A9 F Pσ hn h0 (fun i H hi sm=>Di (sm.seq hp) (by rw[za];exact hi)) (fun H sm=>⟨_,sm.seq hp,by rw[za];exact zm _⟩) ?_ turn fin;rintro i x H H2 hi sm ⟨rfl,hy⟩;have hx':=hy _ (sm.seq hp);rw[zK,zd hi] at hx';cases hx';exact⟨rfl,rfl⟩
def gR {K:yB} {α:Type} {p:Addr} {ws:List α} {enc:α->V} {σ₀:St} {g:TG} {te:TE} {Q:VK} {H1:Hp} (F:α->Dt) (Pσ:St->Prop) (hn:ws.length<=sizeLine) (hp:H1 p=some (.tup (ws.map enc))) (h0:Pσ σ₀)
  (turn:∀(a:α) (σ:St) (H:Hp) (R:St->V->Hp->Prop),a∈ws->aB H1 H->Pσ σ->(∀σ3 y H5,aB H H5->Is H5 (F a) y->Pσ σ3->R σ3 y H5)->g (enc a) σ H fun σ3 H3=>te σ3 H3 fun y H5=>R σ3 y H5)
  (fin:∀D vs H,aB H1 H->H D=some (.lst vs)->aE H (ws.map F) vs->Q (.ref D) H):dR σ₀ g wH te Q (Ql K p) H1:=by
 refine A9 F Pσ hn h0 (fun i H hi sm=>Jc (jB sm hp) (by rw[za];exact hi)) (fun H sm=>⟨_,jB sm hp,by rw[za];exact zm _⟩) ?_ turn fin;rintro i x H H2 hi sm ⟨rfl,hy⟩;have hx':=hy _ (jB sm hp);rw[zK,zd hi] at hx';cases hx';exact⟨rfl,rfl⟩
noncomputable def gK (v:V):Bool:=decide (v=.bR)
noncomputable def Dt.gK:Dt->Bool
 | .bR=>true
 | _=>false
def NC:∀{d:Dt} {v:V},Is H d v->gK v=Dt.gK d
 | .bR,_,h=>by unfold Is at h;subst h;rfl
 | .bl _,_,h=>by unfold Is at h;subst h;rfl
 | .int _,_,h=>by unfold Is at h;subst h;rfl
 | .str _,_,h=>by unfold Is at h;subst h;rfl
 | .tup _,_,h=>by unfold Is at h;obtain⟨a,vs,rfl,_⟩:=h;rfl
theorem kL:∀{ds:List Dt} {vs:List V},aE H ds vs->vs.any gK=ds.any Dt.gK
 | [],_,h=>by unfold aE at h;subst h;rfl
 | d::ds,_,h=>by
  unfold aE at h;obtain⟨v,r,rfl,h1,h2⟩:=h;rw[List.any_cons,List.any_cons,NC h1,kL h2]
theorem lq:∀{bs:List Bool} {vs:List V},aE H (bs.map Dt.bl) vs->vs=bs.map V.bl
 | [],_,h=>by unfold aE at h;exact h
 | b::bs,_,h=>by
  rw[zj] at h;unfold aE at h;obtain⟨v,r,rfl,h1,h2⟩:=h;unfold Is at h1;rw[h1,lq h2];rfl
theorem d4:∀{bs:List Str} {vs:List V},aE H (bs.map Dt.str) vs->vs=bs.map V.str
 | [],_,h=>by unfold aE at h;exact h
 | b::bs,_,h=>by
  rw[zj] at h;unfold aE at h;obtain⟨v,r,rfl,h1,h2⟩:=h;unfold Is at h1;rw[h1,d4 h2];rfl
theorem fq:∀{bs:List Int} {vs:List V},aE H (bs.map Dt.int) vs->vs=bs.map V.int
 | [],_,h=>by unfold aE at h;exact h
 | b::bs,_,h=>by
  rw[zj] at h;unfold aE at h;obtain⟨v,r,rfl,h1,h2⟩:=h;unfold Is at h1;rw[h1,fq h2];rfl
theorem DK:∀{bs:List Str},aE H (bs.map Dt.str) (bs.map V.str)
 | []=>by simp[aE]
 | b::bs=>by rw[zj,zj];unfold aE;exact⟨_,_,rfl,by unfold Is;rfl,DK⟩
theorem ua:∀{bs:List Int},aE H (bs.map Dt.int) (bs.map V.int)
 | []=>by simp[aE]
 | b::bs=>by rw[zj,zj];unfold aE;exact⟨_,_,rfl,by unfold Is;rfl,ua⟩
def JQ (d:α->Dt):Prop:=∀a,Dt.gK (d a)=false
theorem jF {α:Type} {d:α->Dt} (f:JQ d):∀{l:List (Option α)},(l.map (dO d)).any Dt.gK=true->pF l=none
 | [],h=>by cases h
 | none::_,_=>rfl
 | some x::r,h=>by
  rw[zj,List.any_cons] at h;have e:Dt.gK (dO d (some x))=false:=f x;rw[e,Bool.false_or] at h;show(match pF r with | some l=>some (x::l) | none=>none)=none;rw[jF f h]
theorem jE:∀{l:List (Option α)},(l.map (dO d)).any Dt.gK=false->∃xs,pF l=some xs/\l.map (dO d)=xs.map d/\xs.length=l.length
 | [],_=>⟨[],rfl,rfl,rfl⟩
 | none::_,h=>by cases h
 | some x::r,h=>by
  rw[zj,List.any_cons,Bool.or_eq_false_iff] at h;obtain⟨xs,e1,e2,e3⟩:=jE h.2;refine⟨x::xs,?_,?_,by simp[e3]⟩
  ·show(match pF r with | some l=>some (x::l) | none=>none)=_
   rw[e1]
  ·rw[zj,zj,e2];rfl
def G9:JQ Dt.str:=fun _=>rfl
def NM:JQ Dt.int:=fun _=>rfl
def Rt:JQ dL:=fun _=>rfl
def NN:JQ oq:=fun _=>rfl
def Lw:JQ fe:=fun _=>rfl
def AI (h:JN H v o):Is H (dO dL o) v:=by
 cases h with
 | bR=>unfold dO Is;rfl
 | ref h=>exact jh h
def fC (h:Is H (dO dL o) v):JN H v o:=by
 cases o with
 | none=>unfold dO Is at h;subst h;exact .bR
 | some q=>
  unfold dO dL Is at h;obtain⟨a,vs,rfl,ha,hl⟩:=h;have e:[Dt.int q.1,Dt.int q.2]=[q.1,q.2].map Dt.int:=rfl;rw[e] at hl;rw[fq hl] at ha;exact .ref ha
def AJ (o:Option Int):Is H (dO .int o) (ov o):=by cases o <;> (unfold dO Is;rfl)
def Dc (o:Option Str):Is H (dO .str o) (os o):=by cases o <;> (unfold dO Is;rfl)
def SE (h:PL H v o):Is H (dO fe o) v:=by
 cases o with
 | none=>unfold dO Is;exact h
 | some it=>
  obtain⟨p,pv,a,rfl,h1,h2,h3⟩:=h;unfold dO fe;unfold Is;refine⟨p,_,rfl,h1,?_⟩;unfold aE;refine⟨_,_,rfl,AI h3,?_⟩;unfold aE;exact⟨_,_,rfl,jh h2,by unfold aE;rfl⟩
def FX:Sp:=fun vs H Q _=>∃(t:Str),vs=[.str t]/\t.length<=1000000/\∀p H',aB H H'->H' p=some (.lst ((words t).map V.str))->Q (.ref p) H'
def mq:Sp:=fun vs H Q _=>∃(t:Str),vs=[.str t]/\t.length<=600/\∀H',aB H H'->Q (os (cP t)) H'
def kT:Sp:=fun vs H Q _=>∃(t:Str),vs=[.str t]/\t.length<=600/\∀H',aB H H'->Q (ov (fV t)) H'
inductive yS (vs:List V) (H:Hp) (Q:VK) (E:XK):Prop
 | mk (t:Str) (lo hi:Int) (_:vs=[.str t,.int lo,.int hi]) (_:t.length<=600) (_:∀H',aB H H'->Q (ov (nN t lo hi)) H')
def DR:Sp:=fun vs H Q _=>∃(t:Str),vs=[.str t]/\t.length<=600/\∀v H',aB H H'->JN H' v (Oq t)->Q v H'
inductive DQ (vs:List V) (H:Hp) (Q:VK) (E:XK):Prop
 | mk (a b:Str) (_:vs=[.str a,.str b]) (_:a.length<=600) (_:b.length<=600) (_:∀v H',aB H H'->JN H' v (Ai a b)->Q v H')
def BK (K:yB):Sp:=fun vs H Q _=>∃(t:Str),vs=[.str t]/\t.length<=600/\∀v H',aB H H'->JN H' v (jN t)->Q v H'
def F0:Sp:=fun vs H Q _=>∃(t:Str),vs=[.str t]/\t.length<=600/\∀H',aB H H'->Q (ov (Gg t)) H'
inductive BN (K:yB) (vs:List V) (H:Hp) (Q:VK) (E:XK):Prop
 | mk (a:Addr) (us:List V) (_:vs=[.ref a]) (_:aL K H a us) (_:us.length<=1000000) (_:∀H',aB H H'->Q (if us.any gK=true then .bR else .ref a) H')
inductive BM (vs:List V) (H:Hp) (Q:VK) (E:XK):Prop
 | mk (a:Addr) (us:List V) (_:vs=[.ref a]) (_:H a=some (.tup us)) (_:us.length<=1000000) (_:∀H',aB H H'->Q (if us.any gK=true then .bR else .ref a) H')
def vK:Sp:=fun vs H Q _=>∃(t:Str),vs=[.str t]/\t.length<=600/\∀v H',aB H H'->Is H' (dO oq (Aj t)) v->Q v H'
inductive gi (K:yB) (D:Hp->Hp->V->List Str->Prop) (vs:List V) (H:Hp) (Q:VK) (E:XK):Prop
 | mk (p:Addr) (ws:List Str) (_:vs=[.ref p]) (_:aL K H p (ws.map V.str)) (_:ws.length<=1000000) (_:(∀x∈ws,x.length<=600)) (_:∀v H',aB H H'->D H H' v ws->Q v H')
noncomputable def eK (x:Str×(Int×Int)×(Int×Int)):Dt:=.tup [.str x.1,dL x.2.1,dL x.2.2]
noncomputable def gQ (x:Str×List Str):Dt:=.tup [.str x.1,og x.2]
noncomputable def wB (x:Str×Int×Str):Dt:=.tup [.str x.1,.int x.2.1,.str x.2.2]
def Kx (H:Hp) (v:V) (x:Int×Str×List Item):Prop:=∃a q vs,v=.ref a/\H a=some (.tup [.int x.1,.str x.2.1,.ref q])/\H q=some (.lst vs)/\aE H (x.2.2.map fe) vs
def jz (H0 H:Hp) (v:V) (x:Int×Str×List Item):Prop:=∃a q vs,v=.ref a/\H a=some (.tup [.int x.1,.str x.2.1,.ref q])/\H q=some (.lst vs)/\aE H (x.2.2.map fe) vs/\H0 q=none
def jz.at (h:jz H0 H v x):Kx H v x:=by
 obtain⟨a,q,vs,h1,h2,h3,h4,_⟩:=h;exact⟨a,q,vs,h1,h2,h3,h4⟩
theorem jz.back (s:aB H00 H0) (h:jz H0 H v x):jz H00 H v x:=by
 obtain⟨a,q,vs,h1,h2,h3,h4,h5⟩:=h;exact⟨a,q,vs,h1,h2,h3,h4,s.back h5⟩
def qS (d:α->Dt) (f:List Str->Option α) (_ H:Hp) (v:V) (ws:List Str):Prop:=Is H (dO d (f ws)) v
def S5 (H0 H:Hp) (v:V) (ws:List Str):Prop:=match kZ ws with
 | none=>v=.bR
 | some x=>jz H0 H v x
def pA (h:Is H d v):aE H [d] [v]:=by unfold aE;exact⟨_,_,rfl,h,by unfold aE;rfl⟩
def aQ (h:Is H d v) (r:aE H ds vs):aE H (d::ds) (v::vs):=by unfold aE;exact⟨_,_,rfl,h,r⟩
def cO:aE H [] []:=by unfold aE;rfl
def cK (h:H a=some (.tup vs)) (r:aE H ds vs):Is H (.tup ds) (.ref a):=by unfold Is;exact⟨_,_,rfl,h,r⟩
def e9:Is H (.str x) (.str x):=by unfold Is;rfl
def cX:Is H (.int x) (.int x):=by unfold Is;rfl
def d8:Is H .bR .bR:=by unfold Is;rfl
def fZ (xs:List V) (k:Nat):lC xs (some (k:Int)) none=xs.drop k:=by
 unfold lC;rw[HT.Gd];have e:HT.fG xs.length 0 (some (k:Int))=min k xs.length:=by unfold HT.fG;simp;omega
 rw[e];rcases Nat.le_total k xs.length with h | h
 ·rw[Nat.min_eq_left h]
  exact List.take_of_length_le (by rw[List.length_drop];exact zm _)
 ·rw[Nat.min_eq_right h,List.drop_eq_nil_of_le (zm _),List.drop_eq_nil_of_le h,List.take_nil]
def E3 (xs:List V) (k:Nat):lC xs none (some (k:Int))=xs.take k:=by
 unfold lC;rw[HT.Gd,List.drop_zero,Nat.sub_zero];have e:HT.fG xs.length xs.length (some (k:Int))=min k xs.length:=by unfold HT.fG;simp;omega
 rw[e];rcases Nat.le_total k xs.length with h | h
 ·rw[Nat.min_eq_left h]
 ·rw[Nat.min_eq_right h,List.take_of_length_le (zm _),List.take_of_length_le h]
def rF (a b:Str) (r:List Str):rG (a::b::r)=(match pF ((a::b::r).map cP) with | some (n::ps)=>some (n,ps) | _=>none):=rfl
def gW (H0 H:Hp) (v:V):Option Told->Prop
 | none=>v=.bR
 | some (.bN n)=>v=.str n
 | some (.cQ n t l)=>Is H (eK (n,t,l)) v
 | some (.cC n ps)=>Is H (gQ (n,ps)) v
 | some (.bar b)=>Is H (l8 b) v
 | some (.aI l)=>Is H (dL l) v
 | some (.holds p b i)=>Is H (wB (p,b,i)) v
 | some (.aK b p its)=>jz H0 H v (b,p,its)
 | some (.rep r)=>Is H (iK r) v
 | some (.b9 j)=>Is H (jZ j) v
inductive FZ (K:yB) (vs:List V) (H:Hp) (Q:VK) (E:XK):Prop
 | mk (p:Addr) (x:Str) (ws:List Str) (_:vs=[.ref p]) (_:aL K H p ((x::ws).map V.str)) (_:ws.length<=999999) (_:(∀y∈x::ws,y.length<=600)) (_:∀v H',aB H H'->gW H H' v (pK (x::ws))->Q v H')
def oA (h:Is H (dO d o) v) (hg:∀x,Is H (d x) v->gW H0 H v (some (g x))):gW H0 H v (o.map g):=by
 cases o with
 | none=>unfold dO Is at h;exact h
 | some x=>exact hg x h
theorem gW.back (s:aB H00 H0):∀{t:Option Told},gW H0 H v t->gW H00 H v t
 | none,h=>h
 | some (.bN _),h=>h
 | some (.cQ _ _ _),h=>h
 | some (.cC _ _),h=>h
 | some (.bar _),h=>h
 | some (.aI _),h=>h
 | some (.holds _ _ _),h=>h
 | some (.aK _ _ _),h=>jz.back s h
 | some (.rep _),h=>h
 | some (.b9 _),h=>h
def cZ {α:Type} {l:List α} {i:Nat} {x:α} (h:l[i]?=some x):l.take (i+1)=l.take i++[x]:=by rw[List.take_add_one,h];rfl
theorem Kk:∀{l:List α} {i:Nat} {x:α},l[i]?=some x->(l.take i).find? p=none->p x=true->l.find? p=some x
 | [],i,x,h,_,_=>by simp at h
 | y::l,0,x,h,_,hx=>by simp at h;subst h;rw[List.find?_cons,hx]
 | y::l,i+1,x,h,hn,hx=>by
  rw[List.take_succ_cons,List.find?_cons] at hn;rw[List.find?_cons];cases q:p y with
  | true=>rw[q] at hn;cases hn
  | false=>rw[q] at hn;exact Kk (by simpa using h) hn hx
def Dl {α:Type} {p:α->Bool} {l:List α} {i:Nat} {x:α} (h:l[i]?=some x) (hn:(l.take i).find? p=none) (hx:p x=false):(l.take (i+1)).find? p=none:=by
 rw[cZ h,List.find?_append,hn];simp[hx]
def CI (K:yB) (H:Hp) (p:Addr) (rs:List Rep):Prop:=∃vs,aL K H p vs/\aE H (rs.map iK) vs
theorem CI.mono {K:yB} {H H':Hp} (s:aB H H') {p:Addr} {rs:List Rep} (h:CI K H p rs):CI K H' p rs:=by
 obtain⟨vs,h1,h2⟩:=h;exact⟨vs,s.seq h1,h2.mono s⟩
def eJ (h:Is H (iK r) v):∃a e,v=.ref a/\H a=some (.tup [.int r.first,.int r.last,.int r.times,.ref e])/\Is H (.tup (r.ends.map oq)) (.ref e):=by
 unfold iK Is at h;obtain⟨a,vs,rfl,ha,hl⟩:=h;unfold aE at hl;obtain⟨v1,r1,rfl,h1,hl⟩:=hl;unfold aE at hl;obtain⟨v2,r2,rfl,h2,hl⟩:=hl;unfold aE at hl;obtain⟨v3,r3,rfl,h3,hl⟩:=hl;unfold aE at hl;obtain⟨v4,r4,rfl,h4,hl⟩:=hl;unfold aE at hl;subst hl;unfold Is at h1 h2 h3;subst h1 h2 h3;have h4':=h4;unfold Is at h4;obtain⟨e,us,rfl,he,hle⟩:=h4;exact⟨a,e,rfl,ha,h4'⟩
def vm (h:Is H (oq e) v):∃a q,v=.ref a/\H a=some (.tup [.int e.1,.ref q])/\H q=some (.tup (e.2.map V.int)):=by
 unfold oq Is at h;obtain⟨a,vs,rfl,ha,hl⟩:=h;unfold aE at hl;obtain⟨v1,r1,rfl,h1,hl⟩:=hl;unfold aE at hl;obtain⟨v2,r2,rfl,h2,hl⟩:=hl;unfold aE at hl;subst hl;unfold Is at h1;subst h1;unfold wA Is at h2;obtain⟨q,us,rfl,hq,hle⟩:=h2;rw[fq hle] at hq;exact⟨a,q,rfl,ha,hq⟩
def dE {H:Hp} {α:Type} {d:α->Dt} {xs:List α} {vs:List V} {i:Nat} {v:V} (h:aE H (xs.map d) vs) (e:vs[i]?=some v):∃x,xs[i]?=some x/\Is H (d x) v:=by
 obtain⟨c,h1,h2⟩:=h.get e;rw[zK] at h1;cases q:xs[i]? with
 | none=>rw[q] at h1;cases h1
 | some x=>rw[q] at h1;cases h1;exact⟨x,rfl,h2⟩
def aT {H:Hp} {α:Type} {d:α->Dt} {xs:List α} {vs:List V} (h:aE H (xs.map d) vs):vs.length=xs.length:=by rw[h.len,za]
inductive wI (K:yB) (vs:List V) (H:Hp) (Q:VK) (E:XK):Prop
 | mk (p:Addr) (rs:List Rep) (b:Int) (_:vs=[.ref p,.int b]) (_:CI K H p rs) (_:∀v,Is H (dO iK (dX rs b)) v->Q v H)
inductive DS (K:yB) (vs:List V) (H:Hp) (Q:VK) (E:XK):Prop
 | mk (p:Addr) (rs:List Rep) (b:Int) (_:vs=[.ref p,.int b]) (_:CI K H p rs) (_:Q (.bl (iF rs b)) H)
inductive DT (K:yB) (vs:List V) (H:Hp) (Q:VK) (E:XK):Prop
 | mk (p:Addr) (rs:List Rep) (b:Int) (_:vs=[.ref p,.int b]) (_:CI K H p rs) (_:Q (.bl (eE rs b)) H)
noncomputable def LK (x:Int×Int×List Int):Dt:=.tup [.int x.1,.int x.2.1,wA x.2.2]
inductive Iy (vs:List V) (H:Hp) (Q:VK) (E:XK):Prop
 | mk (v:V) (r:Rep) (_:vs=[v]) (_:Is H (iK r) v) (_:r.ends.length<=1000000) (_:∀p us H',aB H H'->H' p=some (.lst us)->aE H' ((fQ r).map LK) us->Q (.ref p) H')
inductive wL (K:yB) (vs:List V) (H:Hp) (Q:VK) (E:XK):Prop
 | mk (p:Addr) (rs:List Rep) (b:Int) (_:vs=[.ref p,.int b]) (_:CI K H p rs) (_:(∀r∈rs,r.ends.length<=1000000)) (_:∀H',aB H H'->Q (.bl (mQ rs b)) H')
def A8 {α:Type} {J:It} {ws:List α} {σ₀:St} {g:TG} {te:TE} {Q:VK} {H1:Hp} (Y:α->V->Hp->Prop) (F:α->Dt) (Pσ:St->Prop) (hn:ws.length<=sizeLine) (h0:Pσ σ₀)
  (go:∀i H,i<ws.length->aB H1 H->J.go i H) (stop:∀H,aB H1 H->J.stop ws.length H) (yl:∀(i:Nat) x H H2 (hi:i<ws.length),aB H1 H->J.KI i H x H2->aB H H2/\Y ws[i] x H2)
  (turn:∀(a:α) (x:V) (σ:St) (H:Hp) (R:St->V->Hp->Prop),a∈ws->aB H1 H->Y a x H->Pσ σ->(∀σ3 y H5,aB H H5->Is H5 (F a) y->Pσ σ3->R σ3 y H5)->g x σ H fun σ3 H3=>te σ3 H3 fun y H5=>R σ3 y H5)
  (fin:∀D vs H,aB H1 H->H D=some (.lst vs)->aE H (ws.map F) vs->Q (.ref D) H):dR σ₀ g wH te Q J H1:=by
 refine⟨fun i m xs σ H=>m=ws.length-i/\i<=ws.length/\xs.length=i/\aB H1 H/\aE H ((ws.take i).map F) xs/\Pσ σ,⟨_,rfl,yg _,rfl,aB.refl _,by simp[aE],h0⟩,?_⟩;rintro i m xs σ H ⟨rfl,hi,hx,sm,il,pσ⟩;rcases Nat.lt_or_ge i ws.length with hlt | hge
 ·refine .inr ⟨go i H hlt sm,nofun,?_⟩
  intro x H2 hy;obtain⟨s2,hY⟩:=yl i x H H2 hlt sm hy;refine turn ws[i] x σ H2 (fun σ3 y H5=>if true=true then∃m',m'<ws.length-i/\(m'=ws.length-(i+1)/\i+1<=ws.length/\(xs++[y]).length=i+1/\aB H1 H5/\aE H5 ((ws.take (i+1)).map F) (xs++[y])/\Pσ σ3) else False) (ym hlt) (sm.trans s2) hY pσ ?_;rintro σ3 y H5 s5 iy p3;rw[if_pos rfl];refine⟨_,nofun,rfl,hlt,by simp[hx],(sm.trans s2).trans s5,?_,p3⟩;rw[List.take_add_one,zd hlt,zk];exact dk iy (il.mono (s2.trans s5))
 ·have e:i=ws.length:=nofun
  subst e;refine .inl ⟨stop H sm,nofun,fun D hD=>?_⟩;have il':aE H (ws.map F) xs:=by rw[zN] at il;exact il
  exact fin D xs _ (sm.trans (aS hD)) aC (il'.mono (aS hD))
structure Ow where
 dx:Addr
 pl:Addr
 ins:Addr
 st:Addr
 ba:Addr
 ho:Addr
 no:Addr
 re:Addr
 hs:List Addr
 ns:List Addr
noncomputable def Ow.lists (o:Ow):List Addr:=[o.pl,o.ba,o.re]++o.hs++o.ns
noncomputable def Om (o:Ow) (ub jm:V):List (Str×V):=[("players",.ref o.pl),("instruments",.ref o.ins),("staffs",.ref o.st),("bars",.ref o.ba),("upbeat",ub),("holds",.ref o.ho),("notes",.ref o.no),("repeats",.ref o.re),("jump",jm)]
noncomputable def kS (x:Str):Key:=Sum.inr x
noncomputable def kN (x:Int×Str):List Key:=[Sum.inl x.1,Sum.inr x.2]
noncomputable def N1 (x:Str×(Int×Int)×(Int×Int)):Dt:=.tup [dL x.2.1,dL x.2.2]
noncomputable def Px (x:Str×List Str):Dt:=og x.2
noncomputable def Kp (x:Int×Str):Dt:=.tup [.int x.1,.str x.2]
def cy (H:Hp) (d:α->Dt):List (List α)->List Addr->Prop
 | [],as=>as=[]
 | l::r,as=>∃a t vs,as=a::t/\H a=some (.lst vs)/\aE H (l.map d) vs/\cy H d r t
structure bZ (C:Addr) (H:Hp) (a:Addr) (S:cB) (o:Ow):Prop where
 obj:∃ub jm,H a=some (.ins C o.dx (Om o ub jm))/\Is H (dO dL S.aI) ub/\Is H (dO jZ S.b9) jm
 pl:H o.pl=some (.lst (S.players.map V.str))
 ins:∃vs,H o.ins=some (.dK ((S.ao.map fun x=>kS x.1).zip vs))/\aE H (S.ao.map N1) vs
 st:∃vs,H o.st=some (.dK ((S.aM.map fun x=>kS x.1).zip vs))/\aE H (S.aM.map Px) vs
 ba:∃vs,H o.ba=some (.lst vs)/\aE H (S.aO.map l8) vs
 ho:H o.ho=some (.dK ((S.holds.map fun x=>kS x.1).zip (o.hs.map V.ref)))/\cy H Kp (S.holds.map (·.2)) o.hs
 no:H o.no=some (.dT ((S.aK.map fun x=>kN x.1).zip (o.ns.map V.ref)))/\cy H fe (S.aK.map (·.2)) o.ns
 re:∃vs,H o.re=some (.lst vs)/\aE H (S.repeats.map iK) vs
 nd:o.lists.Nodup
 dd:[o.ins,o.st,o.ho].Nodup
theorem cy.mono (s:aB H H'):∀{ls:List (List α)} {as:List Addr},cy H d ls as->cy H' d ls as
 | [],_,h=>h
 | l::r,_,⟨a,t,vs,e,h1,h2,h3⟩=>⟨a,t,vs,e,s _ _ h1,h2.mono s,cy.mono s h3⟩
theorem bZ.mono (s:aB H H') (h:bZ C H a S o):bZ C H' a S o where
 obj:=by obtain⟨ub,jm,h1,h2,h3⟩:=h.obj;exact⟨ub,jm,s _ _ h1,h2.mono s,h3.mono s⟩
 pl:=s _ _ h.pl
 ins:=by obtain⟨vs,h1,h2⟩:=h.ins;exact⟨vs,s _ _ h1,h2.mono s⟩
 st:=by obtain⟨vs,h1,h2⟩:=h.st;exact⟨vs,s _ _ h1,h2.mono s⟩
 ba:=by obtain⟨vs,h1,h2⟩:=h.ba;exact⟨vs,s _ _ h1,h2.mono s⟩
 ho:=⟨s _ _ h.ho.1,h.ho.2.mono s⟩
 no:=⟨s _ _ h.no.1,h.no.2.mono s⟩
 re:=by obtain⟨vs,h1,h2⟩:=h.re;exact⟨vs,s _ _ h1,h2.mono s⟩
 nd:=h.nd
 dd:=h.dd
def cM (o:Option HO):Prop:=∀vs,o≠some (.tup vs)
mutual
theorem Is.upd (hx:cM (H x)):∀{d:Dt} {v:V},Is H d v->Is (upd H x o) d v
 | .bR,_,h=>by unfold Is at h ⊢;exact h
 | .bl _,_,h=>by unfold Is at h ⊢;exact h
 | .int _,_,h=>by unfold Is at h ⊢;exact h
 | .str _,_,h=>by unfold Is at h ⊢;exact h
 | .tup l,_,h=>by
  unfold Is at h ⊢;obtain⟨a,vs,e,ha,hl⟩:=h;have ne:a≠x:=fun z=>hx vs (by rw[<-z];exact ha);exact⟨a,vs,e,by rw[aH ne];exact ha,aE.upd hx hl⟩
theorem aE.upd (hx:cM (H x)):∀{l:List Dt} {vs:List V},aE H l vs->aE (L2.upd H x o) l vs
 | [],_,h=>by unfold aE at h ⊢;exact h
 | d::l,_,h=>by
  unfold aE at h ⊢;obtain⟨v,r,e,hv,hr⟩:=h;exact⟨v,r,e,Is.upd hx hv,aE.upd hx hr⟩
end
theorem cy.upd (hx:cM (H x)):∀{ls:List (List α)} {as:List Addr},x∉as->cy H d ls as->cy (L2.upd H x o) d ls as
 | [],_,_,h=>h
 | l::r,_,nx,⟨a,t,vs,e,h1,h2,h3⟩=>by
  subst e;have ne:a≠x:=fun z=>nx (by rw[z];exact zr);exact⟨a,t,vs,rfl,by rw[aH ne];exact h1,aE.upd hx h2,cy.upd hx (fun z=>nx (zp _ z)) h3⟩
structure Cf (K:yB) (C:Addr):Prop where
 cls:PN K C
 players:fi K C "players"
 ao:fi K C "instruments"
 aM:fi K C "staffs"
 aO:fi K C "bars"
 aI:fi K C "upbeat"
 holds:fi K C "holds"
 aK:fi K C "notes"
 repeats:fi K C "repeats"
 b9:fi K C "jump"
def Pr (n:Nat):NumText.digitsVal (dec (n:Int)).cps.toList=n:=by rw[xR];exact PySem.W.KIN.val_back n
def QP {most:Int} {n k:Nat} (hk:0<k) (hm:(k:Int)<=most) (h:n<10^k):rn most (dec (n:Int)).cps.toList=some (n:Int):=by
 have l1:=Hn (n:=n);have l2:=Dq hk h;have el:(dec (n:Int)).cps.toList.length=(dec (n:Int)).length:=Array.length_toList;have ha:((dec (n:Int)).cps.toList.all fun c=>decide (c∈xk))=true:=yp.mpr fun c hc=>zg (Ru (l6 hc).1 (l6 hc).2);unfold rn;rw[if_neg nofun,if_neg nofun,if_pos ha,if_neg,Pr];rintro⟨z1,z2⟩;have:=LD (n:=n) (by rw[<-Array.getElem?_toList];exact z1);omega
def pH {most n:Int} {k:Nat} (hk:0<k) (hm:(k:Int)<=most) (h0:0<=n) (h:n<10^k):rn most (dec n).cps.toList=some n:=by
 obtain⟨m,rfl⟩:=yL h0;exact QP hk hm (by exact_mod_cast h)
def fN {n:Int} (h0:0<=n) (h:n<1000):fV (dec n)=some n:=pH (k:=3) ∅ ∅ h0 nofun
def CW (h0:0<=n) (h:n<1000) (h1:lo<=n) (h2:n<=hi):nN (dec n) lo hi=some n:=by
 unfold nN;rw[fN h0 h];dsimp only;rw[if_neg nofun,if_neg nofun]
def IG {most n:Int} {k:Nat} (hk:0<k) (hm:(k:Int)<=most) (h1:-(10^k)<n) (h2:n<10^k):rs most (dec n)=some n:=by
 unfold rs
 by_cases h0:0<=n
 ·rw[if_neg,pH hk hm h0 h2]
  intro z;obtain⟨m,rfl⟩:=yL h0;have:=l6 (zC z);omega
 ·have e:(dec n).cps.toList=45::(dec (-n)).cps.toList:=by rw[xQ nofun,cL];rfl
  rw[e,if_pos (show(45::(dec (-n)).cps.toList)[0]?=some 45 from rfl)];show(match rn most (dec (-n)).cps.toList with | some n=>if n=0 then none else some (-n) | none=>none)=_;rw[pH hk hm nofun nofun];dsimp only;rw[if_neg nofun,Int.neg_neg]
def MO {q:Int×Int} (h:Og q):rp (dec q.1) (dec q.2)=some q:=by
 obtain⟨h1,h2,h3,h4,h5⟩:=h;unfold rp;rw[IG (k:=2) ∅ ∅ nofun nofun,IG (k:=2) ∅ ∅ nofun nofun];dsimp only;rw[if_pos h5]
def Hr (n:Int):47∉(dec n).cps.toList:=gA ∅ ∅
def Kn (n:Int):58∉(dec n).cps.toList:=gA ∅ ∅
def GV {x:Int×Int} (h:Rd x) (h1:x.1<10000) (h2:x.2<10000):Oq (jg x)=some x:=by
 obtain⟨p1,p2,p3⟩:=h.pos;unfold jg Oq
 by_cases c:x.2=1
 ·rw[if_pos c,show Txt.split (dec x.1) "/"= [dec x.1] from split1 (c:=47) (Hr _)]
  dsimp only;rw[pH (k:=4) ∅ ∅ p1 nofun];dsimp only;rw[<-c,p3]
 ·rw[if_neg c,show Txt.split (dec x.1 ++"/" ++ dec x.2) "/"= [dec x.1,dec x.2] from DO (c:=47) (Hr _) (Hr _)]
  dsimp only;rw[pH (k:=4) ∅ ∅ p1 nofun,pH (k:=4) ∅ ∅ nofun nofun];dsimp only;rw[if_neg nofun,p3]
def ED (h:Ov x):lr (jg x)=some x:=by
 obtain⟨h1,h2,h3,h4⟩:=h;unfold lr;rw[GV h1 h3 h4];dsimp only;rw[if_neg nofun]
def Ph (h:L5 it):ir (rO it)=some it:=by
 obtain⟨o,x⟩:=it;obtain⟨h1,h2⟩:=h;cases o with
 | none=>
  have e:Txt.split (rO (none,x)) ":"= [("r": Str),jg x]:=DO (c:=58) (a:="r") ∅ (C6 h1);unfold ir;rw[e];show(match lr (jg x) with | none=>none | some x=>_)=_;rw[ED h1];exact if_pos rfl
 | some q=>
  have e:Txt.split (rO (some q,x)) ":"= [dec q.1,dec q.2,jg x]:=QL (c:=58) (Kn _) (Kn _) (C6 h1);unfold ir;rw[e];show(match lr (jg x) with | none=>none | some x=>_)=_;rw[ED h1];dsimp only;rw[if_neg (by simp)];show(match rp (dec q.1) (dec q.2) with | some q=>some (some q,x) | none=>none)=_;rw[MO (h2 q rfl)]
def II (h1:1<=a) (h2:a<=32) (h3:b∈Cy):jN (dec a ++"/" ++ dec b)=some (a,b):=by
 have hb:0<=b/\b<1000:=by
  unfold Cy at h3;simp at h3;omega
 unfold jN;rw[show Txt.split (dec a ++"/" ++ dec b) "/"= [dec a,dec b] from DO (c:=47) (Hr _) (Hr _)];dsimp only;rw[CW nofun nofun h1 h2,fN hb.1 hb.2];dsimp only;rw[if_pos h3]
def MR {k:Int} (h1:-7<=k) (h2:k<=7):Gg (dec k)=some k:=by
 unfold Gg;rw[IG (k:=3) ∅ ∅ nofun nofun];dsimp only;rw[if_neg (by split <;> omega)]
def K3 (h:Og q) (h1:-12<=q.1) (h2:q.1<=12):Ai (dec q.1) (dec q.2)=some q:=by
 unfold Ai;rw[MO h];dsimp only;rw[if_neg (by split <;> omega)]
theorem pE:∀{l:List α},(∀x∈l,f (g x)=some x)->pF ((l.map g).map f)=some l
 | [],_=>rfl
 | x::l,h=>by
  rw[zj,zj,h x zr];unfold pF;rw[pE fun y hy=>h y (zp _ hy)]
noncomputable def qp (e:End):Str:=dec e.1 ++":" ++ Str.join "," (e.2.map dec)
def UN (e:End):Prop:=0<=e.1/\e.1<1000/\e.2≠[]/\∀p∈e.2,0<=p/\p<1000
theorem pS (hs:c∉sep.cps.toList):∀{zs:List Str},(∀z∈zs,c∉z.cps.toList)->c∉(Str.join sep zs).cps.toList
 | [],_=>by show c∉("": Str).cps.toList;exact zE
 | [z],h=>h z zr
 | z::y::r,h=>by
  rw[fo,cL,cL];intro m;rcases zG.mp m with m | m
  ·rcases zG.mp m with m | m
   ·exact h z zr m
   ·exact hs m
  ·exact pS hs (fun x hx=>h x (zp _ hx)) m
def MT (h:UN e):Aj (qp e)=some e:=by
 obtain⟨h1,h2,h3,h4⟩:=h;have f:58∉(Str.join "," (e.2.map dec)).cps.toList:=pS ∅ fun z hz=>by
  obtain⟨y,_,rfl⟩:=zH.mp hz;exact Kn _
 unfold Aj qp;rw[show Txt.split (dec e.1 ++":" ++ Str.join "," (e.2.map dec)) ":"= [dec e.1,Str.join "," (e.2.map dec)] from DO (c:=58) (Kn _) f];dsimp only;rw[show Txt.split (Str.join "," (e.2.map dec)) ","= e.2.map dec from gL (c:=44) (by simpa using h3) fun z hz=>by
  obtain⟨y,_,rfl⟩:=zH.mp hz;exact gA ∅ ∅]
 rw[fN h1 h2,pE fun x hx=>fN (h4 x hx).1 (h4 x hx).2]
def L0 (w:Str):Prop:=w≠ ""/\32∉w.cps.toList/\10∉w.cps.toList
def Ik (ne:ws≠[]) (h:∀w∈ws,L0 w):words (Str.join " " ws)=ws:=by
 unfold words;rw[show Txt.split (Str.join " " ws) " "= ws from gL (c:=32) ne fun w hw=>(h w hw).2.1];exact List.filter_eq_self.mpr fun w hw=>zg (h w hw).1
def fY (n:Int):L0 (dec n):=by
 refine⟨fun z=>?_,gA ∅ ∅,gA ∅ ∅⟩
 by_cases h:0<=n
 ·obtain⟨m,rfl⟩:=yL h
  have:=Hn (n:=m);rw[z] at this;exact absurd this ∅
 ·have e:(dec n).cps.toList=45::(dec (-n)).cps.toList:=by rw[xQ nofun,cL];rfl
  rw[z] at e;cases e
def HL (ha:L0 a) (hb1:32∉b.cps.toList) (hb2:10∉b.cps.toList):L0 (a++b):=by
 refine⟨fun z=>ha.1 (mm ?_),fun m=>?_,fun m=>?_⟩
 ·have e:(a++b).cps.toList=("": Str).cps.toList:=by rw[z]
  rw[cL] at e;exact(List.append_eq_nil_iff.mp e).1
 ·rw[cL] at m
  rcases zG.mp m with m | m
  ·exact ha.2.1 m
  ·exact hb1 m
 ·rw[cL] at m
  rcases zG.mp m with m | m
  ·exact ha.2.2 m
  ·exact hb2 m
def Fe (ha:L0 a) (hb1:32∉b.cps.toList) (hb2:10∉b.cps.toList) (hc:L0 c):L0 (a++b++c):=HL (HL ha hb1 hb2) hc.2.1 hc.2.2
def AD (x:Int×Int):L0 (jg x):=by
 unfold jg;split
 ·exact fY _
 ·exact Fe (fY _) ∅ ∅ (fY _)
def Ro (it:Item):L0 (rO it):=by
 obtain⟨o,x⟩:=it;cases o with
 | none=>exact HL (a:="r:") ⟨∅,∅,∅⟩ (AD x).2.1 (AD x).2.2
 | some q=>exact Fe (Fe (fY _) ∅ ∅ (fY _)) ∅ ∅ (AD x)
def RA (e:End):L0 (qp e):=by
 have f:∀c,c≠44->c≠45->¬(48<=c/\c<=57)->c∉(Str.join "," (e.2.map dec)).cps.toList:=fun c h0 h1 h2=>pS (by show c∉[44];simpa using h0) fun z hz=>by
  obtain⟨y,_,rfl⟩:=zH.mp hz;exact gA h1 h2
 unfold qp;exact HL (HL (fY _) ∅ ∅) (f 32 ∅ ∅ ∅) (f 10 ∅ ∅ ∅)
def gH (n:Str):Prop:=cP n=some n
def gH.w (h:gH n):L0 n:=by
 unfold gH cP at h;split at h
 ·cases h
 ·split at h
  ·cases h
  ·split at h
   ·rename_i h1 _ h3
    have hs:∀c,c∉sgn->c∉n.cps.toList:=fun c hc m=>hc (ye (yp.mp h3 c m));refine⟨fun z=>h1 (by rw[z];decide),hs 32 ∅,hs 10 ∅⟩
   ·cases h
noncomputable def ctxt:Option Int->Str
 | none=> "end"
 | some n=>dec n
noncomputable def wordsOf:Told->List Str
 | .bN n=>["player",n]
 | .cQ n t l=>["instrument",n,dec t.1,dec t.2,jg l]
 | .cC n ps=> "staff":: n::ps
 | .bar b=> "bar":: (dec b.aU.1 ++"/" ++ dec b.aU.2)::dec b.key::b.marks
 | .aI l=>["upbeat",jg l]
 | .holds p b i=>["holds",p,dec b,i]
 | .aK b p its=> "notes":: dec b::p::its.map rO
 | .rep r=> "repeat":: dec r.first::dec r.last::dec r.times::r.ends.map qp
 | .b9 j=>["jump",dec j.uB,dec j.wu,dec j.cW,ctxt j.gf]
noncomputable def rowOf (t:Told):Str:=Str.join " " (wordsOf t)
def NB (n:Int):Prop:=0<=n/\n<1000
def Qg:Told->Prop
 | .bN n=>gH n
 | .cQ n t l=>gH n/\Og t/\-12<=t.1/\t.1<=12/\Lm.Rd l/\l.1<10000/\l.2<10000
 | .cC n ps=>gH n/\ps≠[]/\∀p∈ps,gH p
 | .bar b=>1<=b.aU.1/\b.aU.1<=32/\b.aU.2∈Cy/\-7<=b.key/\b.key<=7/\∀m∈b.marks,gH m
 | .aI l=>Ov l
 | .holds p b i=>gH p/\NB b/\gH i
 | .aK b p its=>NB b/\gH p/\(∀it∈its,L5 it)/\its.all (fun it=>it.1.isNone)=false
 | .rep r=>NB r.first/\NB r.last/\2<=r.times/\r.times<=9/\∀e∈r.ends,UN e
 | .b9 j=>NB j.uB/\NB j.wu/\NB j.cW/\∀c,j.gf=some c->NB c
def Kv (h:∀p∈l,gH p):pF (l.map cP)=some l:=by
 have:=pE (f:=cP) (g:=fun x:Str=>x) (l:=l) h
 rwa [List.map_id'] at this
def IK (h:Qg t):pK (wordsOf t)=some t:=by
 cases t with
 | bN n=>
  show(cP n).map Told.bN=_;rw[show cP n=some n from h];rfl
 | cQ n t l=>
  obtain⟨h1,h2,h3,h4,h5,h6,h7⟩:=h;show(mG [n,dec t.1,dec t.2,jg l]).map (fun x=>Told.cQ x.1 x.2.1 x.2.2)=_;unfold mG;dsimp only;rw[show cP n=some n from h1,K3 h2 h3 h4,GV h5 h6 h7];rfl
 | cC n ps=>
  obtain⟨h1,h2,h3⟩:=h;show(rG (n::ps)).map (fun x=>Told.cC x.1 x.2)=_;obtain⟨b,r,rfl⟩:=List.exists_cons_of_ne_nil h2;rw[rF,Kv (l:=n::b::r) fun p hp=>by
   rcases zD.mp hp with e | e
   ·rw[e];exact h1
   ·exact h3 p e]
  rfl
 | bar b=>
  obtain⟨h1,h2,h3,h4,h5,h6⟩:=h;show(B1 ((dec b.aU.1 ++"/" ++ dec b.aU.2)::dec b.key::b.marks)).map Told.bar=_;unfold B1;dsimp only;rw[Kv h6,II h1 h2 h3,MR h4 h5];rfl
 | aI l=>
  show(lr (jg l)).map Told.aI=_;rw[ED h];rfl
 | holds p b i=>
  obtain⟨h1,h2,h3⟩:=h;show(tG [p,dec b,i]).map (fun x=>Told.holds x.1 x.2.1 x.2.2)=_;unfold tG;dsimp only;rw[show cP p=some p from h1,fN h2.1 h2.2,show cP i=some i from h3];rfl
 | aK b p its=>
  obtain⟨h1,h2,h3,h4⟩:=h;show(kZ (dec b::p::its.map rO)).map (fun x=>Told.aK x.1 x.2.1 x.2.2)=_;cases its with
  | nil=>cases h4
  | cons i r=>
   show(kZ (dec b::p::rO i::r.map rO)).map _=_;unfold kZ;have e:=pE (f:=ir) (g:=rO) (l:=i::r) fun x hx=>Ph (h3 x hx);rw[zj] at e;dsimp only;rw[e];dsimp only;rw[h4,fN h1.1 h1.2,show cP p=some p from h2];rfl
 | rep r=>
  obtain⟨h1,h2,h3,h4,h5⟩:=h;show(kB (dec r.first::dec r.last::dec r.times::r.ends.map qp)).map Told.rep=_;unfold kB;dsimp only;rw[pE fun x hx=>MT (h5 x hx),fN h1.1 h1.2,fN h2.1 h2.2,CW nofun nofun h3 h4];rfl
 | b9 j=>
  obtain⟨h1,h2,h3,h4⟩:=h;show(wg [dec j.uB,dec j.wu,dec j.cW,ctxt j.gf]).map Told.b9=_;unfold wg;dsimp only;rw[fN h1.1 h1.2,fN h2.1 h2.2,fN h3.1 h3.2];obtain⟨a,b,c,d⟩:=j;cases d with
  | none=>rfl
  | some n=>
   dsimp only[ctxt];rw[fN (h4 n rfl).1 (h4 n rfl).2];rfl
def JU (h:Qg t):∀w∈wordsOf t,L0 w:=by
 have lit:∀s:Str,s≠ ""->32∉s.cps.toList->10∉s.cps.toList->L0 s:=fun s a b c=>⟨a,b,c⟩
 cases t with
 | bN n=>
  intro w hw;simp only[wordsOf,zD,zE,or_false] at hw;rcases hw with rfl | rfl
  ·exact lit _ ∅ ∅ ∅
  ·exact gH.w h
 | cQ n t l=>
  intro w hw;simp only[wordsOf,zD,zE,or_false] at hw;rcases hw with rfl | rfl | rfl | rfl | rfl
  ·exact lit _ ∅ ∅ ∅
  ·exact gH.w h.1
  ·exact fY _
  ·exact fY _
  ·exact AD _
 | cC n ps=>
  intro w hw;simp only[wordsOf,zD] at hw;rcases hw with rfl | rfl | hw
  ·exact lit _ ∅ ∅ ∅
  ·exact gH.w h.1
  ·exact gH.w (h.2.2 _ hw)
 | bar b=>
  intro w hw;simp only[wordsOf,zD] at hw;rcases hw with rfl | rfl | rfl | hw
  ·exact lit _ ∅ ∅ ∅
  ·exact Fe (fY _) ∅ ∅ (fY _)
  ·exact fY _
  ·exact gH.w (h.2.2.2.2.2 _ hw)
 | aI l=>
  intro w hw;simp only[wordsOf,zD,zE,or_false] at hw;rcases hw with rfl | rfl
  ·exact lit _ ∅ ∅ ∅
  ·exact AD _
 | holds p b i=>
  intro w hw;simp only[wordsOf,zD,zE,or_false] at hw;rcases hw with rfl | rfl | rfl | rfl
  ·exact lit _ ∅ ∅ ∅
  ·exact gH.w h.1
  ·exact fY _
  ·exact gH.w h.2.2
 | aK b p its=>
  intro w hw;simp only[wordsOf,zD,zH] at hw;rcases hw with rfl | rfl | rfl | ⟨x,_,rfl⟩
  ·exact lit _ ∅ ∅ ∅
  ·exact fY _
  ·exact gH.w h.2.1
  ·exact Ro _
 | rep r=>
  intro w hw;simp only[wordsOf,zD,zH] at hw;rcases hw with rfl | rfl | rfl | rfl | ⟨x,_,rfl⟩
  ·exact lit _ ∅ ∅ ∅
  ·exact fY _
  ·exact fY _
  ·exact fY _
  ·exact RA _
 | b9 j=>
  intro w hw;simp only[wordsOf,zD,zE,or_false] at hw;rcases hw with rfl | rfl | rfl | rfl | rfl
  ·exact lit _ ∅ ∅ ∅
  ·exact fY _
  ·exact fY _
  ·exact fY _
  ·unfold ctxt
   cases j.gf with
   | none=>exact lit _ ∅ ∅ ∅
   | some n=>exact fY _
def Il (t:Told):wordsOf t≠[]:=by cases t <;> simp[wordsOf]
def K4 (h:Qg t):words (rowOf t)=wordsOf t:=Ik (Il t) (JU h)
def MP (h:Qg t):10∉(rowOf t).cps.toList:=pS ∅ fun w hw=>(JU h w hw).2.2
noncomputable def kindOf:HO->Nat
 | .lst _=>0
 | .tup _=>1
 | .ins _ _ _=>2
 | .dK _=>3
 | .dT _=>4
 | _=>5
def bq {H:Hp} {a b:Addr} {u v:HO} (h1:H a=some u) (h2:H b=some v) (k:kindOf u≠kindOf v):a≠b:=fun z=>by
 rw[z,h2] at h1;cases h1;exact k rfl
noncomputable def own (a:Addr) (o:Ow):List Addr:=[a,o.pl,o.ins,o.st,o.ba,o.ho,o.no,o.re]++o.hs++o.ns
def xH (L:List Addr) (H H':Hp):Prop:=∀b u,b∉L->H b=some u->H' b=some u
def xH.of (s:aB H H'):xH L H H':=fun b u _ h=>s b u h
def xH.trans (s:xH L H H') (t:xH L H' H''):xH L H H'':=fun b u n h=>t b u n (s b u n h)
theorem xH.upd (h:x∈L):xH L H (L2.upd H x o):=fun b u n e=>by
 rw[aH (fun z=>n (by rw[z];exact h))];exact e
structure Nd (o:Ow):Prop where
 pb:o.pl≠o.ba
 pr:o.pl≠o.re
 ph:o.pl∉o.hs
 pn:o.pl∉o.ns
 br:o.ba≠o.re
 bh:o.ba∉o.hs
 bn:o.ba∉o.ns
 rh:o.re∉o.hs
 rn:o.re∉o.ns
 hh:o.hs.Nodup
 nn:o.ns.Nodup
 hn:∀x∈o.hs,x∉o.ns
def Nd.of (h:o.lists.Nodup):Nd o:=by
 unfold Ow.lists at h;rw[zT] at h;obtain⟨h1,h2,h3⟩:=h;rw[zT] at h1;obtain⟨h4,h5,h6⟩:=h1;simp only[yd,zD,zE,or_false,not_or] at h4;refine⟨h4.1.1,h4.1.2,fun z=>?_,fun z=>?_,h4.2.1,fun z=>?_,fun z=>?_,fun z=>?_,fun z=>?_,h5,h2,fun x hx z=>?_⟩
 ·exact h6 o.pl (by simp) o.pl z rfl
 ·exact h3 o.pl (by simp) o.pl z rfl
 ·exact h6 o.ba (by simp) o.ba z rfl
 ·exact h3 o.ba (by simp) o.ba z rfl
 ·exact h6 o.re (by simp) o.re z rfl
 ·exact h3 o.re (by simp) o.re z rfl
 ·exact h3 x (by simp[hx]) x z rfl
def Nd.to (h:Nd o):o.lists.Nodup:=by
 unfold Ow.lists;rw[zT];refine⟨?_,h.nn,?_⟩
 ·rw[zT]
  refine⟨?_,h.hh,?_⟩
  ·simp only[yd,zD,zE,or_false,not_or]
   exact⟨⟨h.pb,h.pr⟩,h.br,fun z=>z,List.nodup_nil⟩
  ·intro x hx y hy e
   subst e;simp only[zD,zE,or_false] at hx;rcases hx with rfl | rfl | rfl
   ·exact h.ph hy
   ·exact h.bh hy
   ·exact h.rh hy
 ·intro x hx y hy e
  subst e;rw[zG] at hx;rcases hx with hx | hx
  ·simp only[zD,zE,or_false] at hx
   rcases hx with rfl | rfl | rfl
   ·exact h.pn hy
   ·exact h.bn hy
   ·exact h.rn hy
  ·exact h.hn x hx hy
section
variable {C a x:Addr} {H:Hp} {S:cB} {o:Ow} {u:HO}
def bZ.C5 (h:bZ C H a S o) (nx:cM (H x)) (n:a≠x):∃ub jm,L2.upd H x u a=some (.ins C o.dx (Om o ub jm))/\Is (L2.upd H x u) (dO dL S.aI) ub/\Is (L2.upd H x u) (dO jZ S.b9) jm:=by
 obtain⟨ub,jm,h1,h2,h3⟩:=h.obj;exact⟨ub,jm,by rw[aH n];exact h1,Is.upd nx h2,Is.upd nx h3⟩
def bZ.Ei (h:bZ C H a S o) (n:o.pl≠x):L2.upd H x u o.pl=some (.lst (S.players.map V.str)):=by rw[aH n];exact h.pl
def bZ.uc (h:bZ C H a S o) (nx:cM (H x)) (n:o.ins≠x):∃vs,L2.upd H x u o.ins=some (.dK ((S.ao.map fun x=>kS x.1).zip vs))/\aE (L2.upd H x u) (S.ao.map N1) vs:=by
 obtain⟨vs,h1,h2⟩:=h.ins;exact⟨vs,by rw[aH n];exact h1,aE.upd nx h2⟩
def bZ.DM (h:bZ C H a S o) (nx:cM (H x)) (n:o.st≠x):∃vs,L2.upd H x u o.st=some (.dK ((S.aM.map fun x=>kS x.1).zip vs))/\aE (L2.upd H x u) (S.aM.map Px) vs:=by
 obtain⟨vs,h1,h2⟩:=h.st;exact⟨vs,by rw[aH n];exact h1,aE.upd nx h2⟩
def bZ.Fc (h:bZ C H a S o) (nx:cM (H x)) (n:o.ba≠x):∃vs,L2.upd H x u o.ba=some (.lst vs)/\aE (L2.upd H x u) (S.aO.map l8) vs:=by
 obtain⟨vs,h1,h2⟩:=h.ba;exact⟨vs,by rw[aH n];exact h1,aE.upd nx h2⟩
def bZ.Ef (h:bZ C H a S o) (nx:cM (H x)) (n:o.re≠x):∃vs,L2.upd H x u o.re=some (.lst vs)/\aE (L2.upd H x u) (S.repeats.map iK) vs:=by
 obtain⟨vs,h1,h2⟩:=h.re;exact⟨vs,by rw[aH n];exact h1,aE.upd nx h2⟩
def bZ.G0 (h:bZ C H a S o) (nx:cM (H x)) (n:o.ho≠x) (nn:x∉o.hs):L2.upd H x u o.ho=some (.dK ((S.holds.map fun x=>kS x.1).zip (o.hs.map V.ref)))/\cy (L2.upd H x u) Kp (S.holds.map (·.2)) o.hs:=
 ⟨by rw[aH n];exact h.ho.1,cy.upd nx nn h.ho.2⟩
def bZ.Ez (h:bZ C H a S o) (nx:cM (H x)) (n:o.no≠x) (nn:x∉o.ns):L2.upd H x u o.no=some (.dT ((S.aK.map fun x=>kN x.1).zip (o.ns.map V.ref)))/\cy (L2.upd H x u) fe (S.aK.map (·.2)) o.ns:=
 ⟨by rw[aH n];exact h.no.1,cy.upd nx nn h.no.2⟩
end
theorem cN:∀{ls:List (List α)} {as:List Addr},cy H d ls as->x∈as->∃vs,H x=some (.lst vs)
 | [],_,h,hx=>by unfold cy at h;subst h;simp at hx
 | l::r,_,⟨a,t,vs,e,h1,_,h3⟩,hx=>by
  subst e;rcases zD.mp hx with rfl | hx
  ·exact⟨vs,h1⟩
  ·exact cN h3 hx
theorem cy.snoc (hx:H x=some (.lst vs)) (im:aE H (m.map d) vs):∀{ls:List (List α)} {as:List Addr},cy H d ls as->cy H d (ls++[m]) (as++[x])
 | [],_,h=>by unfold cy at h;subst h;exact⟨x,[],vs,rfl,hx,im,rfl⟩
 | l::r,_,⟨a,t,vs',e,h1,h2,h3⟩=>by
  subst e;exact⟨a,t++[x],vs',rfl,h1,h2,cy.snoc hx im h3⟩
def Mh (h:l.length=m.length) (x:α) (y:β):(l++[x]).zip (m++[y])=l.zip m++[(x,y)]:=by
 rw[List.zip_append h];rfl
def tH {κ:Type} [DecidableEq κ] {ks:List κ} {vs:List V} (hl:ks.length=vs.length) {k:κ} {v:V} (h:dm (ks.zip vs) k=none):putK (ks.zip vs) k v=(ks++[k]).zip (vs++[v]):=by
 rw[Mh hl];exact M0 v h
theorem De (p:Str):∀{hs:List (Str×List α)} {as:List Addr},cy H d (hs.map (·.2)) as->as.Nodup->(hs.map (·.1)).Nodup->p∈hs.map (·.1)->
  ∃x vs,dm ((hs.map fun x=>kS x.1).zip (as.map V.ref)) (kS p)=some (.ref x)/\x∈as/\H x=some (.lst vs)/\∀y e,Is (L2.upd H x (.lst (vs++[y]))) (d e) y->
   cy (L2.upd H x (.lst (vs++[y]))) d ((hs.map fun q=>if q.1=p then(q.1,q.2++[e]) else q).map (·.2)) as
 | [],_,_,_,_,h=>by simp at h
 | (k,l)::r,_,hL,na,nk,hm=>by
  rw[zj] at hL;obtain⟨a,t,vs,rfl,h1,h2,h3⟩:=hL;rw[zj,yd] at nk;rw[yd] at na
  by_cases e:k=p
  ·subst e
   refine⟨a,vs,?_,zr,h1,fun y e iy=>?_⟩
   ·rw[zj,zj,List.zip_cons_cons]
    unfold dm;rw[List.find?_cons];simp
   ·have nx:cM (H a):=by rw[h1];exact fun _ z=>by cases z
    have er:(r.map fun q=>if q.1=k then(q.1,q.2++[e]) else q)=r:=by
     conv=>rhs;rw[<-List.map_id r]
     refine List.map_congr_left fun q hq=>?_;rw[if_neg (fun z=>nk.1 (by rw[show(k,l).1=q.1 from z.symm];exact zP (f:=fun x:Str×List α=>x.1) hq))];rfl
    rw[zj,zj,if_pos rfl,er];refine⟨a,t,vs++[y],rfl,aC,?_,cy.upd nx na.1 h3⟩;rw[zk];exact dk iy (aE.upd nx h2)
  ·have hm':p∈r.map (·.1):=by
    rcases zD.mp hm with z | z
    ·exact absurd z.symm e
    ·exact z
   obtain⟨x,vs',e1,e2,e3,e4⟩:=De p h3 na.2 nk.2 hm';refine⟨x,vs',?_,zp _ e2,e3,fun y e iy=>?_⟩
   ·have e':¬kS k=kS p:=fun z=>e (Sum.inr.inj z)
    rw[zj,zj,List.zip_cons_cons];unfold dm at e1 ⊢;rw[List.find?_cons];simp only[e',decide_false];exact e1
   ·have nx:cM (H x):=by rw[e3];exact fun _ z=>by cases z
    rw[zj,zj,if_neg (by assumption)];refine⟨a,t,vs,rfl,?_,aE.upd nx h2,e4 y e iy⟩;rw[aH (fun z=>na.1 (by rw[z];exact e2))];exact h1
section
variable {C a:Addr} {H:Hp} {S:cB} {o:Ow}
def bZ.JD (h:bZ C H a S o) (n:Str):bZ C (L2.upd H o.pl (.lst (S.players.map V.str++[.str n]))) a (bS S (.bN n)) o:=by
 have d:=Nd.of h.nd;have hp:=h.pl;have nx:cM (H o.pl):=by rw[hp];exact fun _ z=>by cases z
 obtain⟨_,_,ha,_⟩:=h.obj;obtain⟨_,hi,_⟩:=h.ins;obtain⟨_,hs,_⟩:=h.st;exact⟨h.C5 nx (bq ha hp (by simp[kindOf])),by rw[aC];show _=some (HO.lst ((S.players++[n]).map V.str));rw[zk];rfl,h.uc nx (bq hi hp (by simp[kindOf])),h.DM nx (bq hs hp (by simp[kindOf])),h.Fc nx d.pb.symm,
  h.G0 nx (bq h.ho.1 hp (by simp[kindOf])) d.ph,h.Ez nx (bq h.no.1 hp (by simp[kindOf])) d.pn,h.Ef nx d.pr.symm,h.nd,h.dd⟩
def bZ.PD (h:bZ C H a S o) {b:Me} {v:V} {vs:List V} (hb:H o.ba=some (.lst vs)) (il:aE H (S.aO.map l8) vs) (iv:Is H (l8 b) v):bZ C (L2.upd H o.ba (.lst (vs++[v]))) a (bS S (.bar b)) o:=by
 have d:=Nd.of h.nd;have nx:cM (H o.ba):=by rw[hb];exact fun _ z=>by cases z
 obtain⟨_,_,ha,_⟩:=h.obj;obtain⟨_,hi,_⟩:=h.ins;obtain⟨_,hs,_⟩:=h.st;refine⟨h.C5 nx (bq ha hb (by simp[kindOf])),h.Ei d.pb,h.uc nx (bq hi hb (by simp[kindOf])),h.DM nx (bq hs hb (by simp[kindOf])),⟨_,aC,?_⟩,
  h.G0 nx (bq h.ho.1 hb (by simp[kindOf])) d.bh,h.Ez nx (bq h.no.1 hb (by simp[kindOf])) d.bn,h.Ef nx d.br.symm,h.nd,h.dd⟩
 show aE _ ((S.aO++[b]).map l8) _;rw[zk];exact dk (Is.upd nx iv) (aE.upd nx il)
def bZ.Pz (h:bZ C H a S o) {r:Rep} {v:V} {vs:List V} (hb:H o.re=some (.lst vs)) (il:aE H (S.repeats.map iK) vs) (iv:Is H (iK r) v):bZ C (L2.upd H o.re (.lst (vs++[v]))) a (bS S (.rep r)) o:=by
 have d:=Nd.of h.nd;have nx:cM (H o.re):=by rw[hb];exact fun _ z=>by cases z
 obtain⟨_,_,ha,_⟩:=h.obj;obtain⟨_,hi,_⟩:=h.ins;obtain⟨_,hs,_⟩:=h.st;refine⟨h.C5 nx (bq ha hb (by simp[kindOf])),h.Ei d.pr,h.uc nx (bq hi hb (by simp[kindOf])),h.DM nx (bq hs hb (by simp[kindOf])),h.Fc nx d.br,
  h.G0 nx (bq h.ho.1 hb (by simp[kindOf])) d.rh,h.Ez nx (bq h.no.1 hb (by simp[kindOf])) d.rn,⟨_,aC,?_⟩,h.nd,h.dd⟩
 show aE _ ((S.repeats++[r]).map iK) _;rw[zk];exact dk (Is.upd nx iv) (aE.upd nx il)
def xU {n:Str} {ks:List Str} {vs:List V} (h:n∉ks):dm ((ks.map kS).zip vs) (kS n)=none:=by
 unfold dm;rw[Option.map_eq_none_iff,List.find?_eq_none];intro x hx z;have e:=ye z;have m:=(List.of_mem_zip hx).1;obtain⟨k,hk,ek⟩:=zH.mp m;rw[<-ek] at e;exact h ((Sum.inr.inj e)▸hk)
def NX (h:[o.ins,o.st,o.ho].Nodup):o.ins≠o.st/\o.ins≠o.ho/\o.st≠o.ho:=by
 simp only[yd,zD,zE,or_false,not_or] at h;exact⟨h.1.1,h.1.2,h.2.1⟩
def bZ.LU (h:bZ C H a S o) {n:Str} {t l:Int×Int} {p:Addr} {vs:List V} (hb:H o.ins=some (.dK ((S.ao.map fun x=>kS x.1).zip vs))) (il:aE H (S.ao.map N1) vs) (iv:Is H (N1 (n,t,l)) (.ref p))
  (fr:n∉S.ao.map (·.1)):bZ C (L2.upd H o.ins (.dK (putK ((S.ao.map fun x=>kS x.1).zip vs) (kS n) (.ref p)))) a (bS S (.cQ n t l)) o:=by
 have d:=Nd.of h.nd;obtain⟨d1,d2,d3⟩:=NX h.dd;have nx:cM (H o.ins):=by rw[hb];exact fun _ z=>by cases z
 obtain⟨_,_,ha,_⟩:=h.obj;obtain⟨_,hba,_⟩:=h.ba;obtain⟨_,hre,_⟩:=h.re;have vl:=aT il;have em:(S.ao.map fun x=>kS x.1)=(S.ao.map (·.1)).map kS:=by rw[zB];rfl
 have hns:o.ins∉o.ns:=fun z=>by
  obtain⟨_,q⟩:=cN h.no.2 z;rw[hb] at q;cases q
 have hhs:o.ins∉o.hs:=fun z=>by
  obtain⟨_,q⟩:=cN h.ho.2 z;rw[hb] at q;cases q
 refine⟨h.C5 nx (bq ha hb (by simp[kindOf])),h.Ei (bq h.pl hb (by simp[kindOf])),⟨vs++[.ref p],?_,?_⟩,h.DM nx d1.symm,h.Fc nx (bq hba hb (by simp[kindOf])),
  h.G0 nx d2.symm hhs,h.Ez nx (bq h.no.1 hb (by simp[kindOf])) hns,h.Ef nx (bq hre hb (by simp[kindOf])),h.nd,h.dd⟩
 ·rw[aC,tH (by rw[za];exact vl.symm) (by rw[em];exact xU fr)]
  show _=some (HO.dK (((S.ao++[(n,t,l)]).map fun x=>kS x.1).zip (vs++[.ref p])));rw[zk];rfl
 ·show aE _ ((S.ao++[(n,t,l)]).map N1) _
  rw[zk];exact dk (Is.upd nx iv) (aE.upd nx il)
def bZ.LR (h:bZ C H a S o) {n:Str} {ps:List Str} {v:V} {vs:List V} (hb:H o.st=some (.dK ((S.aM.map fun x=>kS x.1).zip vs))) (il:aE H (S.aM.map Px) vs) (iv:Is H (Px (n,ps)) v)
  (fr:n∉S.aM.map (·.1)):bZ C (L2.upd H o.st (.dK (putK ((S.aM.map fun x=>kS x.1).zip vs) (kS n) v))) a (bS S (.cC n ps)) o:=by
 have d:=Nd.of h.nd;obtain⟨d1,d2,d3⟩:=NX h.dd;have nx:cM (H o.st):=by rw[hb];exact fun _ z=>by cases z
 obtain⟨_,_,ha,_⟩:=h.obj;obtain⟨_,hba,_⟩:=h.ba;obtain⟨_,hre,_⟩:=h.re;have vl:=aT il;have em:(S.aM.map fun x=>kS x.1)=(S.aM.map (·.1)).map kS:=by rw[zB];rfl
 have hns:o.st∉o.ns:=fun z=>by
  obtain⟨_,q⟩:=cN h.no.2 z;rw[hb] at q;cases q
 have hhs:o.st∉o.hs:=fun z=>by
  obtain⟨_,q⟩:=cN h.ho.2 z;rw[hb] at q;cases q
 refine⟨h.C5 nx (bq ha hb (by simp[kindOf])),h.Ei (bq h.pl hb (by simp[kindOf])),h.uc nx d1,⟨vs++[v],?_,?_⟩,h.Fc nx (bq hba hb (by simp[kindOf])),
  h.G0 nx d3.symm hhs,h.Ez nx (bq h.no.1 hb (by simp[kindOf])) hns,h.Ef nx (bq hre hb (by simp[kindOf])),h.nd,h.dd⟩
 ·rw[aC,tH (by rw[za];exact vl.symm) (by rw[em];exact xU fr)]
  show _=some (HO.dK (((S.aM++[(n,ps)]).map fun x=>kS x.1).zip (vs++[v])));rw[zk];rfl
 ·show aE _ ((S.aM++[(n,ps)]).map Px) _
  rw[zk];exact dk (Is.upd nx iv) (aE.upd nx il)
def KJ {n:Int×Str} {ks:List (Int×Str)} {vs:List V} (h:n∉ks):dm ((ks.map kN).zip vs) (kN n)=none:=by
 unfold dm;rw[Option.map_eq_none_iff,List.find?_eq_none];intro x hx z;have e:=ye z;have m:=(List.of_mem_zip hx).1;obtain⟨k,hk,ek⟩:=zH.mp m;rw[<-ek] at e;unfold kN at e;simp at e;have:k=n:=Prod.ext e.1 e.2;exact h (this▸hk)
def bZ.LS (h:bZ C H a S o) {b:Int} {pn:Str} {its:List Item} {q:Addr} {us:List V} (hq:H q=some (.lst us)) (iq:aE H (its.map fe) us) (nq:q∉o.lists) (fr:(b,pn)∉S.aK.map (·.1)) :
  bZ C (L2.upd H o.no (.dT (putK ((S.aK.map fun x=>kN x.1).zip (o.ns.map V.ref)) (kN (b,pn)) (.ref q)))) a (bS S (.aK b pn its)) {o with ns:=o.ns++[q]}:=by
 have d:=Nd.of h.nd;have hb:=h.no.1;have nx:cM (H o.no):=by rw[hb];exact fun _ z=>by cases z
 obtain⟨ub,jm,ha,hub,hjm⟩:=h.obj;obtain⟨_,hi,_⟩:=h.ins;obtain⟨_,hs,_⟩:=h.st;obtain⟨_,hba,_⟩:=h.ba;obtain⟨_,hre,_⟩:=h.re;have em:(S.aK.map fun x=>kN x.1)=(S.aK.map (·.1)).map kN:=by rw[zB];rfl
 have hns:o.no∉o.ns:=fun z=>by
  obtain⟨_,q⟩:=cN h.no.2 z;rw[hb] at q;cases q
 have hhs:o.no∉o.hs:=fun z=>by
  obtain⟨_,q⟩:=cN h.ho.2 z;rw[hb] at q;cases q
 have ll:(o.ns.map V.ref).length=S.aK.length:=by
  have:∀{ls:List (List Item)} {as:List Addr},cy H fe ls as->as.length=ls.length:=by
   intro ls
   induction ls with
   | nil=>intro as z;unfold cy at z;rw[z];rfl
   | cons l r ih=>rintro _ ⟨a,t,vs,rfl,_,_,h3⟩;rw[zv,zv,ih h3]
  rw[za,this h.no.2,za]
 have nn:q∉[o.pl,o.ba,o.re]/\q∉o.hs/\q∉o.ns:=by
  unfold Ow.lists at nq;rw[zG,zG] at nq;exact⟨fun z=>nq (.inl (.inl z)),fun z=>nq (.inl (.inr z)),fun z=>nq (.inr z)⟩
 obtain⟨n1,n2,n3⟩:=nn;simp only[zD,zE,or_false,not_or] at n1;refine⟨⟨ub,jm,by rw[aH (bq ha hb (by simp[kindOf]))];exact ha,Is.upd nx hub,Is.upd nx hjm⟩,h.Ei (bq h.pl hb (by simp[kindOf])),h.uc nx (bq hi hb (by simp[kindOf])),h.DM nx (bq hs hb (by simp[kindOf])),h.Fc nx (bq hba hb (by simp[kindOf])),
  h.G0 nx (bq h.ho.1 hb (by simp[kindOf])) hhs,⟨?_,?_⟩,h.Ef nx (bq hre hb (by simp[kindOf])),?_,h.dd⟩
 ·show L2.upd H o.no _ o.no=some (HO.dT (((S.aK++[((b,pn),its)]).map fun x=>kN x.1).zip ((o.ns++[q]).map V.ref)))
  rw[aC,tH (by rw[za];exact ll.symm) (by rw[em];exact KJ fr),zk,zk];rfl
 ·show cy _ fe ((S.aK++[((b,pn),its)]).map (·.2)) (o.ns++[q])
  rw[zk];exact cy.snoc (by rw[aH (bq hq hb (by simp[kindOf]))];exact hq) (aE.upd nx iq) (cy.upd nx hns h.no.2)
 ·refine Nd.to ⟨d.pb,d.pr,d.ph,?_,d.br,d.bh,?_,d.rh,?_,d.hh,?_,?_⟩
  ·show o.pl∉o.ns++[q]
   rw[zG,zA];rintro(z | z)
   ·exact d.pn z
   ·exact n1.1 z.symm
  ·show o.ba∉o.ns++[q]
   rw[zG,zA];rintro(z | z)
   ·exact d.bn z
   ·exact n1.2.1 z.symm
  ·show o.re∉o.ns++[q]
   rw[zG,zA];rintro(z | z)
   ·exact d.rn z
   ·exact n1.2.2 z.symm
  ·show(o.ns++[q]).Nodup
   rw[zT];exact⟨d.nn,by simp,fun x hx y hy e=>by rw[zA] at hy;subst hy;subst e;exact n3 hx⟩
  ·intro x hx z
   have z':x∈o.ns++[q]:=z;rw[zG,zA] at z';rcases z' with z' | z'
   ·exact d.hn x hx z'
   ·subst z';exact n2 hx
def bZ.JC (h:bZ C H a S o) {l:Int×Int} {v ub jm:V} (ha:H a=some (.ins C o.dx (Om o ub jm))) (ij:Is H (dO jZ S.b9) jm) (iv:Is H (dL l) v):bZ C (L2.upd H a (.ins C o.dx (Om o v jm))) a (bS S (.aI l)) o:=by
 have nx:cM (H a):=by rw[ha];exact fun _ z=>by cases z
 obtain⟨_,hi,_⟩:=h.ins;obtain⟨_,hs,_⟩:=h.st;obtain⟨_,hba,_⟩:=h.ba;obtain⟨_,hre,_⟩:=h.re;have hns:a∉o.ns:=fun z=>by
  obtain⟨_,q⟩:=cN h.no.2 z;rw[ha] at q;cases q
 have hhs:a∉o.hs:=fun z=>by
  obtain⟨_,q⟩:=cN h.ho.2 z;rw[ha] at q;cases q
 exact⟨⟨v,jm,aC,Is.upd nx iv,Is.upd nx ij⟩,h.Ei (bq h.pl ha (by simp[kindOf])),h.uc nx (bq hi ha (by simp[kindOf])),h.DM nx (bq hs ha (by simp[kindOf])),h.Fc nx (bq hba ha (by simp[kindOf])),
  h.G0 nx (bq h.ho.1 ha (by simp[kindOf])) hhs,h.Ez nx (bq h.no.1 ha (by simp[kindOf])) hns,h.Ef nx (bq hre ha (by simp[kindOf])),h.nd,h.dd⟩
def bZ.Ob (h:bZ C H a S o) {j:Jump} {v ub jm:V} (ha:H a=some (.ins C o.dx (Om o ub jm))) (iu:Is H (dO dL S.aI) ub) (iv:Is H (jZ j) v):bZ C (L2.upd H a (.ins C o.dx (Om o ub v))) a (bS S (.b9 j)) o:=by
 have nx:cM (H a):=by rw[ha];exact fun _ z=>by cases z
 obtain⟨_,hi,_⟩:=h.ins;obtain⟨_,hs,_⟩:=h.st;obtain⟨_,hba,_⟩:=h.ba;obtain⟨_,hre,_⟩:=h.re;have hns:a∉o.ns:=fun z=>by
  obtain⟨_,q⟩:=cN h.no.2 z;rw[ha] at q;cases q
 have hhs:a∉o.hs:=fun z=>by
  obtain⟨_,q⟩:=cN h.ho.2 z;rw[ha] at q;cases q
 exact⟨⟨ub,v,aC,Is.upd nx iu,Is.upd nx iv⟩,h.Ei (bq h.pl ha (by simp[kindOf])),h.uc nx (bq hi ha (by simp[kindOf])),h.DM nx (bq hs ha (by simp[kindOf])),h.Fc nx (bq hba ha (by simp[kindOf])),
  h.G0 nx (bq h.ho.1 ha (by simp[kindOf])) hhs,h.Ez nx (bq h.no.1 ha (by simp[kindOf])) hns,h.Ef nx (bq hre ha (by simp[kindOf])),h.nd,h.dd⟩
def bZ.Nj (h:bZ C H a S o) {pn:Str} {q:Addr} (hq:H q=some (.lst [])) (nq:q∉o.lists) (fr:pn∉S.holds.map (·.1)) :
  bZ C (L2.upd H o.ho (.dK (putK ((S.holds.map fun x=>kS x.1).zip (o.hs.map V.ref)) (kS pn) (.ref q)))) a {S with holds:=S.holds++[(pn,[])]} {o with hs:=o.hs++[q]}:=by
 have d:=Nd.of h.nd;obtain⟨d1,d2,d3⟩:=NX h.dd;have hb:=h.ho.1;have nx:cM (H o.ho):=by rw[hb];exact fun _ z=>by cases z
 obtain⟨ub,jm,ha,hub,hjm⟩:=h.obj;obtain⟨_,hba,_⟩:=h.ba;obtain⟨_,hre,_⟩:=h.re;have em:(S.holds.map fun x=>kS x.1)=(S.holds.map (·.1)).map kS:=by rw[zB];rfl
 have hns:o.ho∉o.ns:=fun z=>by
  obtain⟨_,q⟩:=cN h.no.2 z;rw[hb] at q;cases q
 have hhs:o.ho∉o.hs:=fun z=>by
  obtain⟨_,q⟩:=cN h.ho.2 z;rw[hb] at q;cases q
 have ll:(o.hs.map V.ref).length=S.holds.length:=by
  have:∀{ls:List (List (Int×Str))} {as:List Addr},cy H Kp ls as->as.length=ls.length:=by
   intro ls
   induction ls with
   | nil=>intro as z;unfold cy at z;rw[z];rfl
   | cons l r ih=>rintro _ ⟨a,t,vs,rfl,_,_,h3⟩;rw[zv,zv,ih h3]
  rw[za,this h.ho.2,za]
 have nn:q∉[o.pl,o.ba,o.re]/\q∉o.hs/\q∉o.ns:=by
  unfold Ow.lists at nq;rw[zG,zG] at nq;exact⟨fun z=>nq (.inl (.inl z)),fun z=>nq (.inl (.inr z)),fun z=>nq (.inr z)⟩
 obtain⟨n1,n2,n3⟩:=nn;simp only[zD,zE,or_false,not_or] at n1;refine⟨⟨ub,jm,by rw[aH (bq ha hb (by simp[kindOf]))];exact ha,Is.upd nx hub,Is.upd nx hjm⟩,h.Ei (bq h.pl hb (by simp[kindOf])),h.uc nx d2,h.DM nx d3,h.Fc nx (bq hba hb (by simp[kindOf])),
  ⟨?_,?_⟩,h.Ez nx (bq h.no.1 hb (by simp[kindOf])) hns,h.Ef nx (bq hre hb (by simp[kindOf])),?_,h.dd⟩
 ·show L2.upd H o.ho _ o.ho=some (HO.dK (((S.holds++[((pn,[]):Str×List (Int×Str))]).map fun x:Str×List (Int×Str)=>kS x.1).zip ((o.hs++[q]).map V.ref)))
  rw[aC,tH (by rw[za];exact ll.symm) (by rw[em];exact xU fr),zk,zk];rfl
 ·show cy _ Kp ((S.holds++[((pn,[]):Str×List (Int×Str))]).map fun x:Str×List (Int×Str)=>x.2) (o.hs++[q])
  rw[zk];exact cy.snoc (vs:=[]) (by rw[aH (bq hq hb (by simp[kindOf]))];exact hq) (by show aE _ [] [];unfold aE;rfl) (cy.upd nx hhs h.ho.2)
 ·refine Nd.to ⟨d.pb,d.pr,?_,d.pn,d.br,?_,d.bn,?_,d.rn,?_,d.nn,?_⟩
  ·show o.pl∉o.hs++[q]
   rw[zG,zA];rintro(z | z)
   ·exact d.ph z
   ·exact n1.1 z.symm
  ·show o.ba∉o.hs++[q]
   rw[zG,zA];rintro(z | z)
   ·exact d.bh z
   ·exact n1.2.1 z.symm
  ·show o.re∉o.hs++[q]
   rw[zG,zA];rintro(z | z)
   ·exact d.rh z
   ·exact n1.2.2 z.symm
  ·show(o.hs++[q]).Nodup
   rw[zT];exact⟨d.hh,by simp,fun x hx y hy e=>by rw[zA] at hy;subst hy;subst e;exact n2 hx⟩
  ·intro x hx z
   have hx':x∈o.hs++[q]:=hx;rw[zG,zA] at hx';rcases hx' with hx' | hx'
   ·exact d.hn x hx' z
   ·subst hx';exact n3 z
def bZ.pO (h:bZ C H a S o) {pn:Str} (nk:(S.holds.map (·.1)).Nodup) (hm:pn∈S.holds.map (·.1)) :
  ∃x vs,dm ((S.holds.map fun x=>kS x.1).zip (o.hs.map V.ref)) (kS pn)=some (.ref x)/\x∈o.hs/\H x=some (.lst vs)/\∀y b i,Is H (Kp (b,i)) y->bZ C (L2.upd H x (.lst (vs++[y]))) a (bS S (.holds pn b i)) o:=by
 have d:=Nd.of h.nd;obtain⟨x,vs,e1,e2,e3,e4⟩:=De pn h.ho.2 d.hh nk hm;refine⟨x,vs,e1,e2,e3,fun y b i iy=>?_⟩;have nx:cM (H x):=by rw[e3];exact fun _ z=>by cases z
 obtain⟨ub,jm,ha,hub,hjm⟩:=h.obj;obtain⟨_,hi,_⟩:=h.ins;obtain⟨_,hs,_⟩:=h.st;have ea:bS S (.holds pn b i)={S with holds:=S.holds.map fun q:Str×List (Int×Str)=>if q.1=pn then(q.1,q.2++[(b,i)]) else q}:=by
  show({S with holds:=fw S.holds pn (b,i)}:cB)=_;unfold fw;rw[if_pos hm]
 rw[ea];refine⟨h.C5 nx (bq ha e3 (by simp[kindOf])),h.Ei (fun z=>d.ph (by rw[z];exact e2)),h.uc nx (bq hi e3 (by simp[kindOf])),h.DM nx (bq hs e3 (by simp[kindOf])),h.Fc nx (fun z=>d.bh (by rw[z];exact e2)),
  ⟨?_,e4 y (b,i) (Is.upd nx iy)⟩,h.Ez nx (bq h.no.1 e3 (by simp[kindOf])) (d.hn x e2),h.Ef nx (fun z=>d.rh (by rw[z];exact e2)),h.nd,h.dd⟩
 rw[aH (bq h.ho.1 e3 (by simp[kindOf])),h.ho.1];show _=some (HO.dK (((S.holds.map fun q:Str×List (Int×Str)=>if q.1=pn then(q.1,q.2++[(b,i)]) else q).map fun x:Str×List (Int×Str)=>kS x.1).zip _));rw[zB];have:(S.holds.map fun x:Str×List (Int×Str)=>kS x.1)=S.holds.map ((fun x:Str×List (Int×Str)=>kS x.1)∘fun q:Str×List (Int×Str)=>if q.1=pn then(q.1,q.2++[(b,i)]) else q):=by
  refine List.map_congr_left fun q _=>?_;show kS q.1=kS (if q.1=pn then((q.1,q.2++[(b,i)]):Str×List (Int×Str)) else q).1;split <;> rfl
 rw[this]
end
end Sc
namespace L2
open PySem PySem.Spec PyProof.Rows
noncomputable def noStar:Expr->Bool
 | .Starred ..=>false
 | _=>true
def pG (h:noStar e=true):starEach (e::es) env=(false,eval e env)::starEach es env:=by
 cases e <;> first | rfl | (simp[noStar] at h)
def aa (ha:PE X e te) (hr:PA X es t) (hs:noStar e=true<|>qe_):PA X (e::es) (bX te t):=ah ha hr (pG hs)
end L2
namespace Sc
open PySem L2 Lm
def mT (F:Nat->Dt) (Pσ:St->Prop) (hn:n<=sizeLine) (h0:Pσ σ₀)
  (turn:∀(i:Nat) (σ:St) (H:Hp) (R:St->V->Hp->Prop),i<n->aB H1 H->Pσ σ->(∀σ3 y H5,aB H H5->Is H5 (F i) y->Pσ σ3->R σ3 y H5)->g (.int (lo+i)) σ H fun σ3 H3=>te σ3 H3 fun y H5=>R σ3 y H5)
  (fin:∀D vs H,aB H1 H->H1 D=none->H D=some (.lst vs)->aE H ((List.range n).map F) vs->Q (.ref D) H):dR σ₀ g wH te Q (Oh lo n) H1:=by
 refine pB (ws:=List.range n) (enc:=fun i=>.int (lo+(i:Nat))) F Pσ (by rw[zR];exact hn) h0 (fun i H hi _=>by rw[zR] at hi;exact hi) (fun H _=>by rw[zR];exact zm _) ?_ ?_ fin
 ·rintro i x H H2 hi _ ⟨rfl,rfl⟩
  exact⟨rfl,by rw[List.getElem_range]⟩
 ·intro i σ H R hi s p r
  exact turn i σ H R (List.mem_range.mp hi) s p r
def eG {c:Bool} {T:(Bool->Hp->Prop)->Prop} {Z:Bool->Hp->Prop} {H:Hp} (v:Bool) (h1:c=true->∀Z,Z v H->T Z) (h2:c=false->v=false) (hz:Z v H):if c=true then T Z else Z false H:=by
 cases c with
 | true=>rw[if_pos rfl];exact h1 rfl Z hz
 | false=>rw[if_neg (by simp)];rw[<-h2 rfl];exact hz
def FR:List (Int×Int)->TA
 | []=>eV
 | p::r=>bX (FQ (bX (tC (.int p.1)) (bX (tC (.int p.2)) eV))) (FR r)
theorem M6:∀{ps:List (Int×Int)} {H:Hp} {R:List V->Hp->Prop},(∀vs H',aB H H'->aE H' (ps.map dL) vs->R vs H')->FR ps σ H R
 | [],H,R,h=>h [] H (aB.refl _) cO
 | p::r,H,R,h=>by
  have sl:=yC;refine⟨by show 2<=sizeLine;omega,fun q hq=>?_⟩;refine M6 fun vs H' s' il=>?_;have s1:=aS (o:=HO.tup [.int p.1,.int p.2]) hq;exact h _ _ (s1.trans s') (aQ (jh (s' _ _ aC)) il)
def Tj (ps:List (Int×Int)):TE:=fun _ H Q=>∀D vs H',aB H H'->H' D=some (.lst vs)->aE H' (ps.map dL) vs->Q (.ref D) H'
def Pa (hl:ps.length<=1000) (h:Tj ps σ H Q):FT (FR ps) σ H Q:=by
 have sl:=yC;refine M6 fun vs H' s' il=>⟨by have:=aT il;omega,fun D hD=>?_⟩
 exact h D vs _ (s'.trans (aS hD)) aC (il.mono (aS hD))
def Q3:PA X [] (FR []):=af
def Sr (h:PA X es (FR r)):PA X (.Tuple [.Constant (.int a) x1 p1,.Constant (.int b) x2 p2] k pos::es) (FR ((a,b)::r)):=
 ah (bG (ah ae (ah ae af (pG rfl)) (pG rfl))) h (pG rfl)
def QZ (h:PA X es (FR ps)) (hl:ps.length<=1000<|>qb_):PE X (.List es pos) (Tj ps):=by
 intro pins s σ H Q I hq;exact bB h pins s σ H Q I (Pa hl hq)
def uo (h:xs[xs.length-1]?=some x):DA xs (-1)=some x:=by
 have hp:0<xs.length:=by
  have:=(zy.mp h).1;omega
 have ne:xs≠[]:=yr.mp hp;have e:=List.dropLast_concat_getLast ne;have e2:xs.getLast ne=x:=by
  have:=(zy.mp h).2;rw[List.getLast_eq_getElem];exact this
 rw[<-e,e2];exact L2.Bh _ _
theorem AH:∀l:List Str,aE H (l.map Dt.str) (l.map V.str)
 | []=>cO
 | x::r=>aQ e9 (AH r)
def xK (h:Is H (l8 b) v):∃a m q,v=.ref a/\H a=some (.tup [m,.int b.key,.ref q])/\Is H (dL b.aU) m/\H q=some (.tup (b.marks.map V.str)):=by
 unfold l8 Is at h;obtain⟨a,vs,rfl,ha,hl⟩:=h;unfold aE at hl;obtain⟨v1,r1,rfl,h1,hl⟩:=hl;unfold aE at hl;obtain⟨v2,r2,rfl,h2,hl⟩:=hl;unfold aE at hl;obtain⟨v3,r3,rfl,h3,hl⟩:=hl;unfold aE at hl;subst hl;unfold Is at h2;subst h2;unfold og Is at h3;obtain⟨q,us,rfl,hq,hle⟩:=h3;rw[d4 hle] at hq;exact⟨a,v1,q,rfl,ha,h1,hq⟩
noncomputable def lets:Str:="abcdefghijklmnopqrstuvwxyz"
def Nv:∀j:Fin 26,lets.cps.toList[j.val]?=some (97+j.val):=by decide
def Kc (h0:0<=i) (h:i<26):DA lets.cps.toList i=some (97+i.toNat):=by
 obtain⟨j,rfl⟩:=yL h0;exact bE (Nv ⟨j,nofun⟩)
def OK:∀j:Fin 36,(lets ++"0123456789").cps.toList[j.val]?=some (sgn.getD j.val 0)/\sgn.getD j.val 0∈sgn:=by decide
def QN (h0:0<=i) (h:i<36):∃c,c∈sgn/\DA (lets ++"0123456789").cps.toList i=some c:=by
 obtain⟨j,rfl⟩:=yL h0;have:=OK ⟨j,nofun⟩;exact⟨_,this.2,bE this.1⟩
noncomputable def OL (i:Int):Nat:=(DA (lets ++"0123456789").cps.toList i).getD 0
def MI (h0:0<=i) (h:i<36):DA (lets ++"0123456789").cps.toList i=some (OL i)/\OL i∈sgn:=by
 obtain⟨c,h1,h2⟩:=QN h0 h;unfold OL;rw[h2];exact⟨rfl,h1⟩
def Kd:∀j:Fin 26,97+j.val∈sgn:=by decide
def Nw {i:Int} (h0:0<=i) (h:i<26):97+i.toNat∈sgn:=Kd ⟨i.toNat,nofun⟩
def P8 (h1:1<=n.length) (h2:n.length<=12) (h3:∀c∈n.cps.toList,c∈sgn):gH n:=by
 unfold gH cP;rw[if_neg nofun,if_neg nofun,if_pos (yp.mpr fun c hc=>zg (h3 c hc))]
def Bz (ns:List Str):Prop:=(∀n∈ns,gH n)/\ns.Nodup
theorem ve:∀{l:List α},l.Nodup->(∀x∈l,∀y∈l,f x=f y->x=y)->(l.map f).Nodup
 | [],_,_=>List.nodup_nil
 | x::r,h,k=>by
  rw[yd] at h;rw[zj,yd];refine⟨fun z=>?_,ve h.2 fun a ha b hb e=>k a (zp _ ha) b (zp _ hb) e⟩;obtain⟨y,hy,e⟩:=zH.mp z;have:=k y (zp _ hy) x zr e;subst this;exact h.1 hy
def Lf (hm:m<=12) (hc:c∈sgn):Bz ((List.range m).map fun k=>rC ⟨#[c]⟩ (m-k)):=by
 have el:∀k,(rC ⟨#[c]⟩ k).length=k:=fun k=>by rw[Gi];exact Nat.mul_one k
 refine⟨fun n hn=>?_,ve List.nodup_range fun x hx y hy e=>?_⟩
 ·obtain⟨k,hk,rfl⟩:=zH.mp hn
  have:=List.mem_range.mp hk;refine P8 (by rw[el];omega) (by rw[el];omega) fun d hd=>?_;rw[tD] at hd;obtain⟨l,hl,hd⟩:=List.mem_flatten.mp hd;rw[List.mem_replicate] at hl;rw[hl.2] at hd;have:d=c:=by simpa using hd
  rw[this];exact hc
 ·have:=congrArg Str.length e
  rw[el,el] at this;have:=List.mem_range.mp hx;have:=List.mem_range.mp hy;omega
def IV {stem:Str} {pl first m:Nat} (hs:stem.length<=11) (hp:pl<=stem.length) (hc:∀c∈stem.cps.toList,c∈sgn) (hm:m<=26) :
  Bz ((List.range m).map fun k=>Txt.slice stem none (some (pl:Int))++⟨#[97+(first+5*k)%26]⟩++Txt.slice stem (some (pl:Int)) none):=by
 have sl:stem.cps.toList.length=stem.length:=Array.length_toList;have cp:∀k,(Txt.slice stem none (some (pl:Int))++⟨#[97+(first+5*k)%26]⟩++Txt.slice stem (some (pl:Int)) none).cps.toList=stem.cps.toList.take pl++[97+(first+5*k)%26]++stem.cps.toList.drop pl:=fun k=>by
  rw[cL,cL,F5 stem hp,q9 stem hp]
 refine⟨fun n hn=>?_,ve List.nodup_range fun x hx y hy e=>?_⟩
 ·obtain⟨k,hk,rfl⟩:=zH.mp hn
  have el:(Txt.slice stem none (some (pl:Int))++⟨#[97+(first+5*k)%26]⟩++Txt.slice stem (some (pl:Int)) none).length=stem.length+1:=by
   rw[<-show _=(Txt.slice stem none (some (pl:Int))++⟨#[97+(first+5*k)%26]⟩++Txt.slice stem (some (pl:Int)) none).length from Array.length_toList,cp,zh,zh,zQ,List.length_drop,List.length_singleton];omega
  refine P8 nofun nofun fun d hd=>?_;rw[cp,zG,zG,zA] at hd;rcases hd with(hd | hd) | hd
  ·exact hc d (List.mem_of_mem_take hd)
  ·rw[hd];exact Kd ⟨(first+5*k)%26,Nat.mod_lt _ ∅⟩
  ·exact hc d (List.mem_of_mem_drop hd)
 ·have q:(Txt.slice stem none (some (pl:Int))++⟨#[97+(first+5*x)%26]⟩++Txt.slice stem (some (pl:Int)) none).cps.toList=(Txt.slice stem none (some (pl:Int))++⟨#[97+(first+5*y)%26]⟩++Txt.slice stem (some (pl:Int)) none).cps.toList:=by rw[e]
  rw[cp,cp,zF,zF] at q;have q2:=List.append_cancel_left q;simp at q2;have:=List.mem_range.mp hx;have:=List.mem_range.mp hy;omega
theorem tY:∀zs:List Str,(Str.join "" zs).cps.toList=(zs.map fun z:Str=>z.cps.toList).flatten
 | []=>rfl
 | [z]=>by rw[join_one];simp
 | z::y::r=>by
  rw[fo,cL,cL,tY (y::r)];show z.cps.toList++[]++_=_;rw[zV];rfl
noncomputable def oE (c:Int) (n:Nat):List Str:=(List.range n).map fun k=>⟨#[OL ((c/16224+7*(0+(k:Nat)))%36)]⟩
theorem G8 (f:α->β):∀l:List α,((l.map f).map fun x=>[x]).flatten=l.map f
 | []=>rfl
 | x::r=>by rw[zj,zj,ya,G8 f r];rfl
def FV (c:Int) (n:Nat):(Str.join "" (oE c n)).cps.toList=(List.range n).map fun k:Nat=>OL ((c/16224+7*(0+(k:Nat)))%36):=by
 rw[tY];unfold oE;rw[zB];have:=G8 (fun k:Nat=>OL ((c/16224+7*(0+(k:Nat)))%36)) (List.range n);rw[zB] at this;exact this
def ME (c:Int) (n:Nat):(Str.join "" (oE c n)).length=n:=by
 rw[<-show _=(Str.join "" (oE c n)).length from Array.length_toList,FV,za,zR]
def MD:∀d∈(Str.join "" (oE c n)).cps.toList,d∈sgn:=fun d hd=>by
 rw[FV] at hd;obtain⟨k,_,rfl⟩:=zH.mp hd;exact(MI (zw _ ∅) (zt _ ∅)).2
def MC (c:Int) (n:Nat):((oE c n).map (fun z:Str=>z.length+("": Str).length)).sum=n:=by
 unfold oE;rw[zB];have:((fun z:Str=>z.length+("": Str).length)∘fun k:Nat=>(⟨#[OL ((c/16224+7*(0+(k:Nat)))%36)]⟩:Str))=fun _=>1:=rfl;rw[this,List.map_const',List.sum_replicate_nat,zR,Nat.mul_one]
end Sc
namespace Sc
open PySem L2 Lm
def bM (n:H D=none) (s:aB H H2):aB H (L2.upd H2 D u):=fun b v hb=>by
 rw[aH (fun z=>by rw[z,n] at hb;cases hb)];exact s b v hb
def Fx (its:List Item) (x:Int×Int):Prop:=its.length<=40/\(∀it∈its,L5 it)/\kR its=x/\its.all (fun it=>it.1.isNone)=false
def Ia (x:Int×Int):Prop:=Lm.Rd x/\0<x.1/\x.1<=32/\x.2<=160
def Iv (l:List Item) (it:Item):kR (l++[it])=add (kR l) it.2:=by unfold kR;rw[zY];rfl
def My {x:Int×Int} (hx:0<x.2) {W:Int} (hW:0<W) {l:List Item} {t w:Int} {it:Item} (h:kR l=red (x.1*t) (x.2*W)) (e:it.2=red (x.1*w) (x.2*W)):kR (l++[it])=red (x.1*(t+w)) (x.2*W):=by
 have hb:0<x.2*W:=Int.mul_pos hx hW;rw[Iv,h,e,PB hb hb,<-mD hb hb (t:=x.1*(t+w))]
 congr 1
 rw[<-Int.add_mul,<-Int.mul_add,Int.mul_comm]
def Mz {x:Int×Int} (hx:0<x.2) {W:Int} (hW:0<W):kR []=red (x.1*0) (x.2*W):=by
 have hb:0<x.2*W:=Int.mul_pos hx hW;show((0,1):Int×Int)=_;rw[Int.mul_zero];have:=mD (t:=0) (b:=1) (k:=x.2*W) hb ∅;rw[Int.mul_zero,Int.mul_one] at this;rw[this];decide
def KS (hx:Lm.Rd x) (hW:0<W):red (x.1*W) (x.2*W)=x:=by
 obtain⟨_,p2,p3⟩:=hx.pos;rw[Int.mul_comm x.1,Int.mul_comm x.2,mD hW p2,p3]
def Nt (h:Ia x) (w1:1<=w) (w2:w<=4) (W1:1<=W) (W2:W<=24):Ov (red (x.1*w) (x.2*W)):=by
 obtain⟨hr,h1,h2,h3⟩:=h;obtain⟨_,p2,_⟩:=hr.pos;have a1:0<x.1*w:=Int.mul_pos h1 nofun;have a2:x.1*w<=32*4:=Int.mul_le_mul h2 w2 nofun ∅;have b1:0<x.2*W:=Int.mul_pos p2 nofun;have b2:x.2*W<=160*24:=Int.mul_le_mul h3 W2 nofun ∅;obtain⟨g,g1,g2,g3,g4,g5⟩:=jO (t:=x.1*w) b1;have r1:=Al (t:=x.1*w) (b:=x.2*W) (Int.le_of_lt a1);refine⟨Lm.Rd.of (Int.le_of_lt a1) b1,?_,nofun,nofun⟩;have r0:=Ak (t:=x.1*w) (b:=x.2*W) (Int.le_of_lt a1);rcases Int.lt_or_eq_of_le r0 with z | z
 ·exact z
 ·rw[<-z,Int.mul_zero] at g2;omega
noncomputable def uC (m:Int) (n:Nat):List Int:=(List.range n).map fun j=>1+m/(7+5*(0+(j:Nat)))%4
def Oy (m:Int) (n:Nat):(uC m n).length=n:=by unfold uC;rw[za,zR]
def Ij (h:w∈uC m n):1<=w/\w<=4:=by
 unfold uC at h;obtain⟨j,_,rfl⟩:=zH.mp h;have a:=zw (m/(7+5*(0+(j:Int)))) (b:=4) ∅;have b:=zt (m/(7+5*(0+(j:Int)))) (b:=4) ∅;omega
theorem MA:∀{l:List Int},(∀w∈l,1<=w/\w<=4)->(l.length:Int)<=l.sum/\l.sum<=4*l.length
 | [],_=>by simp
 | w::r,h=>by
  have ih:=MA (l:=r) fun z hz=>h z (zp _ hz);have:=h w zr;rw[List.sum_cons,zv];omega
def K9 (m:Int):Og (m%41-20,7*(m%41-20)%12+(m/41%14-7)*12):=by
 have a:=zw m (b:=41) ∅;have b:=zt m (b:=41) ∅;have c:=zw (m/41) (b:=14) ∅;have d:=zt (m/41) (b:=14) ∅;unfold Og;dsimp only;omega
def join {c:Bool} {t1 t2:TS} {D:Ends} {σ:St} {H:Hp} (P:St->Hp->Prop) (ha:∀N:St->Hp->Prop,(∀σ H,P σ H->N σ H)->c=true->t1 {D with nx:=N} σ H)
  (hb:∀N:St->Hp->Prop,(∀σ H,P σ H->N σ H)->c=false->t2 {D with nx:=N} σ H) (hN:∀σ H,P σ H->D.nx σ H):if c=true then t1 D σ H else t2 D σ H:=by
 cases c with
 | true=>rw[if_pos rfl];exact ha D.nx hN rfl
 | false=>rw[if_neg (by simp)];exact hb D.nx hN rfl
def RL (R:α->V->Prop):List α->List V->Prop
 | [],vs=>vs=[]
 | x::xs,vs=>∃v r,vs=v::r/\R x v/\RL R xs r
theorem RL.imp {α:Type} {R R':α->V->Prop} (h:∀x v,R x v->R' x v):∀{xs:List α} {vs:List V},RL R xs vs->RL R' xs vs
 | [],_,e=>e
 | _::_,_,⟨v,r,e,h1,h2⟩=>⟨v,r,e,h _ _ h1,RL.imp h h2⟩
theorem RL.snoc {α:Type} {R:α->V->Prop} {x:α} {v:V} (h:R x v):∀{xs:List α} {vs:List V},RL R xs vs->RL R (xs++[x]) (vs++[v])
 | [],_,e=>by unfold RL at e;subst e;exact⟨v,[],rfl,h,rfl⟩
 | _::_,_,⟨u,r,e,h1,h2⟩=>by subst e;exact⟨u,r++[v],rfl,h1,RL.snoc h h2⟩
theorem RL.len:∀{xs:List α} {vs:List V},RL R xs vs->vs.length=xs.length
 | [],_,e=>by unfold RL at e;rw[e];rfl
 | _::_,_,⟨u,r,e,_,h2⟩=>by rw[e,zv,zv,RL.len h2]
theorem RL.at:∀{xs:List α} {vs:List V} {i:Nat} {v:V},RL R xs vs->vs[i]?=some v->∃x,xs[i]?=some x/\R x v
 | [],_,_,_,e,h=>by unfold RL at e;subst e;simp at h
 | x::_,_,0,_,⟨u,r,e,h1,_⟩,h=>by subst e;simp at h;subst h;exact⟨x,rfl,h1⟩
 | _::_,_,i+1,_,⟨u,r,e,_,h2⟩,h=>by subst e;simpa using RL.at (i:=i) h2 (by simpa using h)
def ke (D:Addr) (H:Hp) (x:Str×List (Int×Str)) (v:V):Prop:=∃a r us,v=.ref a/\H a=some (.tup [.str x.1,.ref r])/\H r=some (.lst us)/\aE H (x.2.map Kp) us/\r≠D
theorem ke.mono (s:aB H H') (h:ke D H x v):ke D H' x v:=by
 obtain⟨a,r,us,h1,h2,h3,h4,h5⟩:=h;exact⟨a,r,us,h1,s _ _ h2,s _ _ h3,h4.mono s,h5⟩
theorem ke.upd (hD:H D=some (.lst vs)) (h:ke D H x v):ke D (L2.upd H D o) x v:=by
 obtain⟨a,r,us,h1,h2,h3,h4,h5⟩:=h;have nt:cM (H D):=by rw[hD];exact fun _ z=>by cases z
 exact⟨a,r,us,h1,by rw[aH (Sc.bq h2 hD (by simp[kindOf]))];exact h2,by rw[aH h5];exact h3,aE.upd nt h4,h5⟩
def iW (D:Addr) (H:Hp) (x:(Int×Str)×List Item) (v:V):Prop:=∃a q us,v=.ref a/\H a=some (.tup [.int x.1.1,.str x.1.2,.ref q])/\H q=some (.lst us)/\aE H (x.2.map fe) us/\q≠D
theorem iW.mono (s:aB H H') (h:iW D H x v):iW D H' x v:=by
 obtain⟨a,r,us,h1,h2,h3,h4,h5⟩:=h;exact⟨a,r,us,h1,s _ _ h2,s _ _ h3,h4.mono s,h5⟩
theorem iW.upd (hD:H D=some (.lst vs)) (h:iW D H x v):iW D (L2.upd H D o) x v:=by
 obtain⟨a,r,us,h1,h2,h3,h4,h5⟩:=h;have nt:cM (H D):=by rw[hD];exact fun _ z=>by cases z
 exact⟨a,r,us,h1,by rw[aH (Sc.bq h2 hD (by simp[kindOf]))];exact h2,by rw[aH h5];exact h3,aE.upd nt h4,h5⟩
def Kw (ins:List Str) (many:Int) (row:List (Int×Str)):Prop:=row≠[]/\row.length<=4/\(row.map (·.1)).Pairwise (·<·)/\∀h∈row,0<=h.1/\h.1<many/\h.2∈ins
noncomputable def eU (S:cB):List Told:=
 S.players.map .bN++(S.ao.map fun x=>.cQ x.1 x.2.1 x.2.2)++(S.aM.map fun x=>.cC x.1 x.2)++S.aO.map .bar++S.aI.toList.map .aI ++
 (S.holds.map fun x=>x.2.map fun h=>Told.holds x.1 h.1 h.2).flatten++(S.aK.map fun x=>.aK x.1.1 x.1.2 x.2)++(S.repeats.map .rep++S.b9.toList.map .b9)
structure BA (H:Hp) (p:Addr) (S:cB):Prop where
 at':∃pl il sl bl hl nl rl:Addr,∃ub jm:V,∃iv sv bv hv nv rv:List V,H p=some (.tup [.ref pl,.ref il,.ref sl,.ref bl,ub,.ref hl,.ref nl,.ref rl,jm])/\H pl=some (.lst (S.players.map V.str))/\
  (H il=some (.lst iv)/\aE H (S.ao.map eK) iv)/\(H sl=some (.lst sv)/\aE H (S.aM.map gQ) sv)/\(H bl=some (.lst bv)/\aE H (S.aO.map l8) bv)/\Is H (dO dL S.aI) ub/\
  (H hl=some (.lst hv)/\RL (ke hl H) S.holds hv)/\(H nl=some (.lst nv)/\RL (iW nl H) S.aK nv)/\(H rl=some (.lst rv)/\aE H (S.repeats.map iK) rv)/\Is H (dO jZ S.b9) jm
theorem BA.mono (s:aB H H') (h:BA H p S):BA H' p S:=by
 obtain⟨pl,il,sl,bl,hl,nl,rl,ub,jm,iv,sv,bv,hv,nv,rv,h1,h2,h3,h4,h5,h6,h7,h8,h9,ha⟩:=h.at';exact⟨⟨pl,il,sl,bl,hl,nl,rl,ub,jm,iv,sv,bv,hv,nv,rv,s _ _ h1,s _ _ h2,⟨s _ _ h3.1,h3.2.mono s⟩,⟨s _ _ h4.1,h4.2.mono s⟩,⟨s _ _ h5.1,h5.2.mono s⟩,h6.mono s,⟨s _ _ h7.1,h7.2.imp fun x v z=>z.mono s⟩,⟨s _ _ h8.1,h8.2.imp fun x v z=>z.mono s⟩,⟨s _ _ h9.1,h9.2.mono s⟩,ha.mono s⟩⟩
def bz (h1:-10000<n) (h2:n<10000):(dec n).length<=5:=by
 by_cases h:0<=n
 ·have:=Ho h h2;omega
 ·rw[xQ nofun,len_app]
  have:=Ho (n:=-n) nofun nofun;have:("-": Str).length=1:=rfl;omega
def bU (h1:-10000<n) (h2:n<10000):n.natAbs.log2<1920:=by
 by_cases z:n.natAbs=0
 ·rw[z];decide
 ·exact yc ((Nat.log2_lt z).mpr (show n.natAbs<2^14 by omega)) ∅
def lV (h1:-10000<x.1) (h2:x.1<10000) (h3:-10000<x.2) (h4:x.2<10000):(jg x).length<=11:=by
 unfold jg;have a:=bz h1 h2;have b:=bz h3 h4;split
 ·omega
 ·rw[len_app,len_app]
  have:("/": Str).length=1:=rfl;omega
def Lp (h:L5 it):(rO it).length<=30:=by
 obtain⟨o,x⟩:=it;obtain⟨⟨hr,h1,h2,h3⟩,hq⟩:=h;obtain⟨_,p2,_⟩:=hr.pos;dsimp only at h1 h2 h3 p2 hq;have lx:=lV (x:=x) nofun h2 nofun h3;cases o with
 | none=>
  show("r:" ++ jg x).length<=30;rw[len_app];have:("r:": Str).length=2:=rfl;omega
 | some q=>
  obtain⟨q1,q2,q3,q4,_⟩:=hq q rfl;have a:=bz (n:=q.1) nofun nofun;have b:=bz (n:=q.2) nofun nofun;show(dec q.1 ++":" ++ dec q.2 ++":" ++ jg x).length<=30;rw[len_app,len_app,len_app,len_app];have:(":": Str).length=1:=rfl;omega
theorem qV {sep:Str} {k:Nat}:∀{zs:List Str},(∀z∈zs,z.length<=k)->(zs.map (fun z:Str=>z.length+sep.length)).sum<=zs.length*(k+sep.length)
 | [],_=>by simp
 | z::r,h=>by
  have ih:=qV (sep:=sep) (zs:=r) fun y hy=>h y (zp _ hy);have:=h z zr;rw[zj,List.sum_cons,zv,Nat.succ_mul];omega
theorem join_le (sep:Str):∀zs:List Str,(Str.join sep zs).length<=(zs.map (fun z:Str=>z.length+sep.length)).sum
 | []=>zm _
 | [z]=>by rw[join_one];simp
 | z::y::r=>by
  have ih:=join_le sep (y::r);rw[fo,len_app,len_app,zj,List.sum_cons];omega
def AG (h:∀z∈zs,z.length<=k):(Str.join sep zs).length<=zs.length*(k+sep.length):=zM (join_le sep zs) (qV h)
def L3 (r:Rep):Prop:=Qg (.rep r)/\r.ends.length<=9/\∀e∈r.ends,e.2.length<=9
def Hi (h:UN e) (hl:e.2.length<=9):(qp e).length<=60:=by
 obtain⟨h1,h2,h3,h4⟩:=h;have a:=bz (n:=e.1) nofun nofun;have b:(Str.join "," (e.2.map dec)).length<=(e.2.map dec).length*(5+(",": Str).length):=AG fun z hz=>by
  obtain⟨p,hp,rfl⟩:=zH.mp hz;have:=h4 p hp;exact bz nofun nofun
 have l1:(":": Str).length=1:=rfl;have l2:(",": Str).length=1:=rfl;rw[za,l2] at b;unfold qp;rw[len_app,len_app];omega
def J3 (h1:ns.Perm l) (h2:ns.Pairwise (·<=·)):sortI l=ns:=by
 unfold sortI;refine(List.Perm.eq_of_pairwise (le:=fun a b:Int=>a<=b) (fun a b _ _ x y=>Int.le_antisymm x y) h2 ?_ (h1.trans (List.mergeSort_perm _ _).symm)).symm;have:=List.pairwise_mergeSort (le:=fun a b:Int=>decide (a<=b)) (fun a b c x y=>by simp at x y ⊢;omega) (fun a b=>by simp;omega) l;exact this.imp fun h=>ye h
theorem AQ:∀{es:List End} {a:Int} {ps:List Int},(es.map (·.1)).Pairwise (·<·)->(∀e∈es,a<e.1)->(∀e∈es,e.2.Pairwise (·<=·))->gy es a ps=some (((es.map (·.1)).getLast?).getD a,ps++(es.map (·.2)).flatten)
 | [],a,ps,_,_,_=>by simp[gy]
 | e::r,a,ps,h1,h2,h3=>by
  rw[zj,List.pairwise_cons] at h1;have ih:=AQ (es:=r) (a:=e.1) (ps:=ps++e.2) h1.2 (fun x hx=>h1.1 _ (zP (f:=fun y:End=>y.1) hx)) (fun x hx=>h3 x (zp _ hx));show(if e.1<=a then none else if e.2≠sortI e.2 then none else gy r e.1 (ps++e.2))=_;have c1:=h2 e zr;rw[if_neg nofun,if_neg (fun z=>z (J3 (List.Perm.refl _) (h3 e zr)).symm),ih,zj,zj,ya,zF]
  congr 2
  cases r with
  | nil=>rfl
  | cons x t=>rw[zj,List.getLast?_cons_cons,List.getLast?_cons];rfl
theorem G7:∀{n:Nat},k<n->((List.range n).map fun i=>if i=k then g i++[x] else g i).flatten.Perm (((List.range n).map g).flatten++[x])
 | 0,h=>nofun
 | n+1,h=>by
  rw[List.range_succ,zk,zk,List.flatten_append,List.flatten_append];simp only[zj,yn,ya,List.flatten_nil,zV]
  by_cases e:n=k
  ·rw[if_pos e,<-zF]
   have:((List.range n).map fun i=>if i=k then g i++[x] else g i)=(List.range n).map g:=List.map_congr_left fun i hi=>by
    have:=List.mem_range.mp hi;rw[if_neg nofun]
   rw[this]
  ·rw[if_neg e]
   have ih:=G7 (g:=g) (x:=x) (k:=k) (n:=n) nofun;refine(ih.append_right _).trans ?_;rw[zF,zF];exact List.Perm.append_left _ (List.perm_append_comm)
noncomputable def cV (sp:Nat->Nat):Nat->Nat->List Int
 | 0,_=>[]
 | k+1,i=>if i=sp k then cV sp k i++[(k:Int)+1] else cV sp k i
theorem tM:∀{k:Nat},p∈cV sp k i->∃j,j<k/\p=(j:Int)+1/\i=sp j
 | 0,h=>by cases h
 | k+1,h=>by
  unfold cV at h;split at h
  ·rename_i e
   rcases zG.mp h with h | h
   ·obtain⟨j,h1,h2⟩:=tM h
    exact⟨j,nofun,h2⟩
   ·exact⟨k,nofun,by simpa using h,e⟩
  ·obtain⟨j,h1,h2⟩:=tM h
   exact⟨j,nofun,h2⟩
theorem As:∀{k:Nat},(cV sp k i).Pairwise (·<=·)
 | 0=>List.Pairwise.nil
 | k+1=>by
  unfold cV;split
  ·rw[zU]
   refine⟨As,by simp,fun a ha b hb=>?_⟩;obtain⟨j,h1,h2,_⟩:=tM ha;have:b=(k:Int)+1:=by simpa using hb
   omega
  ·exact As
theorem Gy (e:i=sp j):∀{k:Nat},j<k->((j:Int)+1)∈cV sp k i
 | 0,h=>nofun
 | k+1,h=>by
  unfold cV
  by_cases c:j=k
  ·subst c
   rw[if_pos e];exact zI _ (zA.mpr rfl)
  ·have ih:=Gy e (k:=k) nofun
   split
   ·exact zJ _ ih
   ·exact ih
theorem Ar:∀{k:Nat},(cV sp k i).length<=k
 | 0=>zm _
 | k+1=>by
  have ih:=Ar (sp:=sp) (i:=i) (k:=k);unfold cV;split
  ·rw[zh];simp;omega
  ·omega
theorem C1:∀{k:Nat},(∀j,j<k->sp j<n)->((List.range n).map (cV sp k)).flatten.Perm (K5 1 k)
 | 0,_=>by
  have:((List.range n).map (cV sp 0)).flatten=[]:=by
   rw[List.flatten_eq_nil_iff];intro l hl;obtain⟨i,_,rfl⟩:=zH.mp hl;rfl
  rw[this];exact List.Perm.refl _
 | k+1,h=>by
  have ih:=C1 (sp:=sp) (n:=n) (k:=k) fun j hj=>h j nofun;have e:(List.range n).map (cV sp (k+1))=(List.range n).map fun i=>if i=sp k then cV sp k i++[(k:Int)+1] else cV sp k i:=List.map_congr_left fun i _=>by rw[cV]
  rw[e];refine(G7 (h k nofun)).trans ?_;unfold K5 at ih ⊢;rw[List.range_succ,zk];refine(ih.append_right _).trans ?_;rw[List.map_singleton,Int.add_comm]
def OP (k:Nat):(K5 1 k).Pairwise (·<=·):=by
 unfold K5;rw[List.pairwise_map];exact(List.pairwise_lt_range).imp fun h=>nofun
noncomputable def uf (bs:List Int) (sp:Nat->Nat) (t:Nat):List End:=bs.zip ((List.range bs.length).map (cV sp t))
theorem FD:∀{a:List α} {b:List β},a.length=b.length->(a.zip b).map (·.1)=a
 | [],[],_=>rfl
 | x::xs,y::ys,h=>by rw[List.zip_cons_cons,zj,FD (by simpa using h)]
 | [],_::_,h=>by simp at h
 | _::_,[],h=>by simp at h
theorem FC:∀{a:List α} {b:List β},a.length=b.length->(a.zip b).map (·.2)=b
 | [],[],_=>rfl
 | x::xs,y::ys,h=>by rw[List.zip_cons_cons,zj,FC (by simpa using h)]
 | [],_::_,h=>by simp at h
 | _::_,[],h=>by simp at h
def lZ:(uf bs sp t).map (·.1)=bs:=FD (by simp)
def vj:(uf bs sp t).map (·.2)=(List.range bs.length).map (cV sp t):=FC (by simp)
def LA:(uf bs sp t).length=bs.length:=by
 have:=congrArg List.length (lZ (bs:=bs) (sp:=sp) (t:=t))
 rwa [za] at this
def vk (h:e∈uf bs sp t):e.1∈bs/\∃i,i<bs.length/\e.2=cV sp t i:=by
 have h1:=zP (f:=fun x:End=>x.1) h;have h2:=zP (f:=fun x:End=>x.2) h;rw[lZ] at h1;rw[vj] at h2;obtain⟨i,hi,e2⟩:=zH.mp h2;exact⟨h1,i,List.mem_range.mp hi,e2.symm⟩
def Kz (first last times:Int) (es:List End):Prop:=gz ⟨first,last,times,es⟩=true/\es.length<=9/\(∀e∈es,first<=e.1/\e.1<=last/\e.2≠[]/\e.2.length<=9/\∀p∈e.2,0<=p/\p<1000)/\((es.map (·.2)).flatten).length<=9/\(es.map (·.1)).Pairwise (·<·)
def Ly:Kz first last times []:=⟨rfl,∅,by simp,by simp,by simp⟩
def Ji (t9:t<=9) (ne:bs≠[]) (asc:bs.Pairwise (·<·)) (hin:∀b∈bs,first<=b/\b<=last) (hsp:∀j,j<t->sp j<bs.length) (hon:∀i,i<bs.length->∃j,j<t/\sp j=i) (bt:bs.length<=t):Kz first last t (uf bs sp t):=by
 have pm:=C1 (k:=t) hsp;have pl:((List.range bs.length).map (cV sp t)).flatten.length=t:=by rw[pm.length_eq];unfold K5;simp
 refine⟨?_,by rw[LA];omega,fun e he=>?_,by rw[vj,pl];exact t9,by rw[lZ];exact asc⟩
 ·have e1:=AQ (es:=uf bs sp t) (a:=first-1) (ps:=[]) (by rw[lZ];exact asc) (fun e he=>by have:=hin _ (vk he).1;omega) (fun e he=>by obtain⟨_,i,_,e2⟩:=vk he;rw[e2];exact As)
  have e2:sortI (([]:List Int)++((uf bs sp t).map (·.2)).flatten)=K5 1 t:=by rw[List.nil_append,vj];exact J3 pm.symm (OP t)
  unfold gz;dsimp only;cases q:uf bs sp t with
  | nil=>rfl
  | cons x r=>
   rw[q] at e1 e2;dsimp only;rw[e1];dsimp only;rw[e2,show((t:Int)+1-1).toNat=t by omega,zg rfl,Bool.and_true,decide_eq_true_eq,<-q,lZ];cases q2:bs.getLast? with
   | none=>exact absurd (List.getLast?_eq_none_iff.mp q2) ne
   | some b=>exact(hin b (List.mem_of_getLast? q2)).2
 ·obtain⟨hb,i,hi,e2⟩:=vk he
  obtain⟨j,hj,ej⟩:=hon i hi;refine⟨(hin _ hb).1,(hin _ hb).2,?_,?_,fun p hp=>?_⟩
  ·rw[e2];exact List.ne_nil_of_mem (Gy ej.symm hj)
  ·rw[e2];have:=Ar (sp:=sp) (i:=i) (k:=t);omega
  ·rw[e2] at hp
   obtain⟨j,h1,h2,_⟩:=tM hp;omega
def OH {n c:Nat} {i:Nat} (hi:i<n):∃j,j<n/\(j+c)%n=i:=by
 refine⟨(i+(n-c%n))%n,Nat.mod_lt _ nofun,?_⟩;have hc:c%n<n:=Nat.mod_lt _ nofun;rw[Nat.add_mod,Nat.mod_mod,<-Nat.add_mod];have e:i+(n-c%n)+c=i+n+n*(c/n):=by
  have:=Nat.div_add_mod c n;omega
 rw[e,Nat.add_mul_mod_self_left,Nat.add_mod_right,Nat.mod_eq_of_lt hi]
def CK (Pv:Nat->St->Hp->Prop) (Pe:St->Hp->Prop) (h0:∃m,Pv m σ H)
  (turn:∀m σ H,Pv m σ H->∀N:St->Hp->Prop,(∀σ H,Pe σ H->N σ H)->c σ H fun b H1=>if b=true then∃N':St->Hp->Prop,(∀σ' H',N' σ' H'->∃m',m'<m/\Pv m' σ' H')/\tb {D with nx:=N',ct:=N',bk:=N} σ H1 else N σ H1)
  (hd:∀σ H,Pe σ H->D.nx σ H):Mu c tb D σ H:=⟨Pv,h0,fun m σ H p=>turn m σ H p D.nx hd⟩
def Ka {c:Bool} {T:(Bool->Hp->Prop)->Prop} {Z:Bool->Hp->Prop} {H:Hp} (v:Bool) (h1:c=false->∀Z,Z v H->T Z) (h2:c=true->v=true) (hz:Z v H):if c=true then Z true H else T Z:=by
 cases c with
 | false=>rw[if_neg (by simp)];exact h1 rfl Z hz
 | true=>rw[if_pos rfl];rw[<-h2 rfl];exact hz
def Jw {K:yB} {α:Type} {t1 t2:Bool} {a b:Addr} {ws:List α} {e1 e2:α->V} {σ₀:St} {g:TG} {te:TE} {Q:VK} {H1:Hp} (F:α->Dt) (Pσ:St->Prop) (hn:ws.length<=sizeLine) (ha:CH t1 K H1 a (ws.map e1)) (hb:CH t2 K H1 b (ws.map e2)) (h0:Pσ σ₀)
  (turn:∀(x:α) (σ:St) (H:Hp) (p:Addr) (R:St->V->Hp->Prop),x∈ws->aB H1 H->H p=some (.tup [e1 x,e2 x])->Pσ σ->(∀σ3 y H5,aB H H5->Is H5 (F x) y->Pσ σ3->R σ3 y H5)->g (.ref p) σ H fun σ3 H3=>te σ3 H3 fun y H5=>R σ3 y H5)
  (fin:∀D vs H,aB H1 H->H1 D=none->H D=some (.lst vs)->aE H (ws.map F) vs->Q (.ref D) H):dR σ₀ g wH te Q (Tx t1 t2 K a b) H1:=by
 refine⟨fun i m xs σ H=>m=ws.length-i/\i<=ws.length/\xs.length=i/\aB H1 H/\aE H ((ws.take i).map F) xs/\Pσ σ,⟨_,rfl,yg _,rfl,aB.refl _,by simp[aE],h0⟩,?_⟩;rintro i m xs σ H ⟨rfl,hi,hx,sm,il,pσ⟩;rcases Nat.lt_or_ge i ws.length with hlt | hge
 ·have g1:(ws.map e1)[i]?=some (e1 ws[i]):=by rw[zK,zd hlt];rfl
  have g2:(ws.map e2)[i]?=some (e2 ws[i]):=by rw[zK,zd hlt];rfl
  refine .inr ⟨⟨_,_,_,_,sm.PZ ha,sm.PZ hb,g1,g2⟩,nofun,?_⟩;rintro x H2 ⟨p,u,v,np,rfl,rfl,hu,hv⟩;have eu:=hu _ (sm.PZ ha);have ev:=hv _ (sm.PZ hb);rw[g1] at eu;rw[g2] at ev;cases eu;cases ev;have s2:aB H (upd H p (.tup [e1 ws[i],e2 ws[i]])):=aS np;refine turn ws[i] σ _ p (fun σ3 y H5=>if true=true then∃m',m'<ws.length-i/\(m'=ws.length-(i+1)/\i+1<=ws.length/\(xs++[y]).length=i+1/\aB H1 H5/\aE H5 ((ws.take (i+1)).map F) (xs++[y])/\Pσ σ3) else False) (ym hlt) (sm.trans s2) aC pσ ?_;rintro σ3 y H5 s5 iy p3;rw[if_pos rfl];refine⟨_,nofun,rfl,hlt,by simp[hx],(sm.trans s2).trans s5,?_,p3⟩;rw[List.take_add_one,zd hlt,zk];exact dk iy ((il.mono s2).mono s5)
 ·have e:i=ws.length:=nofun
  subst e;refine .inl ⟨⟨_,_,sm.PZ ha,sm.PZ hb,.inl (by rw[za];exact zm _)⟩,nofun,fun D hD=>?_⟩;have il':aE H (ws.map F) xs:=by rw[zN] at il;exact il
  exact fin D xs _ (sm.trans (aS hD)) (sm.back hD) aC (il'.mono (aS hD))
def E4 (hn:xs.length<=sizeLine) (hp:aL K H1 p xs) (h0:∃v,σ₀=[v])
  (fin:∀(D:Addr) (qs:List Addr) (H:Hp),aB H1 H->H1 D=none->H D=some (.lst (qs.map V.ref))->qs.Nodup->D∉qs->qs.length=xs.length->(∀q∈qs,H1 q=none/\H q=some (.lst []))->Q (.ref D) H):dR σ₀ (cg 0) wH (FT eV) Q (Mc K p) H1:=by
 refine⟨fun i m ys σ H=>m=xs.length-i/\i<=xs.length/\ys.length=i/\(∃v,σ=[v])/\aB H1 H/\∃qs:List Addr,ys=qs.map V.ref/\qs.Nodup/\∀q∈qs,H1 q=none/\H q=some (.lst []),⟨_,rfl,yg _,rfl,h0,aB.refl _,[],rfl,List.nodup_nil,by simp⟩,?_⟩;rintro i m ys σ H ⟨rfl,hi,hx,⟨v,rfl⟩,sm,qs,rfl,nd,hq⟩;rw[za] at hx;rcases Nat.lt_or_ge i xs.length with hlt | hge
 ·refine .inr ⟨Di (sm.seq hp) hlt,by rw[za];omega,?_⟩
  rintro x H2 ⟨rfl,_⟩;refine⟨yg _,fun q n=>?_⟩;refine⟨_,nofun,rfl,hlt,by rw[zh,za,hx];rfl,⟨_,rfl⟩,sm.trans (aS n),qs++[q],by rw[zk];rfl,?_,fun r hr=>?_⟩
  ·rw[zT]
   refine⟨nd,by simp,fun a ha b hb e=>?_⟩;have:b=q:=by simpa using hb
   subst this;subst e;rw[(hq a ha).2] at n;cases n
  ·rcases zG.mp hr with z | z
   ·exact⟨(hq r z).1,aS n _ _ (hq r z).2⟩
   ·rw[zA.mp z]
    exact⟨sm.back n,aC⟩
 ·have e:i=xs.length:=nofun
  subst e;refine .inl ⟨⟨_,sm.seq hp,zm _⟩,by rw[za];omega,fun D hD=>?_⟩;exact fin D qs _ (sm.trans (aS hD)) (sm.back hD) aC nd (fun z=>by rw[(hq D z).2] at hD;cases hD) hx fun q z=>⟨(hq q z).1,aS hD _ _ (hq q z).2⟩
theorem uT (f:α->β) (d:α):∀l:List α,(List.range l.length).map (fun i=>f (l.getD i d))=l.map f
 | []=>rfl
 | x::r=>by
  rw[zv,List.range_succ_eq_map,zj,zB,zj]
  congr 1
  exact uT f d r
theorem CJ (F:α->β->γ) (g:Nat->β) (d:α):∀(l:List α) (k:Nat),(List.range l.length).map (fun i=>F (l.getD i d) (g (k+i)))=(l.zip ((List.range l.length).map fun i=>g (k+i))).map fun p=>F p.1 p.2
 | [],_=>rfl
 | x::r,k=>by
  rw[zv,List.range_succ_eq_map,zj,zB,zj,zB,List.zip_cons_cons,zj]
  congr 1
  have:=CJ F g d r (k+1);have e:∀i,k+1+i=k+(i+1):=fun i=>nofun
  simp only[e] at this;exact this
theorem GQ:∀{l:List α} {i j:Nat},l.Nodup->l[i]?=some x->l[j]?=some x->i=j
 | [],_,_,_,h,_=>by simp at h
 | y::r,0,0,_,_,_=>rfl
 | y::r,0,j+1,n,h,k=>by
  simp at h k;subst h;exact absurd (zC k) (yd.mp n).1
 | y::r,i+1,0,n,h,k=>by
  simp at h k;subst k;exact absurd (zC h) (yd.mp n).1
 | y::r,i+1,j+1,n,h,k=>by
  simp at h k;rw[GQ (yd.mp n).2 h k]
def Lz (bs:List Int) (sp:Nat->Nat) (t:Nat):(List.range bs.length).map (fun i=>oq (bs.getD i 0,cV sp t i))=(uf bs sp t).map oq:=by
 have:=CJ (fun b p=>oq (b,p)) (cV sp t) 0 bs 0;simp only[Nat.zero_add] at this;rw[this];rfl
theorem xN (n:Int):∀ns:List Int,GZ (.int n) (ns.map V.int)=decide (n∈ns)
 | []=>rfl
 | m::ns=>by
  have ih:=xN n ns;unfold GZ at ih ⊢;rw[zj,List.any_cons,ih]
  by_cases e:n=m
  ·subst e
   simp[Jg]
  ·simp[Jg,e,Ne.symm (a:=m) (b:=n) (fun z=>e z.symm)]
   try omega
def rT {α:Type} {J:It} {ws:List α} {enc:α->V} {σ₀:St} {g:TG} {tc:TT} {te:TE} {Q:VK} {H1:Hp} (f:α->Bool) (F:α->Dt) (Pσ:St->Prop) (hn:ws.length<=sizeLine) (h0:Pσ σ₀)
  (go:∀i H,i<ws.length->aB H1 H->J.go i H) (stop:∀H,aB H1 H->J.stop ws.length H) (yl:∀(i:Nat) x H H2 (hi:i<ws.length),aB H1 H->J.KI i H x H2->H2=H/\x=enc ws[i])
  (turn:∀(a:α) (σ:St) (H:Hp) (R:St->V->Hp->Prop) (N:St->Hp->Prop),a∈ws->aB H1 H->Pσ σ->(f a=true->∀σ3 y H5,aB H H5->Is H5 (F a) y->Pσ σ3->R σ3 y H5)->(f a=false->∀σ3 H5,aB H H5->Pσ σ3->N σ3 H5)->g (enc a) σ H fun σ3 H3=>tc σ3 H3 fun b H4=>if b=true then te σ3 H4 fun y H5=>R σ3 y H5 else N σ3 H4)
  (fin:∀D vs H,aB H1 H->H1 D=none->H D=some (.lst vs)->aE H ((ws.filter f).map F) vs->Q (.ref D) H):dR σ₀ g tc te Q J H1:=by
 refine⟨fun i m xs σ H=>m=ws.length-i/\i<=ws.length/\xs.length<=i/\aB H1 H/\aE H (((ws.take i).filter f).map F) xs/\Pσ σ,⟨_,rfl,yg _,zm _,aB.refl _,by simp[aE],h0⟩,?_⟩;rintro i m xs σ H ⟨rfl,hi,hx,sm,il,pσ⟩;rcases Nat.lt_or_ge i ws.length with hlt | hge
 ·refine .inr ⟨go i H hlt sm,nofun,?_⟩
  intro x H2 hy;obtain⟨rfl,rfl⟩:=yl i x H H2 hlt sm hy;have tk:ws.take (i+1)=ws.take i++[ws[i]]:=by rw[List.take_add_one,zd hlt];rfl
  refine turn ws[i] σ H2 _ _ (ym hlt) sm pσ ?_ ?_
  ·intro ff σ3 y H5 s5 iy p3
   refine⟨_,nofun,rfl,hlt,by rw[zh];show xs.length+1<=i+1;omega,sm.trans s5,?_,p3⟩;rw[tk,List.filter_append,zk];have:[ws[i]].filter f=[ws[i]]:=by simp[ff]
   rw[this];exact dk iy (il.mono s5)
  ·intro ff σ3 H5 s5 p3
   refine⟨_,nofun,rfl,hlt,nofun,sm.trans s5,?_,p3⟩;rw[tk,List.filter_append,zk];have:[ws[i]].filter f=[]:=by simp[ff]
   rw[this,yn,zV];exact il.mono s5
 ·have e:i=ws.length:=nofun
  subst e;refine .inl ⟨stop H sm,nofun,fun D hD=>?_⟩;have il':aE H ((ws.filter f).map F) xs:=by rw[zN] at il;exact il
  exact fin D xs _ (sm.trans (aS hD)) (sm.back hD) aC (il'.mono (aS hD))
noncomputable def oa (f:Int->Bool) (lo:Int) (n:Nat):List Int:=((List.range n).map fun i=>lo+(i:Nat)).filter f
def pT (h:x∈oa f lo n):lo<=x/\x<lo+n/\f x=true:=by
 unfold oa at h;rw[List.mem_filter] at h;obtain⟨i,hi,rfl⟩:=zH.mp h.1;have:=List.mem_range.mp hi;exact⟨nofun,nofun,h.2⟩
def Lx:(oa f lo n).length<=n:=by
 unfold oa;refine zM (List.length_filter_le _ _) ?_;simp
def Hg {f:Int->Bool} {lo x:Int} {n:Nat} (h1:lo<=x) (h2:x<lo+n) (h3:f x=true):x∈oa f lo n:=by
 unfold oa;rw[List.mem_filter];exact⟨zH.mpr ⟨(x-lo).toNat,List.mem_range.mpr nofun,nofun⟩,h3⟩
def j0 {lo:Int} {n:Nat} {σ₀ rest:St} {tc:TT} {Q:VK} {H1:Hp} (f:Int->Bool) (hn:n<=sizeLine) (h0:∃v,σ₀=v::rest)
  (turn:∀(i:Int) (H:Hp) (R:Bool->Hp->Prop),lo<=i->i<lo+n->aB H1 H->(∀H',aB H H'->R (f i) H')->tc (some (.int i)::rest) H R)
  (fin:∀D H,aB H1 H->H1 D=none->H D=some (.lst ((oa f lo n).map V.int))->Q (.ref D) H):dR σ₀ (cg 0) tc (bf 0) Q (Oh lo n) H1:=by
 refine rT (ws:=(List.range n).map fun i=>lo+(i:Nat)) (enc:=V.int) f Dt.int (fun σ=>∃v,σ=v::rest) (by simp;exact hn) h0 (fun i H hi _=>by rw[za,zR] at hi;exact hi) (fun H _=>by rw[za,zR];exact zm n) ?_ ?_ ?_
 ·rintro i x H H2 hi _ ⟨rfl,rfl⟩
  exact⟨rfl,by simp⟩
 ·rintro a σ H R N ha s1 ⟨v,rfl⟩ hR hN
  obtain⟨i,hi,rfl⟩:=zH.mp ha;have:=List.mem_range.mp hi;refine turn (lo+(i:Nat)) H _ nofun nofun s1 fun H' s'=>?_;cases q:f (lo+(i:Nat)) with
  | true=>exact cb rfl ⟨_,rfl,hR q _ _ _ s' cX ⟨_,rfl⟩⟩
  | false=>exact cq rfl (hN q _ _ s' ⟨_,rfl⟩)
 ·intro D vs H s1 nD hD il
  rw[fq il] at hD;exact fin D H s1 nD hD
noncomputable def kK (rs:List Rep) (b:Int):Bool:=match dX rs b with
 | none=>true
 | some r=>match (r.ends.filter fun e=>decide (e.1<=b)).getLast? with
  | none=>true
  | some e=>decide (r.times∈e.2)
noncomputable def fc (rs:List Rep) (b:Int):Bool:=rs.any fun r=>decide (r.first<b)&&decide (b<=r.last)
noncomputable def FA (r:Rep) (b:Int):Bool:=decide (r.first<=b)&&decide (b<=r.last)
theorem AM:∀{l:List α} {i:Nat} {x:α},l[i]?=some x->p x=true->(∀y∈l.take i,p y=false)->l.find? p=some x
 | [],_,_,h,_,_=>by simp at h
 | y::r,0,x,h,hx,_=>by simp at h;subst h;rw[List.find?_cons,hx]
 | y::r,i+1,x,h,hx,hn=>by
  rw[List.find?_cons,hn y (by rw[List.take_succ_cons];exact zr)];exact AM (i:=i) (by simpa using h) hx fun z hz=>hn z (by rw[List.take_succ_cons];exact zp _ hz)
theorem Dm:∀{es:List End},(es.map (·.1)).Pairwise (·<·)->x∈(es.zip ((es.drop 1).map (·.1)++[hi])).map (fun p=>(p.1.1,p.2-1,p.1.2))->x.1<=b->b<=x.2.1->∃e,(es.filter fun e=>decide (e.1<=b)).getLast?=some e/\e.2=x.2.2
 | [],_,h,_,_=>by simp at h
 | [e],_,h,h1,h2=>by
  simp at h;subst h;exact⟨e,by simp at h1 ⊢;exact h1,rfl⟩
 | e::e'::r,asc,h,h1,h2=>by
  rw[zj,List.pairwise_cons] at asc;rw[List.drop_one,List.tail_cons,zj,List.cons_append,List.zip_cons_cons,zj,zD] at h;rcases h with h | h
  ·subst h
   dsimp only at h1 h2;have no:(e'::r).filter (fun e=>decide (e.1<=b))=[]:=by
    rw[List.filter_eq_nil_iff];intro y hy;have hm:y.1∈(e'::r).map (·.1):=zP (f:=fun z:End=>z.1) hy;have a2:=asc.2;rw[zj,List.pairwise_cons] at a2;rw[zj,zD] at hm;rcases hm with z | z
    ·simp;omega
    ·have:=a2.1 _ z
     simp;omega
   refine⟨e,?_,rfl⟩;rw[List.filter_cons,if_pos (zg h1),no];rfl
  ·obtain⟨e2,f1,f2⟩:=Dm (es:=e'::r) asc.2 (by rw[List.drop_one,List.tail_cons];exact h) h1 h2
   refine⟨e2,?_,f2⟩;rw[List.filter_cons];split
   ·cases q:(e'::r).filter (fun e=>decide (e.1<=b)) with
    | nil=>rw[q] at f1;cases f1
    | cons y t=>rw[q] at f1;rw[List.getLast?_cons_cons];exact f1
   ·exact f1
theorem Kl:∀{es:List End},(∀e∈es,lo<=e.1/\e.1<hi)->x∈(es.zip ((es.drop 1).map (·.1)++[hi])).map (fun p=>(p.1.1,p.2-1,p.1.2))->lo<=x.1/\x.2.1<hi
 | [],_,h=>by simp at h
 | [e],hx,h=>by
  simp at h;subst h;have:=hx e (by simp);exact⟨this.1,by show hi-1<hi;omega⟩
 | e::e'::r,hx,h=>by
  rw[List.drop_one,List.tail_cons,zj,List.cons_append,List.zip_cons_cons,zj,zD] at h;rcases h with h | h
  ·subst h
   have a:=hx e (by simp);have c:=hx e' (by simp);exact⟨a.1,by show e'.1-1<hi;omega⟩
  ·exact Kl (es:=e'::r) (fun y hy=>hx y (zp _ hy)) (by rw[List.drop_one,List.tail_cons];exact h)
def Apart (rs:List Rep):Prop:=(∀r∈rs,r.first<=r.last/\(r.ends.map (·.1)).Pairwise (·<·)/\∀e∈r.ends,r.first<=e.1/\e.1<=r.last)/\rs.Pairwise fun a b=>a.last<b.first
theorem vA:∀{rs:List Rep} {r r':Rep} {b:Int},(∀r∈rs,r.first<=r.last)->rs.Pairwise (fun a b=>a.last<b.first)->r∈rs->r'∈rs->r.first<=b->b<=r.last->r'.first<=b->b<=r'.last->r=r'
 | [],_,_,_,_,_,h,_,_,_,_,_=>by cases h
 | x::l,r,r',b,hf,hp,h,h',h1,h2,h3,h4=>by
  rw[List.pairwise_cons] at hp;rcases zD.mp h with e | e <;> rcases zD.mp h' with e' | e'
  ·rw[e,e']
  ·subst e
   have:=hp.1 r' e';omega
  ·subst e'
   have:=hp.1 r e;omega
  ·exact vA (fun y hy=>hf y (zp _ hy)) hp.2 e e' h1 h2 h3 h4
def rA {rs:List Rep} {b:Int} {r:Rep} (h:dX rs b=some r):r∈rs/\r.first<=b/\b<=r.last:=by
 unfold dX at h;have h1:=List.mem_of_find?_eq_some h;have h2:=List.find?_some h;simp at h2;exact⟨h1,h2⟩
def Ke {rs:List Rep} {b:Int} (ap:Apart rs) (h:kK rs b=true):mQ rs b=true:=by
 unfold mQ;rw[yp];intro r hr;rw[yp];intro x hx;obtain⟨a1,a2,a3⟩:=ap.1 r hr
 by_cases c1:x.1<=b
 ·by_cases c2:b<=x.2.1
  ·unfold fQ at hx
   have ein:=Kl (lo:=r.first) (fun e he=>⟨(a3 e he).1,by have:=(a3 e he).2;omega⟩) hx;obtain⟨e,f1,f2⟩:=Dm a2 hx c1 c2;unfold kK at h;have hro:dX rs b=some r:=by
    cases q:dX rs b with
    | none=>
     unfold dX at q;have:=List.find?_eq_none.mp q r hr;simp at this;omega
    | some r'=>
     obtain⟨g1,g2,g3⟩:=rA q;rw[vA (fun y hy=>(ap.1 y hy).1) ap.2 g1 hr g2 g3 nofun nofun]
   rw[hro] at h;dsimp only at h;rw[f1] at h;dsimp only at h;rw[f2] at h;rw[h];simp
  ·rw[ze c2];simp
 ·rw[ze c1];simp
def wy {rs:List Rep} {b:Int} (h:fc rs b=false):eE rs b=true:=by
 unfold eE;cases q:dX rs b with
 | none=>rfl
 | some r=>
  obtain⟨g1,g2,g3⟩:=rA q;dsimp only;unfold fc at h;rw[List.any_eq_false] at h;have:=h r g1;simp at this;exact zg nofun
def Nx {rs:List Rep} {b:Int} (ap:Apart rs) (h:(∃r∈rs,r.last=b)\/(rs.any fun r=>FA r b)=false):iF rs b=true:=by
 unfold iF;cases q:dX rs b with
 | none=>rfl
 | some r=>
  obtain⟨g1,g2,g3⟩:=rA q;dsimp only;rcases h with⟨r',hr',e⟩ | h
  ·have:=vA (b:=b) (fun y hy=>(ap.1 y hy).1) ap.2 g1 hr' g2 g3 (by have:=(ap.1 r' hr').1;omega) nofun
   rw[this,e];exact zg rfl
  ·rw[List.any_eq_false] at h
   have:=h r g1;unfold FA at this;simp at this;omega
def PK (many:Int) (rs:List Rep) (j:Jump):Prop:=iH rs j=true/\(0<=j.uB/\j.uB<many)/\(0<=j.wu/\j.wu<many)/\(0<=j.cW/\j.cW<many)/\∀c,j.gf=some c->0<=c/\c<many
def Rm {many:Int} {rs:List Rep} (ap:Apart rs) {a t u:Int} {c:Option Int} (ha:0<=a) (ha2:a<many) (hl:(∃r∈rs,r.last=a)\/(rs.any fun r=>FA r a)=false) (ht:0<=t) (ht2:t<=a) (hti:fc rs t=false)
  (hu:t<=u) (hu2:u<=a) (hul:kK rs u=true) (hc:∀x,c=some x->a<x/\x<many/\fc rs x=false/\kK rs x=true):PK many rs ⟨a,t,u,c⟩:=by
 refine⟨?_,⟨ha,ha2⟩,⟨ht,by show t<many;omega⟩,⟨by show 0<=u;omega,by show u<many;omega⟩,fun x hx=>?_⟩
 ·unfold iH
  dsimp only;rw[if_neg nofun,if_neg nofun,Nx ap hl,wy hti,Ke ap hul];cases c with
  | none=>rfl
  | some x=>
   obtain⟨h1,h2,h3,h4⟩:=hc x rfl;dsimp only;rw[zg h1,wy h3,Ke ap h4];rfl
 ·obtain⟨h1,h2,_⟩:=hc x hx
  exact⟨nofun,h2⟩
def I9 (t1:0<t) (t2:t<=32) (b1:0<b) (b2:b<=160):Ia (red t b):=by
 obtain⟨g,g1,g2,g3,g4,g5⟩:=jO (t:=t) b1;have r1:=Al (t:=t) (b:=b) (Int.le_of_lt t1);have r0:=Ak (t:=t) (b:=b) (Int.le_of_lt t1);refine⟨Lm.Rd.of (Int.le_of_lt t1) b1,?_,nofun,nofun⟩;rcases Int.lt_or_eq_of_le r0 with z | z
 ·exact z
 ·rw[<-z,Int.mul_zero] at g2;omega
inductive Lk:List Expr->List (Int×Int)->Prop
 | n:Lk [] []
 | c {a b:Int} {x y u v m k r ps} (h:Lk r ps):Lk (.Tuple [.Constant (.int a) x y,.Constant (.int b) u v] m k::r) ((a,b)::ps)
def Q4 {X:Cx} {es:List Expr} {ps:List (Int×Int)} (h:Lk es ps):PA X es (FR ps):=by
 induction h with
 | n=>exact Q3
 | c _ q=>exact Sr q
def Q1 {X:Cx} {es:List Expr} {p1 pos:Pos} {b:Expr} {tb:TE} (ps:List (Int×Int)) (hb:PE X b tb) (hs:uA b) (h:Lk es ps<|>qh_) (hl:ps.length<=1000<|>qb_):PE X (.Subscript (.List es p1) b pos) (fP (OV X.K) (Tj ps) tb):=Aq Kf (QZ (Q4 h) hl) hb hs
@[irreducible] def Qi (X:Cx) (s:Stmt) (t:TS):Prop:=PS X s t
@[irreducible] def Tu (X:Cx) (e:Expr) (t:TE):Prop:=PE X e t
def Uu {X:Cx} {x:Str} {e:Expr} {te:TE} {pos pos':Pos} (i:Nat) (hN:X.N.Nodup) (he:Tu X e te) (hi:X.N[i]?=some x<|>qe_) (hx:Loc X.env.scope x<|>qi_) (hs:swapsWith e (some (.Name x pos')) pos.line X.env=pure false<|>qe_) (hf:X.fn x=true\/X.env.scope.names.lookup x=some .local<|>qa_) :
  Qi X (.Assign [.Name x pos'] e pos) (FU te (cg i)):=by
 unfold Qi;unfold Tu at he;exact M3 hN hi hx he hs hf
def O0 {X:Cx} {es:List Expr} {p1 pos:Pos} {b:Expr} {tb:TE} (ps:List (Int×Int)) (hb:PE X b tb) (hs:uA b) (h:Lk es ps<|>qh_) (hl:ps.length<=1000<|>qb_):Tu X (.Subscript (.List es p1) b pos) (fP (OV X.K) (Tj ps) tb):=by
 unfold Tu;exact Q1 ps hb hs h hl
@[irreducible] def JM (X:Cx) (s:List Stmt) (t:TS):Prop:=DC X s t
def zS {X:Cx} {s:Stmt} {t:TS} (h:PS X s t):Qi X s t:=by unfold Qi;exact h
def zo {X:Cx} {s:Stmt} {t:TS} (h:Qi X s t):JM X [s] t:=by unfold JM;unfold Qi at h;exact ak h
def zc {X:Cx} {s:Stmt} {r:List Stmt} {t u:TS} (h:Qi X s t) (h2:JM X r u):JM X (s::r) (Qy t u):=by unfold JM at h2 ⊢;unfold Qi at h;exact ag h h2
def zf {X:Cx} {s:List Stmt} {t:TS} (h:JM X s t):DC X s t:=by unfold JM at h;exact h
def Jv {K:yB} {a:Addr} {ns:List Int} {σ₀ rest:St} {tc:TT} {Q:VK} {H1:Hp} (f:Int->Bool) (hn:ns.length<=sizeLine) (ha:aL K H1 a (ns.map V.int)) (h0:∃v,σ₀=v::rest)
  (turn:∀(n:Int) (H:Hp) (R:Bool->Hp->Prop),aB H1 H->(∀H',aB H H'->R (f n) H')->tc (some (.int n)::rest) H R)
  (fin:∀D H,aB H1 H->H1 D=none->H D=some (.lst ((ns.filter f).map V.int))->Q (.ref D) H):dR σ₀ (cg 0) tc (bf 0) Q (Mc K a) H1:=by
 refine rT (ws:=ns) (enc:=V.int) f Dt.int (fun σ=>∃v,σ=v::rest) hn h0 (fun i H hi sm=>Di (sm.seq ha) (by rw[za];exact hi)) (fun H sm=>⟨_,sm.seq ha,by rw[za];exact zm _⟩) ?_ ?_ ?_
 ·rintro i x H H2 hi sm ⟨rfl,hy⟩
  have hx':=hy _ (sm.seq ha);rw[zK,zd hi] at hx';cases hx';exact⟨rfl,rfl⟩
 ·rintro n σ H R N hn s1 ⟨v,rfl⟩ hR hN
  refine turn n H _ s1 fun H' s'=>?_;cases q:f n with
  | true=>exact cb rfl ⟨_,rfl,hR q _ _ _ s' cX ⟨_,rfl⟩⟩
  | false=>exact cq rfl (hN q _ _ s' ⟨_,rfl⟩)
 ·intro D vs H s1 nD hD il
  rw[fq il] at hD;exact fin D H s1 nD hD
def RK (r:Rep):Prop:=0<=r.first/\r.first<=r.last/\r.last<200/\2<=r.times/\r.times<=9/\r.ends.length<=9/\∀e∈r.ends,r.first<=e.1/\e.1<=r.last
def mf (lo hi:Int) (n:Nat) (bs:List Int):Prop:=bs.length<=n/\∀b∈bs,lo<=b/\b<=hi
def mf.app {lo hi:Int} {n m:Nat} {a b:List Int} (h:mf lo hi n a) (k:mf lo hi m b):mf lo hi (n+m) (a++b):=
 ⟨by rw[zh];exact Nat.add_le_add h.1 k.1,fun x hx=>(zG.mp hx).elim (h.2 x) (k.2 x)⟩
def mf.mono {lo hi lo' hi':Int} {n m:Nat} {a:List Int} (h:mf lo hi n a) (l:lo'<=lo) (u:hi<=hi') (k:n<=m):mf lo' hi' m a:=
 ⟨zM h.1 k,fun x hx=>⟨Int.le_trans l (h.2 x hx).1,Int.le_trans (h.2 x hx).2 u⟩⟩
def IH {i j lo hi:Int} (a:lo<=i) (b:j-1<=hi) {n:Nat} (k:(j-i).toNat<=n):mf lo hi n (rB i (j-i).toNat):=by
 unfold rB;refine⟨by rw[za,zR];exact k,fun x hx=>?_⟩;obtain⟨t,ht,rfl⟩:=zH.mp hx;have:=List.mem_range.mp ht;omega
def NR {r:Rep} (h:RK r):(fQ r).length<=9/\∀x∈fQ r,(r.first<=x.1/\x.1<=r.last)/\r.first-1<=x.2.1/\x.2.1<=r.last:=by
 obtain⟨_,h2,_,_,_,h6,h7⟩:=h;unfold fQ;refine⟨by rw[za,List.length_zip];omega,fun x hx=>?_⟩;obtain⟨⟨e,b⟩,hz,rfl⟩:=zH.mp hx;obtain⟨z1,z2⟩:=List.of_mem_zip hz;refine⟨h7 e z1,?_⟩;rcases zG.mp z2 with z | z
 ·obtain⟨e',he,rfl⟩:=zH.mp z
  have:=h7 e' (List.mem_of_mem_drop he);show r.first-1<=e'.1-1/\e'.1-1<=r.last;omega
 ·cases zA.mp z
  show r.first-1<=r.last+1-1/\r.last+1-1<=r.last;omega
def Tv (x:Int×Int):Prop:=Ia x/\x.2 ∣ 960
def Oe (j:Nat) (t:Int×Int):Prop:=Lm.Rd t/\t.2 ∣ 960/\t.1<=32*j*t.2
def OB:Oe 0 (0,1):=⟨.zero,⟨960,rfl⟩,∅⟩
def RB {t b s M:Int} (hb:0<b) (hM:0<M) (h:t*M=s*b):(red t b).2 ∣ M:=by
 rw[QR hb hM h];obtain⟨g,_,_,e,_⟩:=jO (t:=s) hM;exact⟨g,by rw[Int.mul_comm];exact e⟩
def Qw {j:Nat} {t y:Int×Int} (h:Oe j t) (hy:Tv y):Oe (j+1) (Lm.add t y):=by
 obtain⟨h1,⟨p,ep⟩,h3⟩:=h;obtain⟨⟨y1,y2,y3,y4⟩,⟨q,eq⟩⟩:=hy;obtain⟨t0,t1,_⟩:=h1.pos;obtain⟨_,w1,_⟩:=y1.pos;have hb:0<t.2*y.2:=Int.mul_pos t1 w1;refine⟨h1.add y1,RB (s:=t.1*p+y.1*q) hb ∅ ?_,?_⟩
 ·rw[Int.add_mul,Int.add_mul]
  congr 1
  ·rw[ep];simp only[Int.mul_assoc,Int.mul_comm,Int.mul_left_comm]
  ·rw[eq];simp only[Int.mul_assoc,Int.mul_comm,Int.mul_left_comm]
 ·obtain⟨g,g0,e1,e2,_⟩:=jO (t:=t.1*y.2+y.1*t.2) hb
  have a:t.1*y.2<=32*j*t.2*y.2:=Int.mul_le_mul_of_nonneg_right h3 (Int.le_of_lt w1);have b:y.1*t.2<=32*y.2*t.2:=Int.mul_le_mul_of_nonneg_right nofun (Int.le_of_lt t1);have c:t.1*y.2+y.1*t.2<=32*((j+1:Nat):Int)*(t.2*y.2):=by
   have e:32*((j+1:Nat):Int)*(t.2*y.2)=32*j*t.2*y.2+32*y.2*t.2:=by
    rw[Int.natCast_add,Int.mul_add,Int.add_mul]
    congr 1
    ·simp only[Int.mul_assoc]
    ·show 32*1*(t.2*y.2)=_
     simp only[Int.mul_one,Int.mul_assoc,Int.mul_comm t.2 y.2]
   rw[e];omega
  unfold Lm.add;generalize red (t.1*y.2+y.1*t.2) (t.2*y.2)=r at e1 e2;rw[e1,e2] at c;refine Int.le_of_mul_le_mul_left (a:=g) ?_ g0;rw[Int.mul_left_comm];exact c
def PQ {j:Nat} {t:Int×Int} (h:Oe j t) (hj:j<=16777216):(0<=t.1/\t.1<=515396075520)/\0<t.2/\t.2<=960:=by
 obtain⟨h1,h2,h3⟩:=h;obtain⟨t0,t1,_⟩:=h1.pos;have d:=Int.le_of_dvd ∅ h2;refine⟨⟨t0,?_⟩,t1,d⟩;have a:32*(j:Int)*t.2<=32*16777216*960:=Int.mul_le_mul nofun d (Int.le_of_lt t1) ∅;exact Int.le_trans h3 a
noncomputable def DJ (S:cB) (l:List Nat):Int×Int:=l.foldl (fun t b=>Lm.add t (S.len b)) (0,1)
def uG (S:cB) (l:List Nat) (b:Nat):DJ S (l++[b])=Lm.add (DJ S l) (S.len b):=by unfold DJ;rw[zY];rfl
def JY {S:cB} {n:Nat} (h:∀b,b<n->Tv (S.len b)):∀{l:List Nat},(∀b∈l,b<n)->∀i,Oe (min i l.length) (DJ S (l.take i)):=by
 intro l hl i
 induction i with
 | zero=>rw[List.take_zero,Nat.zero_min];exact OB
 | succ i ih=>
  by_cases c:i<l.length
  ·rw[cZ (zd c),uG,show min (i+1) l.length=min i l.length+1 from by omega]
   exact Qw ih (h _ (hl _ (ym c)))
  ·rw[List.take_of_length_le nofun,show min (i+1) l.length=min i l.length from by omega]
   rw[List.take_of_length_le nofun] at ih;exact ih
def Bx (S:cB) (l:List Nat) (H:Hp) (i:Nat) (v:V):Prop:=∃a q c b,v=.ref a/\H a=some (.tup [.int (b:Nat),.ref q,.int c])/\H q=some (fR (DJ S (l.take i)))/\l[i]?=some b
def Bx.mono {S:cB} {l:List Nat} {H H':Hp} (s:aB H H') {i:Nat} {v:V} (h:Bx S l H i v):Bx S l H' i v:=by
 obtain⟨a,q,c,b,h1,h2,h3,h4⟩:=h;exact⟨a,q,c,b,h1,s _ _ h2,s _ _ h3,h4⟩
theorem Bx.upd {S:cB} {l:List Nat} {H:Hp} {D:Addr} {o:HO} (hD:cM (H D)) {i:Nat} {v:V} (h:Bx S l H i v):Bx S l (L2.upd H D o) i v:=by
 obtain⟨a,q,c,b,h1,h2,h3,h4⟩:=h;exact⟨a,q,c,b,h1,by rw[aH fun e=>hD _ (e▸h2)];exact h2,by rw[aH fun e=>hD _ (e▸h3)];exact h3,h4⟩
end Sc
namespace K22
open PySem L2 Lm Sc
def top (i:Nat):Stmt:=PySem.Challenge.pw_partsmith_k20_times.main.body.getD i (.Pass ⟨0,0,0,0⟩)
abbrev qK:=top 7
abbrev qH:=top 8
abbrev lM:=top 11
abbrev qN:=top 12
abbrev J4:=top 13
abbrev CT:=top 14
abbrev qL:=top 15
abbrev sT:=top 21
abbrev jJ:=top 22
abbrev vV:=top 23
abbrev y6:=top 33
abbrev Ac:=top 34
abbrev vT:=top 35
abbrev sS:=top 36
abbrev qF:=top 37
abbrev vS:=top 38
abbrev vR:=top 39
abbrev sV:=top 40
abbrev y7:=top 41
abbrev y8:=top 42
abbrev qJ:=top 43
abbrev ki:=top 44
abbrev sQ:=top 45
abbrev y9:=top 46
abbrev qG:=top 47
abbrev vW:=top 48
abbrev sU:=top 49
abbrev qI:=top 50
abbrev vU:=top 51
abbrev nG:=top 53
abbrev rk:=top 54
abbrev CU:=top 55
abbrev Ab:=top 56
abbrev qE:=top 57
abbrev oO:=top 58
abbrev vX:=top 59
abbrev vY:=top 60
abbrev oU:=top 61
abbrev v8:=top 62
abbrev vZ:=top 63
abbrev oR:=top 72
abbrev qC:=top 73
abbrev oS:=top 74
abbrev Aa:=top 75
abbrev oQ:=top 76
abbrev jK:=top 77
abbrev qD:=top 78
abbrev wc:=top 79
abbrev oN:=top 80
abbrev sX:=top 81
abbrev qM:=top 82
abbrev oP:=top 83
abbrev sW:=top 84
abbrev rm:=top 86
abbrev Ad:=top 87
abbrev CV:=top 88
abbrev sR:=top 89
abbrev wa:=top 91
abbrev sY:=top 92
abbrev oV:=top 93
abbrev lN:=top 94
abbrev Ga:=top 95
abbrev sP:=top 96
abbrev Gb:=top 97
abbrev oZ:=top 99
abbrev tf:=top 100
abbrev nK:=top 101
abbrev qO:=top 102
abbrev Ae:=top 103
abbrev nI:=top 104
abbrev nL:=top 105
abbrev o6:=top 106
abbrev lP:=top 107
abbrev nM:=top 108
abbrev nJ:=top 109
abbrev oY:=top 110
abbrev kr:=top 111
abbrev oW:=top 112
abbrev tm:=top 113
abbrev oX:=top 114
abbrev gI:=top 115
abbrev lO:=top 116
abbrev nH:=top 117
abbrev jM:=top 118
abbrev lQ:=top 119
abbrev jL:=top 120
abbrev lS:=top 121
abbrev ko:=top 122
abbrev km:=top 123
abbrev sZ:=top 124
abbrev lR:=top 125
abbrev P0:=top 126
abbrev tq:=inClass (top 71) 0
structure Df (K:yB) (mg:Str->Option Value) (x:Str) (st:Stmt) (a:Addr) (d:FuncData) (ps:List Str):Prop where
 F:Oj K x x st a d
 g:mg x=some (.ref a)
 b:Binds K d ps []
structure UZ (K:yB) (x y:Str) (st:Stmt) (a:Addr) (d:FuncData) (ps:List Str):Prop where
 F:Oj K x y st a d
 b:Binds K d ps []
set_option genInjectivity false in
set_option genSizeOf false in
structure Txt (K:yB) (mg:Str->Option Value) where
 (CD CC vB CF PF LV lE Fl rX HS JE JJ HR Fj CB HQ HP Fm JF JG ig eP jr mV ia kP jt ic kO xA Bk LW JI CA Bj HU HV Bo HX HW Bl Cz Bm JH gF eA hZ kQ gD jx ik gE jw Bp JK LX Fi HY Fn Bq vC Oc Fh Od Bu Fp xE CG JL xC xF Bv vE xG xD Bt uy Br Fq Bs ou vD xB rZ vF rY vH ux uw Fo vG SX mW mU j8 eC jC tF:Addr)
 (Cp Cm vn Cr Pw LF lA ES rP Hy Jj Jr Hv ER Cj Hu Ht EU Jl Jm Co ug EN Jn Ck Hz ET Cn Hw xm Jk LI Jq Ci AW HA HB A1 HD HC AZ Ce A0 Jo AY rQ Cg HF AV EW Cq AX EV Jp Js LJ EO HE EX A2 vo NY EM NZ A6 EZ xt Cs Jt xo xu A7 vt xw xq A5 uj A3 E1 A4 oo vq xn rS vv rR vx ui uh EY vw N0 uk:FuncData)
 (KQ uF BG xZ BH wF DE x9 uE yN wG yO DF x8 qU FP DH DG x6:Tok)
 dN:Df K mg "read_number" qK CD Cp ["text","most"]
 fW:Df K mg "read_signed" qH CC Cm ["text","most"]
 gB:Df K mg "common_divisor" lM vB vn ["one","other"]
 eZ:Df K mg "made_length" qN CF Cr ["top","bottom"]
 added:Df K mg "added" J4 PF Pw ["one","other"]
 DY:Df K mg "shorter" CT LV LF ["one","other"]
 eX:Df K mg "read_length" qL lE lA ["text"]
 jP:Df K mg "read_pitch" sT Fl ES ["fifths_text","steps_text"]
 d5:Df K mg "read_item_length" jJ rX rP ["text"]
 uS:Df K mg "read_item" vV HS Hy ["text"]
 words_of:Df K mg "words_of" y6 JE Jj ["row"]
 dF:Df K mg "all_read" Ac JJ Jr ["values"]
 fj:Df K mg "read_name" vT HR Hv ["word"]
 dg:Df K mg "read_plain" sS Fj ER ["word"]
 ku:Df K mg "read_within" qF CB Cj ["word","lowest","highest"]
 uR:Df K mg "read_time" vS HQ Hu ["word"]
 uQ:Df K mg "read_turn" vR HP Ht ["fifths_word","steps_word"]
 rE:Df K mg "read_metre" sV Fm EU ["word"]
 An:Df K mg "read_key" y7 JF Jl ["word"]
 Ao:Df K mg "read_end" y8 JG Jm ["word"]
 kA:Df K mg "read_player" qJ ig Co ["words"]
 fO:Df K mg "read_instrument" ki eP ug ["words"]
 mE:Df K mg "read_staff" sQ jr EN ["words"]
 tE:Df K mg "read_bar" y9 mV Jn ["words"]
 ky:Df K mg "read_upbeat" qG ia Ck ["words"]
 pJ:Df K mg "read_hold" vW kP Hz ["words"]
 mF:Df K mg "read_notes" sU jt ET ["words"]
 kz:Df K mg "read_repeat" qI ic Cn ["words"]
 pI:Df K mg "read_jump" vU kO Hw ["words"]
 ly:Df K mg "is_score_word" nG xA xm ["word"]
 Am:Df K mg "read_row" rk Bk Jk ["words"]
 xP:Df K mg "ends_of" CU LW LI ["repeat"]
 AO:Df K mg "ends_fit" Ab JI Jq ["repeat"]
 o7:Df K mg "repeat_fits" qE CA Ci ["repeats","repeat"]
 i7:Df K mg "repeat_round" oO Bj AW ["repeats","bar"]
 vd:Df K mg "may_leave" vX HU HA ["repeats","bar"]
 pP:Df K mg "may_enter" vY HV HB ["repeats","bar"]
 ji:Df K mg "in_last_pass" oU Bo A1 ["repeats","bar"]
 vy:Df K mg "coda_fits" v8 HX HD ["repeats","at","coda"]
 vh:Df K mg "jump_fits" vZ HW HC ["repeats","jump"]
 jf:Df K mg "metre_length" oR Bl AZ ["score","bar"]
 iw:Df K mg "told_length" qC Cz Ce ["score","bar"]
 mP:Df K mg "items_length" oS Bm A0 ["items"]
 lY:Df K mg "has_bars" Aa JH Jo ["score","bars"]
 je:Df K mg "player_fault" oQ gF AY ["score","player"]
 fu:Df K mg "instrument_fault" jK eA rQ ["score","told"]
 iB:Df K mg "staff_fault" qD hZ Cg ["score","told"]
 pV:Df K mg "bar_fault" wc kQ HF ["score","told"]
 gh:Df K mg "upbeat_fault" oN gD AV ["score","length"]
 mR:Df K mg "hold_fault" sX jx EW ["score","told"]
 kE:Df K mg "notes_fault" qM ik Cq ["score","told"]
 i9:Df K mg "repeat_fault" oP gE AX ["score","repeat"]
 mO:Df K mg "jump_fault" sW jw EV ["score","jump"]
 AN:Df K mg "fault_of" rm Bp Jp ["score","sort","told"]
 Bi:Df K mg "add_hold" Ad JK Js ["score","told"]
 Fg:Df K mg "add_row" CV LX LJ ["score","sort","told"]
 rD:Df K mg "read_score" sR Fi EO ["text"]
 vz:Df K mg "check_bar" wa HY HE ["score","bar"]
 rW:Df K mg "bar_length" sY Fn EX ["score","bar"]
 jq:Df K mg "bars_of_pass" oV Bq A2 ["repeat","number"]
 j9:Df K mg "bars_of_repeat" lN vC vo ["repeat","once"]
 walked:Df K mg "walked" Ga Oc NY ["score","first","last","once"]
 qT:Df K mg "taken_bars" sP Fh EM ["score"]
 IM:Df K mg "played" Gb Od NZ ["score"]
 cH:Df K mg "_law_cell_at" oZ Bu A6 ["_law_script","_law_k"]
 cG:Df K mg "_law_mixed" tf Fp EZ ["_law_cell","_law_k"]
 eI:Df K mg "_law_names_by" nK xE xt ["_law_cell","_law_many"]
 fg:Df K mg "_law_lowest" qO CG Cs ["_law_top","_law_bottom"]
 Bw:Df K mg "_law_sum" Ae JL Jt ["_law_lengths"]
 lG:Df K mg "_law_pitch_by" nI xC xo ["_law_m"]
 lI:Df K mg "_law_items_by" nL xF xu ["_law_m","_law_length"]
 m7:Df K mg "_law_bars_by" o6 Bv A7 ["_law_cell","_law_many"]
 fh:Df K mg "_law_length_of" lP vE vt ["_law_bars","_law_upbeat","_law_bar"]
 lJ:Df K mg "_law_holds_by" nM xG xw ["_law_cell","_law_players","_law_instruments","_law_many"]
 lH:Df K mg "_law_notes_by" nJ xD xq ["_law_cell","_law_players","_law_bars","_law_upbeat"]
 m6:Df K mg "_law_ends_by" oY Bt A5 ["_law_m","_law_first","_law_last","_law_times"]
 iV:Df K mg "_law_repeats_by" kr uy uj ["_law_cell","_law_many"]
 jy:Df K mg "_law_lasting" oW Br A3 ["_law_repeats","_law_bar"]
 mZ:Df K mg "_law_inner" tm Fq E1 ["_law_repeats","_law_bar"]
 mY:Df K mg "_law_jump_by" oX Bs A4 ["_law_cell","_law_many","_law_repeats"]
 fE:Df K mg "_law_instruments_by" gI ou oo ["_law_cell"]
 ka:Df K mg "_law_staffs_by" lO vD vq ["_law_cell","_law_players"]
 lF:Df K mg "_law_score_by" nH xB xn ["_law_script","_law_most"]
 dA:Df K mg "_law_length_text" jM rZ rS ["_law_length"]
 kb:Df K mg "_law_item_text" lQ vF vv ["_law_item"]
 gU:Df K mg "_law_repeat_text" jL rY rR ["_law_repeat"]
 kc:Df K mg "_law_form_rows" lS vH vx ["_law_s"]
 iU:Df K mg "_law_score_rows" ko ux ui ["_law_s"]
 iT:Df K mg "_law_score_text" km uw uh ["_law_s"]
 mX:Df K mg "_law_whole" sZ Fo EY ["_law_found"]
 gG:Df K mg "_law_is_length" lR vG vw ["_law_found"]
 Uw:Df K mg "law" P0 SX N0 ["_law_script"]
 OA:mg "Score"= some (.ref mU)
 PJ:Mk K mU mW
 By:UZ K "__init__" "Score.__init__" tq mW uk ["self"]
 LP:mg "FIGURES"= some (.str "0123456789" KQ)
 md:mg "LENGTH_FIGURES"= some (.int (4) uF)
 Cv:mg "HIGHEST_KEY"= some (.int (7) BG)
 Bb:mg "OCTAVE_STEPS"= some (.int (12) xZ)
 Cw:mg "FIFTH_STEPS"= some (.int (7) BH)
 oh:mg "PITCH_FIGURES"= some (.int (2) wF)
 E6:mg "NAME_SIGNS"= some (.str "abcdefghijklmnopqrstuvwxyz0123456789" DE)
 Be:mg "LONGEST_NAME"= some (.int (12) x9)
 ma:mg "NUMBER_FIGURES"= some (.int (3) uE)
 Bf:mg "HIGHEST_TURN"= some (.int (12) yN)
 xy:mg "HIGHEST_METRE"= some (.int (32) wG)
 xx:mg "METRE_BOTTOMS"= some (.ref eC)
 nY:∀H,dB K H eC [.int 1,.int 2,.int 4,.int 8,.int 16,.int 32]
 Bg:mg "FEWEST_TIMES"= some (.int (2) yO)
 E7:mg "MOST_TIMES"= some (.int (9) DF)
 Ds:mg "READERS"= some (.ref jC)
 Bd:mg "MOST_PLAYERS"= some (.int (12) x8)
 rV:mg "MOST_INSTRUMENTS"= some (.int (12) qU)
 HJ:mg "MOST_BARS"= some (.int (200) FP)
 E9:mg "MOST_HOLDS"= some (.int (20) DH)
 E8:mg "MOST_ITEMS"= some (.int (40) DG)
 Bc:mg "MOST_REPEATS"= some (.int (20) x6)
 N3:mg "FAULTS"= some (.ref tF)
 Qa:mg "abs"= none
 Kb:mg "all"= none
 AB:mg "any"= none
 Rb:mg "bool"= none
 kF:mg "enumerate"= none
 P9:mg "int"= none
 mM:mg "isinstance"= none
 bC:mg "len"= none
 mL:mg "list"= none
 Sw:mg "min"= none
 cR:mg "range"= none
 Ra:mg "reversed"= none
 Sv:mg "set"= none
 GS:mg "sorted"= none
 fK:mg "str"= none
 Su:mg "sum"= none
 hV:mg "tuple"= none
 Nl:mg "zip"= none
 mS:PySem.W.nsIn K mainGlobals "NoLength"= some (some (.ref j8))
 mH:PySem.W.excIn K j8 [.type "ValueError",.type "Exception",.type "BaseException",.type "object"] "ValueError.__new__"= true
 Qs:mg "NoLength"= some (.ref j8)
 cf:Cf K mU
def bK {X:Cx} {x:Str} {st:Stmt} {k n:Nat} {f:Addr} {fd:FuncData} {ps:List Str} {sp:Sp} {e:Expr} {es:List Expr} {t:TA} {p pos:Pos} (F:dU X.prog X.w X.K X.mg X.base Ie k f fd ps sp) (hr:gg n X.A) (D:Df X.K X.mg x st f fd ps)
  (ha:PA X (e::es) t) (hk:k<=n<|>qb_) (hg:Gl X x<|>qe_) (hdb:(x == ("__debug__": Str))=false<|>qb_) (he:starEach (e::es) X.env=(false,eval e X.env)::starEach es X.env<|>qe_) (hpl:(backTo pos (starEach es X.env)).any (·.1)=false<|>qe_) :
  PE X (.Call (.Name x p) (e::es) [] pos) (iA sp [] E0 t):=O1 F (hr.mono hk) hg D.g D.F.kp D.b .nil J9 ha hdb he hpl
def gd {X:Cx} {a b:Expr} {ta tb:TE} {pos:Pos} (ha:PE X a ta) (hb:PE X b tb) (hs:uA b<|>qj_):PE X (.Subscript a b pos) (fP (OV X.K) ta tb):=Aq Kf ha hb hs
def bO {X:Cx} {a b:Expr} {ta tb:TE} {pos:Pos} (ha:PE X a ta) (hb:PE X b tb) (hs:uA b<|>qj_):PE X (.Subscript a b pos) (fP (rH X.K) ta tb):=Aq Rn ha hb hs
def ptr {X:Cx} {a b:Expr} {ta tb:TE} {pos:Pos} {op:CmpOp} {r:R2} (ho:pW X (compareOp op) r) (ha:PE X a ta) (hb:PE X b tb) (h:op≠.In<|>qb_) (h2:op≠.NotIn<|>qb_):PT X (.Compare a [op] [b] pos) (m9 (fP r ta tb)):=jd ho ha hb (iS b h h2)
def Lo (p:St) (n:Nat) (σ:St):Prop:=∃e:Nat->Option V,σ=p++(List.range n).map e
def Lo.of {p:St} {n:Nat} {σ:St} (h:σ.take p.length=p) (l:σ.length=p.length+n):Lo p n σ:=by
 refine⟨fun i=>σ[p.length+i]?.join,List.ext_getElem? fun i=>?_⟩
 by_cases c:i<p.length
 ·rw[List.getElem?_append_left c]
  conv=>rhs;rw[<-h]
  rw[List.getElem?_take_of_lt c]
 ·rw[z9 nofun,zK]
  by_cases d:i-p.length<n
  ·rw[List.getElem?_range d]
   have:p.length+(i-p.length)=i:=nofun
   simp only[Option.map_some,this];rw[zd nofun];rfl
  ·rw[List.getElem?_eq_none nofun,List.getElem?_eq_none (by simp;omega)]
   rfl
abbrev At (b:yB->TS) (K:yB):TS:=b K
abbrev Sq (b:yB->TS) (K:yB) (D:Ends):Ends:={D with nx:=b K D}
abbrev Dz (Q:VK):Ends:={nx:=fun _ H'=>Q .bR H',rt:=Q}
def Ev (t:TE) (σ:St) (H:Hp) (v:V):Prop:=∀Q:VK,Q v H->t σ H Q
def Ox (t:TA) (σ:St) (H:Hp) (vs:List V):Prop:=∀R:List V->Hp->Prop,R vs H->t σ H R
def PM (t:TT) (σ:St) (H:Hp) (b:Bool):Prop:=∀R:Bool->Hp->Prop,R b H->t σ H R
def UC (K:yB) (f:Str) (x:V) (H:Hp) (Q:VK):Prop:=∃a C dx fs v,x=.ref a/\H a=some (.ins C dx fs)/\PN K C/\fi K C f/\fs.lookup f=some v/\Q v H
section
variable {t u:TE} {ta:TA} {c:TT} {wi:TI} {a b:TS} {gt:TG} {D:Ends} {σ:St} {H:Hp} {v x y:V} {vs:List V} {g:Int->Int->V} {i j:Int} {r:R2} {Q:VK} {R:List V->Hp->Prop} {S:Bool->Hp->Prop} {k:Bool} {K:yB} {p:Addr} {xs:List V}
def Rw {n:Nat} (e:σ[n]?=some (some v)):Ev (bf n) σ H v:=fun _ q=>⟨v,e,q⟩
def UG:Ev (tC v) σ H v:=fun _ q=>q
def SO (a:Ev t σ H (.int i)) (b:Ev u σ H (.int j)):Ev (fP (wj g) t u) σ H (g i j):=fun _ q=>a _ (b _ ⟨_,_,rfl,rfl,q⟩)
def SN {C:Int->Int->Prop} (a:Ev t σ H (.int i)) (b:Ev u σ H (.int j)) (c:C i j):Ev (fP (rI C g) t u) σ H (g i j):=fun _ q=>a _ (b _ ⟨_,_,rfl,rfl,c,q⟩)
def SM (a:Ev t σ H (.ref p)) (b:Ev u σ H (.int j)) (h:H p=some (.tup xs)) (e:DA xs j=some v):Ev (fP (rH K) t u) σ H v:=fun _ q=>a _ (b _ ⟨_,_,_,_,rfl,rfl,dB.of h,e,q⟩)
def Ry:Ox eV σ H []:=fun _ q=>q
def Pn (a:Ev t σ H v) (b:Ox ta σ H vs):Ox (bX t ta) σ H (v::vs):=fun _ q=>a _ (b _ q)
def Rz (a:Ev t σ H v):Ev (Mx t) σ H (.bl (decide (v=.bR))):=fun _ q=>a _ q
def Pl (a:Ev t σ H v):Ev (Mw t) σ H (.bl (!decide (v=.bR))):=fun _ q=>a _ q
def Rx (a:Ev t σ H (.bl k)):Ev (PR t) σ H (.bl (!k)):=fun _ q=>a _ ⟨_,rfl,q⟩
def SQ (a:Ev t σ H x) (b:Ev u σ H y) (s:ON x y=true):Ev (fP Ur t u) σ H (.bl (decide (x=y))):=fun _ q=>a _ (b _ ⟨s,q⟩)
def SK (a:Ev t σ H x) (b:Ev u σ H y) (s:ON x y=true):Ev (fP Up t u) σ H (.bl (!decide (x=y))):=fun _ q=>a _ (b _ ⟨s,q⟩)
def UD (a:Ev t σ H (.bl k)):PM (m9 t) σ H k:=fun _ q=>a _ ⟨_,rfl,q⟩
def UH (a:Ev t σ H (.bl k)):PM (tB t) σ H k:=fun _ q=>a _ ⟨_,rfl,q⟩
def UE (a:PM c σ H k):PM (OD c) σ H (!k):=fun _ q=>a _ q
def Si (e:Ev t σ H v) (q:gt v σ H D.nx):FU t gt D σ H:=e _ q
def Sh (e:Ev t σ H v) (q:D.rt v H):Qz t D σ H:=e _ q
def Uk {a b:yB->TS} (e:PM c σ H k) (q:if k=true then At a K D σ H else At b K D σ H):OE c (a K) (b K) D σ H:=e _ q
def TB {b:yB->TS} (q:a (Sq b K D) σ H):Qy a (b K) D σ H:=q
def TL {n:Nat} {S:St->Hp->Prop} (q:S (σ.set n (some v)) H):cg n v σ H S:=q
def TH {b:yB->TS} (q:b K D σ H):(Sq b K D).nx σ H:=q
def TF (q:D.nx σ H):PU D σ H:=q
def R3 (q:t σ H fun x H1=>gt x σ H1 D.nx):FU t gt D σ H:=q
def RZ (q:t σ H D.rt):Qz t D σ H:=q
def Qn (q:t σ H fun _ H1=>D.nx σ H1):PV t D σ H:=q
def TK (q:c σ H fun z H1=>if z=true then a D σ H1 else b D σ H1):OE c a b D σ H:=q
def TM {a b:yB->TS} (q:c σ H fun z H1=>if z=true then At a K D σ H1 else At b K D σ H1):OE c (a K) (b K) D σ H:=q
def Sg (e:PM c σ H k) (q:S k H):c σ H S:=e S q
def U1 (q:t σ H fun x H'=>∃k,x=.bl k/\S k H'):m9 t σ H S:=q
def U2 (q:t σ H fun x H'=>∃k,x=.bl k/\S k H'):tB t σ H S:=q
def TU (e:Ev t σ H v) (q:Q v H):t σ H Q:=e Q q
def w_arg (e:Ox ta σ H vs) (q:R vs H):ta σ H R:=e R q
def x_call {sp:Sp} {dv:List V} {E:XK} (q:ta σ H fun vs H1=>sp (vs++dv) H1 Q E):iA sp dv E ta σ H Q:=q
def TN {q':List V->Hp->VK->Prop} (q:ta σ H fun vs H1=>q' vs H1 Q):KR q' ta σ H Q:=q
def RY (q:ta σ H fun xs H1=>xs.length<=sizeLine/\∀p,H1 p=none->Q (.ref p) (upd H1 p (.tup xs))):FQ ta σ H Q:=q
def R0 (q:ta σ H fun xs H1=>xs.length<=sizeLine/\∀p,H1 p=none->Q (.ref p) (upd H1 p (.lst xs))):FT ta σ H Q:=q
def Qo {fr:List (Option Nat)} (q:wi σ H fun J H1=>dR (fr.map fun o=>o.bind fun j=>(σ[j]?).join) gt c t Q J H1):oB fr wi gt c t σ H Q:=q
def Uj {R:It->Hp->Prop} (e:Ev t σ H (.ref p)) (q:(∃xs,aL K H p xs)/\R (Mc K p) H):Kg K t σ H R:=e _ ⟨_,rfl,q⟩
def TC {R:It->Hp->Prop} (q:ta σ H fun vs H1=>∃j:Int,vs=[.int j]/\-(2^62)<=j/\j<2^62/\R (Oh 0 j.toNat) H1):ND ta σ H R:=q
abbrev iJ (J:It):TI:=fun _ H R=>R J H
def Fr (g:TG) (b:TS) (D:Ends) (σ:St) (J:It) (H:Hp):Prop:=QE (iJ J) g b D σ H
def R1 {b:yB->TS} (q:wi σ H (Fr gt (At b K) D σ)):QE wi gt (b K) D σ H:=q
def x_at {b:yB->TS} (q:b K D σ H):At b K D σ H:=q
def TJ {R:It->Hp->Prop} (q:t σ H fun x H1=>∃a,x=.ref a/\(∃xs,aL K H1 a xs)/\R (Mc K a) H1):Kg K t σ H R:=q
def T7 {R:It->Hp->Prop} (e:Ox ta σ H vs) (q:∃a xs,vs=[.ref a]/\aL K H a xs/\R (RO K a) H):Qd K ta σ H R:=e _ q
def T3 {R:It->Hp->Prop} (e:Ox ta σ H vs) (q:∃j:Int,vs=[.int j]/\-(2^62)<=j/\j<2^62/\R (Oh 0 j.toNat) H):ND ta σ H R:=e _ q
def Qr {sp:Sp} {dv:List V} {E:XK} (e:Ox ta σ H vs) (q:sp (vs++dv) H Q E):iA sp dv E ta σ H Q:=e _ q
def T8 {q':List V->Hp->VK->Prop} (e:Ox ta σ H vs) (q:q' vs H Q):KR q' ta σ H Q:=e _ q
def TZ (e:Ox ta σ H vs) (q:vs.length<=sizeLine/\∀p,H p=none->Q (.ref p) (upd H p (.tup vs))):FQ ta σ H Q:=e _ q
def T6 (e:Ox ta σ H vs) (q:vs.length<=sizeLine/\∀p,H p=none->Q (.ref p) (upd H p (.lst vs))):FT ta σ H Q:=e _ q
def Sj {d:TT} (e:PM c σ H k) (q:if k=true then d σ H S else S false H):QK c d σ H S:=e _ q
def Ui {d:TT} (e:PM c σ H k) (q:if k=true then S true H else d σ H S):Ud c d σ H S:=e _ q
def Ul (e:PM c σ H k) (q:if k=true then t σ H Q else u σ H Q):UO c t u σ H Q:=e _ q
def R5 {f:Str} (e:Ev t σ H x) (q:UC K f x H Q):OF K t f σ H Q:=e _ q
def T9 {T:String} {q':V->List V->Hp->VK->Prop} (e:Ev t σ H x) (q:Th K T x H/\ta σ H fun xs H2=>q' x xs H2 Q):Tn K T q' t ta σ H Q:=e _ q
def R6 (e:Ev t σ H (.bl k)) (q:if k=true then u σ H Q else Q (.bl false) H):PX t u σ H Q:=e _ ⟨_,rfl,q⟩
def T4 (e:Ev t σ H (.bl k)) (q:if k=true then Q (.bl true) H else u σ H Q):Sb t u σ H Q:=e _ ⟨_,rfl,q⟩
def T5 (q:t σ H fun x H1=>u σ H1 fun y H2=>r x y H2 Q):fP r t u σ H Q:=q
def Qq (q:t σ H fun x H1=>ta σ H1 fun xs H2=>R (x::xs) H2):bX t ta σ H R:=q
def TQ (e:Ev t σ H x) (q:u σ H fun y H2=>r x y H2 Q):fP r t u σ H Q:=e _ q
def Qp (e:Ev t σ H v) (q:ta σ H fun xs H2=>R (v::xs) H2):bX t ta σ H R:=e _ q
def TR (q:Q (g i j) H):wj g (.int i) (.int j) H Q:=⟨i,j,rfl,rfl,q⟩
def R4 (h:H p=some (.tup xs)) (e:DA xs j=some v) (q:Q v H):rH K (.ref p) (.int j) H Q:=⟨_,_,_,_,rfl,rfl,dB.of h,e,q⟩
end
def df {g:TG} {tb:TS} {x:V} {σ:St} {H:Hp} {A C:St->Hp->Prop} {B:VK} (h:∀N:Ends,(∀σ H,A σ H->N.nx σ H)->(∀v H,B v H->N.rt v H)->(∀σ H,A σ H->N.ct σ H)->(∀σ H,C σ H->N.bk σ H)->g x σ H fun σ2 H2=>tb N σ2 H2):g x σ H fun σ2 H2=>tb {nx:=A,rt:=B,bk:=C,ct:=A} σ2 H2:=h _ (fun _ _ z=>z) (fun _ _ z=>z) (fun _ _ z=>z) fun _ _ z=>z
def TX {r:Sp} {vs:List V} {H:Hp} {Q:VK} {E:XK} (h:∀Q':VK,(∀v H',Q v H'->Q' v H')->r vs H Q' E):r vs H Q E:=h Q fun _ _ z=>z
def TY {r:R2} {x y:V} {H:Hp} {Q:VK} (h:∀Q':VK,(∀v H',Q v H'->Q' v H')->r x y H Q'):r x y H Q:=h Q fun _ _ z=>z
def TV {r:V->Hp->VK->Prop} {x:V} {H:Hp} {Q:VK} (h:∀Q':VK,(∀v H',Q v H'->Q' v H')->r x H Q'):r x H Q:=h Q fun _ _ z=>z
abbrev di (P:Program) (w:World) (base:Heap) (n:Nat) {K:yB} {mg:Str->Option Value} {x:Str} {st:Stmt} {a:Addr} {d:FuncData} {ps:List Str} (_:Df K mg x st a d ps) (sp:Sp):Prop:=dU P w K mg base Ie n a d ps sp
theorem _root_.L2.Oj.To {P:Program} {w:World} {K:yB} {mg:Str->Option Value} {base:Heap} {x qual:Str} {st:Stmt} {f:Addr} {fd:FuncData} {N ps:List Str} {k:Nat} {sp:Sp} (F:Oj K x qual st f fd) (S:aF N ps (aq st))
  (hbody:∀(cdv:Value) (A:Around) (outer:List Env) (s:Shared) (H:Hp) (vs:List V) (Q:VK) (E:XK),gg k (A.deeper (PyProof.Rows.envOfC qual (aq st) ↑s f cdv))->sp vs H Q E->
   ∃t,DC (lB Ie P w K mg base N qual (aq st) f cdv A outer s H E).IU (cF st) t/\t (Dz Q) (start N vs) H)
  (len:(∀vs H Q E,sp vs H Q E->vs.length=ps.length)<|>qk_):dU P w K mg base Ie (k+1) f fd ps sp:=F.ok S len hbody
def UP {P:Program} {w:World} {K:yB} {mg:Str->Option Value} {base:Heap} {x:Str} {st:Stmt} {f:Addr} {fd:FuncData} {N ps:List Str} {k:Nat} {sp:Sp} (D:Df K mg x st f fd ps) (S:aF N ps (aq st))
  (hbody:∀(cdv:Value) (A:Around) (outer:List Env) (s:Shared) (H:Hp) (vs:List V) (Q:VK) (E:XK),gg k (A.deeper (PyProof.Rows.envOfC x (aq st) ↑s f cdv))->sp vs H Q E->
   ∃t,DC (lB Ie P w K mg base N x (aq st) f cdv A outer s H E).IU (cF st) t/\t (Dz Q) (start N vs) H)
  (len:(∀vs H Q E,sp vs H Q E->vs.length=ps.length)<|>qk_):dU P w K mg base Ie (k+1) f fd ps sp:=D.F.ok S len hbody
def dH {N P:List Str} {sc:Scope} (h1:sc.kind=.function<|>qe_) (h2:sc.isCoroutine=false<|>qe_) (h3:sc.isGenerator=false<|>qe_) (h4:N.Nodup<|>ql_) (h5:N.take P.length=P<|>qe_) (h6:(∀x∈P,sc.names.lookup x=some .local\/sc.names.lookup x=some .cell)<|>ql_) (h7:(∀y∈sc.names,y.2≠.free)<|>ql_):aF N P sc:=⟨h1,h2,h3,h4,h5,h6,h7⟩
def eQ {X:Cx} {x:Str} {id:String} {r:List V->Hp->VK->Prop} {e:Expr} {es:List Expr} {t:TA} {p pos:Pos} (hc:gc X (.builtin id) r) (hm:X.mg x=none) (ha:PA X (e::es) t) (hg:Gl X x<|>qe_) (hv:bootBuiltins x=some (.builtin id)<|>ql_) (hn:x≠ "__name__"<|>qb_) (hdb:(x == ("__debug__": Str))=false<|>qb_)
  (he:starEach (e::es) X.env=(false,eval e X.env)::starEach es X.env<|>qe_) (hpl:(backTo pos (starEach es X.env)).any (·.1)=false<|>qe_):PE X (.Call (.Name x p) (e::es) [] pos) (KR r t):=Gx hc hg hm hv ha hn hdb he hpl
def ox {X:Cx} {x:Str} {id:String} {r:List V->Hp->VK->Prop} {e:Expr} {es:List Expr} {t:TA} {p pos:Pos} (hc:gc X (.type id) r) (hm:X.mg x=none) (ha:PA X (e::es) t) (hg:Gl X x<|>qe_) (hv:bootBuiltins x=some (.type id)<|>ql_) (hn:x≠ "__name__"<|>qb_) (hdb:(x == ("__debug__": Str))=false<|>qb_)
  (he:starEach (e::es) X.env=(false,eval e X.env)::starEach es X.env<|>qe_) (hpl:(backTo pos (starEach es X.env)).any (·.1)=false<|>qe_):PE X (.Call (.Name x p) (e::es) [] pos) (KR r t):=Lc hc hg hm hv ha hn hdb he hpl
def bT {X:Cx} {x:Str} {e:Expr} {te:TE} {pos pos':Pos} (i:Nat) (hN:X.N.Nodup) (he:PE X e te) (hi:X.N[i]?=some x<|>qe_) (hx:Loc X.env.scope x<|>qi_) (hs:swapsWith e (some (.Name x pos')) pos.line X.env=pure false<|>qe_) (hf:X.fn x=true\/X.env.scope.names.lookup x=some .local<|>qa_) :
  PS X (.Assign [.Name x pos'] e pos) (FU te (cg i)):=M3 hN hi hx he hs hf
def jR {X:Cx} {x:Str} {pos:Pos} (i:Nat) (hN:X.N.Nodup) (hi:X.N[i]?=some x<|>qe_) (hx:Loc X.env.scope x<|>qi_) (hf:X.fn x=true\/X.env.scope.names.lookup x=some .local<|>qa_):PG X (.Name x pos) (cg i):=J8 hN hi hx hf
def hJ {X:Cx} {ts ys:List Str} {scope:Scope} {cl:List (Str×Addr)} {C:Addr} {s₀:Shared} {H₀:Hp} {ex:List Addr} {x:Str} {pos:Pos} (i:Nat) (hN:(ts++ys).Nodup<|>ql_) (hi:(ts++ys)[i]?=some x<|>qe_) (hx:Loc (cY X (ts++ys) scope cl C s₀ H₀ ex).env.scope x<|>qi_) (hf:(cY X (ts++ys) scope cl C s₀ H₀ ex).fn x=true\/(cY X (ts++ys) scope cl C s₀ H₀ ex).env.scope.names.lookup x=some .local<|>qa_):PG (cY X (ts++ys) scope cl C s₀ H₀ ex) (.Name x pos) (cg i):=J8 hN hi hx hf
section
variable {X:Cx} {pos:Pos} {elt target iter:Expr} {ifs:List Expr} {scope:Scope} {ts ys:List Str} {js:List Nat} {cl:List (Str×Addr)} {wi:TI} {g:TG} {tc:TT} {te:TE}
def qh (hi:PI X target iter wi) (hg:∀{C s₀ H₀ ex},PG (cY X (ts++ys) scope cl C s₀ H₀ ex) target g) (hif:∀{C s₀ H₀ ex},PH (cY X (ts++ys) scope cl C s₀ H₀ ex) ifs tc) (he:∀{C s₀ H₀ ex},PE (cY X (ts++ys) scope cl C s₀ H₀ ex) elt te)
  (hclos:closureFor scope X.env=pure cl<|>qe_) (hc:X.calm=true<|>qe_) (hcl:Fs X.env.cells cl<|>qm_)
  (hLo:((relabel scope X.env).names.all fun p=>(p.2 != .cell&&p.2 != .free)||ys.contains p.1||scope.names.contains (p.1,.cell))=true<|>qe_) (hno:(∀p∈scope.names,p.2=.cell->p.1∉ys)<|>ql_)
  (hfr:L6 X scope cl ys js<|>qm_)
  (hkind:scope.kind=.function<|>qe_) (hnames:(∀y∈scope.names,y.2=.local->scope.names.lookup y.1=some .local)<|>ql_) (hs:(∀x,foldedSetIterable iter X.env x=pure x)<|>qd_) :
  PE X (.ListComp elt [⟨target,iter,ifs,0⟩] scope pos) (oB (ts.map (fun _=>none)++js.map some) wi g tc te):=Ng hc hclos hcl hLo hno hfr hkind hnames hi (fun _ _ _ _=>hg) (fun _ _ _ _=>hif) (fun _ _ _ _=>he) hs
def Oo {i:Nat} {x:Str} {ps pa:Pos} (hi:PI X target iter wi) (hg:∀{C s₀ H₀ ex},PG (cY X (ts++ys) scope cl C s₀ H₀ ex) target g) (hif:∀{C s₀ H₀ ex},PH (cY X (ts++ys) scope cl C s₀ H₀ ex) ifs tc) (he:∀{C s₀ H₀ ex},PE (cY X (ts++ys) scope cl C s₀ H₀ ex) elt te) (hN:X.N.Nodup)
  (hclos:closureFor scope X.env=pure cl<|>qe_) (hc:X.calm=true<|>qe_) (hcl:Fs X.env.cells cl<|>qm_)
  (hLo:((relabel scope X.env).names.all fun p=>(p.2 != .cell&&p.2 != .free)||ys.contains p.1||scope.names.contains (p.1,.cell))=true<|>qe_) (hno:(∀p∈scope.names,p.2=.cell->p.1∉ys)<|>ql_)
  (hfr:L6 X scope cl ys js<|>qm_)
  (hkind:scope.kind=.function<|>qe_) (hnames:(∀y∈scope.names,y.2=.local->scope.names.lookup y.1=some .local)<|>ql_) (hx1:X.N[i]?=some x<|>qe_) (hx2:Loc X.env.scope x<|>qi_) (hs:(∀x,foldedSetIterable iter X.env x=pure x)<|>qd_) (hsw:swapsWith (.ListComp elt [⟨target,iter,ifs,0⟩] scope pos) (some (.Name x ps)) pa.line X.env=pure true<|>qe_)
  (hf:X.fn x=true\/X.env.scope.names.lookup x=some .local<|>qa_) :
  PS X (.Assign [.Name x ps] (.ListComp elt [⟨target,iter,ifs,0⟩] scope pos) pa) (FU (oB (ts.map (fun _=>none)++js.map some) wi g tc te) (cg i)):=M5 hc hclos hcl hLo hno hfr hkind hnames hi (fun _ _ _ _=>hg) (fun _ _ _ _=>hif) (fun _ _ _ _=>he) hN hx1 hx2 hs hsw hf
end
section
variable {P:Program} {w:World} {K:yB} {mg:Str->Option Value} {base:Heap} (T:Txt K mg)
local macro_rules | `(tactic|right) => `(tactic| (intro pp hn; generalize hG : upd _ pp _ = HH; have sm := aB.lj hG hn; have hh := lD hG; clear hG hn))
local macro_rules|`(tactic|ac_rfl)=>`(tactic|try dsimp only[lB,Cx.IU])
local macro_rules|`(tactic|intros $p:ident $H:ident $s:ident $h:ident)=>`(tactic|(intro $p hn;generalize hG:upd _ $p _=$H;have $s:ident:=aB.lj hG hn;have $h:ident:=lD hG;clear hG hn))
local macro_rules|`(tactic|change $e:term)=>`(tactic|(left ;exact $e))
set_option hygiene false
local macro_rules|`(tactic|fail "h")=>`(tactic|(refine aB.on (by assumption) ?_; fail "h"))
local macro_rules|`(tactic|fail "h")=>`(tactic|assumption)
local macro_rules|`(tactic|fail "e")=>`(tactic|((with_reducible apply SN); fail "e"; fail "e"; (first | (show (0 : Int) < _; decide) | exact And.intro ∅ ∅ | exact Or.inl ⟨∅, by decide⟩ | exact Or.inr ⟨∅, by decide⟩)))
local macro_rules|`(tactic|fail "e")=>`(tactic|((with_reducible (first | apply SQ | apply SK)); fail "e"; fail "e"; exact rfl))
local macro_rules|`(tactic|fail "e")=>`(tactic|((with_reducible (first | apply UD | apply UH | apply UE | apply Rz | apply Pl | apply Rx)); fail "e"))
local macro_rules|`(tactic|fail "e")=>`(tactic|((with_reducible apply SM); fail "e"; fail "e"; fail "h"; exact rfl))
local macro_rules|`(tactic|fail "e")=>`(tactic|((with_reducible (first | apply SO | apply Pn)); fail "e"; fail "e"))
local macro_rules|`(tactic|fail "e")=>`(tactic|with_reducible (first | exact UG | exact Ry))
local macro_rules|`(tactic|fail "e")=>`(tactic|((with_reducible apply Rw); exact rfl))
local macro_rules | `(tactic| exists $es,*) => `(tactic| (left; first | ((with_reducible (first | refine TX fun _ kq => ?_ | refine TY fun _ kq => ?_ | refine TV fun _ kq => ?_)); refine ⟨$es,*⟩; refine kq _ _ ?_) | refine ⟨$es,*⟩))
local macro_rules|`(tactic|fail "s")=>`(tactic|refine Or.inr ⟨_, rfl, ?_⟩)
local macro_rules|`(tactic|fail "s")=>`(tactic|refine ⟨Or.inr ⟨∅, by decide⟩, ?_⟩)
local macro_rules|`(tactic|fail "s")=>`(tactic|refine ⟨Or.inl ⟨∅, by decide⟩, ?_⟩)
local macro_rules|`(tactic|fail "s")=>`(tactic|refine ⟨(And.intro ∅ ∅), ?_⟩)
local macro_rules|`(tactic|fail "s")=>`(tactic|refine ⟨(by show (0 : Int) < _; decide), ?_⟩)
local macro_rules|`(tactic|fail "s")=>`(tactic|refine ⟨_, OC (by fail "h"), ?_⟩)
local macro_rules|`(tactic|fail "s")=>`(tactic|refine ⟨_, _, _, _, rfl, rfl, dB.of (by fail "h"), rfl, ?_⟩)
local macro_rules|`(tactic|fail "s")=>`(tactic|refine Uy ?_)
local macro_rules|`(tactic|fail "s")=>`(tactic|refine SD ?_)
local macro_rules|`(tactic|fail "s")=>`(tactic|refine ⟨rfl, ?_⟩)
local macro_rules|`(tactic|fail "s")=>`(tactic|refine ⟨_, _, rfl, rfl, ?_⟩)
local macro_rules|`(tactic|fail "s")=>`(tactic|refine ⟨_, rfl, ?_⟩)
local macro_rules|`(tactic|fail "s")=>`(tactic|with_reducible (first | apply TR | apply U1 | apply U2 | apply x_call | apply TN | apply RY | apply R0 | apply Qo | apply TC | apply TJ | apply T5 | apply Qq))
local macro_rules|`(tactic|fail "s")=>`(tactic|((with_reducible apply R4); fail "h"; exact rfl))
local macro_rules|`(tactic|fail "s")=>`(tactic|((with_reducible (first | apply Qr | apply T8 | apply Uj | apply R5 | apply T9 | apply R6 | apply T4 | apply TQ | apply Qp | apply TZ | apply T6 | apply T7 | apply T3 | apply Sj | apply Ui | apply Ul)); fail "e"))
local macro_rules|`(tactic|fail "s")=>`(tactic|((with_reducible apply Sg); fail "e"))
local macro_rules|`(tactic|fail "s")=>`(tactic|((with_reducible apply w_arg); fail "e"))
local macro_rules|`(tactic|fail "s")=>`(tactic|((with_reducible apply TU); fail "e"))
local macro_rules|`(tactic|fail "s")=>`(tactic|with_reducible (first | apply TB (K := K) | apply TL | apply TH | apply TF | apply x_at | apply R3 | apply RZ | apply Qn | apply TM (K := K) | apply TK | apply R1 (K := K)))
local macro_rules|`(tactic|fail "s")=>`(tactic|((with_reducible (first | apply Si | apply Sh | apply Uk (K := K))); fail "e"))
local macro_rules | `(tactic|left) => `(tactic| ((repeat fail "s"); (first | (first | apply kN4 | apply kN3 | apply kN2 | apply kN1 | apply kN0 | apply kR4 | apply kR3 | apply kR2 | apply kR1 | apply kR0); left | skip)))
local macro_rules | `(tactic| nomatch $a:term, $b:term) => `(tactic| refine UP $a $b fun _ _ _ _ H vs Q E hr h => ?_)
set_option hygiene true
def eL:aF ["one","other","rest"] ["one","other"] (aq lM):=dH
def tQ:di P w base 1 T.gB kf:=by
 nomatch T.gB,eL
 obtain⟨a,b,rfl,h1,h2,kk⟩:=h;refine⟨_,(ag (tI PassesOwn.never (ptr lT (pv 1) ae)
  (ag (bT 2 eL.nd (ax aV (pv 0) (pv 1)))
   (ag (bT 0 eL.nd (pv 1))
   (ak (bT 1 eL.nd (pv 2))))))
  (ak (au (pv 0)))),?_⟩
 refine⟨fun m σ H'=>H'=H/\∃(x y:Int) (r:Option V),σ=[some (.int x),some (.int y),r]/\0<=x/\0<=y/\Int.gcd x y=Int.gcd a b/\m=y.toNat,⟨_,rfl,a,b,none,rfl,h1,h2,rfl,rfl⟩,?_⟩;rintro m σ H' ⟨rfl,x,y,r,rfl,hx,hy,hg,rfl⟩;left
 by_cases e:y=0
 ·subst e
  refine Qc rfl ?_;refine⟨_,rfl,?_⟩;have e2:Int.gcd a b=x.natAbs:=by rw[<-hg];simp
  have e3:((Int.gcd a b:Nat):Int)=x:=by rw[e2];omega
  rw[e3] at kk;exact kk
 ·refine cb (by simp[e]) ?_
  refine⟨fun σ' H''=>∃m',m'<y.toNat/\H''=H'/\∃(x y:Int) (r:Option V),σ'=[some (.int x),some (.int y),r]/\0<=x/\0<=y/\Int.gcd x y=Int.gcd a b/\m'=y.toNat,fun _ _ h=>h,?_⟩;exists(by show(0:Int)<y;omega),?_;left;have hp:(0:Int)<y:=nofun
  have l1:=zw x (by omega:y≠0);have l2:=zt x hp;exact⟨(x%y).toNat,nofun,rfl,y,x%y,_,rfl,hy,l1,(G1 hx hp).trans hg,rfl⟩
def oM:aF ["top","bottom","divisor"] ["top","bottom"] (aq qN):=dH
def jV:di P w base 2 T.eZ gj:=by
 have G_common_divisor:di P w base 1 T.gB kf:=tQ T
 nomatch T.eZ,oM
 obtain⟨t,b,rfl,h1,h2,h3,kk⟩:=h;refine⟨_,(ag (bT 2 oM.nd (bK G_common_divisor hr T.gB (ah (pv 0) (ah (pv 1) af))))
  (ak (au (bG (ah (ax tO (pv 0) (pv 2)) (ah (ax tO (pv 1) (pv 2)) af)))))),?_⟩
 exists t,b,rfl,h1,Int.le_of_lt h2,?_;have g0:=xO (t:=t) h2;have g1:Sz 8999 ((Int.gcd t b:Nat):Int):=h3.le (Int.le_of_lt g0) (NI h2);exists⟨g0,g1⟩,?_;exists⟨g0,g1⟩,?_;refine⟨cT,laid fun p H' sm hp=>kk p H' sm ?_⟩;exact hp
def MK:aF ["one","other"] ["one","other"] (aq J4):=dH
def GI:di P w base 3 T.added MH:=by
 have G_made_length:di P w base 2 T.eZ gj:=jV T
 nomatch T.added,MK
 obtain⟨x,y,p,q,n,m,rfl,hp,hq,rx,ry,sx,sy,hnm,kk⟩:=h;obtain⟨x1,x2,_⟩:=rx.pos;obtain⟨y1,y2,_⟩:=ry.pos;have bx1:Sz 20000 x.1:=sx.1.mono nofun;have bx2:Sz 20000 x.2:=sx.2.mono nofun;have by1:Sz 20000 y.1:=sy.1.mono nofun;have by2:Sz 20000 y.2:=sy.2.mono nofun;refine⟨_,(ak (au (bK G_made_length hr T.eZ (ah (ax aY (ax tN (bO (pv 0) ae) (bO (pv 1) ae)) (ax tN (bO (pv 1) ae) (bO (pv 0) ae))) (ah (ax tN (bO (pv 0) ae) (bO (pv 1) ae)) af))))),?_⟩;exists⟨bx1,by2⟩,?_;exists⟨by1,bx2⟩,?_;exists⟨bx2,by2⟩,?_;refine⟨_,_,rfl,Int.add_nonneg (Int.mul_nonneg x1 (Int.le_of_lt y2)) (Int.mul_nonneg y1 (Int.le_of_lt x2)),Int.mul_pos x2 y2,(sx.2.mul sy.2).mono hnm,fun r H' sm hr'=>kk r H' sm hr'⟩
def IE:aF ["one","other"] ["one","other"] (aq CT):=dH
def IS:di P w base 1 T.DY Iw:=by
 nomatch T.DY,IE
 obtain⟨x,y,p,q,rfl,hp,hq,sx,sy,kk⟩:=h;have bx1:Sz 20000 x.1:=sx.1.mono nofun;have bx2:Sz 20000 x.2:=sx.2.mono nofun;have by1:Sz 20000 y.1:=sy.1.mono nofun;have by2:Sz 20000 y.2:=sy.2.mono nofun;refine⟨_,(ak (au (dY fA (ax tN (bO (pv 0) ae) (bO (pv 1) ae)) (ax tN (bO (pv 1) ae) (bO (pv 0) ae)) (iS _)))),?_⟩;exists⟨bx1,by2⟩,?_;exists⟨by1,bx2⟩,?_;change kk
def BY:aF ["_law_cell","_law_k"] ["_law_cell","_law_k"] (aq tf):=dH
def bW:di P w base 1 T.cG BP:=by
 nomatch T.cG,BY
 obtain⟨c,k,rfl,h1,h2,kk⟩:=h;refine⟨_,(ak (au (ax aV (ax dJ (ax dJ (ax aY (ax aV (pv 0) ae) ae) (ax aY (ax dJ (pv 1) (pv 1)) ae)) ae) ae))),?_⟩;exists Or.inl ⟨nofun,nofun⟩,?_;left;have e1:0<=c%2305843009213693951:=zw _ ∅;have e2:c%2305843009213693951<2305843009213693951:=zt _ ∅;refine⟨Or.inl ⟨nofun,nofun⟩,?_⟩;change kk
def jI:aF ["_law_top","_law_bottom","_law_one","_law_other"] ["_law_top","_law_bottom"] (aq qO):=dH
def eY:di P w base 1 T.fg yT:=by
 nomatch T.fg,jI
 obtain⟨t,b,rfl,h1,h2,h3,kk⟩:=h;have g0:=xO (t:=t) h2;have g1:Sz 8999 ((Int.gcd t b:Nat):Int):=h3.le (Int.le_of_lt g0) (NI h2);refine⟨_,(ag (M4 (i:=2) (j:=3) rfl jI.nd rfl rfl ∅ rfl rfl (ah (pv 0) (ah (pv 1) af)) rfl)
  (ag (tI PassesOwn.never (ptr fI (pv 3) ae)
  (ak (M4 (i:=2) (j:=3) rfl jI.nd rfl rfl ∅ rfl rfl (ah (pv 3) (ah (ax aV (pv 2) (pv 3)) af)) rfl)))
  (ak (au (bG (ah (ax tO (pv 0) (pv 2)) (ah (ax tO (pv 1) (pv 2)) af))))))),?_⟩
 exists _,_,rfl,?_;refine⟨fun m σ H'=>H'=H/\∃(x y:Int),σ=[some (.int t),some (.int b),some (.int x),some (.int y)]/\0<=x/\0<=y/\Int.gcd x y=Int.gcd t b/\m=y.toNat,⟨_,rfl,t,b,rfl,h1,Int.le_of_lt h2,rfl,rfl⟩,?_⟩;rintro m σ H' ⟨rfl,x,y,rfl,hx,hy,hg,rfl⟩;left
 by_cases e:y=0
 ·subst e
  refine cq (by simp) ?_;have e2:Int.gcd t b=x.natAbs:=by rw[<-hg];simp
  have e3:x=((Int.gcd t b:Nat):Int):=by rw[e2];omega
  subst e3;exists⟨g0,g1⟩,?_;exists⟨g0,g1⟩,?_;refine⟨cT,laid fun p H' sm hp=>kk p H' sm ?_⟩;exact hp
 ·have hp:(0:Int)<y:=nofun
  refine cb (zg hp) ?_;refine⟨fun σ' H''=>∃m',m'<y.toNat/\H''=H'/\∃(x y:Int),σ'=[some (.int t),some (.int b),some (.int x),some (.int y)]/\0<=x/\0<=y/\Int.gcd x y=Int.gcd t b/\m'=y.toNat,fun _ _ h=>h,?_⟩;exists(by show(0:Int)<y;omega),?_;refine⟨_,_,rfl,?_⟩;have l1:=zw x (by omega:y≠0);have l2:=zt x hp;exact⟨(x%y).toNat,nofun,rfl,y,x%y,rfl,hy,l1,(G1 hx hp).trans hg,rfl⟩
def yZ:aF ["text","most"] ["text","most"] (aq qK):=dH
def oK:aF ["text","most","number"] ["text","most"] (aq qH):=dH
def kW:aF ["fifths_text","steps_text","fifths","steps"] ["fifths_text","steps_text"] (aq sT):=dH
def eW:aF ["text","parts","top","bottom"] ["text"] (aq qL):=dH
def iZ:aF ["text","length"] ["text"] (aq jJ):=dH
def i6:aF ["text","parts","length","pitch"] ["text"] (aq vV):=dH
def iR:di P w base 1 T.dN iO:=by
 nomatch T.dN,yZ
 obtain⟨t,most,rfl,hl,kk⟩:=h;have sl:=yC;have hz:t.length<=sizeLine:=nofun
 have el:t.cps.toList.length=t.length:=Array.length_toList;unfold rn at kk;rw[el] at kk;refine⟨_,(ag (aJ (PW.pt (eD (ptr fA (eQ gC T.bC (ah (pv 0) af)) ae) (dC (ptr fI (eQ gC T.bC (ah (pv 0) af)) (pv 1)))))
  (ak (au aW))
  aD)
  (ag (aJ (fB (cU (eQ (pU rfl) T.Kb (ah (qh (ts:=["sign"]) (ys:=[]) (js:=[]) (te:=(fP (fun x y H Q=>∃i j,x=.str i/\y=.str j/\Q (.bl (!(Builtin.Str.occurrences j i 0 j.length 1).isEmpty)) H) (bf 0) (tC (.str "0123456789")))) (M9 (pv 0)) (hJ 0) bD (dY C3 (pv 0) (b8 (v:=.str "0123456789") (by rfl) T.LP ⟨_,rfl⟩) (by with_unfolding_all rfl))) af))))
  (ak (au aW))
  aD)
  (ag (aJ (PW.pt (dI (ptr dj (Aq EE (pv 0) ae (fun _ _=>rfl)) aN) (dn (ptr fI (eQ gC T.bC (ah (pv 0) af)) ae))))
  (ak (au aW))
  aD)
  (ak (au (ox E5 T.P9 (ah (pv 0) af))))))),?_⟩
 exists hz,?_;left;refine xh (fun c1=>?_) (fun c1=>?_)
 ·left
  have z:=kk H (aB.refl H);rw[if_pos (ye c1)] at z;exact z
 have c1':¬(t.length:Int)<1:=fun z=>c1 (zg z);rw[if_neg c1'] at kk;exists hz,?_;left;refine xh (fun c2=>?_) (fun c2=>?_)
 ·left
  have z:=kk H (aB.refl H);rw[if_pos (ye c2)] at z;exact z
 have c2':¬most<(t.length:Int):=fun z=>c2 (zg z);rw[if_neg c2'] at kk;left;refine pC t.length (fun i=>(t.cps.toList.take i).map fun c=>V.bl (decide (c∈xk))) (fun i σ H'=>H'=H/\∃v,σ=[v]) (fun i hi=>by rw[za,zQ];omega) nofun rfl ⟨rfl,none,rfl⟩ (fun i σ H' hi _=>hi) (fun σ H' _=>zm _) ?_ ?_
 ·rintro i x σ H1 H2 hi ⟨rfl,v,rfl⟩ ⟨rfl,c,hc,rfl⟩
  left;refine Ig.push hi ?_ ⟨rfl,_,rfl⟩;rw[PySem.StrLaws.found_one];rw[<-Array.getElem?_toList] at hc;show List.map _ (List.take (i+1) t.cps.toList)=_;rw[List.take_add_one,hc,zk];rfl
 ·rintro σ H1 ⟨rfl,_⟩
  rw[<-el,zN];intros D H2 sm h2;refine⟨D,t.cps.toList.map (fun c=>decide (c∈xk)),rfl,aL.of (by rw[h2,zB];rfl),?_⟩;have ea:(t.cps.toList.map (fun c=>decide (c∈xk))).all id=t.cps.toList.all (fun c=>decide (c∈xk)):=by rw[List.all_map];rfl
  rw[ea]
  by_cases ha:t.cps.toList.all (fun c=>decide (c∈xk))=true
  ·rw[ha]
   rw[if_pos ha] at kk;left;have h1:0<t.cps.size:=by show 0<t.length;omega
   obtain⟨c,hc⟩:∃c,t.cps[0]?=some c:=⟨t.cps[0]'h1,Array.getElem?_eq_getElem h1⟩
   have hc':t.cps.toList[0]?=some c:=by rw[Array.getElem?_toList];exact hc
   rw[hc'] at kk;refine⟨_,0,c,rfl,rfl,hz,bE (j:=0) hc',?_⟩;left;have rd:PySem.intText? t=some ((NumText.digitsVal t.cps.toList:Nat):Int):=PySem.intText_digits (JA ha) (fun z=>by rw[z] at el;simp at el;omega) nofun
   by_cases e0:c=48
   ·subst e0
    refine cb ∅ ?_;exists hz,?_;left;refine xh (fun c3=>?_) (fun c3=>?_)
    ·left
     have c3':1<t.length:=by have:=ye c3;omega
     have z:=kk H2 sm;rw[if_pos ⟨rfl,c3'⟩] at z;exact z
    ·have c3':¬1<t.length:=fun z=>c3 (zg nofun)
     have z:=kk H2 sm;rw[if_neg (fun q=>c3' q.2)] at z;change⟨_,_,rfl,rd,nofun,z⟩
   ·refine cq (ze fun z=>e0 ?_) ?_
    ·have z':=V.str.inj z
     exact(List.cons.inj (show [c]=[48] from congrArg (fun y:Str=>y.cps.toList) z')).1
    have z:=kk H2 sm;rw[if_neg (fun q=>e0 (yk q.1))] at z;change⟨_,_,rfl,rd,nofun,z⟩
  ·rw[if_neg ha] at kk
   rw[Bool.eq_false_iff.mpr ha];change kk H2 sm
def nP:di P w base 2 T.fW ng:=by
 have G_read_number:di P w base 1 T.dN iO:=iR T
 nomatch T.fW,oK
 obtain⟨t,most,rfl,hl,kk⟩:=h;have sl:=yC;unfold rs at kk;refine⟨_,(ag (aJ (fB (cU (bY yG PySem.F.slot_str_startswith PySem.F.type_str_startswith Cd (pv 0) (ah aN af))))
  (ak (au (bK G_read_number hr T.dN (ah (pv 0) (ah (pv 1) af)))))
  aD)
  (ag (bT 2 oK.nd (bK G_read_number hr T.dN (ah (dP IB (pv 0) (eN ae) eO) (ah (pv 1) af))))
  (ag (aJ (PW.pt (eD (bF (cJ (pv 2))) (dC (ptr dj (pv 2) ae))))
  (ak (au aW))
  aD)
  (ak (au (tK mj (pv 2))))))),?_⟩
 left
 by_cases hn:t.cps.toList[0]?=some 45
 ·rw[if_pos hn] at kk
  have q:=(PySem.StrLaws.subAt_one t 45 0).mpr hn;have es:(decide (0+("-": Str).length<=t.length)&&Builtin.Str.subAt t "-" 0)=true:=by
   rw[zO];exact⟨zg q.1,q.2⟩
  rw[es];exists by omega,?_
  have h1:1<=t.length:=by have:=q.1;have e:(⟨#[45]⟩:Str).length=1:=rfl;omega
  have e1:(PySem.Txt.slice t (some 1) none).cps.toList=t.cps.toList.drop 1:=q9 t h1;exists _,most,rfl,zM (PySem.Txt.slice_le t _ _) hl,fun H1 s1=>?_;rw[e1];have z:=kk H1 s1;cases hr':rn most (t.cps.toList.drop 1) with
  | none=>
   rw[hr'] at z;change z
  | some n=>
   rw[hr'] at z;left
   by_cases e0:n=0
   ·subst e0
    refine cb ∅ ?_;change z
   ·refine cq (ze fun y=>e0 (V.int.inj y)) ?_
    left;have z':Q (ov (if n=0 then none else some (-n))) H1:=z;rw[if_neg e0] at z';exact z'
 ·rw[if_neg hn] at kk
  have es:(decide (0+("-": Str).length<=t.length)&&Builtin.Str.subAt t "-" 0)=false:=by
   rw[Bool.eq_false_iff];intro z;rw[zO] at z;exact hn ((PySem.StrLaws.subAt_one t 45 0).mp ⟨ye z.1,z.2⟩)
  rw[es];change⟨t,most,rfl,hl,fun H1 s1=>kk H1 s1⟩
def pf:di P w base 3 T.jP oF:=by
 have G_read_signed:di P w base 2 T.fW ng:=nP T
 nomatch T.jP,kW
 obtain⟨a,b,rfl,la,lb,kk⟩:=h;unfold rp at kk;refine⟨_,(ag (bT 2 kW.nd (bK G_read_signed hr T.fW (ah (pv 0) (ah (b8 (v:=.int 2) (by rfl) T.oh ⟨_,rfl⟩) af))))
  (ag (bT 3 kW.nd (bK G_read_signed hr T.fW (ah (pv 1) (ah (b8 (v:=.int 2) (by rfl) T.oh ⟨_,rfl⟩) af))))
  (ag (aJ (PW.pt (eD (bF (cJ (pv 2))) (dC (bF (cJ (pv 3))))))
  (ak (au aW))
  aD)
  (ag (aJ (ptr lT (ax aV (ax jT (pv 3) (ax dJ (b8 (v:=.int 7) (by rfl) T.Cw ⟨_,rfl⟩) (pv 2))) (b8 (v:=.int 12) (by rfl) T.Bb ⟨_,rfl⟩)) ae)
  (ak (au aW))
  aD)
  (ak (au (bG (ah (pv 2) (ah (pv 3) af))))))))),?_⟩
 exists a,2,rfl,la,fun H1 s1=>?_;exists b,2,rfl,lb,fun H2 s2=>?_;have S2:=s1.trans s2;cases ea:rs 2 a with
 | none=>
  rw[ea] at kk;change kk .bR H2 S2 .bR
 | some f=>
  cases eb:rs 2 b with
  | none=>
   rw[ea,eb] at kk;change kk .bR H2 S2 .bR
  | some g=>
   rw[ea,eb] at kk;left
   by_cases hm:(g-7*f)%12=0
   ·refine Qc (congrArg V.int hm) ?_
    left;refine⟨cT,laid fun p H3 s3 hp=>kk (.ref p) H3 (S2.trans s3) ?_⟩;show JN H3 (.ref p) (if(g-7*f)%12=0 then some (f,g) else none);rw[if_pos hm];exact .ref hp
   ·refine cb (by simp[hm]) ?_
    left;refine kk .bR H2 S2 ?_;show JN H2 .bR (if(g-7*f)%12=0 then some (f,g) else none);rw[if_neg hm];exact .bR
def nO:dU P w K mg base (Ic P w) 3 T.lE T.lA ["text"] (nc T.j8):=by
 have G_read_number:di P w base 1 T.dN iO:=iR T;have G_made_length:di P w base 2 T.eZ gj:=jV T;refine T.eX.F.U5 eW (fun vs H Q E h=>?_) (fun cdv A' outer s H vs Q E hr h=>?_)
 ·obtain⟨_,rfl,_⟩:=h;rfl
 ·obtain⟨t,rfl,lt,k1,k2⟩:=h
  have sl:=yC;have pl:=PyProof.Rows.split_pos t "/";have sh:∀z∈Txt.split t "/",z.length<=600:=fun z hz=>zM (PyProof.Rows.part_short hz) lt;unfold Oq at k1 k2;refine⟨_,(ag (bT 1 eW.nd (bY yG yK yJ jW (pv 0) (ah aN af)))
   (ag (aJ (ptr fI (eQ aG T.bC (ah (pv 1) af)) ae)
   (ak (Gn T.mS T.mH PySem.F.excBase_ValueError rfl (ah aN af)))
   aD)
   (ag (bT 2 eW.nd (bK G_read_number hr T.dN (ah (gd (pv 1) ae) (ah (b8 (v:=.int 4) (by rfl) T.md ⟨_,rfl⟩) af))))
   (ag (bT 3 eW.nd ae)
   (ag (aJ (ptr dj (eQ aG T.bC (ah (pv 1) af)) ae)
   (ak (bT 3 eW.nd (bK G_read_number hr T.dN (ah (gd (pv 1) ae) (ah (b8 (v:=.int 4) (by rfl) T.md ⟨_,rfl⟩) af)))))
   aD)
   (ag (aJ (PW.pt (eD (bF (cJ (pv 2))) (eD (bF (cJ (pv 3))) (dC (ptr dj (pv 3) ae)))))
   (ak (Gn T.mS T.mH PySem.F.excBase_ValueError rfl (ah aN af)))
   aD)
   (ak (au (bK G_made_length hr T.eZ (ah (pv 2) (ah (pv 3) af))))))))))),?_⟩
  exists by omega,?_
  generalize Txt.split t "/"= ws at k1 k2 pl sh;intros p1 H1 s1 h1;exists p1,_,rfl,.inl (aL.of h1),?_
  match ws,pl,sh,k1,k2,h1 with
  | [a],_,sh,k1,k2,h1=>
   exists p1,_,0,_,rfl,rfl,aL.of h1,rfl,?_;exists a,4,rfl,sh a (by simp),fun H2 s2=>?_;replace h1:=s2 _ _ h1;exists p1,_,rfl,.inl (aL.of h1),?_;cases ea:rn 4 a.cps.toList with
   | none=>
    simp only[ea] at k1 k2;left;refine⟨by show 1<=sizeLine;decide,k2 trivial H2 (s1.trans s2)⟩
   | some n=>
    simp only[ea] at k1 k2;obtain⟨n0,n1,_⟩:=MQ ea ∅;change⟨_,_,rfl,n0,∅,(cw (n:=1) ∅ ∅).mono ∅,fun p3 H3 s3 h3=>k1 _ rfl p3 H3 ((s1.trans s2).trans s3) h3⟩
  | [a,b],_,sh,k1,k2,h1=>
   exists p1,_,0,_,rfl,rfl,aL.of h1,rfl,?_;exists a,4,rfl,sh a (by simp),fun H2 s2=>?_;replace h1:=s2 _ _ h1;exists p1,_,rfl,.inl (aL.of h1),?_;exists p1,_,1,_,rfl,rfl,aL.of h1,rfl,?_;exists b,4,rfl,sh b (by simp),fun H3 s3=>?_;have S3:=(s1.trans s2).trans s3;cases ea:rn 4 a.cps.toList with
   | none=>
    simp only[ea] at k1 k2;change⟨by show 1<=sizeLine;decide,k2 trivial H3 S3⟩
   | some n=>
    cases eb:rn 4 b.cps.toList with
    | none=>
     simp only[ea,eb] at k1 k2;change⟨by show 1<=sizeLine;decide,k2 trivial H3 S3⟩
    | some m=>
     simp only[ea,eb] at k1 k2;obtain⟨n0,n1,_⟩:=MQ ea ∅;obtain⟨m0,m1,_⟩:=MQ eb ∅;left
     by_cases e0:m=0
     ·subst e0
      refine cb ∅ ?_;change⟨by show 1<=sizeLine;decide,k2 rfl H3 S3⟩
     ·rw[if_neg e0] at k1
      refine cq (ze fun y=>e0 (V.int.inj y)) ?_;change⟨_,_,rfl,n0,nofun,(cw (n:=14) nofun nofun).mono ∅,fun p4 H4 s4 h4=>k1 _ rfl p4 H4 (S3.trans s4) h4⟩
  | a::b::c::r,_,sh,k1,k2,h1=>
   left;refine cb (zg (show(2:Int)<(((a::b::c::r).map V.str).length:Int) by rw[za];simp only[zv];omega)) ?_;change⟨by show 1<=sizeLine;decide,k2 rfl H1 s1⟩
def iE:di P w base 4 T.d5 iC:=by
 have G_read_length:dU P w K mg base (Ic P w) 3 T.lE T.lA ["text"] (nc T.j8):=nO T
 nomatch T.d5,iZ
 obtain⟨t,rfl,lt,kk⟩:=h;unfold lr at kk;refine⟨_,(ag (OY G_read_length (hr.mono ∅) rfl T.eX.g T.eX.F.kp T.eX.b (ah (pv 0) af) rfl iZ.nd (i:=1) rfl (Or.inl rfl) rfl T.mS T.mH rfl rfl rfl (fun e=>(ak (au aW))))
  (ag (aJ (ptr dj (bO (pv 1) ae) ae)
  (ak (au aW))
  aD)
  (ak (au (pv 1))))),?_⟩
 left;refine⟨lt,fun x ex p1 H1 s1 h1=>?_,fun en H1 s1=>⟨rfl,?_⟩⟩
 ·simp only[ex] at kk
  left
  by_cases e0:x.1=0
  ·refine cb (by rw[e0];rfl) ?_
   left;rw[if_pos e0] at kk;exact kk .bR H1 s1 .bR
  ·refine cq (ze fun y=>e0 (V.int.inj y)) ?_
   left;rw[if_neg e0] at kk;exact kk (.ref p1) H1 s1 (.ref h1)
 ·simp only[en] at kk
  change kk .bR H1 s1 .bR
def Pd {ws:List Str} (h:1<=ws.length):DA (ws.map V.str) (-1)=some (.str (ws.getLast?.getD "")):=by
 have ne:ws≠[]:=fun z=>by rw[z] at h;simp at h
 have e:=List.dropLast_concat_getLast ne;have e2:ws.getLast?.getD ""= ws.getLast ne:=by rw[List.getLast?_eq_some_getLast ne];rfl
 rw[e2];have e3:ws.map V.str=ws.dropLast.map V.str++[V.str (ws.getLast ne)]:=by rw[<-List.map_singleton (f:=V.str),<-zk,e]
 rw[e3];exact Bh _ _
def Nz {ws:List Str} (h:1<=ws.length):ws.getLast?.getD "" ∈ws:=by
 have ne:ws≠[]:=fun z=>by rw[z] at h;simp at h
 rw[List.getLast?_eq_some_getLast ne];exact List.getLast_mem ne
def B3:di P w base 5 T.uS qq:=by
 have G_read_item_length:di P w base 4 T.d5 iC:=iE T;have G_read_pitch:di P w base 3 T.jP oF:=pf T
 nomatch T.uS,i6
 obtain⟨t,rfl,lt,kk⟩:=h;have sl:=yC;have pl:=PyProof.Rows.split_pos t ":";have sh:∀z∈Txt.split t ":",z.length<=600:=fun z hz=>zM (PyProof.Rows.part_short hz) lt;unfold ir at kk;refine⟨_,(ag (bT 1 i6.nd (bY yG yK yJ jW (pv 0) (ah aN af)))
  (ag (bT 2 i6.nd (bK G_read_item_length hr T.d5 (ah (gd (pv 1) (tK mj ae)) af)))
  (ag (aJ (bF (cJ (pv 2)))
  (ak (au aW))
  aD)
  (ag (aJ (PW.pt (dI (ptr dj (eQ aG T.bC (ah (pv 1) af)) ae) (dn (ptr dj (gd (pv 1) ae) aN))))
  (ak (au (bG (ah aW (ah (pv 2) af)))))
  aD)
  (ag (aJ (ptr lT (eQ aG T.bC (ah (pv 1) af)) ae)
  (ak (au aW))
  aD)
  (ag (bT 3 i6.nd (bK G_read_pitch hr T.jP (ah (gd (pv 1) ae) (ah (gd (pv 1) ae) af))))
  (ag (aJ (bF (cJ (pv 3)))
  (ak (au aW))
  aD)
  (ak (au (bG (ah (pv 3) (ah (pv 2) af)))))))))))),?_⟩
 exists by omega,?_
 generalize Txt.split t ":"= ws at kk pl sh;intros p1 H1 s1 h1;exists p1,_,-1,_,rfl,rfl,aL.of h1,Pd pl,?_;refine⟨_,rfl,sh _ (Nz pl),fun v H2 s2 hv=>?_⟩;have h2:=s2 _ _ h1;have S2:=s1.trans s2;generalize lr (ws.getLast?.getD "")=o at kk hv;cases hv with
 | bR=>
  change kk .bR H2 S2 rfl
 | @ref p2 x hx=>
  have kk':∀v H',aB H H'->PL H' v (if ws.dropLast=[("r": Str)] then some (none,x) else match ws.dropLast with
   | [a,b]=>(match rp a b with | some q=>some (some q,x) | none=>none)
   | _=>none)->Q v H':=kk
  clear kk;exists p1,_,rfl,.inl (aL.of h2),?_
  match ws,pl,sh,kk',h2 with
  | [a],_,sh,kk,h2=>
   exists p1,_,rfl,.inl (aL.of h2),?_;change kk .bR H2 S2 rfl
  | [a,b],_,sh,kk,h2=>
   exists p1,_,0,_,rfl,rfl,aL.of h2,rfl,?_;left
   by_cases ea:a ="r"
   ·subst ea
    refine cb ∅ ?_;change⟨cT,laid fun p3 H3 s3 h3=>kk (.ref p3) H3 (S2.trans s3) ⟨p3,_,p2,rfl,h3,s3 _ _ hx,.bR⟩⟩
   ·refine cq (ze fun z=>ea (V.str.inj z)) ?_
    exists p1,_,rfl,.inl (aL.of h2),?_;left;refine kk .bR H2 S2 ?_;rw[if_neg (by intro z;exact ea (List.cons.inj z).1)];rfl
  | [a,b,c],_,sh,kk,h2=>
   exists p1,_,rfl,.inl (aL.of h2),?_;exists p1,_,0,_,rfl,rfl,aL.of h2,rfl,?_;exists p1,_,1,_,rfl,rfl,aL.of h2,rfl,?_;refine⟨a,b,rfl,sh a (by simp),sh b (by simp),fun v H3 s3 hv=>?_⟩;have kk2:∀v H',aB H H'->PL H' v (match rp a b with | some q=>some (some q,x) | none=>none)->Q v H':=fun v H' s' z=>kk v H' s' (by
    rw[if_neg (by intro y;simp at y)];exact z)
   generalize rp a b=o at kk2 hv;cases hv with
   | bR=>
    change kk2 .bR H3 (S2.trans s3) rfl
   | @ref p4 q hq=>
    change⟨cT,laid fun p5 H5 s5 h5=>kk2 (.ref p5) H5 ((S2.trans s3).trans s5) ⟨p5,_,p2,rfl,h5,s5 _ _ (s3 _ _ hx),.ref (s5 _ _ hq)⟩⟩
  | a::b::c::d::r,_,sh,kk,h2=>
   exists p1,_,rfl,.inl (aL.of h2),?_;left;refine kk .bR H2 S2 ?_;rw[if_neg (by intro y;simp at y)];rfl
def F6:aF ["row"] ["row"] (aq y6):=dH
def Gz:di P w base 1 T.words_of FX:=by
 nomatch T.words_of,F6
 obtain⟨t,rfl,hl,kk⟩:=h;have sl:=yC;have ple:=PyProof.Rows.split_le t " ";refine⟨_,(ak (au (qh (ts:=["word"]) (ys:=[]) (js:=[]) (g:=(cg 0)) (tc:=(m9 (fP Up (bf 0) (tC (.str ""))))) (te:=(bf 0)) (bw (bY yG yK yJ jW (pv 0) (ah aN af))) (hJ 0) (g9 (ptr lT (pv 0) aN)) (pv 0)))),?_⟩;ac_rfl;exists by omega,?_
 unfold words at kk;generalize Txt.split t " "= ws at kk ple;intros p1 H1 s1 h1;refine⟨p1,rfl,⟨_,aL.of h1⟩,?_⟩;refine pC ws.length (fun i=>((ws.take i).filter fun w=>decide (w≠("": Str))).map V.str) (fun i σ H'=>H'=H1/\∃v,σ=[v]) ?_ nofun rfl ⟨rfl,none,rfl⟩ ?_ ?_ ?_ ?_
 ·intro i hi
  rw[za];exact zM (List.length_filter_le _ _) (by rw[zQ];omega)
 ·rintro i σ H' hi ⟨rfl,_⟩
  exact Di (aL.of h1) (by rw[za];exact hi)
 ·rintro σ H' ⟨rfl,_⟩
  exact⟨_,aL.of h1,by rw[za];exact zm _⟩
 ·rintro i x σ H' H2 hi ⟨rfl,v,rfl⟩ ⟨rfl,hy⟩
  have hx:=hy _ (aL.of h1);rw[zK,zd hi] at hx;cases hx;left
  by_cases e:ws[i] =""
  ·refine cq (by rw[e];rfl) ?_
   refine Ig.skip hi ?_ ⟨rfl,_,rfl⟩;show List.map V.str (List.filter _ (List.take (i+1) ws))=List.map V.str (List.filter _ (List.take i ws));rw[List.take_add_one,zd hi,e,List.filter_append];simp
  ·refine cb (by rw[ze fun z=>e (V.str.inj z)];rfl) ?_
   left;refine Ig.push hi ?_ ⟨rfl,_,rfl⟩;show List.map V.str (List.filter _ (List.take (i+1) ws))=List.map V.str (List.filter _ (List.take i ws))++[V.str ws[i]];rw[List.take_add_one,zd hi,List.filter_append,zk];have:List.filter (fun w=>decide (w≠("": Str))) (Option.toList (some ws[i]))=[ws[i]]:=by simp[e]
   rw[this];rfl
 ·rintro σ H' ⟨rfl,_⟩
  rw[zN];exact laid fun p H' sm h=>kk p H' (s1.trans sm) h
def BU:aF ["word"] ["word"] (aq sS):=dH
def cz:di P w base 2 T.dg kT:=by
 nomatch T.dg,BU
 obtain⟨t,rfl,hl,kk⟩:=h;refine⟨_,(ak (au (bK (iR T) hr T.dN (ah (pv 0) (ah (b8 (v:=.int (3)) (by rfl) T.ma ⟨_,rfl⟩) af))))),?_⟩;ac_rfl;change⟨_,_,rfl,hl,kk⟩
def Ea:aF ["word"] ["word"] (aq vT):=dH
def d7:di P w base 1 T.fj mq:=by
 nomatch T.fj,Ea
 obtain⟨t,rfl,hl,kk⟩:=h;have sl:=yC;have hz:t.length<=sizeLine:=nofun
 have el:t.cps.toList.length=t.length:=Array.length_toList;unfold cP at kk;refine⟨_,(ag (aJ (PW.pt (eD (ptr fA (eQ gC T.bC (ah (pv 0) af)) ae) (dC (ptr fI (eQ gC T.bC (ah (pv 0) af)) (b8 (v:=.int (12)) (by rfl) T.Be ⟨_,rfl⟩)))))
  (ak (au aW))
  aD)
  (ag (aJ (fB (cU (eQ (pU rfl) T.Kb (ah (qh (ts:=["sign"]) (ys:=[]) (js:=[]) (te:=(fP (fun x y H Q=>∃i j,x=.str i/\y=.str j/\Q (.bl (!(Builtin.Str.occurrences j i 0 j.length 1).isEmpty)) H) (bf 0) (tC (.str "abcdefghijklmnopqrstuvwxyz0123456789")))) (M9 (pv 0)) (hJ 0) bD (dY C3 (pv 0) (b8 (v:=.str "abcdefghijklmnopqrstuvwxyz0123456789") (by rfl) T.E6 ⟨_,rfl⟩) (by with_unfolding_all rfl))) af))))
  (ak (au aW))
  aD)
  (ak (au (pv 0))))),?_⟩
 ac_rfl;exists hz,?_;left;refine xh (fun c1=>?_) (fun c1=>?_)
 ·left
  have z:=kk H (aB.refl H);rw[if_pos (ye c1)] at z;exact z
 have c1':¬(t.length:Int)<1:=fun z=>c1 (zg z);rw[if_neg c1'] at kk;exists hz,?_;left;refine xh (fun c2=>?_) (fun c2=>?_)
 ·left
  have z:=kk H (aB.refl H);rw[if_pos (ye c2)] at z;exact z
 have c2':¬(12:Int)<(t.length:Int):=fun z=>c2 (zg z);rw[if_neg c2'] at kk;left;refine pC t.length (fun i=>(t.cps.toList.take i).map fun c=>V.bl (decide (c∈sgn))) (fun i σ H'=>H'=H/\∃v,σ=[v]) (fun i hi=>by rw[za,zQ];omega) nofun rfl ⟨rfl,none,rfl⟩ (fun i σ H' hi _=>hi) (fun σ H' _=>zm _) ?_ ?_
 ·rintro i x σ H1 H2 hi ⟨rfl,v,rfl⟩ ⟨rfl,c,hc,rfl⟩
  left;refine Ig.push hi ?_ ⟨rfl,_,rfl⟩;rw[PySem.StrLaws.found_one];rw[<-Array.getElem?_toList] at hc;show List.map _ (List.take (i+1) t.cps.toList)=_;rw[List.take_add_one,hc,zk];rfl
 ·rintro σ H1 ⟨rfl,_⟩
  rw[<-el,zN];intros D H2 s2 h2;refine⟨D,t.cps.toList.map (fun c=>decide (c∈sgn)),rfl,aL.of (by rw[h2,zB];rfl),?_⟩;have ea:(t.cps.toList.map (fun c=>decide (c∈sgn))).all id=t.cps.toList.all (fun c=>decide (c∈sgn)):=by rw[List.all_map];rfl
  rw[ea]
  by_cases ha:t.cps.toList.all (fun c=>decide (c∈sgn))=true
  ·rw[ha]
   rw[if_pos ha] at kk;change kk _ s2
  ·rw[if_neg ha] at kk
   rw[show t.cps.toList.all (fun c=>decide (c∈sgn))=false from by simpa using ha];change kk _ s2
def oJ:aF ["word","lowest","highest","number"] ["word","lowest","highest"] (aq qF):=dH
def pj:di P w base 3 T.ku yS:=by
 nomatch T.ku,oJ
 obtain⟨t,lo,hi,rfl,hl,kk⟩:=h;unfold nN at kk;refine⟨_,(ag (bT 3 oJ.nd (bK (cz T) hr T.dg (ah (pv 0) af)))
  (ag (aJ (PW.pt (eD (bF (cJ (pv 3))) (eD (ptr fA (pv 3) (pv 1)) (dC (ptr fI (pv 3) (pv 2))))))
  (ak (au aW))
  aD)
  (ak (au (pv 3))))),?_⟩
 ac_rfl;exists hl,fun H1 s1=>?_;cases e:fV t with
 | none=>
  rw[e] at kk;change kk _ s1
 | some n=>
  rw[e] at kk;left
  by_cases c1:n<lo
  ·refine cb (zg c1) ?_
   simp only[if_pos c1] at kk;change kk _ s1
  ·refine cq (ze c1) ?_
   simp only[if_neg c1] at kk;left
   by_cases c2:hi<n
   ·refine cb (zg c2) ?_
    simp only[if_pos c2] at kk;change kk _ s1
   ·refine cq (ze c2) ?_
    simp only[if_neg c2] at kk;change kk _ s1
def DZ:aF ["word"] ["word"] (aq vS):=dH
def Ep:di P w base 4 T.uR DR:=by
 nomatch T.uR,DZ
 obtain⟨t,rfl,hl,kk⟩:=h;refine⟨_,(ak (OX (nO T) (hr.mono ∅) rfl T.eX.g T.eX.F.kp T.eX.b (ah (pv 0) af) rfl rfl T.mS T.mH rfl rfl rfl (fun e=>(ak (au aW))))),?_⟩;ac_rfl;left;refine⟨hl,fun x e p H1 s1 h1=>?_,fun e H1 s1=>⟨rfl,?_⟩⟩
 ·rw[e] at kk
  exact kk _ H1 s1 (.ref h1)
 ·rw[e] at kk
  change kk _ H1 s1 .bR
def sI:aF ["fifths_word","steps_word","turn"] ["fifths_word","steps_word"] (aq vR):=dH
def Eo:di P w base 4 T.uQ DQ:=by
 nomatch T.uQ,sI
 obtain⟨a,b,rfl,la,lb,kk⟩:=h;unfold Ai at kk;refine⟨_,(ag (bT 2 sI.nd (bK (pf T) hr T.jP (ah (pv 0) (ah (pv 1) af))))
  (ag (aJ (PW.pt (eD (bF (cJ (pv 2))) (dC (ptr fI (eQ HI T.Qa (ah (bO (pv 2) ae) af)) (b8 (v:=.int (12)) (by rfl) T.Bf ⟨_,rfl⟩)))))
  (ak (au aW))
  aD)
  (ak (au (pv 2))))),?_⟩
 ac_rfl;exists _,_,rfl,la,lb,fun v H1 s1 h1=>?_;cases e:rp a b with
 | none=>
  rw[e] at kk h1;cases h1;change kk _ _ s1 .bR
 | some q=>
  rw[e] at kk h1;cases h1 with
  | ref h1=>
   left;refine xh (fun c=>?_) (fun c=>?_)
   ·simp only[if_pos (ye c)] at kk
    change kk _ _ s1 .bR
   ·simp only[if_neg (fun z=>c (zg z))] at kk
    change kk _ _ s1 (.ref h1)
def vN:aF ["word","key"] ["word"] (aq y7):=dH
def GC:di P w base 3 T.An F0:=by
 nomatch T.An,vN
 obtain⟨t,rfl,hl,kk⟩:=h;unfold Gg at kk;refine⟨_,(ag (bT 1 vN.nd (bK (nP T) hr T.fW (ah (pv 0) (ah (b8 (v:=.int (3)) (by rfl) T.ma ⟨_,rfl⟩) af))))
  (ag (aJ (PW.pt (eD (bF (cJ (pv 1))) (dC (ptr fI (eQ HI T.Qa (ah (pv 1) af)) (b8 (v:=.int (7)) (by rfl) T.Cv ⟨_,rfl⟩)))))
  (ak (au aW))
  aD)
  (ak (au (pv 1))))),?_⟩
 ac_rfl;exists _,_,rfl,hl,fun H1 s1=>?_;cases e:rs 3 t with
 | none=>
  rw[e] at kk;change kk _ s1
 | some n=>
  rw[e] at kk;left;refine xh (fun c=>?_) (fun c=>?_)
  ·simp only[if_pos (ye c)] at kk
   change kk _ s1
  ·simp only[if_neg (fun z=>c (zg z))] at kk
   change kk _ s1
def vQ:aF ["values"] ["values"] (aq Ac):=dH
def eF:di P w base 1 T.dF (BN K):=by
 nomatch T.dF,vQ
 obtain⟨a,us,rfl,ha,hl,kk⟩:=h;have sl:=yC;refine⟨_,(ag (aJ (cU (eQ (gS rfl) T.AB (ah (qh (ts:=["value"]) (ys:=[]) (js:=[]) (te:=(Mx (bf 0))) (bw (pv 0)) (hJ 0) bD (uW (cJ (pv 0)))) af)))
  (ak (au aW))
  aD)
  (ak (au (pv 0)))),?_⟩
 ac_rfl;exists⟨_,ha⟩,?_;refine f9 (enc:=fun v=>v) (ws:=us) (fun v=>.bl (gK v)) (fun σ=>∃v,σ=[v]) nofun (by rw[List.map_id'];exact ha) ⟨none,rfl⟩ ?_ ?_
 ·rintro v σ H1 R hv s1 ⟨_,rfl⟩ r
  change r _ _ _ (aB.refl _) (by unfold Is;rfl) ⟨_,rfl⟩
 ·intro D vs H1 s1 hD il
  have e:us.map (fun v=>Dt.bl (gK v))=(us.map gK).map Dt.bl:=by rw[zB];rfl
  rw[e] at il;rw[lq il] at hD;refine⟨D,us.map gK,rfl,aL.of hD,?_⟩;have e2:(us.map gK).any id=us.any gK:=by rw[List.any_map];rfl
  rw[e2];cases q:us.any gK with
  | true=>
   rw[q] at kk;change kk _ s1
  | false=>
   rw[q] at kk;change kk _ s1
def fJ:di P w base 1 T.dF BM:=by
 nomatch T.dF,vQ
 obtain⟨a,us,rfl,ha,hl,kk⟩:=h;have sl:=yC;refine⟨_,(ag (aJ (cU (eQ (gS rfl) T.AB (ah (qh (ts:=["value"]) (ys:=[]) (js:=[]) (te:=(Mx (bf 0))) (lg (pv 0)) (hJ 0) bD (uW (cJ (pv 0)))) af)))
  (ak (au aW))
  aD)
  (ak (au (pv 0)))),?_⟩
 ac_rfl;exists⟨_,dB.of ha⟩,?_;refine gR (enc:=fun v=>v) (ws:=us) (fun v=>.bl (gK v)) (fun σ=>∃v,σ=[v]) nofun (by rw[List.map_id'];exact ha) ⟨none,rfl⟩ ?_ ?_
 ·rintro v σ H1 R hv s1 ⟨_,rfl⟩ r
  change r _ _ _ (aB.refl _) (by unfold Is;rfl) ⟨_,rfl⟩
 ·intro D vs H1 s1 hD il
  have e:us.map (fun v=>Dt.bl (gK v))=(us.map gK).map Dt.bl:=by rw[zB];rfl
  rw[e] at il;rw[lq il] at hD;refine⟨D,us.map gK,rfl,aL.of hD,?_⟩;have e2:(us.map gK).any id=us.any gK:=by rw[List.any_map];rfl
  rw[e2];cases q:us.any gK with
  | true=>
   rw[q] at kk;change kk _ s1
  | false=>
   rw[q] at kk;change kk _ s1
theorem AK (n:Int):∀ns:List Int,GZ (.int n) (ns.map V.int)=decide (n∈ns)
 | []=>rfl
 | m::ns=>by
  have ih:=AK n ns;unfold GZ at ih ⊢;rw[zj,List.any_cons,ih]
  by_cases e:n=m
  ·subst e
   simp[Jg]
  ·simp[Jg,e,Ne.symm (a:=m) (b:=n) (fun z=>e z.symm)]
   try omega
def IJ {t a b:Str} (h:Txt.split t "/"= [a,b]):jN t=(match nN a 1 32,fV b with | some m,some n=>if n∈Cy then some (m,n) else none | _,_=>none):=by unfold jN;rw[h];try rfl
def K6 {t:Str} (h:(Txt.split t "/").length≠2):jN t=none:=by
 unfold jN;split
 ·rename_i e;rw[e] at h;exact absurd rfl h
 ·rfl
def MU {t a b:Str} (h:Txt.split t ":"= [a,b]):Aj t=(match fV a,pF ((Txt.split b ",").map fV) with | some n,some ps=>some (n,ps) | _,_=>none):=by unfold Aj;rw[h];try rfl
def OQ {t:Str} (h:(Txt.split t ":").length≠2):Aj t=none:=by
 unfold Aj;split
 ·rename_i e;rw[e] at h;exact absurd rfl h
 ·rfl
def gZ:aF ["word","parts","top","bottom"] ["word"] (aq sV):=dH
def B8:di P w base 4 T.rE (BK K):=by
 nomatch T.rE,gZ
 obtain⟨t,rfl,hl,kk⟩:=h;have sl:=yC;have sh:∀z∈Txt.split t "/",z.length<=600:=fun z hz=>zM (PyProof.Rows.part_short hz) hl;refine⟨_,(ag (bT 1 gZ.nd (bY yG yK yJ jW (pv 0) (ah aN af)))
  (ag (aJ (ptr lT (eQ aG T.bC (ah (pv 1) af)) ae)
  (ak (au aW))
  aD)
  (ag (bT 2 gZ.nd (bK (pj T) hr T.ku (ah (gd (pv 1) ae) (ah ae (ah (b8 (v:=.int (32)) (by rfl) T.xy ⟨_,rfl⟩) af)))))
  (ag (bT 3 gZ.nd (bK (cz T) hr T.dg (ah (gd (pv 1) ae) af)))
  (ag (aJ (PW.pt (eD (bF (cJ (pv 2))) (dC (jd fk (pv 3) (b8 (v:=.ref T.eC) (by rfl) T.xx rfl) (by with_unfolding_all rfl)))))
  (ak (au aW))
  aD)
  (ak (au (bG (ah (pv 2) (ah (pv 3) af)))))))))),?_⟩
 ac_rfl;exists by omega,?_
 generalize ew:Txt.split t "/"= ws at sh;intros p1 H1 s1 h1;exists p1,_,rfl,.inl (aL.of h1),?_;rw[za];left
 by_cases hw:ws.length=2
 ·obtain⟨a,b,rfl⟩:∃a b,ws=[a,b]:=by
   match ws,hw with
   | [a,b],_=>exact⟨a,b,rfl⟩
  refine cq rfl ?_;exists p1,_,0,_,rfl,rfl,aL.of h1,rfl,?_;refine⟨_,_,_,rfl,sh a (by simp),fun H2 s2=>?_⟩;exists p1,_,1,_,rfl,rfl,aL.of (s2 _ _ h1),rfl,?_;refine⟨_,rfl,sh b (by simp),fun H3 s3=>?_⟩;have s03:=(s1.trans s2).trans s3;rw[IJ ew] at kk;cases ea:nN a 1 32 with
  | none=>
   rw[ea] at kk;change kk _ _ s03 .bR
  | some m=>
   rw[ea] at kk;left;cases eb:fV b with
   | none=>
    rw[eb] at kk;refine⟨T.eC,_,rfl,.inr (T.nY H3),rfl,rfl,?_⟩;change kk _ _ s03 .bR
   | some n=>
    rw[eb] at kk;refine⟨T.eC,Cy.map V.int,rfl,.inr (T.nY H3),rfl,rfl,?_⟩;show∃k,V.bl (!GZ (.int n) (Cy.map V.int))=.bl k/\_;rw[AK]
    by_cases c:n∈Cy
    ·rw[zg c]
     simp only[if_pos c] at kk;left;refine⟨cT,laid fun p4 H4 s4 h4=>kk _ _ (s03.trans s4) (.ref h4)⟩
    ·rw[ze c]
     simp only[if_neg c] at kk;change kk _ _ s03 .bR
 ·refine cb (by rw[ze fun z=>hw (by have:=V.int.inj z;omega)];rfl) ?_
  left;rw[K6 (by rw[ew];exact hw)] at kk;exact kk _ _ s1 .bR
def kh:aF ["word","parts","bar","passes"] ["word"] (aq y8):=dH
def GD:di P w base 4 T.Ao vK:=by
 nomatch T.Ao,kh
 obtain⟨t,rfl,hl,kk⟩:=h;have sl:=yC;have sh:∀z∈Txt.split t ":",z.length<=600:=fun z hz=>zM (PyProof.Rows.part_short hz) hl;refine⟨_,(ag (bT 1 kh.nd (bY yG yK yJ jW (pv 0) (ah aN af)))
  (ag (aJ (ptr lT (eQ aG T.bC (ah (pv 1) af)) ae)
  (ak (au aW))
  aD)
  (ag (bT 2 kh.nd (bK (cz T) hr T.dg (ah (gd (pv 1) ae) af)))
  (ag (bT 3 kh.nd (bK (eF T) hr T.dF (ah (qh (ts:=["part"]) (ys:=[]) (js:=[]) (te:=(iA kT [] E0 (bX (bf 0) eV))) (bw (bY yG yK yJ jW (gd (pv 1) ae) (ah aN af))) (hJ 0) bD (bK (cz T) hr T.dg (ah (pv 0) af))) af)))
  (ag (aJ (PW.pt (eD (bF (cJ (pv 2))) (dC (bF (cJ (pv 3))))))
  (ak (au aW))
  aD)
  (ak (au (bG (ah (pv 2) (ah (ox cS T.hV (ah (pv 3) af)) af)))))))))),?_⟩
 ac_rfl;exists by omega,?_
 generalize ew:Txt.split t ":"= ws at sh;intros p1 H1 s1 h1;exists p1,_,rfl,.inl (aL.of h1),?_;rw[za];left
 by_cases hw:ws.length=2
 ·obtain⟨a,b,rfl⟩:∃a b,ws=[a,b]:=by
   match ws,hw with
   | [a,b],_=>exact⟨a,b,rfl⟩
  refine cq rfl ?_;exists p1,_,0,_,rfl,rfl,aL.of h1,rfl,?_;refine⟨_,rfl,sh a (by simp),fun H2 s2=>?_⟩;exists p1,_,1,_,rfl,rfl,aL.of (s2 _ _ h1),rfl,?_;left;have lb:=sh b (by simp);have bl:=PyProof.Rows.split_le b ",";have bsh:∀z∈Txt.split b ",",z.length<=600:=fun z hz=>zM (PyProof.Rows.part_short hz) lb;refine⟨nofun,?_⟩;rw[MU ew] at kk;generalize Txt.split b ","= bs at kk bl bsh;intros p3 H3 s3 h3;exists⟨_,aL.of h3⟩,?_;refine f9 (enc:=V.str) (ws:=bs) (fun z=>dO .int (fV z)) (fun σ=>∃v,σ=[v]) nofun (aL.of h3) ⟨none,rfl⟩ ?_ ?_
  ·rintro z σ H4 R hz s4 ⟨_,rfl⟩ r
   change⟨bsh z hz,fun H5 s5=>r _ _ _ s5 (AJ _) ⟨_,rfl⟩⟩
  ·intro D vs H4 s4 hD il
   have s04:=((s1.trans s2).trans s3).trans s4;refine⟨D,vs,rfl,aL.of hD,by rw[il.len,za];omega,fun H5 s5=>?_⟩;have e1:bs.map (fun z=>dO Dt.int (fV z))=(bs.map fV).map (dO Dt.int):=by rw[zB];rfl
   rw[e1] at il;rw[kL il];cases q:((bs.map fV).map (dO Dt.int)).any Dt.gK with
   | true=>
    rw[jF NM q] at kk;have kn:=kk .bR H5 (s04.trans s5) (by cases fV a <;> (unfold dO Is;rfl));cases ea:fV a with
    | none=>change kn
    | some n=>change kn
   | false=>
    obtain⟨xs,e2,e3,e4⟩:=jE q;rw[e2] at kk;rw[e3] at il;have ev:=fq il;subst ev;cases ea:fV a with
    | none=>
     rw[ea] at kk;change kk .bR H5 (s04.trans s5) (by unfold dO Is;rfl)
    | some n=>
     rw[ea] at kk;left;refine⟨D,_,rfl,.inl ⟨aL.of (s5 _ _ hD),?_⟩⟩;intros p6 H6 s6 h6;left;refine⟨cT,laid fun p7 H7 s7 h7=>kk _ _ (((s04.trans s5).trans s6).trans s7) ?_⟩;show Is H7 (.tup [.int n,.tup (xs.map .int)]) _;unfold Is;refine⟨p7,_,rfl,h7,?_⟩;unfold aE;refine⟨_,_,rfl,by unfold Is;rfl,?_⟩;unfold aE;refine⟨_,_,rfl,?_,by unfold aE;rfl⟩;unfold Is;exact⟨p6,_,rfl,s7 _ _ h6,ua⟩
 ·refine cb (by rw[ze fun z=>hw (by have:=V.int.inj z;omega)];rfl) ?_
  left;rw[OQ (by rw[ew];exact hw)] at kk;exact kk _ _ s1 (by unfold dO Is;rfl)
def Ni {α:Type} {f:Str->Option α} {ws:List Str} (h:ws.length≠1):one f ws=none:=by
 match ws,h with
 | [],_=>rfl
 | [_],h=>exact absurd rfl h
 | _::_::_,_=>rfl
def yY:aF ["words"] ["words"] (aq qJ):=dH
def Ay:di P w base 2 T.kA (gi K (qS .str (one cP))):=by
 nomatch T.kA,yY
 obtain⟨p,ws,rfl,hp,hl,sh,kk⟩:=h;refine⟨_,(ag (aJ (ptr lT (eQ aG T.bC (ah (pv 0) af)) ae)
  (ak (au aW))
  aD)
  (ak (au (bK (d7 T) hr T.fj (ah (gd (pv 0) ae) af))))),?_⟩
 ac_rfl;exists p,_,rfl,.inl hp,?_;rw[za];left
 by_cases hw:ws.length=1
 ·obtain⟨a,rfl⟩:∃a,ws=[a]:=by
   match ws,hw with
   | [a],_=>exact⟨a,rfl⟩
  refine cq rfl ?_;exists p,_,0,_,rfl,rfl,hp,rfl,?_;exact⟨_,rfl,sh a (by simp),fun H1 s1=>kk _ _ s1 (Dc _)⟩
 ·refine cb (by rw[ze fun z=>hw (by have:=V.int.inj z;omega)];rfl) ?_
  left;refine kk _ _ (aB.refl _) ?_;unfold qS;rw[Ni hw];exact d8
def yX:aF ["words"] ["words"] (aq qG):=dH
def Aw:di P w base 5 T.ky (gi K (qS dL (one lr))):=by
 nomatch T.ky,yX
 obtain⟨p,ws,rfl,hp,hl,sh,kk⟩:=h;refine⟨_,(ag (aJ (ptr lT (eQ aG T.bC (ah (pv 0) af)) ae)
  (ak (au aW))
  aD)
  (ak (au (bK (iE T) hr T.d5 (ah (gd (pv 0) ae) af))))),?_⟩
 ac_rfl;exists p,_,rfl,.inl hp,?_;rw[za];left
 by_cases hw:ws.length=1
 ·obtain⟨a,rfl⟩:∃a,ws=[a]:=by
   match ws,hw with
   | [a],_=>exact⟨a,rfl⟩
  refine cq rfl ?_;exists p,_,0,_,rfl,rfl,hp,rfl,?_;exact⟨_,rfl,sh a (by simp),fun v H1 s1 h1=>kk _ _ s1 (AI h1)⟩
 ·refine cb (by rw[ze fun z=>hw (by have:=V.int.inj z;omega)];rfl) ?_
  left;refine kk _ _ (aB.refl _) ?_;unfold qS;rw[Ni hw];exact d8
def E2 {α:Type} (d:α->Dt) (o:Option α):dO d o=(o.map d).getD .bR:=by cases o <;> rfl
def Ff {H:Hp} {ds:List Dt} {us:List V} {a:Addr} {d:Option Dt} (ha:H a=some (.tup us)) (il:aE H ds us) (h1:ds.any Dt.gK=true->d=none) (h2:ds.any Dt.gK=false->d=some (.tup ds)):Is H (d.getD .bR) (if us.any gK=true then .bR else .ref a):=by
 rw[kL il];cases q:ds.any Dt.gK with
 | true=>rw[h1 q];exact d8
 | false=>rw[h2 q];exact cK ha il
def ra:aF ["words"] ["words"] (aq ki):=dH
def rK:di P w base 5 T.fO (gi K (qS eK mG)):=by
 nomatch T.fO,ra
 obtain⟨p,ws,rfl,hp,hl,sh,kk⟩:=h;refine⟨_,(ag (aJ (ptr lT (eQ aG T.bC (ah (pv 0) af)) ae)
  (ak (au aW))
  aD)
  (ak (au (bK (fJ T) hr T.dF (ah (bG (ah (bK (d7 T) hr T.fj (ah (gd (pv 0) ae) af)) (ah (bK (Eo T) hr T.uQ (ah (gd (pv 0) ae) (ah (gd (pv 0) ae) af))) (ah (bK (Ep T) hr T.uR (ah (gd (pv 0) ae) af)) af)))) af))))),?_⟩
 ac_rfl;exists p,_,rfl,.inl hp,?_;rw[za];left
 by_cases hw:ws.length=4
 ·obtain⟨a,b,c,d,rfl⟩:∃a b c d,ws=[a,b,c,d]:=by
   match ws,hw with
   | [a,b,c,d],_=>exact⟨a,b,c,d,rfl⟩
  refine cq rfl ?_;exists p,_,0,_,rfl,rfl,hp,rfl,?_;refine⟨_,rfl,sh a (by simp),fun H1 s1=>?_⟩;exists p,_,1,_,rfl,rfl,s1.seq hp,rfl,?_;exists p,_,2,_,rfl,rfl,s1.seq hp,rfl,?_;refine⟨_,_,rfl,sh b (by simp),sh c (by simp),fun v2 H2 s2 h2=>?_⟩;exists p,_,3,_,rfl,rfl,(s1.trans s2).seq hp,rfl,?_;refine⟨_,rfl,sh d (by simp),fun v3 H3 s3 h3=>?_⟩;exists oI,?_;intros p4 H4 s4 h4;have s24:=s3.trans s4;refine⟨p4,_,rfl,h4,(by show 3<=1000000;decide),fun H5 s5=>kk _ _ (((s1.trans s2).trans s24).trans s5) ?_⟩;unfold qS;rw[E2];refine Ff (s5 _ _ h4) (aQ (Dc _) (aQ (AI (h2.mono (s24.trans s5))) (pA (AI (h3.mono (s4.trans s5)))))) ?_ ?_
  ·simp only[mG]
   cases cP a <;> cases Ai b c <;> cases Oq d <;> first | (intro _;rfl) | (intro q;exact absurd q (by simp[dO,dL,Dt.gK]))
  ·simp only[mG]
   cases cP a <;> cases Ai b c <;> cases Oq d <;> first | (intro _;rfl) | (intro q;exact absurd q (by simp[dO,dL,Dt.gK]))
 ·refine cb (by rw[ze fun z=>hw (by have:=V.int.inj z;omega)];rfl) ?_
  left;refine kk _ _ (aB.refl _) ?_;have e:mG ws=none:=by
   unfold mG;split
   ·exact absurd rfl hw
   ·rfl
  unfold qS;rw[e];exact d8
def Eb:aF ["words"] ["words"] (aq vW):=dH
def Es:di P w base 3 T.pJ (gi K (qS wB tG)):=by
 nomatch T.pJ,Eb
 obtain⟨p,ws,rfl,hp,hl,sh,kk⟩:=h;refine⟨_,(ag (aJ (ptr lT (eQ aG T.bC (ah (pv 0) af)) ae)
  (ak (au aW))
  aD)
  (ak (au (bK (fJ T) hr T.dF (ah (bG (ah (bK (d7 T) hr T.fj (ah (gd (pv 0) ae) af)) (ah (bK (cz T) hr T.dg (ah (gd (pv 0) ae) af)) (ah (bK (d7 T) hr T.fj (ah (gd (pv 0) ae) af)) af)))) af))))),?_⟩
 ac_rfl;exists p,_,rfl,.inl hp,?_;rw[za];left
 by_cases hw:ws.length=3
 ·obtain⟨a,b,c,rfl⟩:∃a b c,ws=[a,b,c]:=by
   match ws,hw with
   | [a,b,c],_=>exact⟨a,b,c,rfl⟩
  refine cq rfl ?_;exists p,_,0,_,rfl,rfl,hp,rfl,?_;refine⟨_,rfl,sh a (by simp),fun H1 s1=>?_⟩;exists p,_,1,_,rfl,rfl,s1.seq hp,rfl,?_;refine⟨_,rfl,sh b (by simp),fun H2 s2=>?_⟩;exists p,_,2,_,rfl,rfl,(s1.trans s2).seq hp,rfl,?_;refine⟨_,rfl,sh c (by simp),fun H3 s3=>?_⟩;exists oI,?_;intros p4 H4 s4 h4;refine⟨p4,_,rfl,h4,(by show 3<=1000000;decide),fun H5 s5=>kk _ _ (((s1.trans s2).trans (s3.trans s4)).trans s5) ?_⟩;unfold qS;rw[E2];refine Ff (s5 _ _ h4) (aQ (Dc _) (aQ (AJ _) (pA (Dc _)))) ?_ ?_
  ·simp only[tG]
   cases cP a <;> cases fV b <;> cases cP c <;> first | (intro _;rfl) | (intro q;exact absurd q (by simp[dO,dL,Dt.gK]))
  ·simp only[tG]
   cases cP a <;> cases fV b <;> cases cP c <;> first | (intro _;rfl) | (intro q;exact absurd q (by simp[dO,dL,Dt.gK]))
 ·refine cb (by rw[ze fun z=>hw (by have:=V.int.inj z;omega)];rfl) ?_
  left;refine kk _ _ (aB.refl _) ?_;have e:tG ws=none:=by
   unfold tG;split
   ·exact absurd rfl hw
   ·rfl
  unfold qS;rw[e];exact d8
def pw {H:Hp} {ws:List Str} {vs:List V} {α:Type} {d:α->Dt} {f:Str->Option α} (il:aE H (ws.map fun z=>dO d (f z)) vs):aE H ((ws.map f).map (dO d)) vs:=by
 have e:ws.map (fun z=>dO d (f z))=(ws.map f).map (dO d):=by rw[zB];rfl
 rw[<-e];exact il
def qz:aF ["words","names"] ["words"] (aq sQ):=dH
def B5:di P w base 2 T.mE (gi K (qS gQ rG)):=by
 nomatch T.mE,qz
 obtain⟨p,ws,rfl,hp,hl,sh,kk⟩:=h;have sl:=yC;refine⟨_,(ag (aJ (ptr fA (eQ aG T.bC (ah (pv 0) af)) ae)
  (ak (au aW))
  aD)
  (ag (bT 1 qz.nd (bK (eF T) hr T.dF (ah (qh (ts:=["word"]) (ys:=[]) (js:=[]) (te:=(iA mq [] E0 (bX (bf 0) eV))) (bw (pv 0)) (hJ 0) bD (bK (d7 T) hr T.fj (ah (pv 0) af))) af)))
  (ag (aJ (bF (cJ (pv 1)))
  (ak (au aW))
  aD)
  (ak (au (bG (ah (gd (pv 1) ae) (ah (ox cS T.hV (ah (dP gX (pv 1) (eN ae) eO) af)) af)))))))),?_⟩
 ac_rfl;exists p,_,rfl,.inl hp,?_;rw[za];left;refine xh (fun c=>?_) (fun c=>?_)
 ·left
  refine kk _ _ (aB.refl _) ?_;have hw:=ye c;have e:rG ws=none:=by
   unfold rG;split
   ·simp at hw;omega
   ·rfl
  unfold qS;rw[e];exact d8
 ·have hw:¬(ws.length:Int)<2:=fun z=>c (zg z)
  obtain⟨a,b,r,rfl⟩:∃a b r,ws=a::b::r:=by
   match ws,hw with
   | [],h=>exact absurd (by simp) h
   | [_],h=>exact absurd (by simp) h
   | a::b::r,_=>exact⟨a,b,r,rfl⟩
  exists⟨_,hp⟩,?_;refine f9 (enc:=V.str) (ws:=a::b::r) (fun z=>dO .str (cP z)) (fun σ=>∃v,σ=[v]) nofun hp ⟨none,rfl⟩ ?_ ?_
  ·rintro z σ H4 R hz s4 ⟨_,rfl⟩ r
   change⟨sh z hz,fun H5 s5=>r _ _ _ s5 (Dc _) ⟨_,rfl⟩⟩
  ·intro D vs H4 s4 hD il
   refine⟨D,vs,rfl,aL.of hD,by rw[il.len,za];omega,fun H5 s5=>?_⟩;have il:=pw il;rw[kL il];cases q:(((a::b::r).map cP).map (dO Dt.str)).any Dt.gK with
   | true=>
    left;refine kk _ _ (s4.trans s5) ?_;unfold qS;rw[rF,jF G9 q];exact d8
   | false=>
    obtain⟨xs,e2,e3,e4⟩:=jE q;rw[e3] at il;have ev:=d4 il;subst ev;obtain⟨n,ps,rfl⟩:∃n ps,xs=n::ps:=by
     match xs,e4 with
     | n::ps,_=>exact⟨n,ps,rfl⟩
    have hD5:=s5 _ _ hD;exists D,_,0,_,rfl,rfl,aL.of hD5,bE (j:=0) rfl,?_;exists D,_,rfl,aL.of hD5,?_;rw[show lC (List.map V.str (n::ps)) (some 1) none=ps.map V.str from(fZ _ 1).trans rfl];intros p6 H6 s6 h6;left;refine⟨p6,_,rfl,.inl ⟨aL.of h6,?_⟩⟩;intros p7 H7 s7 h7;left;refine⟨cT,laid fun p8 H8 s8 h8=>kk _ _ (((((s4.trans s5).trans s6).trans s7)).trans s8) ?_⟩;unfold qS;rw[rF,e2];exact cK h8 (aQ e9 (pA (cK (s8 _ _ h7) DK)))
def vO:aF ["words","marks"] ["words"] (aq y9):=dH
def GF:di P w base 5 T.tE (gi K (qS l8 B1)):=by
 nomatch T.tE,vO
 obtain⟨p,ws,rfl,hp,hl,sh,kk⟩:=h;have sl:=yC;refine⟨_,(ag (aJ (ptr fA (eQ aG T.bC (ah (pv 0) af)) ae)
  (ak (au aW))
  aD)
  (ag (bT 1 vO.nd (bK (eF T) hr T.dF (ah (qh (ts:=["word"]) (ys:=[]) (js:=[]) (te:=(iA mq [] E0 (bX (bf 0) eV))) (bw (dP gX (pv 0) (eN ae) eO)) (hJ 0) bD (bK (d7 T) hr T.fj (ah (pv 0) af))) af)))
  (ag (aJ (bF (cJ (pv 1)))
  (ak (au aW))
  aD)
  (ak (au (bK (fJ T) hr T.dF (ah (bG (ah (bK (B8 T) hr T.rE (ah (gd (pv 0) ae) af)) (ah (bK (GC T) hr T.An (ah (gd (pv 0) ae) af)) (ah (ox cS T.hV (ah (pv 1) af)) af)))) af))))))),?_⟩
 ac_rfl;exists p,_,rfl,.inl hp,?_;rw[za];left;refine xh (fun c=>?_) (fun c=>?_)
 ·left
  refine kk _ _ (aB.refl _) ?_;have hw:=ye c;have e:B1 ws=none:=by
   unfold B1;split
   ·simp at hw;omega
   ·rfl
  unfold qS;rw[e];exact d8
 ·have hw:¬(ws.length:Int)<2:=fun z=>c (zg z)
  obtain⟨a,b,r,rfl⟩:∃a b r,ws=a::b::r:=by
   match ws,hw with
   | [],h=>exact absurd (by simp) h
   | [_],h=>exact absurd (by simp) h
   | a::b::r,_=>exact⟨a,b,r,rfl⟩
  rw[zv,zv] at hl;exists p,_,rfl,hp,?_;rw[show lC (List.map V.str (a::b::r)) (some 2) none=r.map V.str from(fZ _ 2).trans rfl];intros p1 H1 s1 h1;exists⟨_,aL.of h1⟩,?_;refine f9 (enc:=V.str) (ws:=r) (fun z=>dO .str (cP z)) (fun σ=>∃v,σ=[v]) nofun (aL.of h1) ⟨none,rfl⟩ ?_ ?_
  ·rintro z σ H4 R hz s4 ⟨_,rfl⟩ r
   change⟨sh z (by simp[hz]),fun H5 s5=>r _ _ _ s5 (Dc _) ⟨_,rfl⟩⟩
  ·intro D vs H4 s4 hD il
   refine⟨D,vs,rfl,aL.of hD,by rw[il.len,za];omega,fun H5 s5=>?_⟩;have il:=pw il;rw[kL il];have s05:=(s1.trans s4).trans s5;cases q:((r.map cP).map (dO Dt.str)).any Dt.gK with
   | true=>
    left;refine kk _ _ s05 ?_;unfold qS;simp only[B1];rw[jF G9 q];exact d8
   | false=>
    obtain⟨xs,e2,e3,e4⟩:=jE q;rw[e3] at il;have ev:=d4 il;subst ev;have hD5:=s5 _ _ hD;exists p,_,0,_,rfl,rfl,s05.seq hp,bE (j:=0) rfl,?_;refine⟨_,rfl,sh a (by simp),fun v6 H6 s6 h6=>?_⟩;exists p,_,1,_,rfl,rfl,(s05.trans s6).seq hp,bE (j:=1) rfl,?_;refine⟨_,rfl,sh b (by simp),fun H7 s7=>?_⟩;left;refine⟨D,_,rfl,.inl ⟨aL.of (s7 _ _ (s6 _ _ hD5)),?_⟩⟩;intros p8 H8 s8 h8;exists oI,?_;intros p9 H9 s9 h9;refine⟨p9,_,rfl,h9,(by show 3<=1000000;decide),fun Hx sx=>kk _ _ (((((s05.trans s6).trans s7).trans s8).trans s9).trans sx) ?_⟩;unfold qS;rw[E2];refine Ff (ds:=[dO dL (jN a),dO .int (Gg b),og xs]) (sx _ _ h9) (aQ (AI (h6.mono (((s7.trans s8).trans s9).trans sx))) (aQ (AJ _) (pA (cK (sx _ _ (s9 _ _ h8)) DK)))) ?_ ?_
    ·simp only[B1]
     rw[e2];cases jN a <;> cases Gg b <;> first | (intro _;rfl) | (intro q;exact absurd q (by simp[dO,dL,Dt.gK,og]))
    ·simp only[B1]
     rw[e2];cases jN a <;> cases Gg b <;> first | (intro _;rfl) | (intro q;exact absurd q (by simp[dO,dL,Dt.gK,og]))
theorem xM {H:Hp} {α:Type} {d:α->Dt}:∀{xs:List α} {vs:List V},aE H (xs.map d) vs->∃ps:List (α×V),ps.map (·.1)=xs/\ps.map (·.2)=vs/\∀q∈ps,Is H (d q.1) q.2
 | [],_,h=>by unfold aE at h;exact⟨[],rfl,h.symm,fun _ z=>nomatch z⟩
 | x::xs,_,h=>by
  rw[zj] at h;unfold aE at h;obtain⟨u,r,rfl,h1,h2⟩:=h;obtain⟨ps,e1,e2,hh⟩:=xM h2;refine⟨(x,u)::ps,by simp[e1],by simp[e2],fun q m=>?_⟩;rcases zD.mp m with e | m
  ·subst e;exact h1
  ·exact hh q m
def item_at {H:Hp} {it:Item} {v:V} (h:Is H (fe it) v):∃a pv lv,v=.ref a/\H a=some (.tup [pv,lv])/\Is H (dO dL it.1) pv/\Is H (dL it.2) lv:=by
 unfold fe Is at h;obtain⟨a,vs,rfl,ha,hl⟩:=h;unfold aE at hl;obtain⟨pv,r,rfl,h1,hl⟩:=hl;unfold aE at hl;obtain⟨lv,r,rfl,h2,hl⟩:=hl;unfold aE at hl;subst hl;exact⟨a,pv,lv,rfl,ha,h1,h2⟩
def SF {H:Hp} {α:Type} {d:α->Dt} (f:JQ d) {o:Option α} {v:V} (h:Is H (dO d o) v):gK v=o.isNone:=by
 rw[NC h];cases o with
 | none=>rfl
 | some x=>exact f x
def qB:aF ["words","items"] ["words"] (aq sU):=dH
def B7:di P w base 6 T.mF (gi K S5):=by
 nomatch T.mF,qB
 obtain⟨p,ws,rfl,hp,hl,sh,kk⟩:=h;have sl:=yC;refine⟨_,(ag (aJ (ptr fA (eQ aG T.bC (ah (pv 0) af)) ae)
  (ak (au aW))
  aD)
  (ag (bT 1 qB.nd (bK (eF T) hr T.dF (ah (qh (ts:=["word"]) (ys:=[]) (js:=[]) (te:=(iA qq [] E0 (bX (bf 0) eV))) (bw (dP gX (pv 0) (eN ae) eO)) (hJ 0) bD (bK (B3 T) hr T.uS (ah (pv 0) af))) af)))
  (ag (aJ (PW.pt (eD (bF (cJ (pv 1))) (dC (cU (eQ (pU rfl) T.Kb (ah (qh (ts:=["item"]) (ys:=[]) (js:=[]) (te:=(Mx (fP (rH K) (bf 0) (tC (.int (0)))))) (bw (pv 1)) (hJ 0) bD (uW (cJ (bO (pv 0) ae)))) af))))))
  (ak (au aW))
  aD)
  (ak (au (bK (fJ T) hr T.dF (ah (bG (ah (bK (cz T) hr T.dg (ah (gd (pv 0) ae) af)) (ah (bK (d7 T) hr T.fj (ah (gd (pv 0) ae) af)) (ah (pv 1) af)))) af))))))),?_⟩
 ac_rfl;exists p,_,rfl,.inl hp,?_;rw[za];left;refine xh (fun c=>?_) (fun c=>?_)
 ·left
  refine kk _ _ (aB.refl _) ?_;have hw:=ye c;have e:kZ ws=none:=by
   unfold kZ;split
   ·simp at hw;omega
   ·rfl
  unfold S5;rw[e]
 ·have hw:¬(ws.length:Int)<3:=fun z=>c (zg z)
  obtain⟨a,b,i,r,rfl⟩:∃a b i r,ws=a::b::i::r:=by
   match ws,hw with
   | [],h=>exact absurd (by simp) h
   | [_],h=>exact absurd (by simp) h
   | [_,_],h=>exact absurd (by simp) h
   | a::b::i::r,_=>exact⟨a,b,i,r,rfl⟩
  have en:kZ (a::b::i::r)=(match pF ((i::r).map ir) with | some l=>if l.all (fun it=>it.1.isNone)=true then none else(match fV a,cP b with | some x,some y=>some (x,y,l) | _,_=>none) | none=>none):=rfl;unfold S5 at kk;rw[en] at kk;have sh':∀z∈i::r,z.length<=600:=fun z hz=>sh z (by simp at hz ⊢;rcases hz with h | h <;> simp[h]);have hl':(i::r).length<=1000000:=by simp at hl ⊢;omega
  exists p,_,rfl,hp,?_;rw[show lC (List.map V.str (a::b::i::r)) (some 2) none=(i::r).map V.str from(fZ _ 2).trans rfl];clear en;generalize i::r=its at kk sh' hl';intros p1 H1 s1 h1;exists⟨_,aL.of h1⟩,?_;refine d9 (enc:=V.str) (ws:=its) (fun z=>dO fe (ir z)) (fun σ=>∃v,σ=[v]) nofun (aL.of h1) ⟨none,rfl⟩ ?_ ?_
  ·rintro z σ H4 R hz s4 ⟨_,rfl⟩ r
   change⟨sh' z hz,fun v H5 s5 h5=>r _ _ _ s5 (SE h5) ⟨_,rfl⟩⟩
  ·intro D vs H4 s4 nD hD il
   refine⟨D,vs,rfl,aL.of hD,by rw[il.len,za];omega,fun H5 s5=>?_⟩;have il:=pw il;rw[kL il];have s05:=(s1.trans s4).trans s5;cases q:((its.map ir).map (dO fe)).any Dt.gK with
   | true=>
    left;refine kk _ _ s05 ?_;rw[jF Lw q]
   | false=>
    obtain⟨xs,e2,e3,e4⟩:=jE q;rw[e3] at il;rw[e2] at kk;have il5:=il.mono s5;have hD5:=s5 _ _ hD;obtain⟨ps,f1,f2,f3⟩:=xM il5;have pl:ps.length<=1000000:=by
     have:ps.length=xs.length:=by rw[<-f1,za]
     rw[this,e4,za];exact hl'
    exists⟨_,aL.of hD5⟩,?_;refine f9 (enc:=fun q:Item×V=>q.2) (ws:=ps) (fun q=>.bl q.1.1.isNone) (fun σ=>∃v,σ=[v]) nofun (by rw[f2];exact aL.of hD5) ⟨none,rfl⟩ ?_ ?_
    ·rintro z σ H6 R hz s6 ⟨_,rfl⟩ r
     obtain⟨a6,pv,lv,ev,h6,h7,h8⟩:=item_at (f3 z hz);rw[ev];have h66:=s6 _ _ h6;left;refine r _ _ _ (aB.refl _) ?_ ⟨_,rfl⟩;rw[<-SF Rt h7];unfold Is;rfl
    ·intro D2 vs2 H6 s6 hD2 il2
     have e5:ps.map (fun q=>Dt.bl q.1.1.isNone)=(ps.map fun q=>q.1.1.isNone).map Dt.bl:=by rw[zB];rfl
     rw[e5] at il2;rw[lq il2] at hD2;refine⟨D2,_,rfl,aL.of hD2,?_⟩;have e6:(ps.map fun q=>q.1.1.isNone).all id=xs.all fun it=>it.1.isNone:=by rw[<-f1,List.all_map,List.all_map];rfl
     rw[e6];cases qa:xs.all fun it=>it.1.isNone with
     | true=>
      dsimp only at kk;rw[qa] at kk;change kk _ _ (s05.trans s6) rfl
     | false=>
      dsimp only at kk;rw[qa] at kk;have s06:=s05.trans s6;exists p,_,0,_,rfl,rfl,s06.seq hp,bE (j:=0) rfl,?_;refine⟨_,rfl,sh a (by simp),fun H7 s7=>?_⟩;exists p,_,1,_,rfl,rfl,(s06.trans s7).seq hp,bE (j:=1) rfl,?_;refine⟨_,rfl,sh b (by simp),fun H8 s8=>?_⟩;exists oI,?_;intros p9 H9 s9 h9;have s59:=((s6.trans s7).trans s8).trans s9;refine⟨p9,_,rfl,h9,(by show 3<=1000000;decide),fun Hx sx=>kk _ _ ((s05.trans s59).trans sx) ?_⟩;have s5x:=s59.trans sx;have h9x:=sx _ _ h9;clear h9
      revert h9x
      cases fV a <;> cases cP b <;> intro h9x <;> first | rfl | exact⟨p9,D,vs,rfl,h9x,s5x _ _ hD5,il5.mono s5x,s1.back nD⟩
def jH:aF ["words","times","ends"] ["words"] (aq qI):=dH
def Ax:di P w base 5 T.kz (gi K (qS iK kB)):=by
 nomatch T.kz,jH
 obtain⟨p,ws,rfl,hp,hl,sh,kk⟩:=h;have sl:=yC;refine⟨_,(ag (aJ (ptr fA (eQ aG T.bC (ah (pv 0) af)) ae)
  (ak (au aW))
  aD)
  (ag (bT 1 jH.nd (bK (pj T) hr T.ku (ah (gd (pv 0) ae) (ah (b8 (v:=.int (2)) (by rfl) T.Bg ⟨_,rfl⟩) (ah (b8 (v:=.int (9)) (by rfl) T.E7 ⟨_,rfl⟩) af)))))
  (ag (bT 2 jH.nd (bK (eF T) hr T.dF (ah (qh (ts:=["word"]) (ys:=[]) (js:=[]) (te:=(iA vK [] E0 (bX (bf 0) eV))) (bw (dP gX (pv 0) (eN ae) eO)) (hJ 0) bD (bK (GD T) hr T.Ao (ah (pv 0) af))) af)))
  (ag (aJ (bF (cJ (pv 2)))
  (ak (au aW))
  aD)
  (ak (au (bK (fJ T) hr T.dF (ah (bG (ah (bK (cz T) hr T.dg (ah (gd (pv 0) ae) af)) (ah (bK (cz T) hr T.dg (ah (gd (pv 0) ae) af)) (ah (pv 1) (ah (ox cS T.hV (ah (pv 2) af)) af))))) af)))))))),?_⟩
 ac_rfl;exists p,_,rfl,.inl hp,?_;rw[za];left;refine xh (fun c=>?_) (fun c=>?_)
 ·left
  refine kk _ _ (aB.refl _) ?_;have hw:=ye c;have e:kB ws=none:=by
   unfold kB;split
   ·simp at hw;omega
   ·rfl
  unfold qS;rw[e];exact d8
 ·have hw:¬(ws.length:Int)<3:=fun z=>c (zg z)
  obtain⟨a,b,c',r,rfl⟩:∃a b i r,ws=a::b::i::r:=by
   match ws,hw with
   | [],h=>exact absurd (by simp) h
   | [_],h=>exact absurd (by simp) h
   | [_,_],h=>exact absurd (by simp) h
   | a::b::i::r,_=>exact⟨a,b,i,r,rfl⟩
  have en:kB (a::b::c'::r)=(match pF (r.map Aj) with | some l=>(match fV a,fV b,nN c' 2 9 with | some x,some y,some z=>some ⟨x,y,z,l⟩ | _,_,_=>none) | none=>none):=rfl;unfold qS at kk;rw[en] at kk;have sh':∀z∈r,z.length<=600:=fun z hz=>sh z (by simp[hz]);have hl':r.length<=1000000:=by simp at hl ⊢;omega
  exists p,_,2,_,rfl,rfl,hp,bE (j:=2) rfl,?_;refine⟨_,_,_,rfl,sh c' (by simp),fun H0 s0=>?_⟩;exists p,_,rfl,s0.seq hp,?_;rw[show lC (List.map V.str (a::b::c'::r)) (some 3) none=r.map V.str from(fZ _ 3).trans rfl];intros p1 H1 s1 h1;exists⟨_,aL.of h1⟩,?_;refine f9 (enc:=V.str) (ws:=r) (fun z=>dO oq (Aj z)) (fun σ=>∃v,σ=[v]) nofun (aL.of h1) ⟨none,rfl⟩ ?_ ?_
  ·rintro z σ H4 R hz s4 ⟨_,rfl⟩ r
   change⟨sh' z hz,fun v H5 s5 h5=>r _ _ _ s5 h5 ⟨_,rfl⟩⟩
  ·intro D vs H4 s4 hD il
   refine⟨D,vs,rfl,aL.of hD,by rw[il.len,za];omega,fun H5 s5=>?_⟩;have il:=pw il;rw[kL il];have s05:=((s0.trans s1).trans s4).trans s5;cases q:((r.map Aj).map (dO oq)).any Dt.gK with
   | true=>
    left;refine kk _ _ s05 ?_;rw[jF NN q];exact d8
   | false=>
    obtain⟨xs,e2,e3,e4⟩:=jE q;rw[e3] at il;rw[e2] at kk;have il5:=il.mono s5;have hD5:=s5 _ _ hD;exists p,_,0,_,rfl,rfl,s05.seq hp,bE (j:=0) rfl,?_;refine⟨_,rfl,sh a (by simp),fun H6 s6=>?_⟩;exists p,_,1,_,rfl,rfl,(s05.trans s6).seq hp,bE (j:=1) rfl,?_;refine⟨_,rfl,sh b (by simp),fun H7 s7=>?_⟩;left;refine⟨D,_,rfl,.inl ⟨aL.of (s7 _ _ (s6 _ _ hD5)),?_⟩⟩;intros p8 H8 s8 h8;exists by show 4<=sizeLine;omega,?_
    intros p9 H9 s9 h9;have s59:=((s6.trans s7).trans s8).trans s9;refine⟨p9,_,rfl,h9,(by show 4<=1000000;decide),fun Hx sx=>kk _ _ ((s05.trans s59).trans sx) ?_⟩;rw[E2];refine Ff (ds:=[dO .int (fV a),dO .int (fV b),dO .int (nN c' 2 9),.tup (xs.map oq)]) (sx _ _ h9) (aQ (AJ _) (aQ (AJ _) (aQ (AJ _) (pA (cK (sx _ _ (s9 _ _ h8)) (il5.mono (s59.trans sx))))))) ?_ ?_
    ·cases fV a <;> cases fV b <;> cases nN c' 2 9 <;> first | (intro _;rfl) | (intro q;exact absurd q (by simp[dO,dL,Dt.gK]))
    ·cases fV a <;> cases fV b <;> cases nN c' 2 9 <;> first | (intro _;rfl) | (intro q;exact absurd q (by simp[dO,dL,Dt.gK]))
def mw:aF ["words","stops","coda"] ["words"] (aq vU):=dH
def Er:di P w base 3 T.pI (gi K (qS jZ wg)):=by
 nomatch T.pI,mw
 obtain⟨p,ws,rfl,hp,hl,sh,kk⟩:=h;have sl:=yC;refine⟨_,(ag (aJ (ptr lT (eQ aG T.bC (ah (pv 0) af)) ae)
  (ak (au aW))
  aD)
  (ag (bT 1 mw.nd (bK (eF T) hr T.dF (ah (qh (ts:=["word"]) (ys:=[]) (js:=[]) (te:=(iA kT [] E0 (bX (bf 0) eV))) (bw (dP gX (pv 0) eO (eN ae))) (hJ 0) bD (bK (cz T) hr T.dg (ah (pv 0) af))) af)))
  (ag (bT 2 mw.nd (bK (cz T) hr T.dg (ah (gd (pv 0) ae) af)))
  (ag (aJ (PW.pt (eD (bF (cJ (pv 1))) (dC (PW.pt (dI (bF (cJ (pv 2))) (dn (ptr lT (gd (pv 0) ae) aN)))))))
  (ak (au aW))
  aD)
  (ak (au (bG (ah (gd (pv 1) ae) (ah (gd (pv 1) ae) (ah (gd (pv 1) ae) (ah (pv 2) af))))))))))),?_⟩
 ac_rfl;exists p,_,rfl,.inl hp,?_;rw[za];left
 by_cases hw:ws.length=4
 ·obtain⟨a,b,c,d,rfl⟩:∃a b c d,ws=[a,b,c,d]:=by
   match ws,hw with
   | [a,b,c,d],_=>exact⟨a,b,c,d,rfl⟩
  have en:wg [a,b,c,d]=(match fV a,fV b,fV c with | some x,some y,some z=>(match fV d with | some n=>some ⟨x,y,z,some n⟩ | none=>if d ="end" then some ⟨x,y,z,none⟩ else none) | _,_,_=>none):=rfl;unfold qS at kk;rw[en] at kk;refine cq rfl ?_;exists p,_,rfl,hp,?_;rw[show lC (List.map V.str [a,b,c,d]) none (some 3)=[a,b,c].map V.str from(E3 _ 3).trans rfl];intros p1 H1 s1 h1;exists⟨_,aL.of h1⟩,?_;refine f9 (enc:=V.str) (ws:=[a,b,c]) (fun z=>dO .int (fV z)) (fun σ=>∃v,σ=[v]) (by show 3<=sizeLine;omega) (aL.of h1) ⟨none,rfl⟩ ?_ ?_
  ·rintro z σ H4 R hz s4 ⟨_,rfl⟩ r
   change⟨sh z (by simp at hz ⊢;rcases hz with h | h | h <;> simp[h]),fun H5 s5=>r _ _ _ s5 (AJ _) ⟨_,rfl⟩⟩
  ·intro D vs H4 s4 hD il
   refine⟨D,vs,rfl,aL.of hD,by rw[il.len];show 3<=1000000;decide,fun H5 s5=>?_⟩;have il:=pw il;rw[kL il];have s05:=(s1.trans s4).trans s5;cases q:(([a,b,c].map fV).map (dO Dt.int)).any Dt.gK with
   | true=>
    exists p,_,3,_,rfl,rfl,s05.seq hp,rfl,?_;refine⟨_,rfl,sh d (by simp),fun H6 s6=>?_⟩;left;refine kk _ _ (s05.trans s6) ?_;have q':([fV a,fV b,fV c].map (dO Dt.int)).any Dt.gK=true:=q;clear q en kk
    revert q'
    cases fV a <;> cases fV b <;> cases fV c <;> intro q' <;> first | exact d8 | exact absurd q' (by simp[dO,Dt.gK])
   | false=>
    obtain⟨x,y,z,ea,eb,ec⟩:∃x y z,fV a=some x/\fV b=some y/\fV c=some z:=by
     have q':([fV a,fV b,fV c].map (dO Dt.int)).any Dt.gK=false:=q;clear q en kk il
     revert q'
     cases fV a <;> cases fV b <;> cases fV c <;> intro q' <;> first | exact⟨_,_,_,rfl,rfl,rfl⟩ | exact absurd q' (by simp[dO,Dt.gK])
    rw[ea,eb,ec] at kk;have il':aE H4 ([x,y,z].map Dt.int) vs:=by
     have:([a,b,c].map fV).map (dO Dt.int)=[x,y,z].map Dt.int:=by simp[ea,eb,ec,dO]
     rw[this] at il;exact il
    have ev:=fq il';subst ev;have hD5:=s5 _ _ hD;exists p,_,3,_,rfl,rfl,s05.seq hp,rfl,?_;refine⟨_,rfl,sh d (by simp),fun H6 s6=>?_⟩;have hD6:=s6 _ _ hD5;have s06:=s05.trans s6;have fin:∀(o:Option Int) (v:V),Is H6 (dO .int o) v->fV d=o->(o=none->d ="end")->∀p7 H7,aB H6 H7->H7 p7=some (.tup [.int x,.int y,.int z,v])->Q (.ref p7) H7:=fun o v iv eo hend p7 H7 s7 h7=>by
     refine kk _ _ (s06.trans s7) ?_;rw[eo];cases o with
     | none=>
      simp only[hend rfl,if_pos];exact cK h7 (aQ cX (aQ cX (aQ cX (pA (iv.mono s7)))))
     | some n=>exact cK h7 (aQ cX (aQ cX (aQ cX (pA (iv.mono s7)))))
    cases ed:fV d with
    | none=>
     exists p,_,3,_,rfl,rfl,s06.seq hp,rfl,?_;left
     by_cases he:d ="end"
     ·refine cq (by rw[he];rfl) ?_
      exists D,_,0,_,rfl,rfl,aL.of hD6,rfl,?_;exists D,_,1,_,rfl,rfl,aL.of hD6,rfl,?_;exists D,_,2,_,rfl,rfl,aL.of hD6,rfl,?_;left;refine⟨by show 4<=sizeLine;omega,laid ?_⟩;exact fin none .bR d8 ed fun _=>he
     ·refine cb (by rw[ze fun z=>he (V.str.inj z)];rfl) ?_
      left;refine kk _ _ s06 ?_;rw[ed];simp only[if_neg he];exact d8
    | some n=>
     exists D,_,0,_,rfl,rfl,aL.of hD6,rfl,?_;exists D,_,1,_,rfl,rfl,aL.of hD6,rfl,?_;exists D,_,2,_,rfl,rfl,aL.of hD6,rfl,?_;left;refine⟨by show 4<=sizeLine;omega,laid ?_⟩;exact fin (some n) (.int n) cX ed fun z=>nomatch z
 ·refine cb (by rw[ze fun z=>hw (by have:=V.int.inj z;omega)];rfl) ?_
  left;refine kk _ _ (aB.refl _) ?_;have e:wg ws=none:=by
   unfold wg;split
   ·exact absurd rfl hw
   ·rfl
  unfold qS;rw[e];exact d8
structure Dk (P:Program) (w:World) (K:yB) {mg:Str->Option Value} (T:Txt K mg):Prop where
 J6:KD P w K T.jC [("player",.ref T.ig),("instrument",.ref T.eP),("staff",.ref T.jr),("bar",.ref T.mV),("upbeat",.ref T.ia),("holds",.ref T.kP),("notes",.ref T.jt),("repeat",.ref T.ic),("jump",.ref T.kO)]
 Rv:KD P w K T.tF [("player",.ref T.gF),("instrument",.ref T.eA),("staff",.ref T.hZ),("bar",.ref T.kQ),("upbeat",.ref T.gD),("holds",.ref T.jx),("notes",.ref T.ik),("repeat",.ref T.gE),("jump",.ref T.jw)]
inductive Ma (K:yB) {mg:Str->Option Value} (T:Txt K mg):Addr->Sp->Prop where
 | bN:Ma K T T.ig (gi K (qS .str (one cP)))
 | cQ:Ma K T T.eP (gi K (qS eK mG))
 | cC:Ma K T T.jr (gi K (qS gQ rG))
 | bar:Ma K T T.mV (gi K (qS l8 B1))
 | aI:Ma K T T.ia (gi K (qS dL (one lr)))
 | holds:Ma K T T.kP (gi K (qS wB tG))
 | aK:Ma K T T.jt (gi K S5)
 | rep:Ma K T T.ic (gi K (qS iK kB))
 | b9:Ma K T T.kO (gi K (qS jZ wg))
noncomputable def Ap {K:yB} {mg:Str->Option Value} (T:Txt K mg):List (Str×V):=[("player",V.ref T.ig),("instrument",.ref T.eP),("staff",.ref T.jr),("bar",.ref T.mV),("upbeat",.ref T.ia),("holds",.ref T.kP),("notes",.ref T.jt),("repeat",.ref T.ic),("jump",.ref T.kO)]
def MV (K:yB) {mg:Str->Option Value} (T:Txt K mg) (x:Str):(uD (Ap T) x=none/\∀ws,pK (x::ws)=none)\/∃f D,uD (Ap T) x=some (.ref f)/\Ma K T f (gi K D)/\∀H0 H v ws,D H0 H v ws->gW H0 H v (pK (x::ws)):=by
 by_cases e0:x ="player"
 ·subst e0
  refine .inr ⟨_,_,rfl,.bN,fun H0 H v ws h=>?_⟩;exact oA (g:=Told.bN) h fun x z=>by unfold Is at z;exact z
 by_cases e1:x ="instrument"
 ·subst e1
  refine .inr ⟨_,_,rfl,.cQ,fun H0 H v ws h=>?_⟩;exact oA (g:=fun(x:Str×(Int×Int)×(Int×Int))=>Told.cQ x.1 x.2.1 x.2.2) h fun x z=>(show Is H (eK x) v from z)
 by_cases e2:x ="staff"
 ·subst e2
  refine .inr ⟨_,_,rfl,.cC,fun H0 H v ws h=>?_⟩;exact oA (g:=fun(x:Str×List Str)=>Told.cC x.1 x.2) h fun x z=>(show Is H (gQ x) v from z)
 by_cases e3:x ="bar"
 ·subst e3
  refine .inr ⟨_,_,rfl,.bar,fun H0 H v ws h=>?_⟩;exact oA (g:=Told.bar) h fun x z=>z
 by_cases e4:x ="upbeat"
 ·subst e4
  refine .inr ⟨_,_,rfl,.aI,fun H0 H v ws h=>?_⟩;exact oA (g:=Told.aI) h fun x z=>z
 by_cases e5:x ="holds"
 ·subst e5
  refine .inr ⟨_,_,rfl,.holds,fun H0 H v ws h=>?_⟩;exact oA (g:=fun(x:Str×Int×Str)=>Told.holds x.1 x.2.1 x.2.2) h fun x z=>(show Is H (wB x) v from z)
 by_cases e6:x ="notes"
 ·subst e6
  refine .inr ⟨_,_,rfl,.aK,fun H0 H v ws h=>?_⟩;have e:pK ("notes":: ws)=(kZ ws).map fun x=>Told.aK x.1 x.2.1 x.2.2:=rfl;rw[e];unfold S5 at h;cases q:kZ ws with
  | none=>rw[q] at h;exact h
  | some y=>rw[q] at h;exact h
 by_cases e7:x ="repeat"
 ·subst e7
  refine .inr ⟨_,_,rfl,.rep,fun H0 H v ws h=>?_⟩;exact oA (g:=Told.rep) h fun x z=>z
 by_cases e8:x ="jump"
 ·subst e8
  refine .inr ⟨_,_,rfl,.b9,fun H0 H v ws h=>?_⟩;exact oA (g:=Told.b9) h fun x z=>z
 refine .inl ⟨?_,fun ws=>?_⟩
 ·have f0:∀(k:Str) (v:V) (r:List (Str×V)),x≠k->uD ((k,v)::r) x=uD r x:=fun k v r h=>by
   unfold uD;rw[List.find?_cons];rw[show decide ((k,v).1=x)=false from ze fun z=>h z.symm]
  unfold Ap;rw[f0 _ _ _ e0,f0 _ _ _ e1,f0 _ _ _ e2,f0 _ _ _ e3,f0 _ _ _ e4,f0 _ _ _ e5,f0 _ _ _ e6,f0 _ _ _ e7,f0 _ _ _ e8];rfl
 ·unfold pK
  dsimp only;rw[if_neg e0,if_neg e1,if_neg e2,if_neg e3,if_neg e4,if_neg e5,if_neg e6,if_neg e7,if_neg e8]
def uI {K:yB} {mg:Str->Option Value} (T:Txt K mg):Sp:=fun vs H Q _=>∃x:Str,vs=[.str x]/\Q (.bl (uD (Ap T) x).isSome) H
def uP:aF ["word"] ["word"] (aq nG):=dH
def uY (B:Dk P w K T):di P w base 1 T.ly (uI T):=by
 nomatch T.ly,uP
 obtain⟨x,rfl,kk⟩:=h;refine⟨_,(ak (au (uW (O3 (pv 0) (b8 (v:=.ref T.jC) (by rfl) T.Ds rfl))))),?_⟩;ac_rfl;exists T.jC,Ap T,x,rfl,B.J6,rfl,?_;left;show Q (V.bl (false ^^ (uD (Ap T) x).isSome)) H;rw[Bool.false_xor];exact kk
def vM:aF ["words","reader"] ["words"] (aq rk):=dH
def GB (B:Dk P w K T):di P w base 7 T.Am (FZ K):=by
 refine T.Am.F.To vM fun cdv A' outer s H vs Q E hr h=>?_
 ·obtain⟨p,x,ws,rfl,hp,hl,sh,kk⟩:=h
  have sl:=yC;have hTbV:∀f sp,Ma K T f sp->RP (lB Ie P w K mg base ["words","reader"] "read_row" (aq rk) T.Bk cdv A' outer s H E).IU Ie 6 f sp:=by
   intro f sp h;cases h with
   | bN=>exact⟨_,_,L2.dU.mono (Ay T) ∅,T.kA.F.kp,T.kA.b⟩
   | cQ=>exact⟨_,_,L2.dU.mono (rK T) ∅,T.fO.F.kp,T.fO.b⟩
   | cC=>exact⟨_,_,L2.dU.mono (B5 T) ∅,T.mE.F.kp,T.mE.b⟩
   | bar=>exact⟨_,_,L2.dU.mono (GF T) ∅,T.tE.F.kp,T.tE.b⟩
   | aI=>exact⟨_,_,L2.dU.mono (Aw T) ∅,T.ky.F.kp,T.ky.b⟩
   | holds=>exact⟨_,_,L2.dU.mono (Es T) ∅,T.pJ.F.kp,T.pJ.b⟩
   | aK=>exact⟨_,_,L2.dU.mono (B7 T) ∅,T.mF.F.kp,T.mF.b⟩
   | rep=>exact⟨_,_,L2.dU.mono (Ax T) ∅,T.kz.F.kp,T.kz.b⟩
   | b9=>exact⟨_,_,L2.dU.mono (Er T) ∅,T.pI.F.kp,T.pI.b⟩
  refine⟨_,(ag (aJ (fB (cU (bK (uY T B) hr T.ly (ah (gd (pv 0) ae) af))))
   (ak (au aW))
   aD)
   (ag (bT 1 vM.nd (Gs (b8 (v:=.ref T.jC) (by rfl) T.Ds rfl) (gd (pv 0) ae) (fun _ _=>rfl)))
   (ak (au (Gw (Ma K T) hTbV (hr.mono ∅) (pv 1) J9 (ah (dP gX (pv 0) (eN ae) eO) af)))))),?_⟩
  ac_rfl;exists p,_,0,_,rfl,rfl,hp,bE (j:=0) rfl,?_;refine⟨x,rfl,?_⟩;rcases MV K T x with⟨ev,er⟩ | ⟨f,D,ev,htb,hd⟩
  ·rw[ev]
   left;refine kk _ _ (aB.refl _) ?_;rw[er];rfl
  ·rw[ev]
   exists p,_,0,_,rfl,rfl,hp,bE (j:=0) rfl,?_;refine⟨T.jC,Ap T,x,_,rfl,B.J6,rfl,ev,?_⟩;exists f,_,rfl,htb,?_;exists p,_,rfl,hp,?_;rw[show lC (List.map V.str (x::ws)) (some 1) none=ws.map V.str from(fZ _ 1).trans rfl];intros p1 H1 s1 h1;refine⟨p1,ws,rfl,aL.of h1,nofun,fun y hy=>sh y (by simp[hy]),fun v H2 s2 h2=>kk _ _ (s1.trans s2) ((hd _ _ _ _ h2).back s1)⟩
def nA:aF ["repeats","bar","repeat"] ["repeats","bar"] (aq oO):=dH
def nQ:di P w base 1 T.i7 (wI K):=by
 nomatch T.i7,nA
 obtain⟨p,rs,b,rfl,⟨vs,hp,il⟩,kk⟩:=h;unfold dX at kk;refine⟨_,(ag (cE PassesOwn.never rfl (bw (pv 0)) (jR 2 nA.nd)
  (ak (aJ (PW.pt (dI (ptr gJ (bO (pv 2) ae) (pv 1)) (dn (ptr gJ (pv 1) (bO (pv 2) ae)))))
   (ak (au (pv 2)))
   aD)))
  (ak (au aW))),?_⟩
 ac_rfl;exists⟨_,hp⟩,?_;refine dQ (K:=K) (a:=p) (xs:=vs) (fun i σ H'=>H'=H/\(rs.take i).find? (fun r=>decide (r.first<=b)&&decide (b<=r.last))=none/\∃v,σ=[some (.ref p),some (.int b),v]) ⟨rfl,rfl,none,rfl⟩ (fun i σ H' _ h=>by rw[h.1];exact hp) ?_ ?_
 ·intro i x σ H' hx hh
  refine df fun N kN0 kR0 _ _=>?_;obtain⟨rfl,hn,v,rfl⟩:=hh;obtain⟨r,hr',hi⟩:=dE il hx;obtain⟨a,e,rfl,ha,he⟩:=eJ hi;left
  by_cases c1:r.first<=b
  ·refine cb (zg c1) ?_
   left
   by_cases c2:b<=r.last
   ·refine cb (zg c2) ?_
    left;refine kk _ ?_;rw[Kk hr' hn (by rw[zg c1,zg c2];rfl)];exact hi
   ·refine cq (ze c2) ?_
    change⟨Dl hr' hn (by rw[ze c2,Bool.and_false]),_,rfl⟩
  ·refine cq (ze c1) ?_
   change⟨Dl hr' hn (by rw[ze c1,Bool.false_and]),_,rfl⟩
 ·rintro σ H' ⟨rfl,hn,v,rfl⟩
  rw[aT il,zN] at hn;left;refine kk _ ?_;rw[hn];exact d8
def sJ:aF ["repeats","bar","repeat"] ["repeats","bar"] (aq vX):=dH
def Et:di P w base 2 T.vd (DS K):=by
 nomatch T.vd,sJ
 obtain⟨p,rs,b,rfl,hp,kk⟩:=h;unfold iF at kk;refine⟨_,(ag (bT 2 sJ.nd (bK (nQ T) hr T.i7 (ah (pv 0) (ah (pv 1) af))))
  (ak (au (Na (uW (cJ (pv 2))) (mI (dY dj (pv 1) (bO (pv 2) ae) (iS _))))))),?_⟩
 ac_rfl;exists p,rs,b,rfl,hp,fun v iv=>?_;cases q:dX rs b with
 | none=>
  rw[q] at iv kk;unfold dO Is at iv;subst iv;change kk
 | some r=>
  rw[q] at iv kk;obtain⟨a,e,rfl,ha,he⟩:=eJ iv;left;have e1:decide (V.int b=V.int r.last)=decide (b=r.last):=by simp
  show Q (.bl (decide (V.int b=V.int r.last))) H;rw[e1];exact kk
def sL:aF ["repeats","bar","repeat"] ["repeats","bar"] (aq vY):=dH
def tP:di P w base 2 T.pP (DT K):=by
 nomatch T.pP,sL
 obtain⟨p,rs,b,rfl,hp,kk⟩:=h;unfold eE at kk;refine⟨_,(ag (bT 2 sL.nd (bK (nQ T) hr T.i7 (ah (pv 0) (ah (pv 1) af))))
  (ak (au (Na (uW (cJ (pv 2))) (mI (dY dj (pv 1) (bO (pv 2) ae) (iS _))))))),?_⟩
 ac_rfl;exists p,rs,b,rfl,hp,fun v iv=>?_;cases q:dX rs b with
 | none=>
  rw[q] at iv kk;unfold dO Is at iv;subst iv;change kk
 | some r=>
  rw[q] at iv kk;obtain⟨a,e,rfl,ha,he⟩:=eJ iv;left;have e1:decide (V.int b=V.int r.first)=decide (b=r.first):=by simp
  show Q (.bl (decide (V.int b=V.int r.first))) H;rw[e1];exact kk
def NS (us:List V) (h:us≠[]):¬(HT.fG us.length 0 (some 1)=0/\HT.fG us.length us.length none=us.length):=by
 rintro⟨h1,_⟩;have hp:0<us.length:=yr.mpr h;have e:HT.fG us.length 0 (some ((1:Nat):Int))=min 1 us.length:=by unfold HT.fG;simp
 have e':HT.fG us.length 0 (some (1:Int))=min 1 us.length:=e;rw[e'] at h1;omega
def K0 {K:yB} {H:Hp} {e:Addr} {us:List V} {Q:VK} (hu:H e=some (.tup us)) (k:∀q H1,aB H H1->H1 q=some (.tup (us.drop 1))->Q (.ref q) H1):P4 K (.ref e) (some 1) none H Q:=by
 by_cases h:us=[]
 ·subst h
  exact .inr ⟨e,[],rfl,dB.of hu,⟨rfl,rfl⟩,k e H (aB.refl H) hu⟩
 ·refine .inl ⟨e,us,rfl,dB.of hu,NS us h,?_⟩
  rw[show lC us (some 1) none=us.drop 1 from fZ us 1];exact laid k
def rg:aF ["repeat","ends","behind"] ["repeat"] (aq CU):=dH
def AA:di P w base 1 T.xP Iy:=by
 nomatch T.xP,rg
 obtain⟨v,r,rfl,iv,hl,kk⟩:=h;have sl:=yC;obtain⟨a,e,rfl,ha,he⟩:=eJ iv;unfold Is at he;obtain⟨e',us,ee,hu,ilu⟩:=he;cases ee;refine⟨_,(ag (bT 1 rg.nd (bO (pv 0) ae))
  (ag (bT 2 rg.nd (ax gs (qh (ts:=["end"]) (ys:=[]) (js:=[]) (te:=(fP (rH K) (bf 0) (tC (.int (0))))) (lg (dP OJ (pv 1) (eN ae) eO)) (hJ 0) bD (bO (pv 0) ae)) (bB (ah (ax aY (bO (pv 0) ae) ae) af))))
  (ak (au (qh (ts:=["end","after"]) (ys:=[]) (js:=[]) (g:=(G3 K 2 (gx (cg 0) (gx (cg 1) G4)))) (te:=(FQ (bX (fP (rH K) (bf 0) (tC (.int (0)))) (bX (fP (wj fun i j=>.int (i-j)) (bf 1) (tC (.int (1)))) (bX (fP (rH K) (bf 0) (tC (.int (1)))) eV))))) (M8 (by rfl) T.Nl (ah (pv 1) (ah (pv 2) af))) (d6 (n:=2) rfl (aP (hJ 0) (aP (hJ 1) dq))) bD (bG (ah (bO (pv 0) ae) (ah (ax jT (pv 1) ae) (ah (bO (pv 0) ae) af))))))))),?_⟩
 ac_rfl;left;have main:∀(q:Addr) (H1:Hp),aB H H1->H1 q=some (.tup (us.drop 1))->∀(R:VK),(∀D H2,aB H1 H2->H2 D=some (.lst ((r.ends.drop 1).map fun x=>V.int x.1))->R (.ref D) H2)->
   dR [none] (cg 0) wH (fP (rH K) (bf 0) (tC (.int 0))) R (Ql K q) H1:=by
  intro q H1 s1 h1 R hR;have il1:aE H ((r.ends.drop 1).map oq) (us.drop 1):=by
   cases re:r.ends with
   | nil=>
    rw[re] at ilu;unfold aE at ilu;subst ilu;unfold aE;rfl
   | cons x xs=>
    rw[re,zj] at ilu;unfold aE at ilu;obtain⟨u,ur,rfl,_,h2⟩:=ilu;exact h2
  obtain⟨ps,f1,f2,f3⟩:=xM il1;have pl:ps.length<=1000000:=by
   have:ps.length=(r.ends.drop 1).length:=by rw[<-f1,za]
   rw[this,List.length_drop];omega
  refine gR (enc:=fun z:Sc.End×V=>z.2) (ws:=ps) (fun z=>.int z.1.1) (fun σ=>∃v,σ=[v]) nofun (by rw[f2];exact h1) ⟨none,rfl⟩ ?_ ?_
  ·rintro z σ H6 R' hz s6 ⟨_,rfl⟩ r'
   obtain⟨a6,q6,ev,h6,h7⟩:=vm (f3 z hz);rw[ev];have h66:=s6 _ _ (s1 _ _ h6);change r' _ _ _ (aB.refl _) cX ⟨_,rfl⟩
  ·intro D vs H6 s6 hD il
   have e5:ps.map (fun z=>Dt.int z.1.1)=((r.ends.drop 1).map (·.1)).map Dt.int:=by rw[<-f1,zB,zB];rfl
   rw[e5] at il;rw[fq il,zB] at hD;exact hR D H6 s6 hD
 refine K0 hu fun q H1 s1 h1=>⟨q,rfl,⟨_,dB.of h1⟩,main q H1 s1 h1 _ fun D H2 s2 h2=>?_⟩
 have ha2:=s2 _ _ (s1 _ _ ha);exists by show 1<=sizeLine;omega,?_
 intros p3 H3 s3 h3;refine⟨D,p3,_,_,rfl,rfl,aL.of (s3 _ _ h2),aL.of h3,by rw[za,List.length_drop];show _+1<=_;omega,?_⟩;intros p4 H4 s4 h4;have s04:=(s1.trans s2).trans (s3.trans s4);have hu4:=s04 _ _ hu;have eb:(List.map (fun x=>V.int x.1) (r.ends.drop 1)++[V.int (r.last+1)])=((r.ends.drop 1).map (·.1)++[r.last+1]).map V.int:=by rw[zk,zB];rfl
 rw[eb] at h4;left;have ilu4:=ilu.mono s04;have ul:=aT ilu;refine⟨true,false,e,p4,us,_,rfl,dB.of hu4,aL.of h4,?_⟩;generalize hbs:(r.ends.drop 1).map (·.1)++[r.last+1]=bs at h4;have zl:(r.ends.zip bs).length=min r.ends.length bs.length:=List.length_zip;refine A8 (ws:=r.ends.zip bs) (fun z x H'=>∃p u,x=.ref p/\H' p=some (.tup [u,.int z.2])/\Is H' (oq z.1) u) (fun z=>LK (z.1.1,z.2-1,z.1.2)) (fun σ=>∃u v,σ=[u,v]) nofun ⟨none,none,rfl⟩ ?_ ?_ ?_ ?_ ?_
 ·intro i H5 hi s5
  have i1:i<us.length:=nofun
  have i2:i<(bs.map V.int).length:=by rw[za];omega
  exact⟨us,bs.map V.int,us[i],(bs.map V.int)[i],dB.of (s5 _ _ hu4),aL.of (s5 _ _ h4),zd i1,zd i2⟩
 ·intro H5 s5
  refine⟨us,bs.map V.int,dB.of (s5 _ _ hu4),aL.of (s5 _ _ h4),?_⟩;rw[za];rcases Nat.le_total r.ends.length bs.length with h | h
  ·exact Or.inl nofun
  ·right;omega
 ·rintro i x H5 H6 hi s5 ⟨p,u,v,hp,rfl,rfl,hu',hv'⟩
  have i1:i<r.ends.length:=nofun
  have i2:i<bs.length:=nofun
  have gu:=hu' us (dB.of (s5 _ _ hu4));have gv:=hv' (bs.map V.int) (aL.of (s5 _ _ h4));rw[zK,zd i2] at gv;cases gv;obtain⟨x0,hx0,ix0⟩:=dE (ilu4.mono s5) gu;rw[zd i1] at hx0;cases hx0;refine⟨aS hp,p,u,rfl,?_,?_⟩
  ·rw[aC,List.getElem_zip]
  ·rw[List.getElem_zip];exact ix0.mono (aS hp)
 ·rintro z x σ H5 R hz s5 ⟨p,u,rfl,hp,iu⟩ ⟨_,_,rfl⟩ rr
  obtain⟨a6,q6,rfl,h6,h7⟩:=vm iu;refine⟨p,_,rfl,dB.of hp,rfl,?_⟩;refine⟨_,_,rfl,_,_,rfl,rfl,?_⟩;left;refine⟨oI,laid fun p7 H7 s7 h7'=>rr _ _ _ s7 ?_ ⟨_,_,rfl⟩⟩;exact cK h7' (aQ cX (aQ cX (pA (cK (s7 _ _ h7) ua))))
 ·intro D5 vs5 H5 s5 hD5 il5
  refine kk _ _ _ (s04.trans s5) hD5 ?_;have ee:(fQ r).map LK=(r.ends.zip bs).map fun z=>LK (z.1.1,z.2-1,z.1.2):=by
   unfold fQ;rw[hbs,zB];rfl
  rw[ee];exact il5
def Ir {H:Hp} {e:Int×Int×List Int} {v:V} (h:Is H (LK e) v):∃a q,v=.ref a/\H a=some (.tup [.int e.1,.int e.2.1,.ref q])/\H q=some (.tup (e.2.2.map V.int)):=by
 unfold LK Is at h;obtain⟨a,vs,rfl,ha,hl⟩:=h;unfold aE at hl;obtain⟨v1,r1,rfl,h1,hl⟩:=hl;unfold aE at hl;obtain⟨v2,r2,rfl,h2,hl⟩:=hl;unfold aE at hl;obtain⟨v3,r3,rfl,h3,hl⟩:=hl;unfold aE at hl;subst hl;unfold Is at h1 h2;subst h1 h2;unfold wA Is at h3;obtain⟨q,us,rfl,hq,hle⟩:=h3;rw[fq hle] at hq;exact⟨a,q,rfl,ha,hq⟩
noncomputable def AR (r:Rep) (b:Int) (e:Int×Int×List Int):Bool:=decide (e.1<=b)&&decide (b<=e.2.1)&&!decide (r.times∈e.2.2)
def Ls (rs:List Rep) (b:Int):mQ rs b=rs.all fun r=>(fQ r).all fun e=>!AR r b e:=rfl
theorem vi:∀ns:List Int,(ns.map V.int).all nZ=true
 | []=>rfl
 | n::ns=>by rw[zj,List.all_cons,vi ns];rfl
def iQ:aF ["repeats","bar","repeat","end"] ["repeats","bar"] (aq oU):=dH
def nU:di P w base 2 T.ji (wL K):=by
 nomatch T.ji,iQ
 obtain⟨p,rs,b,rfl,⟨vs,hp,il⟩,hl,kk⟩:=h;rw[Ls] at kk;refine⟨_,(ag (cE PassesOwn.never rfl (bw (pv 0)) (jR 2 iQ.nd)
  (ak (cE PassesOwn.never rfl (bw (bK (AA T) hr T.xP (ah (pv 2) af))) (jR 3 iQ.nd)
   (ak (aJ (PW.pt (dI (ptr gJ (bO (pv 3) ae) (pv 1)) (dI (ptr gJ (pv 1) (bO (pv 3) ae)) (dn (jd fk (bO (pv 2) ae) (bO (pv 3) ae) (by with_unfolding_all rfl))))))
    (ak (au jS))
    aD)))))
  (ak (au jS))),?_⟩
 ac_rfl;exists⟨_,hp⟩,?_;refine dQ (K:=K) (a:=p) (xs:=vs) (fun i σ H'=>aB H H'/\(rs.take i).all (fun r=>(fQ r).all fun e=>!AR r b e)=true/\∃v u,σ=[some (.ref p),some (.int b),v,u]) ⟨aB.refl H,rfl,none,none,rfl⟩ (fun i σ H' _ h=>h.1.seq hp) ?_ ?_
 ·intro i x σ H' hx hh
  refine df fun N kN0 kR0 _ _=>?_;obtain⟨s1,hn,v,u,rfl⟩:=hh;obtain⟨r,hr',hi⟩:=dE il hx;have hm:=zC hr';exists _,r,rfl,hi.mono s1,hl r hm,fun D us H2 s2 hD ilD=>?_;refine⟨D,rfl,⟨_,aL.of hD⟩,?_⟩;obtain⟨a,e,rfl,ha,he⟩:=eJ (hi.mono (s1.trans s2));refine dQ (K:=K) (a:=D) (xs:=us) (fun j σ H'=>H'=H2/\((fQ r).take j).all (fun e=>!AR r b e)=true/\∃u,σ=[some (.ref p),some (.int b),some (.ref a),u]) ⟨rfl,rfl,_,rfl⟩ (fun j σ H' _ h=>by rw[h.1];exact aL.of hD) ?_ ?_
  ·intro j y σ H3 hy hh
   refine df fun N kN1 kR1 _ _=>?_;obtain⟨rfl,hnj,u',rfl⟩:=hh;obtain⟨t,ht,it⟩:=dE ilD hy;obtain⟨a6,q6,rfl,h6,h7⟩:=Ir it;have good:AR r b t=false->((fQ r).take (j+1)).all (fun e=>!AR r b e)=true:=fun z=>by
    rw[cZ ht,List.all_append,hnj,Bool.true_and];simp[z]
   left
   by_cases c1:t.1<=b
   ·refine cb (zg c1) ?_
    left
    by_cases c2:b<=t.2.1
    ·refine cb (zg c2) ?_
     exists q6,t.2.2.map V.int,rfl,.inr (dB.of h7),rfl,vi _,?_;show∃k,V.bl (!GZ (.int r.times) (t.2.2.map V.int))=.bl k/\_;rw[AK]
     by_cases c3:r.times∈t.2.2
     ·rw[zg c3]
      change⟨good (by unfold AR;rw[zg c3];simp),_,rfl⟩
     ·rw[ze c3]
      left;have z:=kk H3 (s1.trans s2);have e0:(rs.all fun r=>(fQ r).all fun e=>!AR r b e)=false:=by
       rw[List.all_eq_false];refine⟨r,hm,?_⟩;have:((fQ r).all fun e=>!AR r b e)=false:=by
        rw[List.all_eq_false];exact⟨t,zC ht,by unfold AR;simp[c1,c2,c3]⟩
       rw[this];decide
      rw[e0] at z;exact z
    ·refine cq (ze c2) ?_
     change⟨good (by unfold AR;rw[ze c2];simp),_,rfl⟩
   ·refine cq (ze c1) ?_
    change⟨good (by unfold AR;rw[ze c1];simp),_,rfl⟩
  ·rintro σ H3 ⟨rfl,hnj,u',rfl⟩
   rw[aT ilD,zN] at hnj;left;refine⟨s1.trans s2,?_,_,_,rfl⟩;rw[cZ hr',List.all_append,hn,Bool.true_and];simp[hnj]
 ·rintro σ H' ⟨s1,hn,v,u,rfl⟩
  rw[aT il,zN] at hn;left;have z:=kk H' s1;rw[hn] at z;exact z
inductive DV (K:yB) (vs:List V) (H:Hp) (Q:VK) (E:XK):Prop
 | mk (p:Addr) (rs:List Rep) (a c:Int) (_:vs=[.ref p,.int a,.int c]) (_:CI K H p rs) (_:(∀r∈rs,r.ends.length<=1000000)) (_:∀H',aB H H'->Q (.bl (decide (a<c)&&eE rs c&&mQ rs c)) H')
inductive DU (K:yB) (vs:List V) (H:Hp) (Q:VK) (E:XK):Prop
 | mk (p:Addr) (rs:List Rep) (v:V) (j:Jump) (_:vs=[.ref p,v]) (_:CI K H p rs) (_:(∀r∈rs,r.ends.length<=1000000)) (_:Is H (jZ j) v) (_:∀H',aB H H'->Q (.bl (iH rs j)) H')
def tX {H:Hp} {j:Jump} {v:V} (h:Is H (jZ j) v):∃a,v=.ref a/\H a=some (.tup [.int j.uB,.int j.wu,.int j.cW,ov j.gf]):=by
 unfold jZ Is at h;obtain⟨a,vs,rfl,ha,hl⟩:=h;unfold aE at hl;obtain⟨v1,r1,rfl,h1,hl⟩:=hl;unfold aE at hl;obtain⟨v2,r2,rfl,h2,hl⟩:=hl;unfold aE at hl;obtain⟨v3,r3,rfl,h3,hl⟩:=hl;unfold aE at hl;obtain⟨v4,r4,rfl,h4,hl⟩:=hl;unfold aE at hl;subst hl;unfold Is at h1 h2 h3;subst h1 h2 h3;refine⟨a,rfl,?_⟩;cases q:j.gf with
 | none=>rw[q] at h4;unfold dO Is at h4;subst h4;exact ha
 | some n=>rw[q] at h4;unfold dO Is at h4;subst h4;exact ha
def Ec:aF ["repeats","at","coda"] ["repeats","at","coda"] (aq v8):=dH
def Ew:di P w base 3 T.vy (DV K):=by
 nomatch T.vy,Ec
 obtain⟨p,rs,a,c,rfl,hp,hl,kk⟩:=h;refine⟨_,(ak (au (lh (dY fA (pv 1) (pv 2) (iS _)) (lh (bK (tP T) hr T.pP (ah (pv 0) (ah (pv 2) af))) (mI (bK (nU T) hr T.ji (ah (pv 0) (ah (pv 2) af)))))))),?_⟩;ac_rfl;left
 by_cases c1:a<c
 ·rw[zg c1,Bool.true_and] at kk
  refine cb (zg c1) ?_;exists p,rs,c,rfl,hp,?_;cases q:eE rs c with
  | true=>
   rw[q,Bool.true_and] at kk;change⟨p,rs,c,rfl,hp,hl,kk⟩
  | false=>
   rw[q,Bool.false_and] at kk;change kk _ (aB.refl _)
 ·rw[ze c1,Bool.false_and,Bool.false_and] at kk
  refine cq (ze c1) ?_;change kk _ (aB.refl _)
def gn:aF ["repeats","jump","at","to","until","coda"] ["repeats","jump"] (aq vZ):=dH
def Eu:di P w base 4 T.vh (DU K):=by
 nomatch T.vh,gn
 obtain⟨p,rs,v,j,rfl,hp,hl,iv,kk⟩:=h;obtain⟨a,rfl,ha⟩:=tX iv;unfold iH at kk;refine⟨_,(ag (bT 2 gn.nd (bO (pv 1) ae))
  (ag (bT 3 gn.nd (bO (pv 1) ae))
  (ag (bT 4 gn.nd (bO (pv 1) ae))
  (ag (bT 5 gn.nd (bO (pv 1) ae))
  (ag (aJ (PW.pt (eD (ptr fA (pv 4) (pv 3)) (dC (ptr fA (pv 2) (pv 4)))))
  (ak (au jS))
  aD)
  (ag (aJ (PW.pt (dI (bF (gr (pv 5))) (dn (fB (cU (bK (Ew T) hr T.vy (ah (pv 0) (ah (pv 2) (ah (pv 5) af)))))))))
  (ak (au jS))
  aD)
  (ak (au (lh (bK (Et T) hr T.vd (ah (pv 0) (ah (pv 2) af))) (lh (bK (tP T) hr T.pP (ah (pv 0) (ah (pv 3) af))) (mI (bK (nU T) hr T.ji (ah (pv 0) (ah (pv 4) af)))))))))))))),?_⟩
 ac_rfl;left
 by_cases c1:j.cW<j.wu
 ·refine cb (zg c1) ?_
  simp only[if_pos c1] at kk;change kk _ (aB.refl _)
 ·refine cq (ze c1) ?_
  simp only[if_neg c1] at kk;left
  by_cases c2:j.uB<j.cW
  ·refine cb (zg c2) ?_
   simp only[if_pos c2] at kk;change kk _ (aB.refl _)
  ·refine cq (ze c2) ?_
   simp only[if_neg c2] at kk;left;cases q:j.gf with
   | none=>
    rw[q] at kk;exists p,rs,_,rfl,hp,?_;cases q1:iF rs j.uB with
    | false=>
     rw[q1] at kk;change kk _ (aB.refl _)
    | true=>
     rw[q1] at kk;exists p,rs,_,rfl,hp,?_;cases q2:eE rs j.wu with
     | false=>
      rw[q2] at kk;change kk _ (aB.refl _)
     | true=>
      rw[q2] at kk;change⟨p,rs,_,rfl,hp,hl,kk⟩
   | some n=>
    rw[q] at kk;exists p,rs,_,_,rfl,hp,hl,fun H1 s1=>?_;cases q0:(decide (j.uB<n)&&eE rs n&&mQ rs n) with
    | false=>
     simp only[q0] at kk;change kk _ s1
    | true=>
     simp only[q0,Bool.true_and] at kk;exists p,rs,_,rfl,hp.mono s1,?_;cases q1:iF rs j.uB with
     | false=>
      rw[q1] at kk;change kk _ s1
     | true=>
      rw[q1] at kk;exists p,rs,_,rfl,hp.mono s1,?_;cases q2:eE rs j.wu with
      | false=>
       rw[q2] at kk;change kk _ s1
      | true=>
       rw[q2] at kk;change⟨p,rs,_,rfl,hp.mono s1,hl,fun H2 s2=>kk _ (s1.trans s2)⟩
def CQ {l ns:List Int} (h1:ns.Perm l) (h2:ns.Pairwise (·<=·)):ns=sortI l:=by
 unfold sortI;refine List.Perm.eq_of_pairwise (le:=fun a b:Int=>a<=b) (fun a b _ _ x y=>Int.le_antisymm x y) h2 ?_ (h1.trans (List.mergeSort_perm _ _).symm);have:=List.pairwise_mergeSort (le:=fun a b:Int=>decide (a<=b)) (fun a b c x y=>by simp at x y ⊢;omega) (fun a b=>by simp;omega) l;exact this.imp fun h=>by simpa using h
noncomputable def Iu:List Sc.End->Nat
 | []=>0
 | e::r=>e.2.length+Iu r
def Qv {es:List Sc.End} {e:Sc.End} (h:e∈es):e.2.length<=Iu es:=by
 induction es with
 | nil=>cases h
 | cons x r ih=>
  rcases zD.mp h with rfl | h
  ·unfold Iu;omega
  ·have:=ih h;unfold Iu;omega
def Ml {a b:List Int}:(decide (a.map V.int=b.map V.int))=decide (a=b):=by
 by_cases h:a=b
 ·subst h;simp
 ·rw[ze h,ze]
  intro z;have:∀{a b:List Int},a.map V.int=b.map V.int->a=b:=by
   intro a
   induction a with
   | nil=>intro b z;cases b with | nil=>rfl | cons _ _=>cases z
   | cons x r ih=>intro b z;cases b with | nil=>cases z | cons y s=>simp at z;rw[z.1,ih (by simpa using z.2)]
  exact h (this z)
theorem tJ:∀ns:List Int,(ns.map V.int).all P7=true
 | []=>rfl
 | n::ns=>by rw[zj,List.all_cons,tJ ns];rfl
def Hk {e:Sc.End} {r:List Sc.End} {a:Int} {ps:List Int} (h1:¬e.1<=a) (h2:e.2=sortI e.2):gy (e::r) a ps=gy r e.1 (ps++e.2):=by
 show(if e.1<=a then none else if e.2≠sortI e.2 then none else gy r e.1 (ps++e.2))=_;rw[if_neg h1,if_neg (fun z=>z h2)]
def Dn {e:Sc.End} {r:List Sc.End} {a:Int} {ps:List Int} (h:e.1<=a\/e.2≠sortI e.2):gy (e::r) a ps=none:=by
 show(if e.1<=a then none else if e.2≠sortI e.2 then none else gy r e.1 (ps++e.2))=_;rcases h with h | h
 ·rw[if_pos h]
 ·rw[if_pos h];split <;> rfl
def Pp {α:Type} {l:List α} {i:Nat} {x:α} (h:l[i]?=some x):l.drop i=x::l.drop (i+1):=by
 obtain⟨hi,rfl⟩:=zy.mp h;exact List.drop_eq_getElem_cons hi
inductive vL (vs:List V) (H:Hp) (Q:VK) (E:XK):Prop
 | mk (v:V) (r:Rep) (_:vs=[v]) (_:Is H (iK r) v) (_:Iu r.ends<64) (_:-1000000<=r.times) (_:r.times<=1000000) (_:∀H',aB H H'->Q (.bl (gz r)) H')
def fU:aF ["repeat","ends","ahead","passes","end"] ["repeat"] (aq Ab):=dH
def GH:di P w base 1 T.AO vL:=by
 nomatch T.AO,fU
 obtain⟨v,r,rfl,iv,ht,t0,t1,kk⟩:=h;have sl:=yC;obtain⟨a,e,rfl,ha,he⟩:=eJ iv;unfold Is at he;obtain⟨e',us,ee,hu,ilu⟩:=he;cases ee;have ul:=aT ilu;refine⟨_,(ag (bT 1 fU.nd (bO (pv 0) ae))
  (ag (aJ (ptr dj (eQ aG T.bC (ah (pv 1) af)) ae)
  (ak (au jS))
  aD)
  (ag (bT 2 fU.nd (ax jT (bO (pv 0) ae) ae))
  (ag (bT 3 fU.nd (bB af))
  (ag (cE PassesOwn.never rfl (lg (pv 1)) (jR 4 fU.nd)
  (ag (aJ (PW.pt (eD (ptr gJ (bO (pv 4) ae) (pv 2)) (dC (ptr (uX hr.units) (ox jn T.mL (ah (bO (pv 4) ae) af)) (eQ um T.GS (ah (bO (pv 4) ae) af))))))
   (ak (au jS))
   aD)
   (ag (bT 2 fU.nd (bO (pv 4) ae))
   (ak (bJ (bY yD PySem.F.slot_list_extend PySem.F.type_list_extend jX (pv 3) (ah (bO (pv 4) ae) af)))))))
  (ak (au (lh (dY gJ (pv 2) (bO (pv 0) ae) (iS _)) (mI (dY (Em hr.units) (eQ um T.GS (ah (pv 3) af)) (tL rfl (by rfl) T.mL (by rfl) T.cR (ah ae (ah (ax aY (bO (pv 0) ae) ae) af))) (iS _))))))))))),?_⟩
 ac_rfl;exists e,_,rfl,.inr (dB.of hu),?_;rw[ul];left
 by_cases h0:r.ends.length=0
 ·refine cb (by rw[h0];rfl) ?_
  left;have e0:gz r=true:=by
   unfold gz;rw[yt.mp h0]
  rw[e0] at kk;exact kk _ (aB.refl _)
 ·refine cq (ze fun z=>h0 (by have:=V.int.inj z;omega)) ?_
  have ef:gz r=(match gy r.ends (r.first-1) [] with | none=>false | some (a,ps)=>decide (a<=r.last)&&decide (sortI ps=K5 1 (r.times+1-1).toNat)):=by
   unfold gz;cases q:r.ends with
   | nil=>rw[q] at h0;exact absurd rfl h0
   | cons x xs=>rfl
  rw[ef] at kk;exists by show 0<=sizeLine;omega,?_
  intro pp hn;generalize hG:upd _ pp _=H1;have s1:=aB.lj hG hn;have h1:=lD hG;clear hG;exists⟨_,dB.of (s1 _ _ hu)⟩,?_;refine Ki (K:=K) (a:=e) (xs:=us) (fun i σ H'=>aB H H'/\∃(z:Int) (ps:List Int) (u:Option V),σ=[some (.ref a),some (.ref e),some (.int z),some (.ref pp),u]/\H' pp=some (.lst (ps.map V.int))/\ps.length+Iu (r.ends.drop i)=Iu r.ends/\gy r.ends (r.first-1) []=gy (r.ends.drop i) z ps) ⟨s1,_,[],none,rfl,h1,by simp,rfl⟩ (fun i σ H' _ h=>dB.of (h.1 _ _ hu)) ?_ ?_
  ·intro i x σ H2 hx hh
   refine df fun N kN0 kR0 _ _=>?_;obtain⟨s2,z,ps,u,rfl,h2,hc,hgo⟩:=hh;obtain⟨en,hen,ien⟩:=dE ilu hx;obtain⟨a6,q6,rfl,h6,h7⟩:=vm (ien.mono s2);have hle:=Qv (zC hen);rw[Pp hen] at hgo hc;rw[show Iu (en::List.drop (i+1) r.ends)=en.2.length+Iu (List.drop (i+1) r.ends) from rfl] at hc;left
   by_cases c1:en.1<=z
   ·refine cb (zg c1) ?_
    rw[hgo,Dn (.inl c1)] at kk;change kk _ s2
   ·refine cq (ze c1) ?_
    exists q6,_,rfl,.inr (dB.of h7),?_;intros p8 H8 s8 h8;have h68:=s8 _ _ h6;have h78:=s8 _ _ h7;exists q6,en.2,rfl,.inr (dB.of h78),nofun,fun ns np ns'=>?_;intros p9 H9 s9 h9;have h69:=s9 _ _ h68;have h79:=s9 _ _ h78;have h29:=s9 _ _ (s8 _ _ h2);rw[CQ np ns'] at h9;refine⟨p8,p9,_,_,rfl,rfl,.inl ⟨aL.of (s9 _ _ h8),aL.of h9⟩,.inr (.inr ⟨tJ _,tJ _⟩),?_⟩;rw[Ml]
    by_cases c2:en.2=sortI en.2
    ·rw[zg c2]
     rw[Hk c1 c2] at hgo;exists .inl ⟨rfl,_,aL.of h29⟩,?_;left;refine .inr ⟨pp,q6,_,_,rfl,rfl,h29,h79,by rw[za,za];omega,?_⟩;left;have s29:=(s2.trans s8).trans s9;refine⟨fun b o hb=>?_,en.1,ps++en.2,_,rfl,by rw[aC,zk],by rw[zh];omega,hgo⟩;have ne:b≠pp:=fun z=>by rw[z,hn] at hb;cases hb
     rw[aH ne];exact s29 b o hb
    ·rw[ze c2]
     rw[hgo,Dn (.inr c2)] at kk;change kk _ ((s2.trans s8).trans s9)
  ·rintro σ H2 ⟨s2,z,ps,u,rfl,h2,hc,hgo⟩
   rw[ul,List.drop_length] at hgo hc;rw[hgo] at kk;have ha2:=s2 _ _ ha;unfold gy at kk;simp only at kk;rw[show Iu []=0 from rfl] at hc;left
   by_cases c1:z<=r.last
   ·rw[zg c1,Bool.true_and] at kk
    refine cb (zg c1) ?_;exists pp,ps,rfl,.inl (aL.of h2),nofun,fun ns np ns'=>?_;intros p9 H9 s9 h9;rw[CQ np ns'] at h9;have ha9:=s9 _ _ ha2;exists 1,r.times+1,rfl,⟨∅,(by decide),nofun,nofun⟩,nofun,?_;intros p10 H10 s10 h10;refine⟨p9,p10,_,_,rfl,rfl,.inl ⟨aL.of (s10 _ _ h9),aL.of h10⟩,.inr (.inr ⟨tJ _,tJ _⟩),?_⟩;rw[Ml];exact kk _ ((s2.trans s9).trans s10)
   ·rw[ze c1,Bool.false_and] at kk
    refine cq (ze c1) ?_;exact kk _ s2
def Ku {xs:List V} {x:V} (h:xs[xs.length-1]?=some x):DA xs (-1)=some x:=by
 have hp:0<xs.length:=by
  have:=(zy.mp h).1;omega
 have ne:xs≠[]:=yr.mp hp;have e:=List.dropLast_concat_getLast ne;have e2:xs.getLast ne=x:=by
  have:=(zy.mp h).2;rw[List.getLast_eq_getElem];exact this
 rw[<-e,e2];exact L2.Bh _ _
inductive yR (K:yB) (vs:List V) (H:Hp) (Q:VK) (E:XK):Prop
 | mk (p:Addr) (rs:List Rep) (v:V) (r:Rep) (_:vs=[.ref p,v]) (_:CI K H p rs) (_:Is H (iK r) v) (_:Iu r.ends<64) (_:-1000000<=r.times) (_:r.times<=1000000) (_:∀H',aB H H'->Q (.bl (mC rs r)) H')
def yW:aF ["repeats","repeat"] ["repeats","repeat"] (aq qE):=dH
def Av:di P w base 2 T.o7 (yR K):=by
 nomatch T.o7,yW
 obtain⟨p,rs,v,r,rfl,⟨vs,hp,il⟩,iv,ht,t0,t1,kk⟩:=h;obtain⟨a,e,rfl,ha,he⟩:=eJ iv;have vl:=aT il;have tail:(∀H',aB H H'->Q (.bl (decide (r.first<=r.last)&&gz r)) H')->(if decide (r.first<=r.last)=true then iA vL [] E0 (bX (bf 1) eV) [some (.ref p),some (.ref a)] H Q else Q (.bl false) H):=by
  intro k
  by_cases c:r.first<=r.last
  ·rw[zg c,Bool.true_and] at k
   refine cb (zg c) ?_;exact⟨_,rfl,_,r,rfl,iv,ht,t0,t1,k⟩
  ·rw[ze c,Bool.false_and] at k
   refine cq (ze c) ?_;exact k _ (aB.refl _)
 refine⟨_,(ag (aJ (PW.pt (dI (ptr fI (eQ aG T.bC (ah (pv 0) af)) ae) (dn (ptr gJ (bO (pv 1) ae) (bO (gd (pv 0) (tK mj ae)) ae)))))
  (ak (au jS))
  aD)
  (ak (au (lh (dY gJ (bO (pv 1) ae) (bO (pv 1) ae) (iS _)) (mI (bK (GH T) hr T.AO (ah (pv 1) af))))))),?_⟩
 ac_rfl;exists p,_,rfl,.inl hp,?_;rw[vl];left
 by_cases h0:0<rs.length
 ·refine cb (zg nofun) ?_
  have hi:rs.length-1<vs.length:=nofun
  obtain⟨q,hq,iq⟩:=dE il (zd hi);obtain⟨b,eb,evb,hb,_⟩:=eJ iq;have eg:rs.getLast?=some q:=by rw[List.getLast?_eq_getElem?];exact hq
  unfold mC at kk;rw[eg] at kk;left;refine⟨p,vs,-1,_,rfl,rfl,hp,Ku (by rw[vl];exact zd hi),?_⟩;rw[evb];left
  by_cases c:r.first<=q.last
  ·refine cb (zg c) ?_
   simp only[if_pos c] at kk;change kk _ (aB.refl _)
  ·refine cq (ze c) ?_
   simp only[if_neg c] at kk;change tail kk
 ·refine cq (ze nofun) ?_
  have e0:rs=[]:=yt.mp nofun;unfold mC at kk;rw[e0] at kk;change tail kk
def BD (x:Sc.Me):Prop:=0<=x.aU.1/\x.aU.1<=1000/\0<x.aU.2/\x.aU.2<=1000
structure Ts (C:Addr) (H:Hp) (a:Addr) (S:cB) (o:Ow):Prop where
 obj:∃ub jm,H a=some (.ins C o.dx (Om o ub jm))
 ba:∃vs,H o.ba=some (.lst vs)/\aE H (S.aO.map l8) vs
def Ts.of {C a:Addr} {H:Hp} {S:cB} {o:Ow} (h:bZ C H a S o):Ts C H a S o:=⟨by obtain⟨ub,jm,h1,_⟩:=h.obj;exact⟨ub,jm,h1⟩,h.ba⟩
inductive wJ (C:Addr) (vs:List V) (H:Hp) (Q:VK) (E:XK):Prop
 | mk (a:Addr) (S:cB) (o:Ow) (b:Nat) (_:vs=[.ref a,.int b]) (_:Ts C H a S o) (_:b<S.aO.length) (_:(∀x∈S.aO,BD x)) (_:∀p H',aB H H'->H' p=some (fR (S.aU b))->Q (.ref p) H')
def RH {H:Hp} {b:Sc.Me} {v:V} (h:Is H (l8 b) v):∃a m q,v=.ref a/\H a=some (.tup [.ref m,.int b.key,.ref q])/\H m=some (fR b.aU):=by
 unfold l8 Is at h;obtain⟨a,vs,rfl,ha,hl⟩:=h;unfold aE at hl;obtain⟨v1,r1,rfl,h1,hl⟩:=hl;unfold aE at hl;obtain⟨v2,r2,rfl,h2,hl⟩:=hl;unfold aE at hl;obtain⟨v3,r3,rfl,h3,hl⟩:=hl;unfold aE at hl;subst hl;unfold Is at h2;subst h2;unfold og Is at h3;obtain⟨q,us,rfl,hq,hle⟩:=h3;have:=fC (o:=some b.aU) h1;cases this with
 | ref hm=>exact⟨a,_,q,rfl,ha,hm⟩
def nF:aF ["score","bar","metre"] ["score","bar"] (aq oR):=dH
def nT {C:Addr} (F:Cf K C):di P w base 3 T.jf (wJ C):=by
 nomatch T.jf,nF
 obtain⟨a,S,o,b,rfl,sc,hb,cm,kk⟩:=h;obtain⟨ub,jm,ho⟩:=sc.obj;obtain⟨vs,hv,il⟩:=sc.ba;have hi:b<vs.length:=by rw[aT il];exact hb
 obtain⟨x,hx,ix⟩:=dE il (zd hi);obtain⟨a1,m,q,ev,h1,hm⟩:=RH ix;obtain⟨k1,k2,k3,k4⟩:=cm x (zC hx);unfold cB.aU at kk;rw[hx] at kk;refine⟨_,(ag (bT 2 nF.nd (bO (gd (bP (pv 0) rfl) (pv 1)) ae))
  (ak (au (bK (jV T) hr T.eZ (ah (bO (pv 2) ae) (ah (bO (pv 2) ae) af)))))),?_⟩
 ac_rfl;exists a,C,o.dx,_,_,rfl,ho,F.cls,F.aO,rfl,?_;left;refine⟨o.ba,vs,b,_,rfl,rfl,aL.of hv,bE (zd hi),?_⟩;rw[ev];change⟨_,_,rfl,k1,k3,(cw (n:=10) nofun nofun).mono ∅,fun p H' s' h'=>kk p H' s' h'⟩
inductive yQ (C:Addr) (vs:List V) (H:Hp) (Q:VK) (E:XK):Prop
 | mk (a:Addr) (S:cB) (o:Ow) (b:Nat) (_:vs=[.ref a,.int b]) (_:bZ C H a S o) (_:b<S.aO.length) (_:(∀x∈S.aO,BD x)) (_:∀p H',aB H H'->H' p=some (fR (S.len b))->Q (.ref p) H')
def yV:aF ["score","bar"] ["score","bar"] (aq qC):=dH
def jU {C:Addr} (F:Cf K C):di P w base 4 T.iw (yQ C):=by
 nomatch T.iw,yV
 obtain⟨a,S,o,b,rfl,sc,hb,cm,kk⟩:=h;obtain⟨ub,jm,ho,hub,hjm⟩:=sc.obj;unfold cB.len at kk;refine⟨_,(ag (aJ (PW.pt (dI (ptr dj (pv 1) ae) (dn (bF (gr (bP (pv 0) rfl))))))
  (ak (au (bP (pv 0) rfl)))
  aD)
  (ak (au (bK (nT T F) hr T.jf (ah (pv 0) (ah (pv 1) af)))))),?_⟩
 ac_rfl;left
 by_cases c:b=0
 ·refine cb (by rw[c];rfl) ?_
  exists a,C,o.dx,_,_,rfl,ho,F.cls,F.aI,rfl,?_;cases q:S.aI with
  | none=>
   rw[q] at kk hub;unfold dO Is at hub;subst hub;change⟨a,S,o,b,rfl,.of sc,hb,cm,kk⟩
  | some u=>
   rw[q] at kk hub;cases fC (o:=some u) hub with
   | ref hu=>
    exists a,C,o.dx,_,_,rfl,ho,F.cls,F.aI,rfl,?_;refine kk _ _ (aB.refl _) ?_;simp only[if_pos c];exact hu
 ·refine cq (ze fun z=>c (by have:=V.int.inj z;omega)) ?_
  left;refine⟨a,S,o,b,rfl,.of sc,hb,cm,fun p H' s' h'=>kk p H' s' ?_⟩;cases q:S.aI with
  | none=>exact h'
  | some u=>simp only[if_neg c];exact h'
theorem lX (n:Str):∀ns:List Str,GZ (.str n) (ns.map V.str)=decide (n∈ns)
 | []=>rfl
 | m::ns=>by
  have ih:=lX n ns;unfold GZ at ih ⊢;rw[zj,List.any_cons,ih]
  by_cases e:n=m
  ·subst e
   simp[Jg]
  ·have e':¬m=n:=fun z=>e z.symm
   simp[Jg,e,e']
theorem jD:∀ns:List Str,(ns.map V.str).all nZ=true
 | []=>rfl
 | n::ns=>by rw[zj,List.all_cons,jD ns];rfl
inductive fH (C:Addr) (D:Hp->V->cB->Option Str->Prop) (vs:List V) (H:Hp) (Q:VK) (E:XK):Prop
 | mk (a:Addr) (S:cB) (o:Ow) (v:V) (f:Option Str) (_:vs=[.ref a,v]) (_:bZ C H a S o) (_:D H v S f) (_:∀H',aB H H'->Q (os f) H')
def nu (C:Addr):Sp:=fH C fun _ v S f=>∃n,v=.str n/\f=fault S (.bN n)
def wX:aF ["score","player"] ["score","player"] (aq oQ):=dH
def w9 {C:Addr} (F:Cf K C):di P w base 1 T.je (nu C):=by
 nomatch T.je,wX
 obtain⟨a,S,o,v,f,rfl,sc,⟨n,rfl,rfl⟩,kk⟩:=h;obtain⟨ub,jm,ho,hub,hjm⟩:=sc.obj;have k:=kk H (aB.refl H);unfold fault at k;dsimp only at k;refine⟨_,(ag (aJ (jd lU (pv 1) (bP (pv 0) rfl) (by with_unfolding_all rfl))
  (ak (au aN))
  aD)
  (ag (aJ (ptr C4 (eQ aG T.bC (ah (bP (pv 0) rfl) af)) (b8 (v:=.int (12)) (by rfl) T.Bd ⟨_,rfl⟩))
  (ak (au aN))
  aD)
  (ak (au aW)))),?_⟩
 ac_rfl;exists a,C,o.dx,_,_,rfl,ho,F.cls,F.players,rfl,?_;refine⟨o.pl,_,rfl,.inl (aL.of sc.pl),rfl,jD _,?_⟩;show∃k,V.bl (GZ (.str n) (S.players.map V.str))=.bl k/\_;rw[lX]
 by_cases c1:n∈S.players
 ·rw[zg c1]
  rw[if_pos c1] at k;change k
 ·rw[ze c1]
  rw[if_neg c1] at k;exists a,C,o.dx,_,_,rfl,ho,F.cls,F.players,rfl,?_;exists o.pl,_,rfl,.inl (aL.of sc.pl),?_;rw[za];left
  by_cases c2:12<=S.players.length
  ·refine cb (zg nofun) ?_
   rw[if_pos c2] at k;change k
  ·refine cq (ze nofun) ?_
   rw[if_neg c2] at k;change k
def sD (C:Addr):Sp:=fH C fun _ _ S f=>∃b,f=fault S (.bar b)
def Ee:aF ["score","told"] ["score","told"] (aq wc):=dH
def Ey {C:Addr} (F:Cf K C):di P w base 1 T.pV (sD C):=by
 nomatch T.pV,Ee
 obtain⟨a,S,o,v,f,rfl,sc,⟨b,rfl⟩,kk⟩:=h;obtain⟨ub,jm,ho,hub,hjm⟩:=sc.obj;obtain⟨vs,hv,il⟩:=sc.ba;have vl:=aT il;have k:=kk H (aB.refl H);unfold fault at k;dsimp only at k;refine⟨_,(ag (aJ (ptr C4 (eQ aG T.bC (ah (bP (pv 0) rfl) af)) (b8 (v:=.int (200)) (by rfl) T.HJ ⟨_,rfl⟩))
  (ak (au aN))
  aD)
  (ak (au aW))),?_⟩
 ac_rfl;exists a,C,o.dx,_,_,rfl,ho,F.cls,F.aO,rfl,?_;exists o.ba,_,rfl,.inl (aL.of hv),?_;rw[vl];left
 by_cases c2:200<=S.aO.length
 ·refine cb (zg nofun) ?_
  rw[if_pos c2] at k;change k
 ·refine cq (ze nofun) ?_
  rw[if_neg c2] at k;change k
theorem sr (n:Str):∀{ks:List Str} {vs:List V},vs.length=ks.length->(dm ((ks.map kS).zip vs) (kS n)).isSome=decide (n∈ks)
 | [],_,_=>by simp[dm]
 | k::ks,[],h=>by simp at h
 | k::ks,v::vs,h=>by
  have ih:=sr n (ks:=ks) (vs:=vs) (by simpa using h);rw[zj,List.zip_cons_cons];unfold dm at ih ⊢;rw[List.find?_cons]
  by_cases e:k=n
  ·subst e
   simp
  ·have e1:¬kS k=kS n:=fun z=>e (Sum.inr.inj z)
   have e2:¬n=k:=fun z=>e z.symm;simp only[e1,decide_false] at ih ⊢;rw[ih];simp[e2]
def iX (C:Addr):Sp:=fH C fun H v S f=>∃x,Is H (eK x) v/\f=fault S (.cQ x.1 x.2.1 x.2.2)
def GY {H:Hp} {x:Str×(Int×Int)×(Int×Int)} {v:V} (h:Is H (eK x) v):∃a t l,v=.ref a/\H a=some (.tup [.str x.1,t,l])/\Is H (dL x.2.1) t/\Is H (dL x.2.2) l:=by
 unfold eK Is at h;obtain⟨a,vs,rfl,ha,hl⟩:=h;unfold aE at hl;obtain⟨v1,r1,rfl,h1,hl⟩:=hl;unfold aE at hl;obtain⟨v2,r2,rfl,h2,hl⟩:=hl;unfold aE at hl;obtain⟨v3,r3,rfl,h3,hl⟩:=hl;unfold aE at hl;subst hl;unfold Is at h1;subst h1;exact⟨a,v2,v3,rfl,ha,h2,h3⟩
def qd:aF ["score","told"] ["score","told"] (aq jK):=dH
def qi {C:Addr} (F:Cf K C):di P w base 1 T.fu (iX C):=by
 nomatch T.fu,qd
 obtain⟨a,S,o,v,f,rfl,sc,⟨x,iv,rfl⟩,kk⟩:=h;obtain⟨ub,jm,ho,hub,hjm⟩:=sc.obj;obtain⟨vs,hv,il⟩:=sc.ins;obtain⟨a1,t,l,rfl,h1,_,_⟩:=GY iv;have vl:=aT il;have em:(S.ao.map fun x=>kS x.1)=(S.ao.map (·.1)).map kS:=by rw[zB];rfl
 have k:=kk H (aB.refl H);unfold fault at k;dsimp only at k;refine⟨_,(ag (aJ (bF (Ek (iI hr) (bO (pv 1) ae) (bP (pv 0) rfl)))
  (ak (au aN))
  aD)
  (ag (aJ (ptr C4 (eQ Jz T.bC (ah (bP (pv 0) rfl) af)) (b8 (v:=.int (12)) (by rfl) T.rV ⟨_,rfl⟩))
  (ak (au aN))
  aD)
  (ak (au aW)))),?_⟩
 ac_rfl;exists a,C,o.dx,_,_,rfl,ho,F.cls,F.ao,rfl,?_;refine⟨o.ins,_,rfl,.inl ⟨_,kS x.1,.inl hv,rfl,rfl⟩,?_⟩;rw[em,sr x.1 (by rw[za];exact vl)];left
 by_cases c1:x.1∈S.ao.map (·.1)
 ·rw[zg c1]
  rw[if_pos c1] at k;change k
 ·rw[ze c1]
  rw[if_neg c1] at k;exists a,C,o.dx,_,_,rfl,ho,F.cls,F.ao,rfl,?_;exists o.ins,_,rfl,hv,?_;rw[List.length_zip,za,vl,Nat.min_self];left
  by_cases c2:12<=S.ao.length
  ·refine cb (zg nofun) ?_
   rw[if_pos c2] at k;change k
  ·refine cq (ze nofun) ?_
   rw[if_neg c2] at k;change k
inductive F1 (K:yB) (C:Addr) (vs:List V) (H:Hp) (Q:VK) (E:XK):Prop
 | mk (a p:Addr) (S:cB) (o:Ow) (bs:List Int) (_:vs=[.ref a,.ref p]) (_:bZ C H a S o) (_:aL K H p (bs.map V.int)) (_:bs.length<=1000000) (_:∀H',aB H H'->Q (.bl (S.has bs)) H')
def F7:aF ["score","bars"] ["score","bars"] (aq Aa):=dH
def kC {C:Addr} (F:Cf K C):di P w base 1 T.lY (F1 K C):=by
 nomatch T.lY,F7
 obtain⟨a,p,S,o,bs,rfl,sc,hp,hl,kk⟩:=h;have sl:=yC;refine⟨_,(ak (au (eQ (pU rfl) T.Kb (ah (qh (ts:=["bar"]) (ys:=["score"]) (js:=[0]) (te:=(fP (wj fun i j=>.bl (decide (i<j))) (bf 0) (KR (Us K) (bX (OF K (bf 1) "bars") eV)))) (bw (pv 1)) (hJ 0) bD (dY fA (pv 0) (eQ aG T.bC (ah (bP (pv 1) rfl) af)) (iS _))) af)))),?_⟩;ac_rfl;exists⟨_,hp⟩,?_;refine f9 (enc:=V.int) (ws:=bs) (fun z=>.bl (decide (z<(S.aO.length:Int)))) (fun σ=>∃v,σ=[v,some (.ref a)]) nofun hp ⟨none,rfl⟩ ?_ ?_
 ·rintro z σ H1 R hz s1 ⟨_,rfl⟩ r
  have sc1:=sc.mono s1;obtain⟨ub,jm,ho,hub,hjm⟩:=sc1.obj;obtain⟨vs,hv,il⟩:=sc1.ba;have vl:=aT il;exists a,C,o.dx,_,_,rfl,ho,F.cls,F.aO,rfl,?_;exists o.ba,vs,rfl,.inl (aL.of hv),?_;rw[vl];change r _ _ _ (aB.refl _) (by unfold Is;rfl) ⟨_,rfl⟩
 ·intro D vs H1 s1 hD il
  have e:bs.map (fun z=>Dt.bl (decide (z<(S.aO.length:Int))))=(bs.map fun z=>decide (z<(S.aO.length:Int))).map Dt.bl:=by rw[zB];rfl
  rw[e] at il;rw[lq il] at hD;refine⟨D,_,rfl,aL.of hD,?_⟩;have e2:(bs.map fun z=>decide (z<(S.aO.length:Int))).all id=S.has bs:=by rw[List.all_map];rfl
  rw[e2];exact kk _ s1
inductive wK (K:yB) (vs:List V) (H:Hp) (Q:VK) (E:XK):Prop
 | mk (p:Addr) (us:List V) (its:List Item) (_:vs=[.ref p]) (_:aL K H p us) (_:aE H (its.map fe) us) (_:its.length<=500) (_:(∀it∈its,Ov it.2)) (_:∀r H',aB H H'->H' r=some (fR (kR its))->Q (.ref r) H')
def uH (l:List Item) (it:Item):kR (l++[it])=add (kR l) it.2:=by unfold kR;rw[zY];rfl
def fL:aF ["items","length","item"] ["items"] (aq oS):=dH
def xa:di P w base 4 T.mP (wK K):=by
 nomatch T.mP,fL
 obtain⟨p,us,its,rfl,hp,il,hl,cm,kk⟩:=h;have sl:=yC;have ul:=aT il;refine⟨_,(ag (bT 1 fL.nd (bG (ah ae (ah ae af))))
  (ag (cE PassesOwn.never rfl (bw (pv 0)) (jR 2 fL.nd)
  (ak (bT 1 fL.nd (bK (GI T) hr T.added (ah (pv 1) (ah (bO (pv 2) ae) af))))))
  (ak (au (pv 1))))),?_⟩
 ac_rfl;exists cT,?_;intros p1 H1 s1 h1;exists⟨_,s1.seq hp⟩,?_;refine dQ (K:=K) (a:=p) (xs:=us) (fun i σ H'=>aB H H'/\∃q v,σ=[some (.ref p),some (.ref q),v]/\H' q=some (fR (kR (its.take i)))/\Lm.Rd (kR (its.take i))/\BE (15*i+1) (kR (its.take i))) ⟨s1,p1,none,rfl,h1,?_,?_⟩ (fun i σ H' _ h=>h.1.seq hp) ?_ ?_
 ·exact Lm.Rd.zero
 ·show BE 1 (0,1)
  exact⟨cw ∅ ∅,cw ∅ ∅⟩
 ·rintro i x σ H2 hx ⟨s2,q,v,rfl,hq,rq,zq⟩
  obtain⟨it,hit,iit⟩:=dE il hx;obtain⟨a6,pv,lv,rfl,h6,_,i8⟩:=item_at (iit.mono s2);have hi:i<its.length:=(zy.mp hit).1;obtain⟨ok1,To,UP,ok4⟩:=cm it (zC hit);cases fC (o:=some it.2) i8 with
  | ref h8=>
   have zi:BE 14 it.2:=⟨cw nofun nofun,cw (by have:=ok1.pos;omega) nofun⟩
   exists _,_,_,_,_,_,rfl,hq,h8,rq,ok1,zq,zi,nofun,fun r H3 s3 h3=>?_;have e:=cZ hit;refine⟨s2.trans s3,r,_,rfl,?_,?_,?_⟩
   ·rw[e,uH];exact h3
   ·rw[e,uH];exact rq.add ok1
   ·rw[e,uH];exact⟨(BE.add rq ok1 zq zi).1.mono nofun,(BE.add rq ok1 zq zi).2.mono nofun⟩
 ·rintro σ H2 ⟨s2,q,v,rfl,hq,_,_⟩
  rw[ul,zN] at hq;change kk _ _ s2 hq
def Fu (S:cB):Prop:=∀r∈S.repeats,r.ends.length<=1000000
def qt (C:Addr):Sp:=fH C fun H v S f=>∃j,Is H (jZ j) v/\Fu S/\f=fault S (.b9 j)
def Hf {l:List V} {i:Nat} {x:V} (h:l[i]?=some x):(l.take (i+1)).filter (fun v=>!gK v)=(l.take i).filter (fun v=>!gK v)++(if gK x=true then [] else [x]):=by
 rw[cZ h,List.filter_append];cases q:gK x with
 | true=>simp[q]
 | false=>simp[q]
def BV:aF ["score","jump"] ["score","jump"] (aq sW):=dH
def B9 {C:Addr} (F:Cf K C):di P w base 5 T.mO (qt C):=by
 nomatch T.mO,BV
 obtain⟨a,S,o,v,f,rfl,sc,⟨j,iv,rok,rfl⟩,kk⟩:=h;have sl:=yC;obtain⟨ub,jm,ho,hub,hjm⟩:=sc.obj;obtain⟨vs,hv,il⟩:=sc.re;obtain⟨a1,rfl,h1⟩:=tX iv;unfold fault at kk;dsimp only at kk;refine⟨_,(ag (aJ (bF (gr (bP (pv 0) rfl)))
  (ak (au aN))
  aD)
  (ag (aJ (fB (cU (bK (kC T F) hr T.lY (ah (pv 0) (ah (qh (ts:=["bar"]) (ys:=[]) (js:=[]) (g:=(cg 0)) (tc:=(tB (Mw (bf 0)))) (te:=(bf 0)) (lg (pv 1)) (hJ 0) (g9 (bF (gr (pv 0)))) (pv 0)) af)))))
  (ak (au aN))
  aD)
  (ag (aJ (fB (cU (bK (Eu T) hr T.vh (ah (bP (pv 0) rfl) (ah (pv 1) af)))))
  (ak (au aN))
  aD)
  (ak (au aW))))),?_⟩
 ac_rfl;exists a,C,o.dx,_,_,rfl,ho,F.cls,F.b9,rfl,?_;cases q:S.b9 with
 | some j'=>
  rw[q] at hjm kk;obtain⟨a2,rfl,_⟩:=tX hjm;change kk _ (aB.refl _)
 | none=>
  rw[q] at hjm kk;unfold dO Is at hjm;subst hjm;rw[if_neg ∅] at kk;exists⟨_,dB.of h1⟩,?_;generalize hw:[V.int j.uB,V.int j.wu,V.int j.cW,ov j.gf]=ws at h1;have wl:ws.length=4:=by rw[<-hw];rfl
  refine pC ws.length (fun i=>(ws.take i).filter fun v=>!gK v) (fun i σ H'=>H'=H/\∃v,σ=[v]) (fun i hi=>zM (List.length_filter_le _ _) (by rw[zQ];omega)) nofun rfl ⟨rfl,none,rfl⟩ ?_ ?_ ?_ ?_
  ·rintro i σ H' hi ⟨rfl,_⟩
   exact Jc (dB.of h1) hi
  ·rintro σ H' ⟨rfl,_⟩
   exact⟨_,dB.of h1,zm _⟩
  ·rintro i x σ H' H2 hi ⟨rfl,v,rfl⟩ ⟨rfl,hy⟩
   have hx:=hy _ (dB.of h1);left
   by_cases e:x=.bR
   ·refine cq (by rw[zg e];rfl) ?_
    refine Ig.skip hi ?_ ⟨rfl,_,rfl⟩;show List.filter _ (List.take (i+1) ws)=List.filter _ (List.take i ws);rw[Hf hx,if_pos (show gK x=true from zg e),zV]
   ·refine cb (by rw[ze e];rfl) ?_
    left;refine Ig.push hi ?_ ⟨rfl,_,rfl⟩;show List.filter _ (List.take (i+1) ws)=List.filter _ (List.take i ws)++[x];rw[Hf hx,if_neg (by unfold gK;rw[ze e];decide)]
  ·rintro σ H' ⟨rfl,_⟩
   rw[zN];have ef:(ws.filter fun v=>!gK v)=([j.uB,j.wu,j.cW]++j.gf.toList).map V.int:=by
    rw[<-hw];cases j.gf <;> rfl
   rw[ef];intros D H2 s2 h2;refine⟨a,D,S,o,_,rfl,sc.mono s2,aL.of h2,?_,fun H3 s3=>?_⟩
   ·cases j.gf <;> simp
   ·cases qb:S.has ([j.uB,j.wu,j.cW]++j.gf.toList) with
    | false=>
     rw[qb] at kk;change kk _ (s2.trans s3)
    | true=>
     rw[qb,if_neg (by simp)] at kk;have s03:=s2.trans s3;have sc3:=sc.mono s03;exists a,C,o.dx,_,_,rfl,s03 _ _ ho,F.cls,F.repeats,rfl,?_;exists o.re,S.repeats,_,j,rfl,⟨vs,aL.of (s03 _ _ hv),il.mono s03⟩,rok,iv.mono s03,fun H4 s4=>?_;cases qj:iH S.repeats j with
     | false=>
      rw[qj] at kk;change kk _ (s03.trans s4)
     | true=>
      rw[qj,if_neg (by simp)] at kk;change kk _ (s03.trans s4)
def nr (C:Addr):Sp:=fH C fun H v S f=>∃r:Rep,Is H (iK r) v/\Iu r.ends<64/\r.ends.length<=1000/\-1000000<=r.times/\r.times<=1000000/\f=fault S (.rep r)
def wW:aF ["score","repeat"] ["score","repeat"] (aq oP):=dH
def w8 {C:Addr} (F:Cf K C):di P w base 3 T.i9 (nr C):=by
 nomatch T.i9,wW
 obtain⟨a,S,o,v,f,rfl,sc,⟨r,iv,ht,hl,t0,t1,rfl⟩,kk⟩:=h;have sl:=yC;obtain⟨ub,jm,ho,hub,hjm⟩:=sc.obj;obtain⟨vs,hv,il⟩:=sc.re;have vl:=aT il;obtain⟨a1,e,rfl,h1,he⟩:=eJ iv;unfold Is at he;obtain⟨e',us,ee,hu,ilu⟩:=he;cases ee;unfold fault at kk;dsimp only at kk;refine⟨_,(ag (aJ (fB (cU (bK (kC T F) hr T.lY (ah (pv 0) (ah (ax gs (bB (ah (bO (pv 1) ae) (ah (bO (pv 1) ae) af))) (qh (ts:=["end"]) (ys:=[]) (js:=[]) (te:=(fP (rH K) (bf 0) (tC (.int (0))))) (lg (bO (pv 1) ae)) (hJ 0) bD (bO (pv 0) ae))) af)))))
  (ak (au aN))
  aD)
  (ag (aJ (PW.pt (eD (bF (gr (bP (pv 0) rfl))) (dC (fB (cU (bK (Av T) hr T.o7 (ah (bP (pv 0) rfl) (ah (pv 1) af))))))))
  (ak (au aN))
  aD)
  (ag (aJ (ptr C4 (eQ aG T.bC (ah (bP (pv 0) rfl) af)) (b8 (v:=.int (20)) (by rfl) T.Bc ⟨_,rfl⟩))
  (ak (au aN))
  aD)
  (ak (au aW))))),?_⟩
 ac_rfl;exists cT,?_;intros p2 H2 s2 h2;have h12:=s2 _ _ h1;exists⟨_,dB.of (s2 _ _ hu)⟩,?_;obtain⟨ps,f1,f2,f3⟩:=xM ilu;have pl:ps.length<=1000:=by
  have:ps.length=r.ends.length:=by rw[<-f1,za]
  omega
 refine gR (enc:=fun z:Sc.End×V=>z.2) (ws:=ps) (fun z=>.int z.1.1) (fun σ=>∃v,σ=[v]) nofun (by rw[f2];exact s2 _ _ hu) ⟨none,rfl⟩ ?_ ?_
 ·rintro z σ H6 R' hz s6 ⟨_,rfl⟩ r'
  obtain⟨a6,q6,ev,h6,h7⟩:=vm (f3 z hz);rw[ev];have h66:=s6 _ _ (s2 _ _ h6);change r' _ _ _ (aB.refl _) cX ⟨_,rfl⟩
 ·intro D vs5 H3 s3 hD il5
  have e5:ps.map (fun z=>Dt.int z.1.1)=(r.ends.map (·.1)).map Dt.int:=by rw[<-f1,zB,zB];rfl
  rw[e5] at il5;rw[fq il5] at hD;refine⟨p2,D,_,_,rfl,rfl,aL.of (s3 _ _ h2),aL.of hD,by rw[za,za];show 2+_<=_;omega,?_⟩;rw[show [V.int r.first,V.int r.last]++List.map V.int (r.ends.map (·.1))=([r.first,r.last]++r.ends.map (·.1)).map V.int from by rw[zk];rfl];intros p4 H4 s4 h4;have s04:=(s2.trans s3).trans s4;refine⟨a,p4,S,o,_,rfl,sc.mono s04,aL.of h4,by rw[zh,za];show 2+_<=_;omega,fun H5 s5=>?_⟩;have s05:=s04.trans s5;cases qb:S.has ([r.first,r.last]++r.ends.map (·.1)) with
  | false=>
   rw[qb] at kk;change kk _ s05
  | true=>
   rw[qb,if_neg (by simp)] at kk;exists a,C,o.dx,_,_,rfl,s05 _ _ ho,F.cls,F.b9,rfl,?_;cases q:S.b9 with
   | some j'=>
    rw[q] at hjm kk;obtain⟨a2,rfl,_⟩:=tX hjm;change kk _ s05
   | none=>
    rw[q] at hjm kk;unfold dO Is at hjm;subst hjm;rw[if_neg ∅] at kk;exists a,C,o.dx,_,_,rfl,s05 _ _ ho,F.cls,F.repeats,rfl,?_;exists o.re,S.repeats,_,r,rfl,⟨vs,aL.of (s05 _ _ hv),il.mono s05⟩,iv.mono s05,ht,t0,t1,fun H6 s6=>?_;have s06:=s05.trans s6;cases qj:mC S.repeats r with
    | false=>
     rw[qj] at kk;change kk _ s06
    | true=>
     rw[qj,if_neg (by simp)] at kk;exists a,C,o.dx,_,_,rfl,s06 _ _ ho,F.cls,F.repeats,rfl,?_;exists o.re,vs,rfl,.inl (aL.of (s06 _ _ hv)),?_;rw[vl];left
     by_cases c2:20<=S.repeats.length
     ·refine cb (zg nofun) ?_
      rw[if_pos c2] at kk;change kk _ s06
     ·refine cq (ze nofun) ?_
      rw[if_neg c2] at kk;change kk _ s06
theorem FK (n:Int×Str):∀{ks:List (Int×Str)} {vs:List V},vs.length=ks.length->(dm ((ks.map kN).zip vs) (kN n)).isSome=decide (n∈ks)
 | [],_,_=>by simp[dm]
 | k::ks,[],h=>by simp at h
 | k::ks,v::vs,h=>by
  have ih:=FK n (ks:=ks) (vs:=vs) (by simpa using h);rw[zj,List.zip_cons_cons];unfold dm at ih ⊢;rw[List.find?_cons]
  by_cases e:k=n
  ·subst e
   simp
  ·have e1:¬kN k=kN n:=fun z=>e (by
    unfold kN at z;simp at z;exact Prod.ext z.1 z.2)
   have e2:¬n=k:=fun z=>e z.symm;simp only[e1,decide_false] at ih ⊢;rw[ih];simp[e2]
theorem pQ {α:Type} {d:α->Dt} {H:Hp}:∀{ls:List (List α)} {as:List Addr},cy H d ls as->as.length=ls.length
 | [],_,h=>by unfold cy at h;rw[h];rfl
 | l::r,_,⟨a,t,vs,e,_,_,h3⟩=>by rw[e,zv,zv,pQ h3]
def O4 {x y:Int×Int}:decide ([V.int x.1,V.int x.2]=[V.int y.1,V.int y.2])=decide (x=y):=by
 by_cases h:x=y
 ·subst h;simp
 ·rw[ze h,ze]
  intro z;simp at z;exact h (Prod.ext z.1 z.2)
def oH (C:Addr):Sp:=fH C fun H v S f=>∃x:Int×Str×List Item,Kx H v x/\0<=x.1/\x.2.2.length<=500/\(∀it∈x.2.2,Ov it.2)/\(∀b∈S.aO,BD b)/\f=fault S (.aK x.1 x.2.1 x.2.2)
def gk:aF ["score","told","bar","player","items"] ["score","told"] (aq qM):=dH
def Az {C:Addr} (F:Cf K C):di P w base 5 T.kE (oH C):=by
 nomatch T.kE,gk
 obtain⟨a,S,o,v,f,rfl,sc,⟨⟨b,pn,its⟩,⟨a1,q,us,rfl,h1,hq,ilq⟩,b0,il5,iok,bok,rfl⟩,kk⟩:=h;have sl:=yC;obtain⟨ub,jm,ho,hub,hjm⟩:=sc.obj;have nl:(o.ns.map V.ref).length=(S.aK.map (·.1)).length:=by rw[za,za,pQ sc.no.2,za]
 have em:(S.aK.map fun x=>kN x.1)=(S.aK.map (·.1)).map kN:=by rw[zB];rfl
 unfold fault at kk;dsimp only at kk h1 b0 il5 iok ilq;refine⟨_,(ag (bT 2 gk.nd (bO (pv 1) ae))
  (ag (bT 3 gk.nd (bO (pv 1) ae))
  (ag (bT 4 gk.nd (bO (pv 1) ae))
  (ag (aJ (bF (Ek (iI hr) (bG (ah (pv 2) (ah (pv 3) af))) (bP (pv 0) rfl)))
  (ak (au aN))
  aD)
  (ag (aJ (jd fk (pv 3) (bP (pv 0) rfl) (by with_unfolding_all rfl))
  (ak (au aN))
  aD)
  (ag (aJ (fB (cU (bK (kC T F) hr T.lY (ah (pv 0) (ah (bB (ah (pv 2) af)) af)))))
  (ak (au aN))
  aD)
  (ag (aJ (ptr (uX hr.units) (bK (xa T) hr T.mP (ah (pv 4) af)) (bK (jU T F) hr T.iw (ah (pv 0) (ah (pv 2) af))))
  (ak (au aN))
  aD)
  (ag (aJ (ptr fI (eQ aG T.bC (ah (pv 4) af)) (b8 (v:=.int (40)) (by rfl) T.E8 ⟨_,rfl⟩))
  (ak (au aN))
  aD)
  (ak (au aW)))))))))),?_⟩
 ac_rfl;exists cT,?_;intros p2 H2 s2 h2;have h12:=s2 _ _ h1;exists a,C,o.dx,_,_,rfl,s2 _ _ ho,F.cls,F.aK,rfl,?_;refine⟨o.no,_,rfl,.inr ⟨_,kN (b,pn),p2,.inl (s2 _ _ sc.no.1),rfl,h2,rfl⟩,?_⟩;rw[em,FK (b,pn) nl];left
 by_cases c1:(b,pn)∈S.aK.map (·.1)
 ·rw[zg c1]
  rw[if_pos c1] at kk;change kk _ s2
 ·rw[ze c1]
  rw[if_neg c1] at kk;exists a,C,o.dx,_,_,rfl,s2 _ _ ho,F.cls,F.players,rfl,?_;refine⟨o.pl,_,rfl,.inl (aL.of (s2 _ _ sc.pl)),rfl,jD _,?_⟩;show∃k,V.bl (!GZ (.str pn) (S.players.map V.str))=.bl k/\_;rw[lX]
  by_cases c2:pn∈S.players
  ·rw[zg c2]
   rw[if_neg (fun z=>z c2)] at kk;exists by show 1<=sizeLine;omega,?_
   intros p3 H3 s3 h3;refine⟨a,p3,S,o,[b],rfl,sc.mono (s2.trans s3),aL.of h3,(by show 1<=1000000;decide),fun H4 s4=>?_⟩;have s04:=(s2.trans s3).trans s4;cases qb:S.has [b] with
   | false=>
    rw[qb] at kk;change kk _ s04
   | true=>
    rw[qb,if_neg (by simp)] at kk;have hb:b<S.aO.length:=by
     unfold cB.has at qb
     simpa using qb
    obtain⟨n,rfl⟩:=yL b0;exists q,us,its,rfl,aL.of (s04 _ _ hq),ilq.mono s04,il5,iok,fun r5 H5 s5 h5=>?_;exists a,S,o,n,rfl,sc.mono (s04.trans s5),nofun,bok,fun r6 H6 s6 h6=>?_;have s06:=(s04.trans s5).trans s6;refine⟨r5,r6,_,_,rfl,rfl,.inr ⟨dB.of (s6 _ _ h5),dB.of h6⟩,.inr (.inr ⟨rfl,rfl⟩),?_⟩;rw[O4]
    by_cases c3:kR its=S.len n
    ·rw[zg c3]
     rw[if_neg (fun z=>z c3)] at kk;exists q,us,rfl,.inl (aL.of (s06 _ _ hq)),?_;rw[aT ilq];left
     by_cases c4:40<its.length
     ·refine cb (zg nofun) ?_
      rw[if_pos c4] at kk;change kk _ s06
     ·refine cq (ze nofun) ?_
      rw[if_neg c4] at kk;change kk _ s06
    ·rw[ze c3]
     rw[if_pos (show kR its≠S.len ((n:Int)).toNat from c3)] at kk;change kk _ s06
  ·rw[ze c2]
   rw[if_pos c2] at kk;change kk _ s2
def both {c:Bool} {T:(Bool->Hp->Prop)->Prop} {Z:Bool->Hp->Prop} {H:Hp} (v:Bool) (h1:c=true->∀Z,Z v H->T Z) (h2:c=false->v=false) (hz:Z v H):if c=true then T Z else Z false H:=by
 cases c with
 | true=>rw[if_pos rfl];exact h1 rfl Z hz
 | false=>rw[if_neg (by simp)];rw[<-h2 rfl];exact hz
theorem Dg {H:Hp} {α:Type} {d:α->Dt} (p:Str):∀{hs:List (Str×List α)} {as:List Addr},cy H d (hs.map (·.2)) as->
  (hs.lookup p=none/\dm ((hs.map fun x=>kS x.1).zip (as.map V.ref)) (kS p)=none)\/∃l h vs,hs.lookup p=some l/\dm ((hs.map fun x=>kS x.1).zip (as.map V.ref)) (kS p)=some (.ref h)/\H h=some (.lst vs)/\aE H (l.map d) vs
 | [],_,h=>.inl ⟨rfl,by simp[dm]⟩
 | (x,l)::r,as,h=>by
  rw[zj] at h;unfold cy at h;obtain⟨a,t,vs,rfl,h1,h2,h3⟩:=h;rw[zj,zj,List.zip_cons_cons]
  by_cases e:x=p
  ·subst e
   refine .inr ⟨l,a,vs,by rw[yq,beq_self_eq_true],?_,h1,h2⟩;unfold dm;rw[List.find?_cons];simp
  ·have e1:¬kS x=kS p:=fun z=>e (Sum.inr.inj z)
   have e2:(p == x)=false:=by simp;exact fun z=>e z.symm
   have ih:=Dg p h3;unfold dm at ih ⊢;rw[List.find?_cons,yq,e2];simp only[e1,decide_false];exact ih
def SJ {H:Hp} {x:Int×Str} {v:V} (h:Is H (Kp x) v):∃a,v=.ref a/\H a=some (.tup [.int x.1,.str x.2]):=by
 unfold Kp Is at h;obtain⟨a,vs,rfl,ha,hl⟩:=h;unfold aE at hl;obtain⟨v1,r1,rfl,h1,hl⟩:=hl;unfold aE at hl;obtain⟨v2,r2,rfl,h2,hl⟩:=hl;unfold aE at hl;subst hl;unfold Is at h1 h2;subst h1 h2;exact⟨a,rfl,ha⟩
def Kh {H:Hp} {x:Str×Int×Str} {v:V} (h:Is H (wB x) v):∃a,v=.ref a/\H a=some (.tup [.str x.1,.int x.2.1,.str x.2.2]):=by
 unfold wB Is at h;obtain⟨a,vs,rfl,ha,hl⟩:=h;unfold aE at hl;obtain⟨v1,r1,rfl,h1,hl⟩:=hl;unfold aE at hl;obtain⟨v2,r2,rfl,h2,hl⟩:=hl;unfold aE at hl;obtain⟨v3,r3,rfl,h3,hl⟩:=hl;unfold aE at hl;subst hl;unfold Is at h1 h2 h3;subst h1 h2 h3;exact⟨a,rfl,ha⟩
def qx (C:Addr):Sp:=fH C fun H v S f=>∃x:Str×Int×Str,Is H (wB x) v/\f=fault S (.holds x.1 x.2.1 x.2.2)
def kY:aF ["score","told","bar","holds"] ["score","told"] (aq sX):=dH
def Ca {C:Addr} (F:Cf K C):di P w base 3 T.mR (qx C):=by
 nomatch T.mR,kY
 obtain⟨a,S,o,v,f,rfl,sc,⟨⟨pn,b,iN⟩,hd,rfl⟩,kk⟩:=h;obtain⟨a1,rfl,h1⟩:=Kh hd;have sl:=yC;obtain⟨ub,jm,ho,hub,hjm⟩:=sc.obj;unfold fault at kk;dsimp only at kk h1;refine⟨_,(ag (bT 2 kY.nd (bO (pv 1) ae))
  (ag (bT 3 kY.nd (Gu (iI hr) (bP (pv 0) rfl) (bO (pv 1) ae) (bB af) ⟨rfl,rfl,rfl,rfl⟩))
  (ag (aJ (PW.pt (dI (ptr fI (eQ aG T.bC (ah (pv 3) af)) ae) (dn (ptr gJ (pv 2) (bO (gd (pv 3) (tK mj ae)) ae)))))
  (ak (au aN))
  aD)
  (ag (aJ (PW.pt (eD (jd fk (bO (pv 1) ae) (bP (pv 0) rfl) (by with_unfolding_all rfl)) (dC (bF (C0 (iI hr) (bO (pv 1) ae) (bP (pv 0) rfl))))))
  (ak (au aN))
  aD)
  (ag (aJ (fB (cU (bK (kC T F) hr T.lY (ah (pv 0) (ah (bB (ah (pv 2) af)) af)))))
  (ak (au aN))
  aD)
  (ag (aJ (ptr C4 (eQ aG T.bC (ah (pv 3) af)) (b8 (v:=.int (20)) (by rfl) T.E9 ⟨_,rfl⟩))
  (ak (au aN))
  aD)
  (ak (au aW)))))))),?_⟩
 ac_rfl;exists a,C,o.dx,_,_,rfl,ho,F.cls,F.holds,rfl,?_;refine⟨o.ho,rfl,.inl ⟨_,.inl sc.ho.1⟩,?_⟩;exists by show 0<=sizeLine;omega,?_
 intros p2 H2 s2 h2;have h12:=s2 _ _ h1;refine⟨_,.inl ⟨_,kS pn,.inl (s2 _ _ sc.ho.1),rfl,rfl⟩,?_⟩;obtain⟨h,vs,l,eh,hh,ilh,el⟩:∃h vs l,(dm ((S.holds.map fun x=>kS x.1).zip (o.hs.map V.ref)) (kS pn)).getD (.ref p2)=.ref h/\H2 h=some (.lst vs)/\aE H2 (l.map Kp) vs/\(S.holds.lookup pn).getD []=l:=by
  rcases Dg (H:=H) pn sc.ho.2 with⟨e1,e2⟩ | ⟨l,h,vs,e1,e2,hh,il⟩
  ·exact⟨p2,[],[],by rw[e2];rfl,h2,by unfold aE;rfl,by rw[e1];rfl⟩
  ·exact⟨h,vs,l,by rw[e2];rfl,s2 _ _ hh,il.mono s2,by rw[e1];rfl⟩
 rw[el] at kk;rw[eh];exists h,vs,rfl,.inl (aL.of hh),?_;rw[aT ilh];left;obtain⟨c1,ec,kk⟩:∃c1:Bool,c1=(match l.getLast? with | some q=>decide (b<=q.1) | none=>false)/\∀H',aB H H'->Q (Sc.os (if c1=true then some "twice" else if pn∉S.players then some "name" else if iN∉S.ao.map (·.1) then some "name" else if¬S.has [b]=true then some "bar" else if 20<=l.length then some "many" else none)) H':=by
  refine⟨_,rfl,?_⟩;cases q:l.getLast? with
  | none=>rw[q] at kk;exact kk
  | some x=>rw[q] at kk;exact kk
 refine both c1 ?_ ?_ ?_
 ·intro c Z hz
  have lp:0<l.length:=by have:=ye c;omega
  have vl:=aT ilh;obtain⟨x,hx,ix⟩:=dE ilh (i:=vs.length-1) (zd nofun);obtain⟨a3,ea,h3⟩:=SJ ix;have eg:l.getLast?=some x:=by rw[List.getLast?_eq_getElem?,<-vl];exact hx
  rw[ec,eg] at hz;left;refine⟨h,vs,-1,_,rfl,rfl,aL.of hh,Ku (zd nofun),?_⟩;rw[ea];change hz
 ·intro c
  have:l=[]:=yt.mp (by have:=of_decide_eq_false c;omega);rw[ec,this];rfl
 ·clear ec
  cases c1 with
  | true=>
   change kk _ s2
  | false=>
   rw[if_neg (by simp)] at kk;exists a,C,o.dx,_,_,rfl,s2 _ _ ho,F.cls,F.players,rfl,?_;refine⟨o.pl,_,rfl,.inl (aL.of (s2 _ _ sc.pl)),rfl,jD _,?_⟩;show∃k,V.bl (!GZ (.str pn) (S.players.map V.str))=.bl k/\_;rw[lX]
   by_cases c2:pn∈S.players
   ·rw[zg c2]
    rw[if_neg (fun z=>z c2)] at kk;obtain⟨us,hu,ilu⟩:=sc.ins;have em:(S.ao.map fun x=>kS x.1)=(S.ao.map (·.1)).map kS:=by rw[zB];rfl
    exists a,C,o.dx,_,_,rfl,s2 _ _ ho,F.cls,F.ao,rfl,?_;refine⟨o.ins,_,rfl,.inl ⟨_,kS iN,.inl (s2 _ _ hu),rfl,rfl⟩,?_⟩;rw[em,sr iN (by rw[za];exact aT ilu)]
    by_cases c3:iN∈S.ao.map (·.1)
    ·rw[zg c3]
     rw[if_neg (fun z=>z c3)] at kk;exists by show 1<=sizeLine;omega,?_
     intros p3 H3 s3 h3;refine⟨a,p3,S,o,[b],rfl,sc.mono (s2.trans s3),aL.of h3,(by show 1<=1000000;decide),fun H4 s4=>?_⟩;have s04:=(s2.trans s3).trans s4;cases qb:S.has [b] with
     | false=>
      rw[qb] at kk;change kk _ s04
     | true=>
      rw[qb,if_neg (by simp)] at kk;exists h,vs,rfl,.inl (aL.of ((s3.trans s4) _ _ hh)),?_;rw[aT ilh];left
      by_cases c4:20<=l.length
      ·refine cb (zg nofun) ?_
       rw[if_pos c4] at kk;change kk _ s04
      ·refine cq (ze nofun) ?_
       rw[if_neg c4] at kk;change kk _ s04
    ·rw[ze c3]
     rw[if_pos c3] at kk;change kk _ s2
   ·rw[ze c2]
    rw[if_pos c2] at kk;change kk _ s2
def FW {H:Hp} {x:Str×List Str} {v:V} (h:Is H (gQ x) v):∃a q,v=.ref a/\H a=some (.tup [.str x.1,.ref q])/\H q=some (.tup (x.2.map V.str)):=by
 unfold gQ Is at h;obtain⟨a,vs,rfl,ha,hl⟩:=h;unfold aE at hl;obtain⟨v1,r1,rfl,h1,hl⟩:=hl;unfold aE at hl;obtain⟨v2,r2,rfl,h2,hl⟩:=hl;unfold aE at hl;subst hl;unfold Is at h1;subst h1;unfold og Is at h2;obtain⟨q,us,rfl,hq,hl⟩:=h2;rw[d4 hl] at hq;exact⟨a,q,rfl,ha,hq⟩
def QW {H:Hp} {x:Str×List Str} {v:V} (h:Is H (Px x) v):∃q,v=.ref q/\H q=some (.tup (x.2.map V.str)):=by
 unfold Px og Is at h;obtain⟨q,us,rfl,hq,hl⟩:=h;rw[d4 hl] at hq;exact⟨q,rfl,hq⟩
inductive FY (C:Addr) (vs:List V) (H:Hp) (Q:VK) (E:XK):Prop
 | mk (a:Addr) (S:cB) (o:Ow) (v ub jm:V) (x:Str×List Str) (ob:Obj) (us:List V) (_:vs=[.ref a,v]) (_:H a=some (.ins C o.dx (Om o ub jm))) (_:H o.pl=some (.lst (S.players.map V.str))) (_:JP H o.st ob ((S.aM.map fun x=>kS x.1).zip us)) (_:aE H (S.aM.map Px) us) (_:Is H (gQ x) v) (_:x.2.length<=1000) (_:∀H',aB H H'->Q (os (fault S (.cC x.1 x.2))) H')
theorem Ii {α β:Type}:∀{l:List α} {m:List β} {i:Nat} {p:α×β},(l.zip m)[i]?=some p->l[i]?=some p.1/\m[i]?=some p.2
 | [],_,_,_,h=>by simp at h
 | _::_,[],_,_,h=>by simp at h
 | _::_,_::_,0,_,h=>by simp at h;subst h;exact⟨rfl,rfl⟩
 | _::l,_::m,i+1,_,h=>by
  rw[List.zip_cons_cons] at h
  simpa using Ii (l:=l) (m:=m) (i:=i) (by simpa using h)
def N8 {α:Type} {p:α->Bool} {l:List α} {i:Nat} {x:α} (h:l[i]?=some x) (hn:(l.take i).any p=false) (hx:p x=false):(l.take (i+1)).any p=false:=by
 rw[cZ h,List.any_append,hn];simp[hx]
def N9 {α:Type} {p:α->Bool} {l:List α} {i:Nat} {x:α} (h:l[i]?=some x) (hx:p x=true):l.any p=true:=yo.mpr ⟨x,zC h,hx⟩
def jG:aF ["score","told","players","others"] ["score","told"] (aq qD):=dH
def GA {C:Addr} (F:Cf K C):di P w base 1 T.iB (FY C):=by
 nomatch T.iB,jG
 obtain⟨a,S,o,v,ub,jm,x,ob,us,rfl,ho,hpl,fz,ilu,iv,x5,kk⟩:=h;obtain⟨a1,q,rfl,h1,hq⟩:=FW iv;have sl:=yC;have ul:=aT ilu;have em:(S.aM.map fun x=>kS x.1)=(S.aM.map (·.1)).map kS:=by rw[zB];rfl
 unfold fault at kk;dsimp only at kk;refine⟨_,(ag (bT 2 jG.nd (bO (pv 1) ae))
  (ag (aJ (PW.pt (eD (bF (Ek (iI hr) (bO (pv 1) ae) (bP (pv 0) rfl))) (dC (ptr fA (eQ LO T.bC (ah (ox (LM rfl) T.Sv (ah (pv 2) af)) af)) (eQ aG T.bC (ah (pv 2) af))))))
  (ak (au aN))
  aD)
  (ag (cE PassesOwn.never rfl (La (bP (pv 0) rfl)) (jR 3 jG.nd)
  (ak (aJ (cU (eQ (gS rfl) T.AB (ah (qh (ts:=["player"]) (ys:=["others"]) (js:=[3]) (te:=(fP (RU K false) (bf 0) (bf 1))) (lg (pv 2)) (hJ 0) bD (dY lU (pv 0) (pv 1) (by with_unfolding_all rfl))) af)))
   (ak (au aN))
   aD)))
  (ag (aJ (cU (eQ (gS rfl) T.AB (ah (qh (ts:=["player"]) (ys:=["score"]) (js:=[0]) (te:=(fP (RU K true) (bf 0) (OF K (bf 1) "players"))) (lg (pv 2)) (hJ 0) bD (dY fk (pv 0) (bP (pv 1) rfl) (by with_unfolding_all rfl))) af)))
  (ak (au aN))
  aD)
  (ak (au aW)))))),?_⟩
 ac_rfl;exists a,C,o.dx,_,_,rfl,ho,F.cls,F.aM,rfl,?_;refine⟨o.st,_,rfl,.inl ⟨_,kS x.1,.inr ⟨_,fz⟩,rfl,rfl⟩,?_⟩;rw[em,sr x.1 (by rw[za];exact ul)]
 by_cases c1:x.1∈S.aM.map (·.1)
 ·rw[zg c1]
  rw[if_pos c1] at kk;change kk _ (aB.refl _)
 ·rw[ze c1]
  rw[if_neg c1] at kk;exists q,x.2,rfl,dB.of hq,x5,fun p2 n2=>?_;have s2:aB H (upd H p2 (HZ p2 (gP x.2).length)):=aS n2;have h2:upd H p2 (HZ p2 (gP x.2).length) p2=some (HZ p2 (gP x.2).length):=aC;generalize upd H p2 (HZ p2 (gP x.2).length)=H2 at s2 h2 ⊢;obtain⟨d1,d2⟩:=Hm x.2;refine⟨p2,_,rfl,h2,nofun,?_⟩;exists q,_,rfl,.inr (dB.of (s2 _ _ hq)),?_;rw[za];left
  by_cases c2:x.2.Nodup
  ·refine cq (ze (by have:=d2.mpr c2;omega)) ?_
   rw[if_neg (fun z=>z c2)] at kk;exists a,C,o.dx,_,_,rfl,s2 _ _ ho,F.cls,F.aM,rfl,?_;refine⟨o.st,ob,_,rfl,s2 _ _ fz,?_⟩;refine Je (fun i σ H'=>aB H H'/\(S.aM.take i).any (fun q=>x.2.any fun p=>decide (p∈q.2))=false/\∃u,σ=[some (.ref a),some (.ref a1),some (.ref q),u]) ⟨s2,rfl,none,rfl⟩ (fun i σ H' _ h=>h.1 _ _ fz) ?_ ?_
   ·intro i p σ H3 hp hh
    refine df fun N kN0 kR0 _ _=>?_;obtain⟨s3,hn,u,rfl⟩:=hh;obtain⟨_,hp2⟩:=Ii hp;obtain⟨st,hst,ist⟩:=dE ilu hp2;obtain⟨r,er,hr'⟩:=QW ist;rw[er];exists⟨_,dB.of (s3 _ _ hq)⟩,?_;refine gR (enc:=V.str) (ws:=x.2) (fun z=>.bl (decide (z∈st.2))) (fun σ=>∃v,σ=[v,some (.ref r)]) nofun (s3 _ _ hq) ⟨none,rfl⟩ ?_ ?_
    ·rintro z σ H4 R hz s4 ⟨_,rfl⟩ rr
     exists r,_,rfl,.inr (dB.of ((s3.trans s4) _ _ hr')),rfl,jD _,?_;refine rr _ _ _ (aB.refl _) ?_ ⟨_,rfl⟩;rw[if_neg (by simp),lX];unfold Is;rfl
    ·intro D vs H4 s4 hD il
     have e:x.2.map (fun z=>Dt.bl (decide (z∈st.2)))=(x.2.map fun z=>decide (z∈st.2)).map Dt.bl:=by rw[zB];rfl
     rw[e] at il;rw[lq il] at hD;refine⟨D,_,rfl,aL.of hD,?_⟩;have e2:(x.2.map fun z=>decide (z∈st.2)).any id=x.2.any fun p=>decide (p∈st.2):=by rw[List.any_map];rfl
     rw[e2];cases qc:x.2.any fun p=>decide (p∈st.2) with
     | true=>
      rw[if_pos (N9 hst (p:=fun q:Str×List Str=>x.2.any fun p=>decide (p∈q.2)) qc)] at kk;change kk _ (s3.trans s4)
     | false=>
      change⟨s3.trans s4,N8 hst hn qc,_,rfl⟩
   ·rintro σ H3 ⟨s3,hn,u,rfl⟩
    rw[List.length_zip,za,ul,Nat.min_self,zN] at hn;rw[hn,if_neg (by simp)] at kk;exists⟨_,dB.of (s3 _ _ hq)⟩,?_;refine gR (enc:=V.str) (ws:=x.2) (fun z=>.bl (!decide (z∈S.players))) (fun σ=>∃v,σ=[v,some (.ref a)]) nofun (s3 _ _ hq) ⟨none,rfl⟩ ?_ ?_
    ·rintro z σ H4 R hz s4 ⟨_,rfl⟩ rr
     exists a,C,o.dx,_,_,rfl,(s3.trans s4) _ _ ho,F.cls,F.players,rfl,?_;refine⟨o.pl,_,rfl,.inl (aL.of ((s3.trans s4) _ _ hpl)),rfl,jD _,?_⟩;refine rr _ _ _ (aB.refl _) ?_ ⟨_,rfl⟩;show Is H4 _ (V.bl (!GZ (.str z) (S.players.map V.str)));rw[lX];unfold Is;rfl
    ·intro D vs H4 s4 hD il
     have e:x.2.map (fun z=>Dt.bl (!decide (z∈S.players)))=(x.2.map fun z=>!decide (z∈S.players)).map Dt.bl:=by rw[zB];rfl
     rw[e] at il;rw[lq il] at hD;refine⟨D,_,rfl,aL.of hD,?_⟩;have e2:(x.2.map fun z=>!decide (z∈S.players)).any id=x.2.any fun p=>!decide (p∈S.players):=by rw[List.any_map];rfl
     rw[e2];cases qc:x.2.any fun p=>!decide (p∈S.players) with
     | true=>
      rw[qc,if_pos rfl] at kk;change kk _ (s3.trans s4)
     | false=>
      rw[qc,if_neg (by simp)] at kk;change kk _ (s3.trans s4)
  ·refine cb (zg (by have:(gP x.2).length≠x.2.length:=fun z=>c2 (d2.mp z);omega)) ?_
   rw[if_pos c2] at kk;change kk _ s2
def oG (C:Addr):Sp:=fH C fun H v S f=>∃x,Is H (gQ x) v/\x.2.length<=1000/\f=fault S (.cC x.1 x.2)
def NK {H:Hp} {d:Addr} {o:Obj} {u:HO} (hd:H d=some u) (nt:cM (some u)) {l:List Dt} {vs:List V} (h:aE H l vs):aE (upd H d (.oy o u)) l vs:=aE.upd (by rw[hd];exact nt) h
def F9 {H H':Hp} {d:Addr} {o:Obj} {u:HO} (hd:H d=some u) (s:aB (upd H d (.oy o u)) H'):aB H (upd H' d u):=fun b z hb=>by
 by_cases e:b=d
 ·subst e;rw[aC,<-hd,hb]
 ·rw[aH e];exact s b z (by rw[aH e];exact hb)
def Au {C:Addr} (F:Cf K C):di P w base 1 T.iB (oG C):=by
 refine(GA (P:=P) (w:=w) (base:=base) T F).PY (fun vs H Q E h=>?_) (fun vs H Q E h=>?_)
 ·obtain⟨_,_,_,_,_,rfl,_⟩:=h;rfl
 ·obtain⟨a,S,o,v,f,rfl,sc,⟨x,iv,x5,rfl⟩,kk⟩:=h
  obtain⟨us,hu,ilu⟩:=sc.st;obtain⟨ub,jm,ho,hub,hjm⟩:=sc.obj;have nt:cM (some (HO.dK ((S.aM.map fun x=>kS x.1).zip us))):=fun vs z=>by cases z
  have na:a≠o.st:=fun z=>by rw[z,hu] at ho;cases ho
  have np:o.pl≠o.st:=fun z=>by have:=sc.pl;rw[z,hu] at this;cases this
  refine⟨o.st,_,hu,rfl,fun ob=>⟨a,S,o,v,ub,jm,x,ob,us,rfl,by rw[aH na];exact ho,by rw[aH np];exact sc.pl,aC,NK hu nt ilu,Is.upd (by rw[hu];exact nt) iv,x5,fun H' s'=>kk _ (F9 hu s')⟩⟩
def Qk (S:cB):Prop:=∀b∈S.aO,BD b
inductive DP (C:Addr) (vs:List V) (H:Hp) (Q:VK) (E:XK):Prop
 | mk (a:Addr) (S:cB) (o:Ow) (v ub jm:V) (x:Int×Int) (ob:Obj) (us:List V) (_:vs=[.ref a,v]) (_:H a=some (.ins C o.dx (Om o ub jm))) (_:Is H (dO dL S.aI) ub) (_:Ts C H a S o) (_:H o.no=some (.oy ob (.dT ((S.aK.map fun x=>kN x.1).zip us)))) (_:us.length=S.aK.length) (_:S.aK.length<=1000000) (_:Is H (dL x) v) (_:BE 8999 x) (_:Qk S) (_:∀H',aB H H'->Q (os (fault S (.aI x))) H')
def Nm {S:cB} (h:Qk S) (b:Nat) (hb:b<S.aO.length):BE 8999 (S.aU b):=by
 unfold cB.aU;rw[zd hb];obtain⟨k1,k2,k3,k4⟩:=h _ (ym hb);obtain⟨g,g1,g2,g3,g4,g5⟩:=jO (t:=S.aO[b].aU.1) k3;have r0:=Ak (t:=S.aO[b].aU.1) (b:=S.aO[b].aU.2) k1;have r1:=Al (t:=S.aO[b].aU.1) (b:=S.aO[b].aU.2) k1;dsimp only;exact⟨(cw (n:=10) r0 nofun).mono ∅,(cw (n:=10) nofun nofun).mono ∅⟩
def wV:aF ["score","length"] ["score","length"] (aq oN):=dH
def En {C:Addr} (F:Cf K C):di P w base 4 T.gh (DP C):=by
 nomatch T.gh,wV
 obtain⟨a,S,o,v,ub,jm,x,ob,us,rfl,ho,hub,sb,fz,ul,n6,iv,zx,bok,kk⟩:=h;have sl:=yC;unfold fault at kk;dsimp only at kk;refine⟨_,(ag (aJ (bF (gr (bP (pv 0) rfl)))
  (ak (au aN))
  aD)
  (ag (aJ (ptr dj (eQ aG T.bC (ah (bP (pv 0) rfl) af)) ae)
  (ak (au aN))
  aD)
  (ag (aJ (fB (cU (bK (IS T) hr T.DY (ah (pv 1) (ah (bK (nT T F) hr T.jf (ah (pv 0) (ah ae af))) af)))))
  (ak (au aN))
  aD)
  (ag (aJ (cU (eQ (gS rfl) T.AB (ah (qh (ts:=["place"]) (ys:=[]) (js:=[]) (te:=(fP Ur (fP (rH K) (bf 0) (tC (.int (0)))) (tC (.int (0))))) (OZ (bP (pv 0) rfl)) (hJ 0) bD (dY dj (bO (pv 0) ae) ae (iS _))) af)))
  (ak (au aN))
  aD)
  (ak (au aW)))))),?_⟩
 ac_rfl;exists a,C,o.dx,_,_,rfl,ho,F.cls,F.aI,rfl,?_;cases q:S.aI with
 | some u=>
  rw[q,if_pos (show(some u).isSome=true from rfl)] at kk;rw[q] at hub;cases fC (o:=some u) hub with
  | ref hu=>
   change kk _ (aB.refl _)
 | none=>
  rw[q,if_neg (by simp)] at kk;rw[q] at hub;unfold dO Is at hub;subst hub;obtain⟨vs,hv,il⟩:=sb.ba;cases fC (o:=some x) iv with
  | ref hx=>
  rename_i a1;exists a,C,o.dx,_,_,rfl,ho,F.cls,F.aO,rfl,?_;exists o.ba,vs,rfl,.inl (aL.of hv),?_;rw[aT il];left
  by_cases c1:S.aO.length=0
  ·refine cb (by rw[c1];rfl) ?_
   rw[if_pos c1] at kk;change kk _ (aB.refl _)
  ·refine cq (ze fun z=>c1 (by have:=V.int.inj z;omega)) ?_
   rw[if_neg c1] at kk;exists a,S,o,0,rfl,sb,nofun,bok,fun p H1 s1 h1=>?_;refine⟨_,_,_,_,rfl,s1 _ _ hx,h1,zx,Nm bok 0 nofun,?_⟩
   by_cases c2:x.1*(S.aU 0).2<(S.aU 0).1*x.2
   ·rw[zg c2]
    rw[if_neg (fun z=>z c2)] at kk;exists a,C,o.dx,_,_,rfl,s1 _ _ ho,F.cls,F.aK,rfl,?_;refine⟨o.no,ob,_,_,rfl,⟨_,s1 _ _ fz,.inr ⟨_,rfl,rfl,rfl⟩⟩,?_⟩;have kl:((S.aK.map fun x=>kN x.1).zip us).length=S.aK.length:=by rw[List.length_zip,za,ul,Nat.min_self]
    refine A8 (ws:=S.aK) (fun p x H=>∃b,x=.ref b/\H b=some (.tup [.int p.1.1,.str p.1.2])) (fun p=>.bl (decide (p.1.1=0))) (fun σ=>∃v,σ=[v]) nofun ⟨none,rfl⟩ (fun i H2 hi s2=>⟨⟨_,s2 _ _ (s1 _ _ fz),.inr ⟨_,rfl,rfl,rfl⟩⟩,nofun⟩) (fun H2 s2=>⟨⟨_,s2 _ _ (s1 _ _ fz),.inr ⟨_,rfl,rfl,rfl⟩⟩,nofun⟩) ?_ ?_ ?_
    ·rintro i y H2 H3 hi s2 ⟨rfl,p,b,hp,hb,rfl⟩
     refine⟨aB.refl _,b,rfl,?_⟩;obtain⟨z1,_⟩:=Ii hp;rw[zK,zd hi] at z1;simp only[Option.map_some,Option.some.injEq] at z1;rw[<-z1] at hb;exact hb
    ·rintro p y σ H2 R hp s2 ⟨b,rfl,hb⟩ ⟨_,rfl⟩ r
     left;refine r _ _ _ (aB.refl _) ?_ ⟨_,rfl⟩;rw[show decide (V.int p.1.1=V.int 0)=decide (p.1.1=0) from by by_cases h:p.1.1=0 <;> simp[h]];unfold Is;rfl
    ·intro D vs H4 s4 hD il
     have e:S.aK.map (fun p=>Dt.bl (decide (p.1.1=0)))=(S.aK.map fun p=>decide (p.1.1=0)).map Dt.bl:=by rw[zB];rfl
     rw[e] at il;rw[lq il] at hD;refine⟨D,_,rfl,aL.of hD,?_⟩;have e2:(S.aK.map fun p=>decide (p.1.1=0)).any id=S.aK.any fun p=>decide (p.1.1=0):=by rw[List.any_map];rfl
     rw[e2];cases qc:S.aK.any fun p=>decide (p.1.1=0) with
     | true=>
      rw[qc,if_pos rfl] at kk;change kk _ (s1.trans s4)
     | false=>
      rw[qc,if_neg (by simp)] at kk;change kk _ (s1.trans s4)
   ·rw[ze c2]
    rw[if_pos c2] at kk;change kk _ s1
def nh (C:Addr):Sp:=fH C fun H v S f=>∃x,Is H (dL x) v/\BE 8999 x/\Qk S/\S.aK.length<=1000000/\f=fault S (.aI x)
def wZ {C:Addr} (F:Cf K C):di P w base 4 T.gh (nh C):=by
 refine(En (P:=P) (w:=w) (base:=base) T F).PY (fun vs H Q E h=>?_) (fun vs H Q E h=>?_)
 ·obtain⟨_,_,_,_,_,rfl,_⟩:=h;rfl
 ·obtain⟨a,S,o,v,f,rfl,sc,⟨x,iv,zx,bok,n6,rfl⟩,kk⟩:=h
  obtain⟨hn,ln⟩:=sc.no;obtain⟨ub,jm,ho,hub,hjm⟩:=sc.obj;obtain⟨bs,hb,ilb⟩:=sc.ba;have nt:cM (some (HO.dT ((S.aK.map fun x=>kN x.1).zip (o.ns.map V.ref)))):=fun vs z=>by cases z
  have na:a≠o.no:=fun z=>by rw[z,hn] at ho;cases ho
  have nb:o.ba≠o.no:=fun z=>by rw[z,hn] at hb;cases hb
  have ho':∀ob,upd H o.no (.oy ob (.dT ((S.aK.map fun x=>kN x.1).zip (o.ns.map V.ref)))) a=some (.ins C o.dx (Om o ub jm)):=fun ob=>by rw[aH na];exact ho
  refine⟨o.no,_,hn,rfl,fun ob=>⟨a,S,o,v,ub,jm,x,ob,o.ns.map V.ref,rfl,ho' ob,Is.upd (by rw[hn];exact nt) hub,⟨⟨ub,jm,ho' ob⟩,bs,by rw[aH nb];exact hb,NK hn nt ilb⟩,aC,by rw[za,pQ ln,za],n6,Is.upd (by rw[hn];exact nt) iv,zx,bok,fun H' s'=>kk _ (F9 hn s')⟩⟩
noncomputable def qZ:Told->Str
 | .bN _=> "player"
 | .cQ _ _ _=> "instrument"
 | .cC _ _=> "staff"
 | .bar _=> "bar"
 | .aI _=> "upbeat"
 | .holds _ _ _=> "holds"
 | .aK _ _ _=> "notes"
 | .rep _=> "repeat"
 | .b9 _=> "jump"
def RJ (S:cB):Told->Prop
 | .cC _ ps=>ps.length<=1000
 | .aI l=>BE 8999 l/\Qk S/\S.aK.length<=1000000
 | .aK b _ its=>0<=b/\its.length<=500/\(∀it∈its,Ov it.2)/\Qk S
 | .rep r=>Iu r.ends<64/\r.ends.length<=1000/\-1000000<=r.times/\r.times<=1000000
 | .b9 _=>Fu S
 | _=>True
inductive Mb (K:yB) {mg:Str->Option Value} (T:Txt K mg) (C:Addr):Addr->Sp->Prop where
 | bN:Mb K T C T.gF (nu C)
 | cQ:Mb K T C T.eA (iX C)
 | cC:Mb K T C T.hZ (oG C)
 | bar:Mb K T C T.kQ (sD C)
 | aI:Mb K T C T.gD (nh C)
 | holds:Mb K T C T.jx (qx C)
 | aK:Mb K T C T.ik (oH C)
 | rep:Mb K T C T.gE (nr C)
 | b9:Mb K T C T.jw (qt C)
noncomputable def Qe {K:yB} {mg:Str->Option Value} (T:Txt K mg):List (Str×V):=[("player",V.ref T.gF),("instrument",.ref T.eA),("staff",.ref T.hZ),("bar",.ref T.kQ),("upbeat",.ref T.gD),("holds",.ref T.jx),("notes",.ref T.ik),("repeat",.ref T.gE),("jump",.ref T.jw)]
def NJ (K:yB) {mg:Str->Option Value} (T:Txt K mg) (C:Addr) (t:Told):∃f D,uD (Qe T) (qZ t)=some (.ref f)/\Mb K T C f (fH C D)/\∀H0 H v S,gW H0 H v (some t)->RJ S t->D H v S (fault S t):=by
 cases t with
 | bN n=>exact⟨_,_,rfl,.bN,fun H0 H v S h1 h2=>⟨n,h1,rfl⟩⟩
 | cQ n t l=>exact⟨_,_,rfl,.cQ,fun H0 H v S h1 h2=>⟨(n,t,l),h1,rfl⟩⟩
 | cC n ps=>exact⟨_,_,rfl,.cC,fun H0 H v S h1 h2=>⟨(n,ps),h1,h2,rfl⟩⟩
 | bar b=>exact⟨_,_,rfl,.bar,fun H0 H v S h1 h2=>⟨b,rfl⟩⟩
 | aI l=>exact⟨_,_,rfl,.aI,fun H0 H v S h1 h2=>⟨l,h1,h2.1,h2.2.1,h2.2.2,rfl⟩⟩
 | holds p b i=>exact⟨_,_,rfl,.holds,fun H0 H v S h1 h2=>⟨(p,b,i),h1,rfl⟩⟩
 | aK b p its=>exact⟨_,_,rfl,.aK,fun H0 H v S h1 h2=>⟨(b,p,its),jz.at h1,h2.1,h2.2.1,h2.2.2.1,h2.2.2.2,rfl⟩⟩
 | rep r=>exact⟨_,_,rfl,.rep,fun H0 H v S h1 h2=>⟨r,h1,h2.1,h2.2.1,h2.2.2.1,h2.2.2.2,rfl⟩⟩
 | b9 j=>exact⟨_,_,rfl,.b9,fun H0 H v S h1 h2=>⟨j,h1,h2,rfl⟩⟩
def Mr {H0 H:Hp} {v:V} {t:Told} (h:gW H0 H v (some t)):v≠.bR:=by
 have tp:∀l,Is H (.tup l) v->v≠.bR:=fun l z=>by
  unfold Is at z;obtain⟨a,vs,e,_⟩:=z;rw[e];simp
 cases t with
 | bN n=>have e:v=.str n:=h;rw[e];simp
 | cQ n t l=>exact tp _ h
 | cC n ps=>exact tp _ h
 | bar b=>exact tp _ h
 | aI l=>exact tp _ h
 | holds p b i=>exact tp _ h
 | aK b p its=>obtain⟨a,_,_,e,_⟩:=h;rw[e];simp
 | rep r=>exact tp _ h
 | b9 j=>exact tp _ h
noncomputable def NO (S:cB):Option Told->Option Str
 | none=>some "row"
 | some t=>fault S t
inductive F2 (C:Addr) (vs:List V) (H:Hp) (Q:VK) (E:XK):Prop
 | mk (a:Addr) (S:cB) (o:Ow) (x:Str) (v:V) (H0:Hp) (t:Option Told) (_:vs=[.ref a,.str x,v]) (_:bZ C H a S o) (_:gW H0 H v t) (_:(∀t',t=some t'->x=qZ t'/\RJ S t')) (_:∀H',aB H H'->Q (os (NO S t)) H')
def vP:aF ["score","sort","told","finder"] ["score","sort","told"] (aq rm):=dH
def GG (B:Dk P w K T) {C:Addr} (F:Cf K C):di P w base 6 T.AN (F2 C):=by
 refine T.AN.F.To vP fun cdv A' outer s H vs Q E hr h=>?_
 ·obtain⟨a,S,o,x,v,H0,t,rfl,sc,tv,fit,kk⟩:=h
  have hTbV:∀f sp,Mb K T C f sp->RP (lB Ie P w K mg base ["score","sort","told","finder"] "fault_of" (aq rm) T.Bp cdv A' outer s H E).IU Ie 5 f sp:=by
   intro f sp h;cases h with
   | bN=>exact⟨_,_,L2.dU.mono (w9 T F) ∅,T.je.F.kp,T.je.b⟩
   | cQ=>exact⟨_,_,L2.dU.mono (qi T F) ∅,T.fu.F.kp,T.fu.b⟩
   | cC=>exact⟨_,_,L2.dU.mono (Au T F) ∅,T.iB.F.kp,T.iB.b⟩
   | bar=>exact⟨_,_,L2.dU.mono (Ey T F) ∅,T.pV.F.kp,T.pV.b⟩
   | aI=>exact⟨_,_,L2.dU.mono (wZ T F) ∅,T.gh.F.kp,T.gh.b⟩
   | holds=>exact⟨_,_,L2.dU.mono (Ca T F) ∅,T.mR.F.kp,T.mR.b⟩
   | aK=>exact⟨_,_,L2.dU.mono (Az T F) ∅,T.kE.F.kp,T.kE.b⟩
   | rep=>exact⟨_,_,L2.dU.mono (w8 T F) ∅,T.i9.F.kp,T.i9.b⟩
   | b9=>exact⟨_,_,L2.dU.mono (B9 T F) ∅,T.mO.F.kp,T.mO.b⟩
  refine⟨_,(ag (aJ (bF (cJ (pv 2)))
   (ak (au aN))
   aD)
   (ag (bT 3 vP.nd (Gs (b8 (v:=.ref T.tF) (by rfl) T.N3 rfl) (pv 1) (fun _ _=>rfl)))
   (ak (au (Gw (Mb K T C) hTbV (hr.mono ∅) (pv 3) J9 (ah (pv 0) (ah (pv 2) af))))))),?_⟩
  ac_rfl;left;cases t with
  | none=>
   have e:v=.bR:=tv;subst e;change kk _ (aB.refl _)
  | some t=>
   obtain⟨ex,ft⟩:=fit t rfl;subst ex;obtain⟨f,D,ev,htb,hd⟩:=NJ K T C t;have ne:=Mr tv;rw[ze ne];exists T.tF,Qe T,qZ t,_,rfl,B.Rv,rfl,ev,?_;exists f,_,rfl,htb,?_;change⟨a,S,o,v,_,rfl,sc,hd H0 H v S tv ft,kk⟩
def HN {hs:List (Str×List (Int×Str))} {p:Str} {h:Int×Str} (fr:p∉hs.map (·.1)):fw (hs++[(p,[])]) p h=fw hs p h:=by
 unfold fw;rw[if_neg fr,if_pos (by rw[zk];exact zI _ (zA.mpr rfl)),zk];have e:(hs.map fun q:Str×List (Int×Str)=>if q.1=p then(q.1,q.2++[h]) else q)=hs:=by
  conv=>rhs;rw[<-List.map_id hs]
  refine List.map_congr_left fun q hq=>?_;rw[if_neg (fun z=>fr (by rw[<-z];exact zP (f:=fun x:Str×List (Int×Str)=>x.1) hq))];rfl
 rw[e];simp
def sg (S:cB):Prop:=(S.holds.map (·.1)).Nodup/\S.holds.length<=1000000/\∀q∈S.holds,q.2.length<=1000000
inductive F3 (C:Addr) (vs:List V) (H:Hp) (Q:VK) (E:XK):Prop
 | mk (a:Addr) (S:cB) (o:Ow) (v:V) (pn:Str) (b:Int) (i:Str) (_:vs=[.ref a,v]) (_:bZ C H a S o) (_:Is H (wB (pn,b,i)) v) (_:sg S) (_:∀H' o',bZ C H' a (bS S (.holds pn b i)) o'->xH (own a o) H H'->(∀x∈own a o',x∈own a o\/H x=none)->Q .bR H')
def tV {o:Ow} {a x:Addr} (h:x∈o.lists):x∈own a o:=by
 unfold Ow.lists at h;unfold own;rw[zG,zG] at h ⊢;rcases h with(h | h) | h
 ·refine .inl (.inl ?_)
  simp only[zD,zE,or_false] at h ⊢;rcases h with h | h | h <;> simp[h]
 ·exact .inl (.inr h)
 ·exact .inr h
def Nh {C a x:Addr} {H:Hp} {S:cB} {o:Ow} (h:bZ C H a S o) (hx:x∈own a o):∃u,H x=some u:=by
 obtain⟨_,_,ha,_⟩:=h.obj;obtain⟨_,hi,_⟩:=h.ins;obtain⟨_,hs,_⟩:=h.st;obtain⟨_,hb,_⟩:=h.ba;obtain⟨_,hr,_⟩:=h.re;unfold own at hx;rw[zG,zG] at hx;rcases hx with(hx | hx) | hx
 ·simp only[zD,zE,or_false] at hx
  rcases hx with rfl | rfl | rfl | rfl | rfl | rfl | rfl | rfl
  ·exact⟨_,ha⟩
  ·exact⟨_,h.pl⟩
  ·exact⟨_,hi⟩
  ·exact⟨_,hs⟩
  ·exact⟨_,hb⟩
  ·exact⟨_,h.ho.1⟩
  ·exact⟨_,h.no.1⟩
  ·exact⟨_,hr⟩
 ·obtain⟨vs,e⟩:=cN h.ho.2 hx
  exact⟨_,e⟩
 ·obtain⟨vs,e⟩:=cN h.no.2 hx
  exact⟨_,e⟩
def El {C a x:Addr} {H:Hp} {S:cB} {o:Ow} (h:bZ C H a S o) (hx:H x=none):x∉own a o:=fun z=>by
 obtain⟨u,e⟩:=Nh h z;rw[hx] at e;cases e
def GW {hs:List (Str×List (Int×Str))} {as:List Addr} {H:Hp} {x:Addr} {vs:List V} (hL:cy H Kp (hs.map (·.2)) as) (hx:x∈as) (hH:H x=some (.lst vs)) (hb:∀q∈hs,q.2.length<=1000000):vs.length<=1000000:=by
 induction hs generalizing as with
 | nil=>unfold cy at hL;rw[hL] at hx;simp at hx
 | cons q r ih=>
  rw[zj] at hL;obtain⟨a,t,us,rfl,h1,h2,h3⟩:=hL;rcases zD.mp hx with rfl | hx
  ·rw[h1] at hH;cases hH
   have:=aT h2;have:=hb q zr;omega
  ·exact ih h3 hx fun q hq=>hb q (zp _ hq)
def F8:aF ["score","told"] ["score","told"] (aq Ad):=dH
def GJ {C:Addr} (F:Cf K C):di P w base 1 T.Bi (F3 C):=by
 nomatch T.Bi,F8
 obtain⟨a,S,o,v,pn,b,i,rfl,sc,iv,⟨nk,hl,hb⟩,kk⟩:=h;obtain⟨a1,rfl,h1⟩:=Kh iv;have sl:=yC;obtain⟨ub,jm,ho,hub,hjm⟩:=sc.obj;have em:(S.holds.map fun x=>kS x.1)=(S.holds.map (·.1)).map kS:=by rw[zB];rfl
 have ll:(o.hs.map V.ref).length=(S.holds.map (·.1)).length:=by rw[za,za,pQ sc.ho.2,za]
 dsimp only at h1;refine⟨_,(ag (aJ (bF (C0 (iI hr) (bO (pv 1) ae) (bP (pv 0) rfl)))
  (ak (pL (iI hr) (bP (pv 0) rfl) (bO (pv 1) ae) (bB af) rfl))
  aD)
  (ak (bJ (bY yD yF yE bH (Ej (iI hr) (bP (pv 0) rfl) (bO (pv 1) ae) (fun _ _=>rfl)) (ah (bG (ah (bO (pv 1) ae) (ah (bO (pv 1) ae) af))) af))))),?_⟩
 ac_rfl;exists a,C,o.dx,_,_,rfl,ho,F.cls,F.holds,rfl,?_;refine⟨o.ho,_,rfl,.inl ⟨_,kS pn,.inl sc.ho.1,rfl,rfl⟩,?_⟩;rw[em,sr pn ll]
 by_cases c1:pn∈S.holds.map (·.1)
 ·rw[zg c1]
  obtain⟨x,us,e1,e2,e3,e4⟩:=sc.pO nk c1;exists a,C,o.dx,_,_,rfl,ho,F.cls,F.holds,rfl,?_;exists o.ho,_,rfl,.inl ⟨_,kS pn,.inl sc.ho.1,rfl,e1.symm⟩,?_;refine⟨.inl ⟨rfl,us,aL.of e3⟩,?_⟩;exists cT,?_;intros p2 H2 s2 h2;refine⟨x,us,_,rfl,rfl,s2 _ _ e3,?_,?_⟩
  ·have:=GW sc.ho.2 e2 e3 hb
   omega
  ·obtain⟨x',us',f1,f2,f3,f4⟩:=(sc.mono s2).pO nk c1
   have ex:x=x':=by rw[f1] at e1;cases e1;rfl
   subst ex;have eu:us=us':=by have:=s2 _ _ e3;rw[f3] at this;cases this;rfl
   subst eu;change kk _ o (f4 _ b i (cK h2 (aQ cX (aQ e9 cO)))) ((xH.of s2).trans (xH.upd (tV (by unfold Ow.lists;simp[e2])))) fun y hy=>.inl hy
 ·rw[ze c1]
  exists by show 0<=sizeLine;omega,?_
  intro p1 n1;have s1:aB H (upd H p1 (.lst [])):=aS n1;have g1:upd H p1 (.lst []) p1=some (.lst []):=aC;generalize upd H p1 (.lst [])=H1 at s1 g1 ⊢;have sc1:=sc.mono s1;have h11:=s1 _ _ h1;have nl:p1∉o.lists:=fun z=>El sc n1 (tV z);exists a,C,o.dx,_,_,rfl,s1 _ _ ho,F.cls,F.holds,rfl,?_;left;refine⟨o.ho,_,rfl,.inl ⟨_,kS pn,sc1.ho.1,rfl,?_,rfl⟩,?_⟩
  ·rw[List.length_zip,za];omega
  have sc2:=sc1.Nj g1 nl c1;have nt1:cM (H1 o.ho):=by rw[sc1.ho.1];exact fun _ z=>by cases z
  have h12:upd H1 o.ho (.dK (putK ((S.holds.map fun x=>kS x.1).zip (o.hs.map V.ref)) (kS pn) (.ref p1))) a1=some (.tup [V.str pn,V.int b,V.str i]):=by rw[aH (Sc.bq h11 sc1.ho.1 (by simp[kindOf]))];exact h11
  have el:xH (own a o) H (upd H1 o.ho (.dK (putK ((S.holds.map fun x=>kS x.1).zip (o.hs.map V.ref)) (kS pn) (.ref p1)))):=(xH.of s1).trans (xH.upd (by unfold own;simp));generalize upd H1 o.ho (.dK (putK ((S.holds.map fun x=>kS x.1).zip (o.hs.map V.ref)) (kS pn) (.ref p1)))=H3 at sc2 h12 el ⊢;obtain⟨ub2,jm2,ho2,_,_⟩:=sc2.obj;have nk2:(({S with holds:=S.holds++[(pn,[])]}:cB).holds.map (·.1)).Nodup:=by
   show((S.holds++[(pn,[])]).map fun x:Str×List (Int×Str)=>x.1).Nodup;rw[zk,zT];exact⟨nk,by simp,fun x hx y hy e=>by simp at hy;subst hy;subst e;exact c1 hx⟩
  have c2:pn∈({S with holds:=S.holds++[(pn,[])]}:cB).holds.map (·.1):=by
   show pn∈(S.holds++[(pn,[])]).map fun x:Str×List (Int×Str)=>x.1;rw[zk];exact zI _ (zA.mpr rfl)
  obtain⟨x,us,e1,e2,e3,e4⟩:=sc2.pO nk2 c2;have hb2:∀q∈S.holds++[((pn,[]):Str×List (Int×Str))],q.2.length<=1000000:=fun q hq=>by
   rcases zG.mp hq with z | z
   ·exact hb q z
   ·rw[zA.mp z];exact yg _
  exists a,C,_,_,_,rfl,ho2,F.cls,F.holds,rfl,?_;exists o.ho,_,rfl,.inl ⟨_,kS pn,.inl sc2.ho.1,rfl,e1.symm⟩,?_;refine⟨.inl ⟨rfl,us,aL.of e3⟩,?_⟩;exists cT,?_;intros p2 H4 s4 h4;refine⟨x,us,_,rfl,rfl,s4 _ _ e3,?_,?_⟩
  ·have:=GW sc2.ho.2 e2 e3 hb2
   omega
  ·obtain⟨x',us',f1,f2,f3,f4⟩:=(sc2.mono s4).pO nk2 c2
   have ex:x=x':=by rw[f1] at e1;cases e1;rfl
   subst ex;have eu:us=us':=by have:=s4 _ _ e3;rw[f3] at this;cases this;rfl
   subst eu;left;have ea:bS {S with holds:=S.holds++[(pn,[])]} (.holds pn b i)=bS S (.holds pn b i):=by
    show({S with holds:=fw (S.holds++[(pn,[])]) pn (b,i)}:cB)={S with holds:=fw S.holds pn (b,i)};rw[HN c1]
   have sf:=f4 _ b i (cK h4 (aQ cX (aQ e9 cO)));rw[ea] at sf;have xin:x∈o.hs\/x=p1:=by
    have:x∈o.hs++[p1]:=e2;rw[zG,zA] at this;exact this
   refine kk _ _ sf (fun y u ny hy=>?_) fun y hy=>?_
   ·have hy4:=s4 _ _ (el y u ny hy)
    rw[aH]
    ·exact hy4
    ·intro z
     subst z;rcases xin with z | z
     ·exact ny (tV (by unfold Ow.lists;simp[z]))
     ·subst z;rw[n1] at hy;cases hy
   ·have:y∈own a o\/y=p1:=by
     unfold own at hy ⊢;simp only[zG,zD,zE,or_false] at hy ⊢;rcases hy with(hy | hy | hy) | hy
     ·exact .inl (.inl (.inl hy))
     ·exact .inl (.inl (.inr hy))
     ·exact .inr hy
     ·exact .inl (.inr hy)
    rcases this with z | z
    ·exact .inl z
    ·subst z;exact .inr n1
def vJ (S:cB):Prop:=S.players.length<=1000000/\S.ao.length<=1000000/\S.aM.length<=1000000/\S.aO.length<=1000000/\S.aK.length<=1000000/\S.repeats.length<=1000000
inductive Iz (C:Addr) (vs:List V) (H:Hp) (Q:VK) (E:XK):Prop
 | mk (a:Addr) (S:cB) (o:Ow) (v:V) (H0:Hp) (t:Told) (_:vs=[.ref a,.str (qZ t),v]) (_:bZ C H0 a S o) (_:aB H0 H) (_:gW H0 H v (some t)) (_:fault S t=none) (_:sg S) (_:vJ S) (_:∀H' o',bZ C H' a (bS S t) o'->xH (own a o) H H'->(∀x∈own a o',x∈own a o\/H0 x=none)->Q .bR H')
def EG {c:Prop} [Decidable c] {x:Str} {y:Option Str} (h:(if c then some x else y)=none):¬c/\y=none:=by
 by_cases e:c
 ·rw[if_pos e] at h;cases h
 ·rw[if_neg e] at h;exact⟨e,h⟩
theorem wx {H:Hp}:∀l:List Str,aE H (l.map Dt.str) (l.map V.str)
 | []=>cO
 | x::r=>aQ e9 (wx r)
def IF:aF ["score","sort","told"] ["score","sort","told"] (aq CV):=dH
def IT {C:Addr} (F:Cf K C):di P w base 2 T.Fg (Iz C):=by
 nomatch T.Fg,IF
 obtain⟨a,S,o,v,H0,t,rfl,sc0,s0,tv,fn,cm,⟨z1,z2,z3,z4,z5,z6⟩,kk⟩:=h;have sl:=yC;have sc:=sc0.mono s0;obtain⟨ub,jm,ho,hub,hjm⟩:=sc.obj;have me:∀x∈own a o,x∈own a o\/H0 x=none:=fun x hx=>.inl hx;refine⟨_,(ak (aJ (ptr dj (pv 1) aN)
  (ak (bJ (bY yD yF yE bH (bP (pv 0) rfl) (ah (pv 2) af))))
  (ak (aJ (ptr dj (pv 1) aN)
   (ak (pL (iI hr) (bP (pv 0) rfl) (bO (pv 2) ae) (bG (ah (bO (pv 2) ae) (ah (bO (pv 2) ae) af))) rfl))
   (ak (aJ (ptr dj (pv 1) aN)
    (ak (pL (iI hr) (bP (pv 0) rfl) (bO (pv 2) ae) (bO (pv 2) ae) rfl))
    (ak (aJ (ptr dj (pv 1) aN)
     (ak (bJ (bY yD yF yE bH (bP (pv 0) rfl) (ah (pv 2) af))))
     (ak (aJ (ptr dj (pv 1) aN)
      (ak (jQ (pv 0) (pv 2) rfl))
      (ak (aJ (ptr dj (pv 1) aN)
       (ak (bJ (bK (GJ T F) hr T.Bi (ah (pv 0) (ah (pv 2) af)))))
       (ak (aJ (ptr dj (pv 1) aN)
        (ak (pL (iI hr) (bP (pv 0) rfl) (bG (ah (bO (pv 2) ae) (ah (bO (pv 2) ae) af))) (bO (pv 2) ae) rfl))
        (ak (aJ (ptr dj (pv 1) aN)
         (ak (bJ (bY yD yF yE bH (bP (pv 0) rfl) (ah (pv 2) af))))
         (ak (jQ (pv 0) (pv 2) rfl)))))))))))))))))),?_⟩
 ac_rfl;cases t with
 | bN n=>
  have e:v=.str n:=tv;subst e;exists a,C,o.dx,_,_,rfl,ho,F.cls,F.players,rfl,?_;refine⟨.inl ⟨rfl,_,aL.of sc.pl⟩,?_⟩;exists o.pl,_,_,rfl,rfl,sc.pl,by rw[za];omega,?_
  change kk _ o (sc.JD n) (xH.upd (by unfold own;simp)) me
 | cQ n t l=>
  obtain⟨a1,t1,l1,rfl,h1,it,il⟩:=GY (x:=(n,t,l)) tv;have fr:=(EG fn).1;exists cT,?_;intros p2 H2 s2 h2;have sc2:=sc.mono s2;have h12:=s2 _ _ h1;obtain⟨vs,hv,ilv⟩:=sc2.ins;exists a,C,o.dx,_,_,rfl,s2 _ _ ho,F.cls,F.ao,rfl,?_;left;refine⟨o.ins,_,rfl,.inl ⟨_,kS n,hv,rfl,?_,rfl⟩,?_⟩
  ·rw[List.length_zip,za];omega
  exact kk _ o (sc2.LU hv ilv (cK h2 (aQ (it.mono s2) (aQ (il.mono s2) cO))) fr) ((xH.of s2).trans (xH.upd (by unfold own;simp))) me
 | cC n ps=>
  obtain⟨a1,q,rfl,h1,hq⟩:=FW (x:=(n,ps)) tv;have fr:=(EG fn).1;obtain⟨vs,hv,ilv⟩:=sc.st;exists a,C,o.dx,_,_,rfl,ho,F.cls,F.aM,rfl,?_;left;refine⟨o.st,_,rfl,.inl ⟨_,kS n,hv,rfl,?_,rfl⟩,?_⟩
  ·rw[List.length_zip,za];omega
  exact kk _ o (sc.LR hv ilv (by unfold Px og;exact cK hq (wx ps)) fr) (xH.upd (by unfold own;simp)) me
 | bar b=>
  obtain⟨vs,hv,ilv⟩:=sc.ba;have vl:=aT ilv;exists a,C,o.dx,_,_,rfl,ho,F.cls,F.aO,rfl,?_;refine⟨.inl ⟨rfl,_,aL.of hv⟩,?_⟩;exists o.ba,_,_,rfl,rfl,hv,nofun,?_;change kk _ o (sc.PD hv ilv tv) (xH.upd (by unfold own;simp)) me
 | aI l=>
  exists a,C,o.dx,_,rfl,ho,F.cls,F.aI,(by show 9<1000;decide),?_;exact kk _ o (sc.JC ho hjm tv) (xH.upd (by unfold own;simp)) me
 | holds p b i=>
  change⟨a,S,o,v,p,b,i,rfl,sc,tv,cm,fun H' o' s' e' n'=>kk H' o' s' e' fun x hx=>(n' x hx).imp id fun z=>s0.back z⟩
 | aK b p its=>
  obtain⟨a1,q,us,rfl,h1,hq,ilq,nq⟩:=tv;have fr:=(EG fn).1;have nl:q∉o.lists:=fun z=>El sc0 nq (tV z);exists a,C,o.dx,_,_,rfl,ho,F.cls,F.aK,rfl,?_;exists cT,?_;intros p2 H2 s2 h2;have sc2:=sc.mono s2;refine⟨o.no,_,rfl,.inr ⟨_,kN (b,p),p2,sc2.no.1,rfl,h2,?_,rfl⟩,?_⟩
  ·rw[List.length_zip,za];omega
  refine kk _ _ (sc2.LS (s2 _ _ hq) (ilq.mono s2) nl fr) ((xH.of s2).trans (xH.upd (by unfold own;simp))) fun x hx=>?_;have:x∈own a o\/x=q:=by
   unfold own at hx ⊢;simp only[zG,zD,zE,or_false] at hx ⊢;rcases hx with hx | hx | hx
   ·exact .inl (.inl hx)
   ·exact .inl (.inr hx)
   ·exact .inr hx
  rcases this with z | z
  ·exact .inl z
  ·subst z;exact .inr nq
 | rep r=>
  obtain⟨vs,hv,ilv⟩:=sc.re;have vl:=aT ilv;exists a,C,o.dx,_,_,rfl,ho,F.cls,F.repeats,rfl,?_;refine⟨.inl ⟨rfl,_,aL.of hv⟩,?_⟩;exists o.re,_,_,rfl,rfl,hv,nofun,?_;change kk _ o (sc.Pz hv ilv tv) (xH.upd (by unfold own;simp)) me
 | b9 j=>
  exists a,C,o.dx,_,rfl,ho,F.cls,F.b9,(by show 9<1000;decide),?_;exact kk _ o (sc.Ob ho hub tv) (xH.upd (by unfold own;simp)) me
def gO {H:Hp} {a C dx p:Addr} {fs fs':List (Str×V)} {u:HO} (ha:H a=some (.ins C dx fs)) (np:H p=none) :
  upd (upd H p u) a (.ins C dx fs') a=some (.ins C dx fs')/\upd (upd H p u) a (.ins C dx fs') p=some u/\∀b v,H b=some v->b≠a->upd (upd H p u) a (.ins C dx fs') b=some v:=by
 have na:p≠a:=fun z=>by rw[z,ha] at np;cases np
 refine⟨aC,by rw[aH na,aC],fun b v hb ne=>?_⟩;rw[aH ne,aH (fun z=>by rw[z,np] at hb;cases hb)];exact hb
def Dd {H:Hp} {a C dx:Addr} {fs':List (Str×V)}:upd H a (.ins C dx fs') a=some (.ins C dx fs')/\∀b v,H b=some v->b≠a->upd H a (.ins C dx fs') b=some v:=
 ⟨aC,fun b v hb ne=>by rw[aH ne];exact hb⟩
inductive BQ (C:Addr) (vs:List V) (H:Hp) (Q:VK) (E:XK):Prop
 | mk (a dx:Addr) (_:vs=[.ref a]) (_:H a=some (.ins C dx [])) (_:∀H' o,bZ C H' a {} o->(∀b u,H b=some u->b≠a->H' b=some u)->(∀x∈own a o,x=a\/H x=none)->Q .bR H')
def B0:aF ["self"] ["self"] (aq tq):=dH
def Cc {C:Addr} (F:Cf K C):dU P w K mg base Ie 1 T.mW T.uk ["self"] (BQ C):=by
 refine T.By.F.To B0 fun _ _ _ _ H vs Q E hr h=>?_
 ·obtain⟨a,dx,rfl,ha,kk⟩:=h
  have sl:=yC;refine⟨_,ag (jQ (pv 0) (bB af) rfl) (ag (jQ (pv 0) o9 rfl) (ag (jQ (pv 0) o9 rfl) (ag (jQ (pv 0) (bB af) rfl) (ag (jQ (pv 0) aW rfl) (ag (jQ (pv 0) o9 rfl) (ag (jQ (pv 0) Nf rfl) (ag (jQ (pv 0) (bB af) rfl) (ak (jQ (pv 0) aW rfl))))))))),?_⟩;refine⟨by show 0<=sizeLine;omega,fun p1 n1=>?_⟩;refine⟨_,rfl,a,C,dx,[],rfl,(by rw[aH (fun z=>by rw[<-z,ha] at n1;cases n1)];exact ha),F.cls,F.players,(by show 0<1000;decide),?_⟩;obtain⟨a1,q1,k1⟩:=gO (u:=.lst []) (fs':=bc "players" (.ref p1) []) ha n1;generalize upd (upd H p1 (.lst [])) a (.ins C dx (bc "players" (.ref p1) []))=H1 at a1 q1 k1 ⊢;refine fun p2 n2=>⟨_,rfl,a,C,dx,_,rfl,(by rw[aH (fun z=>by rw[<-z,a1] at n2;cases n2)];exact a1),F.cls,F.ao,(by show 1<1000;decide),?_⟩
  obtain⟨a2,q2,k2⟩:=gO (u:=.dK []) (fs':=(bc "instruments" (.ref p2) (bc "players" (.ref p1) []))) a1 n2;generalize upd (upd H1 p2 (.dK [])) a (.ins C dx (bc "instruments" (.ref p2) (bc "players" (.ref p1) [])))=H2 at a2 q2 k2 ⊢;refine fun p3 n3=>⟨_,rfl,a,C,dx,_,rfl,(by rw[aH (fun z=>by rw[<-z,a2] at n3;cases n3)];exact a2),F.cls,F.aM,(by show 2<1000;decide),?_⟩
  obtain⟨a3,q3,k3⟩:=gO (u:=.dK []) (fs':=(bc "staffs" (.ref p3) (bc "instruments" (.ref p2) (bc "players" (.ref p1) [])))) a2 n3;generalize upd (upd H2 p3 (.dK [])) a (.ins C dx (bc "staffs" (.ref p3) (bc "instruments" (.ref p2) (bc "players" (.ref p1) []))))=H3 at a3 q3 k3 ⊢;refine⟨by show 0<=sizeLine;omega,fun p4 n4=>⟨_,rfl,a,C,dx,_,rfl,(by rw[aH (fun z=>by rw[<-z,a3] at n4;cases n4)];exact a3),F.cls,F.aO,(by show 3<1000;decide),?_⟩⟩;obtain⟨a4,q4,k4⟩:=gO (u:=.lst []) (fs':=(bc "bars" (.ref p4) (bc "staffs" (.ref p3) (bc "instruments" (.ref p2) (bc "players" (.ref p1) []))))) a3 n4;generalize upd (upd H3 p4 (.lst [])) a (.ins C dx (bc "bars" (.ref p4) (bc "staffs" (.ref p3) (bc "instruments" (.ref p2) (bc "players" (.ref p1) [])))))=H4 at a4 q4 k4 ⊢;refine⟨_,rfl,a,C,dx,_,rfl,a4,F.cls,F.aI,(by show 4<1000;decide),?_⟩;obtain⟨a5,k5⟩:=Dd (H:=H4) (a:=a) (C:=C) (dx:=dx) (fs':=(bc "upbeat" .bR (bc "bars" (.ref p4) (bc "staffs" (.ref p3) (bc "instruments" (.ref p2) (bc "players" (.ref p1) []))))));generalize upd H4 a (.ins C dx (bc "upbeat" .bR (bc "bars" (.ref p4) (bc "staffs" (.ref p3) (bc "instruments" (.ref p2) (bc "players" (.ref p1) []))))))=H5 at a5 k5 ⊢;refine fun p6 n6=>⟨_,rfl,a,C,dx,_,rfl,(by rw[aH (fun z=>by rw[<-z,a5] at n6;cases n6)];exact a5),F.cls,F.holds,(by show 5<1000;decide),?_⟩
  obtain⟨a6,q6,k6⟩:=gO (u:=.dK []) (fs':=(bc "holds" (.ref p6) (bc "upbeat" .bR (bc "bars" (.ref p4) (bc "staffs" (.ref p3) (bc "instruments" (.ref p2) (bc "players" (.ref p1) []))))))) a5 n6;generalize upd (upd H5 p6 (.dK [])) a (.ins C dx (bc "holds" (.ref p6) (bc "upbeat" .bR (bc "bars" (.ref p4) (bc "staffs" (.ref p3) (bc "instruments" (.ref p2) (bc "players" (.ref p1) [])))))))=H6 at a6 q6 k6 ⊢;refine fun p7 n7=>⟨_,rfl,a,C,dx,_,rfl,(by rw[aH (fun z=>by rw[<-z,a6] at n7;cases n7)];exact a6),F.cls,F.aK,(by show 6<1000;decide),?_⟩
  obtain⟨a7,q7,k7⟩:=gO (u:=.dT []) (fs':=(bc "notes" (.ref p7) (bc "holds" (.ref p6) (bc "upbeat" .bR (bc "bars" (.ref p4) (bc "staffs" (.ref p3) (bc "instruments" (.ref p2) (bc "players" (.ref p1) [])))))))) a6 n7;generalize upd (upd H6 p7 (.dT [])) a (.ins C dx (bc "notes" (.ref p7) (bc "holds" (.ref p6) (bc "upbeat" .bR (bc "bars" (.ref p4) (bc "staffs" (.ref p3) (bc "instruments" (.ref p2) (bc "players" (.ref p1) []))))))))=H7 at a7 q7 k7 ⊢;refine⟨by show 0<=sizeLine;omega,fun p8 n8=>⟨_,rfl,a,C,dx,_,rfl,(by rw[aH (fun z=>by rw[<-z,a7] at n8;cases n8)];exact a7),F.cls,F.repeats,(by show 7<1000;decide),?_⟩⟩;obtain⟨a8,q8,k8⟩:=gO (u:=.lst []) (fs':=(bc "repeats" (.ref p8) (bc "notes" (.ref p7) (bc "holds" (.ref p6) (bc "upbeat" .bR (bc "bars" (.ref p4) (bc "staffs" (.ref p3) (bc "instruments" (.ref p2) (bc "players" (.ref p1) []))))))))) a7 n8;generalize upd (upd H7 p8 (.lst [])) a (.ins C dx (bc "repeats" (.ref p8) (bc "notes" (.ref p7) (bc "holds" (.ref p6) (bc "upbeat" .bR (bc "bars" (.ref p4) (bc "staffs" (.ref p3) (bc "instruments" (.ref p2) (bc "players" (.ref p1) [])))))))))=H8 at a8 q8 k8 ⊢;refine⟨_,rfl,a,C,dx,_,rfl,a8,F.cls,F.b9,(by show 8<1000;decide),?_⟩;obtain⟨a9,k9⟩:=Dd (H:=H8) (a:=a) (C:=C) (dx:=dx) (fs':=(bc "jump" .bR (bc "repeats" (.ref p8) (bc "notes" (.ref p7) (bc "holds" (.ref p6) (bc "upbeat" .bR (bc "bars" (.ref p4) (bc "staffs" (.ref p3) (bc "instruments" (.ref p2) (bc "players" (.ref p1) []))))))))));generalize upd H8 a (.ins C dx (bc "jump" .bR (bc "repeats" (.ref p8) (bc "notes" (.ref p7) (bc "holds" (.ref p6) (bc "upbeat" .bR (bc "bars" (.ref p4) (bc "staffs" (.ref p3) (bc "instruments" (.ref p2) (bc "players" (.ref p1) []))))))))))=H9 at a9 k9 ⊢;have e1:p1≠a:=fun z=>by rw[z,ha] at n1;cases n1
  have g1:=k9 _ _ (k8 _ _ (k7 _ _ (k6 _ _ (k5 _ _ (k4 _ _ (k3 _ _ (k2 _ _ (q1) e1) e1) e1) e1) e1) e1) e1) e1;have e2:p2≠a:=fun z=>by rw[z,a1] at n2;cases n2
  have g2:=k9 _ _ (k8 _ _ (k7 _ _ (k6 _ _ (k5 _ _ (k4 _ _ (k3 _ _ (q2) e2) e2) e2) e2) e2) e2) e2;have e3:p3≠a:=fun z=>by rw[z,a2] at n3;cases n3
  have g3:=k9 _ _ (k8 _ _ (k7 _ _ (k6 _ _ (k5 _ _ (k4 _ _ (q3) e3) e3) e3) e3) e3) e3;have e4:p4≠a:=fun z=>by rw[z,a3] at n4;cases n4
  have g4:=k9 _ _ (k8 _ _ (k7 _ _ (k6 _ _ (k5 _ _ (q4) e4) e4) e4) e4) e4;have e6:p6≠a:=fun z=>by rw[z,a5] at n6;cases n6
  have g6:=k9 _ _ (k8 _ _ (k7 _ _ (q6) e6) e6) e6;have e7:p7≠a:=fun z=>by rw[z,a6] at n7;cases n7
  have g7:=k9 _ _ (k8 _ _ (q7) e7) e7;have e8:p8≠a:=fun z=>by rw[z,a7] at n8;cases n8
  have g8:=k9 _ _ (q8) e8;have kH:∀b v,H b=some v->b≠a->H9 b=some v:=fun b v hb ne=>k9 _ _ (k8 _ _ (k7 _ _ (k6 _ _ (k5 _ _ (k4 _ _ (k3 _ _ (k2 _ _ (k1 _ _ hb ne) ne) ne) ne) ne) ne) ne) ne) ne;have f1:H p1=none:=n1;have f2:H p2=none:=by
   cases q:H p2 with
   | none=>rfl
   | some v=>have z:=q;rw[show H1 p2=some v from k1 _ _ z e2] at n2;cases n2
  have f3:H p3=none:=by
   cases q:H p3 with
   | none=>rfl
   | some v=>have z:=q;rw[show H2 p3=some v from k2 _ _ (k1 _ _ z e3) e3] at n3;cases n3
  have f4:H p4=none:=by
   cases q:H p4 with
   | none=>rfl
   | some v=>have z:=q;rw[show H3 p4=some v from k3 _ _ (k2 _ _ (k1 _ _ z e4) e4) e4] at n4;cases n4
  have f6:H p6=none:=by
   cases q:H p6 with
   | none=>rfl
   | some v=>have z:=q;rw[show H5 p6=some v from k5 _ _ (k4 _ _ (k3 _ _ (k2 _ _ (k1 _ _ z e6) e6) e6) e6) e6] at n6;cases n6
  have f7:H p7=none:=by
   cases q:H p7 with
   | none=>rfl
   | some v=>have z:=q;rw[show H6 p7=some v from k6 _ _ (k5 _ _ (k4 _ _ (k3 _ _ (k2 _ _ (k1 _ _ z e7) e7) e7) e7) e7) e7] at n7;cases n7
  have f8:H p8=none:=by
   cases q:H p8 with
   | none=>rfl
   | some v=>have z:=q;rw[show H7 p8=some v from k7 _ _ (k6 _ _ (k5 _ _ (k4 _ _ (k3 _ _ (k2 _ _ (k1 _ _ z e8) e8) e8) e8) e8) e8) e8] at n8;cases n8
  have d14:p1≠p4:=fun z=>by have h:=k3 _ _ (k2 _ _ (q1) e1) e1;rw[z,n4] at h;cases h
  have d18:p1≠p8:=fun z=>by have h:=k7 _ _ (k6 _ _ (k5 _ _ (k4 _ _ (k3 _ _ (k2 _ _ (q1) e1) e1) e1) e1) e1) e1;rw[z,n8] at h;cases h
  have d48:p4≠p8:=fun z=>by have h:=k7 _ _ (k6 _ _ (k5 _ _ (q4) e4) e4) e4;rw[z,n8] at h;cases h
  have d23:p2≠p3:=fun z=>by have h:=q2;rw[z,n3] at h;cases h
  have d26:p2≠p6:=fun z=>by have h:=k5 _ _ (k4 _ _ (k3 _ _ (q2) e2) e2) e2;rw[z,n6] at h;cases h
  have d36:p3≠p6:=fun z=>by have h:=k5 _ _ (k4 _ _ (q3) e3) e3;rw[z,n6] at h;cases h
  refine kk H9 ⟨dx,p1,p2,p3,p4,p6,p7,p8,[],[]⟩ ⟨⟨.bR,.bR,a9,d8,d8⟩,g1,⟨[],g2,cO⟩,⟨[],g3,cO⟩,⟨[],g4,cO⟩,⟨g6,rfl⟩,⟨g7,rfl⟩,⟨[],g8,cO⟩,?_,?_⟩ kH fun x hx=>?_
  ·show [p1,p4,p8].Nodup
   simp[d14,d18,d48]
  ·show [p2,p3,p6].Nodup
   simp[d23,d26,d36]
  ·have hx':x∈[a,p1,p2,p3,p4,p6,p7,p8]:=by simpa[own] using hx
   simp only[zD,zE,or_false] at hx';rcases hx' with rfl | rfl | rfl | rfl | rfl | rfl | rfl | rfl
   ·exact .inl rfl
   ·exact .inr f1
   ·exact .inr f2
   ·exact .inr f3
   ·exact .inr f4
   ·exact .inr f6
   ·exact .inr f7
   ·exact .inr f8
inductive RT:List Str->List Told->Prop where
 | nil:RT [] []
 | blank {r:Str} {rs:List Str} {ts:List Told}:r.length<=1000000->words r=[]->RT rs ts->RT (r::rs) ts
 | row {r:Str} {t:Told} {rs:List Str} {ts:List Told}:r.length<=1000000->words r=wordsOf t->Qg t->(wordsOf t).length<=1000000->(∀y∈wordsOf t,y.length<=600)->RT rs ts->RT (r::rs) (t::ts)
def Runs:cB->List Told->cB->Prop
 | S,[],S'=>S=S'
 | S,t::r,S'=>fault S t=none/\RJ S t/\sg S/\vJ S/\Runs (bS S t) r S'
def KZ (t:Told):∃ws,wordsOf t=qZ t::ws:=by cases t <;> exact⟨_,rfl⟩
inductive BJ (C:Addr) (vs:List V) (H:Hp) (Q:VK) (E:XK):Prop
 | mk (t:Str) (ts:List Told) (S:cB) (_:vs=[.str t]) (_:t.length+2<=sizeLine) (_:RT (Txt.split t "\n") ts) (_:Runs {} ts S) (_:∀a o H',bZ C H' a S o->aB H H'->(∀x∈own a o,H x=none)->Q (.ref a) H')
theorem KP {H0 H H':Hp} {v:V} (s:aB H H'):∀{t:Option Told},gW H0 H v t->gW H0 H' v t
 | none,h=>h
 | some (.bN _),h=>h
 | some (.cQ _ _ _),h=>Is.mono s h
 | some (.cC _ _),h=>Is.mono s h
 | some (.bar _),h=>Is.mono s h
 | some (.aI _),h=>Is.mono s h
 | some (.holds _ _ _),h=>Is.mono s h
 | some (.aK _ _ _),⟨a,q,vs,h1,h2,h3,h4,h5⟩=>⟨a,q,vs,h1,s _ _ h2,s _ _ h3,h4.mono s,h5⟩
 | some (.rep _),h=>Is.mono s h
 | some (.b9 _),h=>Is.mono s h
def dS:aF ["text","score","place","row","words","told","word"] ["text"] (aq sR):=dH
def B6 (B:Dk P w K T) (F:Cf K T.mU):di P w base 8 T.rD (BJ T.mU):=by
 nomatch T.rD,dS
 obtain⟨t,ts,S,rfl,tl,rt,run,kk⟩:=h;have sl:=yC;refine⟨_,(ag (bT 1 dS.nd (Nb T.PJ (Cc T F) (hr.mono ∅) rfl T.OA T.By.b .nil J9))
  (ag (cE PassesOwn.never rfl (xI (by rfl) T.kF (ah (bY yG yK yJ jW (pv 0) (ah aN af)) af)) (d6 (n:=2) rfl (aP (jR 2 dS.nd) (aP (jR 3 dS.nd) dq)))
  (ag (bT 4 dS.nd (bK (Gz T) hr T.words_of (ah (pv 3) af)))
   (ak (aJ (ptr fI (eQ aG T.bC (ah (pv 4) af)) ae)
   (ag (bT 5 dS.nd (bK (GB T B) hr T.Am (ah (pv 4) af)))
    (ag (bT 6 dS.nd (bK (GG T B F) hr T.AN (ah (pv 1) (ah (gd (pv 4) ae) (ah (pv 5) af)))))
    (ag (aJ (bF (gr (pv 6)))
    (ak Gp)
    aD)
    (ak (bJ (bK (IT T F) hr T.Fg (ah (pv 1) (ah (gd (pv 4) ae) (ah (pv 5) af)))))))))
   aD))))
  (ak (au (pv 1))))),?_⟩
 ac_rfl;intro a dx na ndx ne;refine⟨a,dx,rfl,aC,fun H1 o sc1 k1 fr1=>⟨rfl,?_⟩⟩;have s1:aB H H1:=fun b u hb=>k1 b u (by rw[aH (fun z=>by rw[z,na] at hb;cases hb),aH (fun z=>by rw[z,ndx] at hb;cases hb)];exact hb) (fun z=>by rw[z,na] at hb;cases hb);have f1:∀x∈own a o,H x=none:=fun x hx=>by
  rcases fr1 x hx with z | z
  ·rw[z];exact na
  ·cases q:H x with
   | none=>rfl
   | some u=>
    rw[aH (fun y=>by rw[y,na] at q;cases q),aH (fun y=>by rw[y,ndx] at q;cases q),q] at z;cases z
 exists tl,fun l nl=>?_;have s2:aB H1 (upd H1 l (.lst ((Txt.split t "\n").map V.str))):=aS nl;have h2:upd H1 l (.lst ((Txt.split t "\n").map V.str)) l=some (.lst ((Txt.split t "\n").map V.str)):=aC;generalize upd H1 l (.lst ((Txt.split t "\n").map V.str))=H2 at s2 h2 ⊢;generalize hrows:Txt.split t "\n"= rows at rt h2;exists l,_,rfl,aL.of h2,?_;refine ue (K:=K) (a:=l) (xs:=rows.map V.str) (fun i σ H'=>∃ts' S' o',RT (rows.drop i) ts'/\Runs S' ts' S/\bZ T.mU H' a S' o'/\H' l=some (.lst (rows.map V.str))/\l∉own a o'/\aB H H'/\(∀x∈own a o',H x=none)/\∃u2 u3 u4 u5 u6,σ=[some (.str t),some (.ref a),u2,u3,u4,u5,u6])
  ⟨ts,{},o,rt,run,sc1.mono s2,h2,El sc1 nl,s1.trans s2,f1,none,none,none,none,none,rfl⟩ (fun i σ H' _ h=>by obtain⟨_,_,_,_,_,_,h,_⟩:=h;exact aL.of h) ?_ ?_
 ·intro i x σ H3 p H4 hx hh s34 hp4
  refine df fun N kN0 kR0 _ _=>?_;obtain⟨ts',S',o',rt',run',sc3,hl3,nl3,s3,f3,u2,u3,u4,u5,u6,rfl⟩:=hh;rw[zK] at hx;cases qr:rows[i]? with
  | none=>rw[qr] at hx;cases hx
  | some r=>
  rw[qr] at hx;simp only[Option.map_some,Option.some.injEq] at hx;subst hx;have ed:rows.drop i=r::rows.drop (i+1):=by
   have hi:=(zy.mp qr).1;rw[List.drop_eq_getElem_cons hi];have:=(zy.mp qr).2;rw[this]
  rw[ed] at rt';have s4:=s3.trans s34;have sc4:=sc3.mono s34;cases rt' with
  | blank rl rw0 rt''=>
   refine⟨p,_,rfl,dB.of hp4,rfl,?_⟩;refine⟨_,_,rfl,⟨_,_,rfl,⟨rfl,?_⟩⟩⟩;exists rl,fun p5 H5 s5 h5=>?_;rw[rw0] at h5;exists p5,_,rfl,.inl (aL.of h5),?_;left;have s05:=s4.trans s5;exact⟨ts',S',o',rt'',run',sc4.mono s5,s5 _ _ (s34 _ _ hl3),nl3,s05,f3,_,_,_,_,_,rfl⟩
  | row rl rw0 tok wl ws6 rt''=>
   rename_i t' ts'';obtain⟨fn,fit,hd,sz,run''⟩:=run';obtain⟨ws,ew⟩:=KZ t';refine⟨p,_,rfl,dB.of hp4,rfl,?_⟩;refine⟨_,_,rfl,⟨_,_,rfl,⟨rfl,?_⟩⟩⟩;exists rl,fun p5 H5 s5 h5=>?_;rw[rw0] at h5;have h5':=h5;rw[ew] at h5;have sc5:=sc4.mono s5;have hl5:=s5 _ _ (s34 _ _ hl3);exists p5,_,rfl,.inl (aL.of h5),?_;rw[za,zv];left;refine cb (zg nofun) ?_;left;have wl':ws.length<=999999:=by rw[ew,zv] at wl;omega
   refine⟨p5,qZ t',ws,rfl,aL.of h5,wl',by rw[<-ew];exact ws6,fun v H6 s6 tv=>?_⟩;rw[<-ew,IK tok] at tv;have sc6:=sc5.mono s6;exists p5,_,0,_,rfl,rfl,aL.of (s6 _ _ h5),bE (j:=0) rfl,?_;exists a,S',o',qZ t',v,H5,some t',rfl,sc6,tv,fun t2 e2=>by cases e2;exact⟨rfl,fit⟩,fun H7 s7=>?_
   rw[show NO S' (some t')=fault S' t' from rfl,fn];exists p5,_,0,_,rfl,rfl,aL.of (s7 _ _ (s6 _ _ h5)),bE (j:=0) rfl,?_;exists a,S',o',v,H5,t',rfl,sc5,s6.trans s7,KP s7 tv,fn,hd,sz,fun H8 o8 sc8 el8 fr8=>?_;have s07:=((s4.trans s5).trans s6).trans s7;left;refine⟨ts'',bS S' t',o8,rt'',run'',sc8,el8 _ _ nl3 (s7 _ _ (s6 _ _ hl5)),fun z=>?_,fun b u hb=>el8 _ _ (fun z=>by rw[f3 b z] at hb;cases hb) (s07 _ _ hb),fun x hx=>?_,_,_,_,_,_,rfl⟩
   ·rcases fr8 l z with y | y
    ·exact nl3 y
    ·rw[hl5] at y;cases y
   ·rcases fr8 x hx with y | y
    ·exact f3 x y
    ·exact(s4.trans s5).back y
 ·rintro σ H3 ⟨ts',S',o',rt',run',sc3,hl3,nl3,s3,f3,u2,u3,u4,u5,u6,rfl⟩
  rw[za,List.drop_length] at rt';cases rt';have es:S'=S:=run';subst es;change kk a o' H3 sc3 s3 f3
inductive DW (C:Addr) (vs:List V) (H:Hp) (Q:VK) (E:XK):Prop
 | mk (a:Addr) (S:cB) (o:Ow) (b:Int) (_:vs=[.ref a,.int b]) (_:bZ C H a S o) (_:0<=b) (_:b<S.aO.length) (_:Q .bR H)
def Ed:aF ["score","bar"] ["score","bar"] (aq wa):=dH
def Ex {C:Addr} (F:Cf K C):di P w base 1 T.vz (DW C):=by
 nomatch T.vz,Ed
 obtain⟨a,S,o,b,rfl,sc,b0,b1,kk⟩:=h;obtain⟨ub,jm,ho,hub,hjm⟩:=sc.obj;obtain⟨vs,hv,il⟩:=sc.ba;refine⟨_,(ak (aJ (PW.pt (eD (ptr fA (pv 1) ae) (dC (ptr C4 (pv 1) (eQ aG T.bC (ah (bP (pv 0) rfl) af))))))
  (ak Gp)
  aD)),?_⟩
 ac_rfl;left;refine cq (ze nofun) ?_;exists a,C,o.dx,_,_,rfl,ho,F.cls,F.aO,rfl,?_;exists o.ba,vs,rfl,.inl (aL.of hv),?_;rw[aT il];left;refine cq (ze nofun) ?_;change kk
inductive BL (C:Addr) (vs:List V) (H:Hp) (Q:VK) (E:XK):Prop
 | mk (a:Addr) (S:cB) (o:Ow) (b:Nat) (_:vs=[.ref a,.int b]) (_:bZ C H a S o) (_:b<S.aO.length) (_:(∀x∈S.aO,BD x)) (_:∀p H',aB H H'->H' p=some (fR (S.len b))->Q (.ref p) H')
def BW:aF ["score","bar"] ["score","bar"] (aq sY):=dH
def Cb {C:Addr} (F:Cf K C):di P w base 5 T.rW (BL C):=by
 nomatch T.rW,BW
 obtain⟨a,S,o,b,rfl,sc,hb,bo,kk⟩:=h;refine⟨_,(ag (bJ (bK (Ex T F) hr T.vz (ah (pv 0) (ah (pv 1) af))))
  (ak (au (bK (jU T F) hr T.iw (ah (pv 0) (ah (pv 1) af)))))),?_⟩
 ac_rfl;exists a,S,o,b,rfl,sc,nofun,nofun,?_;change⟨a,S,o,b,rfl,sc,hb,bo,kk⟩
inductive wM (vs:List V) (H:Hp) (Q:VK) (E:XK):Prop
 | mk (v:V) (r:Rep) (n:Int) (_:vs=[v,.int n]) (_:Is H (iK r) v) (_:RK r) (_:∀D bs H',aB H H'->H D=none->H' D=some (.lst (bs.map V.int))->mf r.first r.last 2000 bs->Q (.ref D) H')
def fM:aF ["repeat","number","ends","bars","end"] ["repeat","number"] (aq oV):=dH
def nV:di P w base 2 T.jq wM:=by
 nomatch T.jq,fM
 obtain⟨v,r,n,rfl,iv,rd,kk⟩:=h;have sl:=yC;obtain⟨a,e,rfl,ha,he⟩:=eJ iv;obtain⟨en,er⟩:=NR rd;obtain⟨r1,r2,r3,r4,r5,r6,r7⟩:=rd;refine⟨_,(ag (bT 2 fM.nd (bK (AA T) hr T.xP (ah (pv 0) af)))
  (ag (aJ (ptr dj (eQ aG T.bC (ah (pv 2) af)) ae)
  (ak (au (tL rfl (by rfl) T.mL (by rfl) T.cR (ah (bO (pv 0) ae) (ah (ax aY (bO (pv 0) ae) ae) af)))))
  aD)
  (ag (bT 3 fM.nd (tL rfl (by rfl) T.mL (by rfl) T.cR (ah (bO (pv 0) ae) (ah (bO (gd (pv 2) ae) ae) af))))
  (ag (cE PassesOwn.never rfl (bw (pv 2)) (jR 4 fM.nd)
  (ak (aJ (jd lU (pv 1) (bO (pv 4) ae) (by with_unfolding_all rfl))
   (ak (bJ (bY yD PySem.F.slot_list_extend PySem.F.type_list_extend jX (pv 3) (ah (tL rfl (by rfl) T.mL (by rfl) T.cR (ah (bO (pv 4) ae) (ah (ax aY (bO (pv 4) ae) ae) af))) af))))
   aD)))
  (ak (au (pv 3))))))),?_⟩
 ac_rfl;exists _,r,rfl,iv,nofun,fun p us H1 s1 h1 il=>?_;have ul:=aT il;have ha1:=s1 _ _ ha;exists p,us,rfl,.inl (aL.of h1),?_;rw[ul];left
 by_cases c0:(fQ r).length=0
 ·refine cb (by rw[c0];rfl) ?_
  exists _,_,rfl,⟨nofun,nofun,nofun,nofun⟩,nofun,fun l nl=>?_;exact kk l _ _ (s1.trans (aS nl)) (s1.back nl) aC (IH nofun nofun nofun)
 ·refine cq (ze fun z=>c0 (by have:=V.int.inj z;omega)) ?_
  have u0:us[0]?=some (us[0]'nofun):=zd nofun;obtain⟨t,ht,it⟩:=dE il u0;obtain⟨a0,q0,e0,h0,_⟩:=Ir it;rw[e0] at u0;obtain⟨⟨t1,t2⟩,t3,t4⟩:=er t (zC ht);exists p,us,0,_,rfl,rfl,aL.of h1,bE u0,?_;exists _,_,rfl,⟨nofun,nofun,nofun,nofun⟩,nofun,fun D nD=>?_;have s2:aB H1 (upd H1 D (.lst ((rB r.first (t.1-r.first).toNat).map V.int))):=aS nD;have h2:upd H1 D (.lst ((rB r.first (t.1-r.first).toNat).map V.int)) D=some (.lst ((rB r.first (t.1-r.first).toNat).map V.int)):=aC;generalize upd H1 D _=H2 at s2 h2 ⊢;exists⟨_,aL.of (s2 _ _ h1)⟩,?_;refine dQ (K:=K) (a:=p) (xs:=us) (fun i σ H'=>∃(bs:List Int) (w4:Option V),aB H1 H'/\H' D=some (.lst (bs.map V.int))/\mf r.first r.last (200*(i+1)) bs/\σ=[some (.ref a),some (.int n),some (.ref p),some (.ref D),w4]) ⟨_,none,s2,h2,IH nofun nofun nofun,rfl⟩ (fun i σ H' _ h=>by obtain⟨_,_,s,_⟩:=h;exact aL.of (s _ _ h1)) ?_ ?_
  ·intro i x σ H3 hx hh
   refine df fun N kN0 kR0 _ _=>?_;obtain⟨bs,w4,s3,h3,bi,rfl⟩:=hh;have hi:=(zy.mp hx).1;obtain⟨y,hy,iy⟩:=dE il hx;obtain⟨ay,qy,rfl,hay,hqy⟩:=Ir iy;obtain⟨⟨y1,y2⟩,y3,y4⟩:=er y (zC hy);have hay3:=s3 _ _ hay;exists qy,_,rfl,.inr (dB.of (s3 _ _ hqy)),rfl,vi _,?_;refine⟨_,rfl,?_⟩;generalize (if false=true then _ else _:Bool)=c;cases c with
   | true=>
    refine cb rfl ?_;exists .inl ⟨rfl,_,aL.of h3⟩,?_;exists _,_,rfl,⟨nofun,nofun,nofun,nofun⟩,nofun,fun l nl=>?_;have s4:aB H3 (upd H3 l (.lst ((rB y.1 (y.2.1+1-y.1).toNat).map V.int))):=aS nl;have h4:upd H3 l (.lst ((rB y.1 (y.2.1+1-y.1).toNat).map V.int)) l=some (.lst ((rB y.1 (y.2.1+1-y.1).toNat).map V.int)):=aC;generalize upd H3 l _=H4 at s4 h4 ⊢;have b2:mf r.first r.last 200 (rB y.1 (y.2.1+1-y.1).toNat):=IH nofun nofun nofun;have l1:=bi.1;have l2:=b2.1;refine .inl ⟨D,l,_,_,rfl,rfl,s4 _ _ h3,h4,by rw[za,za];omega,?_⟩;change⟨_,_,bM nD (s3.trans s4),by rw[aC,<-zk],(bi.app b2).mono (Int.le_refl _) (Int.le_refl _) nofun,rfl⟩
   | false=>
    refine cq (by simp) ?_;change⟨_,_,s3,h3,bi.mono (Int.le_refl _) (Int.le_refl _) nofun,rfl⟩
  ·rintro σ H3 ⟨bs,w4,s3,h3,bi,rfl⟩
   change kk D bs _ (s1.trans s3) (s1.back nD) h3 (bi.mono (Int.le_refl _) (Int.le_refl _) nofun)
inductive sC (vs:List V) (H:Hp) (Q:VK) (E:XK):Prop
 | mk (v:V) (r:Rep) (c:Bool) (_:vs=[v,.bl c]) (_:Is H (iK r) v) (_:RK r) (_:∀D bs H',aB H H'->H D=none->H' D=some (.lst (bs.map V.int))->mf r.first r.last 18000 bs->Q (.ref D) H')
def eM:aF ["repeat","once","times","bars","number"] ["repeat","once"] (aq lN):=dH
def tR:di P w base 3 T.j9 sC:=by
 nomatch T.j9,eM
 obtain⟨v,r,c,rfl,iv,rd,kk⟩:=h;have sl:=yC;obtain⟨a,e,rfl,ha,he⟩:=eJ iv;have r5:=rd.2.2.2.2.1;have r4:=rd.2.2.2.1;refine⟨_,(ag (bT 2 eM.nd (bO (pv 0) ae))
  (ag (aJ (cU (pv 1))
  (ak (au (bK (nV T) hr T.jq (ah (pv 0) (ah (pv 2) af)))))
  aD)
  (ag (bT 3 eM.nd (bB af))
  (ag (cE PassesOwn.never rfl (uV (by rfl) T.cR (ah ae (ah (ax aY (pv 2) ae) af))) (jR 4 eM.nd)
  (ak (bJ (bY yD PySem.F.slot_list_extend PySem.F.type_list_extend jX (pv 3) (ah (bK (nV T) hr T.jq (ah (pv 0) (ah (pv 4) af))) af)))))
  (ak (au (pv 3))))))),?_⟩
 ac_rfl;left;cases c with
 | true=>
  refine cb rfl ?_;change⟨_,r,_,rfl,iv,rd,fun D bs H' s' n' h' b'=>kk D bs H' s' n' h' (b'.mono (Int.le_refl _) (Int.le_refl _) ∅)⟩
 | false=>
  refine cq (by simp) ?_;exists by show 0<=sizeLine;omega,?_
  intro D nD;have s1:aB H (upd H D (.lst [])):=aS nD;have h1:upd H D (.lst []) D=some (.lst []):=aC;generalize upd H D (.lst [])=H1 at s1 h1 ⊢;exists _,_,rfl,⟨nofun,nofun,nofun,nofun⟩,?_;refine fX (fun i σ H'=>∃(bs:List Int) (w4:Option V),aB H H'/\H' D=some (.lst (bs.map V.int))/\mf r.first r.last (2000*i) bs/\σ=[some (.ref a),some (.bl false),some (.int r.times),some (.ref D),w4]) ⟨[],none,s1,h1,⟨zm _,by simp⟩,rfl⟩ ?_ ?_
  ·intro i σ H2 hi hh
   refine df fun N kN0 kR0 _ _=>?_;obtain⟨bs,w4,s2,h2,bi,rfl⟩:=hh;exists .inl ⟨rfl,_,aL.of h2⟩,?_;exists _,r,_,rfl,iv.mono s2,rd,fun D3 cs H3 s3 n3 h3 b3=>?_;have l1:=bi.1;have l2:=b3.1;refine .inl ⟨D,D3,_,_,rfl,rfl,s3 _ _ h2,h3,by rw[za,za];omega,?_⟩;change⟨_,_,bM nD (s2.trans s3),by rw[aC,<-zk],(bi.app b3).mono (Int.le_refl _) (Int.le_refl _) nofun,rfl⟩
  ·rintro σ H2 ⟨bs,w4,s2,h2,bi,rfl⟩
   change kk D bs _ s2 nD h2 (bi.mono (Int.le_refl _) (Int.le_refl _) nofun)
def Tz (S:cB) (H:Hp) (kvs:List (Key×V)):Prop:=∀(k:Int) v,dm kvs (.inl k)=some v->∃r∈S.repeats,r.first=k/\Is H (iK r) v
def Tz.put {S:cB} {H:Hp} {kvs:List (Key×V)} {r:Rep} {v:V} (h:Tz S H kvs) (hr:r∈S.repeats) (iv:Is H (iK r) v):Tz S H (putK kvs (.inl r.first) v):=by
 intro k u hu;rw[xV] at hu;split at hu
 ·rename_i e
  cases hu;exact⟨r,hr,(Sum.inl.inj e).symm,iv⟩
 ·exact h k u hu
inductive KW (C:Addr) (vs:List V) (H:Hp) (Q:VK) (E:XK):Prop
 | mk (a:Addr) (S:cB) (o:Ow) (f l:Int) (c:Bool) (_:vs=[.ref a,.int f,.int l,.bl c]) (_:bZ C H a S o) (_:(∀r∈S.repeats,RK r)) (_:S.repeats.length<=1000) (_:0<=f) (_:f<=200) (_:l<200) (_:∀D bs H',aB H H'->H D=none->H' D=some (.lst (bs.map V.int))->mf 0 l 4000000 bs->Q (.ref D) H')
def fT:aF ["score","first","last","once","beginning","repeat","bars","bar"] ["score","first","last","once"] (aq Ga):=dH
def pN {C:Addr} (F:Cf K C):di P w base 4 T.walked (KW C):=by
 nomatch T.walked,fT
 obtain⟨a,S,o,f,l,c,rfl,sc,rd,rl,f0,f2,l2,kk⟩:=h;have sl:=yC;obtain⟨ub,jm,ho,hub,hjm⟩:=sc.obj;obtain⟨rv,hre,ilr⟩:=sc.re;have rvl:=aT ilr;refine⟨_,(ag (bT 4 fT.nd o9)
  (ag (cE PassesOwn.never rfl (bw (bP (pv 0) rfl)) (jR 5 fT.nd)
  (ak (pL (iI hr) (pv 4) (bO (pv 5) ae) (pv 5) rfl)))
  (ag (bT 6 fT.nd (bB af))
  (ag (bT 7 fT.nd (pv 1))
  (ag (tI PassesOwn.never (ptr gJ (pv 7) (pv 2))
  (ak (aJ (bF (Ek (iI hr) (pv 7) (pv 4)))
   (ag (bT 5 fT.nd (Ej (iI hr) (pv 4) (pv 7) (fun _ _=>rfl)))
    (ag (bJ (bY yD PySem.F.slot_list_extend PySem.F.type_list_extend jX (pv 6) (ah (qh (ts:=["taken"]) (ys:=["last"]) (js:=[2]) (g:=(cg 0)) (tc:=(m9 (fP (wj fun i j=>.bl (decide (i<=j))) (bf 0) (bf 1)))) (te:=(bf 0)) (bw (bK (tR T) hr T.j9 (ah (pv 5) (ah (pv 3) af)))) (hJ 0) (g9 (ptr gJ (pv 0) (pv 1))) (pv 0)) af)))
    (ak (bT 7 fT.nd (ax aY (bO (pv 5) ae) ae)))))
   (ag (bJ (bY yD yF yE bH (pv 6) (ah (pv 7) af)))
    (ak (bT 7 fT.nd (ax aY (pv 7) ae)))))))
  (ak (au (pv 6)))))))),?_⟩
 ac_rfl;left;intro d nd;have s1:aB H (upd H d (.dK [])):=aS nd;have hd:upd H d (.dK []) d=some (.dK []):=aC;generalize upd H d (.dK [])=H1 at s1 hd ⊢;exists a,C,o.dx,_,_,rfl,s1 _ _ ho,F.cls,F.repeats,rfl,?_;exists⟨_,aL.of (s1 _ _ hre)⟩,?_;refine dQ (K:=K) (a:=o.re) (xs:=rv) (fun i σ H'=>∃(kvs:List (Key×V)) (w5:Option V),aB H H'/\H' d=some (.dK kvs)/\kvs.length<=i/\Tz S H kvs/\σ=[some (.ref a),some (.int f),some (.int l),some (.bl c),some (.ref d),w5,none,none]) ⟨[],none,s1,hd,zm _,(fun _ _ z=>by rw[FI] at z;cases z),rfl⟩ (fun i σ H' _ h=>by obtain⟨_,_,s,_⟩:=h;exact aL.of (s _ _ hre)) ?_ ?_
 ·intro i x σ H2 hx hh
  refine df fun N kN0 kR0 _ _=>?_;obtain⟨kvs,w5,s2,hk,kl,bg,rfl⟩:=hh;obtain⟨r,hr',ir⟩:=dE ilr hx;have hi:=(zy.mp hx).1;obtain⟨ar,er,rfl,har,_⟩:=eJ ir;have har2:=s2 _ _ har;have pl:=kI kvs (.inl r.first) (.ref ar);exists d,_,rfl,.inl ⟨_,.inl r.first,hk,rfl,nofun,rfl⟩,?_;change⟨_,_,bM nd s2,aC,nofun,bg.put (zC hr') ir,rfl⟩
 ·rintro σ H2 ⟨kvs,w5,s2,hk,kl,bg,rfl⟩
  exists by show 0<=sizeLine;omega,?_
  intro B nB;have s3:aB H2 (upd H2 B (.lst [])):=aS nB;have hB:upd H2 B (.lst []) B=some (.lst []):=aC;generalize upd H2 B (.lst [])=H3 at s3 hB ⊢;left;refine CK (fun m σ H'=>∃(b:Int) (bs:List Int) (w5:Option V),m=(200-b).toNat/\0<=b/\b<=200/\σ=[some (.ref a),some (.int f),some (.int l),some (.bl c),some (.ref d),w5,some (.ref B),some (.int b)]/\aB H2 H'/\H' B=some (.lst (bs.map V.int))/\mf 0 l (20000*b.toNat) bs)
   (fun σ H'=>∃(bs:List Int) (w5 w7:Option V),σ=[some (.ref a),some (.int f),some (.int l),some (.bl c),some (.ref d),w5,some (.ref B),w7]/\aB H2 H'/\H' B=some (.lst (bs.map V.int))/\mf 0 l 4000000 bs)
   ⟨_,f,[],w5,rfl,f0,f2,rfl,s3,hB,⟨yg _,by simp⟩⟩ ?_ ?_
  ·rintro m σ H4 ⟨b,bs,w5,rfl,b0,b2,rfl,s4,h4,bi⟩ N hN
   have l1:=bi.1;have hk4:=s4 _ _ hk;left
   by_cases c1:b<=l
   ·refine cb (zg c1) ?_
    refine⟨fun σ H'=>∃(b':Int) (bs:List Int) (w5:Option V),b<b'/\b'<=200/\σ=[some (.ref a),some (.int f),some (.int l),some (.bl c),some (.ref d),w5,some (.ref B),some (.int b')]/\aB H2 H'/\H' B=some (.lst (bs.map V.int))/\mf 0 l (20000*b'.toNat) bs,?_,?_⟩
    ·rintro σ' H' ⟨b',bs,w5,z1,z2,rfl,z3,z4,z5⟩
     exact⟨_,nofun,b',bs,w5,rfl,nofun,z2,rfl,z3,z4,z5⟩
    ·left
     refine⟨d,_,rfl,.inl ⟨kvs,.inl b,.inl hk4,rfl,rfl⟩,?_⟩;refine⟨_,rfl,?_⟩;cases gv:dm kvs (.inl b) with
     | none=>
      refine cq (by simp) ?_;exists .inl ⟨rfl,_,aL.of h4⟩,?_;exists B,_,_,rfl,rfl,h4,by rw[za];omega,?_
      change⟨b+1,bs++[b],_,nofun,nofun,rfl,bM nB s4,by rw[aC,zk];rfl,(bi.app (b:=[b]) (m:=1) ⟨zm _,fun x hx=>by cases zA.mp hx;exact⟨b0,c1⟩⟩).mono (Int.le_refl _) (Int.le_refl _) nofun⟩
     | some v=>
      obtain⟨r,hr',rfl,ir⟩:=bg b v gv;have rr:=rd r hr';obtain⟨r1,r2,r3,_⟩:=id rr;have ir4:=(ir.mono s2).mono s4;obtain⟨ar,er,rfl,har,_⟩:=eJ ir;refine cb rfl ?_;exists d,.ref ar,rfl,.inl ⟨kvs,.inl r.first,.inl hk4,rfl,gv.symm⟩,?_;exists .inl ⟨rfl,_,aL.of h4⟩,?_;exists _,r,c,rfl,ir4,rr,fun D5 cs H5 s5 n5 h5 b5=>?_;have cl:=b5.1;exists⟨_,aL.of h5⟩,?_;refine Jv (rest:=[some (.int l)]) (fun t=>decide (t<=l)) nofun (aL.of h5) ⟨none,rfl⟩ ?_ ?_
      ·intro t H6 R s6 hR
       change hR _ (aB.refl _)
      intro D6 H6 s6 _ h6;have fb:mf 0 l 18000 (cs.filter fun t=>decide (t<=l)):=⟨zM (List.length_filter_le _ _) cl,fun x hx=>by
       obtain⟨x1,x2⟩:=List.mem_filter.mp hx;exact⟨Int.le_trans r1 (b5.2 x x1).1,ye x2⟩⟩
      generalize cs.filter _=fs at h6 fb;have fl:=fb.1;have s46:=s5.trans s6;refine .inl ⟨B,D6,_,_,rfl,rfl,s46 _ _ h4,h6,by rw[za,za];omega,?_⟩;have s7:aB H2 (upd H6 B (.lst (bs.map V.int++fs.map V.int))):=bM nB (s4.trans s46);have h7:upd H6 B (.lst (bs.map V.int++fs.map V.int)) B=some (.lst ((bs++fs).map V.int)):=by rw[aC,zk]
      generalize upd H6 B _=H7 at s7 h7 ⊢;have har7:=s7 _ _ (s2 _ _ har);change⟨r.last+1,_,_,nofun,nofun,rfl,s7,h7,(bi.app fb).mono (Int.le_refl _) (Int.le_refl _) nofun⟩
   ·refine cq (ze c1) ?_
    exact hN _ _ ⟨bs,_,_,rfl,s4,h4,bi.mono (Int.le_refl _) (Int.le_refl _) nofun⟩
  ·rintro σ H4 ⟨bs,w5,w7,rfl,s4,h4,bi⟩
   change kk B bs _ (s2.trans s4) (s2.back nB) h4 bi
inductive BI (C:Addr) (vs:List V) (H:Hp) (Q:VK) (E:XK):Prop
 | mk (a:Addr) (S:cB) (o:Ow) (_:vs=[.ref a]) (_:bZ C H a S o) (_:(∀r∈S.repeats,RK r)) (_:S.repeats.length<=1000) (_:1<=S.aO.length) (_:S.aO.length<=200) (_:(∀j,S.b9=some j->(0<=j.uB/\j.uB<S.aO.length)/\(0<=j.wu/\j.wu<S.aO.length)/\(0<=j.cW/\j.cW<S.aO.length)/\∀c,j.gf=some c->0<=c/\c<S.aO.length)) (_:∀D bs H',aB H H'->H D=none->H' D=some (.lst (bs.map V.int))->mf 0 ((S.aO.length:Int)-1) 12000000 bs->Q (.ref D) H')
def gY:aF ["score","last","jump","bars"] ["score"] (aq sP):=dH
def B4 {C:Addr} (F:Cf K C):di P w base 5 T.qT (BI C):=by
 nomatch T.qT,gY
 obtain⟨a,S,o,rfl,sc,rd,rl,b1,b2,jk,kk⟩:=h;have sl:=yC;obtain⟨ub,jm,ho,hub,hjm⟩:=sc.obj;obtain⟨bv,hba,ilb⟩:=sc.ba;refine⟨_,(ag (bT 1 gY.nd (ax jT (eQ aG T.bC (ah (bP (pv 0) rfl) af)) ae))
  (ag (bT 2 gY.nd (bP (pv 0) rfl))
  (ag (aJ (bF (cJ (pv 2)))
  (ak (au (bK (pN T F) hr T.walked (ah (pv 0) (ah ae (ah (pv 1) (ah jS af)))))))
  aD)
  (ag (bT 3 gY.nd (ax gs (bK (pN T F) hr T.walked (ah (pv 0) (ah ae (ah (bO (pv 2) ae) (ah jS af))))) (bK (pN T F) hr T.walked (ah (pv 0) (ah (bO (pv 2) ae) (ah (bO (pv 2) ae) (ah jS af)))))))
  (ag (aJ (bF (gr (bO (pv 2) ae)))
  (ak (bJ (bY yD PySem.F.slot_list_extend PySem.F.type_list_extend jX (pv 3) (ah (bK (pN T F) hr T.walked (ah (pv 0) (ah (bO (pv 2) ae) (ah (pv 1) (ah jS af))))) af))))
  aD)
  (ak (au (pv 3)))))))),?_⟩
 ac_rfl;exists a,C,o.dx,_,_,rfl,ho,F.cls,F.aO,rfl,?_;exists o.ba,bv,rfl,.inl (aL.of hba),?_;rw[aT ilb];exists a,C,o.dx,_,_,rfl,ho,F.cls,F.b9,rfl,?_;left;cases ej:S.b9 with
 | none=>
  rw[ej] at hjm;unfold dO Is at hjm;subst hjm;refine cb rfl ?_;change⟨a,S,o,0,_,false,rfl,sc,rd,rl,∅,∅,nofun,fun D bs H' s' n' h' b'=>kk D bs H' s' n' h' (b'.mono (Int.le_refl _) (Int.le_refl _) ∅)⟩
 | some j=>
  rw[ej] at hjm;obtain⟨⟨j1,j2⟩,⟨j3,j4⟩,⟨j5,j6⟩,j7⟩:=jk j ej;obtain⟨aj,rfl,haj⟩:=tX hjm;refine cq (by simp) ?_;exists a,S,o,0,_,false,rfl,sc,rd,rl,(by decide),(by decide),nofun,fun D1 b1' H1 s1 n1 h1 i1=>?_;have haj1:=s1 _ _ haj;exists a,S,o,_,_,true,rfl,sc.mono s1,rd,rl,nofun,nofun,nofun,fun D2 b2' H2 s2 n2 h2 i2=>?_;have l1:=i1.1;have l2:=i2.1;refine⟨D1,D2,_,_,rfl,rfl,aL.of (s2 _ _ h1),aL.of h2,by rw[za,za];omega,?_⟩;have s02:=s1.trans s2;intro D3 nD3;have n3:=s02.back nD3;have s3:aB H2 (upd H2 D3 (.lst (b1'.map V.int++b2'.map V.int))):=aS nD3;have h3:upd H2 D3 (.lst (b1'.map V.int++b2'.map V.int)) D3=some (.lst ((b1'++b2').map V.int)):=by rw[aC,zk]
  generalize upd H2 D3 _=H3 at s3 h3 ⊢;have s03:=s02.trans s3;have haj3:=s03 _ _ haj;have i3:mf 0 ((S.aO.length:Int)-1) 8000000 (b1'++b2'):=(i1.mono (Int.le_refl _) nofun (zm _)).app (i2.mono (Int.le_refl _) nofun (zm _));have l3:=i3.1;left;cases ec:j.gf with
  | none=>
   refine cq rfl ?_;change kk D3 _ _ s03 n3 h3 (i3.mono (Int.le_refl _) (Int.le_refl _) ∅)
  | some cc=>
   rw[ec] at haj3;obtain⟨k1,k2⟩:=j7 cc ec;refine cb rfl ?_;exists .inl ⟨rfl,_,aL.of h3⟩,?_;exists a,S,o,_,_,true,rfl,sc.mono s03,rd,rl,nofun,nofun,nofun,fun D4 b4 H4 s4 n4 h4 i4=>?_;have l4:=i4.1;refine .inl ⟨D3,D4,_,_,rfl,rfl,s4 _ _ h3,h4,by rw[za,za];omega,?_⟩;change kk D3 _ _ (bM n3 (s03.trans s4)) n3 (by rw[aC,<-zk]) (i3.app i4)
inductive KY (C:Addr) (vs:List V) (H:Hp) (Q:VK) (E:XK):Prop
 | mk (a:Addr) (S:cB) (o:Ow) (_:vs=[.ref a]) (_:bZ C H a S o) (_:(∀r∈S.repeats,RK r)) (_:S.repeats.length<=1000) (_:1<=S.aO.length) (_:S.aO.length<=200) (_:(∀j,S.b9=some j->(0<=j.uB/\j.uB<S.aO.length)/\(0<=j.wu/\j.wu<S.aO.length)/\(0<=j.cW/\j.cW<S.aO.length)/\∀c,j.gf=some c->0<=c/\c<S.aO.length)) (_:(∀x∈S.aO,BD x)) (_:(∀b,b<S.aO.length->Tv (S.len b))) (_:∀D us bs H',aB H H'->H' D=some (.lst us)->(∀b∈bs,b<S.aO.length)->bs.length<=12000000->RL (Bx S bs H') (List.range bs.length) us->Q (.ref D) H')
def jA:aF ["score","triples","counts","time","bar"] ["score"] (aq Gb):=dH
def Ld {C:Addr} (F:Cf K C):di P w base 6 T.IM (KY C):=by
 nomatch T.IM,jA
 obtain⟨a,S,o,rfl,sc,rd,rl,b1,b2,jk,bo,lo,kk⟩:=h;have sl:=yC;refine⟨_,(ag (bT 1 jA.nd (bB af))
  (ag (bT 2 jA.nd o9)
  (ag (bT 3 jA.nd (bG (ah ae (ah ae af))))
  (ag (cE PassesOwn.never rfl (bw (bK (B4 T F) hr T.qT (ah (pv 0) af))) (jR 4 jA.nd)
  (ag (pL (iI hr) (pv 2) (pv 4) (ax aY (Gu (iI hr) (pv 2) (pv 4) ae ⟨rfl,rfl,rfl,rfl⟩) ae) rfl)
   (ag (bJ (bY yD yF yE bH (pv 1) (ah (bG (ah (pv 4) (ah (pv 3) (ah (Ej (iI hr) (pv 2) (pv 4) (fun _ _=>rfl)) af)))) af)))
   (ak (bT 3 jA.nd (bK (GI T) hr T.added (ah (pv 3) (ah (bK (jU T F) hr T.iw (ah (pv 0) (ah (pv 4) af))) af))))))))
  (ak (au (pv 1))))))),?_⟩
 ac_rfl;exists by show 0<=sizeLine;omega,?_
 intro D nD;have s1:aB H (upd H D (.lst [])):=aS nD;have hD:upd H D (.lst []) D=some (.lst []):=aC;generalize upd H D (.lst [])=H1 at s1 hD ⊢;left;intro d nd;have s2:aB H1 (upd H1 d (.dK [])):=aS nd;have hd:upd H1 d (.dK []) d=some (.dK []):=aC;generalize upd H1 d (.dK [])=H2 at s2 hd ⊢;exists cT,?_;intros t0 H3 s3 h3;have s03:=(s1.trans s2).trans s3;exists a,S,o,rfl,sc.mono s03,rd,rl,b1,b2,jk,fun E zs H4 s4 nE hE iz=>?_;have s04:=s03.trans s4;obtain⟨zl,zin⟩:=iz;generalize gb:zs.map Int.toNat=bs;have bl:bs.length=zs.length:=by rw[<-gb,za]
 have zb:∀(i:Nat) (b:Int),zs[i]?=some b->bs[i]?=some b.toNat/\0<=b/\b<S.aO.length:=fun i b hb=>⟨by rw[<-gb,zK,hb];rfl,by have:=zin b (zC hb);omega⟩
 have bin:∀b∈bs,b<S.aO.length:=fun b hb=>by
  rw[<-gb] at hb;obtain⟨z,hz,rfl⟩:=zH.mp hb;have:=zin z hz;omega
 have tok:=JY lo bin;have nDE:D≠E:=fun z=>by rw[<-z,s3 _ _ (s2 _ _ hD)] at nE;cases nE
 have ndE:d≠E:=fun z=>by rw[<-z,s3 _ _ hd] at nE;cases nE
 have dD:D≠d:=Sc.bq (s2 _ _ hD) hd (by simp[kindOf]);have nd0:=s1.back nd;exists⟨_,aL.of hE⟩,?_;refine dQ (K:=K) (a:=E) (xs:=zs.map V.int) (fun i σ H'=>∃(us:List V) (kvs:List (Key×V)) (q:Addr) (w4:Option V),σ=[some (.ref a),some (.ref D),some (.ref d),some (.ref q),w4]/\aB H H'/\H' E=some (.lst (zs.map V.int))/\H' D=some (.lst us)/\H' d=some (.dK kvs)/\kvs.length<=i/\(∀(k:Int) v,dm kvs (.inl k)=some v->∃c,v=.int c)/\H' q=some (fR (DJ S (bs.take i)))/\RL (Bx S bs H') (List.range i) us)
  ⟨[],[],t0,none,rfl,s04,hE,s4 _ _ (s3 _ _ (s2 _ _ hD)),s4 _ _ (s3 _ _ hd),zm _,(fun _ _ z=>by rw[FI] at z;cases z),s4 _ _ h3,rfl⟩ (fun i σ H' _ h=>by obtain⟨_,_,_,_,_,_,h,_⟩:=h;exact aL.of h) ?_ ?_
 ·intro i x σ H5 hx hh
  refine df fun N kN0 kR0 _ _=>?_;obtain⟨us,kvs,q,w4,rfl,s5,hE5,hD5,hd5,kl,kv,hq,rl5⟩:=hh;rw[zK] at hx;cases qr:zs[i]? with
  | none=>rw[qr] at hx;cases hx
  | some z=>
  rw[qr] at hx;simp only[Option.map_some,Option.some.injEq] at hx;subst hx;obtain⟨hb,z0,z1⟩:=zb i z qr;have hi:=(zy.mp qr).1;have ul:=rl5.len;rw[zR] at ul;obtain⟨m,rfl⟩:∃m:Nat,z=(m:Int):=⟨z.toNat,nofun⟩
  rw[Int.toNat_natCast] at hb;exists .inl ⟨_,.inl hd5⟩,?_;exists _,.inl ⟨_,.inl (m:Int),.inl hd5,rfl,rfl⟩,?_;obtain⟨c,ec⟩:∃c,(dm kvs (.inl (m:Int))).getD (.int 0)=.int c:=by
   cases g:dm kvs (.inl (m:Int)) with
   | none=>exact⟨0,rfl⟩
   | some v=>obtain⟨c,rfl⟩:=kv _ _ g;exact⟨c,rfl⟩
  rw[ec];have ntd:cM (H5 d):=fun _ z=>by rw[hd5] at z;cases z
  have kv6:∀(k:Int) v,dm (putK kvs (.inl (m:Int)) (.int (c+1))) (.inl k)=some v->∃c,v=.int c:=fun k v hv=>by
   rw[xV] at hv;split at hv
   ·cases hv;exact⟨_,rfl⟩
   ·exact kv k v hv
  have pl:=kI kvs (.inl (m:Int)) (.int (c+1));exists d,_,rfl,.inl ⟨_,.inl (m:Int),hd5,rfl,nofun,rfl⟩,?_;have gm:dm (putK kvs (.inl (m:Int)) (.int (c+1))) (.inl (m:Int))=some (.int (c+1)):=by rw[xV,if_pos rfl]
  generalize putK kvs (.inl (m:Int)) (.int (c+1))=kv2 at kv6 pl gm ⊢;have s6:aB H (upd H5 d (.dK kv2)):=bM nd0 s5;have hd6:upd H5 d (.dK kv2) d=some (.dK kv2):=aC;have hE6:upd H5 d (.dK kv2) E=some (.lst (zs.map V.int)):=by rw[aH ndE.symm];exact hE5
  have hD6:upd H5 d (.dK kv2) D=some (.lst us):=by rw[aH dD];exact hD5
  have hq6:upd H5 d (.dK kv2) q=some (fR (DJ S (bs.take i))):=by rw[aH fun e=>ntd _ (e▸hq)];exact hq
  have rl6:RL (Bx S bs (upd H5 d (.dK kv2))) (List.range i) us:=rl5.imp fun x v z=>z.upd ntd;generalize upd H5 d (.dK kv2)=H6 at s6 hd6 hE6 hD6 hq6 rl6 ⊢;exists .inl ⟨rfl,_,aL.of hD6⟩,?_;exists d,.int (c+1),rfl,.inl ⟨_,.inl (m:Int),.inl hd6,rfl,gm.symm⟩,?_;exists by show 3<=sizeLine;omega,?_
  intros p7 H7 s7 h7;have hD7:=s7 _ _ hD6;have ntD:cM (H7 D):=fun _ z=>by rw[hD7] at z;cases z
  refine⟨D,us,_,rfl,rfl,hD7,nofun,?_⟩;have s8:aB H (upd H7 D (.lst (us++[.ref p7]))):=bM nD (s6.trans s7);have hD8:upd H7 D (.lst (us++[.ref p7])) D=some (.lst (us++[.ref p7])):=aC;have hE8:upd H7 D (.lst (us++[.ref p7])) E=some (.lst (zs.map V.int)):=by rw[aH nDE.symm];exact s7 _ _ hE6
  have hd8:upd H7 D (.lst (us++[.ref p7])) d=some (.dK kv2):=by rw[aH dD.symm];exact s7 _ _ hd6
  have hq8:upd H7 D (.lst (us++[.ref p7])) q=some (fR (DJ S (bs.take i))):=by rw[aH fun e=>ntD _ (e▸s7 _ _ hq6)];exact s7 _ _ hq6
  have rl8:RL (Bx S bs (upd H7 D (.lst (us++[.ref p7])))) (List.range (i+1)) (us++[.ref p7]):=by
   rw[List.range_succ];exact RL.snoc (Bx.upd ntD ⟨p7,q,c+1,m,rfl,h7,s7 _ _ hq6,hb⟩) (rl6.imp fun x v z=>(z.mono s7).upd ntD)
  generalize upd H7 D (.lst (us++[.ref p7]))=H8 at s8 hD8 hE8 hd8 hq8 rl8 ⊢;exists a,S,o,m,rfl,sc.mono s8,nofun,bo,fun p9 H9 s9 h9=>?_;have ti:=tok i;obtain⟨⟨t1,t2⟩,t3,t4⟩:=PQ ti nofun;obtain⟨⟨y1,y2,y3,y4⟩,_⟩:=lo m nofun;obtain⟨_,y5,_⟩:=y1.pos;exists _,_,q,p9,60,10,rfl,s9 _ _ hq8,h9,ti.1,y1,⟨cw nofun nofun,cw nofun nofun⟩,⟨cw nofun nofun,cw nofun nofun⟩,(by decide),fun r Ha sa ha=>?_;have s8a:=s9.trans sa;change⟨_,_,r,_,rfl,s8.trans s8a,s8a _ _ hE8,s8a _ _ hD8,s8a _ _ hd8,nofun,kv6,by rw[cZ hb,uG];exact ha,rl8.imp fun x v z=>z.mono s8a⟩
 ·rintro σ H5 ⟨us,kvs,q,w4,rfl,s5,hE5,hD5,hd5,kl,kv,hq,rl5⟩
  rw[za,<-bl] at rl5;change kk D us bs _ s5 hD5 bin nofun rl5
theorem Runs.app:∀{a b:List Told} {S S1 S2:cB},Runs S a S1->Runs S1 b S2->Runs S (a++b) S2
 | [],_,_,_,_,h,k=>by
  have e:_=_:=h;subst e;exact k
 | _::_,_,_,_,_,⟨h1,h2,h3,h4,h5⟩,k=>⟨h1,h2,h3,h4,Runs.app h5 k⟩
theorem tw:∀{l:List Str} {S:cB},(S.players++l).Nodup->(S.players++l).length<=12->sg S->vJ S->Runs S (l.map .bN) {S with players:=S.players++l}
 | [],S,_,_,_,_=>by
  show S=_;rw[zV]
 | n::r,S,nd,hl,hd,sz=>by
  have nd':=nd;rw[zT] at nd';rw[zh,zv] at hl;refine⟨?_,trivial,hd,sz,?_⟩
  ·unfold fault
   dsimp only;rw[if_neg (fun z=>nd'.2.2 n z n zr rfl),if_neg nofun]
  ·have ih:=tw (l:=r) (S:=bS S (.bN n)) (by show(S.players++[n]++r).Nodup;rw[zF];exact nd) (by show(S.players++[n]++r).length<=12;simp only[zh,zv,List.length_nil];omega) hd ⟨by show(S.players++[n]).length<=1000000;rw[zh];simp;omega,sz.2⟩
   have e:({bS S (.bN n) with players:=(bS S (.bN n)).players++r}:cB)={S with players:=S.players++n::r}:=by
    show({S with players:=S.players++[n]++r}:cB)=_;rw[zF];rfl
   rw[e] at ih;exact ih
theorem Ag:∀{l:List (Str×(Int×Int)×(Int×Int))} {S:cB},((S.ao++l).map (·.1)).Nodup->(S.ao++l).length<=12->sg S->vJ S->Runs S (l.map fun x=>.cQ x.1 x.2.1 x.2.2) {S with ao:=S.ao++l}
 | [],S,_,_,_,_=>by
  show S=_;rw[zV]
 | n::r,S,nd,hl,hd,sz=>by
  have nd':=nd;rw[zk,zT] at nd';rw[zh,zv] at hl;refine⟨?_,trivial,hd,sz,?_⟩
  ·unfold fault
   dsimp only;rw[if_neg (fun z=>nd'.2.2 n.1 z n.1 (by rw[zj];exact zr) rfl),if_neg nofun]
  ·have ih:=Ag (l:=r) (S:=bS S (.cQ n.1 n.2.1 n.2.2)) (by show((S.ao++[n]++r).map _).Nodup;rw[zF];exact nd) (by show(S.ao++[n]++r).length<=12;simp only[zh,zv,List.length_nil];omega) hd ⟨sz.1,by show(S.ao++[n]).length<=1000000;rw[zh];simp;omega,sz.2.2⟩
   have e:({bS S (.cQ n.1 n.2.1 n.2.2) with ao:=(bS S (.cQ n.1 n.2.1 n.2.2)).ao++r}:cB)={S with ao:=S.ao++n::r}:=by
    show({S with ao:=S.ao++[n]++r}:cB)=_;rw[zF];rfl
   rw[e] at ih;exact ih
theorem CZ:∀{l:List Sc.Me} {S:cB},(S.aO++l).length<=200->sg S->vJ S->Runs S (l.map .bar) {S with aO:=S.aO++l}
 | [],S,_,_,_=>by
  show S=_;rw[zV]
 | n::r,S,hl,hd,sz=>by
  rw[zh,zv] at hl;refine⟨?_,trivial,hd,sz,?_⟩
  ·unfold fault
   dsimp only;rw[if_neg nofun]
  ·have ih:=CZ (l:=r) (S:=bS S (.bar n)) (by show(S.aO++[n]++r).length<=200;simp only[zh,zv,List.length_nil];omega) hd ⟨sz.1,sz.2.1,sz.2.2.1,by show(S.aO++[n]).length<=1000000;rw[zh];simp;omega,sz.2.2.2.2⟩
   have e:({bS S (.bar n) with aO:=(bS S (.bar n)).aO++r}:cB)={S with aO:=S.aO++n::r}:=by
    show({S with aO:=S.aO++[n]++r}:cB)=_;rw[zF];rfl
   rw[e] at ih;exact ih
theorem Af:∀{l:List ((Int×Str)×List Item)} {S:cB},((S.aK++l).map (·.1)).Nodup->(S.aK++l).length<=1000000->Qk S->(∀x∈l,0<=x.1.1/\x.1.1<S.aO.length/\x.1.2∈S.players/\x.2.length<=40/\(∀it∈x.2,Ov it.2)/\kR x.2=S.len x.1.1.toNat)->sg S->vJ S->Runs S (l.map fun x=>.aK x.1.1 x.1.2 x.2) {S with aK:=S.aK++l}
 | [],S,_,_,_,_,_,_=>by
  show S=_;rw[zV]
 | n::r,S,nd,hl,lu,hx,hd,sz=>by
  have nd':=nd;rw[zk,zT] at nd';rw[zh,zv] at hl;obtain⟨b0,b1,pin,il,iok,isum⟩:=hx n zr;refine⟨?_,⟨b0,nofun,iok,lu⟩,hd,sz,?_⟩
  ·unfold fault
   dsimp only;rw[if_neg (fun z=>nd'.2.2 n.1 z n.1 (by rw[zj];exact zr) rfl),if_neg (fun z=>z pin),if_neg,if_neg (fun z=>z isum),if_neg nofun];intro z;apply z;unfold cB.has;simp[b1]
  ·have ih:=Af (l:=r) (S:=bS S (.aK n.1.1 n.1.2 n.2)) (by show((S.aK++[n]++r).map _).Nodup;rw[zF];exact nd) (by show(S.aK++[n]++r).length<=1000000;simp only[zh,zv,List.length_nil];omega) lu (fun x h=>hx x (zp _ h)) hd ⟨sz.1,sz.2.1,sz.2.2.1,sz.2.2.2.1,by show(S.aK++[n]).length<=1000000;rw[zh];simp;omega,sz.2.2.2.2.2⟩
   have e:({bS S (.aK n.1.1 n.1.2 n.2) with aK:=(bS S (.aK n.1.1 n.1.2 n.2)).aK++r}:cB)={S with aK:=S.aK++n::r}:=by
    show({S with aK:=S.aK++[n]++r}:cB)=_;rw[zF];rfl
   rw[e] at ih;exact ih
def Ge {S:cB} {u:Int×Int} (hn:S.aI=none) (hb:S.aO.length≠0) (hs:u.1*(S.aU 0).2<(S.aU 0).1*u.2) (no:S.aK=[]) (zu:BE 8999 u) (lu:Qk S) (hd:sg S) (sz:vJ S):Runs S [.aI u] {S with aI:=some u}:=by
 refine⟨?_,⟨zu,lu,by rw[no];exact yg _⟩,hd,sz,rfl⟩;unfold fault;dsimp only;rw[if_neg (by rw[hn];simp),if_neg hb,if_neg (fun z=>z hs),if_neg (by rw[no];simp)]
theorem wd:∀{l:List (Str×List Str)} {S:cB},((S.aM++l).map (·.1)).Nodup->((S.aM++l).map (·.2)).flatten.Nodup->(∀x∈l,∀p∈x.2,p∈S.players)->(∀x∈l,x.2.length<=1000)->(S.aM++l).length<=1000000->sg S->vJ S->Runs S (l.map fun x=>.cC x.1 x.2) {S with aM:=S.aM++l}
 | [],S,_,_,_,_,_,_,_=>by
  show S=_;rw[zV]
 | n::r,S,nd,fd,pin,pl,hl,hd,sz=>by
  have nd':=nd;have fd':=fd;rw[zk,zT] at nd';rw[zk,List.flatten_append,zj,ya,zT] at fd';rw[zh,zv] at hl;refine⟨?_,pl n zr,hd,sz,?_⟩
  ·unfold fault
   dsimp only;have pn:n.2.Nodup:=(zT.mp fd'.2.1).1;have p2:¬(S.aM.any fun q=>n.2.any fun p=>decide (p∈q.2))=true:=fun z=>by
    obtain⟨q,hq,z⟩:=yo.mp z;obtain⟨p,hp,z⟩:=yo.mp z;exact fd'.2.2 p (List.mem_flatten.mpr ⟨q.2,zP (f:=fun x:Str×List Str=>x.2) hq,ye z⟩) p (zJ _ hp) rfl
   have p3:¬(n.2.any fun p=>!decide (p∈S.players))=true:=fun z=>by
    obtain⟨p,hp,z⟩:=yo.mp z;rw[zg (pin n zr p hp)] at z;cases z
   rw[if_neg (fun z=>nd'.2.2 n.1 z n.1 (by rw[zj];exact zr) rfl),if_neg (fun z=>z pn),if_neg p2,if_neg p3]
  ·have ih:=wd (l:=r) (S:=bS S (.cC n.1 n.2)) (by show((S.aM++[n]++r).map _).Nodup;rw[zF];exact nd) (by show((S.aM++[n]++r).map _).flatten.Nodup;rw[zF];exact fd) (fun x h=>pin x (zp _ h)) (fun x h=>pl x (zp _ h)) (by show(S.aM++[n]++r).length<=1000000;simp only[zh,zv,List.length_nil];omega) hd ⟨sz.1,sz.2.1,by show(S.aM++[n]).length<=1000000;rw[zh];simp;omega,sz.2.2.2⟩
   have e:({bS S (.cC n.1 n.2) with aM:=(bS S (.cC n.1 n.2)).aM++r}:cB)={S with aM:=S.aM++n::r}:=by
    show({S with aM:=S.aM++[n]++r}:cB)=_;rw[zF];rfl
   rw[e] at ih;exact ih
def Nr {base:List (Str×List (Int×Str))} {p:Str} (h:p∉base.map (·.1)):base.lookup p=none:=by
 induction base with
 | nil=>rfl
 | cons x r ih=>
  rw[zj,zD,not_or] at h;rw[yq,show(p == x.1)=false from by simp;exact h.1];exact ih h.2
def Li {base:List (Str×List (Int×Str))} {p:Str} {acc:List (Int×Str)} (h:p∉base.map (·.1)):(base++[(p,acc)]).lookup p=some acc:=by
 induction base with
 | nil=>rw[List.nil_append,yq,beq_self_eq_true]
 | cons x r ih=>
  rw[zj,zD,not_or] at h;rw[List.cons_append,yq,show(p == x.1)=false from by simp;exact h.1];exact ih h.2
def Oa {base:List (Str×List (Int×Str))} {p:Str} {acc:List (Int×Str)} {e:Int×Str} (h:p∉base.map (·.1)):fw (base++[(p,acc)]) p e=base++[(p,acc++[e])]:=by
 unfold fw;rw[if_pos (by rw[zk];exact zI _ (zA.mpr rfl)),zk];have er:(base.map fun q:Str×List (Int×Str)=>if q.1=p then(q.1,q.2++[e]) else q)=base:=by
  conv=>rhs;rw[<-List.map_id base]
  refine List.map_congr_left fun q hq=>?_;rw[if_neg (fun z=>h (by rw[<-z];exact zP (f:=fun x:Str×List (Int×Str)=>x.1) hq))];rfl
 rw[er];simp
def Dh {S:cB} {p:Str} {acc:List (Int×Str)} {h:Int×Str} (hl:(S.holds.lookup p).getD []=acc) (asc:∀a∈acc,a.1<h.1) (al:acc.length<20) (hp:p∈S.players) (hb:h.1<S.aO.length) (hi:h.2∈S.ao.map (·.1)):fault S (.holds p h.1 h.2)=none:=by
 unfold fault;dsimp only;rw[hl];have c1:¬(match acc.getLast? with | some q=>decide (h.1<=q.1) | none=>false)=true:=by
  cases q:acc.getLast? with
  | none=>simp
  | some x=>
   have:=asc x (List.mem_of_getLast? q);simp;exact this
 rw[if_neg (by
  cases q:acc.getLast? with
  | none=>simp
  | some x=>
   have:=asc x (List.mem_of_getLast? q);simp;exact this),if_neg (fun z=>z hp),if_neg (fun z=>z hi),if_neg (fun z=>z (by unfold cB.has;simp[hb])),if_neg nofun]
theorem Gf {p:Str} {base:List (Str×List (Int×Str))} (nb:p∉base.map (·.1)) (nd:(base.map (·.1)).Nodup) (bl:base.length<=999999) (bb:∀q∈base,q.2.length<=1000000):∀{row acc:List (Int×Str)} {S:cB},S.holds=base++[(p,acc)]->((acc++row).map (·.1)).Pairwise (·<·)->(acc++row).length<=20->p∈S.players->
  (∀h∈row,h.1<S.aO.length/\h.2∈S.ao.map (·.1))->vJ S->Runs S (row.map fun h=>.holds p h.1 h.2) {S with holds:=base++[(p,acc++row)]}
 | [],acc,S,eS,_,_,_,_,_=>by
  show S=_;rw[zV,<-eS]
 | h::r,acc,S,eS,asc,al,hp,hx,sz=>by
  obtain⟨hb,hi⟩:=hx h zr;have asc':=asc;rw[zk,zU] at asc';rw[zh,zv] at al;have hd:sg S:=by
   refine⟨?_,?_,?_⟩
   ·rw[eS,zk,zT]
    exact⟨nd,by simp,fun x hx y hy e=>by simp at hy;subst hy;subst e;exact nb hx⟩
   ·rw[eS,zh];simp;omega
   ·intro q hq
    rw[eS] at hq;rcases zG.mp hq with z | z
    ·exact bb q z
    ·rw[zA.mp z];show acc.length<=1000000;omega
  refine⟨Dh (acc:=acc) (by rw[eS,Li nb];rfl) (fun a ha=>asc'.2.2 a.1 (zP (f:=fun x:Int×Str=>x.1) ha) h.1 (by rw[zj];exact zr)) nofun hp hb hi,trivial,hd,sz,?_⟩;have ih:=Gf nb nd bl bb (row:=r) (acc:=acc++[h]) (S:=bS S (.holds p h.1 h.2)) (by show fw S.holds p (h.1,h.2)=_;rw[eS,Oa nb]) (by rw[zF];exact asc) (by simp only[zh,zv,List.length_nil];omega) hp (fun x hx'=>hx x (zp _ hx')) sz;have e:({bS S (.holds p h.1 h.2) with holds:=base++[(p,acc++[h]++r)]}:cB)={S with holds:=base++[(p,acc++h::r)]}:=by
   show({S with holds:=base++[(p,acc++[h]++r)]}:cB)=_;rw[zF];rfl
  rw[e] at ih;exact ih
theorem Ah:∀{l:List (Str×List (Int×Str))} {S:cB},((S.holds++l).map (·.1)).Nodup->(S.holds++l).length<=999999->(∀x∈l,x.2≠[]/\x.2.length<=20/\(x.2.map (·.1)).Pairwise (·<·)/\x.1∈S.players/\∀h∈x.2,h.1<S.aO.length/\h.2∈S.ao.map (·.1))->sg S->vJ S->
  Runs S (l.map fun x=>x.2.map fun h=>Told.holds x.1 h.1 h.2).flatten {S with holds:=S.holds++l}
 | [],S,_,_,_,_,_=>by
  show S=_;rw[zV]
 | x::r,S,nd,hl,hx,hd,sz=>by
  obtain⟨ne,xl,asc,hp,hh⟩:=hx x zr;obtain⟨h,t,et⟩:=List.exists_cons_of_ne_nil ne;have nd':=nd;rw[zk,zT] at nd';have nb:x.1∉S.holds.map (·.1):=fun z=>nd'.2.2 x.1 z x.1 (by rw[zj];exact zr) rfl;rw[zh,zv] at hl;rw[zj,ya];refine Runs.app (S1:={S with holds:=S.holds++[x]}) ?_ ?_
  ·rw[et] at xl asc hh ⊢
   obtain⟨hb,hi⟩:=hh h zr;refine⟨Dh (acc:=[]) (by rw[Nr nb];rfl) (by simp) (by simp) hp hb hi,trivial,hd,sz,?_⟩;have ea:bS S (.holds x.1 h.1 h.2)={S with holds:=S.holds++[(x.1,[h])]}:=by
    show({S with holds:=fw S.holds x.1 (h.1,h.2)}:cB)=_;unfold fw;rw[if_neg nb]
   rw[ea];have rr:=Gf (p:=x.1) nb hd.1 nofun hd.2.2 (row:=t) (acc:=[h]) (S:={S with holds:=S.holds++[(x.1,[h])]}) rfl asc xl hp (fun y hy=>hh y (zp _ hy)) sz;have ex:x=(x.1,[h]++t):=by rw[List.singleton_append,<-et]
   have e2:({({S with holds:=S.holds++[(x.1,[h])]}:cB) with holds:=S.holds++[(x.1,[h]++t)]}:cB)={S with holds:=S.holds++[x]}:=by rw[<-ex]
   rw[e2] at rr;exact rr
  ·have ih:=Ah (l:=r) (S:={S with holds:=S.holds++[x]}) (by show((S.holds++[x]++r).map _).Nodup;rw[zF];exact nd) (by show(S.holds++[x]++r).length<=999999;simp only[zh,zv,List.length_nil];omega) (fun y hy=>hx y (zp _ hy)) ?_ sz
   ·have e:({({S with holds:=S.holds++[x]}:cB) with holds:=S.holds++[x]++r}:cB)={S with holds:=S.holds++x::r}:=by rw[zF];rfl
    exact e▸ih
   ·refine⟨?_,?_,?_⟩
    ·show((S.holds++[x]).map _).Nodup
     have:=List.Nodup.sublist (List.Sublist.map (fun x:Str×List (Int×Str)=>x.1) (List.Sublist.append (List.Sublist.refl S.holds) (List.singleton_sublist.mpr zr))) nd;exact this
    ·show(S.holds++[x]).length<=1000000
     rw[zh];simp;omega
    ·intro q hq
     have hq':q∈S.holds++[x]:=hq;rcases zG.mp hq' with z | z
     ·exact hd.2.2 q z
     ·rw[zA.mp z];omega
def xS (n:Nat):List Rep->List Rep->Prop
 | _,[]=>True
 | rs,r::l=>(∀b∈[r.first,r.last]++r.ends.map (·.1),b<(n:Int))/\mC rs r=true/\(Iu r.ends<64/\r.ends.length<=1000/\-1000000<=r.times/\r.times<=1000000)/\xS n (rs++[r]) l
def NH {S:cB} {bs:List Int} (h:∀b∈bs,b<(S.aO.length:Int)):S.has bs=true:=yp.mpr fun b hb=>zg (h b hb)
theorem CY:∀{l:List Rep} {S:cB},S.b9=none->xS S.aO.length S.repeats l->(S.repeats++l).length<=20->sg S->vJ S->Runs S (l.map .rep) {S with repeats:=S.repeats++l}
 | [],S,_,_,_,_,_=>by
  show S=_;rw[zV]
 | r::l,S,nj,⟨h1,h2,h3,h4⟩,hl,hd,sz=>by
  rw[zh,zv] at hl;refine⟨?_,h3,hd,sz,?_⟩
  ·unfold fault
   dsimp only;rw[if_neg (fun z=>z (NH h1)),if_neg (by rw[nj];simp),if_neg (fun z=>z h2),if_neg nofun]
  ·have ih:=CY (l:=l) (S:=bS S (.rep r)) nj h4 (by show(S.repeats++[r]++l).length<=20;simp only[zh,zv,List.length_nil];omega) hd ⟨sz.1,sz.2.1,sz.2.2.1,sz.2.2.2.1,sz.2.2.2.2.1,by show(S.repeats++[r]).length<=1000000;rw[zh];simp;omega⟩
   have e:({bS S (.rep r) with repeats:=(bS S (.rep r)).repeats++l}:cB)={S with repeats:=S.repeats++r::l}:=by
    show({S with repeats:=S.repeats++[r]++l}:cB)=_;rw[zF];rfl
   rw[e] at ih;exact ih
def K2 {S:cB} {j:Jump} (nj:S.b9=none) (hb:∀b∈[j.uB,j.wu,j.cW]++j.gf.toList,b<(S.aO.length:Int)) (hf:iH S.repeats j=true) (ro:Fu S) (hd:sg S) (sz:vJ S):Runs S [.b9 j] {S with b9:=some j}:=by
 refine⟨?_,ro,hd,sz,rfl⟩;unfold fault;dsimp only;rw[if_neg (by rw[nj];simp),if_neg (fun z=>z (NH hb)),if_neg (fun z=>z hf)]
structure US (S:cB):Prop where
 pn:S.players.Nodup
 pl:S.players.length<=12
 U7:(S.ao.map (·.1)).Nodup
 il:S.ao.length<=12
 sn:(S.aM.map (·.1)).Nodup
 sf:(S.aM.map (·.2)).flatten.Nodup
 sp:∀x∈S.aM,∀p∈x.2,p∈S.players
 sl:∀x∈S.aM,x.2.length<=1000
 sc:S.aM.length<=1000000
 bl:S.aO.length<=200
 lu:Qk S
 up:∀u,S.aI=some u->S.aO.length≠0/\u.1*(S.aU 0).2<(S.aU 0).1*u.2/\BE 8999 u
 hn:(S.holds.map (·.1)).Nodup
 hl:S.holds.length<=999999
 hx:∀x∈S.holds,x.2≠[]/\x.2.length<=20/\(x.2.map (·.1)).Pairwise (·<·)/\x.1∈S.players/\∀h∈x.2,h.1<S.aO.length/\h.2∈S.ao.map (·.1)
 nn:(S.aK.map (·.1)).Nodup
 nl:S.aK.length<=1000000
 nx:∀x∈S.aK,0<=x.1.1/\x.1.1<S.aO.length/\x.1.2∈S.players/\x.2.length<=40/\(∀it∈x.2,Ov it.2)/\kR x.2=S.len x.1.1.toNat
 rf:xS S.aO.length [] S.repeats
 rl:S.repeats.length<=20
 ro:Fu S
 ju:∀j,S.b9=some j->(∀b∈[j.uB,j.wu,j.cW]++j.gf.toList,b<(S.aO.length:Int))/\iH S.repeats j=true
def ML {S:cB} (V:US S):Runs {} (eU S) S:=by
 have hd0:∀T:cB,T.holds=[]->sg T:=fun T e=>by
  refine⟨by rw[e];exact List.nodup_nil,by rw[e];exact yg _,fun q hq=>by rw[e] at hq;cases hq⟩
 have hdS:∀T:cB,T.holds=S.holds->sg T:=fun T e=>by
  refine⟨by rw[e];exact V.hn,by rw[e];have:=V.hl;omega,fun q hq=>?_⟩;rw[e] at hq;have:=(V.hx q hq).2.1;omega
 have b1:=V.pl;have b2:=V.il;have b3:=V.sc;have b4:=V.bl;have b5:=V.nl;have b6:=V.rl;have szP:∀T:cB,(T.players=[]\/T.players=S.players)->(T.ao=[]\/T.ao=S.ao)->(T.aM=[]\/T.aM=S.aM)->(T.aO=[]\/T.aO=S.aO)->(T.aK=[]\/T.aK=S.aK)->(T.repeats=[]\/T.repeats=S.repeats)->vJ T:=fun T q1 q2 q3 q4 q5 q6=>by
  refine⟨?_,?_,?_,?_,?_,?_⟩
  ·rcases q1 with e | e <;> rw[e] <;> first | exact yg _ | omega
  ·rcases q2 with e | e <;> rw[e] <;> first | exact yg _ | omega
  ·rcases q3 with e | e <;> rw[e] <;> first | exact yg _ | omega
  ·rcases q4 with e | e <;> rw[e] <;> first | exact yg _ | omega
  ·rcases q5 with e | e <;> rw[e] <;> first | exact yg _ | omega
  ·rcases q6 with e | e <;> rw[e] <;> first | exact yg _ | omega
 have r1:=tw (l:=S.players) (S:={}) V.pn b1 (hd0 _ rfl) (szP _ (.inl rfl) (.inl rfl) (.inl rfl) (.inl rfl) (.inl rfl) (.inl rfl));have r2:=Ag (l:=S.ao) (S:={players:=S.players}) V.U7 b2 (hd0 _ rfl) (szP _ (.inr rfl) (.inl rfl) (.inl rfl) (.inl rfl) (.inl rfl) (.inl rfl));have r3:=wd (l:=S.aM) (S:={players:=S.players,ao:=S.ao}) V.sn V.sf V.sp V.sl b3 (hd0 _ rfl) (szP _ (.inr rfl) (.inr rfl) (.inl rfl) (.inl rfl) (.inl rfl) (.inl rfl));have r4:=CZ (l:=S.aO) (S:={players:=S.players,ao:=S.ao,aM:=S.aM}) b4 (hd0 _ rfl) (szP _ (.inr rfl) (.inr rfl) (.inr rfl) (.inl rfl) (.inl rfl) (.inl rfl));have r5:Runs {players:=S.players,ao:=S.ao,aM:=S.aM,aO:=S.aO} (S.aI.toList.map .aI) {players:=S.players,ao:=S.ao,aM:=S.aM,aO:=S.aO,aI:=S.aI}:=by
  cases q:S.aI with
  | none=>exact rfl
  | some u=>
   obtain⟨u1,u2,u3⟩:=V.up u q;exact Ge (S:={players:=S.players,ao:=S.ao,aM:=S.aM,aO:=S.aO}) rfl u1 u2 rfl u3 V.lu (hd0 _ rfl) (szP _ (.inr rfl) (.inr rfl) (.inr rfl) (.inr rfl) (.inl rfl) (.inl rfl))
 have r6:=Ah (l:=S.holds) (S:={players:=S.players,ao:=S.ao,aM:=S.aM,aO:=S.aO,aI:=S.aI}) V.hn V.hl V.hx (hd0 _ rfl) (szP _ (.inr rfl) (.inr rfl) (.inr rfl) (.inr rfl) (.inl rfl) (.inl rfl));have r7:=Af (l:=S.aK) (S:={players:=S.players,ao:=S.ao,aM:=S.aM,aO:=S.aO,aI:=S.aI,holds:=S.holds}) V.nn b5 V.lu V.nx (hdS _ rfl) (szP _ (.inr rfl) (.inr rfl) (.inr rfl) (.inr rfl) (.inl rfl) (.inl rfl));have r8:=CY (l:=S.repeats) (S:={players:=S.players,ao:=S.ao,aM:=S.aM,aO:=S.aO,aI:=S.aI,holds:=S.holds,aK:=S.aK}) rfl V.rf b6 (hdS _ rfl) (szP _ (.inr rfl) (.inr rfl) (.inr rfl) (.inr rfl) (.inr rfl) (.inl rfl));have r9:Runs {players:=S.players,ao:=S.ao,aM:=S.aM,aO:=S.aO,aI:=S.aI,holds:=S.holds,aK:=S.aK,repeats:=S.repeats} (S.b9.toList.map .b9) S:=by
  obtain⟨s1,s2,s3,s4,s5,s6,s7,s8,s9⟩:=S;cases s9 with
  | none=>exact rfl
  | some j=>
   obtain⟨j1,j2⟩:=V.ju j rfl;exact K2 (S:={players:=s1,ao:=s2,aM:=s3,aO:=s4,aI:=s5,holds:=s6,aK:=s7,repeats:=s8}) rfl j1 j2 V.ro (hdS _ rfl) (szP _ (.inr rfl) (.inr rfl) (.inr rfl) (.inr rfl) (.inr rfl) (.inr rfl))
 exact Runs.app (Runs.app (Runs.app (Runs.app (Runs.app (Runs.app (Runs.app r1 r2) r3) r4) r5) r6) r7) (Runs.app r8 r9)
inductive wQ (K:yB) (vs:List V) (H:Hp) (Q:VK) (E:XK):Prop
 | mk (a:Addr) (ns:List Int) (k:Int) (_:vs=[.ref a,.int k]) (_:aL K H a (ns.map V.int)) (_:0<=k) (_:ns.length<=1000) (_:∀c:Int,Q (.int c) H)
def wY:aF ["_law_script","_law_k"] ["_law_script","_law_k"] (aq oZ):=dH
def ck:di P w base 1 T.cH (wQ K):=by
 nomatch T.cH,wY
 obtain⟨a,ns,k,rfl,hS,h0,hl,kk⟩:=h;refine⟨_,(ag (aJ (ptr fA (pv 1) (eQ aG T.bC (ah (pv 0) af)))
  (ak (au (gd (pv 0) (pv 1))))
  aD)
  (ak (au ae))),?_⟩
 exists a,_,rfl,.inl hS,?_;left;refine xh (fun c1=>?_) (fun c1=>?_)
 ·have c2:=ye c1
  rw[za] at c2;change⟨a,_,_,_,rfl,rfl,hS,N7 h0 c2,kk _⟩
 ·left
  exact kk _
inductive uM (vs:List V) (H:Hp) (Q:VK) (E:XK):Prop
 | mk (c m:Int) (_:vs=[.int c,.int m]) (_:0<=c) (_:c<1099511627776) (_:0<=m) (_:m<=12) (_:∀(ns:List Str) p H',ns.length=m.toNat->Bz ns->aB H H'->H' p=some (.lst (ns.map V.str))->Q (.ref p) H')
def dy:aF ["_law_cell","_law_many","_law_letters","_law_first","_law_size","_law_place","_law_stem"] ["_law_cell","_law_many"] (aq nK):=dH
def fm:di P w base 1 T.eI uM:=by
 nomatch T.eI,dy
 obtain⟨c,m,rfl,c0,c1,m0,m1,kk⟩:=h;have sl:=yC;refine⟨_,(ag (bT 2 dy.nd aN)
  (ag (bT 3 dy.nd (ax aV (ax aX (pv 0) ae) ae))
  (ag (aJ (PW.pt (dI (ptr dj (ax aV (pv 0) ae) ae) (dn (ptr fA (pv 1) ae))))
  (ak (au (qh (ts:=["_law_k"]) (ys:=["_law_many","_law_letters","_law_first"]) (js:=[1,2,3]) (te:=(fP P5 (fP OU (bf 2) (bf 3)) (fP (wj fun i j=>.int (i-j)) (bf 1) (bf 0)))) (de (by rfl) T.cR (aa (pv 1) af)) (hJ 0) bD (ax O6 (Aq EE (pv 2) (pv 3) (fun _ _=>rfl)) (ax jT (pv 1) (pv 0))))))
  aD)
  (ag (bT 4 dy.nd (ax aV (ax aX (pv 0) ae) ae))
  (ag (bT 5 dy.nd (ax aV (ax aX (pv 0) ae) (ax aY (pv 4) ae)))
  (ag (bT 6 dy.nd (bY yG yI yH hX aN (aa (qh (ts:=["_law_k"]) (ys:=["_law_cell","_law_letters"]) (js:=[0,2]) (te:=(fP OU (fP (fun x y H Q=>∃i j,x=.str i/\y=.str j/\i.length+j.length<=sizeLine/\Q (.str (i++j)) H) (bf 2) (tC (.str "0123456789"))) (fP (rI (fun _ j=>0<j) fun i j=>.int (i%j)) (fP (wj fun i j=>.int (i+j)) (fP (rI RQ fun i j=>.int (i/j)) (bf 1) (tC (.int (16224)))) (fP (rI L7 fun i j=>.int (i*j)) (tC (.int (7))) (bf 0))) (tC (.int (36)))))) (de (by rfl) T.cR (aa (pv 4) af)) (hJ 0) bD (Aq EE (ax b7 (pv 2) aN) (ax aV (ax aY (ax aX (pv 1) ae) (ax dJ ae (pv 0))) ae) (fun _ _=>rfl))) af)))
  (ak (au (qh (ts:=["_law_k"]) (ys:=["_law_letters","_law_first","_law_place","_law_stem"]) (js:=[2,3,5,6]) (te:=(fP (fun x y H Q=>∃i j,x=.str i/\y=.str j/\i.length+j.length<=sizeLine/\Q (.str (i++j)) H) (fP (fun x y H Q=>∃i j,x=.str i/\y=.str j/\i.length+j.length<=sizeLine/\Q (.str (i++j)) H) (Ub QT (bf 4) DI (Mv (bf 3))) (fP OU (bf 1) (fP (rI (fun _ j=>0<j) fun i j=>.int (i%j)) (fP (wj fun i j=>.int (i+j)) (bf 2) (fP (rI L7 fun i j=>.int (i*j)) (tC (.int (5))) (bf 0))) (tC (.int (26)))))) (Ub QT (bf 4) (Mv (bf 3)) DI))) (de (by rfl) T.cR (aa (pv 1) af)) (hJ 0) bD (ax b7 (ax b7 (dP IB (pv 4) eO (eN (pv 3))) (Aq EE (pv 1) (ax aV (ax aY (pv 2) (ax dJ ae (pv 0))) ae) (fun _ _=>rfl))) (dP IB (pv 4) (eN (pv 3)) eO))))))))))),?_⟩
 ac_rfl;left
 by_cases q:c%4=0
 ·refine cb (by show decide (V.int (c%4)=V.int 0)=true;rw[q];rfl) ?_
  left;refine cb (zg nofun) ?_;exists by omega,nofun,?_
  have f0:0<=c/4%26:=zw _ ∅;have f1:c/4%26<26:=zt _ ∅;refine mT (fun k=>.str (rC ⟨#[97+(c/4%26).toNat]⟩ (m.toNat-k))) (fun σ=>∃v,σ=[v,some (.int m),some (.str lets),some (.int (c/4%26))]) nofun ⟨none,rfl⟩ ?_ ?_
  ·rintro k σ H4 R hk s4 ⟨_,rfl⟩ r
   exists lets,_,_,rfl,rfl,(by show 26<=sizeLine;omega),Kc f0 f1,?_;exists by omega,nofun,(by show 1<=1000;decide),?_
   refine r _ _ _ (aB.refl _) ?_ ⟨_,rfl⟩;rw[show(m-(0+(k:Int))).toNat=m.toNat-k from by omega];exact e9
  ·intro D vs H4 s4 _ hD il
   have e:(List.range m.toNat).map (fun k=>Dt.str (rC ⟨#[97+(c/4%26).toNat]⟩ (m.toNat-k)))=((List.range m.toNat).map fun k=>rC ⟨#[97+(c/4%26).toNat]⟩ (m.toNat-k)).map Dt.str:=by rw[zB];rfl
   rw[e] at il;rw[d4 il] at hD;exact kk _ D H4 (by rw[za,zR]) (Lf nofun (Nw f0 f1)) s4 hD
 ·refine cq (by show decide (V.int (c%4)=V.int 0)=false;exact ze fun z=>q (V.int.inj z)) ?_
  have f0:0<=c/4%26:=zw _ ∅;have f1:c/4%26<26:=zt _ ∅;have z0:0<=c/104%12:=zw _ ∅;have z1:c/104%12<12:=zt _ ∅;have y0:0<=c/1248%(c/104%12+1):=zw _ nofun;have y1:c/1248%(c/104%12+1)<c/104%12+1:=zt _ nofun;have x0:0<=c/16224:=zW c0 ∅;have x1:c/16224<=c:=zX _ c0;exists by show 0<c/104%12+1;omega,?_
  exists by omega,nofun,?_
  refine mT (fun k=>.str ⟨#[OL ((c/16224+7*(0+(k:Nat)))%36)]⟩) (fun σ=>∃v,σ=[v,some (.int c),some (.str lets)]) nofun ⟨none,rfl⟩ ?_ ?_
  ·rintro k σ H4 R hk s4 ⟨_,rfl⟩ r
   exists by show 26+10<=sizeLine;omega,?_
   left;have w0:0<=(c/16224+7*(0+(k:Int)))%36:=zw _ ∅;have w1:(c/16224+7*(0+(k:Int)))%36<36:=zt _ ∅;refine⟨lets ++"0123456789",_,_,rfl,rfl,by show 36<=sizeLine;omega,(MI w0 w1).1,?_⟩;exact r _ _ _ (aB.refl _) e9 ⟨_,rfl⟩
  ·intro D vs H4 s4 _ hD il
   have e:(List.range (c/104%12).toNat).map (fun k:Nat=>Dt.str ⟨#[OL ((c/16224+7*(0+(k:Nat)))%36)]⟩)=(oE c (c/104%12).toNat).map Dt.str:=by unfold oE;rw[zB];rfl
   rw[e] at il;rw[d4 il] at hD;refine⟨"",D,oE c (c/104%12).toNat,rfl,rfl,aL.of hD,by rw[MC];omega,?_⟩;exists by omega,nofun,?_
   have sln:=ME c (c/104%12).toNat;have ssg:=MD (c:=c) (n:=(c/104%12).toNat);generalize hst:Str.join "" (oE c (c/104%12).toNat)=stem at sln ssg;obtain⟨pn,hpn⟩:∃n:Nat,c/1248%(c/104%12+1)=(n:Int):=⟨(c/1248%(c/104%12+1)).toNat,nofun⟩
   obtain⟨fn,hfn⟩:∃n:Nat,c/4%26=(n:Int):=⟨(c/4%26).toNat,nofun⟩
   have pb:pn<=stem.length:=nofun
   have l1:(Txt.slice stem none (some (pn:Int))).length<=11:=by
    rw[<-show _=(Txt.slice stem none (some (pn:Int))).length from Array.length_toList,F5 stem pb,zQ];omega
   have l2:(Txt.slice stem (some (pn:Int)) none).length<=11:=by
    rw[<-show _=(Txt.slice stem (some (pn:Int)) none).length from Array.length_toList,q9 stem pb,List.length_drop,show stem.cps.toList.length=stem.length from Array.length_toList];omega
   refine mT (fun k=>.str (Txt.slice stem none (some (pn:Int))++⟨#[97+(fn+5*k)%26]⟩++Txt.slice stem (some (pn:Int)) none)) (fun σ=>∃v,σ=[v,some (.str lets),some (.int (fn:Int)),some (.int (pn:Int)),some (.str stem)]) nofun ⟨none,by rw[<-hpn,<-hfn];rfl⟩ ?_ ?_
   ·rintro k σ H5 R hk s5 ⟨_,rfl⟩ r
    exists by omega,?_
    left;have w0:0<=((fn:Int)+5*(0+(k:Int)))%26:=zw _ ∅;have w1:((fn:Int)+5*(0+(k:Int)))%26<26:=zt _ ∅;have we:(((fn:Int)+5*(0+(k:Int)))%26).toNat=(fn+5*k)%26:=nofun
    refine⟨lets,_,_,rfl,rfl,by show 26<=sizeLine;omega,Kc w0 w1,?_⟩;rw[we];have l3:(⟨#[97+(fn+5*k)%26]⟩:Str).length=1:=rfl;refine⟨_,_,rfl,rfl,nofun,?_⟩;exists by omega,?_
    refine⟨_,_,rfl,rfl,by rw[len_app];omega,?_⟩;exact r _ _ _ (aB.refl _) e9 ⟨_,rfl⟩
   ·intro D2 vs2 H5 s5 _ hD2 il2
    have e:(List.range m.toNat).map (fun k=>Dt.str (Txt.slice stem none (some (pn:Int))++⟨#[97+(fn+5*k)%26]⟩++Txt.slice stem (some (pn:Int)) none))=((List.range m.toNat).map fun k=>Txt.slice stem none (some (pn:Int))++⟨#[97+(fn+5*k)%26]⟩++Txt.slice stem (some (pn:Int)) none).map Dt.str:=by rw[zB];rfl
    rw[e] at il2;rw[d4 il2] at hD2;exact kk _ D2 H5 (by rw[za,zR]) (IV nofun pb ssg nofun) (s4.trans s5) hD2
def uK:Sp:=fun vs H Q _=>∃(m:Int),vs=[.int m]/\0<=m/\∀q p H',Og q->aB H H'->H' p=some (fR q)->Q (.ref p) H'
def gM:aF ["_law_m","_law_f","_law_high"] ["_law_m"] (aq nI):=dH
def u7:di P w base 1 T.lG uK:=by
 nomatch T.lG,gM
 obtain⟨m,rfl,m0,kk⟩:=h;have a:=zw m (b:=41) ∅;have b:=zt m (b:=41) ∅;have c:=zw (m/41) (b:=14) ∅;have d:=zt (m/41) (b:=14) ∅;refine⟨_,(ag (bT 1 gM.nd (ax jT (ax aV (pv 0) ae) ae))
  (ag (bT 2 gM.nd (ax dJ (ax jT (ax aV (ax aX (pv 0) ae) ae) ae) ae))
  (ak (au (bG (aa (pv 1) (aa (ax aY (ax aV (ax dJ ae (pv 1)) ae) (pv 2)) af))))))),?_⟩
 ac_rfl;exists cT,?_;intros p1 H1 s1 h1;change kk _ _ _ (K9 m) s1 h1
inductive uN (vs:List V) (H:Hp) (Q:VK) (E:XK):Prop
 | mk (m:Int) (x:Int×Int) (q:Addr) (_:vs=[.int m,.ref q]) (_:H q=some (fR x)) (_:0<=m) (_:m<1099511627776) (_:Ia x) (_:∀(its:List Item) p us H',Fx its x->aB H H'->H p=none->H' p=some (.lst us)->aE H' (its.map fe) us->Q (.ref p) H')
def dz:aF ["_law_m","_law_length","_law_many","_law_weights","_law_items","_law_j","_law_each"] ["_law_m","_law_length"] (aq nL):=dH
def vb:di P w base 2 T.lI uN:=by
 nomatch T.lI,dz
 obtain⟨m,x,q,rfl,hq,m0,m1,xok,kk⟩:=h;have sl:=yC;have a:=zw m (b:=6) ∅;have b:=zt m (b:=6) ∅;obtain⟨n,hn⟩:∃n:Nat,1+m%6=(n:Int):=⟨(1+m%6).toNat,nofun⟩
 refine⟨_,(ag (bT 2 dz.nd (ax aY ae (ax aV (pv 0) ae)))
  (ag (Oo (i:=3) (ts:=["_law_j"]) (ys:=["_law_m"]) (js:=[0]) (te:=(fP (wj fun i j=>.int (i+j)) (tC (.int (1))) (fP (rI (fun _ j=>0<j) fun i j=>.int (i%j)) (fP (rI RQ fun i j=>.int (i/j)) (bf 1) (fP (wj fun i j=>.int (i+j)) (tC (.int (7))) (fP (rI L7 fun i j=>.int (i*j)) (tC (.int (5))) (bf 0)))) (tC (.int (4)))))) (de (by rfl) T.cR (aa (pv 2) af)) (hJ 0) bD (ax aY ae (ax aV (ax aX (pv 1) (ax aY ae (ax dJ ae (pv 0)))) ae)) dz.nd)
  (ag (bT 4 dz.nd (bB af))
  (ag (cE PassesOwn.never rfl (de (by rfl) T.cR (aa (pv 2) af)) (jR 5 dz.nd)
  (ag (bT 6 dz.nd (bK (eY T) hr T.fg (aa (ax dJ (bO (pv 1) ae) (gd (pv 3) (pv 5))) (aa (ax dJ (bO (pv 1) ae) (eQ (LL rfl) T.Su (aa (pv 3) af))) af))))
   (ak (aJ (PW.pt (dI (ptr lT (pv 5) (ax aV (ax aX (pv 0) ae) (pv 2))) (dn (ptr dj (ax Q6 (ax Q5 (ax aX (pv 0) ae) (pv 5)) ae) ae))))
   (ak (bJ (bY yD yF yE bH (pv 4) (aa (bG (aa aW (aa (pv 6) af))) af))))
   (ak (bJ (bY yD yF yE bH (pv 4) (aa (bG (aa (bK (u7 T) hr T.lG (aa (ax aX (pv 0) (ax aY ae (ax dJ ae (pv 5)))) af)) (aa (pv 6) af))) af))))))))
  (ak (au (pv 4))))))),?_⟩
 ac_rfl;exists by omega,nofun,?_
 rw[show(1+m%6).toNat=n from by omega];refine mT (fun j=>.int (1+m/(7+5*(0+(j:Nat)))%4)) (fun σ=>∃v,σ=[v,some (.int m)]) nofun ⟨none,rfl⟩ ?_ ?_
 ·rintro j σ H1 R hj s1 ⟨_,rfl⟩ r
  exists⟨nofun,nofun⟩,?_;change r _ _ _ (aB.refl _) cX ⟨_,rfl⟩
 ·intro D0 vs0 H1 s1 _ hD0 il0
  have e:(List.range n).map (fun j:Nat=>Dt.int (1+m/(7+5*(0+(j:Nat)))%4))=(uC m n).map Dt.int:=by unfold uC;rw[zB];rfl
  rw[e] at il0;rw[fq il0] at hD0;exists by show 0<=sizeLine;omega,?_
  intro D nD;have s2:aB H1 (upd H1 D (.lst [])):=aS nD;have h2:upd H1 D (.lst []) D=some (.lst []):=aC;generalize upd H1 D (.lst [])=H2 at s2 h2 ⊢;have nDH:H D=none:=s1.back nD;exists by omega,nofun,?_
  rw[show(1+m%6).toNat=n from by omega];obtain⟨xr,x1,x2,x3⟩:=id xok;obtain⟨_,xp,_⟩:=xr.pos;have wl:=Oy m n;have wb:=MA (l:=uC m n) fun w hw=>Ij hw;have W0:0<(uC m n).sum:=nofun
  have W2:(uC m n).sum<=24:=nofun
  have j0a:0<=m/4%(n:Int):=zw _ nofun;have j0b:m/4%(n:Int)<n:=zt _ nofun;refine fX (fun i σ H'=>∃(its:List Item) (us:List V) (v5 v6:Option V),σ=[some (.int m),some (.ref q),some (.int (1+m%6)),some (.ref D0),some (.ref D),v5,v6]/\aB H1 H'/\H' D=some (.lst us)/\aE H' (its.map fe) us/\its.length=i/\(∀it∈its,L5 it)/\
   kR its=red (x.1*((uC m n).take i).sum) (x.2*(uC m n).sum)/\(m/4%(n:Int)<i->its.all (fun it=>it.1.isNone)=false)) ⟨[],[],none,none,rfl,s2,h2,cO,rfl,by simp,Mz xp W0,fun z=>by exfalso;simp at z;omega⟩ ?_ ?_
  ·intro i σ H3 hi hh
   refine df fun N kN0 kR0 _ _=>?_;obtain⟨its,us,v5,v6,rfl,s3,h3,il3,il,iok,isum,ino⟩:=hh;have hq3:=s3 _ _ (s1 _ _ hq);have hD3:=s3 _ _ hD0;have hwi:(uC m n)[i]?=some ((uC m n)[i]'nofun):=zd nofun;obtain⟨w1,w2⟩:=Ij (zC hwi);generalize (uC m n)[i]'nofun=wi at hwi w1 w2;left;refine⟨D0,_,_,_,rfl,rfl,aL.of hD3,(by rw[Int.zero_add];exact bE (by rw[zK,hwi];rfl)),?_⟩;exists .inl ⟨nofun,nofun⟩,?_;exists D0,_,rfl,aL.of hD3,fun w hw=>by have:=Ij hw;omega,nofun,?_
   exists .inl ⟨nofun,nofun⟩,?_;have lk:=Nt xok w1 w2 W0 W2;have b1:0<x.2*(uC m n).sum:=Int.mul_pos xp W0;have b2:x.2*(uC m n).sum<=160*24:=Int.mul_le_mul x3 W2 nofun ∅;have t0:0<=x.1*wi:=Int.mul_nonneg nofun nofun;refine⟨_,_,rfl,t0,b1,(cw (n:=12) nofun nofun).mono ∅,fun p6 H6 s6 h6=>?_⟩;exists by show 0<1+m%6;omega,?_
   left;have nD6:H6 D=some (.lst us):=s6 _ _ h3;have il6:=il3.mono s6;have e6:(uC m n).take (i+1)=(uC m n).take i++[wi]:=cZ hwi;have ps:∀it:Item,it.2=red (x.1*wi) (x.2*(uC m n).sum)->kR (its++[it])=red (x.1*((uC m n).take (i+1)).sum) (x.2*(uC m n).sum):=fun it e=>by
    rw[e6,List.sum_append];have:[wi].sum=wi:=by simp
    rw[this];exact My xp W0 isum e
   refine eG ((!decide (V.int (0+(i:Int))=V.int (m/4%(1+m%6))))&&decide (V.int (Builtin.bitAnd (m/16/2^(0+(i:Int)).toNat) 1)=V.int 1)) ?_ ?_ ?_
   ·intro c Z hz
    rw[c,Bool.true_and] at hz;exists by show 0<=0+(i:Int);omega,?_
    change hz
   ·intro c;rw[c,Bool.false_and]
   ·cases qv:((!decide (V.int (0+(i:Int))=V.int (m/4%(1+m%6))))&&decide (V.int (Builtin.bitAnd (m/16/2^(0+(i:Int)).toNat) 1)=V.int 1)) with
    | true=>
     have ne:(i:Int)≠m/4%(n:Int):=fun z=>by
      rw[Int.zero_add,z,hn] at qv;simp at qv
     exists .inl ⟨rfl,_,aL.of nD6⟩,?_;exists cT,?_;intros p7 H7 s7 h7;refine⟨D,us,_,rfl,rfl,s7 _ _ nD6,(by have:=aT il3;omega),?_⟩;left;have nt:cM (H7 D):=by rw[s7 _ _ nD6];exact fun _ z=>by cases z
     have it7:Is H7 (fe (none,red (x.1*wi) (x.2*(uC m n).sum))) (.ref p7):=cK h7 (aQ d8 (aQ (jh (s7 _ _ h6)) cO));refine⟨its++[(none,red (x.1*wi) (x.2*(uC m n).sum))],_,_,_,rfl,bM nD ((s3.trans s6).trans s7),aC,?_,by rw[zh,il];rfl,fun it hit=>?_,ps _ rfl,fun z=>?_⟩
     ·rw[zk]
      exact dk (Is.upd nt it7) (aE.upd nt (il6.mono s7))
     ·rcases zG.mp hit with y | y
      ·exact iok it y
      ·rw[zA.mp y];exact⟨lk,fun q z=>by cases z⟩
     ·rw[List.all_append,ino nofun,Bool.false_and]
    | false=>
     exists .inl ⟨rfl,_,aL.of nD6⟩,?_;exists⟨nofun,nofun⟩,?_;exists zW m0 nofun,fun pq p8 H8 pok s8 h8=>?_;exists cT,?_;intros p7 H7 s7 h7;have s67:=s8.trans s7;refine⟨D,us,_,rfl,rfl,s67 _ _ nD6,by have:=aT il3;omega,?_⟩;left;have nt:cM (H7 D):=by rw[s67 _ _ nD6];exact fun _ z=>by cases z
     have it7:Is H7 (fe (some pq,red (x.1*wi) (x.2*(uC m n).sum))) (.ref p7):=cK h7 (aQ (jh (s7 _ _ h8)) (aQ (jh (s67 _ _ h6)) cO));refine⟨its++[(some pq,red (x.1*wi) (x.2*(uC m n).sum))],_,_,_,rfl,bM nD ((s3.trans s6).trans s67),aC,?_,by rw[zh,il];rfl,fun it hit=>?_,ps _ rfl,fun z=>?_⟩
     ·rw[zk]
      exact dk (Is.upd nt it7) (aE.upd nt (il6.mono s67))
     ·rcases zG.mp hit with y | y
      ·exact iok it y
      ·rw[zA.mp y];exact⟨lk,fun q z=>by cases z;exact pok⟩
     ·rw[List.all_append];simp
  ·rintro σ H3 ⟨its,us,v5,v6,rfl,s3,h3,il3,il,iok,isum,ino⟩
   left;refine kk its D us H3 ⟨nofun,iok,?_,ino j0b⟩ (s1.trans s3) nDH h3 il3;rw[isum,show(uC m n).take n=uC m n from List.take_of_length_le nofun,KS xr W0]
noncomputable def EC:List (Int×Int):=[(4,4),(3,4),(6,8),(2,2),(5,16),(7,8),(1,32),(12,1)]
def L8 (b:Sc.Me):Prop:=b.aU∈EC/\-7<=b.key/\b.key<=7/\(∀n∈b.marks,gH n)/\b.marks.length<=2
inductive wR (vs:List V) (H:Hp) (Q:VK) (E:XK):Prop
 | mk (c n:Int) (_:vs=[.int c,.int n]) (_:0<=n) (_:n<=200) (_:∀(bs:List Sc.Me) p us H',bs.length=n.toNat->(∀b∈bs,L8 b)->aB H H'->H p=none->H' p=some (.lst us)->aE H' (bs.map l8) us->Q (.ref p) H')
def cj:aF ["_law_cell","_law_many","_law_bars","_law_k","_law_m","_law_metre","_law_key","_law_marks"] ["_law_cell","_law_many"] (aq o6):=dH
def xf:di P w base 2 T.m7 wR:=by
 nomatch T.m7,cj
 obtain⟨c,n,rfl,n0,n1,kk⟩:=h;have sl:=yC;refine⟨_,(ag (bT 2 cj.nd (bB af))
  (ag (cE PassesOwn.never rfl (de (by rfl) T.cR (aa (pv 1) af)) (jR 3 cj.nd)
  (zf (zc (zS (bT 4 cj.nd (bK (bW T) hr T.cG (aa (pv 0) (aa (ax aY (pv 3) ae) af)))))
   (zc (Uu 5 cj.nd (O0 EC (ax aV (pv 4) ae) (fun _ _=>rfl)))
   (zc (zS (bT 6 cj.nd (ax jT (ax aV (ax aX (pv 4) ae) ae) ae)))
   (zc (zS (aJ (PW.pt (dI (ptr fI (pv 3) ae) (dn (ptr fI (ax aV (ax aX (pv 4) ae) ae) ae))))
   (ak (bT 5 cj.nd (bO (gd (pv 2) (tK mj ae)) ae)))
   aD))
   (zc (zS (aJ (PW.pt (dI (ptr fI (pv 3) ae) (dn (ptr fI (ax aV (ax aX (pv 4) ae) ae) ae))))
   (ak (bT 6 cj.nd (bO (gd (pv 2) (tK mj ae)) ae)))
   aD))
   (zc (zS (bT 7 cj.nd (ox cS T.hV (aa (bK (fm T) hr T.eI (aa (ax aX (pv 4) ae) (aa (gd (bB (aa ae (aa ae (aa ae (aa ae (aa ae (aa ae (aa ae af)))))))) (ax aV (ax aX (pv 4) ae) ae)) af))) af))))
   (zo (zS (bJ (bY yD yF yE bH (pv 2) (aa (bG (aa (pv 5) (aa (pv 6) (aa (pv 7) af)))) af)))))))))))))
  (ak (au (pv 2))))),?_⟩
 ac_rfl;exists by show 0<=sizeLine;omega,?_
 intro D nD;have s2:aB H (upd H D (.lst [])):=aS nD;have h2:upd H D (.lst []) D=some (.lst []):=aC;generalize upd H D (.lst [])=H2 at s2 h2 ⊢;exists by omega,nofun,?_
 refine fX (fun i σ H'=>∃(bs:List Sc.Me) (us:List V),Lo [some (.int c),some (.int n),some (.ref D)] 5 σ/\aB H H'/\H' D=some (.lst us)/\aE H' (bs.map l8) us/\bs.length=i/\∀b∈bs,L8 b)
  ⟨[],[],Lo.of rfl rfl,s2,h2,cO,rfl,by simp⟩ ?_ ?_
 ·intro i σ H3 hi hh
  refine df fun N kN0 kR0 _ _=>?_;obtain⟨bs,us,⟨e,rfl⟩,s3,h3,il3,bl,bok⟩:=hh;exists c,_,rfl,nofun,nofun,?_;have m0:0<=mixed c (0+(i:Int)+20):=zw _ ∅;have m1:mixed c (0+(i:Int)+20)<2147483399:=zt _ ∅;generalize mixed c (0+(i:Int)+20)=m at m0 m1;have a0:0<=m%8:=zw _ ∅;have a1:m%8<8:=zt _ ∅;have b0:0<=m/8%15:=zw _ ∅;have b1:m/8%15<15:=zt _ ∅;left;intro D4 vs4 H4 s4 h4 il4;left;obtain⟨j,hj⟩:∃j:Nat,m%8=(j:Int):=⟨(m%8).toNat,nofun⟩
  have vl4:=aT il4;have jl:j<vs4.length:=by rw[vl4];show j<8;omega
  obtain⟨mx,hmx,imx⟩:=dE (d:=dL) il4 (i:=j) (zd jl);generalize hmv:vs4[j]=mv at imx;have h3':=s4 _ _ h3;have il3':=il3.mono s4;refine⟨D4,vs4,m%8,mv,rfl,rfl,aL.of h4,(by rw[hj];exact bE (by rw[<-hmv];exact zd jl)),?_⟩;left;have lastB:0<(i:Int)->∃b a mt q,us[us.length-1]?=some (.ref a)/\H4 a=some (.tup [mt,.int b.key,.ref q])/\Is H4 (dL b.aU) mt/\b∈bs:=fun ip=>by
   have ul:=aT il3';obtain⟨b,hb,ib⟩:=dE il3' (i:=us.length-1) (zd nofun);obtain⟨a,mt,q,ea,ha,hm,_⟩:=xK ib;exact⟨b,a,mt,q,by rw[<-ea];exact zd nofun,ha,hm,zC hb⟩
  refine eG (decide (0<0+(i:Int))&&decide (0<m/120%4)) ?_ ?_ ?_
  ·intro c1 Z hz
   rw[c1,Bool.true_and] at hz;change hz
  ·intro c1;rw[c1,Bool.false_and]
  refine join (fun σ H'=>H'=H4/\∃mv x,σ=[some (.int c),some (.int n),some (.ref D),some (.int (0+(i:Int))),some (.int m),some mv,some (.int (m/8%15-7)),e 4]/\Is H4 (dL x) mv/\x∈EC) (fun N hN c1=>?_) (fun N hN c1=>?_) ?_
  ·have ip:0<(i:Int):=by simp at c1;omega
   obtain⟨b,a,mt,q,hl,ha,hm,hb⟩:=lastB ip;exists D,us,-1,_,rfl,rfl,aL.of h3',uo hl,?_;change hN _ _ ⟨rfl,mt,b.aU,rfl,hm,(bok b hb).1⟩
  ·left
   exact hN _ _ ⟨rfl,mv,mx,rfl,imx,zC hmx⟩
  clear imx hmv;rintro σ5 H5 ⟨e5,mv,x,rfl,imv,hx⟩;rw[e5];clear e5 H5;left;refine eG (decide (0<0+(i:Int))&&decide (0<m/480%5)) ?_ ?_ ?_
  ·intro c1 Z hz
   rw[c1,Bool.true_and] at hz;change hz
  ·intro c1;rw[c1,Bool.false_and]
  refine join (fun σ H'=>H'=H4/\∃k:Int,σ=[some (.int c),some (.int n),some (.ref D),some (.int (0+(i:Int))),some (.int m),some mv,some (.int k),e 4]/\-7<=k/\k<=7) (fun N hN c1=>?_) (fun N hN c1=>?_) ?_
  ·have ip:0<(i:Int):=by simp at c1;omega
   obtain⟨b,a,mt,q,hl,ha,hm,hb⟩:=lastB ip;exists D,us,-1,_,rfl,rfl,aL.of h3',uo hl,?_;change hN _ _ ⟨rfl,b.key,rfl,(bok b hb).2.1,(bok b hb).2.2.1⟩
  ·left
   exact hN _ _ ⟨rfl,m/8%15-7,rfl,nofun,nofun⟩
  rintro σ5 H5 ⟨e5,k,rfl,k0,k1⟩;rw[e5];clear e5 H5;exists by show 7<=sizeLine;omega,?_
  intros p6 H6 s6 h6;have g0:0<=m/33600%7:=zw _ ∅;have g1:m/33600%7<7:=zt _ ∅;obtain⟨jj,hjj⟩:∃j:Nat,m/33600%7=(j:Int):=⟨(m/33600%7).toNat,nofun⟩
  obtain⟨z,hz,z0,z1⟩:∃z:Int,[V.int 0,V.int 0,V.int 0,V.int 0,V.int 0,V.int 1,V.int 2][jj]?=some (.int z)/\0<=z/\z<=2:=by
   have:jj<7:=nofun
   match jj,this with
   | 0,_=>exact⟨0,rfl,∅,∅⟩
   | 1,_=>exact⟨0,rfl,∅,∅⟩
   | 2,_=>exact⟨0,rfl,∅,∅⟩
   | 3,_=>exact⟨0,rfl,∅,∅⟩
   | 4,_=>exact⟨0,rfl,∅,∅⟩
   | 5,_=>exact⟨1,rfl,∅,∅⟩
   | 6,_=>exact⟨2,rfl,∅,∅⟩
  exists p6,_,m/33600%7,.int z,rfl,rfl,aL.of h6,(by rw[hjj];exact bE hz),?_;left;refine⟨_,z,rfl,zW m0 ∅,?_,z0,nofun,fun ns p7 H7 nl nok s7 h7=>?_⟩
  ·have:=zX (a:=m) 2400 m0;omega
  left;refine⟨p7,_,rfl,.inl ⟨aL.of h7,?_⟩⟩;intros p8 H8 s8 h8;have s48:=(s6.trans s7).trans s8;have h38:=s48 _ _ h3';exists .inl ⟨rfl,_,aL.of h38⟩,?_;exists oI,?_;intros p9 H9 s9 h9;refine⟨D,us,_,rfl,rfl,s9 _ _ h38,(by have:=aT il3;omega),?_⟩;left;have s49:=s48.trans s9;have nt:cM (H9 D):=by rw[s9 _ _ h38];exact fun _ z=>by cases z
  have ib:Is H9 (l8 ⟨x,k,ns⟩) (.ref p9):=cK h9 (aQ (imv.mono s49) (aQ cX (aQ (cK (s9 _ _ h8) (AH ns)) cO)));refine⟨bs++[⟨x,k,ns⟩],_,Lo.of rfl rfl,bM nD ((s3.trans s4).trans s49),aC,?_,by rw[zh,bl];rfl,fun b hb=>?_⟩
  ·rw[zk]
   exact dk (Is.upd nt ib) (aE.upd nt (il3'.mono s49))
  ·rcases zG.mp hb with y | y
   ·exact bok b y
   ·rw[zA.mp y]
    exact⟨hx,k0,k1,nok.1,by show ns.length<=2;omega⟩
 ·rintro σ H3 ⟨bs,us,⟨e,rfl⟩,s3,h3,il3,bl,bok⟩
  change kk bs D us H3 bl bok s3 nD h3 il3
inductive sF (vs:List V) (H:Hp) (Q:VK) (E:XK):Prop
 | mk (bl:Addr) (us:List V) (S:cB) (ub:V) (b:Nat) (_:vs=[.ref bl,ub,.int b]) (_:H bl=some (.lst us)) (_:aE H (S.aO.map l8) us) (_:Is H (dO dL S.aI) ub) (_:b<S.aO.length) (_:(∀x∈S.aO,L8 x)) (_:∀p H',aB H H'->H' p=some (fR (S.len b))->Q (.ref p) H')
def kG {x:Int×Int} (h:x∈EC):1<=x.1/\x.1<=12/\x.2∈Cy/\1<=x.2/\x.2<=32:=by
 unfold EC at h;simp only[zD,zE,or_false] at h;rcases h with rfl | rfl | rfl | rfl | rfl | rfl | rfl | rfl <;> decide
def sM:aF ["_law_bars","_law_upbeat","_law_bar"] ["_law_bars","_law_upbeat","_law_bar"] (aq lP):=dH
def gw:di P w base 2 T.fh sF:=by
 nomatch T.fh,sM
 obtain⟨bl,us,S,ub,b,rfl,hbl,il,iu,hb,bok,kk⟩:=h;have ul:=aT il;obtain⟨x,hx,ix⟩:=dE il (i:=b) (zd nofun);obtain⟨a1,mv,q,ev,h1,im,_⟩:=xK ix;obtain⟨m1,m2,m3,m4,m5⟩:=kG (bok x (zC hx)).1;have em:S.aU b=red x.aU.1 x.aU.2:=by unfold cB.aU;rw[hx]
 cases fC (o:=some x.aU) im with
 | ref hm=>
 rename_i am;refine⟨_,(ag (aJ (PW.pt (dI (ptr dj (pv 2) ae) (dn (bF (gr (pv 1))))))
  (ak (au (pv 1)))
  aD)
  (ak (au (bK (eY T) hr T.fg (aa (bO (bO (gd (pv 0) (pv 2)) ae) ae) (aa (bO (bO (gd (pv 0) (pv 2)) ae) ae) af)))))),?_⟩
 ac_rfl;left;have nz:∀H1,Is H1 (dO dL S.aI) ub->(!decide (ub=V.bR))=S.aI.isSome:=fun H1 z=>by
  cases q:S.aI with
  | none=>rw[q] at z;unfold dO Is at z;rw[z];rfl
  | some u=>
   rw[q] at z;cases fC (o:=some u) z with
   | ref hu=>rfl
 refine eG (decide (V.int (b:Int)=V.int 0)&&S.aI.isSome) ?_ ?_ ?_
 ·intro c Z hz
  rw[c,Bool.true_and,<-nz H iu] at hz;change hz
 ·intro c;rw[c,Bool.false_and]
 ·cases qv:(decide (V.int (b:Int)=V.int 0)&&S.aI.isSome) with
  | true=>
   rw[zO] at qv;have b0:b=0:=by have:=V.int.inj (ye qv.1);omega
   cases q:S.aI with
   | none=>rw[q] at qv;cases qv.2
   | some u=>
    rw[q] at iu;cases fC (o:=some u) iu with
    | ref hu=>
     left;refine kk _ _ (aB.refl _) ?_;unfold cB.len;rw[q];simp only[b0,if_true];exact hu
  | false=>
   have el:S.len b=S.aU b:=by
    unfold cB.len;cases q:S.aI with
    | none=>rfl
    | some u=>
     rw[q] at qv;have:b≠0:=fun z=>by rw[z] at qv;simp at qv
     simp only[if_neg this]
   rw[el,em] at kk;left;refine⟨bl,us,b,_,rfl,rfl,aL.of hbl,bE (zd nofun),?_⟩;rw[ev];left;refine⟨bl,us,b,_,rfl,rfl,aL.of hbl,bE (zd nofun),?_⟩;rw[ev];change⟨_,_,rfl,nofun,nofun,(cw (n:=10) nofun nofun).mono ∅,kk⟩
inductive uO (vs:List V) (H:Hp) (Q:VK) (E:XK):Prop
 | mk (c many:Int) (pp ip:Addr) (ps:List Str) (ins:List (Str×(Int×Int)×(Int×Int))) (iv:List V) (_:vs=[.int c,.ref pp,.ref ip,.int many]) (_:H pp=some (.lst (ps.map V.str))) (_:H ip=some (.lst iv)) (_:aE H (ins.map eK) iv) (_:ps.length<=100) (_:ins.length<=100) (_:many<=200) (_:∀(hs:List (Str×List (Int×Str))) D us H',List.Sublist (hs.map (·.1)) ps->(∀x∈hs,Kw (ins.map (·.1)) many x.2)->aB H H'->H' D=some (.lst us)->RL (ke D H') hs us->Q (.ref D) H')
def Ll {H:Hp} {x:Str×(Int×Int)×(Int×Int)} {v:V} (h:Is H (eK x) v):∃a t l,v=.ref a/\H a=some (.tup [.str x.1,t,l]):=by
 unfold eK Is at h;obtain⟨a,vs,rfl,ha,hl⟩:=h;unfold aE at hl;obtain⟨v1,r1,rfl,h1,hl⟩:=hl;unfold aE at hl;obtain⟨v2,r2,rfl,h2,hl⟩:=hl;unfold aE at hl;obtain⟨v3,r3,rfl,h3,hl⟩:=hl;unfold aE at hl;subst hl;unfold Is at h1;subst h1;exact⟨a,v2,v3,rfl,ha⟩
def bQ:aF ["_law_cell","_law_players","_law_instruments","_law_many","_law_holds","_law_k","_law_player","_law_row","_law_bar","_law_j","_law_m"] ["_law_cell","_law_players","_law_instruments","_law_many"] (aq nM):=dH
def vc:di P w base 2 T.lJ uO:=by
 nomatch T.lJ,bQ
 obtain⟨c,many,pp,ip,ps,ins,iv,rfl,hpp,hip,ili,pl,il0,my,kk⟩:=h;have sl:=yC;have ivl:=aT ili;refine⟨_,(ag (bT 4 bQ.nd (bB af))
  (ag (cE PassesOwn.never rfl (xI (by rfl) T.kF (aa (pv 1) af)) (d6 (n:=2) rfl (aP (jR 5 bQ.nd) (aP (jR 6 bQ.nd) dq)))
  (ag (bT 7 bQ.nd (bB af))
   (ag (bT 8 bQ.nd ae)
   (ag (cE PassesOwn.never rfl (de (by rfl) T.cR (aa ae af)) (jR 9 bQ.nd)
   (ag (bT 10 bQ.nd (bK (bW T) hr T.cG (aa (pv 0) (aa (ax aY (ax aY (ax dJ ae (pv 5)) (pv 9)) ae) af))))
    (ag (bT 8 bQ.nd (ax aY (pv 8) (ax aV (pv 10) ae)))
    (ag (aJ (PW.pt (dI (ptr fA (pv 8) (pv 3)) (dI (ptr fI (eQ aG T.bC (aa (pv 2) af)) ae) (dn (ptr fI (ax aV (ax aX (pv 10) ae) ae) ae)))))
    (ak (bJ (bY yD yF yE bH (pv 7) (aa (bG (aa (pv 8) (aa (bO (gd (pv 2) (ax aV (ax aX (pv 10) ae) (eQ aG T.bC (aa (pv 2) af)))) ae) af))) af))))
    aD)
    (ak (bT 8 bQ.nd (ax aY (pv 8) ae)))))))
   (ak (aJ (ptr (uX hr.units) (pv 7) (bB af))
   (ak (bJ (bY yD yF yE bH (pv 4) (aa (bG (aa (pv 6) (aa (pv 7) af))) af))))
   aD))))))
  (ak (au (pv 4))))),?_⟩
 ac_rfl;exists by show 0<=sizeLine;omega,?_
 intro D nD;have s2:aB H (upd H D (.lst [])):=aS nD;have h2:upd H D (.lst []) D=some (.lst []):=aC;generalize upd H D (.lst [])=H2 at s2 h2 ⊢;exists pp,_,rfl,aL.of (s2 _ _ hpp),?_;refine ue (K:=K) (a:=pp) (xs:=ps.map V.str) (fun i σ H'=>∃(hs:List (Str×List (Int×Str))) (us:List V),Lo [some (.int c),some (.ref pp),some (.ref ip),some (.int many),some (.ref D)] 6 σ/\aB H H'/\H' D=some (.lst us)/\RL (ke D H') hs us/\List.Sublist (hs.map (·.1)) (ps.take i)/\(∀x∈hs,Kw (ins.map (·.1)) many x.2)/\hs.length<=i)
  ⟨[],[],Lo.of rfl rfl,s2,h2,rfl,List.nil_sublist _,by simp,zm _⟩ (fun i σ H' _ h=>by obtain⟨_,_,_,z,_⟩:=h;exact aL.of (z _ _ hpp)) ?_ ?_
 ·intro i x σ H3 p H4 hx hh s34 hp4
  refine df fun N kN0 kR0 _ _=>?_;obtain⟨hs,us,⟨e,rfl⟩,s3,h3,rl3,sub,rok,hl⟩:=hh;rw[zK] at hx;cases qr:ps[i]? with
  | none=>rw[qr] at hx;cases hx
  | some pn=>
  rw[qr] at hx;simp only[Option.map_some,Option.some.injEq] at hx;subst hx;refine⟨p,_,rfl,dB.of hp4,rfl,?_⟩;refine⟨_,_,rfl,⟨_,_,rfl,⟨rfl,?_⟩⟩⟩;exists by show 0<=sizeLine;omega,?_
  intro R nR;have s5:aB H4 (upd H4 R (.lst [])):=aS nR;have h5:upd H4 R (.lst []) R=some (.lst []):=aC;generalize upd H4 R (.lst [])=H5 at s5 h5 ⊢;exists by decide,(by decide),?_
  refine fX (fun j σ H'=>∃(row:List (Int×Str)) (ws:List V) (bar:Int) (v9 va:Option V),σ=[some (.int c),some (.ref pp),some (.ref ip),some (.int many),some (.ref D),some (.int (i:Int)),some (.str pn),some (.ref R),some (.int bar),v9,va]/\aB H4 H'/\H' R=some (.lst ws)/\aE H' (row.map Kp) ws/\0<=bar/\row.length<=j/\(row.map (·.1)).Pairwise (·<·)/\
   ∀h∈row,0<=h.1/\h.1<many/\h.2∈ins.map (·.1)/\h.1<bar) ⟨[],[],0,e 4,e 5,rfl,s5,h5,cO,∅,by simp,by simp,by simp⟩ ?_ ?_
  ·intro j σ H6 hj hh
   refine df fun N kN1 kR1 _ _=>?_;obtain⟨row,ws,bar,v9,va,rfl,s6,h6,il6,b0,rl,asc,rin⟩:=hh;have s06:=(s3.trans s34).trans s6;left;have ib:i<ps.length:=(zy.mp qr).1;refine⟨c,_,rfl,nofun,nofun,?_⟩;have m0:0<=mixed c (7*(i:Int)+(0+(j:Int))+60):=zw _ ∅;have m1:mixed c (7*(i:Int)+(0+(j:Int))+60)<2147483399:=zt _ ∅;generalize mixed c (7*(i:Int)+(0+(j:Int))+60)=m at m0 m1;have a0:0<=m%5:=zw _ ∅;left;have hip6:=s06 _ _ hip;refine eG (decide (bar+m%5<many)&&(decide (0<(ins.length:Int))&&decide (0<m/5%3))) ?_ ?_ ?_
   ·intro c1 Z hz
    rw[c1,Bool.true_and] at hz;exists ip,iv,rfl,.inl (aL.of hip6),?_;rw[ivl];left;refine eG (decide (0<(ins.length:Int))&&decide (0<m/5%3)) ?_ ?_ hz
    ·intro c2 Z hz
     rw[c2,Bool.true_and] at hz;change hz
    ·intro c2;rw[c2,Bool.false_and]
   ·intro c1;rw[c1,Bool.false_and]
   refine join (fun σ H'=>∃(row:List (Int×Str)) (ws:List V),σ=[some (.int c),some (.ref pp),some (.ref ip),some (.int many),some (.ref D),some (.int (i:Int)),some (.str pn),some (.ref R),some (.int (bar+m%5)),some (.int (0+(j:Int))),some (.int m)]/\aB H4 H'/\H' R=some (.lst ws)/\aE H' (row.map Kp) ws/\row.length<=j+1/\(row.map (·.1)).Pairwise (·<·)/\
    ∀h∈row,0<=h.1/\h.1<many/\h.2∈ins.map (·.1)/\h.1<bar+m%5+1) (fun N hN c1=>?_) (fun N hN c1=>?_) ?_
   ·simp only[zO,decide_eq_true_eq] at c1
    obtain⟨c1,c2,c3⟩:=c1;have d0:0<=m/15%(ins.length:Int):=zw _ nofun;have d1:m/15%(ins.length:Int)<ins.length:=zt _ nofun;obtain⟨jj,hjj⟩:∃jj:Nat,m/15%(ins.length:Int)=(jj:Int):=⟨(m/15%(ins.length:Int)).toNat,nofun⟩
    obtain⟨nx,hnx,inx⟩:=dE (d:=eK) (ili.mono s06) (i:=jj) (zd nofun);obtain⟨ai,ti,li,ea,hai⟩:=Ll inx;exists .inl ⟨rfl,_,aL.of h6⟩,?_;exists ip,iv,rfl,.inl (aL.of hip6),?_;rw[ivl];exists by show 0<(ins.length:Int);omega,?_
    refine⟨ip,iv,_,_,rfl,rfl,aL.of hip6,(by rw[hjj];exact bE (zd nofun)),?_⟩;rw[ea];exists cT,?_;intros p7 H7 s7 h7;refine⟨R,ws,_,rfl,rfl,s7 _ _ h6,(by have:=aT il6;omega),?_⟩;left;have nt:cM (H7 R):=by rw[s7 _ _ h6];exact fun _ z=>by cases z
    refine hN _ _ ⟨row++[(bar+m%5,nx.1)],_,rfl,bM nR (s6.trans s7),aC,?_,by rw[zh];simp;omega,?_,fun h hh=>?_⟩
    ·rw[zk]
     exact dk (Is.upd nt (cK h7 (aQ cX (aQ e9 cO)))) (aE.upd nt (il6.mono s7))
    ·rw[zk,zU]
     refine⟨asc,by simp,fun x hx y hy=>?_⟩;obtain⟨h',hh',rfl⟩:=zH.mp hx;have ey:y=bar+m%5:=by simpa using hy
     have:=(rin h' hh').2.2.2;omega
    ·rcases zG.mp hh with z | z
     ·have:=rin h z
      exact⟨this.1,this.2.1,this.2.2.1,nofun⟩
     ·rw[zA.mp z]
      exact⟨by show 0<=bar+m%5;omega,c1,zP (f:=fun x:Str×(Int×Int)×(Int×Int)=>x.1) (zC hnx),by show bar+m%5<bar+m%5+1;omega⟩
   ·left
    refine hN _ _ ⟨row,ws,rfl,s6,h6,il6,nofun,asc,fun h hh=>?_⟩;have:=rin h hh;exact⟨this.1,this.2.1,this.2.2.1,nofun⟩
   rintro σ7 H7 ⟨row,ws,rfl,s7,h7,il7,rl7,asc7,rin7⟩;change⟨row,ws,bar+m%5+1,_,_,rfl,s7,h7,il7,nofun,rl7,asc7,rin7⟩
  ·rintro σ H6 ⟨row,ws,bar,v9,va,rfl,s6,h6,il6,b0,rl,asc,rin⟩
   have s06:=(s3.trans s34).trans s6;have h36:=s6 _ _ (s34 _ _ h3);have rl6:RL (ke D H6) hs us:=rl3.imp fun x v z=>(z.mono s34).mono s6;have ne:R≠D:=fun z=>by rw[z,s34 _ _ h3] at nR;cases nR
   have ib:i<ps.length:=(zy.mp qr).1;have tk:ps.take (i+1)=ps.take i++[pn]:=cZ qr;exists by show 0<=sizeLine;omega,?_
   intros p7 H7 s7 h7;refine⟨R,p7,ws,[],rfl,rfl,.inl ⟨aL.of (s7 _ _ h6),aL.of h7⟩,.inr (.inl rfl),?_⟩;have wr:=aT il6;have s07:=s06.trans s7
   by_cases e:ws=[]
   ·rw[zg e]
    left;refine⟨hs,us,Lo.of rfl rfl,s07,s7 _ _ h36,rl6.imp fun x v z=>z.mono s7,?_,rok,nofun⟩;rw[tk];exact sub.trans (List.sublist_append_left _ _)
   ·rw[ze e]
    have rne:row≠[]:=fun z=>e (by rw[z] at wr;exact yt.mp wr);exists .inl ⟨rfl,_,aL.of (s7 _ _ h36)⟩,?_;exists cT,?_;intros p8 H8 s8 h8;have s78:=s7.trans s8;have h38:=s78 _ _ h36;refine⟨D,us,_,rfl,rfl,h38,by have:=rl3.len;omega,?_⟩;left;refine⟨hs++[(pn,row)],_,Lo.of rfl rfl,bM nD (s06.trans s78),aC,?_,?_,fun x hx=>?_,by rw[zh];simp;omega⟩
    ·refine RL.snoc ?_ (rl6.imp fun x v z=>(z.mono s78).upd h38)
     exact ke.upd h38 ⟨p8,R,ws,rfl,h8,s78 _ _ h6,il6.mono s78,ne⟩
    ·rw[zk,tk]
     exact sub.append (List.Sublist.refl _)
    ·rcases zG.mp hx with z | z
     ·exact rok x z
     ·rw[zA.mp z]
      exact⟨rne,rl,asc,fun h hh=>⟨(rin h hh).1,(rin h hh).2.1,(rin h hh).2.2.1⟩⟩
 ·rintro σ H3 ⟨hs,us,⟨e,rfl⟩,s3,h3,rl3,sub,rok,hl⟩
  rw[za,zN] at sub;change kk hs D us H3 sub rok s3 h3 rl3
def Fw (S:cB) (ns:List ((Int×Str)×List Item)):Prop:=(ns.map (·.1)).Nodup/\∀x∈ns,0<=x.1.1/\x.1.1<S.aO.length/\x.1.2∈S.players/\Fx x.2 (S.len x.1.1.toNat)
inductive uL (vs:List V) (H:Hp) (Q:VK) (E:XK):Prop
 | mk (c:Int) (pp bl:Addr) (S:cB) (bv:List V) (ub:V) (_:vs=[.int c,.ref pp,.ref bl,ub]) (_:H pp=some (.lst (S.players.map V.str))) (_:H bl=some (.lst bv)) (_:aE H (S.aO.map l8) bv) (_:Is H (dO dL S.aI) ub) (_:S.players.length<=9) (_:S.players.Nodup) (_:S.aO.length<=200) (_:(∀x∈S.aO,L8 x)) (_:(∀b:Nat,b<S.aO.length->Ia (S.len b))) (_:∀(ns:List ((Int×Str)×List Item)) D us H',Fw S ns->ns.length<=9*S.aO.length->aB H H'->H' D=some (.lst us)->RL (iW D H') ns us->Q (.ref D) H')
def cx:aF ["_law_cell","_law_players","_law_bars","_law_upbeat","_law_notes","_law_bar","_law_k","_law_player","_law_m","_law_often","_law_run"] ["_law_cell","_law_players","_law_bars","_law_upbeat"] (aq nJ):=dH
def u9:di P w base 3 T.lH uL:=by
 nomatch T.lH,cx
 obtain⟨c,pp,bl,S,bv,ub,rfl,hpp,hbl,ilb,iub,pl,pnd,bl2,bok,lok,kk⟩:=h;have sl:=yC;have bvl:=aT ilb;refine⟨_,(ag (bT 4 cx.nd (bB af))
  (ag (cE PassesOwn.never rfl (de (by rfl) T.cR (aa (eQ aG T.bC (aa (pv 2) af)) af)) (jR 5 cx.nd)
  (ak (cE PassesOwn.never rfl (xI (by rfl) T.kF (aa (pv 1) af)) (d6 (n:=2) rfl (aP (jR 6 cx.nd) (aP (jR 7 cx.nd) dq)))
   (ag (bT 8 cx.nd (bK (bW T) hr T.cG (aa (pv 0) (aa (ax aY (ax aY (ax dJ ae (pv 6)) (pv 5)) ae) af))))
    (ag (bT 9 cx.nd (ax aV (bK (bW T) hr T.cG (aa (pv 0) (aa (ax aY (pv 6) ae) af))) ae))
    (ag (bT 10 cx.nd (ax aV (bK (bW T) hr T.cG (aa (pv 0) (aa (ax aY (ax aY (ax dJ ae (pv 6)) (ax aX (pv 5) ae)) ae) af))) ae))
    (ak (aJ (PW.pt (dI (ptr gJ (ax aV (pv 8) ae) (pv 9)) (dn (ptr fI (pv 10) ae))))
    (ak (bJ (bY yD yF yE bH (pv 4) (aa (bG (aa (pv 5) (aa (pv 7) (aa (bK (vb T) hr T.lI (aa (ax aX (pv 8) ae) (aa (bK (gw T) hr T.fh (aa (pv 2) (aa (pv 3) (aa (pv 5) af)))) af))) af)))) af))))
    aD))))))))
  (ak (au (pv 4))))),?_⟩
 ac_rfl;exists by show 0<=sizeLine;omega,?_
 intro D nD;have s2:aB H (upd H D (.lst [])):=aS nD;have h2:upd H D (.lst []) D=some (.lst []):=aC;generalize upd H D (.lst [])=H2 at s2 h2 ⊢;exists bl,bv,rfl,.inl (aL.of (s2 _ _ hbl)),?_;rw[bvl];exists by omega,nofun,?_
 rw[show((S.aO.length:Int)).toNat=S.aO.length from by omega];refine fX (fun i σ H'=>∃(ns:List ((Int×Str)×List Item)) (us:List V),Lo [some (.int c),some (.ref pp),some (.ref bl),some ub,some (.ref D)] 6 σ/\aB H H'/\H' D=some (.lst us)/\RL (iW D H') ns us/\Fw S ns/\(∀x∈ns,x.1.1<i)/\ns.length<=9*i)
  ⟨[],[],Lo.of rfl rfl,s2,h2,rfl,⟨by simp,by simp⟩,by simp,by simp⟩ ?_ ?_
 ·intro i σ H3 hi hh
  refine df fun N kN0 kR0 _ _=>?_;obtain⟨ns,us,⟨e,rfl⟩,s3,h3,rl3,nok,nlt,nl⟩:=hh;exists pp,_,rfl,aL.of (s3 _ _ hpp),?_;refine ue (K:=K) (a:=pp) (xs:=S.players.map V.str) (fun j σ H'=>∃(ns:List ((Int×Str)×List Item)) (us:List V),Lo [some (.int c),some (.ref pp),some (.ref bl),some ub,some (.ref D),some (.int (0+(i:Int)))] 5 σ/\aB H H'/\H' D=some (.lst us)/\RL (iW D H') ns us/\Fw S ns/\(∀x∈ns,x.1.1<i\/(x.1.1=i/\x.1.2∈S.players.take j))/\ns.length<=9*i+j)
   ⟨ns,us,Lo.of rfl rfl,s3,h3,rl3,nok,fun x hx=>.inl (nlt x hx),nofun⟩ (fun i σ H' _ h=>by obtain⟨_,_,_,z,_⟩:=h;exact aL.of (z _ _ hpp)) ?_ ?_
  ·intro j x σ H4 p H5 hx hh s45 hp5
   refine df fun N kN1 kR1 _ _=>?_;obtain⟨ns,us,⟨e,rfl⟩,s4,h4,rl4,nok,nlt,nl⟩:=hh;rw[zK] at hx;cases qr:S.players[j]? with
   | none=>rw[qr] at hx;cases hx
   | some pn=>
   rw[qr] at hx;simp only[Option.map_some,Option.some.injEq] at hx;subst hx;have jb:j<S.players.length:=(zy.mp qr).1;have s05:=s4.trans s45;have h45:=s45 _ _ h4;have rl5:RL (iW D H5) ns us:=rl4.imp fun x v z=>z.mono s45;have tk:S.players.take (j+1)=S.players.take j++[pn]:=cZ qr;refine⟨p,_,rfl,dB.of hp5,rfl,?_⟩;refine⟨_,_,rfl,⟨_,_,rfl,⟨rfl,?_⟩⟩⟩;exists c,_,rfl,nofun,nofun,?_;have m0:0<=mixed c (97*(j:Int)+(0+(i:Int))+100):=zw _ ∅;have m1:mixed c (97*(j:Int)+(0+(i:Int))+100)<2147483399:=zt _ ∅;generalize mixed c (97*(j:Int)+(0+(i:Int))+100)=m at m0 m1;exists c,_,rfl,nofun,nofun,?_;left;refine⟨c,_,rfl,?_,?_,?_⟩
   ·have:=zW (a:=0+(i:Int)) (b:=4) nofun ∅;omega
   ·have:=zX (a:=0+(i:Int)) 4 nofun;omega
   generalize mixed c (31*(j:Int)+(0+(i:Int))/4+400)=m3;generalize mixed c ((j:Int)+90)=m2;left;refine eG (decide (m%6<=m2%5)&&decide (0<m3%3)) ?_ ?_ ?_
   ·intro c1 Z hz
    rw[c1,Bool.true_and] at hz;change hz
   ·intro c1;rw[c1,Bool.false_and]
   cases qv:(decide (m%6<=m2%5)&&decide (0<m3%3)) with
   | true=>
    exists .inl ⟨rfl,_,aL.of h45⟩,?_;exists bl,bv,S,ub,i,(by simp),s05 _ _ hbl,ilb.mono s05,iub.mono s05,hi,bok,fun p6 H6 s6 h6=>?_;refine⟨_,_,p6,rfl,h6,zW m0 ∅,?_,lok i hi,fun its p7 ws H7 iok s7 n7 h7 il7=>?_⟩
    ·have:=zX (a:=m) 6 m0;omega
    have s57:=s6.trans s7;have ne:p7≠D:=fun z=>by rw[z,s6 _ _ h45] at n7;cases n7
    exists oI,?_;intros p8 H8 s8 h8;have s58:=s57.trans s8;have h48:=s58 _ _ h45;refine⟨D,us,_,rfl,rfl,h48,by have:=rl4.len;omega,?_⟩;left;have fr:((0+(i:Int),pn):Int×Str)∉ns.map (·.1):=fun z=>by
     obtain⟨y,hy,ey⟩:=zH.mp z;rcases nlt y hy with q | ⟨_,q2⟩
     ·rw[ey] at q;dsimp only at q;omega
     ·rw[ey] at q2
      dsimp only at q2;have nd:=List.Nodup.sublist (List.take_sublist (j+1) S.players) pnd;rw[tk,zT] at nd;exact nd.2.2 pn q2 pn (zA.mpr rfl) rfl
    refine⟨ns++[((0+(i:Int),pn),its)],_,Lo.of rfl rfl,bM nD (s05.trans s58),aC,?_,⟨?_,fun x hx=>?_⟩,fun x hx=>?_,by rw[zh];simp;omega⟩
    ·refine RL.snoc ?_ (rl5.imp fun x v z=>(z.mono s58).upd h48)
     exact iW.upd h48 ⟨p8,p7,ws,rfl,h8,s8 _ _ h7,il7.mono s8,ne⟩
    ·rw[zk,zT]
     exact⟨nok.1,by simp,fun x hx y hy e=>by
      have:y=(0+(i:Int),pn):=by simpa using hy
      rw[<-e] at this;exact fr (this▸hx)⟩
    ·rcases zG.mp hx with z | z
     ·exact nok.2 x z
     ·rw[zA.mp z]
      refine⟨by show 0<=0+(i:Int);omega,by show 0+(i:Int)<S.aO.length;omega,zC qr,?_⟩;show Fx its (S.len (0+(i:Int)).toNat);rw[show(0+(i:Int)).toNat=i from by omega];exact iok
    ·rcases zG.mp hx with z | z
     ·rcases nlt x z with q | ⟨q1,q2⟩
      ·exact .inl q
      ·exact .inr ⟨q1,by rw[tk];exact zJ _ q2⟩
     ·rw[zA.mp z]
      exact .inr ⟨by show 0+(i:Int)=i;omega,by rw[tk];exact zI _ (zA.mpr rfl)⟩
   | false=>
    left;refine⟨ns,us,Lo.of rfl rfl,s05,h45,rl5,nok,fun x hx=>?_,nofun⟩;rcases nlt x hx with z | ⟨z1,z2⟩
    ·exact .inl z
    ·exact .inr ⟨z1,by rw[tk];exact zJ _ z2⟩
  ·rintro σ H4 ⟨ns,us,⟨e,rfl⟩,s4,h4,rl4,nok,nlt,nl⟩
   rw[za] at nlt nl;left;refine⟨ns,us,Lo.of rfl rfl,s4,h4,rl4,nok,fun x hx=>?_,nofun⟩;rcases nlt x hx with z | ⟨z1,z2⟩
   ·omega
   ·omega
 ·rintro σ H3 ⟨ns,us,⟨e,rfl⟩,s3,h3,rl3,nok,nlt,nl⟩
  change kk ns D us H3 nok nofun s3 h3 rl3
def S9 (ins:List (Str×(Int×Int)×(Int×Int))):Prop:=ins.length<=3/\Bz (ins.map (·.1))/\∀x∈ins,Og x.2.1/\-12<=x.2.1.1/\x.2.1.1<=12/\Lm.Rd x.2.2/\x.2.2.1<10000/\x.2.2.2<10000
def Iq (n:Int):Og (n%25-12,7*(n%25-12)%12+12*(n/25%5-2))/\-12<=n%25-12/\n%25-12<=12:=by
 have a:=zw n (b:=25) ∅;have b:=zt n (b:=25) ∅;have c:=zw (n/25) (b:=5) ∅;have d:=zt (n/25) (b:=5) ∅;unfold Og;dsimp only;omega
def mr:Sp:=fun vs H Q _=>∃(c:Int),vs=[.int c]/\∀(ins:List (Str×(Int×Int)×(Int×Int))) D us H',S9 ins->aB H H'->H' D=some (.lst us)->aE H' (ins.map eK) us->Q (.ref D) H'
def bu:aF ["_law_cell","_law_m","_law_instruments","_law_k","_law_name","_law_n","_law_df","_law_turn"] ["_law_cell"] (aq gI):=dH
def mK:di P w base 2 T.fE mr:=by
 nomatch T.fE,bu
 obtain⟨c,rfl,kk⟩:=h;have sl:=yC;refine⟨_,(ag (bT 1 bu.nd (bK (bW T) hr T.cG (aa (pv 0) (aa ae af))))
  (ag (bT 2 bu.nd (bB af))
  (ag (cE PassesOwn.never rfl (xI (by rfl) T.kF (aa (bK (fm T) hr T.eI (aa (ax aX (pv 1) ae) (aa (ax aV (pv 1) ae) af))) af)) (d6 (n:=2) rfl (aP (jR 3 bu.nd) (aP (jR 4 bu.nd) dq)))
  (ag (bT 5 bu.nd (bK (bW T) hr T.cG (aa (pv 0) (aa (ax aY (pv 3) ae) af))))
   (ag (bT 6 bu.nd (ax jT (ax aV (pv 5) ae) ae))
   (ag (bT 7 bu.nd (bG (aa (pv 6) (aa (ax aY (ax aV (ax dJ ae (pv 6)) ae) (ax dJ ae (ax jT (ax aV (ax aX (pv 5) ae) ae) ae))) af))))
   (ak (bJ (bY yD yF yE bH (pv 2) (aa (bG (aa (pv 4) (aa (pv 7) (aa (bK (eY T) hr T.fg (aa (ax aV (ax aX (pv 5) ae) ae) (aa (gd (bB (aa ae (aa ae (aa ae (aa ae (aa ae af)))))) (ax aV (ax aX (pv 5) ae) ae)) af))) af)))) af))))))))
  (ak (au (pv 2)))))),?_⟩
 ac_rfl;exists c,8,rfl,nofun,nofun,?_;have m0:0<=mixed c 8:=zw _ ∅;have m1:mixed c 8<2147483399:=zt _ ∅;generalize mixed c 8=m at m0 m1;have a0:0<=m%4:=zw _ ∅;have a1:m%4<4:=zt _ ∅;exists by show 0<=sizeLine;omega,?_
 intro D nD;have s2:aB H (upd H D (.lst [])):=aS nD;have h2:upd H D (.lst []) D=some (.lst []):=aC;generalize upd H D (.lst [])=H2 at s2 h2 ⊢;left;refine⟨_,_,rfl,zW m0 ∅,?_,a0,nofun,fun nms pn H3 nl nok s3 h3=>?_⟩
 ·have:=zX (a:=m) 4 m0;omega
 exists pn,_,rfl,aL.of h3,?_;have nl3:nms.length<=3:=nofun
 refine ue (K:=K) (a:=pn) (xs:=nms.map V.str) (fun i σ H'=>∃(ins:List (Str×(Int×Int)×(Int×Int))) (us:List V),Lo [some (.int c),some (.int m),some (.ref D)] 5 σ/\aB H H'/\H' pn=some (.lst (nms.map V.str))/\H' D=some (.lst us)/\aE H' (ins.map eK) us/\ins.map (·.1)=nms.take i/\
  ∀x∈ins,Og x.2.1/\-12<=x.2.1.1/\x.2.1.1<=12/\Lm.Rd x.2.2/\x.2.2.1<10000/\x.2.2.2<10000)
  ⟨[],[],Lo.of rfl rfl,s2.trans s3,h3,s3 _ _ h2,cO,rfl,by simp⟩ (fun i σ H' _ h=>by obtain⟨_,_,_,_,z,_⟩:=h;exact aL.of z) ?_ ?_
 ·intro i x σ H4 p H5 hx hh s45 hp5
  refine df fun N kN0 kR0 _ _=>?_;obtain⟨ins,us,⟨e,rfl⟩,s4,hpn4,h4,il4,ek,iok⟩:=hh;rw[zK] at hx;cases qr:nms[i]? with
  | none=>rw[qr] at hx;cases hx
  | some nm=>
  rw[qr] at hx;simp only[Option.map_some,Option.some.injEq] at hx;subst hx;have ib:i<nms.length:=(zy.mp qr).1;have h45:=s45 _ _ h4;have tk:nms.take (i+1)=nms.take i++[nm]:=cZ qr;have nepn:pn≠D:=fun z=>by
   have q:=h3;rw[z,s3 _ _ h2] at q;have e:([]:List V)=nms.map V.str:=HO.lst.inj (yk q);have:nms.length=0:=by rw[<-za (f:=V.str),<-e];rfl
   omega
  refine⟨p,_,rfl,dB.of hp5,rfl,?_⟩;refine⟨_,_,rfl,⟨_,_,rfl,⟨rfl,?_⟩⟩⟩;exists c,_,rfl,nofun,nofun,?_;have n0:0<=mixed c ((i:Int)+530):=zw _ ∅;have n1:mixed c ((i:Int)+530)<2147483399:=zt _ ∅;generalize mixed c ((i:Int)+530)=n at n0 n1;exists cT,?_;intros p6 H6 s6 h6;have h46:=s6 _ _ h45;exists .inl ⟨rfl,_,aL.of h46⟩,?_;exists by show 5<=sizeLine;omega,?_
  intros p7 H7 s7 h7;have g0:0<=n/1125%5:=zw _ ∅;have g1:n/1125%5<5:=zt _ ∅;have t0:0<=n/125%9:=zw _ ∅;have t1:n/125%9<9:=zt _ ∅;obtain⟨jj,hjj⟩:∃j:Nat,n/1125%5=(j:Int):=⟨(n/1125%5).toNat,nofun⟩
  obtain⟨z,hz,z0,z1⟩:∃z:Int,[V.int 1,V.int 2,V.int 4,V.int 8,V.int 3][jj]?=some (.int z)/\0<z/\z<=8:=by
   have:jj<5:=nofun
   match jj,this with
   | 0,_=>exact⟨1,rfl,∅,∅⟩
   | 1,_=>exact⟨2,rfl,∅,∅⟩
   | 2,_=>exact⟨4,rfl,∅,∅⟩
   | 3,_=>exact⟨8,rfl,∅,∅⟩
   | 4,_=>exact⟨3,rfl,∅,∅⟩
  exists p7,_,n/1125%5,.int z,rfl,rfl,aL.of h7,(by rw[hjj];exact bE hz),?_;exists _,_,rfl,t0,z0,(cw (n:=10) nofun nofun).mono ∅,fun p8 H8 s8 h8=>?_;exists oI,?_;intros p9 H9 s9 h9;have s59:=((s6.trans s7).trans s8).trans s9;have h49:=s59 _ _ h45;refine⟨D,us,_,rfl,rfl,h49,?_,?_⟩
  ·have e1:=aT il4
   have e2:ins.length=(nms.take i).length:=by rw[<-ek,za]
   rw[zQ] at e2;omega
  left;have nt:cM (H9 D):=by rw[h49];exact fun _ z=>by cases z
  have rb:=jO (t:=n/125%9) z0;have rle:=Al (t:=n/125%9) (b:=z) t0;obtain⟨td1,td2,td3⟩:=Iq n;have ix:Is H9 (eK (nm,(n%25-12,7*(n%25-12)%12+12*(n/25%5-2)),red (n/125%9) z)) (.ref p9):=cK h9 (aQ e9 (aQ (jh (((s7.trans s8).trans s9) _ _ h6)) (aQ (jh (s9 _ _ h8)) cO)));refine⟨ins++[(nm,(n%25-12,7*(n%25-12)%12+12*(n/25%5-2)),red (n/125%9) z)],_,Lo.of rfl rfl,bM nD ((s4.trans s45).trans s59),by rw[aH nepn];exact s59 _ _ (s45 _ _ hpn4),aC,?_,?_,fun x hx=>?_⟩
  ·rw[zk]
   exact dk (Is.upd nt ix) (aE.upd nt ((il4.mono s45).mono s59))
  ·rw[zk,ek,tk];rfl
  ·rcases zG.mp hx with y | y
   ·exact iok x y
   ·rw[zA.mp y]
    obtain⟨_,_,_,_,_,r5⟩:=rb;exact⟨td1,td2,td3,Lm.Rd.of t0 z0,by show(red (n/125%9) z).1<10000;omega,by show(red (n/125%9) z).2<10000;omega⟩
 ·rintro σ H4 ⟨ins,us,⟨e,rfl⟩,s4,hpn4,h4,il4,ek,iok⟩
  rw[za,zN] at ek;change kk ins D us H4 ⟨by rw[<-za (f:=fun x:Str×(Int×Int)×(Int×Int)=>x.1),ek];exact nl3,by rw[ek];exact nok,iok⟩ s4 h4 il4
inductive pZ (vs:List V) (H:Hp) (Q:VK) (E:XK):Prop
 | mk (q:Addr) (x:Int×Int) (_:vs=[.ref q]) (_:H q=some (fR x)) (_:0<=x.1) (_:x.1<10000) (_:0<x.2) (_:x.2<10000) (_:Q (.str (jg x)) H)
def qg:aF ["_law_length"] ["_law_length"] (aq jM):=dH
def dZ:di P w base 1 T.dA pZ:=by
 nomatch T.dA,qg
 obtain⟨q,x,rfl,hq,x1,x2,x3,x4,kk⟩:=h;have sl:=yC;have a:=bz (n:=x.1) nofun x2;have b:=bz (n:=x.2) nofun x4;have na:=bU (n:=x.1) nofun x2;have nb:=bU (n:=x.2) nofun x4;have l1:("/": Str).length=1:=rfl;refine⟨_,(ag (aJ (ptr dj (bO (pv 0) ae) ae)
  (ak (au (ox aZ T.fK (aa (bO (pv 0) ae) af))))
  aD)
  (ak (au (ax b7 (ax b7 (ox aZ T.fK (aa (bO (pv 0) ae) af)) aN) (ox aZ T.fK (aa (bO (pv 0) ae) af)))))),?_⟩
 ac_rfl;left
 by_cases c:x.2=1
 ·refine cb (by rw[c];rfl) ?_
  exists na,?_;left;unfold jg at kk;rw[if_pos c] at kk;exact kk
 ·refine cq (ze fun z=>c (V.int.inj z)) ?_
  unfold jg at kk;rw[if_neg c] at kk;exists na,?_;exists by show(dec x.1).length+_<=_;omega,?_
  exists nb,?_;exists by show(dec x.1 ++"/").length+(dec x.2).length<=_;rw[len_app];omega,?_
  exact kk
inductive kg (vs:List V) (H:Hp) (Q:VK) (E:XK):Prop
 | mk (v:V) (it:Item) (_:vs=[v]) (_:Is H (fe it) v) (_:L5 it) (_:Q (.str (rO it)) H)
def Nu {H:Hp} {it:Item} {v:V} (h:Is H (fe it) v):∃a q b,v=.ref a/\H a=some (.tup [q,.ref b])/\Is H (dO dL it.1) q/\H b=some (fR it.2):=by
 unfold fe Is at h;obtain⟨a,vs,rfl,ha,hl⟩:=h;unfold aE at hl;obtain⟨v1,r1,rfl,h1,hl⟩:=hl;unfold aE at hl;obtain⟨v2,r2,rfl,h2,hl⟩:=hl;unfold aE at hl;subst hl;cases fC (o:=some it.2) h2 with
 | ref hb=>exact⟨a,v1,_,rfl,ha,h1,hb⟩
def sN:aF ["_law_item"] ["_law_item"] (aq lQ):=dH
def tT:di P w base 2 T.kb kg:=by
 nomatch T.kb,sN
 obtain⟨v,⟨o,x⟩,rfl,iv,iok,kk⟩:=h;have sl:=yC;obtain⟨a,q,b,rfl,ha,iq,hb⟩:=Nu iv;obtain⟨⟨hr',h1,h2,h3⟩,hq⟩:=id iok;obtain⟨_,p2,_⟩:=hr'.pos;have lx:=lV (x:=x) (by have:=h1;dsimp only at this;omega) h2 (by have:=p2;dsimp only at this;omega) h3;dsimp only at h1 h2 h3 p2 hq hb iq;refine⟨_,(ag (aJ (bF (cJ (bO (pv 0) ae)))
  (ak (au (ax b7 aN (bK (dZ T) hr T.dA (aa (bO (pv 0) ae) af)))))
  aD)
  (ak (au (ax b7 (ax b7 (ax b7 (ax b7 (ox aZ T.fK (aa (bO (bO (pv 0) ae) ae) af)) aN) (ox aZ T.fK (aa (bO (bO (pv 0) ae) ae) af))) aN) (bK (dZ T) hr T.dA (aa (bO (pv 0) ae) af)))))),?_⟩
 ac_rfl;left;cases o with
 | none=>
  unfold dO Is at iq;subst iq;exists b,x,rfl,hb,nofun,h2,p2,h3,?_;have l2:("r:": Str).length=2:=rfl;refine⟨_,_,rfl,rfl,nofun,?_⟩;exact kk
 | some pq=>
  obtain⟨q1,q2,q3,q4,_⟩:=hq pq rfl;have la:=bz (n:=pq.1) nofun nofun;have lb:=bz (n:=pq.2) nofun nofun;have na:=bU (n:=pq.1) nofun nofun;have nb:=bU (n:=pq.2) nofun nofun;cases fC (o:=some pq) iq with
  | ref hpq=>
   have l1:(":": Str).length=1:=rfl;exists na,?_;exists by show(dec pq.1).length+_<=_;omega,?_
   exists nb,?_;exists by show(dec pq.1 ++":").length+(dec pq.2).length<=_;rw[len_app];omega,?_
   exists by show(dec pq.1 ++":" ++ dec pq.2).length+_<=_;rw[len_app,len_app];omega,?_
   exists b,x,rfl,hb,nofun,h2,p2,h3,?_;refine⟨_,_,rfl,rfl,by show(dec pq.1 ++":" ++ dec pq.2 ++":").length+_<=_;rw[len_app,len_app,len_app];omega,?_⟩;exact kk
inductive iY (vs:List V) (H:Hp) (Q:VK) (E:XK):Prop
 | mk (v:V) (r:Rep) (_:vs=[v]) (_:Is H (iK r) v) (_:L3 r) (_:∀H',aB H H'->Q (.str (rowOf (.rep r))) H')
noncomputable def w4 (r:Rep):List Str:=["repeat",dec r.first,dec r.last,dec r.times]
def dW:aF ["_law_repeat","_law_words","_law_begin","_law_passes"] ["_law_repeat"] (aq jL):=dH
def qk:di P w base 1 T.gU iY:=by
 nomatch T.gU,dW
 obtain⟨v,r,rfl,iv,⟨⟨f1,f2,f3,f4,f5⟩,el,pl⟩,kk⟩:=h;have sl:=yC;obtain⟨a,ep,rfl,ha,ie⟩:=eJ iv;obtain⟨ep',evs,e0,hep,ile⟩:∃ep' evs,V.ref ep=.ref ep'/\H ep'=some (.tup evs)/\aE H (r.ends.map oq) evs:=by unfold Is at ie;exact ie
 cases e0;have evl:=aT ile;have n1:=bU (n:=r.first) (by have:=f1.1;omega) (by have:=f1.2;omega);have n2:=bU (n:=r.last) (by have:=f2.1;omega) (by have:=f2.2;omega);have n3:=bU (n:=r.times) nofun nofun;refine⟨_,(ag (bT 1 dW.nd (bB (aa aN (aa (ox aZ T.fK (aa (bO (pv 0) ae) af)) (aa (ox aZ T.fK (aa (bO (pv 0) ae) af)) (aa (ox aZ T.fK (aa (bO (pv 0) ae) af)) af))))))
  (ag (cE PassesOwn.never rfl (lg (bO (pv 0) ae)) (d6 (n:=2) rfl (aP (jR 2 dW.nd) (aP (jR 3 dW.nd) dq)))
  (ak (bJ (bY yD yF yE bH (pv 1) (aa (ax b7 (ax b7 (ox aZ T.fK (aa (pv 2) af)) aN) (bY yG yI yH hX aN (aa (qh (ts:=["_law_one"]) (ys:=[]) (js:=[]) (te:=(KR Sm (bX (bf 0) eV))) (lg (pv 3)) (hJ 0) bD (ox aZ T.fK (aa (pv 0) af))) af))) af)))))
  (ak (au (bY yG yI yH hX aN (aa (pv 1) af)))))),?_⟩
 ac_rfl;exists n1,?_;exists n2,?_;exists n3,?_;exists by show 4<=sizeLine;omega,?_
 intro W nW;generalize hU:upd H W _=H2;have s2:aB H H2:=by rw[<-hU];exact aS nW
 have h2:H2 W=some (.lst ((w4 r).map V.str)):=by rw[<-hU];exact aC
 clear hU;have ha2:=s2 _ _ ha;exists⟨_,dB.of (s2 _ _ hep)⟩,?_;refine Ki (K:=K) (a:=ep) (xs:=evs) (fun i σ H'=>∃(v2 v3:Option V),σ=[some (.ref a),some (.ref W),v2,v3]/\aB H H'/\H' W=some (.lst ((w4 r++(r.ends.take i).map qp).map V.str))) ⟨none,none,rfl,s2,by rw[List.take_zero,yn,zV];exact h2⟩ (fun i σ H' _ h=>by obtain⟨_,_,_,z,_⟩:=h;exact dB.of (z _ _ hep)) ?_ ?_
 ·intro i x σ H3 hx hh
  refine df fun N kN0 kR0 _ _=>?_;obtain⟨v2,v3,rfl,s3,h3⟩:=hh;obtain⟨e,he,ie⟩:=dE ile hx;obtain⟨b,q,rfl,hb,hq⟩:=vm ie;have eo:=f5 e (zC he);have pe:=pl e (zC he);have hb3:=s3 _ _ hb;have tk:r.ends.take (i+1)=r.ends.take i++[e]:=cZ he;have ib:i<r.ends.length:=(zy.mp he).1;have nb:=bU (n:=e.1) (by have:=eo.1;omega) (by have:=eo.2.1;omega);have lb:=bz (n:=e.1) (by have:=eo.1;omega) (by have:=eo.2.1;omega);refine⟨b,_,rfl,dB.of hb3,rfl,?_⟩;refine⟨_,_,rfl,⟨_,_,rfl,⟨rfl,?_⟩⟩⟩;exists .inl ⟨rfl,_,aL.of h3⟩,?_;exists nb,?_;exists by show(dec e.1).length+(":": Str).length<=_;have:(":": Str).length=1:=rfl;omega,?_
  exists⟨_,dB.of (s3 _ _ hq)⟩,?_;refine gR (enc:=V.int) (ws:=e.2) (fun z=>.str (dec z)) (fun σ=>∃v,σ=[v]) nofun (s3 _ _ hq) ⟨none,rfl⟩ ?_ ?_
  ·rintro z σ H4 R hz s4 ⟨_,rfl⟩ rr
   have:=eo.2.2.2 z hz;exists bU nofun nofun,?_;exact rr _ _ _ (aB.refl _) e9 ⟨_,rfl⟩
  ·intro D vs H4 s4 hD il
   have e1:e.2.map (fun z=>Dt.str (dec z))=(e.2.map dec).map Dt.str:=by rw[zB];rfl
   rw[e1] at il;rw[d4 il] at hD;have l5:∀z∈e.2.map dec,z.length<=5:=fun z hz=>by
    obtain⟨p,hp,rfl⟩:=zH.mp hz;have:=eo.2.2.2 p hp;exact bz nofun nofun
   have l9:(e.2.map dec).length<=9:=by rw[za];exact pe
   have sb:=qV (sep:=",") l5;have jb:=AG (sep:=",") l5;have mb:(e.2.map dec).length*(5+(",": Str).length)<=9*(5+1):=Nat.mul_le_mul l9 (zm _);refine⟨",",D,_,rfl,rfl,aL.of hD,zM sb (zM mb nofun),?_⟩;refine⟨_,_,rfl,rfl,?_,?_⟩
   ·show(dec e.1 ++":").length+(Str.join "," (e.2.map dec)).length<=sizeLine
    rw[len_app];have:(":": Str).length=1:=rfl;omega
   have h34:=s4 _ _ h3;have s04:=s3.trans s4;left;refine⟨W,_,_,rfl,rfl,h34,?_,?_⟩
   ·rw[za,zh,za,zQ]
    show 4+_<_;omega
   exists _,_,rfl,bM nW s04,?_;have ew:(w4 r++(r.ends.take (i+1)).map qp).map V.str=(w4 r++(r.ends.take i).map qp).map V.str++[V.str (qp e)]:=by
    rw[tk,zk (f:=qp),<-zF,zk (f:=V.str)];rfl
   rw[aC,ew];rfl
 ·rintro σ H3 ⟨v2,v3,rfl,s3,h3⟩
  rw[evl,zN] at h3;left;have ll:∀z∈w4 r++r.ends.map qp,z.length<=60:=fun z hz=>by
   rcases zG.mp hz with y | y
   ·unfold w4 at y
    simp only[zD,zE,or_false] at y;rcases y with rfl | rfl | rfl | rfl
    ·decide
    ·have:=bz (n:=r.first) (by have:=f1.1;omega) (by have:=f1.2;omega);omega
    ·have:=bz (n:=r.last) (by have:=f2.1;omega) (by have:=f2.2;omega);omega
    ·have:=bz (n:=r.times) nofun nofun;omega
   ·obtain⟨e,he,rfl⟩:=zH.mp y
    exact Hi (f5 e he) (pl e he)
  have sb:=qV (sep:=" ") ll;refine⟨" ",W,_,rfl,rfl,aL.of h3,?_,?_⟩
  ·have l4:(w4 r++r.ends.map qp).length<=13:=by rw[zh,za];show 4+_<=13;omega
   exact zM sb (zM (Nat.mul_le_mul l4 (zm _)) (by show 13*(60+1)<=sizeLine;omega))
  exact kk _ s3
def UR {c:Bool} {T1 T2:VK->Prop} {Z:VK} {H:Hp} (v:V) (h1:c=true->∀Z:VK,Z v H->T1 Z) (h2:c=false->∀Z:VK,Z v H->T2 Z) (hz:Z v H):if c=true then T1 Z else T2 Z:=by
 cases c with
 | true=>rw[if_pos rfl];exact h1 rfl Z hz
 | false=>rw[if_neg (by simp)];exact h2 rfl Z hz
def S7 (j:Jump):Prop:=Qg (.b9 j)
noncomputable def AL (S:cB):List Told:=S.repeats.map .rep++S.b9.toList.map .b9
inductive sH (vs:List V) (H:Hp) (Q:VK) (E:XK):Prop
 | mk (p:Addr) (S:cB) (_:vs=[.ref p]) (_:BA H p S) (_:(∀r∈S.repeats,L3 r)) (_:S.repeats.length<=1000) (_:(∀j,S.b9=some j->S7 j)) (_:∀D H',aB H H'->H D=none->H' D=some (.lst (((AL S).map rowOf).map V.str))->Q (.ref D) H')
def NA {H:Hp} {j:Jump} {v:V} (h:Is H (jZ j) v):∃a c,v=.ref a/\H a=some (.tup [.int j.uB,.int j.wu,.int j.cW,c])/\Is H (dO .int j.gf) c:=by
 unfold jZ Is at h;obtain⟨a,vs,rfl,ha,hl⟩:=h;unfold aE at hl;obtain⟨v1,r1,rfl,h1,hl⟩:=hl;unfold aE at hl;obtain⟨v2,r2,rfl,h2,hl⟩:=hl;unfold aE at hl;obtain⟨v3,r3,rfl,h3,hl⟩:=hl;unfold aE at hl;obtain⟨v4,r4,rfl,h4,hl⟩:=hl;unfold aE at hl;subst hl;unfold Is at h1 h2 h3;subst h1 h2 h3;exact⟨a,v4,rfl,ha,h4⟩
theorem iG {H:Hp} {α:Type} {d:α->Dt}:∀{xs:List α} {vs:List V},aE H (xs.map d) vs->∃ps:List (α×V),ps.map (·.1)=xs/\ps.map (·.2)=vs/\∀z∈ps,Is H (d z.1) z.2
 | [],_,h=>⟨[],rfl,by unfold aE at h;rw[h];rfl,by simp⟩
 | x::xs,_,h=>by
  rw[zj] at h;unfold aE at h;obtain⟨v,r,rfl,h1,h2⟩:=h;obtain⟨ps,e1,e2,e3⟩:=iG h2;refine⟨(x,v)::ps,by rw[zj,e1],by rw[zj,e2],fun z hz=>?_⟩;rcases zD.mp hz with rfl | hz
  ·exact h1
  ·exact e3 z hz
def gq:aF ["_law_s","_law_rows","_law_coda"] ["_law_s"] (aq lS):=dH
def tU:di P w base 2 T.kc sH:=by
 nomatch T.kc,gq
 obtain⟨p,S,rfl,la,rok,rl3,jok,kk⟩:=h;have sl:=yC;obtain⟨pl,il,sl',bl,hl,nl,rl,ub,jm,iv,sv,bv,hv,nv,rv,h1,h2,h3,h4,h5,h6,h7,h8,⟨h9,ilr⟩,hj⟩:=la.at';obtain⟨ps,e1,e2,e3⟩:=iG ilr;have pln:ps.length=S.repeats.length:=by rw[<-e1,za]
 refine⟨_,(ag (Oo (i:=1) (ts:=["_law_repeat"]) (ys:=[]) (js:=[]) (te:=(iA iY [] E0 (bX (bf 0) eV))) (bw (bO (pv 0) ae)) (hJ 0) bD (bK (qk T) hr T.gU (aa (pv 0) af)) gq.nd)
  (ag (aJ (bF (gr (bO (pv 0) ae)))
  (ag (bT 2 gq.nd (Gr (bF (cJ (bO (bO (pv 0) ae) ae))) aN (ox aZ T.fK (aa (bO (bO (pv 0) ae) ae) af))))
   (ak (bJ (bY yD yF yE bH (pv 1) (aa (bY yG yI yH hX aN (aa (bB (aa aN (aa (ox aZ T.fK (aa (bO (bO (pv 0) ae) ae) af)) (aa (ox aZ T.fK (aa (bO (bO (pv 0) ae) ae) af)) (aa (ox aZ T.fK (aa (bO (bO (pv 0) ae) ae) af)) (aa (pv 2) af)))))) af)) af)))))
  aD)
  (ak (au (pv 1))))),?_⟩
 ac_rfl;exists⟨_,aL.of h9⟩,?_;refine d9 (enc:=fun q:Rep×V=>q.2) (ws:=ps) (fun q=>.str (rowOf (.rep q.1))) (fun σ=>∃v,σ=[v]) nofun (by rw[e2];exact aL.of h9) ⟨none,rfl⟩ ?_ ?_
 ·rintro z σ H1 R hz s1 ⟨_,rfl⟩ rr
  have zin:z.1∈S.repeats:=by rw[<-e1];exact zP hz
  change⟨z.2,z.1,rfl,(e3 z hz).mono s1,rok _ zin,fun H2 s2=>rr _ _ _ s2 e9 ⟨_,rfl⟩⟩
 ·intro D vs H1 s1 nD hD ilD
  have ee:ps.map (fun q:Rep×V=>Dt.str (rowOf (.rep q.1)))=((S.repeats.map Told.rep).map rowOf).map Dt.str:=by rw[<-e1,zB,zB,zB];rfl
  rw[ee] at ilD;rw[d4 ilD] at hD;have h11:=s1 _ _ h1;left;cases q:S.b9 with
  | none=>
   rw[q] at hj;unfold dO Is at hj;subst hj;left;refine kk D H1 s1 nD ?_;unfold AL;rw[q,hD];simp
  | some j=>
   rw[q] at hj;obtain⟨ja,jc,rfl,hja,ijc⟩:=NA hj;obtain⟨j1,j2,j3,j4⟩:=jok j q;have hja1:=s1 _ _ hja;have n1:=bU (n:=j.uB) (by have:=j1.1;omega) (by have:=j1.2;omega);have n2:=bU (n:=j.wu) (by have:=j2.1;omega) (by have:=j2.2;omega);have n3:=bU (n:=j.cW) (by have:=j3.1;omega) (by have:=j3.2;omega);have cl:(ctxt j.gf).length<=5:=by
    unfold ctxt;cases qc:j.gf with
    | none=>decide
    | some m=>have:=j4 m qc;exact bz (by have:=this.1;omega) (by have:=this.2;omega)
   left;refine UR (H:=H1) (.str (ctxt j.gf)) ?_ ?_ ?_
   ·intro c Z hz
    have e:jc=.bR:=ye c;cases qc:j.gf with
    | none=>rw[qc] at hz;change hz
    | some m=>rw[qc] at ijc;unfold dO Is at ijc;rw[ijc] at e;cases e
   ·intro c Z hz
    cases qc:j.gf with
    | none=>rw[qc] at ijc;unfold dO Is at ijc;rw[ijc] at c;simp at c
    | some m=>
     rw[qc] at ijc hz;unfold dO Is at ijc;subst ijc;change⟨bU (by have:=(j4 m qc).1;omega) (by have:=(j4 m qc).2;omega),hz⟩
   exists .inl ⟨rfl,_,aL.of hD⟩,?_;exists n1,?_;exists n2,?_;exists n3,?_;exists by show 5<=sizeLine;omega,?_
   intros p5 H5 s5 h5;have ll:∀z∈Sc.wordsOf (.b9 j),z.length<=5:=fun z hz=>by
    simp only[Sc.wordsOf,zD,zE,or_false] at hz;rcases hz with rfl | rfl | rfl | rfl | rfl
    ·decide
    ·exact bz (by have:=j1.1;omega) (by have:=j1.2;omega)
    ·exact bz (by have:=j2.1;omega) (by have:=j2.2;omega)
    ·exact bz (by have:=j3.1;omega) (by have:=j3.2;omega)
    ·exact cl
   have sb:=qV (sep:=" ") ll;refine⟨" ",p5,Sc.wordsOf (.b9 j),rfl,rfl,aL.of h5,zM sb (by show 5*(5+1)<=sizeLine;omega),?_⟩;exists D,_,_,rfl,rfl,s5 _ _ hD,by rw[za,za,za];omega,?_
   left;refine kk D _ (bM nD (s1.trans s5)) nD ?_;unfold AL;rw[aC,q,zk,zk];rfl
def Pc {H:Hp} {x:Str×(Int×Int)×(Int×Int)} {v:V} (h:Is H (eK x) v):∃a t l,v=.ref a/\H a=some (.tup [.str x.1,t,l])/\Is H (dL x.2.1) t/\Is H (dL x.2.2) l:=by
 unfold eK Is at h;obtain⟨a,vs,rfl,ha,hl⟩:=h;unfold aE at hl;obtain⟨v1,r1,rfl,h1,hl⟩:=hl;unfold aE at hl;obtain⟨v2,r2,rfl,h2,hl⟩:=hl;unfold aE at hl;obtain⟨v3,r3,rfl,h3,hl⟩:=hl;unfold aE at hl;subst hl;unfold Is at h1;subst h1;exact⟨a,v2,v3,rfl,ha,h2,h3⟩
def Lh {H:Hp} {x:Str×List Str} {v:V} (h:Is H (gQ x) v):∃a q,v=.ref a/\H a=some (.tup [.str x.1,.ref q])/\H q=some (.tup (x.2.map V.str)):=by
 unfold gQ Is at h;obtain⟨a,vs,rfl,ha,hl⟩:=h;unfold aE at hl;obtain⟨v1,r1,rfl,h1,hl⟩:=hl;unfold aE at hl;obtain⟨v2,r2,rfl,h2,hl⟩:=hl;unfold aE at hl;subst hl;unfold Is at h1;subst h1;unfold og Is at h2;obtain⟨q,us,rfl,hq,hl⟩:=h2;rw[d4 hl] at hq;exact⟨a,q,rfl,ha,hq⟩
def Rf {H:Hp} {x:Int×Str} {v:V} (h:Is H (Kp x) v):∃a,v=.ref a/\H a=some (.tup [.int x.1,.str x.2]):=by
 unfold Kp Is at h;obtain⟨a,vs,rfl,ha,hl⟩:=h;unfold aE at hl;obtain⟨v1,r1,rfl,h1,hl⟩:=hl;unfold aE at hl;obtain⟨v2,r2,rfl,h2,hl⟩:=hl;unfold aE at hl;subst hl;unfold Is at h1 h2;subst h1 h2;exact⟨a,rfl,ha⟩
def TD (t:Told):Prop:=Qg t/\(Sc.wordsOf t).length<=100/\∀w∈Sc.wordsOf t,w.length<=100
def xY {t:Told} (h:TD t):((Sc.wordsOf t).map (fun z:Str=>z.length+(" ": Str).length)).sum<=sizeLine:=by
 have sl:=yC;have a:=qV (sep:=" ") h.2.2;have b:(Sc.wordsOf t).length*(100+(" ": Str).length)<=100*(100+(" ": Str).length):=Nat.mul_le_mul h.2.1 (zm _);exact zM a (zM b (by show 100*(100+1)<=sizeLine;omega))
def IL (n:Str):("player ": Str)++n=rowOf (.bN n):=rfl
noncomputable def rws (ts:List Told):List V:=(ts.map rowOf).map V.str
def mB (a b:List Told):rws (a++b)=rws a++rws b:=by unfold rws;rw[zk,zk]
def mz (a:List Told):(rws a).length=a.length:=by unfold rws;rw[za,za]
inductive qX (vs:List V) (H:Hp) (Q:VK) (E:XK):Prop
 | mk (p:Addr) (S:cB) (_:vs=[.ref p]) (_:BA H p S) (_:(∀t∈eU S,TD t)) (_:(eU S).length<=1000000) (_:(∀r∈S.repeats,L3 r)) (_:S.repeats.length<=1000) (_:∀D H',aB H H'->H D=none->H' D=some (.lst (rws (eU S)))->Q (.ref D) H')
def aR:aF ["_law_s","_law_rows","_law_name","_law_turn","_law_time","_law_metre","_law_key","_law_marks","_law_player","_law_row","_law_bar","_law_items"] ["_law_s"] (aq ko):=dH
def rM:di P w base 3 T.iU qX:=by
 nomatch T.iU,aR
 obtain⟨p,S,rfl,la,tok,tl,rok,rln3,kk⟩:=h;have sl:=yC;obtain⟨pl,il,st,bl,hl,nl,rl,ub,jm,iv,sv,bv,hv,nv,rv,h1,h2,⟨h3,ili⟩,⟨h4,ils⟩,⟨h5,ilb⟩,h6,⟨h7,rlh⟩,⟨h8,rln⟩,_,_⟩:=la.at';have mem:∀a b c:List Told,eU S=a++b++c->∀t∈b,TD t:=fun a b c e t ht=>tok t (by rw[e];simp[ht]);have tlen:∀a b:List Told,eU S=a++b->a.length<=1000000:=fun a b e=>by rw[e,zh] at tl;omega
 obtain⟨fl,fli,fls,flb,fln⟩:S.players.length<=1000000/\S.players.length+S.ao.length<=1000000/\S.players.length+S.ao.length+S.aM.length<=1000000/\S.players.length+S.ao.length+S.aM.length+S.aO.length<=1000000/\S.aK.length<=1000000:=by
  unfold eU at tl;simp only[zh,za] at tl;omega
 refine⟨_,(ag (Oo (i:=1) (ts:=["_law_name"]) (ys:=[]) (js:=[]) (te:=(fP (fun x y H Q=>∃i j,x=.str i/\y=.str j/\i.length+j.length<=sizeLine/\Q (.str (i++j)) H) (tC (.str "player ")) (bf 0))) (bw (bO (pv 0) ae)) (hJ 0) bD (ax b7 aN (pv 0)) aR.nd)
  (ag (cE PassesOwn.never rfl (bw (bO (pv 0) ae)) (d6 (n:=3) rfl (aP (jR 2 aR.nd) (aP (jR 3 aR.nd) (aP (jR 4 aR.nd) dq))))
  (ak (bJ (bY yD yF yE bH (pv 1) (aa (bY yG yI yH hX aN (aa (bB (aa aN (aa (pv 2) (aa (ox aZ T.fK (aa (bO (pv 3) ae) af)) (aa (ox aZ T.fK (aa (bO (pv 3) ae) af)) (aa (bK (dZ T) hr T.dA (aa (pv 4) af)) af)))))) af)) af)))))
  (ag (bT 1 aR.nd (ax gs (pv 1) (qh (ts:=["_law_name","_law_players"]) (ys:=[]) (js:=[]) (g:=(G3 K 2 (gx (cg 0) (gx (cg 1) G4)))) (te:=(Tn K "str" (rJoin K) (tC (.str " ")) (bX (fP (P6 K) (FT (bX (tC (.str "staff")) (bX (bf 0) eV))) (KR (Sn K) (bX (bf 1) eV))) eV))) (bw (bO (pv 0) ae)) (d6 (n:=2) rfl (aP (hJ 0) (aP (hJ 1) dq))) bD (bY yG yI yH hX aN (aa (ax gs (bB (aa aN (aa (pv 0) af))) (ox jn T.mL (aa (pv 1) af))) af)))))
  (ag (cE PassesOwn.never rfl (bw (bO (pv 0) ae)) (d6 (n:=3) rfl (aP (jR 5 aR.nd) (aP (jR 6 aR.nd) (aP (jR 7 aR.nd) dq))))
  (ak (bJ (bY yD yF yE bH (pv 1) (aa (bY yG yI yH hX aN (aa (ax gs (bB (aa aN (aa (ax b7 (ax b7 (ox aZ T.fK (aa (bO (pv 5) ae) af)) aN) (ox aZ T.fK (aa (bO (pv 5) ae) af))) (aa (ox aZ T.fK (aa (pv 6) af)) af)))) (ox jn T.mL (aa (pv 7) af))) af)) af)))))
  (ag (aJ (bF (gr (bO (pv 0) ae)))
  (ak (bJ (bY yD yF yE bH (pv 1) (aa (ax b7 aN (bK (dZ T) hr T.dA (aa (bO (pv 0) ae) af))) af))))
  aD)
  (ag (cE PassesOwn.never rfl (bw (bO (pv 0) ae)) (d6 (n:=2) rfl (aP (jR 8 aR.nd) (aP (jR 9 aR.nd) dq)))
  (ak (bT 1 aR.nd (ax gs (pv 1) (qh (ts:=["_law_bar","_law_name"]) (ys:=["_law_player"]) (js:=[8]) (g:=(G3 K 2 (gx (cg 0) (gx (cg 1) G4)))) (te:=(Tn K "str" (rJoin K) (tC (.str " ")) (bX (FT (bX (tC (.str "holds")) (bX (bf 2) (bX (KR Sm (bX (bf 0) eV)) (bX (bf 1) eV))))) eV))) (bw (pv 9)) (d6 (n:=2) rfl (aP (hJ 0) (aP (hJ 1) dq))) bD (bY yG yI yH hX aN (aa (bB (aa aN (aa (pv 2) (aa (ox aZ T.fK (aa (pv 0) af)) (aa (pv 1) af))))) af)))))))
  (ag (cE PassesOwn.never rfl (bw (bO (pv 0) ae)) (d6 (n:=3) rfl (aP (jR 10 aR.nd) (aP (jR 8 aR.nd) (aP (jR 11 aR.nd) dq))))
  (ak (bJ (bY yD yF yE bH (pv 1) (aa (bY yG yI yH hX aN (aa (ax gs (bB (aa aN (aa (ox aZ T.fK (aa (pv 10) af)) (aa (pv 8) af)))) (qh (ts:=["_law_item"]) (ys:=[]) (js:=[]) (te:=(iA kg [] E0 (bX (bf 0) eV))) (bw (pv 11)) (hJ 0) bD (bK (tT T) hr T.kb (aa (pv 0) af)))) af)) af)))))
  (ak (au (ax gs (pv 1) (bK (tU T) hr T.kc (aa (pv 0) af)))))))))))),?_⟩
 ac_rfl;exists⟨_,aL.of h2⟩,?_;refine d9 (enc:=V.str) (ws:=S.players) (fun n=>.str (rowOf (.bN n))) (fun σ=>∃v,σ=[v]) nofun (aL.of h2) ⟨none,rfl⟩ ?_ ?_
 ·rintro z σ H1 R hz s1 ⟨_,rfl⟩ rr
  have tz:TD (.bN z):=tok _ (by unfold eU;simp[hz]);left;refine⟨?_,?_⟩
  ·have l7:("player ": Str).length=7:=rfl
   have:=tz.2.2 z (by simp[Sc.wordsOf]);omega
  exact rr _ _ _ (aB.refl _) (by rw[IL];exact e9) ⟨_,rfl⟩
 ·intro D vs H1 s1 nD hD ilD
  have ee:S.players.map (fun n=>Dt.str (rowOf (.bN n)))=((S.players.map Told.bN).map rowOf).map Dt.str:=by rw[zB,zB];rfl
  rw[ee] at ilD;rw[d4 ilD] at hD;have h11:=s1 _ _ h1;exists⟨_,aL.of (s1 _ _ h3)⟩,?_;refine dQ (K:=K) (a:=il) (xs:=iv) (fun i σ H'=>Lo [some (.ref p),some (.ref D)] 10 σ/\aB H H'/\H' D=some (.lst (rws (S.players.map .bN++(S.ao.take i).map fun x=>.cQ x.1 x.2.1 x.2.2)))) ⟨Lo.of rfl rfl,s1,by rw[List.take_zero,yn,zV];exact hD⟩ (fun i σ H' _ h=>by obtain⟨_,z,_⟩:=h;exact aL.of (z _ _ h3)) ?_ ?_
  ·intro i x σ H2 hx hh
   refine df fun N kN0 kR0 _ _=>?_;obtain⟨⟨e,rfl⟩,s2,hD2⟩:=hh;obtain⟨n,hn,ix⟩:=dE (d:=eK) ili hx;obtain⟨a1,t1,l1,rfl,ha1,it,iL⟩:=Pc ix;cases fC (o:=some n.2.1) it with
   | ref ht=>
   cases fC (o:=some n.2.2) iL with
   | ref hL=>
   have tn:TD (.cQ n.1 n.2.1 n.2.2):=tok _ (by unfold eU;simp only[zG,zH];exact .inl (.inl (.inl (.inl (.inl (.inl (.inr ⟨n,zC hn,rfl⟩)))))));refine⟨a1,_,rfl,dB.of (s2 _ _ ha1),rfl,?_⟩;refine⟨_,_,rfl,⟨_,_,rfl,⟨_,_,rfl,⟨rfl,?_⟩⟩⟩⟩;rename_i bt bL;have ht2:=s2 _ _ ht;have hL2:=s2 _ _ hL;obtain⟨t1,t2,t3,t4,t5,t6,t7⟩:=tn.1;obtain⟨c1,c2,c3,c4,_⟩:=t2;obtain⟨r1,r2,_⟩:=t5.pos;exists .inl ⟨rfl,_,aL.of hD2⟩,?_;exists bU nofun nofun,?_;exists bU nofun nofun,?_;exists _,n.2.2,rfl,hL2,r1,t6,r2,t7,?_;exists by show 5<=sizeLine;omega,?_
   intros p5 H5 s5 h5;refine⟨" ",p5,Sc.wordsOf (.cQ n.1 n.2.1 n.2.2),rfl,rfl,aL.of h5,xY tn,?_⟩;left;refine⟨D,_,_,rfl,rfl,s5 _ _ hD2,?_,?_⟩
   ·rw[mz,zh,za,za,zQ];omega
   exists Lo.of rfl rfl,bM nD (s2.trans s5),?_;rw[aC,cZ hn,zk,<-zF];exact congrArg (fun l=>some (HO.lst l)) (mB _ [Told.cQ n.1 n.2.1 n.2.2]).symm
  ·rintro σ H2 ⟨⟨e,rfl⟩,s2,hD2⟩
   rw[aT ili,zN] at hD2;have h12:=s2 _ _ h1;obtain⟨ps,e1,e2,e3⟩:=iG ils;have pln:ps.length=S.aM.length:=by rw[<-e1,za]
   exists⟨_,aL.of (s2 _ _ h4)⟩,?_;refine d9 (enc:=fun q:(Str×List Str)×V=>q.2) (ws:=ps) (fun q=>.str (rowOf (.cC q.1.1 q.1.2))) (fun σ=>∃v u,σ=[v,u]) nofun (by rw[e2];exact aL.of (s2 _ _ h4)) ⟨none,none,rfl⟩ ?_ ?_
   ·rintro z σ H3 R hz s3 ⟨_,_,rfl⟩ rr
    have zin:z.1∈S.aM:=by rw[<-e1];exact zP hz
    have tz:TD (.cC z.1.1 z.1.2):=tok _ (by unfold eU;simp only[zG,zH];exact .inl (.inl (.inl (.inl (.inl (.inr ⟨z.1,zin,rfl⟩))))));obtain⟨a3,q3,ea,ha3,hq3⟩:=Lh (e3 z hz);have s03:=s2.trans s3;rw[ea];refine⟨a3,_,rfl,dB.of (s03 _ _ ha3),rfl,?_⟩;refine⟨_,_,rfl,⟨_,_,rfl,⟨rfl,?_⟩⟩⟩;exists by show 2<=sizeLine;omega,?_
    intros p5 H5 s5 h5;exists q3,_,rfl,.inr (dB.of (s5 _ _ (s03 _ _ hq3))),?_;intros p6 H6 s6 h6;have zl:z.1.2.length<=98:=by have:=tz.2.1;simp only[Sc.wordsOf,zv] at this;omega
    refine⟨p5,p6,_,_,rfl,rfl,aL.of (s6 _ _ h5),aL.of h6,by rw[za];show 2+_<=_;omega,?_⟩;intros p7 H7 s7 h7;refine⟨" ",p7,Sc.wordsOf (.cC z.1.1 z.1.2),rfl,rfl,aL.of h7,xY tz,?_⟩;exact rr _ _ _ ((s5.trans s6).trans s7) e9 ⟨_,_,rfl⟩
   ·intro D3 vs3 H3 s3 nD3 hD3 il3
    have ee3:ps.map (fun q:(Str×List Str)×V=>Dt.str (rowOf (.cC q.1.1 q.1.2)))=((S.aM.map fun x=>Told.cC x.1 x.2).map rowOf).map Dt.str:=by rw[<-e1,zB,zB,zB];rfl
    rw[ee3] at il3;rw[d4 il3] at hD3;refine⟨D,D3,_,_,rfl,rfl,aL.of (s3 _ _ hD2),aL.of hD3,?_,?_⟩
    ·rw[mz,zh,za,za,za,za,za];omega
    intro D4 n4;generalize hU:upd H3 D4 _=H4;have s4:aB H3 H4:=by rw[<-hU];exact aS n4
    have hD4:H4 D4=some (.lst (rws (S.players.map .bN++(S.ao.map fun x=>.cQ x.1 x.2.1 x.2.2)++S.aM.map fun x=>.cC x.1 x.2))):=by
     rw[<-hU,aC];exact congrArg (fun l=>some (HO.lst l)) (mB _ _).symm
    clear hU;have nD4:H D4=none:=(s2.trans s3).back n4;have s04:=(s2.trans s3).trans s4;clear hD2 hD3 il3 hD ilD nD nD3;have h14:=s04 _ _ h1;exists⟨_,aL.of (s04 _ _ h5)⟩,?_;refine dQ (K:=K) (a:=bl) (xs:=bv) (fun i σ H'=>Lo [some (.ref p),some (.ref D4)] 10 σ/\aB H H'/\H' D4=some (.lst (rws (S.players.map .bN++(S.ao.map fun x=>.cQ x.1 x.2.1 x.2.2)++(S.aM.map fun x=>.cC x.1 x.2)++(S.aO.take i).map .bar)))) ⟨⟨e,rfl⟩,s04,by rw[List.take_zero,yn,zV];exact hD4⟩ (fun i σ H' _ h=>by obtain⟨_,z,_⟩:=h;exact aL.of (z _ _ h5)) ?_ ?_
    ·intro i x σ H5 hx hh
     refine df fun N kN1 kR1 _ _=>?_;obtain⟨⟨e,rfl⟩,s5,hD5⟩:=hh;obtain⟨b,hb,ib⟩:=dE (d:=l8) ilb hx;obtain⟨a1,mv,q1,rfl,ha1,im,hq1⟩:=xK ib;cases fC (o:=some b.aU) im with
     | ref hm=>
     rename_i am;have tb:TD (.bar b):=tok _ (by unfold eU;simp only[zG,zH];exact .inl (.inl (.inl (.inl (.inr ⟨b,zC hb,rfl⟩)))));have hm5:=s5 _ _ hm;refine⟨a1,_,rfl,dB.of (s5 _ _ ha1),rfl,?_⟩;refine⟨_,_,rfl,⟨_,_,rfl,⟨_,_,rfl,⟨rfl,?_⟩⟩⟩⟩;obtain⟨t1,t2,t3,t4,t5,t6⟩:=tb.1;have bb:0<=b.aU.2/\b.aU.2<1000:=by unfold Cy at t3;simp at t3;omega
     have la1:=bz (n:=b.aU.1) nofun nofun;have la2:=bz (n:=b.aU.2) nofun nofun;have l1:("/": Str).length=1:=rfl;exists .inl ⟨rfl,_,aL.of hD5⟩,?_;exists bU nofun nofun,?_;exists by show(dec b.aU.1).length+_<=_;omega,?_
     exists bU nofun nofun,?_;exists by show(dec b.aU.1 ++"/").length+(dec b.aU.2).length<=_;rw[len_app];omega,?_
     exists bU nofun nofun,?_;exists by show 3<=sizeLine;omega,?_
     intros p6 H6 s6 h6;exists q1,_,rfl,.inr (dB.of (s6 _ _ (s5 _ _ hq1))),?_;intros p7 H7 s7 h7;have ml:b.marks.length<=97:=by have:=tb.2.1;simp only[Sc.wordsOf,zv] at this;omega
     refine⟨p6,p7,_,_,rfl,rfl,aL.of (s7 _ _ h6),aL.of h7,by rw[za];show 3+_<=_;omega,?_⟩;intros p8 H8 s8 h8;refine⟨" ",p8,Sc.wordsOf (.bar b),rfl,rfl,aL.of h8,xY tb,?_⟩;have s58:=(s6.trans s7).trans s8;left;refine⟨D4,_,_,rfl,rfl,s58 _ _ hD5,?_,?_⟩
     ·rw[mz];simp only[zh,za,zQ];omega
     exists Lo.of rfl rfl,bM nD4 (s5.trans s58),?_;rw[aC,cZ hb,zk,<-zF];exact congrArg (fun l=>some (HO.lst l)) (mB _ [Told.bar b]).symm
    ·rintro σ H5 ⟨⟨e,rfl⟩,s5,hD5⟩
     rw[aT ilb,zN] at hD5;obtain⟨B,hB⟩:∃B,B=S.players.map Told.bN++(S.ao.map fun x=>Told.cQ x.1 x.2.1 x.2.2)++(S.aM.map fun x=>Told.cC x.1 x.2)++S.aO.map Told.bar:=⟨_,rfl⟩
     have tB:eU S=B++S.aI.toList.map .aI++(S.holds.map fun x=>x.2.map fun h=>Told.holds x.1 h.1 h.2).flatten++(S.aK.map fun x=>.aK x.1.1 x.1.2 x.2)++AL S:=by rw[hB];rfl
     rw[<-hB] at hD5;have h15:=s5 _ _ h1;left;refine join (fun σ H'=>Lo [some (.ref p),some (.ref D4)] 10 σ/\aB H H'/\H' D4=some (.lst (rws (B++S.aI.toList.map .aI)))) (fun N hN c1=>?_) (fun N hN c1=>?_) ?_
     ·cases qu:S.aI with
      | none=>
       rw[qu] at h6;unfold dO Is at h6;rw[h6] at c1;simp at c1
      | some u=>
       rw[qu] at h6;cases fC (o:=some u) h6 with
       | ref hu=>
       have tu:TD (.aI u):=tok _ (by rw[tB,qu];simp);obtain⟨u1,u2,u3,u4⟩:=tu.1;obtain⟨_,r2,_⟩:=u1.pos;have lu:=lV (x:=u) nofun u3 nofun u4;have bl5:B.length<=1000000:=tlen B _ (by rw[tB,zF,zF,zF]);exists .inl ⟨rfl,_,aL.of hD5⟩,?_;exists _,u,rfl,s5 _ _ hu,nofun,u3,r2,u4,?_;have l7:("upbeat ": Str).length=7:=rfl;refine⟨_,_,rfl,rfl,nofun,?_⟩;exists D4,_,_,rfl,rfl,hD5,by rw[mz];omega,?_
       left;refine hN _ _ ⟨Lo.of rfl rfl,bM nD4 s5,?_⟩;rw[aC,qu];exact congrArg (fun l=>some (HO.lst l)) (mB B [Told.aI u]).symm
     ·have qu:S.aI=none:=by
       cases qu:S.aI with
       | none=>rfl
       | some u=>
        rw[qu] at h6;cases fC (o:=some u) h6 with
        | ref hu=>simp at c1
      left;refine hN _ _ ⟨Lo.of rfl rfl,s5,?_⟩;rw[qu];show H5 D4=some (.lst (rws (B++[])));rw[zV];exact hD5
     rintro σ6 H6 ⟨⟨e,rfl⟩,s6,hD6⟩;have h16:=s6 _ _ h1;exists⟨_,aL.of (s6 _ _ h7)⟩,?_;refine dQ (K:=K) (a:=hl) (xs:=hv) (fun i σ H'=>∃(D:Addr),Lo [some (.ref p),some (.ref D)] 10 σ/\aB H H'/\H D=none/\H' D=some (.lst (rws (B++S.aI.toList.map .aI++((S.holds.take i).map fun x=>x.2.map fun h=>Told.holds x.1 h.1 h.2).flatten)))) ⟨D4,⟨e,rfl⟩,s6,nD4,by rw[List.take_zero,yn,List.flatten_nil,zV];exact hD6⟩ (fun i σ H' _ h=>by obtain⟨_,_,z,_⟩:=h;exact aL.of (z _ _ h7)) ?_ ?_
     ·intro i x σ H7 hx hh
      refine df fun N kN2 kR2 _ _=>?_;obtain⟨D7,⟨e,rfl⟩,s7,nD7,hD7⟩:=hh;obtain⟨y,hy,a7,r7,us7,rfl,ha7,hr7,il7,_⟩:=rlh.at hx;obtain⟨qs,f1,f2,f3⟩:=iG il7;have ty:∀h∈y.2,TD (.holds y.1 h.1 h.2):=fun h hh=>tok _ (by
       rw[tB];refine zJ _ (zJ _ (zI _ ?_));exact List.mem_flatten.mpr ⟨_,zP (zC hy),zP hh⟩)
      have tke:((S.holds.take (i+1)).map fun x=>x.2.map fun h=>Told.holds x.1 h.1 h.2).flatten=((S.holds.take i).map fun x=>x.2.map fun h=>Told.holds x.1 h.1 h.2).flatten++y.2.map fun h=>Told.holds y.1 h.1 h.2:=by
       rw[cZ hy,zk,List.flatten_append];simp
      have lenB:(B++S.aI.toList.map Told.aI++((S.holds.take (i+1)).map fun x=>x.2.map fun h=>Told.holds x.1 h.1 h.2).flatten).length<=1000000:=by
       refine tlen _ (((S.holds.drop (i+1)).map fun x=>x.2.map fun h=>Told.holds x.1 h.1 h.2).flatten++(S.aK.map fun x=>.aK x.1.1 x.1.2 x.2)++AL S) ?_;rw[tB]
       conv=>lhs;rw[<-zZ (i+1) S.holds,zk,List.flatten_append]
       simp only[zF]
      rw[tke] at lenB;simp only[zh,za] at lenB;refine⟨a7,_,rfl,dB.of (s7 _ _ ha7),rfl,?_⟩;refine⟨_,_,rfl,⟨_,_,rfl,⟨rfl,?_⟩⟩⟩;exists⟨_,aL.of (s7 _ _ hr7)⟩,?_;have ql:qs.length=y.2.length:=by rw[<-f1,za]
      refine d9 (enc:=fun q:(Int×Str)×V=>q.2) (ws:=qs) (fun q=>.str (rowOf (.holds y.1 q.1.1 q.1.2))) (fun σ=>∃v u,σ=[v,u,some (.str y.1)]) nofun (by rw[f2];exact aL.of (s7 _ _ hr7)) ⟨none,none,rfl⟩ ?_ ?_
      ·rintro z σ H8 R hz s8 ⟨_,_,rfl⟩ rr
       have zin:z.1∈y.2:=by rw[<-f1];exact zP hz
       have tz:=ty z.1 zin;obtain⟨a8,ea,ha8⟩:=Rf (f3 z hz);have s08:=s7.trans s8;obtain⟨b1,b2⟩:=tz.1.2.1;rw[ea];refine⟨a8,_,rfl,dB.of (s08 _ _ ha8),rfl,?_⟩;refine⟨_,_,rfl,⟨_,_,rfl,⟨rfl,?_⟩⟩⟩;exists bU nofun nofun,?_;exists by show 4<=sizeLine;omega,?_
       intros p9 H9 s9 h9;refine⟨" ",p9,Sc.wordsOf (.holds y.1 z.1.1 z.1.2),rfl,rfl,aL.of h9,xY tz,?_⟩;exact rr _ _ _ s9 e9 ⟨_,_,rfl⟩
      ·intro D8 vs8 H8 s8 _ hD8 il8
       have ee8:qs.map (fun q:(Int×Str)×V=>Dt.str (rowOf (.holds y.1 q.1.1 q.1.2)))=((y.2.map fun h=>Told.holds y.1 h.1 h.2).map rowOf).map Dt.str:=by rw[<-f1,zB,zB,zB];rfl
       rw[ee8] at il8;rw[d4 il8] at hD8;refine⟨D7,D8,_,_,rfl,rfl,aL.of (s8 _ _ hD7),aL.of hD8,?_,?_⟩
       ·rw[mz];simp only[zh,za];omega
       intro D9 n9;generalize hU:upd H8 D9 _=H9;have s9:aB H8 H9:=by rw[<-hU];exact aS n9
       exists D9,Lo.of rfl rfl,(s7.trans s8).trans s9,(s7.trans s8).back n9,?_;rw[<-hU,aC,tke,<-zF];exact congrArg (fun l=>some (HO.lst l)) (mB _ _).symm
     ·rintro σ H7 ⟨D7,⟨e,rfl⟩,s7,nD7,hD7⟩
      rw[rlh.len,zN] at hD7;obtain⟨B2,hB2⟩:∃B2,B2=B++S.aI.toList.map Told.aI++(S.holds.map fun x=>x.2.map fun h=>Told.holds x.1 h.1 h.2).flatten:=⟨_,rfl⟩
      rw[<-hB2] at hD7 tB;have h17:=s7 _ _ h1;exists⟨_,aL.of (s7 _ _ h8)⟩,?_;refine dQ (K:=K) (a:=nl) (xs:=nv) (fun i σ H'=>Lo [some (.ref p),some (.ref D7)] 10 σ/\aB H H'/\H' D7=some (.lst (rws (B2++(S.aK.take i).map fun x=>.aK x.1.1 x.1.2 x.2)))) ⟨⟨e,rfl⟩,s7,by rw[List.take_zero,yn,zV];exact hD7⟩ (fun i σ H' _ h=>by obtain⟨_,z,_⟩:=h;exact aL.of (z _ _ h8)) ?_ ?_
      ·intro i x σ H8 hx hh
       refine df fun N kN3 kR3 _ _=>?_;obtain⟨⟨e,rfl⟩,s8,hD8⟩:=hh;obtain⟨y,hy,a7,r7,us7,rfl,ha7,hr7,il7,_⟩:=rln.at hx;obtain⟨qs,f1,f2,f3⟩:=iG il7;have tz:TD (.aK y.1.1 y.1.2 y.2):=tok _ (by rw[tB];simp only[zG,zH];exact .inl (.inr ⟨y,zC hy,rfl⟩));obtain⟨⟨b1,b2⟩,b3,b4,_⟩:=tz.1;have yl:y.2.length<=97:=by have:=tz.2.1;simp only[Sc.wordsOf,zv,za] at this;omega
       have ql:qs.length=y.2.length:=by rw[<-f1,za]
       have ib:i<S.aK.length:=(zy.mp hy).1;have lenB:B2.length+S.aK.length<=1000000:=by
        have:=tlen (B2++S.aK.map fun x=>.aK x.1.1 x.1.2 x.2) (AL S) tB
        simpa[zh,za] using this
       refine⟨a7,_,rfl,dB.of (s8 _ _ ha7),rfl,?_⟩;refine⟨_,_,rfl,⟨_,_,rfl,⟨_,_,rfl,⟨rfl,?_⟩⟩⟩⟩;exists .inl ⟨rfl,_,aL.of hD8⟩,?_;exists bU nofun nofun,?_;exists by show 3<=sizeLine;omega,?_
       intros p9 H9 s9 h9;have s09:=s8.trans s9;exists⟨_,aL.of (s09 _ _ hr7)⟩,?_;refine d9 (enc:=fun q:Item×V=>q.2) (ws:=qs) (fun q=>.str (rO q.1)) (fun σ=>∃v,σ=[v]) nofun (by rw[f2];exact aL.of (s09 _ _ hr7)) ⟨none,rfl⟩ ?_ ?_
       ·rintro z σ Ha R hz sa ⟨_,rfl⟩ rr
        have zin:z.1∈y.2:=by rw[<-f1];exact zP hz
        change⟨z.2,z.1,rfl,((f3 z hz).mono s09).mono sa,b4 _ zin,rr _ _ _ (aB.refl _) e9 ⟨_,rfl⟩⟩
       ·intro Da vsa Ha sa _ hDa ila
        have eea:qs.map (fun q:Item×V=>Dt.str (rO q.1))=(y.2.map rO).map Dt.str:=by rw[<-f1,zB,zB];rfl
        rw[eea] at ila;rw[d4 ila] at hDa;refine⟨p9,Da,_,_,rfl,rfl,aL.of (sa _ _ h9),aL.of hDa,by rw[za,za];show 3+_<=_;omega,?_⟩;intros pb Hb sb hb;refine⟨" ",pb,Sc.wordsOf (.aK y.1.1 y.1.2 y.2),rfl,rfl,aL.of hb,xY tz,?_⟩;have s8b:=(s9.trans sa).trans sb;left;refine⟨D7,_,_,rfl,rfl,s8b _ _ hD8,?_,?_⟩
        ·rw[mz];simp only[zh,za,zQ];omega
        exists Lo.of rfl rfl,bM nD7 (s8.trans s8b),?_;rw[aC,cZ hy,zk,<-zF];exact congrArg (fun l=>some (HO.lst l)) (mB _ [Told.aK y.1.1 y.1.2 y.2]).symm
      ·rintro σ H8 ⟨⟨e,rfl⟩,s8,hD8⟩
       rw[rln.len,zN] at hD8;exists p,S,rfl,la.mono s8,rok,rln3,fun j hj=>(tok (.b9 j) (by rw[tB];unfold AL;rw[hj];simp)).1,fun D9 H9 s9 _ h9=>?_;refine⟨D7,D9,_,_,rfl,rfl,aL.of (s9 _ _ hD8),aL.of h9,?_,?_⟩
       ·have:=tl
        rw[tB] at this;simp only[zh,za] at this;rw[mz];simp only[zh,za];omega
       intro Dx nx;generalize hU:upd H9 Dx _=Hx;have sx:aB H9 Hx:=by rw[<-hU];exact aS nx
       refine kk Dx Hx ((s8.trans s9).trans sx) ((s8.trans s9).back nx) ?_;rw[<-hU,aC,tB];exact congrArg (fun l=>some (HO.lst l)) (mB _ _).symm
def Ms {t:Told} (h:TD t):(rowOf t).length<=10100:=by
 have a:=AG (sep:=" ") h.2.2;have b:(Sc.wordsOf t).length*(100+(" ": Str).length)<=100*(100+(" ": Str).length):=Nat.mul_le_mul h.2.1 (zm _);exact zM a (zM b (by show 100*(100+1)<=10100;decide))
inductive qW (vs:List V) (H:Hp) (Q:VK) (E:XK):Prop
 | mk (p:Addr) (S:cB) (_:vs=[.ref p]) (_:BA H p S) (_:(∀t∈eU S,TD t)) (_:(eU S).length<=1000) (_:(∀r∈S.repeats,L3 r)) (_:S.repeats.length<=1000) (_:∀H',aB H H'->Q (.str (Str.join "\n" ((eU S).map rowOf))) H')
def FO {ts:List Told} (h:∀t∈ts,TD t) (hl:ts.length<=1000):((ts.map rowOf).map (fun z:Str=>z.length+("\n": Str).length)).sum<=1000*10101:=by
 have a:=qV (sep:="\n") (k:=10100) (zs:=ts.map rowOf) fun z hz=>by
  obtain⟨t,ht,rfl⟩:=zH.mp hz;exact Ms (h t ht)
 rw[za] at a;have b:ts.length*(10100+("\n": Str).length)<=1000*(10100+("\n": Str).length):=Nat.mul_le_mul hl (zm _);exact zM a (zM b (by show 1000*(10100+1)<=1000*10101;decide))
def rj:aF ["_law_s"] ["_law_s"] (aq km):=dH
def rL:di P w base 4 T.iT qW:=by
 nomatch T.iT,rj
 obtain⟨p,S,rfl,la,tok,tl,rok,rl,kk⟩:=h;have sl:=yC;refine⟨_,(ak (au (bY yG yI yH hX aN (aa (bK (rM T) hr T.iU (aa (pv 0) af)) af)))),?_⟩;ac_rfl;exists p,S,rfl,la,tok,nofun,rok,rl,fun D H1 s1 _ h1=>?_;refine⟨"\n",D,(eU S).map rowOf,rfl,rfl,aL.of h1,zM (FO tok tl) nofun,?_⟩;exact kk _ s1
theorem J5:∀{ts:List Told},(∀t∈ts,TD t)->RT (ts.map rowOf) ts
 | [],_=>.nil
 | t::r,h=>by
  have ht:=h t zr;exact .row (zM (Ms ht) ∅) (K4 ht.1) ht.1 (zM ht.2.1 ∅) (fun y hy=>zM (ht.2.2 y hy) ∅) (J5 fun x hx=>h x (zp _ hx))
def OO {ts:List Told} (ne:ts≠[]) (h:∀t∈ts,TD t):RT (Txt.split (Str.join "\n" (ts.map rowOf)) "\n") ts:=by
 rw[show Txt.split (Str.join "\n" (ts.map rowOf)) "\n"= ts.map rowOf from gL (c:=10) (by simpa using ne) fun z hz=>by
  obtain⟨t,ht,rfl⟩:=zH.mp hz;exact MP (h t ht).1]
 exact J5 h
def text_len {ts:List Told} (h:∀t∈ts,TD t) (hl:ts.length<=1000):(Str.join "\n" (ts.map rowOf)).length+2<=sizeLine:=by
 have sl:=yC;have a:=join_le "\n" (ts.map rowOf);have b:=FO h hl;omega
def Ft (ps:List Str) (sts:List (Str×List Str)):Prop:=sts.length<=2/\Bz (sts.map (·.1))/\(sts.map (·.2)).flatten.Nodup/\∀x∈sts,x.2≠[]/\x.2.length<=ps.length/\∀p∈x.2,p∈ps
inductive sE (vs:List V) (H:Hp) (Q:VK) (E:XK):Prop
 | mk (c:Int) (pp:Addr) (ps:List Str) (_:vs=[.int c,.ref pp]) (_:H pp=some (.lst (ps.map V.str))) (_:ps.Nodup) (_:ps.length<=12) (_:∀(sts:List (Str×List Str)) D us H',Ft ps sts->aB H H'->H' D=some (.lst us)->aE H' (sts.map gQ) us->Q (.ref D) H')
theorem xT {H:Hp}:∀{nms:List Str} {rows:List (List Str)} {rv us:List V},nms.length=rows.length->RL (fun o v=>∃r,v=V.ref r/\H r=some (.tup (o.map V.str))) rows rv->Pairs H (nms.map V.str) rv us nms.length->aE H ((nms.zip rows).map gQ) us
 | [],[],_,us,_,_,p=>by
  have:us=[]:=yt.mp p.1;rw[this];exact cO
 | n::ns,o::ot,_,us,hl,⟨v,rv,rfl,⟨r,ev,hr⟩,rl⟩,p=>by
  subst ev;cases us with
  | nil=>have:=p.1;simp at this
  | cons u us=>
   obtain⟨q,e1,e2⟩:=p.2 0 (.str n) (.ref r) (by simp) rfl rfl;simp at e1;subst e1;refine aQ (cK e2 (aQ e9 (aQ (cK hr (AH o)) cO))) (xT (by simpa using hl) rl ⟨by have:=p.1;simpa using this,fun j x y hj hx hy=>?_⟩);obtain⟨q',f1,f2⟩:=p.2 (j+1) x y (by simp;omega) (by simpa using hx) (by simpa using hy);exact⟨q',by simpa using f1,f2⟩
 | [],_::_,_,_,hl,_,_=>by simp at hl
 | _::_,[],_,_,hl,_,_=>by simp at hl
theorem JT {α β:Type}:∀{a:List α} {b:List β},a.length=b.length->(a.zip b).map (·.1)=a
 | [],[],_=>rfl
 | x::xs,y::ys,h=>by rw[List.zip_cons_cons,zj,JT (by simpa using h)]
 | [],_::_,h=>by simp at h
 | _::_,[],h=>by simp at h
theorem DD {α β:Type}:∀{a:List α} {b:List β},a.length=b.length->(a.zip b).map (·.2)=b
 | [],[],_=>rfl
 | x::xs,y::ys,h=>by rw[List.zip_cons_cons,zj,DD (by simpa using h)]
 | [],_::_,h=>by simp at h
 | _::_,[],h=>by simp at h
noncomputable def two (o1 o2:List Str):List (List Str):=(if o1=[] then [] else [o1])++(if o2=[] then [] else [o2])
noncomputable def BF (o1 o2:List Str) (r1 r2:Addr):List V:=(if o1=[] then [] else [.ref r1])++(if o2=[] then [] else [.ref r2])
noncomputable def Ua (o1 o2:List Str) (r1 r2:Addr):Nat->List V
 | 0=>[]
 | 1=>if o1=[] then [] else [.ref r1]
 | _=>BF o1 o2 r1 r2
def Mo (o1 o2:List Str):(two o1 o2).flatten=o1++o2:=by
 unfold two
 by_cases h1:o1=[] <;> by_cases h2:o2=[] <;> simp[h1,h2]
def Qu {o1 o2 o:List Str} (h:o∈two o1 o2):o≠[]/\(o=o1\/o=o2):=by
 unfold two at h;rcases zG.mp h with h | h
 ·by_cases h1:o1=[]
  ·rw[if_pos h1] at h;cases h
  ·rw[if_neg h1] at h;rw[zA.mp h];exact⟨h1,.inl rfl⟩
 ·by_cases h1:o2=[]
  ·rw[if_pos h1] at h;cases h
  ·rw[if_neg h1] at h;rw[zA.mp h];exact⟨h1,.inr rfl⟩
def Qt {H:Hp} {o1 o2:List Str} {r1 r2:Addr} (h1:H r1=some (.tup (o1.map V.str))) (h2:H r2=some (.tup (o2.map V.str))):RL (fun o v=>∃r,v=V.ref r/\H r=some (.tup (o.map V.str))) (two o1 o2) (BF o1 o2 r1 r2):=by
 unfold two BF
 by_cases e1:o1=[] <;> by_cases e2:o2=[]
 ·rw[if_pos e1,if_pos e2,if_pos e1,if_pos e2];exact rfl
 ·rw[if_pos e1,if_neg e2,if_pos e1,if_neg e2];exact⟨_,_,rfl,⟨_,rfl,h2⟩,rfl⟩
 ·rw[if_neg e1,if_pos e2,if_neg e1,if_pos e2];exact⟨_,_,rfl,⟨_,rfl,h1⟩,rfl⟩
 ·rw[if_neg e1,if_neg e2,if_neg e1,if_neg e2];exact⟨_,_,rfl,⟨_,rfl,h1⟩,_,_,rfl,⟨_,rfl,h2⟩,rfl⟩
def JX (o1 o2:List Str):(two o1 o2).length<=2:=by
 unfold two
 by_cases h1:o1=[] <;> by_cases h2:o2=[] <;> simp[h1,h2]
def KU {ps o1 o2:List Str} {nms:List Str} (pn:ps.Nodup) (hs:(o1++o2).Nodup) (hi:∀p∈o1++o2,p∈ps) (hl:(o1++o2).length<=ps.length) (nl:nms.length=(two o1 o2).length) (nok:Bz nms):Ft ps (nms.zip (two o1 o2)):=by
 refine⟨?_,by rw[JT nl];exact nok,by rw[DD nl,Mo];exact hs,fun x hx=>?_⟩
 ·rw[List.length_zip,nl,Nat.min_self];exact JX o1 o2
 ·have hm:x.2∈two o1 o2:=by
   have:=zP (f:=fun y:Str×List Str=>y.2) hx;rw[DD nl] at this;exact this
  obtain⟨ne,e⟩:=Qu hm;rw[zh] at hl;rcases e with e | e <;> rw[e]
  ·exact⟨e▸ne,nofun,fun p hp=>hi p (zJ _ hp)⟩
  ·exact⟨e▸ne,nofun,fun p hp=>hi p (zI _ hp)⟩
def cD:aF ["_law_cell","_law_players","_law_m","_law_order","_law_alone","_law_cut","_law_rows"] ["_law_cell","_law_players"] (aq lO):=dH
def tS:di P w base 2 T.ka sE:=by
 nomatch T.ka,cD
 obtain⟨c,pp,ps,rfl,hpp,pn,pl,kk⟩:=h;have sl:=yC;refine⟨_,(ag (bT 2 cD.nd (bK (bW T) hr T.cG (aa (pv 0) (aa ae af))))
  (ag (aJ (ptr dj (ax aV (pv 2) ae) ae)
  (ak (au (bB af)))
  aD)
  (ag (bT 3 cD.nd (ox jn T.mL (aa (pv 1) af)))
  (ag (aJ (ptr dj (ax aV (ax aX (pv 2) ae) ae) ae)
  (ak (bJ (Q2 yD PySem.F.slot_list_reverse PySem.F.type_list_reverse IW (pv 3))))
  aD)
  (ag (bT 4 cD.nd (ax aV (ax aX (pv 2) ae) (ax aY (eQ aG T.bC (aa (pv 3) af)) ae)))
  (ag (bT 3 cD.nd (ax gs (dP gX (pv 3) eO (eN (pv 4))) (dP gX (pv 3) (eN (ax aY (pv 4) ae)) eO)))
  (ag (bT 5 cD.nd (ax aV (ax aX (pv 2) ae) (ax aY (eQ aG T.bC (aa (pv 3) af)) ae)))
  (ag (Oo (i:=6) (ts:=["_law_row"]) (ys:=[]) (js:=[]) (g:=(cg 0)) (tc:=(m9 (fP (QU K) (bf 0) (FQ eV)))) (te:=(bf 0)) (bw (bB (aa (ox cS T.hV (aa (dP gX (pv 3) eO (eN (pv 5))) af)) (aa (ox cS T.hV (aa (dP gX (pv 3) (eN (pv 5)) eO) af)) af)))) (hJ 0) (g9 (ptr (uX hr.units) (pv 0) (bG af))) (pv 0) cD.nd)
  (ak (au (Nc rfl (by rfl) T.mL (by rfl) T.Nl (aa (bK (fm T) hr T.eI (aa (ax aX (pv 2) ae) (aa (eQ aG T.bC (aa (pv 6) af)) af))) (aa (pv 6) af))))))))))))),?_⟩
 ac_rfl;exists c,9,rfl,nofun,nofun,?_;have m0:0<=mixed c 9:=zw _ ∅;have m1:mixed c 9<2147483399:=zt _ ∅;generalize mixed c 9=m at m0 m1;left
 by_cases c0:m%4=0
 ·refine cb (zg (congrArg V.int c0)) ?_
  exists by show 0<=sizeLine;omega,fun D nD=>?_
  exact kk [] D [] _ ⟨∅,⟨by simp,by simp⟩,by simp,by simp⟩ (aS nD) aC cO
 refine cq (ze fun z=>c0 (V.int.inj z)) ?_;exists pp,_,rfl,.inl (aL.of hpp),fun D nD=>?_;have s1:aB H (upd H D (.lst (ps.map V.str))):=aS nD;have h1:upd H D (.lst (ps.map V.str)) D=some (.lst (ps.map V.str)):=aC;generalize upd H D (.lst (ps.map V.str))=H1 at s1 h1 ⊢;left;refine join (fun σ H'=>∃od:List Str,σ=[some (.int c),some (.ref pp),some (.int m),some (.ref D),none,none,none]/\aB H H'/\H' D=some (.lst (od.map V.str))/\od.Perm ps) (fun N hN c1=>?_) (fun N hN c1=>?_) ?_
 ·left
  refine⟨.inl ⟨rfl,_,aL.of h1⟩,D,_,rfl,rfl,h1,?_⟩;change hN _ _ ⟨ps.reverse,rfl,bM nD s1,by rw[aC,List.map_reverse],ps.reverse_perm⟩
 ·left
  exact hN _ _ ⟨ps,rfl,s1,h1,List.Perm.refl _⟩
 clear s1 h1 H1;rintro σ1 H1 ⟨od,rfl,s1,h1,pm⟩;have ol:=pm.length_eq;exists D,_,rfl,.inl (aL.of h1),?_;rw[za];exists by show 0<(od.length:Int)+2;omega,?_
 have a0:0<=m/5%((od.length:Int)+2):=zw _ nofun;obtain⟨al,hal⟩:∃j:Nat,m/5%((od.length:Int)+2)=(j:Int):=⟨(m/5%((od.length:Int)+2)).toNat,nofun⟩
 exists D,_,rfl,aL.of h1,fun p2 n2=>?_;generalize hU2:upd H1 p2 _=H2;have s2:aB H1 H2:=aB.lj hU2 n2;have h2:H2 p2=some (.lst ((od.take al).map V.str)):=(lD hU2).trans (congrArg (fun z=>some (HO.lst z)) (by show lC (od.map V.str) none (some (m/5%((od.length:Int)+2)))=_;rw[hal,E3,List.map_take]));clear hU2;exists D,_,rfl,aL.of (s2 _ _ h1),fun p3 n3=>?_;generalize hU3:upd H2 p3 _=H3;have s3:aB H2 H3:=aB.lj hU3 n3;have h3:H3 p3=some (.lst ((od.drop (al+1)).map V.str)):=(lD hU3).trans (congrArg (fun z=>some (HO.lst z)) (by
  show lC (od.map V.str) (some (m/5%((od.length:Int)+2)+1)) none=_;rw[hal,show((al:Int)+1)=((al+1:Nat):Int) by omega,fZ,List.map_drop]))
 clear hU3;left;refine⟨p2,p3,_,_,rfl,rfl,aL.of (s3 _ _ h2),aL.of h3,?_,fun p4 n4=>?_⟩
 ·rw[za,za,zQ,List.length_drop];omega
 generalize hU4:upd H3 p4 _=H4;have s4:aB H3 H4:=aB.lj hU4 n4;obtain⟨o0,eo0⟩:∃o0:List Str,o0=od.take al++od.drop (al+1):=⟨_,rfl⟩
 have h4:H4 p4=some (.lst (o0.map V.str)):=(lD hU4).trans (by rw[eo0,zk]);clear hU4;have sub:o0.Sublist od:=by
  rw[eo0]
  conv=>rhs;rw[<-zZ al od]
  exact List.Sublist.append (List.Sublist.refl _) (by rw[List.drop_add_one_eq_tail_drop];exact List.tail_sublist _)
 have o0n:o0.Nodup:=sub.nodup (pm.nodup_iff.mpr pn);have o0l:o0.length<=ps.length:=by have:=sub.length_le;omega
 have o0i:∀p∈o0,p∈ps:=fun p hp=>pm.mem_iff.mp (sub.subset hp);have s04:=s1.trans (s2.trans (s3.trans s4));clear s1 s2 s3 s4 h1 h2 h3 sub eo0 hal a0 n2 n3 n4 ol pm;exists p4,_,rfl,.inl (aL.of h4),?_;rw[za];exists by show 0<(o0.length:Int)+1;omega,?_
 have a0:0<=m/8%((o0.length:Int)+1):=zw _ nofun;obtain⟨al,hal⟩:∃j:Nat,m/8%((o0.length:Int)+1)=(j:Int):=⟨(m/8%((o0.length:Int)+1)).toNat,nofun⟩
 exists p4,_,rfl,aL.of h4,fun p5 n5=>?_;generalize hU5:upd H4 p5 _=H5;have s5:aB H4 H5:=aB.lj hU5 n5;have h5:H5 p5=some (.lst ((o0.take al).map V.str)):=(lD hU5).trans (congrArg (fun z=>some (HO.lst z)) (by show lC (o0.map V.str) none (some (m/8%((o0.length:Int)+1)))=_;rw[hal,E3,List.map_take]));clear hU5;left;refine⟨p5,_,rfl,.inl ⟨aL.of h5,?_⟩⟩;intros p6 H6 s6 h6;exists p4,_,rfl,aL.of (s6 _ _ (s5 _ _ h4)),fun p7 n7=>?_;generalize hU7:upd H6 p7 _=H7;have s7:aB H6 H7:=aB.lj hU7 n7;have h7:H7 p7=some (.lst ((o0.drop al).map V.str)):=(lD hU7).trans (congrArg (fun z=>some (HO.lst z)) (by show lC (o0.map V.str) (some (m/8%((o0.length:Int)+1))) none=_;rw[hal,fZ,List.map_drop]));clear hU7;left;refine⟨p7,_,rfl,.inl ⟨aL.of h7,?_⟩⟩;intros p8 H8 s8 h8;exists by show 2<=sizeLine;omega,?_
 intros p9 H9 s9 h9;exists⟨_,aL.of h9⟩,?_;have s49:=s5.trans (s6.trans (s7.trans (s8.trans s9)));have h69:H9 p6=some (.tup ((o0.take al).map V.str)):=s9 _ _ (s8 _ _ (s7 _ _ h6));have h89:H9 p8=some (.tup ((o0.drop al).map V.str)):=s9 _ _ h8;have fl:(o0.take al++o0.drop al)=o0:=zZ al o0;generalize o0.take al=o1 at h69 fl;generalize o0.drop al=o2 at h89 fl;have s09:=s04.trans s49;clear s04 s49 s5 s6 s7 s8 s9 h5 h6 h7 h8;have tst:∀(o:List Str) (r:Addr) (H':Hp) (R:Bool->Hp->Prop),H' r=some (.tup (o.map V.str))->(∀H'',aB H' H''->R (!decide (o=[])) H'')->m9 (fP (QU K) (bf 0) (FQ eV)) [some (.ref r)] H' R:=fun o r H' R hr hR=>by
  exists by show 0<=sizeLine;omega,?_
  intros pa Ha sa ha;refine⟨r,pa,_,_,rfl,rfl,.inr ⟨dB.of (sa _ _ hr),dB.of ha⟩,.inr (.inl rfl),?_⟩;have e:decide (o.map V.str=[])=decide (o=[]):=by simp
  rw[e];exact⟨_,rfl,hR _ sa⟩
 refine pC 2 (Ua o1 o2 p6 p8) (fun i σ H'=>(∃v,σ=[v])/\aB H9 H') ?_ nofun rfl ⟨⟨_,rfl⟩,aB.refl _⟩ ?_ ?_ ?_ ?_
 ·intro i hi
  match i,hi with
  | 0,_=>exact zm _
  | 1,_=>show(if o1=[] then([]:List V) else [.ref p6]).length<=1;by_cases e:o1=[] <;> simp[e]
  | 2,_=>show(BF o1 o2 p6 p8).length<=2;unfold BF;by_cases e:o1=[] <;> by_cases e2:o2=[] <;> simp[e,e2]
 ·rintro i σ H' hi ⟨_,sm⟩
  exact Di (aL.of (sm _ _ h9)) hi
 ·rintro σ H' ⟨_,sm⟩
  exact⟨_,aL.of (sm _ _ h9),zm _⟩
 ·rintro i x σ H' H'' hi ⟨⟨v,rfl⟩,sm⟩ ⟨rfl,hy⟩
  have hx:=hy _ (aL.of (sm _ _ h9))
  match i,hi with
  | 0,_=>
   have ex:V.ref p6=x:=yk hx;subst ex;refine tst o1 p6 _ _ (sm _ _ h69) fun H3 s3=>?_
   by_cases e:o1=[]
   ·rw[zg e]
    exact Ig.skip nofun (by show(if o1=[] then([]:List V) else [.ref p6])=[];rw[if_pos e]) ⟨⟨_,rfl⟩,sm.trans s3⟩
   ·rw[ze e]
    change Ig.push nofun (by show(if o1=[] then([]:List V) else [.ref p6])=[]++[.ref p6];rw[if_neg e];rfl) ⟨⟨_,rfl⟩,sm.trans s3⟩
  | 1,_=>
   have ex:V.ref p8=x:=yk hx;subst ex;refine tst o2 p8 _ _ (sm _ _ h89) fun H3 s3=>?_
   by_cases e:o2=[]
   ·rw[zg e]
    exact Ig.skip nofun (by show BF o1 o2 p6 p8=(if o1=[] then([]:List V) else [.ref p6]);unfold BF;rw[if_pos e,zV]) ⟨⟨_,rfl⟩,sm.trans s3⟩
   ·rw[ze e]
    change Ig.push nofun (by show BF o1 o2 p6 p8=(if o1=[] then([]:List V) else [.ref p6])++[.ref p8];unfold BF;rw[if_neg e]) ⟨⟨_,rfl⟩,sm.trans s3⟩
 ·rintro σ H' ⟨_,sm⟩ D5 n5'
  generalize hU:upd H' D5 _=H5;have s5:aB H9 H5:=sm.trans (aB.lj hU n5');have hD5:H5 D5=some (.lst (BF o1 o2 p6 p8)):=lD hU;clear hU;have rl5:=Qt (s5 _ _ h69) (s5 _ _ h89);have tl:=rl5.len;have t2:=JX o1 o2;exists D5,_,rfl,.inl (aL.of hD5),?_;rw[tl];left;refine⟨_,_,rfl,zW m0 ∅,?_,nofun,nofun,fun nms pn2 H6 nl nok s6 h6=>?_⟩
  ·have:=zX (a:=m) 80 m0;omega
  left;have nl':nms.length=(two o1 o2).length:=by rw[nl];omega
  refine⟨false,false,pn2,D5,_,_,rfl,aL.of h6,aL.of (s6 _ _ hD5),by rw[za,tl];exact nl',fun l H7 us s7 n7 h7 pr=>?_⟩;rw[za] at pr;refine kk (nms.zip (two o1 o2)) l us H7 (KU pn (by rw[fl];exact o0n) (by rw[fl];exact o0i) (by rw[fl];exact o0l) nl' nok) (((s09.trans s5).trans s6).trans s7) h7 (xT nl' ?_ pr);exact rl5.imp fun o v ⟨r,e1,e2⟩=>⟨r,e1,s7 _ _ (s6 _ _ e2)⟩
inductive wO (vs:List V) (H:Hp) (Q:VK) (E:XK):Prop
 | mk (m first last times:Int) (_:vs=[.int m,.int first,.int last,.int times]) (_:0<=m) (_:m<1099511627776) (_:0<=first) (_:first<=last) (_:last<=200) (_:2<=times) (_:times<=9) (_:∀(es:List Sc.End) v H',Kz first last times es->aB H H'->Is H' (.tup (es.map oq)) v->Q v H')
def JS (first last:Int) (bs:List Int):Prop:=bs≠[]/\bs.Pairwise (·<·)/\∀b∈bs,first<=b/\b<=last
def N6 {first last:Int} {bs:List Int} (h:JS first last bs):∃b,(bs.map V.int)[(bs.map V.int).length-1]?=some (.int b)/\first<=b/\b<=last/\∀x∈bs,x<=b:=by
 obtain⟨ne,asc,hin⟩:=h;have e:=List.dropLast_concat_getLast ne;have hm:=List.getLast_mem ne;refine⟨bs.getLast ne,?_,(hin _ hm).1,(hin _ hm).2,fun x hx=>?_⟩
 ·rw[za,zK,List.getLast_eq_getElem,zd (by have:=yr.mpr ne;omega)];rfl
 ·rw[<-e] at hx asc
  rw[zU] at asc;rcases zG.mp hx with z | z
  ·exact Int.le_of_lt (asc.2.2 x z _ (zA.mpr rfl))
  ·rw[zA.mp z];exact Int.le_refl _
def N5 {first last b c:Int} {bs:List Int} (h:JS first last bs) (hb:∀x∈bs,x<=b) (h1:first<=b) (h2:b<c) (h3:c<=last):JS first last (bs++[c]):=by
 obtain⟨ne,asc,hin⟩:=h;refine⟨by simp,?_,fun x hx=>?_⟩
 ·rw[zU]
  refine⟨asc,by simp,fun x hx y hy=>?_⟩;have ey:y=c:=by simpa using hy
  have:=hb x hx;omega
 ·rcases zG.mp hx with z | z
  ·exact hin x z
  ·have ey:x=c:=by simpa using z
   omega
noncomputable def oj (m:Int) (n k:Nat):Nat:=if k<n then(k+(m/90).toNat)%n else(m/((k:Int)+7)%(n:Int)).toNat
def eB:aF ["_law_m","_law_first","_law_last","_law_times","_law_begins","_law_passes","_law_k","_law_spot"] ["_law_m","_law_first","_law_last","_law_times"] (aq oY):=dH
def xc:di P w base 1 T.m6 wO:=by
 nomatch T.m6,eB
 obtain⟨m,first,last,times,rfl,m0,m1,f0,fl,l1,t0,t1,kk⟩:=h;have sl:=yC;refine⟨_,(ag (aJ (PW.pt (eD (ptr dj (pv 2) (pv 1)) (dC (ptr dj (ax aV (pv 0) ae) ae))))
  (ak (au (bG af)))
  aD)
  (ag (bT 4 eB.nd (bB (aa (ax aY (pv 1) (ax aV (ax aX (pv 0) ae) (ax aY (ax jT (pv 2) (pv 1)) ae))) af)))
  (ag (tI PassesOwn.never (PW.pt (dI (ptr fA (eQ aG T.bC (aa (pv 4) af)) (pv 3)) (dI (ptr fA (gd (pv 4) (tK mj ae)) (pv 2)) (dn (ptr fI (ax aV (ax aX (pv 0) (ax aY (ax dJ ae (eQ aG T.bC (aa (pv 4) af))) ae)) ae) ae)))))
  (ak (bJ (bY yD yF yE bH (pv 4) (aa (eQ (LN rfl) T.Sw (aa (pv 2) (aa (ax aY (ax aY (gd (pv 4) (tK mj ae)) ae) (ax aV (ax aX (pv 0) (ax aY (eQ aG T.bC (aa (pv 4) af)) ae)) ae)) af))) af)))))
  (ag (Oo (i:=5) (ts:=["_law_begin"]) (ys:=[]) (js:=[]) (te:=(FT eV)) (bw (pv 4)) (hJ 0) bD (bB af) eB.nd)
  (ag (cE PassesOwn.never rfl (de (by rfl) T.cR (aa (pv 3) af)) (jR 6 eB.nd)
  (ag (bT 7 eB.nd (Gr (ptr fA (pv 6) (eQ aG T.bC (aa (pv 4) af))) (ax aV (ax aY (pv 6) (ax aX (pv 0) ae)) (eQ aG T.bC (aa (pv 4) af))) (ax aV (ax aX (pv 0) (ax aY (pv 6) ae)) (eQ aG T.bC (aa (pv 4) af)))))
   (ak (bJ (bY yD yF yE bH (gd (pv 5) (pv 7)) (aa (ax aY (pv 6) ae) af))))))
  (ak (au (ox cS T.hV (aa (qh (ts:=["_law_begin","_law_some"]) (ys:=[]) (js:=[]) (g:=(G3 K 2 (gx (cg 0) (gx (cg 1) G4)))) (te:=(FQ (bX (bf 0) (bX (KR (QV K) (bX (bf 1) eV)) eV)))) (M8 (by rfl) T.Nl (aa (pv 4) (aa (pv 5) af))) (d6 (n:=2) rfl (aP (hJ 0) (aP (hJ 1) dq))) bD (bG (aa (pv 0) (aa (ox cS T.hV (aa (pv 1) af)) af)))) af))))))))),?_⟩
 ac_rfl;left;have none_:∀(Hq:Hp),aB H Hq->(∀p,Hq p=none->Q (.ref p) (upd Hq p (.tup []))):=fun Hq sq p n=>kk [] (.ref p) _ Ly (sq.trans (aS n)) (cK aC cO);refine Ka (decide (V.int last=V.int first)||decide (V.int (m%3)=V.int 0)) ?_ ?_ ?_
 ·intro c1 Z hz
  rw[c1,Bool.false_or] at hz;change hz
 ·intro c1;rw[c1,Bool.true_or]
 cases qv:(decide (V.int last=V.int first)||decide (V.int (m%3)=V.int 0)) with
 | true=>
  change⟨by show 0<=sizeLine;omega,none_ H (aB.refl _)⟩
 | false=>
 exists by show 0<last-first+1;omega,?_
 have a0:0<=m/3%(last-first+1):=zw _ nofun;have a1:m/3%(last-first+1)<last-first+1:=zt _ nofun;exists by show 1<=sizeLine;omega,fun B nB=>?_
 generalize hU1:upd H B _=H1;have s1:aB H H1:=aB.lj hU1 nB;have h1:H1 B=some (.lst ([first+m/3%(last-first+1)].map V.int)):=lD hU1;have b1:JS first last [first+m/3%(last-first+1)]:=by
  refine⟨by simp,by simp,fun b hb=>?_⟩;have:b=first+m/3%(last-first+1):=by simpa using hb
  omega
 clear hU1;left;refine CK (fun n σ H'=>∃bs:List Int,n=9-bs.length/\σ=[some (.int m),some (.int first),some (.int last),some (.int times),some (.ref B),none,none,none]/\aB H H'/\H' B=some (.lst (bs.map V.int))/\JS first last bs/\(bs.length:Int)<=times)
  (fun σ H'=>∃bs:List Int,σ=[some (.int m),some (.int first),some (.int last),some (.int times),some (.ref B),none,none,none]/\aB H H'/\H' B=some (.lst (bs.map V.int))/\JS first last bs/\(bs.length:Int)<=times)
  ⟨_,_,rfl,rfl,s1,h1,b1,by show(1:Int)<=times;omega⟩ ?_ ?_
 ·rintro n σ H2 ⟨bs,rfl,rfl,s2,h2,b2,bl⟩ N hN
  obtain⟨lb,hlb,lb0,lb1,lbx⟩:=N6 b2;have out:=hN _ _ ⟨bs,rfl,s2,h2,b2,bl⟩;exists B,_,rfl,.inl (aL.of h2),?_;rw[za];left;have q0:0<=m/(7*(bs.length:Int)+5)%4:=zw _ ∅;refine eG (decide ((bs.length:Int)<times)&&(decide (lb<last)&&decide (0<m/(7*(bs.length:Int)+5)%4))) ?_ ?_ ?_
  ·intro c1 Z hz
   rw[c1,Bool.true_and] at hz;exists B,_,-1,_,rfl,rfl,aL.of h2,uo hlb,?_;left;refine eG (decide (lb<last)&&decide (0<m/(7*(bs.length:Int)+5)%4)) ?_ ?_ hz
   ·intro c2 Z hz
    rw[c2,Bool.true_and] at hz;exists B,_,rfl,.inl (aL.of h2),?_;rw[za];exists⟨by show 0<7*(bs.length:Int)+5;omega,by show 7*(bs.length:Int)+5<1073741824;omega⟩,?_;change hz
   ·intro c2;rw[c2,Bool.false_and]
  ·intro c1;rw[c1,Bool.false_and]
  cases qw:(decide ((bs.length:Int)<times)&&(decide (lb<last)&&decide (0<m/(7*(bs.length:Int)+5)%4))) with
  | false=>exact cq rfl out
  | true=>
   simp only[zO,decide_eq_true_eq] at qw;obtain⟨c1,c2,c3⟩:=qw;refine cb rfl ⟨fun σ H'=>∃bs':List Int,bs'.length=bs.length+1/\σ=[some (.int m),some (.int first),some (.int last),some (.int times),some (.ref B),none,none,none]/\aB H H'/\H' B=some (.lst (bs'.map V.int))/\JS first last bs'/\(bs'.length:Int)<=times,?_,?_⟩
   ·rintro σ' H' ⟨bs',e1,e2,e3,e4,e5,e6⟩
    exact⟨9-bs'.length,nofun,bs',rfl,e2,e3,e4,e5,e6⟩
   exists .inl ⟨rfl,_,aL.of h2⟩,?_;exists B,_,-1,_,rfl,rfl,aL.of h2,uo hlb,?_;exists B,_,rfl,.inl (aL.of h2),?_;rw[za];exists⟨by show 0<(bs.length:Int)+11;omega,by show(bs.length:Int)+11<1073741824;omega⟩,?_;left;have r0:0<=m/((bs.length:Int)+11)%3:=zw _ ∅;refine⟨_,_,rfl,?_⟩;exists B,_,_,rfl,rfl,h2,by rw[za];omega,?_
   left;refine⟨bs++[if lb+1+m/((bs.length:Int)+11)%3<last then lb+1+m/((bs.length:Int)+11)%3 else last],by rw[zh];rfl,rfl,bM nB s2,by rw[aC,zk];rfl,N5 b2 lbx lb0 ?_ ?_,by rw[zh];show((bs.length+1:Nat):Int)<=times;omega⟩
   ·split <;> omega
   ·split <;> omega
 ·clear s1 h1 b1
  rintro σ1 H1 ⟨bs,rfl,s1,h1,b1,bl⟩;have bp:0<bs.length:=yr.mpr b1.1;exists⟨_,aL.of h1⟩,?_;refine E4 (by rw[za];omega) (aL.of h1) ⟨none,rfl⟩ fun D qs H2 s2 nD h2 nd nDq ql hq=>?_;rw[za] at ql;exists by omega,nofun,?_
  have neB:∀q∈qs,q≠B:=fun q hq' e=>by
   have:=(hq q hq').1;rw[e,h1] at this;cases this
  have tn:((times.toNat:Nat):Int)=times:=nofun
  refine fX (fun k σ H'=>∃(v6 v7:Option V),σ=[some (.int m),some (.int first),some (.int last),some (.int times),some (.ref B),some (.ref D),v6,v7]/\aB H H'/\H' B=some (.lst (bs.map V.int))/\H' D=some (.lst (qs.map V.ref))/\∀(i:Nat) (q:Addr),qs[i]?=some q->H' q=some (.lst ((cV (oj m bs.length) k i).map V.int)))
   ⟨none,none,rfl,s1.trans s2,s2 _ _ h1,h2,fun i q e=>(hq q (zC e)).2⟩ ?_ ?_
  ·intro k σ H3 hk hh
   refine df fun N kN0 kR0 _ _=>?_;obtain⟨v6,v7,rfl,s3,hB3,hD3,hq3⟩:=hh;left;have m90:0<=m/90:=zW m0 ∅;have sl0:oj m bs.length k<bs.length:=by
    unfold oj;split
    ·exact Nat.mod_lt _ bp
    ·have:=zt (m/((k:Int)+7)) (b:=(bs.length:Int)) nofun
     have:=zw (m/((k:Int)+7)) (b:=(bs.length:Int)) nofun;omega
   refine⟨B,_,rfl,.inl (aL.of hB3),?_⟩;rw[za];left;refine UR (H:=H3) (.int ((oj m bs.length k:Nat):Int)) ?_ ?_ ?_
   ·intro c1 Z hz
    have c1':k<bs.length:=by have:=ye c1;omega
    have e:((oj m bs.length k:Nat):Int)=(0+(k:Int)+m/90)%(bs.length:Int):=by
     unfold oj;rw[if_pos c1',Int.natCast_emod,Int.natCast_add,Int.toNat_of_nonneg m90,Int.zero_add]
    rw[e] at hz;exists B,_,rfl,.inl (aL.of hB3),?_;rw[za];change⟨by show 0<(bs.length:Int);omega,hz⟩
   ·intro c1 Z hz
    have c1':¬k<bs.length:=by have:=of_decide_eq_false c1;omega
    have e:((oj m bs.length k:Nat):Int)=m/(0+(k:Int)+7)%(bs.length:Int):=by
     unfold oj;rw[if_neg c1',Int.zero_add,Int.toNat_of_nonneg (zw _ nofun)]
    rw[e] at hz;exists⟨by show 0<0+(k:Int)+7;omega,by show 0+(k:Int)+7<1073741824;omega⟩,?_;exists B,_,rfl,.inl (aL.of hB3),?_;rw[za];change⟨by show 0<(bs.length:Int);omega,hz⟩
   left;have qe:qs[oj m bs.length k]?=some (qs[oj m bs.length k]'nofun):=zd nofun;generalize qs[oj m bs.length k]'nofun=q at qe;have qm:=zC qe;refine⟨D,_,_,.ref q,rfl,rfl,aL.of hD3,bE (by rw[zK,qe];rfl),?_⟩;have hq3':=hq3 _ _ qe;refine⟨.inl ⟨rfl,_,aL.of hq3'⟩,?_⟩;exists q,_,_,rfl,rfl,hq3',by rw[za];have:=Ar (sp:=oj m bs.length) (i:=oj m bs.length k) (k:=k);omega,?_
   exists _,_,rfl,bM (s1.back (hq q qm).1) s3,by rw[aH (neB q qm).symm];exact hB3,by rw[aH (fun z=>nDq (by rw[z];exact qm))];exact hD3,fun i q' e=>?_
   by_cases ei:i=oj m bs.length k
   ·have:q'=q:=by rw[ei,qe] at e;exact(yk e).symm
    rw[this,aC,cV,if_pos ei,zk,Int.zero_add,ei];rfl
   ·have nq:q'≠q:=fun z=>by
     rw[z] at e;exact ei (GQ nd e qe)
    rw[aH nq,cV,if_neg ei];exact hq3 i q' e
  ·rintro σ H3 ⟨v6,v7,rfl,s3,hB3,hD3,hq3⟩
   left;have eb:=uT V.int 0 bs;have eq:=uT V.ref 0 qs;rw[ql] at eq;refine⟨false,false,B,D,_,_,rfl,aL.of hB3,aL.of hD3,?_⟩;refine Jw (ws:=List.range bs.length) (e1:=fun i=>.int (bs.getD i 0)) (e2:=fun i=>.ref (qs.getD i 0)) (fun i=>oq (bs.getD i 0,cV (oj m bs.length) times.toNat i)) (fun σ=>∃v w,σ=[v,w]) (by rw[zR];omega) (by rw[eb];exact aL.of hB3) (by rw[eq];exact aL.of hD3) ⟨none,none,rfl⟩ ?_ ?_
   ·rintro i σ H4 p R hi s4 hp ⟨v,w',rfl⟩ rr
    have il:=List.mem_range.mp hi;have qe:qs[i]?=some (qs.getD i 0):=by rw[List.getD_eq_getElem?_getD,zd nofun];rfl
    have h5:=s4 _ _ (hq3 i _ qe);refine⟨p,_,rfl,dB.of hp,rfl,?_⟩;refine⟨_,_,rfl,⟨_,_,rfl,⟨rfl,?_⟩⟩⟩;left;refine⟨_,_,rfl,.inl ⟨aL.of h5,?_⟩⟩;intros p6 H6 s6 h6;exists cT,?_;intros p7 H7 s7 h7;exact rr _ _ _ (s6.trans s7) (cK h7 (aQ cX (aQ (cK (s7 _ _ h6) ua) cO))) ⟨_,_,rfl⟩
   ·intro D5 vs5 H5 s5 _ h5 il5
    rw[Lz] at il5;left;refine⟨D5,_,rfl,.inl ⟨aL.of h5,?_⟩⟩;intros p6 H6 s6 h6;refine kk _ _ _ ?_ ((s3.trans s5).trans s6) (cK h6 (il5.mono s6));have:=Ji (first:=first) (last:=last) (t:=times.toNat) (bs:=bs) (sp:=oj m bs.length) nofun b1.1 b1.2.1 b1.2.2 ?_ ?_ nofun
    ·rw[tn] at this;exact this
    ·intro j hj
     unfold oj;split
     ·exact Nat.mod_lt _ bp
     ·have:=zt (m/((j:Int)+7)) (b:=(bs.length:Int)) nofun
      have:=zw (m/((j:Int)+7)) (b:=(bs.length:Int)) nofun;omega
    ·intro i hi
     obtain⟨j,hj,ej⟩:=OH (c:=(m/90).toNat) hi;exact⟨j,nofun,by unfold oj;rw[if_pos hj];exact ej⟩
def Fv (many:Int) (r:Rep):Prop:=0<=r.first/\r.first<=r.last/\r.last<many/\2<=r.times/\r.times<=9/\Kz r.first r.last r.times r.ends
def DB (many:Int) (rs:List Rep):Prop:=rs.length<=4/\(∀r∈rs,Fv many r)/\rs.Pairwise fun a b=>a.last<b.first
inductive qY (vs:List V) (H:Hp) (Q:VK) (E:XK):Prop
 | mk (c many:Int) (_:vs=[.int c,.int many]) (_:many<=200) (_:∀(rs:List Rep) D us H',DB many rs->aB H H'->H' D=some (.lst us)->aE H' (rs.map iK) us->Q (.ref D) H')
def bI:aF ["_law_cell","_law_many","_law_repeats","_law_bar","_law_k","_law_m","_law_first","_law_last","_law_times"] ["_law_cell","_law_many"] (aq kr):=dH
def rN:di P w base 2 T.iV qY:=by
 nomatch T.iV,bI
 obtain⟨c,many,rfl,my,kk⟩:=h;have sl:=yC;refine⟨_,(ag (bT 2 bI.nd (bB af))
  (ag (bT 3 bI.nd ae)
  (ag (cE PassesOwn.never rfl (de (by rfl) T.cR (aa ae af)) (jR 4 bI.nd)
  (ag (bT 5 bI.nd (bK (bW T) hr T.cG (aa (pv 0) (aa (ax aY (pv 4) ae) af))))
   (ag (bT 6 bI.nd (ax aY (pv 3) (ax aV (pv 5) ae)))
   (ag (bT 7 bI.nd (ax aY (pv 6) (ax aV (ax aX (pv 5) ae) ae)))
   (ak (aJ (PW.pt (dI (ptr fA (pv 7) (pv 1)) (dn (ptr fI (ax aV (ax aX (pv 5) ae) ae) ae))))
   (ag (bT 8 bI.nd (ax aY ae (ax aV (ax aX (pv 5) ae) (gd (bB (aa ae (aa ae (aa ae af)))) (ax aV (ax aX (pv 5) ae) ae)))))
    (ag (bJ (bY yD yF yE bH (pv 2) (aa (bG (aa (pv 6) (aa (pv 7) (aa (pv 8) (aa (bK (xc T) hr T.m6 (aa (ax aX (pv 5) ae) (aa (pv 6) (aa (pv 7) (aa (pv 8) af))))) af))))) af)))
    (ak (bT 3 bI.nd (ax aY (pv 7) ae)))))
   aD))))))
  (ak (au (pv 2)))))),?_⟩
 ac_rfl;exists by show 0<=sizeLine;omega,?_
 intro D nD;have s2:aB H (upd H D (.lst [])):=aS nD;have h2:upd H D (.lst []) D=some (.lst []):=aC;generalize upd H D (.lst [])=H2 at s2 h2 ⊢;exists by decide,(by decide),?_
 refine fX (fun i σ H'=>∃(rs:List Rep) (us:List V) (bar:Int),Lo [some (.int c),some (.int many),some (.ref D),some (.int bar)] 5 σ/\aB H H'/\H' D=some (.lst us)/\aE H' (rs.map iK) us/\rs.length<=i/\0<=bar/\(∀r∈rs,Fv many r/\r.last<bar)/\rs.Pairwise fun a b=>a.last<b.first)
  ⟨[],[],0,Lo.of rfl rfl,s2,h2,cO,zm _,∅,by simp,by simp⟩ ?_ ?_
 ·intro i σ H3 hi hh
  refine df fun N kN0 kR0 _ _=>?_;obtain⟨rs,us,bar,⟨e,rfl⟩,s3,h3,il3,rl,b0,rok,asc⟩:=hh;exists c,_,rfl,nofun,nofun,?_;have m0:0<=mixed c (0+(i:Int)+500):=zw _ ∅;have m1:mixed c (0+(i:Int)+500)<2147483399:=zt _ ∅;generalize mixed c (0+(i:Int)+500)=m at m0 m1;have a0:0<=m%4:=zw _ ∅;have e0:0<=m/4%8:=zw _ ∅;left;refine eG (decide (bar+m%4+m/4%8<many)&&decide (0<m/32%4)) ?_ ?_ ?_
  ·intro c1 Z hz
   rw[c1,Bool.true_and] at hz;change hz
  ·intro c1;rw[c1,Bool.false_and]
  cases qw:(decide (bar+m%4+m/4%8<many)&&decide (0<m/32%4)) with
  | false=>
   change⟨rs,us,bar,Lo.of rfl rfl,s3,h3,il3,nofun,b0,rok,asc⟩
  | true=>
   simp only[zO,decide_eq_true_eq] at qw;obtain⟨c1,c2⟩:=qw;exists by show 3<=sizeLine;omega,?_
   intros p4 H4 s4 h4;have g0:0<=m/1024%3:=zw _ ∅;have g1:m/1024%3<3:=zt _ ∅;obtain⟨jj,hjj⟩:∃j:Nat,m/1024%3=(j:Int):=⟨(m/1024%3).toNat,nofun⟩
   obtain⟨z,hz,z0,z1⟩:∃z:Int,[V.int 2,V.int 3,V.int 8][jj]?=some (.int z)/\2<=z/\z<=8:=by
    have:jj<3:=nofun
    match jj,this with
    | 0,_=>exact⟨2,rfl,∅,∅⟩
    | 1,_=>exact⟨3,rfl,∅,∅⟩
    | 2,_=>exact⟨8,rfl,∅,∅⟩
   exists p4,_,m/1024%3,.int z,rfl,rfl,aL.of h4,(by rw[hjj];exact bE hz),?_;exists by show 0<z;omega,?_
   have t0:0<=m/128%z:=zw _ nofun;have t1:m/128%z<z:=zt _ nofun;exists .inl ⟨rfl,_,aL.of (s4 _ _ h3)⟩,?_;left;refine⟨_,_,_,_,rfl,zW m0 ∅,?_,nofun,nofun,nofun,nofun,nofun,fun es v H5 eok s5 h5=>?_⟩
   ·have:=zX (a:=m) 7 m0;omega
   exists by show 4<=sizeLine;omega,?_
   intros p6 H6 s6 h6;have s36:=s4.trans (s5.trans s6);have h36:=s36 _ _ h3;refine⟨D,us,_,rfl,rfl,h36,by have:=aT il3;omega,?_⟩;have nt:cM (H6 D):=by rw[h36];exact fun _ z=>by cases z
   have ix:Is H6 (iK ⟨bar+m%4,bar+m%4+m/4%8,2+m/128%z,es⟩) (.ref p6):=cK h6 (aQ cX (aQ cX (aQ cX (aQ (h5.mono s6) cO))));left;refine⟨rs++[⟨bar+m%4,bar+m%4+m/4%8,2+m/128%z,es⟩],_,_,Lo.of rfl rfl,bM nD (s3.trans s36),aC,?_,by rw[zh];show rs.length+1<=i+1;omega,nofun,fun r hr=>?_,?_⟩
   ·rw[zk]
    exact dk (Is.upd nt ix) (aE.upd nt (il3.mono s36))
   ·rcases zG.mp hr with y | y
    ·have:=rok r y
     exact⟨this.1,nofun⟩
    ·rw[zA.mp y]
     exact⟨⟨by show 0<=bar+m%4;omega,by show bar+m%4<=bar+m%4+m/4%8;omega,c1,by show 2<=2+m/128%z;omega,by show 2+m/128%z<=9;omega,eok⟩,by show bar+m%4+m/4%8<bar+m%4+m/4%8+1;omega⟩
   ·rw[zU]
    refine⟨asc,by simp,fun a ha b hb=>?_⟩;have eb:b=⟨bar+m%4,bar+m%4+m/4%8,2+m/128%z,es⟩:=by simpa using hb
    rw[eb];have:=(rok a ha).2;show a.last<bar+m%4;omega
 ·rintro σ H3 ⟨rs,us,bar,⟨e,rfl⟩,s3,h3,il3,rl,b0,rok,asc⟩
  change kk rs D us H3 ⟨rl,fun r hr=>(rok r hr).1,asc⟩ s3 h3 il3
def Qh (H:Hp) (p:Addr) (rs:List Rep):Prop:=rs.length<=1000/\(∀r∈rs,r.ends.length<=1000)/\∃rv,H p=some (.lst rv)/\aE H (rs.map iK) rv
theorem Qh.mono {H H':Hp} (s:aB H H') {p:Addr} {rs:List Rep} (h:Qh H p rs):Qh H' p rs:=by
 obtain⟨h1,h2,rv,h3,h4⟩:=h;exact⟨h1,h2,rv,s _ _ h3,h4.mono s⟩
inductive iP (vs:List V) (H:Hp) (Q:VK) (E:XK):Prop
 | mk (p:Addr) (rs:List Rep) (b:Int) (_:vs=[.ref p,.int b]) (_:Qh H p rs) (_:∀H',aB H H'->Q (.bl (kK rs b)) H')
inductive kU (vs:List V) (H:Hp) (Q:VK) (E:XK):Prop
 | mk (p:Addr) (rs:List Rep) (b:Int) (_:vs=[.ref p,.int b]) (_:Qh H p rs) (_:∀H',aB H H'->Q (.bl (fc rs b)) H')
def BZ:aF ["_law_repeats","_law_bar"] ["_law_repeats","_law_bar"] (aq tm):=dH
def qQ:di P w base 1 T.mZ kU:=by
 nomatch T.mZ,BZ
 obtain⟨p,rs,b,rfl,⟨rl,el,rv,hp,il⟩,kk⟩:=h;have sl:=yC;obtain⟨ps,e1,e2,e3⟩:=iG il;have pln:ps.length=rs.length:=by rw[<-e1,za]
 refine⟨_,(ak (au (eQ (gS rfl) T.AB (aa (qh (ts:=["_law_first","_law_last","_law_times","_law_ends"]) (ys:=["_law_bar"]) (js:=[1]) (g:=(G3 K 4 (gx (cg 0) (gx (cg 1) (gx (cg 2) (gx (cg 3) G4)))))) (te:=(yP (wj fun i j=>.bl (decide (i<j))) (wj fun i j=>.bl (decide (i<=j))) (bf 0) (bf 4) (bf 1))) (bw (pv 0)) (d6 (n:=4) rfl (aP (hJ 0) (aP (hJ 1) (aP (hJ 2) (aP (hJ 3) dq))))) bD (Gv fA gJ (pv 0) (pv 4) (pv 1))) af)))),?_⟩;ac_rfl;exists⟨_,aL.of hp⟩,?_;refine d9 (enc:=fun q:Rep×V=>q.2) (ws:=ps) (fun q=>.bl (decide (q.1.first<b)&&decide (b<=q.1.last))) (fun σ=>∃v1 v2 v3 v4,σ=[v1,v2,v3,v4,some (.int b)]) nofun (by rw[e2];exact aL.of hp) ⟨_,_,_,_,rfl⟩ ?_ ?_
 ·rintro z σ H1 R hz s1 ⟨v1,v2,v3,v4,rfl⟩ rr
  obtain⟨a,e,ev,ha,_⟩:=eJ ((e3 z hz).mono s1);rw[ev];refine⟨a,_,rfl,dB.of ha,rfl,?_⟩;refine⟨_,_,rfl,⟨_,_,rfl,⟨_,_,rfl,⟨_,_,rfl,⟨rfl,?_⟩⟩⟩⟩⟩;left
  by_cases c:z.1.first<b
  ·refine cb (zg c) ?_
   change rr _ _ _ (aB.refl _) (by rw[zg c,Bool.true_and];unfold Is;rfl) ⟨_,_,_,_,rfl⟩
  ·refine cq (ze c) ?_
   exact rr _ _ _ (aB.refl _) (by rw[ze c,Bool.false_and];unfold Is;rfl) ⟨_,_,_,_,rfl⟩
 ·intro D vs H1 s1 nD hD ilD
  have ee:ps.map (fun q:Rep×V=>Dt.bl (decide (q.1.first<b)&&decide (b<=q.1.last)))=(rs.map fun r=>decide (r.first<b)&&decide (b<=r.last)).map Dt.bl:=by rw[<-e1,zB,zB];rfl
  rw[ee] at ilD;rw[lq ilD] at hD;exists D,_,rfl,aL.of hD,?_;have:=kk _ s1;unfold fc at this;rw[List.any_map];exact this
def dM:aF ["_law_repeats","_law_bar","_law_first","_law_last","_law_times","_law_ends","_law_mine"] ["_law_repeats","_law_bar"] (aq oW):=dH
def nX:di P w base 1 T.jy iP:=by
 nomatch T.jy,dM
 obtain⟨p,rs,b,rfl,⟨rl,el,rv,hp,il⟩,kk⟩:=h;have sl:=yC;have rvl:=aT il;refine⟨_,(ag (cE PassesOwn.never rfl (bw (pv 0)) (d6 (n:=4) rfl (aP (jR 2 dM.nd) (aP (jR 3 dM.nd) (aP (jR 4 dM.nd) (aP (jR 5 dM.nd) dq)))))
  (ak (aJ (M1 gJ gJ (pv 2) (pv 1) (pv 3))
   (ag (Oo (i:=6) (ts:=["_law_begin","_law_passes"]) (ys:=["_law_bar"]) (js:=[1]) (g:=(G3 K 2 (gx (cg 0) (gx (cg 1) G4)))) (tc:=(m9 (fP (wj fun i j=>.bl (decide (i<=j))) (bf 0) (bf 2)))) (te:=(bf 1)) (lg (pv 5)) (d6 (n:=2) rfl (aP (hJ 0) (aP (hJ 1) dq))) (g9 (ptr gJ (pv 0) (pv 2))) (pv 1) dM.nd)
    (ak (au (Na (dY (Em hr.units) (pv 6) (bB af) (iS _)) (mI (dY lU (pv 4) (gd (pv 6) (tK mj ae)) (by with_unfolding_all rfl)))))))
   aD)))
  (ak (au jS))),?_⟩
 ac_rfl;exists⟨_,aL.of hp⟩,?_;refine dQ (K:=K) (a:=p) (xs:=rv) (fun i σ H'=>H'=H/\(∀r∈rs.take i,FA r b=false)/\∃(v2 v3 v4 v5 v6:Option V),σ=[some (.ref p),some (.int b),v2,v3,v4,v5,v6]) ⟨rfl,by simp,none,none,none,none,none,rfl⟩ (fun i σ H' _ h=>by rw[h.1];exact aL.of hp) ?_ ?_
 ·rintro i x σ H1 hx ⟨rfl,no,v2,v3,v4,v5,v6,rfl⟩
  obtain⟨r,hr',ir⟩:=dE il hx;obtain⟨a,ep,rfl,ha,ie⟩:=eJ ir;have rin:=zC hr';have nxt:FA r b=false->∀y∈rs.take (i+1),FA y b=false:=fun e y hy=>by
   rw[cZ hr'] at hy;rcases zG.mp hy with z | z
   ·exact no y z
   ·rw[zA.mp z];exact e
  refine⟨a,_,rfl,dB.of ha,rfl,?_⟩;refine⟨_,_,rfl,⟨_,_,rfl,⟨_,_,rfl,⟨_,_,rfl,⟨rfl,?_⟩⟩⟩⟩⟩;left
  by_cases c1:r.first<=b
  ·refine cb (zg c1) ?_
   left
   by_cases c2:b<=r.last
   ·refine cb (zg c2) ?_
    left;obtain⟨ep',evs,e0,hep,ile⟩:∃ep' evs,V.ref ep=.ref ep'/\H1 ep'=some (.tup evs)/\aE H1 (r.ends.map oq) evs:=by unfold Is at ie;exact ie
    cases e0;obtain⟨ps,e1,e2,e3⟩:=iG ile;have pln:ps.length=r.ends.length:=by rw[<-e1,za]
    have elr:=el r rin;refine⟨⟨_,dB.of hep⟩,?_⟩;have hro:dX rs b=some r:=AM hr' (by rw[zg c1,zg c2];rfl) fun y hy=>no y hy;refine rT (ws:=ps) (enc:=fun q:Sc.End×V=>q.2) (fun q=>decide (q.1.1<=b)) (fun q=>wA q.1.2) (fun σ=>∃v w',σ=[v,w',some (.int b)]) nofun ⟨_,_,rfl⟩ (fun i H hi sm=>Jc (jB sm hep) (by rw[<-e2,za];exact hi)) (fun H sm=>⟨_,jB sm hep,by rw[<-e2,za];exact zm _⟩) ?_ ?_ ?_
    ·rintro i x H H2 hi sm ⟨rfl,hy⟩
     have hx':=hy _ (jB sm hep);rw[<-e2,zK,zd hi] at hx';cases hx';exact⟨rfl,rfl⟩
    ·rintro z σ H2 R N hz s2 ⟨v,w',rfl⟩ rr nn
     obtain⟨a2,q2,ev,ha2,hq2⟩:=vm ((e3 z hz).mono s2);rw[ev];refine⟨a2,_,rfl,dB.of ha2,rfl,?_⟩;refine⟨_,_,rfl,⟨_,_,rfl,⟨rfl,?_⟩⟩⟩;left
     by_cases c3:z.1.1<=b
     ·refine cb (zg c3) ?_
      change rr (zg c3) _ _ _ (aB.refl _) (cK hq2 ua) ⟨_,_,rfl⟩
     ·refine cq (ze c3) ?_
      exact nn (ze c3) _ _ (aB.refl _) ⟨_,_,rfl⟩
    ·intro D vs H2 s2 nD hD ilD
     have ee:(ps.filter fun q:Sc.End×V=>decide (q.1.1<=b)).map (fun q=>wA q.1.2)=((r.ends.filter fun e=>decide (e.1<=b)).map (·.2)).map wA:=by
      rw[<-e1,List.filter_map,zB,zB];rfl
     rw[ee] at ilD;have vl:=aT ilD;rw[za] at vl;exists by show 0<=sizeLine;omega,?_
     intros p3 H3 s3 h3;refine⟨D,p3,_,_,rfl,rfl,.inl ⟨aL.of (s3 _ _ hD),aL.of h3⟩,.inr (.inl rfl),?_⟩;have hlp:kK rs b=(match (r.ends.filter fun e=>decide (e.1<=b)).getLast? with | none=>true | some e=>decide (r.times∈e.2)):=by unfold kK;rw[hro];try rfl
     rw[hlp] at kk;clear hlp ee;generalize (r.ends.filter fun e=>decide (e.1<=b))=fs at kk ilD vl;have s13:=s2.trans s3
     by_cases e:vs=[]
     ·refine⟨_,rfl,cb (zg e) ?_⟩
      have:fs=[]:=by
       rw[e] at vl;exact yt.mp vl.symm
      rw[this] at kk;exact kk _ s13
     ·refine⟨_,rfl,cq (ze e) ?_⟩
      have vp:0<vs.length:=yr.mpr e;obtain⟨ps5,hps5,i5⟩:=dE ilD (i:=vs.length-1) (zd nofun);rw[zK] at hps5;cases qf:fs[vs.length-1]? with
      | none=>rw[qf] at hps5;cases hps5
      | some en=>
       rw[qf] at hps5;have e5:en.2=ps5:=yk hps5;subst e5;have gl:fs.getLast?=some en:=by rw[List.getLast?_eq_getElem?,<-vl];exact qf
       rw[gl] at kk;unfold wA Is at i5;obtain⟨a5,us5,ev5,ha5,il5⟩:=i5;rw[fq il5] at ha5;left;refine⟨D,vs,-1,_,rfl,rfl,aL.of (s3 _ _ hD),uo (zd nofun),?_⟩;rw[ev5];refine⟨a5,_,rfl,.inr (dB.of (s3 _ _ ha5)),rfl,by rw[List.all_map];exact yp.mpr fun x _=>rfl,?_⟩;show Q (.bl (GZ (.int r.times) (en.2.map V.int))) _;rw[xN];exact kk _ s13
   ·refine cq (ze c2) ?_
    change⟨nxt (by unfold FA;rw[ze c2,Bool.and_false]),_,_,_,_,_,rfl⟩
  ·refine cq (ze c1) ?_
   change⟨nxt (by unfold FA;rw[ze c1,Bool.false_and]),_,_,_,_,_,rfl⟩
 ·rintro σ H1 ⟨rfl,no,v2,v3,v4,v5,v6,rfl⟩
  left;have e:kK rs b=true:=by
   unfold kK;rw[show dX rs b=none from List.find?_eq_none.mpr fun y hy=>by
    have:=no y (by rw[rvl,zN];exact hy);unfold FA at this;rw[this];simp]
  rw[e] at kk;exact kk _ (aB.refl _)
def DB.apart {many:Int} {rs:List Rep} (h:DB many rs):Apart rs:=by
 refine⟨fun r hr=>?_,h.2.2⟩;obtain⟨h1,h2,h3,h4,h5,e1,e2,e3,e4,e5⟩:=h.2.1 r hr;exact⟨h2,e5,fun e he=>⟨(e3 e he).1,(e3 e he).2.1⟩⟩
inductive wN (vs:List V) (H:Hp) (Q:VK) (E:XK):Prop
 | mk (c many:Int) (p:Addr) (rs:List Rep) (_:vs=[.int c,.int many,.ref p]) (_:Qh H p rs) (_:DB many rs) (_:1<=many) (_:many<=200) (_:∀(jo:Option Jump) v H',(∀j,jo=some j->PK many rs j)->aB H H'->Is H' (dO jZ jo) v->Q v H')
def Kt {l:List Int} {j:Nat} (h:j<l.length):∃x,(l.map V.int)[j]?=some (.int x)/\x∈l:=⟨l[j],by rw[zK,zd h];rfl,ym h⟩
def IY {m:Int} {l:List Int} (h:l≠[]):∃x,DA (l.map V.int) (m%(l.length:Int))=some (.int x)/\x∈l:=by
 have hp:0<l.length:=yr.mpr h;have a0:=zw m (b:=(l.length:Int)) nofun;have a1:=zt m (b:=(l.length:Int)) nofun;obtain⟨j,hj⟩:∃j:Nat,m%(l.length:Int)=(j:Int):=⟨(m%(l.length:Int)).toNat,nofun⟩
 obtain⟨x,e1,e2⟩:=Kt (l:=l) (j:=j) nofun;exact⟨x,by rw[hj];exact bE e1,e2⟩
def HM (l:List Int):(l.map V.int).all nZ=true:=by rw[List.all_map];exact yp.mpr fun _ _=>rfl
def bV:aF ["_law_cell","_law_many","_law_repeats","_law_m","_law_lasts","_law_inside","_law_ats","_law_at","_law_tos","_law_to","_law_untils","_law_codas"] ["_law_cell","_law_many","_law_repeats"] (aq oX):=dH
def xb:di P w base 2 T.mY wN:=by
 nomatch T.mY,bV
 obtain⟨c,many,p,rs,rfl,rsl,rd,mn1,mn2,kk⟩:=h;have sl:=yC;have ap:=rd.apart;obtain⟨rl,el,rv,hp,il⟩:=id rsl;obtain⟨ps,e1,e2,e3⟩:=iG il;have pln:ps.length=rs.length:=by rw[<-e1,za]
 refine⟨_,(ag (bT 3 bV.nd (bK (bW T) hr T.cG (aa (pv 0) (aa ae af))))
  (ag (bT 4 bV.nd (qh (ts:=["_law_first","_law_last","_law_times","_law_ends"]) (ys:=[]) (js:=[]) (g:=(G3 K 4 (gx (cg 0) (gx (cg 1) (gx (cg 2) (gx (cg 3) G4)))))) (te:=(bf 1)) (bw (pv 2)) (d6 (n:=4) rfl (aP (hJ 0) (aP (hJ 1) (aP (hJ 2) (aP (hJ 3) dq))))) bD (pv 1)))
  (ag (bT 5 bV.nd (qh (ts:=["_law_bar"]) (ys:=["_law_repeats"]) (js:=[2]) (g:=(cg 0)) (tc:=(tB (KR (Ut K) (bX (oB [none,some 0] (Kg K (bf 1)) (cg 0) wH (yP (wj fun i j=>.bl (decide (i<=j))) (wj fun i j=>.bl (decide (i<=j))) (fP (rH K) (bf 0) (tC (.int (0)))) (bf 1) (fP (rH K) (bf 0) (tC (.int (1)))))) eV)))) (te:=(bf 0)) (de (by rfl) T.cR (aa (pv 1) af)) (hJ 0) (g9 (cU (eQ (gS rfl) T.AB (aa (qh (ts:=["_law_one"]) (ys:=["_law_bar"]) (js:=[0]) (te:=(yP (wj fun i j=>.bl (decide (i<=j))) (wj fun i j=>.bl (decide (i<=j))) (fP (rH K) (bf 0) (tC (.int (0)))) (bf 1) (fP (rH K) (bf 0) (tC (.int (1)))))) (bw (pv 1)) (hJ 0) bD (Gv gJ gJ (bO (pv 0) ae) (pv 1) (bO (pv 0) ae))) af)))) (pv 0)))
  (ag (Oo (i:=6) (ts:=["_law_bar"]) (ys:=["_law_lasts","_law_inside"]) (js:=[4,5]) (g:=(cg 0)) (tc:=(Ud (m9 (fP (RU K false) (bf 0) (bf 1))) (m9 (fP (RU K true) (bf 0) (bf 2))))) (te:=(bf 0)) (de (by rfl) T.cR (aa (pv 1) af)) (hJ 0) (g9 (PW.pt (eD (jd lU (pv 0) (pv 1) (by with_unfolding_all rfl)) (dC (jd fk (pv 0) (pv 2) (by with_unfolding_all rfl)))))) (pv 0) bV.nd)
  (ag (aJ (PW.pt (eD (ptr dj (ax aV (ax aX (pv 3) ae) ae) ae) (dC (ptr (Em hr.units) (pv 6) (bB af)))))
  (ak (au aW))
  aD)
  (ag (bT 7 bV.nd (gd (pv 6) (ax aV (ax aX (pv 3) ae) (eQ aG T.bC (aa (pv 6) af)))))
  (ag (Oo (i:=8) (ts:=["_law_bar"]) (ys:=["_law_repeats"]) (js:=[2]) (g:=(cg 0)) (tc:=(OD (tB (iA kU [] E0 (bX (bf 1) (bX (bf 0) eV)))))) (te:=(bf 0)) (de (by rfl) T.cR (aa (ax aY (pv 7) ae) af)) (hJ 0) (g9 (fB (cU (bK (qQ T) hr T.mZ (aa (pv 1) (aa (pv 0) af)))))) (pv 0) bV.nd)
  (ag (bT 9 bV.nd (gd (pv 8) (ax aV (ax aX (pv 3) ae) (eQ aG T.bC (aa (pv 8) af)))))
  (ag (Oo (i:=10) (ts:=["_law_bar"]) (ys:=["_law_repeats"]) (js:=[2]) (g:=(cg 0)) (tc:=(tB (iA iP [] E0 (bX (bf 1) (bX (bf 0) eV))))) (te:=(bf 0)) (uV (by rfl) T.cR (aa (pv 9) (aa (ax aY (pv 7) ae) af))) (hJ 0) (g9 (cU (bK (nX T) hr T.jy (aa (pv 1) (aa (pv 0) af))))) (pv 0) bV.nd)
  (ag (Oo (i:=11) (ts:=["_law_bar"]) (ys:=["_law_repeats"]) (js:=[2]) (g:=(cg 0)) (tc:=(QK (OD (tB (iA kU [] E0 (bX (bf 1) (bX (bf 0) eV))))) (tB (iA iP [] E0 (bX (bf 1) (bX (bf 0) eV)))))) (te:=(bf 0)) (uV (by rfl) T.cR (aa (ax aY (pv 7) ae) (aa (pv 1) af))) (hJ 0) (g9 (PW.pt (dI (fB (cU (bK (qQ T) hr T.mZ (aa (pv 1) (aa (pv 0) af))))) (dn (cU (bK (nX T) hr T.jy (aa (pv 1) (aa (pv 0) af)))))))) (pv 0) bV.nd)
  (ag (aJ (ptr (Em hr.units) (pv 10) (bB af))
  (ak (au aW))
  aD)
  (ak (au (bG (aa (pv 7) (aa (pv 9) (aa (gd (pv 10) (ax aV (ax aX (pv 3) ae) (eQ aG T.bC (aa (pv 10) af)))) (aa (gd (ax gs (bB (aa aW af)) (pv 11)) (ax aV (ax aX (pv 3) ae) (ax aY ae (eQ aG T.bC (aa (pv 11) af))))) af)))))))))))))))))),?_⟩
 ac_rfl;exists c,520,rfl,nofun,nofun,?_;have m0:0<=mixed c 520:=zw _ ∅;generalize mixed c 520=m at m0;exists⟨_,aL.of hp⟩,?_;refine d9 (enc:=fun q:Rep×V=>q.2) (ws:=ps) (fun q=>.int q.1.last) (fun σ=>∃v1 v2 v3 v4,σ=[v1,v2,v3,v4]) nofun (by rw[e2];exact aL.of hp) ⟨_,_,_,_,rfl⟩ ?_ ?_
 ·rintro z σ H1 R hz s1 ⟨v1,v2,v3,v4,rfl⟩ rr
  obtain⟨a,e,ev,ha,_⟩:=eJ ((e3 z hz).mono s1);rw[ev];refine⟨a,_,rfl,dB.of ha,rfl,?_⟩;refine⟨_,_,rfl,⟨_,_,rfl,⟨_,_,rfl,⟨_,_,rfl,⟨rfl,?_⟩⟩⟩⟩⟩;change rr _ _ _ (aB.refl _) cX ⟨_,_,_,_,rfl⟩
 intro D4 vs4 H4 s4 _ hD4 il4;have ee:ps.map (fun q:Rep×V=>Dt.int q.1.last)=(rs.map (·.last)).map Dt.int:=by rw[<-e1,zB,zB];rfl
 rw[ee] at il4;rw[fq il4] at hD4;clear ee il4;exists by omega,nofun,?_
 have mt:((many.toNat:Nat):Int)=many:=nofun
 refine j0 (rest:=[some (.ref p)]) (fun b=>rs.any fun r=>FA r b) nofun ⟨none,rfl⟩ ?_ ?_
 ·intro i H5 R i0 i1 s5 hR
  have s05:=s4.trans s5;exists⟨_,aL.of (s05 _ _ hp)⟩,?_;refine d9 (enc:=fun q:Rep×V=>q.2) (ws:=ps) (fun q=>.bl (FA q.1 i)) (fun σ=>∃v1,σ=[v1,some (.int i)]) nofun (by rw[e2];exact aL.of (s05 _ _ hp)) ⟨_,rfl⟩ ?_ ?_
  ·rintro z σ H6 R hz s6 ⟨v1,rfl⟩ rr
   obtain⟨a,e,ev,ha,_⟩:=eJ ((e3 z hz).mono (s05.trans s6));rw[ev];left
   by_cases c1:z.1.first<=i
   ·refine cb (zg c1) ?_
    change rr _ _ _ (aB.refl _) (by unfold FA;rw[zg c1,Bool.true_and];unfold Is;rfl) ⟨_,rfl⟩
   ·refine cq (ze c1) ?_
    exact rr _ _ _ (aB.refl _) (by unfold FA;rw[ze c1,Bool.false_and];unfold Is;rfl) ⟨_,rfl⟩
  ·intro D vs H6 s6 nD hD ilD
   have ee:ps.map (fun q:Rep×V=>Dt.bl (FA q.1 i))=(rs.map fun r=>FA r i).map Dt.bl:=by rw[<-e1,zB,zB];rfl
   rw[ee] at ilD;rw[lq ilD] at hD;exists D,_,rfl,aL.of hD,?_;rw[List.any_map];exact⟨_,rfl,hR _ s6⟩
 intro D5 H5 s5 _ hD5;have hD45:=s5 _ _ hD4;generalize hins:oa (fun b=>rs.any fun r=>FA r b) 0 many.toNat=ins at hD5;exists by omega,nofun,?_
 refine j0 (rest:=[some (.ref D4),some (.ref D5)]) (fun b=>decide (b∈rs.map (·.last))||!decide (b∈ins)) nofun ⟨none,rfl⟩ ?_ ?_
 ·intro i H6 R i0 i1 s6 hR
  exists D4,_,rfl,.inl (aL.of (s6 _ _ hD45)),rfl,HM _,?_;show∃k,V.bl (GZ (.int i) ((rs.map (·.last)).map V.int))=.bl k/\_;rw[xN];refine⟨_,rfl,?_⟩;refine Ka (decide (i∈rs.map (·.last))||!decide (i∈ins)) ?_ ?_ (hR _ (aB.refl _))
  ·intro c1 Z hz
   rw[c1,Bool.false_or] at hz;exists D5,_,rfl,.inl (aL.of (s6 _ _ hD5)),rfl,HM _,?_;show∃k,V.bl (!GZ (.int i) (ins.map V.int))=.bl k/\_;rw[xN];exact⟨_,rfl,hz⟩
  ·intro c1;rw[c1,Bool.true_or]
 intro D6 H6 s6 _ hD6;have s06:=(s4.trans s5).trans s6;generalize hats:oa (fun b=>decide (b∈rs.map (·.last))||!decide (b∈ins)) 0 many.toNat=ats at hD6;left;have out:∀H',aB H H'->Q .bR H':=fun H' s'=>kk none .bR H' (fun j z=>by cases z) s' (by unfold dO Is;rfl)
 by_cases c0:m/7%3=0
 ·refine cb (zg (congrArg V.int c0)) ?_
  change out _ s06
 refine cq (ze fun z=>c0 (V.int.inj z)) ?_;exists by show 0<=sizeLine;omega,?_
 intros p7 H7 s7 h7;refine⟨D6,p7,_,_,rfl,rfl,.inl ⟨aL.of (s7 _ _ hD6),aL.of h7⟩,.inr (.inl rfl),?_⟩
 by_cases cn:ats=[]
 ·rw[cn]
  change out _ (s06.trans s7)
 have hn:decide (ats.map V.int=[])=false:=ze (by simpa using cn);rw[hn];have s07:=s06.trans s7;have hD67:=s7 _ _ hD6;left;obtain⟨at_,hat,atin⟩:=IY (m:=m/3) cn;have anp:0<ats.length:=yr.mpr cn;refine⟨D6,_,rfl,.inl (aL.of hD67),?_⟩;rw[za];exists by show 0<(ats.length:Int);omega,?_
 refine⟨D6,_,_,_,rfl,rfl,aL.of hD67,hat,?_⟩;rw[<-hats] at atin;obtain⟨a0,a1,a2⟩:=pT atin;have a1':at_<many:=nofun
 have aleave:(∃r∈rs,r.last=at_)\/(rs.any fun r=>FA r at_)=false:=by
  rw[Bool.or_eq_true,decide_eq_true_eq] at a2;rcases a2 with z | z
  ·obtain⟨r,hr1,hr2⟩:=zH.mp z
   exact .inl ⟨r,hr1,hr2⟩
  ·right
   cases q:rs.any fun r=>FA r at_ with
   | false=>rfl
   | true=>
    have:at_∈ins:=by rw[<-hins];exact Hg a0 nofun q
    rw[zg this] at z;cases z
 clear hats atin hat;exists by show -2^62<=at_+1;omega,(by show at_+1<2^62;omega),?_
 have pt:∀H',aB H7 H'->Qh H' p rs:=fun H' s'=>(rsl.mono s07).mono s';refine j0 (rest:=[some (.ref p)]) (fun b=>!fc rs b) (by show(at_+1).toNat<=sizeLine;omega) ⟨none,rfl⟩ ?_ ?_
 ·intro i H8 R i0 i1 s8 hR
  change⟨p,rs,i,rfl,pt _ s8,fun H' s'=>⟨_,rfl,hR _ s'⟩⟩
 intro D8 H8 s8 _ hD8;generalize htos:oa (fun b=>!fc rs b) 0 (at_+1).toNat=tos at hD8;have tn:tos≠[]:=by
  rw[<-htos];refine List.ne_nil_of_mem (Hg (x:=0) nofun nofun ?_);have:fc rs 0=false:=by
   unfold fc;rw[List.any_eq_false];intro r hr';have:=(rd.2.1 r hr').1;rw[ze (show¬r.first<0 by omega)];simp
  rw[this];rfl
 obtain⟨to_,hto,toin⟩:=IY (m:=m/50) tn;have tnp:0<tos.length:=yr.mpr tn;exists D8,_,rfl,.inl (aL.of hD8),?_;rw[za];exists by show 0<(tos.length:Int);omega,?_
 refine⟨D8,_,_,_,rfl,rfl,aL.of hD8,hto,?_⟩;rw[<-htos] at toin;obtain⟨b0,b1,b2⟩:=pT toin;have b2':fc rs to_=false:=by cases q:fc rs to_ with
  | false=>rfl
  | true=>rw[q] at b2;cases b2
 clear htos toin hto tnp tn;exists _,_,rfl,⟨nofun,nofun,(by show -2^62<=at_+1;omega),by show at_+1<2^62;omega⟩,?_;refine j0 (rest:=[some (.ref p)]) (fun b=>kK rs b) (by show(at_+1-to_).toNat<=sizeLine;omega) ⟨none,rfl⟩ ?_ ?_
 ·intro i H9 R i0 i1 s9 hR
  change⟨p,rs,i,rfl,pt _ (s8.trans s9),fun H' s'=>⟨_,rfl,hR _ s'⟩⟩
 intro D9 H9 s9 _ hD9;generalize hunt:oa (fun b=>kK rs b) to_ (at_+1-to_).toNat=unt at hD9;exists _,_,rfl,⟨by show -2^62<=at_+1;omega,(by show at_+1<2^62;omega),nofun,nofun⟩,?_;refine j0 (rest:=[some (.ref p)]) (fun b=>!fc rs b&&kK rs b) (by show(many-(at_+1)).toNat<=sizeLine;omega) ⟨none,rfl⟩ ?_ ?_
 ·intro i Ha R i0 i1 sa hR
  left;refine⟨p,rs,i,rfl,pt _ ((s8.trans s9).trans sa),fun H' s'=>⟨_,rfl,?_⟩⟩;cases q:fc rs i with
  | true=>
   rw[q] at hR;exact cq rfl (hR _ s')
  | false=>
   rw[q] at hR;refine cb rfl ?_;change⟨p,rs,i,rfl,(pt _ ((s8.trans s9).trans sa)).mono s',fun H'' s''=>⟨_,rfl,hR _ (s'.trans s'')⟩⟩
 intro Da Ha sa _ hDa;generalize hcod:oa (fun b=>!fc rs b&&kK rs b) (at_+1) (many-(at_+1)).toNat=cod at hDa;have cl:cod.length<=200:=by
  have:=Lx (f:=fun b=>!fc rs b&&kK rs b) (lo:=at_+1) (n:=(many-(at_+1)).toNat);rw[hcod] at this;omega
 have s0a:=((s07.trans s8).trans s9).trans sa;exists by show 0<=sizeLine;omega,?_
 intros pb Hb sb hb;have hD9b:=sb _ _ (sa _ _ hD9);refine⟨D9,pb,_,_,rfl,rfl,.inl ⟨aL.of hD9b,aL.of hb⟩,.inr (.inl rfl),?_⟩
 by_cases un:unt=[]
 ·rw[un]
  change out _ (s0a.trans sb)
 have hn2:decide (unt.map V.int=[])=false:=ze (by simpa using un);rw[hn2];obtain⟨u_,hu,uin⟩:=IY (m:=m/500) un;have unp:0<unt.length:=yr.mpr un;rw[<-hunt] at uin;obtain⟨u0,u1,u2⟩:=pT uin;exists D9,_,rfl,.inl (aL.of hD9b),?_;rw[za];exists by show 0<(unt.length:Int);omega,?_
 refine⟨D9,_,_,_,rfl,rfl,aL.of hD9b,hu,?_⟩;exists by show 1<=sizeLine;omega,?_
 intros pc Hc sc hc;have hDac:=sc _ _ (sb _ _ hDa);exists pc,Da,_,_,rfl,rfl,aL.of hc,aL.of hDac,by rw[za];show 1+cod.length<=sizeLine;omega,?_
 intros pd Hd sd hd;exists Da,_,rfl,.inl (aL.of (sd _ _ hDac)),?_;rw[za];exists by show 0<1+(cod.length:Int);omega,?_
 have k0:0<=m/7%(1+(cod.length:Int)):=zw _ nofun;have k1:m/7%(1+(cod.length:Int))<1+(cod.length:Int):=zt _ nofun;obtain⟨kj,hkj⟩:∃j:Nat,m/7%(1+(cod.length:Int))=(j:Int):=⟨(m/7%(1+(cod.length:Int))).toNat,nofun⟩
 obtain⟨co,cv,hcv,icv,cok⟩:∃(co:Option Int) (cv:V),(V.bR::cod.map V.int)[kj]?=some cv/\(∀H',Is H' (dO Dt.int co) cv)/\∀x,co=some x->x∈cod:=by
  cases kj with
  | zero=>exact⟨none,.bR,rfl,fun H'=>by unfold dO Is;rfl,fun x z=>by cases z⟩
  | succ k=>
   obtain⟨x,f1,f2⟩:=Kt (l:=cod) (j:=k) nofun;exact⟨some x,.int x,by simpa using f1,fun H'=>by unfold dO Is;rfl,fun y z=>by cases z;exact f2⟩
 refine⟨pd,_,_,_,rfl,rfl,aL.of hd,(by rw[hkj];exact bE hcv),?_⟩;exists by show 4<=sizeLine;omega,?_
 intros pe He se he;refine kk (some ⟨at_,to_,u_,co⟩) _ _ (fun j z=>?_) ((((s0a.trans sb).trans sc).trans sd).trans se) (cK he (aQ cX (aQ cX (aQ cX (aQ (icv _) cO)))));cases z;refine Rm ap a0 a1' aleave b0 nofun b2' u0 nofun u2 fun x hx=>?_;have xin:=cok x hx;rw[<-hcod] at xin;obtain⟨x0,x1,x2⟩:=pT xin;rw[zO] at x2;refine⟨nofun,nofun,?_,x2.2⟩;cases q:fc rs x with
 | false=>rfl
 | true=>rw[q] at x2;cases x2.1
def Mm:∀x∈EC,∀z∈([2,3,5]:List Int),(red x.1 (x.2*z)).1*(red x.1 x.2).2<(red x.1 x.2).1*(red x.1 (x.2*z)).2:=by decide +kernel
structure BC (most:Int) (S:cB):Prop where
 So:1<=S.players.length
 pl:S.players.length<=4
 pn:Bz S.players
 ins:S9 S.ao
 st:Ft S.players S.aM
 b1:1<=S.aO.length
 bl:(S.aO.length:Int)<=most
 bd:∀b∈S.aO,L8 b
 up:∀u,S.aI=some u->∃x z,S.aO[0]?=some x/\z∈([2,3,5]:List Int)/\u=red x.aU.1 (x.aU.2*z)
 hs:List.Sublist (S.holds.map (·.1)) S.players
 hr:∀x∈S.holds,Kw (S.ao.map (·.1)) S.aO.length x.2
 no:Fw S S.aK
 nl:S.aK.length<=9*S.aO.length
 rp:DB S.aO.length S.repeats
 ju:∀j,S.b9=some j->PK S.aO.length S.repeats j
def AU {aO:List Sc.Me} {upb:Option (Int×Int)} {S:cB} (eb:S.aO=aO) (eu:S.aI=upb) (bd:∀b∈aO,L8 b) (up:∀u,upb=some u->∃x z,aO[0]?=some x/\z∈([2,3,5]:List Int)/\u=red x.aU.1 (x.aU.2*z)) (b:Nat) (hb:b<aO.length):Ia (S.len b):=by
 have hm:Ia (S.aU b):=by
  unfold cB.aU;rw[eb,zd hb];obtain⟨m1,m2,m3,m4,m5⟩:=kG (bd _ (ym hb)).1;exact I9 nofun nofun nofun nofun
 unfold cB.len;rw[eu];cases q:upb with
 | none=>exact hm
 | some u=>
  dsimp only;split
  ·obtain⟨x,z,e1,e2,e3⟩:=up u q
   obtain⟨m1,m2,m3,m4,m5⟩:=kG (bd _ (zC e1)).1;rw[e3];have z1:2<=z/\z<=5:=by
    simp only[zD,zE,or_false] at e2;omega
   have p1:0<x.aU.2*z:=Int.mul_pos nofun nofun;have p2:x.aU.2*z<=32*5:=Int.mul_le_mul m5 z1.2 nofun ∅;exact I9 nofun nofun p1 nofun
  ·exact hm
inductive uJ (K:yB) (vs:List V) (H:Hp) (Q:VK) (E:XK):Prop
 | mk (a:Addr) (ns:List Int) (most:Int) (_:vs=[.ref a,.int most]) (_:aL K H a (ns.map V.int)) (_:ns.length<=1000) (_:1<=most) (_:most<=24) (_:∀S p H',BC most S->aB H H'->BA H' p S->Q (.ref p) H')
def bj:aF ["_law_script","_law_most","_law_m","_law_players","_law_instruments","_law_many","_law_bars","_law_upbeat","_law_holds","_law_notes","_law_repeats","_law_jump","_law_staffs"] ["_law_script","_law_most"] (aq nH):=dH
def uZ:di P w base 4 T.lF (uJ K):=by
 nomatch T.lF,bj
 obtain⟨a,ns,most,rfl,hS,nl,mo1,mo2,kk⟩:=h;have sl:=yC;refine⟨_,(ag (bT 2 bj.nd (bK (bW T) hr T.cG (aa (bK (ck T) hr T.cH (aa (pv 0) (aa ae af))) (aa ae af))))
  (ag (bT 3 bj.nd (bK (fm T) hr T.eI (aa (ax aX (pv 2) ae) (aa (ax aY ae (ax aV (pv 2) ae)) af))))
  (ag (bT 4 bj.nd (bK (mK T) hr T.fE (aa (bK (ck T) hr T.cH (aa (pv 0) (aa ae af))) af)))
  (ag (bT 5 bj.nd (ax aY ae (ax aV (bK (bW T) hr T.cG (aa (bK (ck T) hr T.cH (aa (pv 0) (aa ae af))) (aa ae af))) (pv 1))))
  (ag (bT 6 bj.nd (bK (xf T) hr T.m7 (aa (bK (ck T) hr T.cH (aa (pv 0) (aa ae af))) (aa (pv 5) af))))
  (ag (bT 7 bj.nd aW)
  (ag (aJ (ptr dj (ax aV (ax aX (pv 2) ae) ae) ae)
  (ak (bT 7 bj.nd (bK (eY T) hr T.fg (aa (bO (bO (gd (pv 6) ae) ae) ae) (aa (ax dJ (bO (bO (gd (pv 6) ae) ae) ae) (gd (bB (aa ae (aa ae (aa ae af)))) (ax aV (ax aX (pv 2) ae) ae))) af)))))
  aD)
  (ag (bT 8 bj.nd (bK (vc T) hr T.lJ (aa (bK (ck T) hr T.cH (aa (pv 0) (aa ae af))) (aa (pv 3) (aa (pv 4) (aa (pv 5) af))))))
  (ag (bT 9 bj.nd (bK (u9 T) hr T.lH (aa (bK (ck T) hr T.cH (aa (pv 0) (aa ae af))) (aa (pv 3) (aa (pv 6) (aa (pv 7) af))))))
  (ag (bT 10 bj.nd (bK (rN T) hr T.iV (aa (bK (ck T) hr T.cH (aa (pv 0) (aa ae af))) (aa (pv 5) af))))
  (ag (bT 11 bj.nd (bK (xb T) hr T.mY (aa (bK (ck T) hr T.cH (aa (pv 0) (aa ae af))) (aa (pv 5) (aa (pv 10) af)))))
  (ag (bT 12 bj.nd (bK (tS T) hr T.ka (aa (bK (ck T) hr T.cH (aa (pv 0) (aa ae af))) (aa (pv 3) af))))
  (ak (au (bG (aa (pv 3) (aa (pv 4) (aa (pv 12) (aa (pv 6) (aa (pv 7) (aa (pv 8) (aa (pv 9) (aa (pv 10) (aa (pv 11) af)))))))))))))))))))))))),?_⟩
 ac_rfl;exists a,ns,0,rfl,hS,(by decide),nl,fun c0=>?_;exists c0,1,rfl,(by decide),(by decide),?_;have m0:0<=mixed c0 1:=zw _ ∅;have m1:mixed c0 1<2147483399:=zt _ ∅;generalize mixed c0 1=m at m0 m1;have a0:0<=m%4:=zw _ ∅;have a1:m%4<4:=zt _ ∅;left;refine⟨_,_,rfl,zW m0 ∅,?_,nofun,nofun,fun ps pp H1 pl pok s1 hpp=>?_⟩
 ·have:=zX (a:=m) 4 m0;omega
 have So:1<=ps.length/\ps.length<=4:=nofun
 exists a,ns,1,rfl,s1.seq hS,(by decide),nl,fun c1=>?_;left;intro ins ip iv H2 iok s2 hip ili;exists a,ns,2,rfl,(s1.trans s2).seq hS,(by decide),nl,fun c2=>?_;exists c2,2,rfl,(by decide),(by decide),?_;have n0:0<=mixed c2 2:=zw _ ∅;generalize mixed c2 2=n at n0;exists by show 0<most;omega,?_
 have d0:0<=n%most:=zw _ nofun;have d1:n%most<most:=zt _ nofun;exists a,ns,2,rfl,(s1.trans s2).seq hS,(by decide),nl,fun c3=>?_;exists c3,_,rfl,nofun,nofun,fun aO bp bv H3 bl bok s3 nb hbp ilb=>?_;have bl2:((aO.length:Nat):Int)=1+n%most:=nofun
 have bvl:=aT ilb;have s03:=(s1.trans s2).trans s3;have x0:aO[0]?=some (aO[0]'nofun):=zd nofun;generalize aO[0]'nofun=x at x0;obtain⟨y,hy,iy⟩:=dE ilb (i:=0) (zd nofun);have ey:y=x:=by rw[x0] at hy;exact(yk hy).symm
 subst ey;obtain⟨ab,mv,qb,ev,hab,imv,_⟩:=xK iy;have xin:y.aU∈EC:=(bok y (zC x0)).1;obtain⟨e1,e2,e3,e4,e5⟩:=kG xin;have av:bv[0]?=some (.ref ab):=by rw[<-ev];exact zd nofun
 cases fC (o:=some y.aU) imv with
 | ref hmv=>
 rename_i am;left;refine join (fun σ H'=>aB H3 H'/\∃(upb:Option (Int×Int)) (uv:V),σ=[some (.ref a),some (.int most),some (.int m),some (.ref pp),some (.ref ip),some (.int (1+n%most)),some (.ref bp),some uv,none,none,none,none,none]/\Is H' (dO dL upb) uv/\∀u,upb=some u->∃x z,aO[0]?=some x/\z∈([2,3,5]:List Int)/\u=red x.aU.1 (x.aU.2*z)) (fun N hN cc=>?_) (fun N hN cc=>?_) ?_
 ·left
  refine⟨bp,bv,0,_,rfl,rfl,aL.of hbp,bE av,?_⟩;exists bp,bv,0,_,rfl,rfl,aL.of hbp,bE av,?_;exists by show 3<=sizeLine;omega,?_
  intros p4 H4 s4 h4;have g0:0<=m/64%3:=zw _ ∅;have g1:m/64%3<3:=zt _ ∅;obtain⟨jj,hjj⟩:∃j:Nat,m/64%3=(j:Int):=⟨(m/64%3).toNat,nofun⟩
  obtain⟨z,hz,zi⟩:∃z:Int,[V.int 2,V.int 3,V.int 5][jj]?=some (.int z)/\z∈([2,3,5]:List Int):=by
   have:jj<3:=nofun
   match jj,this with
   | 0,_=>exact⟨2,rfl,∅⟩
   | 1,_=>exact⟨3,rfl,∅⟩
   | 2,_=>exact⟨5,rfl,∅⟩
  have z1:2<=z/\z<=5:=by
   simp only[zD,zE,or_false] at zi;omega
  exists p4,_,m/64%3,.int z,rfl,rfl,aL.of h4,(by rw[hjj];exact bE hz),?_;exists .inl ⟨nofun,nofun⟩,?_;have p1:0<y.aU.2*z:=Int.mul_pos nofun nofun;have p2:y.aU.2*z<=32*5:=Int.mul_le_mul e5 z1.2 nofun ∅;refine⟨_,_,rfl,nofun,p1,(cw (n:=10) nofun nofun).mono ∅,fun p5 H5 s5 h5=>?_⟩;change hN _ _ ⟨s4.trans s5,some (red y.aU.1 (y.aU.2*z)),.ref p5,rfl,jh h5,fun u q=>by cases q;exact⟨y,z,x0,zi,rfl⟩⟩
 ·left
  exact hN _ _ ⟨aB.refl _,none,.bR,rfl,by unfold dO Is;rfl,fun u z=>by cases z⟩
 rintro σ4 H4 ⟨s4,upb,uv,rfl,iuv,uok⟩;have s04:=s03.trans s4;exists a,ns,1,rfl,s04.seq hS,(by decide),nl,fun c5=>?_;left;have s14:=(s2.trans s3).trans s4;have s24:=s3.trans s4;refine⟨c5,_,pp,ip,ps,ins,iv,rfl,s14 _ _ hpp,s24 _ _ hip,ili.mono s24,nofun,by have:=iok.1;omega,nofun,fun hs hp hv H5 hsub hrow s5 hhp rlh=>?_⟩;have s05:=s04.trans s5;exists a,ns,3,rfl,s05.seq hS,(by decide),nl,fun c6=>?_;left;have s15:=s14.trans s5;have s25:=s24.trans s5;have s35:=s4.trans s5;refine⟨c6,pp,bp,{players:=ps,aO:=aO,aI:=upb},bv,uv,rfl,s15 _ _ hpp,s35 _ _ hbp,ilb.mono s35,iuv.mono s5,by show ps.length<=9;omega,pok.2,by show aO.length<=200;omega,bok,AU rfl rfl bok uok,fun nts np nv H6 nok nlen s6 hnp rln=>?_⟩;have s06:=s05.trans s6;exists a,ns,4,rfl,s06.seq hS,(by decide),nl,fun c7=>?_;exists c7,_,rfl,nofun,fun rs rp rv H7 rok s7 hrp ilr=>?_;have s07:=s06.trans s7;exists a,ns,4,rfl,s07.seq hS,(by decide),nl,fun c8=>?_;left;have rsl:Qh H7 rp rs:=⟨by have:=rok.1;omega,fun r hr'=>by have:=(rok.2.1 r hr').2.2.2.2.2.2.1;omega,rv,hrp,ilr⟩
 refine⟨c8,_,rp,rs,rfl,rsl,rok,nofun,nofun,fun jo jv H8 jok s8 ij=>?_⟩;have s08:=s07.trans s8;exists a,ns,0,rfl,s08.seq hS,(by decide),nl,fun c9=>?_;left;have s18:=((s15.trans s6).trans s7).trans s8;refine⟨c9,pp,ps,rfl,s18 _ _ hpp,pok.2,nofun,fun sts sp sv H9 stok s9 hsp ils=>?_⟩;exists by show 9<=sizeLine;omega,?_
 intros pa Ha sa ha;have s9a:=sa;have s8a:=s9.trans sa;have s7a:=s8.trans s8a;have s6a:=s7.trans s7a;have s5a:=s6.trans s6a;have s4a:=s5.trans s5a;have s3a:=s4.trans s4a;have s2a:=s3.trans s3a;have s1a:=s2.trans s2a;refine kk ⟨ps,ins,sts,aO,upb,hs,nts,rs,jo⟩ pa Ha ?_ (s08.trans s8a) ?_
 ·exact⟨So.1,So.2,pok,iok,stok,by show 1<=aO.length;omega,by show(aO.length:Int)<=most;omega,bok,uok,hsub,fun x hx=>by show Kw (ins.map (·.1)) aO.length x.2;rw[bl2];exact hrow x hx,nok,nlen,by show DB aO.length rs;rw[bl2];exact rok,fun j hj=>by show PK aO.length rs j;rw[bl2];exact jok j hj⟩
 ·exact⟨pp,ip,sp,bp,hp,np,rp,uv,jv,iv,sv,bv,hv,nv,rv,ha,s1a _ _ hpp,⟨s2a _ _ hip,ili.mono s2a⟩,⟨s9a _ _ hsp,ils.mono s9a⟩,⟨s3a _ _ hbp,ilb.mono s3a⟩,iuv.mono s4a,⟨s5a _ _ hhp,rlh.imp fun x v z=>z.mono s5a⟩,⟨s6a _ _ hnp,rln.imp fun x v z=>z.mono s6a⟩,⟨s7a _ _ hrp,ilr.mono s7a⟩,ij.mono s8a⟩
def pk {n:Str} (h:gH n):n.length<=12:=by
 unfold gH cP at h;split at h
 ·cases h
 ·split at h
  ·cases h
  ·omega
def Hs {n:Int} (h:NB n):(dec n).length<=5:=bz (by have:=h.1;omega) (by have:=h.2;omega)
theorem FN:∀es:List Sc.End,Iu es=((es.map (·.2)).flatten).length
 | []=>rfl
 | e::r=>by rw[zj,ya,zh,<-FN r];rfl
theorem Gh {n:Nat} (hn:n<=999):∀{l rs:List Rep},(rs++l).Pairwise (fun a b=>a.last<b.first)->(∀r∈l,Fv n r)->xS n rs l
 | [],_,_,_=>trivial
 | r::l,rs,asc,ok=>by
  obtain⟨h1,h2,h3,h4,h5,e1,e2,e3,e4,e5⟩:=ok r zr;refine⟨fun b hb=>?_,?_,⟨by rw[FN];omega,nofun,nofun,nofun⟩,Gh hn (by rw[zF];exact asc) fun x hx=>ok x (zp _ hx)⟩
  ·rcases zG.mp hb with z | z
   ·simp only[zD,zE,or_false] at z
    rcases z with z | z <;> omega
   ·obtain⟨e,he,rfl⟩:=zH.mp z
    have:=(e3 e he).2.1;omega
  ·have fin:(decide (r.first<=r.last)&&gz r)=true:=by rw[zg h2];exact e1
   unfold mC;cases q:rs.getLast? with
   | none=>exact fin
   | some p=>
    have:=(zU.mp asc).2.2 p (List.mem_of_getLast? q) r zr;dsimp only;rw[if_neg nofun];exact fin
def Pq {most:Int} {S:cB} (hm:most<=24) (D:BC most S):US S:=by
 have bl:=D.bl;have b1:=D.b1;have pl:=D.pl;obtain⟨i1,i2,i3⟩:=D.ins;obtain⟨t1,t2,t3,t4⟩:=D.st;have nl:=D.nl;obtain⟨r1,r2,r3⟩:=D.rp;have hl:=D.hs.length_le;rw[za] at hl;refine⟨D.pn.2,nofun,i2.2,nofun,t2.2,t3,fun x hx=>(t4 x hx).2.2,fun x hx=>by have:=(t4 x hx).2.1;omega,nofun,nofun,fun b hb=>?_,fun u hu=>?_,D.hs.nodup D.pn.2,nofun,fun x hx=>?_,D.no.1,nofun,fun x hx=>?_,Gh nofun (by rw[List.nil_append];exact r3) r2,nofun,fun r hr=>?_,fun j hj=>?_⟩
 ·obtain⟨m1,m2,m3,m4,m5⟩:=kG (D.bd b hb).1
  exact⟨nofun,nofun,nofun,nofun⟩
 ·obtain⟨x,z,e1,e2,e3⟩:=D.up u hu
  have xin:=(D.bd x (zC e1)).1;obtain⟨m1,m2,m3,m4,m5⟩:=kG xin;refine⟨nofun,?_,?_⟩
  ·unfold cB.aU
   rw[e1,e3];exact Mm x.aU xin z e2
  ·have z1:2<=z/\z<=5:=by
    simp only[zD,zE,or_false] at e2;omega
   have p1:0<x.aU.2*z:=Int.mul_pos nofun nofun;have p2:x.aU.2*z<=32*5:=Int.mul_le_mul m5 z1.2 nofun ∅;obtain⟨q1,q2,q3,q4⟩:=I9 (t:=x.aU.1) (b:=x.aU.2*z) nofun nofun p1 nofun;obtain⟨_,q5,_⟩:=q1.pos;rw[e3];exact⟨(cw (n:=10) nofun nofun).mono ∅,(cw (n:=10) nofun nofun).mono ∅⟩
 ·obtain⟨h1,h2,h3,h4⟩:=D.hr x hx
  exact⟨h1,nofun,h3,D.hs.subset (zP (f:=fun y:Str×List (Int×Str)=>y.1) hx),fun h hh=>⟨(h4 h hh).2.1,(h4 h hh).2.2⟩⟩
 ·obtain⟨h1,h2,h3,h4,h5,h6,h7⟩:=D.no.2 x hx
  exact⟨h1,h2,h3,h4,fun it hit=>(h5 it hit).1,h6⟩
 ·have:=(r2 r hr).2.2.2.2.2.2.1
  omega
 ·obtain⟨j1,j2,j3,j4,j5⟩:=D.ju j hj
  refine⟨fun b hb=>?_,j1⟩;rcases zG.mp hb with z | z
  ·simp only[zD,zE,or_false] at z
   rcases z with z | z | z <;> omega
  ·cases q:j.gf with
   | none=>rw[q] at z;cases z
   | some c=>
    rw[q] at z;have:b=c:=by simpa using z
    have:=(j5 c q).2;omega
def Dp {many:Int} {r:Rep} (hm:many<=200) (h:Fv many r):L3 r:=by
 obtain⟨h1,h2,h3,h4,h5,e1,e2,e3,e4,e5⟩:=h;exact⟨⟨⟨h1,nofun⟩,⟨nofun,nofun⟩,h4,h5,fun e he=>⟨by have:=(e3 e he).1;omega,by have:=(e3 e he).2.1;omega,(e3 e he).2.2.1,(e3 e he).2.2.2.2⟩⟩,e2,fun e he=>(e3 e he).2.2.2.1⟩
def NU {most:Int} {S:cB} (hm:most<=24) (D:BC most S):∀t∈eU S,TD t:=by
 have bl:=D.bl;have b1:=D.b1;have pl:=D.pl;obtain⟨i1,i2,i3⟩:=D.ins;obtain⟨t1,t2,t3,t4⟩:=D.st;obtain⟨r1,r2,r3⟩:=D.rp;have pnm:∀p∈S.players,gH p:=D.pn.1;have inm:∀p∈S.ao.map (·.1),gH p:=i2.1;intro t ht;unfold eU at ht;simp only[zG] at ht;rcases ht with((((((ht | ht) | ht) | ht) | ht) | ht) | ht) | (ht | ht)
 ·obtain⟨n,hn,rfl⟩:=zH.mp ht
  refine⟨pnm n hn,by show 2<=100;decide,fun w hw=>?_⟩;simp only[Sc.wordsOf,zD,zE,or_false] at hw;rcases hw with rfl | rfl
  ·decide
  ·have:=pk (pnm _ hn);omega
 ·obtain⟨x,hx,rfl⟩:=zH.mp ht
  obtain⟨q1,q2,q3,q4,q5,q6⟩:=i3 x hx;have nx:=inm x.1 (zP (f:=fun y:Str×(Int×Int)×(Int×Int)=>y.1) hx);obtain⟨p1,p2,_⟩:=q4.pos;refine⟨⟨nx,q1,q2,q3,q4,q5,q6⟩,by show 5<=100;decide,fun w hw=>?_⟩;simp only[Sc.wordsOf,zD,zE,or_false] at hw;obtain⟨o1,o2,o3,o4,_⟩:=q1;rcases hw with rfl | rfl | rfl | rfl | rfl
  ·decide
  ·have:=pk nx;omega
  ·have:=bz (n:=x.2.1.1) nofun nofun;omega
  ·have:=bz (n:=x.2.1.2) nofun nofun;omega
  ·have:=lV (x:=x.2.2) nofun q5 nofun q6;omega
 ·obtain⟨x,hx,rfl⟩:=zH.mp ht
  obtain⟨q1,q2,q3⟩:=t4 x hx;have nx:=t2.1 x.1 (zP (f:=fun y:Str×List Str=>y.1) hx);refine⟨⟨nx,q1,fun p hp=>pnm p (q3 p hp)⟩,by show x.2.length+1+1<=100;omega,fun w hw=>?_⟩;simp only[Sc.wordsOf,zD] at hw;rcases hw with rfl | rfl | hw
  ·decide
  ·have:=pk nx;omega
  ·have:=pk (pnm w (q3 w hw));omega
 ·obtain⟨b,hb,rfl⟩:=zH.mp ht
  obtain⟨q1,q2,q3,q4,q5⟩:=D.bd b hb;obtain⟨m1,m2,m3,m4,m5⟩:=kG q1;refine⟨⟨m1,nofun,m3,q2,q3,q4⟩,by show b.marks.length+1+1+1<=100;omega,fun w hw=>?_⟩;simp only[Sc.wordsOf,zD] at hw;rcases hw with rfl | rfl | rfl | hw
  ·decide
  ·have l1:=bz (n:=b.aU.1) nofun nofun
   have l2:=bz (n:=b.aU.2) nofun nofun;rw[len_app,len_app];have:("/": Str).length=1:=rfl;omega
  ·have:=bz (n:=b.key) nofun nofun;omega
  ·have:=pk (q4 w hw);omega
 ·obtain⟨u,hu,rfl⟩:=zH.mp ht
  have hu':S.aI=some u:=by
   cases q:S.aI with
   | none=>rw[q] at hu;cases hu
   | some v=>
    rw[q] at hu;have:u=v:=by simpa using hu
    rw[this]
  have ln:=AU (S:=S) rfl rfl D.bd D.up 0 nofun;have el:S.len 0=u:=by unfold cB.len;rw[hu'];rfl
  rw[el] at ln;obtain⟨l1,l2,l3,l4⟩:=ln;obtain⟨p1,p2,_⟩:=l1.pos;refine⟨⟨l1,l2,nofun,nofun⟩,by show 2<=100;decide,fun w hw=>?_⟩;simp only[Sc.wordsOf,zD,zE,or_false] at hw;rcases hw with rfl | rfl
  ·decide
  ·have:=lV (x:=u) nofun nofun nofun nofun;omega
 ·obtain⟨l,hl,ht⟩:=List.mem_flatten.mp ht
  obtain⟨x,hx,rfl⟩:=zH.mp hl;obtain⟨h,hh,rfl⟩:=zH.mp ht;obtain⟨h1,h2,h3,h4⟩:=D.hr x hx;have np:=pnm x.1 (D.hs.subset (zP (f:=fun y:Str×List (Int×Str)=>y.1) hx));have nb:NB h.1:=⟨(h4 h hh).1,by have:=(h4 h hh).2.1;omega⟩
  have ni:=inm h.2 (h4 h hh).2.2;refine⟨⟨np,nb,ni⟩,by show 4<=100;decide,fun w hw=>?_⟩;simp only[Sc.wordsOf,zD,zE,or_false] at hw;rcases hw with rfl | rfl | rfl | rfl
  ·decide
  ·have:=pk np;omega
  ·have:=Hs nb;omega
  ·have:=pk ni;omega
 ·obtain⟨x,hx,rfl⟩:=zH.mp ht
  obtain⟨h1,h2,h3,h4,h5,h6,h7⟩:=D.no.2 x hx;have nb:NB x.1.1:=⟨h1,nofun⟩
  refine⟨⟨nb,pnm _ h3,h5,h7⟩,by show(x.2.map rO).length+1+1+1<=100;rw[za];omega,fun w hw=>?_⟩;simp only[Sc.wordsOf,zD] at hw;rcases hw with rfl | rfl | rfl | hw
  ·decide
  ·have:=Hs nb;omega
  ·have:=pk (pnm _ h3);omega
  ·obtain⟨it,hit,rfl⟩:=zH.mp hw
   have:=Lp (h5 it hit);omega
 ·obtain⟨r,hr,rfl⟩:=zH.mp ht
  obtain⟨⟨q1,q2,q3,q4,q5⟩,q6,q7⟩:=Dp nofun (r2 r hr);refine⟨⟨q1,q2,q3,q4,q5⟩,by show(r.ends.map qp).length+1+1+1+1<=100;rw[za];omega,fun w hw=>?_⟩;simp only[Sc.wordsOf,zD] at hw;rcases hw with rfl | rfl | rfl | rfl | hw
  ·decide
  ·have:=Hs q1;omega
  ·have:=Hs q2;omega
  ·have:=bz (n:=r.times) nofun nofun;omega
  ·obtain⟨e,he,rfl⟩:=zH.mp hw
   have:=Hi (q5 e he) (q7 e he);omega
 ·obtain⟨j,hj,rfl⟩:=zH.mp ht
  have hj':S.b9=some j:=by
   cases q:S.b9 with
   | none=>rw[q] at hj;cases hj
   | some v=>
    rw[q] at hj;have:j=v:=by simpa using hj
    rw[this]
  obtain⟨j1,j2,j3,j4,j5⟩:=D.ju j hj';have n1:NB j.uB:=⟨j2.1,nofun⟩
  have n2:NB j.wu:=⟨j3.1,nofun⟩
  have n3:NB j.cW:=⟨j4.1,nofun⟩
  have n4:∀c,j.gf=some c->NB c:=fun c hc=>⟨(j5 c hc).1,by have:=(j5 c hc).2;omega⟩
  refine⟨⟨n1,n2,n3,n4⟩,by show 5<=100;decide,fun w hw=>?_⟩;simp only[Sc.wordsOf,zD,zE,or_false] at hw;rcases hw with rfl | rfl | rfl | rfl | rfl
  ·decide
  ·have:=Hs n1;omega
  ·have:=Hs n2;omega
  ·have:=Hs n3;omega
  ·unfold ctxt
   cases q:j.gf with
   | none=>decide
   | some c=>have:=Hs (n4 c q);dsimp only;omega
theorem Kj {α:Type} {k:Nat}:∀{l:List (List α)},(∀x∈l,x.length<=k)->l.flatten.length<=k*l.length
 | [],_=>by simp
 | x::r,h=>by
  have ih:=Kj (l:=r) fun y hy=>h y (zp _ hy);have:=h x zr;rw[ya,zh,zv,Nat.mul_succ];omega
def LC {most:Int} {S:cB} (hm:most<=24) (D:BC most S):(eU S).length<=1000/\eU S≠[]:=by
 have bl:=D.bl;have b1:=D.b1;have pl:=D.pl;have So:=D.So;have i1:=D.ins.1;have t1:=D.st.1;have r1:=D.rp.1;have nl:=D.nl;have hl:=D.hs.length_le;rw[za] at hl;have f:=Kj (k:=4) (l:=S.holds.map fun x=>x.2.map fun h=>Told.holds x.1 h.1 h.2) fun y hy=>by
  obtain⟨x,hx,rfl⟩:=zH.mp hy;rw[za];exact(D.hr x hx).2.1
 rw[za] at f;have u:S.aI.toList.length<=1:=by cases S.aI <;> simp
 have j:S.b9.toList.length<=1:=by cases S.b9 <;> simp
 refine⟨?_,fun z=>?_⟩
 ·unfold eU
  simp only[zh,za];omega
 ·have:=congrArg List.length z
  unfold eU at this;simp only[zh,za,List.length_nil] at this;omega
def BO:Sp:=fun vs H Q _=>∃(i:Int),vs=[.int i]/\Q (.bl true) H
def BX:aF ["_law_found"] ["_law_found"] (aq sZ):=dH
def qP:di P w base 1 T.mX BO:=by
 nomatch T.mX,BX
 obtain⟨i,rfl,kk⟩:=h;refine⟨_,(ak (au (lh (IQ .int (by decide +kernel) (pv 0) T.mM T.P9) (mI (Q0 (IQ .bl (by decide +kernel) (pv 0) T.mM T.Rb)))))),?_⟩;ac_rfl;change kk
inductive sG (vs:List V) (H:Hp) (Q:VK) (E:XK):Prop
 | mk (p:Addr) (x y:Int) (_:vs=[.ref p]) (_:H p=some (.tup [.int x,.int y])) (_:Q (.bl true) H)
def sO:aF ["_law_found"] ["_law_found"] (aq lR):=dH
def kD:di P w base 2 T.gG sG:=by
 nomatch T.gG,sO
 obtain⟨p,x,y,rfl,hp,kk⟩:=h;refine⟨_,(ak (au (lh (IQ .tup (by decide +kernel) (pv 0) T.mM T.hV) (lh (dY dj (eQ aG T.bC (aa (pv 0) af)) ae (iS _)) (lh (bK (qP T) hr T.mX (aa (bO (pv 0) ae) af)) (mI (bK (qP T) hr T.mX (aa (bO (pv 0) ae) af)))))))),?_⟩;ac_rfl;exists p,_,rfl,.inr (dB.of hp),?_;change kk
inductive F4 (vs:List V) (H:Hp) (Q:VK) (E:XK):Prop
 | mk (D p q:Addr) (x y:Int×Int) (_:vs=[.ref D]) (_:H D=some (.lst [.ref p,.ref q])) (_:H p=some (fR x)) (_:H q=some (fR y)) (_:Lm.Rd x) (_:x.1<=515396075520) (_:x.2<=960) (_:Ia y) (_:∀r H',aB H H'->H' r=some (fR (Lm.add x y))->Q (.ref r) H')
def iD:aF ["_law_lengths","_law_total","_law_top","_law_bottom"] ["_law_lengths"] (aq Ae):=dH
def GK:di P w base 3 T.Bw F4:=by
 nomatch T.Bw,iD
 obtain⟨D,p,q,x,y,rfl,hD,hp,hq,rx,x1,x2,⟨ry,y1,y2,y3⟩,kk⟩:=h;obtain⟨x3,x4,_⟩:=rx.pos;obtain⟨_,y4,_⟩:=ry.pos;have ex:Lm.add (0,1) x=x:=by rw[Lm.add_comm];exact add_zero rx
 have tb:∀i,i<2->(0<=(([x,y].take i).foldl Lm.add (0,1)).1/\(([x,y].take i).foldl Lm.add (0,1)).1<=515396075520)/\0<(([x,y].take i).foldl Lm.add (0,1)).2/\(([x,y].take i).foldl Lm.add (0,1)).2<=960:=by
  intro i hi;rcases(by omega:i=0\/i=1) with rfl | rfl
  ·show(0<=(0:Int)/\(0:Int)<=515396075520)/\0<(1:Int)/\(1:Int)<=960
   decide
  ·show(0<=(Lm.add (0,1) x).1/\(Lm.add (0,1) x).1<=515396075520)/\0<(Lm.add (0,1) x).2/\(Lm.add (0,1) x).2<=960
   rw[ex];exact⟨⟨x3,x1⟩,x4,x2⟩
 refine⟨_,(ag (bT 1 iD.nd (bG (aa ae (aa ae af))))
  (ag (cE PassesOwn.never rfl (bw (pv 0)) (d6 (n:=2) rfl (aP (jR 2 iD.nd) (aP (jR 3 iD.nd) dq)))
  (ak (bT 1 iD.nd (bK (eY T) hr T.fg (aa (ax aY (ax dJ (bO (pv 1) ae) (pv 3)) (ax dJ (pv 2) (bO (pv 1) ae))) (aa (ax dJ (bO (pv 1) ae) (pv 3)) af))))))
  (ak (au (pv 1))))),?_⟩
 ac_rfl;exists cT,?_;intros t0 H1 s1 h1;exists⟨_,aL.of (s1 _ _ hD)⟩,?_;refine dQ (K:=K) (a:=D) (xs:=[.ref p,.ref q]) (fun i σ H'=>∃(t:Addr) (w2 w3:Option V),aB H H'/\H' t=some (fR (([x,y].take i).foldl Lm.add (0,1)))/\σ=[some (.ref D),some (.ref t),w2,w3]) ⟨t0,none,none,s1,h1,rfl⟩ (fun i σ H' _ h=>by obtain⟨_,_,_,s,_⟩:=h;exact aL.of (s _ _ hD)) ?_ ?_
 ·intro i v σ H2 hx hh
  refine df fun N kN0 kR0 _ _=>?_;obtain⟨t,w2,w3,s2,h2,rfl⟩:=hh;have hi:i<2:=(zy.mp hx).1;obtain⟨r,z,rfl,hr2,hz,z0,z1,z2,z3⟩:∃r z,v=.ref r/\H r=some (fR z)/\[x,y][i]?=some z/\0<=z.1/\z.1<=515396075520/\0<z.2/\z.2<=960:=by
   rcases(by omega:i=0\/i=1) with rfl | rfl
   ·cases hx;exact⟨p,x,rfl,hp,rfl,x3,x1,x4,x2⟩
   ·cases hx;exact⟨q,y,rfl,hq,rfl,nofun,nofun,y4,nofun⟩
  have tt:=tb i hi;have e1:([x,y].take (i+1)).foldl Lm.add (0,1)=Lm.add (([x,y].take i).foldl Lm.add (0,1)) z:=by rw[cZ hz,zY];rfl
  generalize ([x,y].take i).foldl Lm.add (0,1)=u at h2 tt e1;obtain⟨⟨u1,u2⟩,u3,u4⟩:=tt;refine⟨r,_,rfl,dB.of (s2 _ _ hr2),rfl,?_⟩;refine⟨_,_,rfl,⟨_,_,rfl,⟨rfl,?_⟩⟩⟩;exists .inr ⟨nofun,nofun⟩,?_;exists .inr ⟨nofun,nofun⟩,?_;exists .inr ⟨nofun,nofun⟩,?_;have p0:0<u.2*z.2:=Int.mul_pos u3 z2;have p1:u.2*z.2<=960*960:=Int.mul_le_mul u4 z3 nofun ∅;have p2:0<=u.1*z.2+z.1*u.2:=Int.add_nonneg (Int.mul_nonneg u1 nofun) (Int.mul_nonneg z0 nofun);refine⟨_,_,rfl,p2,p0,(cw (n:=30) nofun nofun).mono ∅,fun r3 H3 s3 h3=>?_⟩;change⟨r3,_,_,s2.trans s3,by rw[e1];exact h3,rfl⟩
 ·rintro σ H2 ⟨t,w2,w3,s2,h2,rfl⟩
  left;refine kk t _ s2 ?_;rw[h2];show some (fR (Lm.add (Lm.add (0,1) x) y))=_;rw[ex]
inductive MG (K:yB) (vs:List V) (H:Hp) (Q:VK) (E:XK):Prop
 | mk (a:Addr) (ns:List Int) (_:vs=[.ref a]) (_:aL K H a (ns.map V.int)) (_:ns.length<=63) (_:∀H':Hp,Q (.bl true) H')
def RC:∀x∈EC,(red x.1 x.2).2 ∣ 960:=by decide +kernel
def SR:∀x∈EC,∀z∈([2,3,5]:List Int),(red x.1 (x.2*z)).2 ∣ 960:=by decide +kernel
def LB {most:Int} {S:cB} (D:BC most S) (b:Nat) (hb:b<S.aO.length):Tv (S.len b):=by
 refine⟨AU rfl rfl D.bd D.up b hb,?_⟩;have hm:(S.aU b).2 ∣ 960:=by
  unfold cB.aU;rw[zd hb];exact RC _ (D.bd _ (ym hb)).1
 unfold cB.len;cases q:S.aI with
 | none=>exact hm
 | some u=>
  dsimp only;split
  ·obtain⟨x,z,e1,e2,e3⟩:=D.up u q
   rw[e3];exact SR _ (D.bd _ (zC e1)).1 _ e2
  ·exact hm
def kX:aF ["_law_script","_law_s","_law_score","_law_bar","_law_found","_law_time","_law_begin","_law_number"] ["_law_script"] (aq P0):=dH
def Q8 (B:Dk P w K T) (F:Cf K T.mU):di P w base 9 T.Uw (MG K):=by
 nomatch T.Uw,kX
 obtain⟨a,ns,rfl,hS,nl,kk⟩:=h;have sl:=yC;refine⟨_,(ag (bT 1 kX.nd (bK (uZ T) hr T.lF (aa (pv 0) (aa ae af))))
  (ag (bT 2 kX.nd (bK (B6 T B F) hr T.rD (aa (bK (rL T) hr T.iT (aa (pv 1) af)) af)))
  (ag (cE PassesOwn.never rfl (de (by rfl) T.cR (aa (eQ aG T.bC (aa (bO (pv 1) ae) af)) af)) (jR 3 kX.nd)
  (ag (bT 4 kX.nd (bK (Cb T F) hr T.rW (aa (pv 2) (aa (pv 3) af))))
   (ak (aJ (PW.pt (eD (fB (cU (bK (kD T) hr T.gG (aa (pv 4) af)))) (dC (ptr (uX hr.units) (pv 4) (bK (gw T) hr T.fh (aa (bO (pv 1) ae) (aa (bO (pv 1) ae) (aa (pv 3) af))))))))
   (ak (au jS))
   aD))))
  (ag (bT 5 kX.nd (bG (aa ae (aa ae af))))
  (ag (cE PassesOwn.never rfl (bw (bK (Ld T F) hr T.IM (aa (pv 2) af))) (d6 (n:=3) rfl (aP (jR 3 kX.nd) (aP (jR 6 kX.nd) (aP (jR 7 kX.nd) dq))))
  (ag (aJ (PW.pt (eD (fB (cU (bK (kD T) hr T.gG (aa (pv 6) af)))) (dC (ptr (uX hr.units) (pv 6) (pv 5)))))
   (ak (au jS))
   aD)
   (ak (bT 5 kX.nd (bK (GK T) hr T.Bw (aa (bB (aa (pv 5) (aa (bK (gw T) hr T.fh (aa (bO (pv 1) ae) (aa (bO (pv 1) ae) (aa (pv 3) af)))) af))) af))))))
  (ak (au jS))))))),?_⟩
 ac_rfl;exists a,ns,24,rfl,hS,nofun,(by decide),(by decide),fun S p H1 D s1 la=>?_;have vok:=Pq ∅ D;have td:=NU ∅ D;obtain⟨tl,tne⟩:=LC ∅ D;have rok:∀r∈S.repeats,L3 r:=fun r hr'=>Dp (by have:=D.bl;omega) (D.rp.2.1 r hr');have b24:=D.bl;have b1:=D.b1;have lnd:=LB D;have rpd:∀r∈S.repeats,RK r:=fun r hr'=>by
  obtain⟨h1,h2,h3,h4,h5,_,e2,e3,_⟩:=D.rp.2.1 r hr';exact⟨h1,h2,nofun,h4,h5,e2,fun e he=>⟨(e3 e he).1,(e3 e he).2.1⟩⟩
 have bok:∀x∈S.aO,BD x:=fun x hx=>by
  obtain⟨m1,m2,m3,m4,m5⟩:=kG (D.bd x hx).1;exact⟨nofun,nofun,nofun,nofun⟩
 exists p,S,rfl,la,td,tl,rok,(by have:=D.rp.1;omega),fun H2 s2=>?_;exists _,eU S,S,rfl,text_len td tl,OO tne td,ML vok,fun sa o H3 sc s3 ow=>?_;have la3:=(la.mono s2).mono s3;obtain⟨pl,il,st,bl,hl,nl',rl,ub,jm,iv,sv,bv,hv,nv,rv,h1,h2,_,_,⟨h5,ilb⟩,iub,_⟩:=la3.at';exists bl,bv,rfl,.inl (aL.of h5),?_;rw[aT ilb];exists by omega,nofun,?_
 rw[show((S.aO.length:Int)).toNat=S.aO.length from by omega];refine fX (fun i σ H'=>aB H3 H'/\∃(w3 w4:Option V),σ=[some (.ref a),some (.ref p),some (.ref sa),w3,w4,none,none,none]) ⟨aB.refl _,none,none,rfl⟩ ?_ ?_
 ·rintro i σ H4 hi ⟨s4,w3,w4,rfl⟩
  rw[Int.zero_add];exists sa,S,o,i,rfl,sc.mono s4,hi,bok,fun q H5 s5 h5'=>?_;exists q,_,_,rfl,h5',?_;have s35:=s4.trans s5;have h15:=s35 _ _ h1;exists bl,bv,S,ub,i,rfl,s35 _ _ h5,ilb.mono s35,iub.mono s35,hi,D.bd,fun q6 H6 s6 h6=>?_;refine⟨q,q6,_,_,rfl,rfl,.inr ⟨dB.of (s6 _ _ h5'),dB.of h6⟩,.inr (.inr ⟨rfl,rfl⟩),?_⟩;rw[zg rfl];change⟨s35.trans s6,_,_,rfl⟩
 ·rintro σ H4 ⟨s4,w3,w4,rfl⟩
  exists cT,?_;right;rename_i t0 H5 s5 h5';have s35:=s4.trans s5;exists sa,S,o,rfl,sc.mono s35,rpd,(by have:=D.rp.1;omega),b1,nofun,fun j hj=>(D.ju j hj).2,bok,lnd,fun D6 us bs H6 s6 h6 bin bl6 rl6=>?_;have tok:=JY lnd bin;exists⟨_,aL.of h6⟩,?_;refine dQ (K:=K) (a:=D6) (xs:=us) (fun i σ H'=>∃(q:Addr) (w3 w6 w7:Option V),aB H6 H'/\H' q=some (fR (DJ S (bs.take i)))/\σ=[some (.ref a),some (.ref p),some (.ref sa),w3,w4,some (.ref q),w6,w7]) ⟨t0,w3,none,none,aB.refl _,s6 _ _ h5',rfl⟩ (fun i σ H' _ h=>by obtain⟨_,_,_,_,s,_⟩:=h;exact aL.of (s _ _ h6)) ?_ ?_
  ·rintro i x σ H7 hx ⟨q,w3,w6,w7,s7,hq,rfl⟩
   obtain⟨i',hi',aA,qA,cA,bA,rfl,haA,hqA,hbA⟩:=rl6.at hx;obtain⟨hi,e⟩:=zy.mp hi';rw[List.getElem_range] at e;subst e;rw[zR] at hi;have hbl:=bin bA (zC hbA);obtain⟨⟨t1,t2⟩,t3,t4⟩:=PQ (tok i) nofun;have rdt:=(tok i).1;refine⟨aA,_,rfl,dB.of (s7 _ _ haA),rfl,?_⟩;refine⟨_,_,rfl,⟨_,_,rfl,⟨_,_,rfl,⟨rfl,?_⟩⟩⟩⟩;exists qA,_,_,rfl,s7 _ _ hqA,?_;exists qA,q,_,_,rfl,rfl,.inr ⟨dB.of (s7 _ _ hqA),dB.of hq⟩,.inr (.inr ⟨rfl,rfl⟩),?_;rw[zg rfl];have s37:=(s35.trans s6).trans s7;have h17:=s37 _ _ h1;exists bl,bv,S,ub,bA,rfl,s37 _ _ h5,ilb.mono s37,iub.mono s37,hbl,D.bd,fun q8 H8 s8 h8=>?_;exists cT,?_;intros l9 H9 s9 h9;exists l9,q,q8,_,_,rfl,h9,(s8.trans s9) _ _ hq,s9 _ _ h8,rdt,t2,t4,(lnd bA hbl).1,fun r Ha sa' ha=>?_;change⟨r,_,_,_,((s7.trans s8).trans s9).trans sa',by rw[cZ hbA,uG];exact ha,rfl⟩
  ·rintro σ H7 ⟨q,w3,w6,w7,s7,hq,rfl⟩
   change kk _
end
def l1 {α:Type} {n:Nat} {P:List α->Prop} {us:List α} (h:us.length=n+1) (k:∀u r,r.length=n->P (u::r)):P us:=match us,h with
 | u::r,h=>k u r (Nat.succ.inj h)
def l0 {α:Type} {P:List α->Prop} {us:List α} (h:us.length=0) (k:P []):P us:=match us,h with
 | [],_=>k
def mh {K:yB} {h:Heap} {mg:Str->Option Value} {x:Str} {st:Stmt} {f:Addr} {od an:Option Addr} {sl:Array (Option Value)} {oc kV dc pm cd ct:Value} {p0:Str} (X:K.In h) (G:h.Ns mainGlobals mg) (a:PySem.W.nsIn K mainGlobals x=some (some (.ref f))<|>qn_) (l:K.lookup f=some ⟨oc,od,.func (PySem.W.fnOf x x (dt st) (cF st) (aq st) .none kV dc pm an cd ct),sl⟩<|>qn_) (c:PySem.W.codeIn K cd x=true<|>qn_) (k:PySem.W.keepIn K (.ref f)=true<|>qn_)
  (hb:(∀(kV dc pm:Value) (an:Option Addr) (cd ct u0:Value),bindArgs (PySem.W.fnOf x x (dt st) (cF st) (aq st) .none kV dc pm an cd ct) ⟨[u0],[]⟩=pure [(p0,u0)])<|>qo_) :
  Df K mg x st f (PySem.W.fnOf x x (dt st) (cF st) (aq st) .none kV dc pm an cd ct) [p0]:=
 ⟨lz l c k,PySem.W.mg_of X G a,(lz l c k).binds (ps:=[p0]) fun kV dc pm an cd ct us hl=>by
  apply l1 hl;intro u0 r h;apply l0 h;exact hb kV dc pm an cd ct u0⟩
def lK {K:yB} {h:Heap} {mg:Str->Option Value} {x:Str} {st:Stmt} {f:Addr} {od an:Option Addr} {sl:Array (Option Value)} {oc kV dc pm cd ct:Value} {p0 p1:Str} (X:K.In h) (G:h.Ns mainGlobals mg) (a:PySem.W.nsIn K mainGlobals x=some (some (.ref f))<|>qn_) (l:K.lookup f=some ⟨oc,od,.func (PySem.W.fnOf x x (dt st) (cF st) (aq st) .none kV dc pm an cd ct),sl⟩<|>qn_) (c:PySem.W.codeIn K cd x=true<|>qn_) (k:PySem.W.keepIn K (.ref f)=true<|>qn_)
  (hb:(∀(kV dc pm:Value) (an:Option Addr) (cd ct u0 u1:Value),bindArgs (PySem.W.fnOf x x (dt st) (cF st) (aq st) .none kV dc pm an cd ct) ⟨[u0,u1],[]⟩=pure [(p0,u0),(p1,u1)])<|>qo_) :
  Df K mg x st f (PySem.W.fnOf x x (dt st) (cF st) (aq st) .none kV dc pm an cd ct) [p0,p1]:=
 ⟨lz l c k,PySem.W.mg_of X G a,(lz l c k).binds (ps:=[p0,p1]) fun kV dc pm an cd ct us hl=>by
  apply l1 hl;intro u0 r h;apply l1 h;intro u1 r h;apply l0 h;exact hb kV dc pm an cd ct u0 u1⟩
def RW {K:yB} {h:Heap} {mg:Str->Option Value} {x:Str} {st:Stmt} {f:Addr} {od an:Option Addr} {sl:Array (Option Value)} {oc kV dc pm cd ct:Value} {p0 p1 p2:Str} (X:K.In h) (G:h.Ns mainGlobals mg) (a:PySem.W.nsIn K mainGlobals x=some (some (.ref f))<|>qn_) (l:K.lookup f=some ⟨oc,od,.func (PySem.W.fnOf x x (dt st) (cF st) (aq st) .none kV dc pm an cd ct),sl⟩<|>qn_) (c:PySem.W.codeIn K cd x=true<|>qn_) (k:PySem.W.keepIn K (.ref f)=true<|>qn_)
  (hb:(∀(kV dc pm:Value) (an:Option Addr) (cd ct u0 u1 u2:Value),bindArgs (PySem.W.fnOf x x (dt st) (cF st) (aq st) .none kV dc pm an cd ct) ⟨[u0,u1,u2],[]⟩=pure [(p0,u0),(p1,u1),(p2,u2)])<|>qo_) :
  Df K mg x st f (PySem.W.fnOf x x (dt st) (cF st) (aq st) .none kV dc pm an cd ct) [p0,p1,p2]:=
 ⟨lz l c k,PySem.W.mg_of X G a,(lz l c k).binds (ps:=[p0,p1,p2]) fun kV dc pm an cd ct us hl=>by
  apply l1 hl;intro u0 r h;apply l1 h;intro u1 r h;apply l1 h;intro u2 r h;apply l0 h;exact hb kV dc pm an cd ct u0 u1 u2⟩
def Tq {K:yB} {h:Heap} {mg:Str->Option Value} {x:Str} {st:Stmt} {f:Addr} {od an:Option Addr} {sl:Array (Option Value)} {oc kV dc pm cd ct:Value} {p0 p1 p2 p3:Str} (X:K.In h) (G:h.Ns mainGlobals mg) (a:PySem.W.nsIn K mainGlobals x=some (some (.ref f))<|>qn_) (l:K.lookup f=some ⟨oc,od,.func (PySem.W.fnOf x x (dt st) (cF st) (aq st) .none kV dc pm an cd ct),sl⟩<|>qn_) (c:PySem.W.codeIn K cd x=true<|>qn_) (k:PySem.W.keepIn K (.ref f)=true<|>qn_)
  (hb:(∀(kV dc pm:Value) (an:Option Addr) (cd ct u0 u1 u2 u3:Value),bindArgs (PySem.W.fnOf x x (dt st) (cF st) (aq st) .none kV dc pm an cd ct) ⟨[u0,u1,u2,u3],[]⟩=pure [(p0,u0),(p1,u1),(p2,u2),(p3,u3)])<|>qo_) :
  Df K mg x st f (PySem.W.fnOf x x (dt st) (cF st) (aq st) .none kV dc pm an cd ct) [p0,p1,p2,p3]:=
 ⟨lz l c k,PySem.W.mg_of X G a,(lz l c k).binds (ps:=[p0,p1,p2,p3]) fun kV dc pm an cd ct us hl=>by
  apply l1 hl;intro u0 r h;apply l1 h;intro u1 r h;apply l1 h;intro u2 r h;apply l1 h;intro u3 r h;apply l0 h;exact hb kV dc pm an cd ct u0 u1 u2 u3⟩
def walk {l:PySem.W.OpenLaw} {q:Program} {loose:List Str} {XP:(Str->Option Value)->Heap->Prop} {YP:World->Heap->Prop} {d:DefRec} {K:Params->yB} (hn:l.most=some 63) (hdf:d.params.defaults=[]) (hdn:d.name ="law")
  (hY:∀(w:World) (h:Heap),YP w h->(K w.params).In h)
  (F:∀(w:World) (mg:Str->Option Value) (h:Heap),(K w.params).In h->h.Ns mainGlobals mg->
   ∃T:Txt (K w.params) mg,Dk l.prog w (K w.params) T/\∀(s:Shared) (v:Value),BindsTo s T.N0 ⟨[v],[]⟩ [("_law_script",v)]) :
  PySem.W.WalkO q loose XP YP l.row.toRowW d [] (fun f vs=>PySem.call f vs):=
 L2.Oz (n:=63) (k:=9) (x:="_law_script") (CX:=fun _=>Ie) (sp:=fun w=>MG (K w.params)) hn ∅ hdf ⟨rfl,∅,∅⟩ hY
  (fun w mg fa h kx hns hm=>by
   obtain⟨T,B,hb⟩:=F w mg h kx hns;rw[hdn] at hm;have e:=hm.symm.trans T.Uw.g;cases e;exact⟨T.N0,hb,fun base _ _=>Q8 T B T.cf⟩) (fun _ _ a ns hl _ hS=>⟨a,ns,rfl,hS,hl,fun _=>rfl⟩) fun _ _ _ _ _ z=>z
def UQ {P:Program} {w:World} {K:yB} {a:Addr} {n:Nat} {t0 t1 t2 t3 t4 t5 t6 t7 t8:Tok} {f0 f1 f2 f3 f4 f5 f6 f7 f8:Addr} {s0 s1 s2 s3 s4 s5 s6 s7 s8:Str} (r:K.lookup a=some {cls:=.type "dict",data:=.dict #[⟨PyData.keyHash w.params s0,.str s0 t0,.ref f0⟩,⟨PyData.keyHash w.params s1,.str s1 t1,.ref f1⟩,⟨PyData.keyHash w.params s2,.str s2 t2,.ref f2⟩,⟨PyData.keyHash w.params s3,.str s3 t3,.ref f3⟩,⟨PyData.keyHash w.params s4,.str s4 t4,.ref f4⟩,⟨PyData.keyHash w.params s5,.str s5 t5,.ref f5⟩,⟨PyData.keyHash w.params s6,.str s6 t6,.ref f6⟩,⟨PyData.keyHash w.params s7,.str s7 t7,.ref f7⟩,⟨PyData.keyHash w.params s8,.str s8 t8,.ref f8⟩] n}) (y:(a == sysModules)=false) (nd:List.Nodup [s0,s1,s2,s3,s4,s5,s6,s7,s8]) :
  KD P w K a [(s0,.ref f0),(s1,.ref f1),(s2,.ref f2),(s3,.ref f3),(s4,.ref f4),(s5,.ref f5),(s6,.ref f6),(s7,.ref f7),(s8,.ref f8)]:=SA (l:=[(s0,t0,f0),(s1,t1,f1),(s2,t2,f2),(s3,t3,f3),(s4,t4,f4),(s5,t5,f5),(s6,t6,f6),(s7,t7,f7),(s8,t8,f8)]) r y nd
def U6 {K:yB} {a:Addr} {rd:Option Addr} {rs:Array (Option Value)} {rn:Nat} {t0 t1 t2 t3 t4 t5:Tok} {x0 x1 x2 x3 x4 x5:Int} (r:K.lookup a=some ⟨.type "tuple",rd,.seq #[.int x0 t0,.int x1 t1,.int x2 t2,.int x3 t3,.int x4 t4,.int x5 t5] rn,rs⟩) (H:Hp):dB K H a [.int x0,.int x1,.int x2,.int x3,.int x4,.int x5]:=
 .inr ⟨_,_,_,r,rfl,rfl,by show 6<=sizeLine;decide,.cons ⟨_,rfl⟩ (.cons ⟨_,rfl⟩ (.cons ⟨_,rfl⟩ (.cons ⟨_,rfl⟩ (.cons ⟨_,rfl⟩ (.cons ⟨_,rfl⟩ (.nil))))))⟩
def U9 {K:yB} {x y:Str} {st:Stmt} {f:Addr} {od an:Option Addr} {sl:Array (Option Value)} {oc kV dc pm cd ct:Value} {p:Str} (l:K.lookup f=some ⟨oc,od,.func (PySem.W.fnOf x y (dt st) (cF st) (aq st) .none kV dc pm an cd ct),sl⟩<|>qn_) (c:PySem.W.codeIn K cd y=true<|>qn_) (k:PySem.W.keepIn K (.ref f)=true<|>qn_)
  (hb:(∀(kV dc pm:Value) (an:Option Addr) (cd ct u:Value),bindArgs (PySem.W.fnOf x y (dt st) (cF st) (aq st) .none kV dc pm an cd ct) ⟨[u],[]⟩=pure [(p,u)])<|>qo_):UZ K x y st f (PySem.W.fnOf x y (dt st) (cF st) (aq st) .none kV dc pm an cd ct) [p]:=
 ⟨lz l c k,(lz l c k).binds (ps:=[p]) fun kV dc pm an cd ct us hl=>match us,hl with | [u],_=>hb kV dc pm an cd ct u⟩
def O9 {K:yB} {C:Addr} {f:Str} (e:PySem.W.findIn K (.ref C) f=some none<|>qn_):fi K C f:=e
def xJ {K:yB} {h:Heap} {mg:Str->Option Value} {x:Str} {v:Value} (X:K.In h) (G:h.Ns mainGlobals mg) (e:PySem.W.nsIn K mainGlobals x=some (some v)<|>qn_):mg x=some v:=PySem.W.mg_of X G e
def Fz {K:yB} {h:Heap} {mg:Str->Option Value} {x:Str} (X:K.In h) (G:h.Ns mainGlobals mg) (e:PySem.W.nsIn K mainGlobals x=some none<|>qn_):mg x=none:=PySem.W.mg_none_of X G e
end K22
set_option genInjectivity false in
structure PySem.W.Fast:Prop where
 (tw9371326375430996137 tw5641109738439283879 tw16991519050266345445 tw7557813950871444011 tw11309500125548518920 tw10603298652715212660 tw4874363233264529013 tw3616058911159528962 tw12377316469424988431 tw16246949682725035616 tw16013688296477864448 tw10770741489053877314 tw6070626476659586595 tw9723712478493024794 tw4850311172864654633 tw4040529067131497712 tw5632147407556220843 tw16282413540871513277 tw4406006902261943109 tw902077919802696583 tw11172375600702058752 tw10409889082886078102 tw16223784291905406895 tw954292838176366594 tw6193609388215974994 tw12047174253245630315 tw2706194705062989288 tw14022786908849128633 tw4718028398019946779 tw14478327146394535115 tw13690926183513808646 tw16605769842101857084 tw6880920945148709309 tw3955387302924223550 tw14982238723376540559 tw18054553410434846702 tw15913818455863078476 tw4595480156031224012 tw671179390265289361 tw17845469595822045445 tw3145831156497962893 tw17625945359852378 tw11101193016737891000 tw13842273341996065125 tw11886022740053832797 tw17385175005253232540 tw12623773506502828874 tw9180989269914435782 tw16897032065040912633 tw2061086826754409044 tw17328072431428761020 tw2802170113909310312 tw18136608638829192190 tw18024545646243025441 tw13065979567566562759 tw12797240782774527138 tw795348291760689339 tw15161610506850858127 tw17021717253097055805 tw13775729946816867415 tw14829841564765792543 tw15207348542453562564 tw18012903894350966810 tw11211507236997700468 tw2761490973748319389 tw11811800209317370293 tw6183478445494419548 tw8714457641772291577 tw8680929305126384564 tw18107003317172748525 tw11099896859135152422 tw4716747720649338689 tw14201993193931250665 tw10030472238344784357 tw12691949001869028119 tw2754447790947964397 tw14777018860384048678 tw17006640481681978175 tw10604349691513298133 tw13566317351772195878 tw8975730938955330585 tw12899255940375615384 tw6141648168832954876 tw1169424326535238453 tw17959881358418392453 tw2535920624221277575 tw11459887091635911940 tw4759162287064857780 tw2236357240937788434 tw6517421298013819138 tw8272941301100317562 tw6249906645381539923 tw4710422789436193581 tw6902064711052861404 tw15182598690571824544 tw18299155443688955420 tw9621518802759200312 tw6083941947403548736 tw4036465965442842882 tw11900580733138806925 tw5662737745181081422 tw16492630356105936311 tw1015825453198463248 tw7058628276293062207 tw17132769926255119206 tw11484981984892427807 tw8158946434750687440 tw5616792846006446482 tw17313938504225129166 tw12486986012130612065 tw13136735289911687485 tw14809353249962205075 tw15854657117775480899 tw10355353976673596881 tw7623947371451268543 tw8194510593961257061 tw5174133677010769750 tw9026668842473814433 tw16029084171717254525 tw5919428208210371592 tw13524656593887932650 tw3536286104988063327 tw7042476429163433072 tw7140755414913790082 tw15190064090039392811 tw14533991029633486012 tw6625824724219855331 tw539128468928876186 tw333924405781398058 tw10701049474752695226 tw17001240879458681195 tw13645723098712111564 tw11835496171689673399 tw17776703757000718849 tw2956847147803648076 tw4154686424738288112 tw13737578858259211359 tw16320175353529204847 tw8759904837845353877 tw1821290320437869864 tw2278451095757761604 tw2476665537815662128 tw2137421165041610699 tw15088579251668752269 tw255239337440956894 tw1117871438576530594 tw1363148677678838197 tw15585068248666999367 tw2598881845458520977 tw16624862223546211237 tw17221061666833109635 tw10887750874936655248 tw2206616444521572913 tw4184729029909734078 tw962107486976901337 tw7069815430034478408 tw3113220767731302980 tw10493897006188166546 tw13561800607621383816 tw11189228321195259235 tw5785758142803439041 tw14337137502249415535 tw10837534066383357749 tw13437140518096674541 tw16908766310910686971 tw1014541239493996380 tw10118110736632552911 tw9341155192490141814 tw2833740606926514629 tw2790369996429320210 tw11710296338326998932 tw10602647949023677120 tw9403725719157871323 tw13539818935588500487 tw15993985691430201401 tw8631801535172286730 tw3207476404606276672 tw13786994416180609798 tw7656614429367515868 tw11795751870065623605 tw6106460124739348232 tw9293709105153602696 tw3444019371797291710 tw4815580676277455655 tw2857045915234920875 tw6176231437337035198 tw3412510428362005455 tw2987749446199056440 tw15324738950212388282 tw1232252741815486075 tw7884423379983486288 tw11565449512569949359 tw2315760846879747867 tw8203615468780516405 tw2161595581948232196 tw15795733729801352622 tw11642750277848785909 tw4320740180018472536 tw4671507041860871118 tw13386135010913383424 tw622257500901903583 tw16371610356439802687 tw4873037788373464107 tw7725303935752325936 tw15808401131814314230 tw12112132734343489420 tw17445738437490370260 tw1082631071711812851 tw15433266939222188896 tw445985837618036082 tw13583297062013730207 tw18315106116084026858 tw10383594874543599012 tw3499271938051844434 tw15646859111269700946 tw12377948093688903259 tw15754329244363683185 tw17282377010441748428 tw12634918051517218211 tw11877662600162787482 tw11213887232711807755 tw16337192125462651863 tw10788377594307767552 tw2837852963707077751 tw9655732765875658444 tw6592250721533371236 tw15915584609736336507 tw2706184974147067551 tw2618415575933630270 tw8494906884809068763 tw2632789003813831820 tw4713175418227820712 tw4201820025585746167 tw8564799011123126022 tw17444122768988592503 tw800353951495011053 tw15451289148876774329 tw968221826709081258 tw12242056618313478582 tw15708674503762211956 tw17552729399293770303 tw16255552539036780748 tw17377080219337932144 tw9176379128749380588 tw5428795792315550818 tw11564224376919511986 tw10214716164983502697 tw1657138655367717194 tw2360275509647388507 tw17045595964472300795 tw3578201131906334777 tw17382468006261667496 tw8103304207205374074 tw12114033287903937892 tw9447825625816224426 tw17488920265530435934 tw12989329351511878024 tw17803972285907603281 tw5144558649170660540 tw9539123640300150358 tw7012525230107376730 tw6508415029537320956 tw5852923452587840610 tw12679712541824594148 tw7942339750051895442 tw11801091751664482132 tw14393509010524895700 tw7805444576258914891 tw3904515052061426378 tw14631185322141172556 tw3025128314131371367 tw10855539013826760763 tw330943540682768573:True)
open PySem PySem.W PyProof.Rows L2 Sc K22
set_option maxRecDepth 100000 in
set_option maxHeartbeats 0 in
theorem PySem.Challenge.cw_partsmith_k20_times_holds : PySem.Challenge.rw_partsmith_k20_times.Holds := by
  w_on; o_law; k_head; (case hw => w_witness2)
  k_fill
  refine K22.walk (l := PySem.Challenge.rw_partsmith_k20_times) rfl rfl rfl (fun w h Y => PySem.W.kIn_of Y) ?F
  case F =>
    intro w mg h X G
    exact ⟨⟨_, _, _, _, _, _, _, _, _, _, _, _, _, _, _, _, _, _, _, _, _, _, _, _, _, _, _, _, _, _, _, _, _, _, _, _, _, _, _, _, _, _, _, _, _, _, _, _, _, _, _, _, _, _, _, _, _, _, _, _, _, _, _, _, _, _, _, _, _, _, _, _, _, _, _, _, _, _, _, _, _, _, _, _, _, _, _, _, _, _, _, _, _, _, _, _, _, _, _, _, _, _, _, _, _, _, _, _, _, _, _, _, _, _, _, _, _, _, _, _, _, _, _, _, _, _, _, _, _, _, _, _, _, _, _, _, _, _, _, _, _, _, _, _, _, _, _, _, _, _, _, _, _, _, _, _, _, _, _, _, _, _, _, _, _, _, _, _, _, _, _, _, _, _, _, _, _, _, _, _, _, _, _, _, _, _, _, _, _, _, _, _, _, _, _, _, _, _, _, _, _, _, _, _, _, _, _, _, _, _, lK X G, lK X G, lK X G, lK X G, lK X G, lK X G, mh X G, lK X G, mh X G, mh X G, mh X G, mh X G, mh X G, mh X G, RW X G, mh X G, lK X G, mh X G, mh X G, mh X G, mh X G, mh X G, mh X G, mh X G, mh X G, mh X G, mh X G, mh X G, mh X G, mh X G, mh X G, mh X G, mh X G, lK X G, lK X G, lK X G, lK X G, lK X G, RW X G, lK X G, lK X G, lK X G, mh X G, lK X G, lK X G, lK X G, lK X G, lK X G, lK X G, lK X G, lK X G, lK X G, lK X G, RW X G, lK X G, RW X G, mh X G, lK X G, lK X G, lK X G, lK X G, Tq X G, mh X G, mh X G, lK X G, lK X G, lK X G, lK X G, mh X G, mh X G, lK X G, lK X G, RW X G, Tq X G, Tq X G, Tq X G, lK X G, lK X G, lK X G, RW X G, mh X G, lK X G, lK X G, mh X G, mh X G, mh X G, mh X G, mh X G, mh X G, mh X G, mh X G, mh X G, xJ X G, ⟨by k_is, by k_is, by k_is, by k_is⟩, U9, xJ X G, xJ X G, xJ X G, xJ X G, xJ X G, xJ X G, xJ X G, xJ X G, xJ X G, xJ X G, xJ X G, xJ X G, U6 (by k_is), xJ X G, xJ X G, xJ X G, xJ X G, xJ X G, xJ X G, xJ X G, xJ X G, xJ X G, xJ X G, Fz X G, Fz X G, Fz X G, Fz X G, Fz X G, Fz X G, Fz X G, Fz X G, Fz X G, Fz X G, Fz X G, Fz X G, Fz X G, Fz X G, Fz X G, Fz X G, Fz X G, Fz X G, by k_is, by k_exc, xJ X G, ⟨⟨by k_is, by k_is, by k_is, by k_is⟩, O9, O9, O9, O9, O9, O9, O9, O9, O9⟩⟩, ⟨UQ (by k_is) (by rfl) (show List.Nodup [("player" : Str), ("instrument" : Str), ("staff" : Str), ("bar" : Str), ("upbeat" : Str), ("holds" : Str), ("notes" : Str), ("repeat" : Str), ("jump" : Str)] by decide +kernel), UQ (by k_is) (by rfl) (show List.Nodup [("player" : Str), ("instrument" : Str), ("staff" : Str), ("bar" : Str), ("upbeat" : Str), ("holds" : Str), ("notes" : Str), ("repeat" : Str), ("jump" : Str)] by decide +kernel)⟩, fun s v => .of_eq rfl⟩
