import PyProof.Rows.All
import KE.KNestM
import Wide.FinOn
import PyProof.EqAt
import PyProof.EqKinds
import PyProof.TupleCall
import PyProof.ZipIter
import PyProof.WalksMore
import PyProof.CompFree
import PyProof.NeKinds
import KE.KRevIter
import PyProof.Rows.Range3
import KE.KIntText
import OpenK.KOwn
import PyProof.NsDelKeeps
import KE.KIsAll
import PyProof.CompMap
import PyProof.Cells
import PyProof.ConsumeWalk
import PyProof.SumWalk
import PyProof.Rows.SortShell
import PyProof.MeetsStr
import PyProof.StrOps2
import PyProof.DictWalks
import PyProof.Rows.SetFrom
import PyProof.SetRoads
import PyProof.ListRange
import PyProof.ListNew
import PySem.Challenge.RW_partsmith_k27_cues
local macro_rules|`(tactic|omega)=>`(tactic|lia)
local macro_rules|`(nofun)=>`(by omega)
local macro_rules|`(∅)=>`(by decide)
local macro_rules|`(↑$s)=>`(($s).heap.objs.size)
local macro_rules|`($a <|> $b)=>`(autoParam $a $b)
set_option compiler.extract_closed false
set_option Elab.async false
set_option linter.all false
set_option maxRecDepth 100000
set_option maxHeartbeats 8000000
def qa_1(h:True:=by first | exact .inl rfl | exact .inr rfl | assumption):=h
def qa_:=qa_1._auto_1
def qb_1(h:True:=by decide):=h
def qb_:=qb_1._auto_1
def qc_1(h:True:=by first | exact Gs _ (by decide) (by decide) | rfl):=h
def qc_:=qc_1._auto_1
def qd_1(h:True:=by intro _;rfl):=h
def qd_:=qd_1._auto_1
def qe_1(h:True:=by rfl):=h
def qe_:=qe_1._auto_1
def qf_1(h:True:=by with_unfolding_all rfl):=h
def qf_:=qf_1._auto_1
def qg_1(h:True:=by first | exact Or.inl rfl | exact Or.inr (Or.inl rfl) | exact Or.inr (Or.inr rfl)):=h
def qg_:=qg_1._auto_1
def qh_1(h:True:=by repeat constructor):=h
def qh_:=qh_1._auto_1
def qi_1(h:True:=by first | exact Or.inl rfl | exact Or.inr rfl):=h
def qi_:=qi_1._auto_1
def qj_1(h:True:=by exact fun _ _=>rfl):=h
def qj_:=qj_1._auto_1
def qk_1(h:True:=by intro vs H Q E h;first | (obtain⟨_,rfl,_⟩:=h;rfl) | (cases h;subst_vars;rfl)):=h
def qk_:=qk_1._auto_1
def ql_1(h:True:=by decide +kernel):=h
def ql_:=ql_1._auto_1
def qm_1(h:True:=by repeat' (first | exact trivial | exact .inl rfl | exact rfl | constructor)):=h
def qm_:=qm_1._auto_1
def qn_1(h:True:=by k_is):=h
def qn_:=qn_1._auto_1
def qo_1(h:True:=by intros;rfl):=h
def qo_:=qo_1._auto_1
def za:=@List.length_map
def zb:=@List.getElem?_eq_getElem
def zd:=@decide_eq_false
def ze:=@decide_eq_true
def zg:=@List.length_append
def zh:=@List.map_cons
def zj:=@List.map_append
def zk:=@Nat.le_refl
def zm:=@List.mem_cons_of_mem
def zp:=@List.mem_cons_self
def zr:=@Int.emod_lt_of_pos
def zt:=@List.length_cons
def zv:=@Int.emod_nonneg
def zw:=@List.getElem?_eq_some_iff
def zy:=@List.mem_singleton
def zA:=@List.map_map
def zB:=@List.mem_of_getElem?
def zC:=@List.mem_cons
def zD:=@List.not_mem_nil
def zE:=@List.append_assoc
def zF:=@List.mem_append
def zG:=@List.mem_map
def zH:=@List.mem_append_right
def zI:=@List.mem_append_left
def zJ:=@List.getElem?_map
def zK:=@Bool.false_ne_true
def zL:=@Nat.le_trans
def zM:=@List.take_length
def zN:=@Bool.and_eq_true
def zO:=@List.mem_map_of_mem
def zP:=@List.length_take
def zQ:=@List.length_range
def zR:=@List.nodup_append
def zT:=@List.pairwise_append
def zU:=@List.append_nil
def zV:=@Int.ediv_nonneg
def zW:=@Int.ediv_le_self
def zX:=@List.foldl_append
def zY:=@List.take_append_drop
def zZ:=@List.getElem?_append_right
def z9:=@List.flatten_cons
def ya:=@List.size_toArray
def yb:=@Nat.lt_of_lt_of_le
def yc:=@List.nodup_cons
def yd:=@of_decide_eq_true
def ye:=@Nat.lt_irrefl
def yf:=@Nat.zero_le
def yg:=@Nat.le_of_lt
def yh:=@Nat.ne_of_gt
def yi:=@Nat.ne_of_lt
def yj:=@Option.some.inj
def yk:=@List.getElem_mem
def ym:=@List.map_nil
def yn:=@List.any_eq_true
def yo:=@List.all_eq_true
def yp:=@List.lookup_cons
def yq:=@List.length_pos_iff
def yr:=@List.length_eq_zero_iff
def yt:=@PySem.wpAny_bind
def yu:=@PySem.Heap.get?_push_of_some
def yv:=@PySem.wpAny_pure
def yw:=@PySem.Heap.get?_push_size
def yx:=@PySem.Heap.lt_size
def yy:=@PySem.Heap.get?_update_other
def yz:=@PySem.Heap.get?_update_self
abbrev yA:=PySem.W.Frag
def yB:=@PySem.sizeLine_eq
def yC:=@PySem.F.plainAttrs_list
def yD:=@PySem.F.type_list_append
def yE:=@PySem.F.slot_list_append
def yF:=@PySem.F.plainAttrs_str
def yG:=@PySem.F.type_str_join
def yH:=@PySem.F.slot_str_join
def yI:=@PySem.F.type_str_split
def yJ:=@PySem.F.slot_str_split
def yK:=@Int.eq_ofNat_of_zero_le
def yL:=@PyProof.Rows.callWith_type1
namespace L2
open PySem PySem.Spec PyProof.Rows
abbrev Key:=Sum Int Str
def CO:Key->Value->Bool
 | .inl k,v=>Value.isInt k v
 | .inr x,v=>Value.isStrOf x v
def Ub (w:World):Key->Int
 | .inl k=>hashInt k
 | .inr x=>hashStr w x
def dh:∀{k:Key} {v:Value},CO k v=true->(∃i t,k=Sum.inl i/\v=Value.int i t)\/(∃x t,k=Sum.inr x/\v=Value.str x t)
 | .inl i,v,h=>by
  obtain⟨t,e⟩:=Value.isInt_shape (k:=i) (v:=v) h;exact .inl ⟨i,t,rfl,e⟩
 | .inr x,v,h=>by
  obtain⟨t,e⟩:=Value.isStrOf_shape (x:=x) (v:=v) h;exact .inr ⟨x,t,rfl,e⟩
def K0 (i:Int) (t:Tok):CO (.inl i) (.int i t)=true:=by simp[CO,Value.isInt]
def pj (x:Str) (t:Tok):CO (.inr x) (.str x t)=true:=by simp[CO,Value.isStrOf]
def Q3 (a b:Int):decide ((Sum.inl a:Key)=Sum.inl b)=(a == b):=by
 by_cases e:a=b
 ·subst e;simp
 ·have h:¬(Sum.inl a:Key)=Sum.inl b:=fun q=>e (Sum.inl.inj q)
  rw[zd h];exact(beq_eq_false_iff_ne.mpr e).symm
def Q0 (a b:Str):decide ((Sum.inr a:Key)=Sum.inr b)=decide (a=b):=by
 by_cases e:a=b
 ·subst e;simp
 ·have h:¬(Sum.inr a:Key)=Sum.inr b:=fun q=>e (Sum.inr.inj q)
  rw[zd h,zd e]
def Q2 (a:Int) (b:Str):decide ((Sum.inl a:Key)=Sum.inr b)=false:=zd (fun q=>nomatch q)
def Q1 (a:Str) (b:Int):decide ((Sum.inr a:Key)=Sum.inl b)=false:=zd (fun q=>nomatch q)
def df (prog:Program) (w:World):PySem.KeyKind prog w Key where
 is:=CO
 hash:=Ub w
 inj:=fun v a b ha hb=>by
  rcases dh ha with⟨i,t,rfl,rfl⟩ | ⟨x,t,rfl,rfl⟩
  ·rcases dh hb with⟨j,u,rfl,e⟩ | ⟨y,u,rfl,e⟩
   ·injection e with e1 _;rw[e1]
   ·exact nomatch e
  ·rcases dh hb with⟨j,u,rfl,e⟩ | ⟨y,u,rfl,e⟩
   ·exact nomatch e
   ·injection e with e1 _;rw[e1]
 byValue:=fun k v h=>by
  rcases dh h with⟨i,t,rfl,rfl⟩ | ⟨x,t,rfl,rfl⟩ <;> rfl
 pyHash:=fun hv h=>by
  rcases dh hv with⟨i,t,rfl,rfl⟩ | ⟨x,t,rfl,rfl⟩
  ·exact wpAny_pyHash_int h
  ·exact wpAny_pyHash_str h
 eqBool:=fun hu hv h=>by
  rcases dh hu with⟨i,t,rfl,rfl⟩ | ⟨x,t,rfl,rfl⟩
  ·rcases dh hv with⟨j,u,rfl,rfl⟩ | ⟨y,u,rfl,rfl⟩
   ·rw[Q3] at h;exact wpAny_eqBool_int h
   ·rw[Q2] at h;exact SeqAt.EqAt.int_str i t y u _ _ _ _ h
  ·rcases dh hv with⟨j,u,rfl,rfl⟩ | ⟨y,u,rfl,rfl⟩
   ·rw[Q1] at h;exact SeqAt.EqAt.str_int x t j u _ _ _ _ h
   ·rw[Q0] at h;exact wpAny_eqBool_str h
 «strs»:=fun k x t v h=>by
  rcases dh h with⟨i,u,rfl,e⟩ | ⟨y,u,rfl,e⟩
  ·exact nomatch e
  ·injection e with e1 _
   subst e1;cases v <;> rfl
def Gv (prog:Program) (w:World) (i:Int) (t:Tok):(df prog w).is (.inl i) (.int i t)=true:=K0 i t
def vH (prog:Program) (w:World) (x:Str) (t:Tok):(df prog w).is (.inr x) (.str x t)=true:=pj x t
end L2
namespace L2
open PySem PySem.Spec PyProof.Rows
inductive V where
 | bH | bl (b:Bool) | int (i:Int) | str (x:Str) | J8 (b:Array UInt8) | O4 (b:UInt64) | ref (a:Addr) | ty (n:String)
 deriving DecidableEq
def RelV:V->Value->Prop
 | .bH,u=>u=Value.none
 | .bl b,u=>u=Value.bool b
 | .int i,u=>∃t,u=Value.int i t
 | .str x,u=>∃t,u=Value.str x t
 | .J8 b,u=>∃t,u=Value.bytes b t
 | .O4 b,u=>∃t,u=Value.float b t
 | .ref a,u=>u=Value.ref a
 | .ty n,u=>u=Value.type n
abbrev Vals:List V->List Value->Prop:=Paired RelV
theorem Vals.length (r:Vals xs us):xs.length=us.length:=Paired.length r
theorem Vals.get:∀{xs:List V} {us:List Value} {i:Nat} {x:V},Vals xs us->xs[i]?=some x->∃u,us[i]?=some u/\RelV x u
 | _,_,_,_,.nil,e=>by simp at e
 | _,_,0,_,.cons r _,e=>by simp at e;subst e;exact⟨_,rfl,r⟩
 | _,_,i+1,x,.cons _ t,e=>by
  obtain⟨u,h1,h2⟩:=Vals.get (i:=i) (x:=x) t (by simpa using e);exact⟨u,by simpa using h1,h2⟩
theorem Vals.append:∀{xs ys:List V} {us ws:List Value},Vals xs us->Vals ys ws->Vals (xs++ys) (us++ws)
 | _,_,_,_,.nil,s=>s
 | _,_,_,_,.cons r t,s=>.cons r (Vals.append t s)
theorem Vals.take:∀{xs:List V} {us:List Value} (n:Nat),Vals xs us->Vals (xs.take n) (us.take n)
 | _,_,0,_=>.nil
 | _,_,_+1,.nil=>.nil
 | _,_,n+1,.cons r t=>.cons r (Vals.take n t)
theorem Vals.drop:∀{xs:List V} {us:List Value} (n:Nat),Vals xs us->Vals (xs.drop n) (us.drop n)
 | _,_,0,r=>r
 | _,_,_+1,.nil=>.nil
 | _,_,n+1,.cons _ t=>Vals.drop n t
def mw:Option V->Option Value->Prop
 | some v,some u=>RelV v u
 | none,none=>True
 | _,_=>False
def KV:List (κ×V)->List (κ×Value)->Prop:=Paired fun(p:κ×V) (q:κ×Value)=>p.1=q.1/\RelV p.2 q.2
def kV:Key->V
 | .inl i=>.int i
 | .inr x=>.str x
inductive HO where
 | lst (xs:List V)
 | tup (xs:List V)
 | dK (kvs:List (Key×V)) | dT (kvs:List (List Key×V))
 | set (S:Int->Bool) (n:Nat)
 | ins (C dx:Addr) (fs:List (Str×V))
 | own (x:Addr)
 | xd (fs:List (Str×V))
 | met (f x:Addr)
 | KC (lo hi:Int)
 | nF (o:Obj) (u:HO)
 | Mc (ps:Array Value)
 | ext (φ:Heap->Prop)
abbrev Hp:=Addr->Option HO
def upd (H:Hp) (a:Addr) (o:HO):Hp:=fun b=>if b=a then some o else H b
def aA:upd H a o a=some o:=by unfold upd;rw[if_pos rfl]
def aD (h:b≠a):upd H a o b=H b:=by unfold upd;rw[if_neg h]
def aZ {H:Hp} {a b:Addr} {o u:HO} (h:H a=some o) (h':H b=some u) (d:o≠u):a≠b:=by
 intro e;subst e;rw[h] at h';exact d (yj h')
def bo {H:Hp} {a b:Addr} {o:HO} (h:H a=some o) (h':H b=none):a≠b:=by
 intro e;subst e;rw[h] at h';cases h'
section
variable (P:Program) (w:World)
def cF (H:Hp) (h:Heap) (a:Addr):HO->Prop
 | .lst xs=>xs.length<=sizeLine/\∃(its:List Value) (n:Nat),Vals xs its/\h.get? a=some {cls:=.type "list",data:=.seq its.toArray n}
 | .tup xs=>xs.length<=sizeLine/\∃its:List Value,Vals xs its/\IsTup h a its.toArray
 | .dK kvs=>kvs.length<=sizeLine/\(a == sysModules)=false/\∃vs,KV kvs vs/\h.DictOf (df P w) a vs
 | .dT kvs=>kvs.length<=sizeLine/\(a == sysModules)=false/\∃xs:List (List Key×Addr×Value),
   Paired (fun(p:List Key×V) (q:List Key×Addr×Value)=>p.1=q.1/\H q.2.1=some (.tup (p.1.map kV))/\RelV p.2 q.2.2) kvs xs/\
   ∃o es ep,h.get? a=some o/\o.ExactDict/\o.data=.dict es ep/\es.toList=xs.map (entryOfKey (tupleKind (df P w)))/\(xs.map (·.1)).Nodup
 | .set S n=>h.SetOf (intKind P w) a S n
 | .ins C dx fs=>H dx=some (.own a)/\fs.length<=1000/\dx≠a/\h.get? a=some (PySem.W.instObj C dx)/\
   ∃mA,h.Ns1 dx mA/\(∀f,mw (fs.lookup f) (mA f))/\PySem.Within mA (fs.map (·.1))
 | .own _=>∃o,h.get? a=some o
 | .xd fs=>∃mA,h.Ns1 a mA/\∀f,mw (fs.lookup f) (mA f)
 | .KC lo hi=>∃t u v,h.get? a=some {cls:=.type "range",data:=.fields #[.int lo t,.int hi u,.int 1 v]}
 | .nF o u=>h.get? a=some o/\cF H h a u
 | .Mc ps=>h.get? a=some {cls:=.none,data:=.fields ps}
 | .met f x=>h.get? a=some (PySem.W.methodObj (.ref f) (.ref x))
 | .ext φ=>φ h/\(∃o,h.get? a=some o)/\∀h1 h2:Heap,φ h1->(∀o,h1.get? a=some o->h2.get? a=some o)->φ h2
def rD (H:Hp) (h:Heap):Prop:=∀a o,H a=some o->cF P w H h a o
end
section
variable {P:Program} {w:World} {H H':Hp} {h h':Heap} {a:Addr} {o:HO}
theorem cF.lt (x:cF P w H h a o):a<h.objs.size:=by
 cases o with
 | lst xs=>obtain⟨_,_,_,_,e⟩:=x;exact yx e
 | tup xs=>obtain⟨_,_,_,p⟩:=x;exact p.lt
 | dK kvs=>obtain⟨_,_,_,_,o,_,_,e,_⟩:=x;exact yx e
 | dT kvs=>obtain⟨_,_,_,_,o,_,_,e,_⟩:=x;exact yx e
 | set S n=>obtain⟨o,_,_,_,e,_⟩:=x;exact yx e
 | ins C dx fs=>obtain⟨_,_,_,e,_⟩:=x;exact yx e
 | own y=>obtain⟨_,e⟩:=x;exact yx e
 | xd fs=>obtain⟨_,⟨_,_,_,e,_⟩,_⟩:=x;exact yx e
 | KC lo hi=>obtain⟨_,_,_,e⟩:=x;exact yx e
 | nF ob u=>obtain⟨e,_⟩:=x;exact yx e
 | Mc ps=>exact yx (show h.get? a=some _ from x)
 | met f y=>exact yx (show h.get? a=some _ from x)
 | ext φ=>obtain⟨_,⟨_,e⟩,_⟩:=x;exact yx e
theorem Paired.QW:∀{l₁:List α} {l₂:List β},Paired F l₁ l₂->(∀a b,F a b->G a b)->Paired G l₁ l₂
 | _,_,.nil,_=>.nil
 | _,_,.cons r t,f=>.cons (f _ _ r) (Paired.QW t f)
def cF.lH (x:cF P w H h a o) (k:∀b u,(b=a\/H b=some (.own a))->h.get? b=some u->h'.get? b=some u)
  (ho:∀b,H b=some (.own a)->H' b=some (.own a)) (ht:∀b xs,H b=some (.tup xs)->H' b=some (.tup xs)):cF P w H' h' a o:=by
 induction o with
 | lst xs=>obtain⟨z,its,n,r,e⟩:=x;exact⟨z,its,n,r,k _ _ (.inl rfl) e⟩
 | tup xs=>obtain⟨z,its,r,ob,e,c⟩:=x;exact⟨z,its,r,ob,k _ _ (.inl rfl) e,c⟩
 | dK kvs=>obtain⟨z,y,vs,r,ob,es,ep,e,c⟩:=x;exact⟨z,y,vs,r,ob,es,ep,k _ _ (.inl rfl) e,c⟩
 | dT kvs=>
  obtain⟨z,y,xs,r,ob,es,ep,e,c⟩:=x;exact⟨z,y,xs,Paired.QW r fun p q z=>⟨z.1,ht _ _ z.2.1,z.2.2⟩,ob,es,ep,k _ _ (.inl rfl) e,c⟩
 | set S n=>obtain⟨ob,es,ep,t,e,c⟩:=x;exact⟨ob,es,ep,t,k _ _ (.inl rfl) e,c⟩
 | ins C dx fs=>
  obtain⟨d,z,ne,e,mA,⟨od,es,ep,e2,c⟩,r⟩:=x;exact⟨ho _ d,z,ne,k _ _ (.inl rfl) e,mA,⟨od,es,ep,k _ _ (.inr d) e2,c⟩,r⟩
 | own y=>obtain⟨ob,e⟩:=x;exact⟨ob,k _ _ (.inl rfl) e⟩
 | xd fs=>obtain⟨mA,⟨od,es,ep,e,c⟩,r⟩:=x;exact⟨mA,⟨od,es,ep,k _ _ (.inl rfl) e,c⟩,r⟩
 | KC lo hi=>obtain⟨t,u,v,e⟩:=x;exact⟨t,u,v,k _ _ (.inl rfl) e⟩
 | nF ob u ih=>obtain⟨e,q⟩:=x;exact⟨k _ _ (.inl rfl) e,ih q⟩
 | Mc ps=>
  have e:h.get? a=some {cls:=.none,data:=.fields ps}:=x;show h'.get? a=some {cls:=.none,data:=.fields ps};exact k a _ (.inl rfl) e
 | met f y=>
  have e:h.get? a=some (PySem.W.methodObj (.ref f) (.ref y)):=x;show h'.get? a=some (PySem.W.methodObj (.ref f) (.ref y));exact k a _ (.inl rfl) e
 | ext φ=>obtain⟨p,⟨o,e⟩,st⟩:=x;exact⟨st _ _ p fun o q=>k _ _ (.inl rfl) q,⟨o,k _ _ (.inl rfl) e⟩,st⟩
theorem rD.lt (x:rD P w H h) (e:H a=some o):a<h.objs.size:=(x a o e).lt
def rD.fresh (x:rD P w H h) (e:h.objs.size<=a):H a=none:=by
 cases q:H a with
 | none=>rfl
 | some u=>exact absurd (yb (x.lt q) e) (ye _)
def rD.kept (x:rD P w H h) (k:∀b u,h.get? b=some u->h'.get? b=some u):rD P w H h':=fun a o e=>
 (x a o e).lH (fun b u _ q=>k b u q) (fun _ q=>q) fun _ _ q=>q
def rD.laid (x:rD P w H h) (k:∀b u,h.get? b=some u->h'.get? b=some u) (hp:h.objs.size<=a) (new:cF P w (upd H a o) h' a o):rD P w (upd H a o) h':=fun b u e=>by
 have hn:=x.fresh hp
 by_cases hb:b=a
 ·subst hb;rw[aA] at e;cases e;exact new
 ·rw[aD hb] at e
  exact(x b u e).lH (fun c v _ q=>k c v q) (fun c q=>by rw[aD (bo q hn)];exact q) fun c xs q=>by rw[aD (bo q hn)];exact q
end
def Rd (H:Hp) (a:Addr) (u:HO):Prop:=H a=some u\/∃o,H a=some (.nF o u)
def Rd.ok (r:Rd H a u) (x:rD P w H h):cF P w H h a u:=by
 rcases r with r | ⟨o,r⟩
 ·exact x a u r
 ·obtain⟨_,q⟩:=x a _ r
  exact q
def SH:Option HO->Prop
 | some (.lst _)=>True
 | some (.dK _)=>True
 | some (.dT _)=>True
 | some (.set _ _)=>True
 | some (.ins _ _ _)=>True
 | some (.ext _)=>True
 | _=>False
section
variable {P:Program} {w:World} {H:Hp} {h h':Heap} {x e:Addr} {o':HO}
def rD.write (ok:rD P w H h) (mu:SH (H x)) (he:e=x\/H e=some (.own x)) (k:∀b u,b≠e->h.get? b=some u->h'.get? b=some u) (heo:∃u,h'.get? e=some u)
  (new:cF P w (upd H x o') h' x o'):rD P w (upd H x o') h':=fun b u q=>by
 have nown:∀c y,H c=some (.own y)->c≠x:=fun c y r z=>by subst z;rw[r] at mu;exact mu
 have ntup:∀c xs,H c=some (.tup xs)->c≠x:=fun c xs r z=>by subst z;rw[r] at mu;exact mu
 by_cases hb:b=x
 ·subst hb;rw[aA] at q;cases q;exact new
 ·rw[aD hb] at q
  by_cases hbe:b=e
  ·have q':H b=some (.own x):=by
    rcases he with z | z
    ·exact absurd (hbe.trans z) hb
    ·rw[hbe];exact z
   rw[q] at q';cases q';obtain⟨v,hv⟩:=heo;exact⟨v,by rw[hbe];exact hv⟩
  ·refine(ok b u q).lH (fun c v hc r=>k c v ?_ r) (fun c r=>by rw[aD (nown c b r)];exact r) fun c xs r=>by rw[aD (ntup c xs r)];exact r
   rcases hc with rfl | hc
   ·exact hbe
   ·rintro rfl
    rcases he with z | z
    ·exact nown c b hc z
    ·rw[hc] at z;cases z;exact hb rfl
end
structure Un (fs ex:List Addr) (H H':Hp) (h h':Heap):Prop where
 keep:∀b o,h.get? b=some o->H b=none->b∉fs->b∉ex->h'.get? b=some o
 slot:∀b o,h.get? b=some o->H b=none->b∈fs->b∉ex->∃sl,h'.get? b=some {o with slots:=sl}
 free:∀b o,h.get? b=some o->H b=none->b∉ex->H' b=none
 there:∀b o,h.get? b=some o->b∉ex->∃o',h'.get? b=some o'
 pC:∀b xs,H b=some (.tup xs)->H' b=some (.tup xs)
 nh:∀b o u,H b=some (.nF o u)->H' b=some (.nF o u)
 pE:∀b ps,H b=some (.Mc ps)->∃more,H' b=some (.Mc (ps++more))
section
variable {fs fs' ex ex':List Addr} {H H1 H2:Hp} {h h1 h2 h':Heap} {a x e:Addr} {o:HO}
def Un.any (u:Un fs ex H H1 h h1) (q:h.get? b=some ob) (n:H b=none) (hx:b∉ex):∃sl,h1.get? b=some {ob with slots:=sl}:=by
 by_cases hb:b∈fs
 ·exact u.slot b ob q n hb hx
 ·exact⟨ob.slots,u.keep b ob q n hb hx⟩
def Un.kept (k:∀b u,h.get? b=some u->h'.get? b=some u):Un fs ex H H h h':=
 ⟨fun b ob q _ _ _=>k b ob q,fun b ob q _ _ _=>⟨ob.slots,k b ob q⟩,fun _ _ _ n _=>n,fun b ob q _=>⟨ob,k b ob q⟩,fun _ _ q=>q,fun _ _ _ q=>q,fun _ ps q=>⟨#[],by rw[q];simp⟩⟩
def Un.refl:Un fs ex H H h h:=Un.kept fun _ _ q=>q
def Un.laid (k:∀b u,h.get? b=some u->h'.get? b=some u) (hp:h.objs.size<=a) (hn:H a=none):Un fs ex H (upd H a o) h h' where
 keep:=fun b u q _ _ _=>k b u q
 slot:=fun b u q _ _ _=>⟨u.slots,k b u q⟩
 free:=fun b u q n _=>by rw[aD (yi (yb (yx q) hp))];exact n
 there:=fun b u q _=>⟨u,k b u q⟩
 pC:=fun b xs q=>by rw[aD (bo q hn)];exact q
 nh:=fun b u xs q=>by rw[aD (bo q hn)];exact q
 pE:=fun b ps q=>⟨#[],by rw[aD (bo q hn),q];simp⟩
def Un.write (mu:SH (H x)) (he:e=x\/H e=some (.own x)) (k:∀b u,b≠e->h.get? b=some u->h'.get? b=some u) (heo:∃u,h'.get? e=some u):Un fs ex H (upd H x o) h h':=by
 have hx:∀b,H b=none->b≠x:=fun b n z=>by subst z;rw[n] at mu;exact mu
 have hb:∀b,H b=none->b≠e:=fun b n z=>by
  subst z;rcases he with r | r
  ·exact hx b n r
  ·rw[n] at r;cases r
 have hm:∀b u,H b=some u->¬SH (some u)->b≠x:=fun b u q nm z=>by subst z;rw[q] at mu;exact nm mu
 refine⟨fun b u q n _ _=>k b u (hb b n) q,fun b u q n _ _=>⟨u.slots,k b u (hb b n) q⟩,fun b u q n _=>by rw[aD (hx b n)];exact n,fun b u q _=>?_,
  fun b xs q=>by rw[aD (hm b _ q fun z=>z)];exact q,fun b u xs q=>by rw[aD (hm b _ q fun z=>z)];exact q,fun b ps q=>⟨#[],by rw[aD (hm b _ q fun z=>z),q];simp⟩⟩
 by_cases hbe:b=e
 ·subst hbe;exact heo
 ·exact⟨u,k b u hbe q⟩
end
def SV (h:Heap) (H:Hp):List Addr:=(List.range h.objs.size).filter fun a=>(H a).isSome
def Em (h:Heap) (H:Hp):Heap:=PySem.W.hideAll h (SV h H)
def K5 (h:Heap) (H:Hp):(Em h H).objs.size=h.objs.size:=PySem.W.hideAll_size _ _
def Nu (e:h.get? b=some o) (n:H b=none):(Em h H).get? b=some o:=
 PySem.W.hideAll_get _ e fun hm=>by
  have q:(H b).isSome=true:=(List.mem_filter.mp hm).2;rw[n] at q;simp at q
def OT (e:(Em h H).get? b=some o):h.get? b=some o/\H b=none:=by
 have e':h.get? b=some o:=PySem.W.of_hideAll (SV h H) e;refine⟨e',?_⟩;cases q:H b with
 | none=>rfl
 | some x=>
  have hm:b∈SV h H:=List.mem_filter.mpr ⟨List.mem_range.mpr (yx e'),by simp[q]⟩;have z:(Em h H).get? b=none:=PySem.W.hideAll_none (SV h H) hm;rw[z] at e;cases e
end L2
namespace L2
open PySem PySem.Spec PyProof.Rows
structure Mod (K:yA) (mg:Str->Option Value) (base:Heap):Prop where
 QZ:K.In base
 glob:base.Ns mainGlobals mg
 blt:∃mb,base.Ns builtinsNs mb/\∀x:Str,x≠ "__name__"->mb x=bootBuiltins x
 nolimit:base.NoLimit
set_option genInjectivity false in
structure Cx where
 prog:Program
 w:World
 K:yA
 mg:Str->Option Value
 base:Heap
 A:Around
 N:List Str
 s₀:Shared
 H₀:Hp
 env:Env
 outer:List Env
 stack:List Env
 ex:List Addr
 fn:Str->Bool
 calm:Bool
 pn:List (Addr×Obj)
 xe:Value->Shared->Prop
def qq (l:List Env):List Addr:=l.filterMap (·.frame)
abbrev Cx.fs (X:Cx):List Addr:=qq X.outer
def Rr (sc:Scope) (x:Str):Prop:=sc.names.lookup x=some .local\/sc.names.lookup x=some .cell\/sc.names.lookup x=some .free
def Loc (sc:Scope) (x:Str):Prop:=sc.names.lookup x=some .local\/sc.names.lookup x=some .cell
def Look (env:Env) (h:Heap) (m:Str->Option Value) (x:Str) (u:Value):Prop:=
 (env.kindOf x=some .local/\m x=some u)\/((env.kindOf x=some .cell\/env.kindOf x=some .free)/\∃c,env.cells.lookup x=some c/\h.IsCell c (some u))
structure Cx.Ok (X:Cx):Prop where
 mod:Mod X.K X.mg X.base
 kind:X.env.scope.kind=.function
 glob:X.env.globals=mainGlobals
 blt:X.env.builtins=builtinsNs
 above:X.s₀.heap.objs.size<=X.env.locals
 inj:∀x y c,X.env.cells.lookup x=some c->X.env.cells.lookup y=some c->x=y
 has:∀x,(X.env.kindOf x=some .cell\/X.env.kindOf x=some .free)->∃c,X.env.cells.lookup x=some c
 Ro:∀x c,X.fn x=true->X.env.cells.lookup x=some c->X.s₀.heap.objs.size<=c
 hd:X.calm=true->X.A.handled=none
 frames:X.A.frames=some X.stack
 Rz:X.stack=X.outer\/(X.stack=X.env::X.outer/\X.env.frame=some X.env.locals)
 S5:∀b∈X.ex,b≠X.env.locals/\∀x c,X.env.cells.lookup x=some c->c≠b
 bs:∀b o,X.base.get? b=some o->X.s₀.heap.get? b=some o/\X.H₀ b=none
 LO:X.base.objs.size<=X.s₀.heap.objs.size
 wF:∀b o,X.base.get? b=some o->b∉X.ex
 IK:∀b∈X.ex,b∉X.fs
 pL:X.s₀.heap.FunFrames X.base X.outer
 GF:∀b∈X.fs,X.H₀ b=none
structure Inv (X:Cx) (pins:List (Addr×Obj)) (σ:List (Option V)) (H:Hp) (s:Shared):Prop where
 ok:X.Ok
 os:s.os=X.s₀.os
 bare:AllBare s.gens
 base:Un X.fs X.ex X.H₀ H X.s₀.heap s.heap
 loc:∃m,s.heap.Ns X.env.locals m/\∀(i:Nat) (x:Str) (v:V),X.N[i]?=some x->σ[i]?=some (some v)->Rr X.env.scope x->∃u,RelV v u/\Look X.env s.heap m x u
 cell:∀x c,X.env.cells.lookup x=some c->∃v,s.heap.IsCell c v
 free:H X.env.locals=none
 ke:∀x c,X.env.cells.lookup x=some c->H c=none
 pin:∀p∈X.pn++pins,s.heap.get? p.1=some p.2/\H p.1=none/\p.1≠X.env.locals/\p.1∉X.fs/\∀v,p.2.data≠.cell v
 bZ:rD X.prog X.w H s.heap
 len:σ.length=X.N.length
section
variable {X:Cx} {pins:List (Addr×Obj)} {σ:List (Option V)} {H H':Hp} {s:Shared} {h':Heap}
def Cx.Ok.T9 (ok:X.Ok) (e:X.base.get? b=some o):b∉X.fs:=fun hb=>by
 have:=(ok.pL.mem hb).1;rw[e] at this;cases this
theorem Inv.bs (I:Inv X pins σ H s):∀b o,X.base.get? b=some o->s.heap.get? b=some o/\H b=none:=fun b o e=>
 ⟨I.base.keep b o (I.ok.bs b o e).1 (I.ok.bs b o e).2 (I.ok.T9 e) (I.ok.wF b o e),I.base.free b o (I.ok.bs b o e).1 (I.ok.bs b o e).2 (I.ok.wF b o e)⟩
def Inv.bk (I:Inv X pins σ H s):∀b o,X.base.get? b=some o->s.heap.get? b=some o:=fun b o e=>(I.bs b o e).1
theorem Inv.mod (I:Inv X pins σ H s):Mod X.K X.mg X.base:=I.ok.mod
def Inv.sZ (I:Inv X pins σ H s):X.K.In s.heap:=I.ok.mod.QZ.keeps I.bk
theorem Inv.lt (I:Inv X pins σ H s):X.env.locals<↑s:=let ⟨_,hn,_⟩:=I.loc;hn.lt
def Inv.sz (I:Inv X pins σ H s):X.s₀.heap.objs.size<=↑s:=zL I.ok.above (yg I.lt)
def Inv.R9 (I:Inv X pins σ H s) (h:↑s<=a):a∉X.fs:=fun hb=>by
 obtain⟨_,o,ho,_⟩:=I.ok.pL.mem hb;exact absurd (yb (yx ho) (zL I.sz h)) (ye _)
def Inv.Oa (I:Inv X pins σ H s):∀x c,X.env.cells.lookup x=some c->c≠X.env.locals:=fun x c e z=>by
 obtain⟨v,o,ho,hd⟩:=I.cell x c e;obtain⟨m,⟨o',es,ep,ho',hd',_⟩,_⟩:=I.loc;rw[z,ho'] at ho;cases ho;rw[hd'] at hd;cases hd
theorem Inv.pL (I:Inv X pins σ H s):s.heap.FunFrames X.base X.outer:=by
 have all:∀(l:List Env),(∀b∈qq l,b∈X.fs)->X.s₀.heap.FunFrames X.base l->s.heap.FunFrames X.base l:=by
  intro l
  induction l with
  | nil=>intro _ _;trivial
  | cons env r ih=>
   intro hs hl;obtain⟨hk,⟨L,o,hf,hn,ho,hd⟩,hr⟩:=hl;have hL:L∈X.fs:=hs L (by unfold qq;rw[List.filterMap_cons,hf];exact zp);obtain⟨sl,e⟩:=I.base.slot L o ho (I.ok.GF L hL) hL fun z=>I.ok.IK L z hL;exact⟨hk,⟨L,_,hf,hn,e,hd⟩,ih (fun b hb=>hs b (by unfold qq;rw[List.filterMap_cons,hf];exact zm _ hb)) hr⟩
 exact all X.outer (fun _ hb=>hb) I.ok.pL
theorem Inv.stack (I:Inv X pins σ H s):s.heap.FunFrames X.base X.stack:=by
 rcases I.ok.Rz with e | ⟨e,hf⟩
 ·rw[e];exact I.pL
 ·rw[e]
  obtain⟨m,hn,_⟩:=I.loc;refine .cons (by rw[I.ok.kind];decide) hf hn ?_ I.pL;exact Heap.get?_none_of_le (zL I.ok.LO I.ok.above)
def Inv.Ds (I:Inv X pins σ H s):∀b∈qq X.stack,b∈X.env.locals::X.fs:=fun b hb=>by
 rcases I.ok.Rz with e | ⟨e,hf⟩
 ·rw[e] at hb;exact zm _ hb
 ·rw[e] at hb
  unfold qq at hb;rw[List.filterMap_cons,hf] at hb;exact hb
def Inv.rJ (I:Inv X pins σ H s):∀b∈qq X.stack,H b=none:=fun b hb=>by
 rcases zC.mp (I.Ds b hb) with e | hb
 ·rw[e];exact I.free
 ·obtain⟨_,o,ho,_⟩:=I.ok.pL.mem hb
  exact I.base.free b o ho (I.ok.GF b hb) fun z=>I.ok.IK b z hb
def Inv.step {g':Array GenState} {t':Nat} {d':Drawn} {ch:List Addr} (I:Inv X pins σ H s)
  (hch:∀b∈ch,(b∈X.ex\/X.s₀.heap.objs.size<=b)/\b≠X.env.locals/\(∀x c,X.env.cells.lookup x=some c->c≠b)/\∀p∈X.pn++pins,p.1≠b)
  (keep:∀b o,b≠X.env.locals->b∉X.fs->b∉ch->s.heap.get? b=some o->H b=none->h'.get? b=some o)
  (slot:∀b o,b≠X.env.locals->b∈X.fs->b∉ch->s.heap.get? b=some o->H b=none->∃sl,h'.get? b=some {o with slots:=sl}) (free:∀b o,b∉ch->s.heap.get? b=some o->H b=none->H' b=none)
  (there:∀b o,b∉ch->s.heap.get? b=some o->∃o',h'.get? b=some o')
  (pC:∀b xs,H b=some (.tup xs)->H' b=some (.tup xs)) (nh:∀b o u,H b=some (.nF o u)->H' b=some (.nF o u)) (pE:∀b ps,H b=some (.Mc ps)->∃more,H' b=some (.Mc (ps++more)))
  (ns:∀m,s.heap.Ns X.env.locals m->h'.Ns X.env.locals m) (bZ:rD X.prog X.w H' h') (hg:AllBare g') :
  Inv X pins σ H' {s with heap:=h',gens:=g',drawn:=d',toks:=t'}:=by
 have neL:∀b o,X.s₀.heap.get? b=some o->b≠X.env.locals:=fun b o e=>yi (yb (yx e) I.ok.above);have neC:∀b o,X.s₀.heap.get? b=some o->b∉X.ex->b∉ch:=fun b o e hx hb=>by
  rcases(hch b hb).1 with z | z
  ·exact hx z
  ·exact absurd (yb (yx e) z) (ye _)
 have cellK:∀x c,X.env.cells.lookup x=some c->∀v,s.heap.IsCell c v->h'.IsCell c v:=fun x c e v ⟨o,ho,hd⟩=>by
  have nch:c∉ch:=fun z=>(hch c z).2.2.1 x c e rfl
  by_cases hc:c∈X.fs
  ·obtain⟨sl,q⟩:=slot c o (I.Oa x c e) hc nch ho (I.ke x c e)
   exact⟨_,q,hd⟩
  ·exact⟨o,keep c o (I.Oa x c e) hc nch ho (I.ke x c e),hd⟩
 refine⟨I.ok,I.os,hg,⟨fun b o e n hb hx=>?_,fun b o e n hb hx=>?_,fun b o e n hx=>?_,fun b o e hx=>?_,fun b xs e=>pC b xs (I.base.pC b xs e),fun b o xs e=>nh b o xs (I.base.nh b o xs e),fun b ps e=>?_⟩,?_,fun x c e=>?_,?_,fun x c e=>?_,fun p hp=>?_,bZ,I.len⟩
 ·exact keep b o (neL b o e) hb (neC b o e hx) (I.base.keep b o e n hb hx) (I.base.free b o e n hx)
 ·obtain⟨sl,e1⟩:=I.base.slot b o e n hb hx
  obtain⟨sl',e2⟩:=slot b _ (neL b o e) hb (neC b o e hx) e1 (I.base.free b o e n hx);exact⟨sl',e2⟩
 ·obtain⟨o',e1⟩:=I.base.there b o e hx
  exact free b o' (neC b o e hx) e1 (I.base.free b o e n hx)
 ·obtain⟨o',e1⟩:=I.base.there b o e hx
  exact there b o' (neC b o e hx) e1
 ·obtain⟨m1,e1⟩:=I.base.pE b ps e
  obtain⟨m2,e2⟩:=pE b _ e1;exact⟨m1++m2,by rw[e2,Array.append_assoc]⟩
 ·obtain⟨m,hn,hl⟩:=I.loc
  refine⟨m,ns m hn,fun i x v e1 e2 e3=>?_⟩;obtain⟨u,r,l⟩:=hl i x v e1 e2 e3;refine⟨u,r,?_⟩;rcases l with l | ⟨k,c,e,z⟩
  ·exact .inl l
  ·exact .inr ⟨k,c,e,cellK x c e _ z⟩
 ·obtain⟨v,z⟩:=I.cell x c e
  exact⟨v,cellK x c e v z⟩
 ·obtain⟨m,⟨o,_,_,ho,_⟩,_⟩:=I.loc
  exact free _ o (fun z=>(hch _ z).2.1 rfl) ho I.free
 ·obtain⟨v,o,ho,hd⟩:=I.cell x c e
  exact free c o (fun z=>(hch c z).2.2.1 x c e rfl) ho (I.ke x c e)
 ·obtain⟨e,n,ne,nf,d⟩:=I.pin p hp
  have nch:p.1∉ch:=fun z=>(hch p.1 z).2.2.2 p hp rfl;exact⟨keep p.1 p.2 ne nf nch e n,free p.1 p.2 nch e n,ne,nf,d⟩
def Inv.un {t':Nat} (I:Inv X pins σ H s) (u:Un X.fs [] H H' s.heap h') (bZ:rD X.prog X.w H' h'):Inv X pins σ H' {s with heap:=h',toks:=t'}:=by
 obtain⟨m,⟨o,es,ep,ho,r⟩,_⟩:=id I.loc;obtain⟨sl,hL⟩:=u.any ho I.free (by simp);exact I.step (g':=s.gens) (d':=s.drawn) (ch:=[]) (fun _ z=>nomatch z) (fun b o _ hb _ e n=>u.keep b o e n hb (by simp)) (fun b o _ hb _ e n=>u.slot b o e n hb (by simp)) (fun b o _ e n=>u.free b o e n (by simp)) (fun b o _ e=>u.there b o e (by simp)) u.pC u.nh u.pE (fun m' hm=>by
  obtain⟨o',es',ep',ho',r'⟩:=hm;rw[ho] at ho';cases ho';exact⟨_,es',ep',hL,r'⟩) bZ I.bare
def Inv.call {g':Array GenState} {t':Nat} {d':Drawn} {ch:List Addr} (I:Inv X pins σ H s) (u:Un (qq X.stack) ch H H' s.heap h') (bZ:rD X.prog X.w H' h') (hg:AllBare g')
  (hch:∀b∈ch,(b∈X.ex\/X.s₀.heap.objs.size<=b)/\b≠X.env.locals/\(∀x c,X.env.cells.lookup x=some c->c≠b)/\∀p∈X.pn++pins,p.1≠b) :
  Inv X pins σ H' {s with heap:=h',gens:=g',drawn:=d',toks:=t'}:=by
 obtain⟨m,⟨o,es,ep,ho,r⟩,_⟩:=id I.loc;obtain⟨sl,hL⟩:=u.any ho I.free fun z=>(hch _ z).2.1 rfl;exact I.step (ch:=ch) hch (fun b o hL hb hc e n=>u.keep b o e n (fun z=>(zC.mp (I.Ds b z)).elim hL hb) hc) (fun b o _ _ hc e n=>u.any e n hc) (fun b o hc e n=>u.free b o e n hc) (fun b o hc e=>u.there b o e hc) u.pC u.nh u.pE (fun m' hm=>by
  obtain⟨o',es',ep',ho',r'⟩:=hm;rw[ho] at ho';cases ho';exact⟨_,es',ep',hL,r'⟩) bZ hg
def Inv.turned {t':Nat} {it:Addr} (I:Inv X pins σ H s) (k:∀b o,b≠it->s.heap.get? b=some o->h'.get? b=some o) (hn:H it=none) (hL:it≠X.env.locals)
  (h1:it∈X.ex\/X.s₀.heap.objs.size<=it) (h2:∀x c,X.env.cells.lookup x=some c->c≠it) (h3:∀p∈X.pn++pins,p.1≠it):Inv X pins σ H {s with heap:=h',toks:=t'}:=by
 have nit:∀b u,H b=some u->b≠it:=fun b u e z=>by rw[z,hn] at e;cases e
 refine I.step (g':=s.gens) (d':=s.drawn) (ch:=[it]) (fun b hb=>?_) (fun b o _ _ hc e _=>k b o (fun z=>hc (by simp[z])) e) (fun b o _ _ hc e _=>⟨o.slots,k b o (fun z=>hc (by simp[z])) e⟩) (fun _ _ _ _ n=>n)
  (fun b o hc e=>⟨o,k b o (fun z=>hc (by simp[z])) e⟩) (fun _ _ e=>e) (fun _ _ _ e=>e) (fun b ps e=>⟨#[],by rw[e];simp⟩) (fun m hm=>?_) (fun b u e=>?_) I.bare
 ·have e:b=it:=by simpa using hb
  subst e;exact⟨h1,hL,h2,h3⟩
 ·obtain⟨o,es,ep,ho,r⟩:=hm
  exact⟨o,es,ep,k _ o (Ne.symm hL) ho,r⟩
 ·refine(I.bZ b u e).lH (fun c v hc q=>k c v ?_ q) (fun _ q=>q) fun _ _ q=>q
  rcases hc with z | z
  ·rw[z];exact nit b u e
  ·exact nit c _ z
def Inv.tok (I:Inv X pins σ H s) (t:Nat):Inv X pins σ H {s with toks:=t}:=I.un (h':=s.heap) (t':=t) Un.refl I.bZ
theorem Inv.kept (I:Inv X pins σ H s) (k:∀b u,s.heap.get? b=some u->h'.get? b=some u):Inv X pins σ H {s with heap:=h',toks:=t'}:=I.un (Un.kept k) (I.bZ.kept k)
theorem Inv.laid (I:Inv X pins σ H s) (k:∀b u,s.heap.get? b=some u->h'.get? b=some u) (hp:↑s<=a) (new:cF X.prog X.w (upd H a o) h' a o) :
  Inv X pins σ (upd H a o) {s with heap:=h',toks:=t'}:=I.un (Un.laid k hp (I.bZ.fresh hp)) (I.bZ.laid k hp new)
theorem Inv.write (I:Inv X pins σ H s) (mu:SH (H x)) (he:e=x\/H e=some (.own x)) (k:∀b u,b≠e->s.heap.get? b=some u->h'.get? b=some u) (heo:∃u,h'.get? e=some u)
  (new:cF X.prog X.w (upd H x o) h' x o):Inv X pins σ (upd H x o) {s with heap:=h',toks:=t'}:=I.un (Un.write mu he k heo) (I.bZ.write mu he k heo new)
def Inv.oZ (I:Inv X pins σ H s) (h:∀p∈pins',s.heap.get? p.1=some p.2/\H p.1=none/\p.1≠X.env.locals/\p.1∉X.fs/\∀v,p.2.data≠.cell v):Inv X pins' σ H s:=
 ⟨I.ok,I.os,I.bare,I.base,I.loc,I.cell,I.free,I.ke,fun p hp=>(zF.mp hp).elim (fun z=>I.pin p (zI _ z)) (h p),I.bZ,I.len⟩
def Gq {N:List Str} (hN:N.Nodup) {i j:Nat} {x:Str} (a:N[i]?=some x) (b:N[j]?=some x):i=j:=by
 obtain⟨h1,e1⟩:=zw.mp a;obtain⟨h2,e2⟩:=zw.mp b;exact(List.getElem_inj hN).mp (e1.trans e2.symm)
def Cw {M:Model} {A:Around} {E:Value->Shared->Prop} {i:Nat} {x:Str} {v:V} {u:Value} {Q:Unit->Shared->Prop} (I:Inv X pins σ H s) (hN:X.N.Nodup) (hi:X.N[i]?=some x) (hx:Loc X.env.scope x) (r:RelV v u)
  (h:∀s',Inv X pins (σ.set i (some v)) H s'->(∃a,Heap.SameBut a s.heap s'.heap/\(a=X.env.locals\/X.env.cells.lookup x=some a))->Q () s') (hf:X.fn x=true\/X.env.scope.names.lookup x=some .local<|>qa_):wpAny M A (storeName X.env x u) Q E s:=by
 obtain⟨m,hn,hl⟩:=id I.loc;have hcls:(X.env.scope.kind == .class||(X.env.scope.kind == .module&&X.env.locals != X.env.globals))=false:=by rw[I.ok.kind];rfl
 have hiσ:i<σ.length:=by rw[I.len];exact(zw.mp hi).1
 have Oa:=I.Oa;have tracked:∀{a:Addr} {h':Heap},(∃o,s.heap.get? a=some o/\H a=none)->Heap.SameBut a s.heap h'->rD X.prog X.w H h':=fun {a h'} ha hs b ob e=>by
  obtain⟨_,_,hfree⟩:=ha;refine(I.bZ b ob e).lH (fun c w' hc q=>(hs.2 c ?_).trans q) (fun _ q=>q) fun _ _ q=>q;rintro rfl;rcases hc with rfl | hc
  ·rw[hfree] at e;cases e
  ·rw[hfree] at hc;cases hc
 rcases hx with hk | hk
 ·refine wpAny_storeName_local hk hn (fun h' hn' hs=>?_) hcls
  obtain⟨oL,_,_,hoL,_⟩:=id hn;refine h _ ⟨I.ok,I.os,I.bare,⟨fun b o e n hb hx=>?_,fun b o e n hb hx=>?_,I.base.free,fun b o e hx=>?_,I.base.pC,I.base.nh,I.base.pE⟩,⟨_,hn',fun j y v' e1 e2 e3=>?_⟩,fun y c e=>?_,I.free,I.ke,fun p hp=>?_,tracked ⟨oL,hoL,I.free⟩ hs,by simpa using I.len⟩ ⟨_,hs,.inl rfl⟩
  ·exact(hs.2 b (yi (yb (yx e) I.ok.above))).trans (I.base.keep b o e n hb hx)
  ·obtain⟨sl,e1⟩:=I.base.slot b o e n hb hx
   exact⟨sl,(hs.2 b (yi (yb (yx e) I.ok.above))).trans e1⟩
  ·obtain⟨o',e1⟩:=I.base.there b o e hx
   exact⟨o',(hs.2 b (yi (yb (yx e) I.ok.above))).trans e1⟩
  ·by_cases hj:j=i
   ·subst hj
    rw[hi] at e1;cases e1;rw[List.getElem?_set_self hiσ] at e2;cases e2;exact⟨u,r,.inl ⟨hk,by simp⟩⟩
   ·rw[List.getElem?_set_ne (Ne.symm hj)] at e2
    obtain⟨u',r',q⟩:=hl j y v' e1 e2 e3;refine⟨u',r',?_⟩;rcases q with⟨k,e⟩ | ⟨k,c,e,z⟩
    ·refine .inl ⟨k,?_⟩
     have:y≠x:=fun e=>hj (Gq hN e1 (e▸hi));simp[this,e]
    ·exact .inr ⟨k,c,e,z.sameBut hs (Oa y c e)⟩
  ·obtain⟨w',z⟩:=I.cell y c e
   exact⟨w',z.sameBut hs (Oa y c e)⟩
  ·obtain⟨e,n,ne,nf,d⟩:=I.pin p hp
   exact⟨(hs.2 p.1 ne).trans e,n,ne,nf,d⟩
 ·have hfn:X.fn x=true:=by
   rcases hf with z | z
   ·exact z
   ·rw[z] at hk;cases hk
  obtain⟨c,hc⟩:=I.ok.has x (.inl hk);obtain⟨w',z⟩:=I.cell x c hc;refine wpAny_storeName_cell I.ok.kind hk hc z (fun h' hc' hs=>?_);obtain⟨oc,hoc,hocd⟩:=id z;refine h {s with heap:=h'} ⟨I.ok,I.os,I.bare,⟨fun b o e n hb hx=>?_,fun b o e n hb hx=>?_,I.base.free,fun b o e hx=>?_,I.base.pC,I.base.nh,I.base.pE⟩,⟨m,hn.sameBut hs (Ne.symm (Oa x c hc)),fun j y v' e1 e2 e3=>?_⟩,fun y c' e=>?_,I.free,I.ke,fun p hp=>?_,tracked ⟨oc,hoc,I.ke x c hc⟩ hs,by simpa using I.len⟩ ⟨c,hs,.inr hc⟩
  ·exact(hs.2 b (yi (yb (yx e) (I.ok.Ro x c hfn hc)))).trans (I.base.keep b o e n hb hx)
  ·obtain⟨sl,e1⟩:=I.base.slot b o e n hb hx
   exact⟨sl,(hs.2 b (yi (yb (yx e) (I.ok.Ro x c hfn hc)))).trans e1⟩
  ·obtain⟨o',e1⟩:=I.base.there b o e hx
   exact⟨o',(hs.2 b (yi (yb (yx e) (I.ok.Ro x c hfn hc)))).trans e1⟩
  ·by_cases hj:j=i
   ·subst hj
    rw[hi] at e1;cases e1;rw[List.getElem?_set_self hiσ] at e2;cases e2;exact⟨u,r,.inr ⟨.inl hk,c,hc,hc'⟩⟩
   ·rw[List.getElem?_set_ne (Ne.symm hj)] at e2
    obtain⟨u',r',q⟩:=hl j y v' e1 e2 e3;refine⟨u',r',?_⟩;rcases q with q | ⟨k,c',e,z'⟩
    ·exact .inl q
    ·refine .inr ⟨k,c',e,z'.sameBut hs ?_⟩
     rintro rfl;exact hj (Gq hN e1 (I.ok.inj _ _ _ e hc▸hi))
  ·by_cases hcc:c'=c
   ·subst hcc;exact⟨_,hc'⟩
   ·obtain⟨w2,z2⟩:=I.cell y c' e
    exact⟨w2,z2.sameBut hs hcc⟩
  ·obtain⟨e,n,ne,nf,d⟩:=I.pin p hp
   refine⟨(hs.2 p.1 ?_).trans e,n,ne,nf,d⟩;intro q;rw[q,hoc] at e;have q':oc=p.2:=yj e;exact d w' (by rw[<-q'];exact hocd)
def nL (I:Inv X pins σ H s) (hN:X.N.Nodup) (hi:X.N[i]?=some x) (hx:Loc X.env.scope x) (r:RelV v u)
  (h:∀s',Inv X pins (σ.set i (some v)) H s'->Q () s') (hf:X.fn x=true\/X.env.scope.names.lookup x=some .local<|>qa_):wpAny M A (storeName X.env x u) Q E s:=
 Cw I hN hi hx r (fun s' I' _=>h s' I') hf
def Inv.NS (I:Inv X pins σ H s) (ho:s'.os=s.os) (u:Un (qq X.stack) ch H H' s.heap s'.heap) (bZ:rD X.prog X.w H' s'.heap) (hg:AllBare s'.gens)
  (hch:∀b∈ch,(b∈X.ex\/X.s₀.heap.objs.size<=b)/\b≠X.env.locals/\(∀x c,X.env.cells.lookup x=some c->c≠b)/\∀p∈X.pn++pins,p.1≠b):Inv X pins σ H' s':=by
 obtain⟨h',g',d',t',o'⟩:=s';have e:o'=s.os:=ho;subst e;exact I.call (g':=g') (t':=t') (d':=d') u bZ hg hch
end
abbrev XK:=Value->Option Addr->Hp->Prop
abbrev St:=List (Option V)
abbrev VK:=V->Hp->Prop
abbrev TE:=St->Hp->VK->Prop
abbrev TT:=St->Hp->(Bool->Hp->Prop)->Prop
abbrev TA:=St->Hp->(List V->Hp->Prop)->Prop
structure Ends where
 nx:St->Hp->Prop
 rt:VK
 bk:St->Hp->Prop:=fun _ _=>False
 ct:St->Hp->Prop:=fun _ _=>False
abbrev TS:=Ends->St->Hp->Prop
def EP (X:Cx) (pins:List (Addr×Obj)) (σ:St) (Q:VK) (u:Value) (s':Shared):Prop:=∃v H',Inv X pins σ H' s'/\RelV v u/\Q v H'
def TP (X:Cx) (pins:List (Addr×Obj)) (σ:St) (Q:Bool->Hp->Prop) (b:Bool) (s':Shared):Prop:=∃H',Inv X pins σ H' s'/\Q b H'
def AP (X:Cx) (pins:List (Addr×Obj)) (σ:St) (Q:List V->Hp->Prop) (us:List Value) (s':Shared):Prop:=∃vs H',Inv X pins σ H' s'/\Vals vs us/\Q vs H'
def SP (X:Cx) (pins:List (Addr×Obj)) (D:Ends) (f:Flow) (s':Shared):Prop:=
 match f with
 | .next=>∃σ' H',Inv X pins σ' H' s'/\D.nx σ' H'
 | .brk=>∃σ' H',Inv X pins σ' H' s'/\D.bk σ' H'
 | .cont=>∃σ' H',Inv X pins σ' H' s'/\D.ct σ' H'
 | .ret u=>∃v σ' H',Inv X pins σ' H' s'/\RelV v u/\D.rt v H'
def PE (X:Cx) (e:Expr) (t:TE):Prop:=
 ∀(pins:List (Addr×Obj)) (s:Shared) (σ:St) (H:Hp) (Q:VK),Inv X pins σ H s->t σ H Q->wpAny (model X.prog X.w) X.A (eval e X.env) (EP X pins σ Q) X.xe s
def PT (X:Cx) (e:Expr) (t:TT):Prop:=
 ∀(pins:List (Addr×Obj)) (s:Shared) (σ:St) (H:Hp) (Q:Bool->Hp->Prop),Inv X pins σ H s->t σ H Q->wpAny (model X.prog X.w) X.A (isTrue e X.env (eval e X.env)) (TP X pins σ Q) X.xe s
def PW (X:Cx) (e:Expr) (t:TT):Prop:=
 ∀(whole:Sem Value) (pins:List (Addr×Obj)) (s:Shared) (σ:St) (H:Hp) (Q:Bool->Hp->Prop),Inv X pins σ H s->t σ H Q->wpAny (model X.prog X.w) X.A (isTrue e X.env whole) (TP X pins σ Q) X.xe s
def PW.pt (h:PW X e t):PT X e t:=h _
def PA (X:Cx) (es:List Expr) (t:TA):Prop:=
 ∀(pos:Pos) (pins:List (Addr×Obj)) (s:Shared) (σ:St) (H:Hp) (Q:List V->Hp->Prop),Inv X pins σ H s->t σ H Q->wpAny (model X.prog X.w) X.A (spliced (backTo pos (starEach es X.env))) (AP X pins σ Q) X.xe s
def PS (X:Cx) (st:Stmt) (t:TS):Prop:=
 ∀(pins:List (Addr×Obj)) (s:Shared) (σ:St) (H:Hp) (D:Ends),Inv X pins σ H s->t D σ H->wpAny (model X.prog X.w) X.A (exec st X.env) (SP X pins D) X.xe s
def Dg (X:Cx) (st:List Stmt) (t:TS):Prop:=
 ∀(pins:List (Addr×Obj)) (s:Shared) (σ:St) (H:Hp) (D:Ends),Inv X pins σ H s->t D σ H->wpAny (model X.prog X.w) X.A (execs st X.env) (SP X pins D) X.xe s
def cU (h:wpAny M A t Q E s) (hQ:∀a s,Q a s->Q' a s):wpAny M A t Q' E s:=wpAny_mono h hQ fun _ _ x=>x
end L2
namespace L2
open PySem PySem.Spec PyProof.Rows
section
variable {X:Cx}
def aX (i:Nat):TE:=fun σ H Q=>∃v,σ[i]?=some (some v)/\Q v H
def tC (v:V):TE:=fun _ H Q=>Q v H
def QJ (hN:X.N[i]?=some x) (hv:Rr X.env.scope x) (hd:(x == ("__debug__": Str))=false<|>qb_) (hcd:(x == ("__classdict__": Str))=false<|>qb_):PE X (.Name x pos) (aX i):=by
 intro pins s σ H Q I h;obtain⟨v,e,h⟩:=h;obtain⟨m,hn,hl⟩:=I.loc;obtain⟨u,r,l⟩:=hl i x v hN e hv;have fin:EP X pins σ Q u s:=⟨v,H,I,r,h⟩
 rcases l with⟨hk,hm⟩ | ⟨hk,c,hc,hcell⟩
 ·exact wpAny_Name (wpAny_loadName_local I.ok.kind hk hn hm fin) hd
 ·rcases hk with hk | hk
  ·exact wpAny_Name (wpAny_loadName_cell I.ok.kind hk hc hcell fin) hd
  ·exact wpAny_Name (wpAny_loadName_free I.ok.kind hk hc hcell fin hcd) hd
def ae:PE X (.Constant (.int i) j pos) (tC (.int i)):=fun _ _ _ H _ I h=>wpAny_Constant_int ⟨.int i,H,I.tok _,⟨_,rfl⟩,h⟩
def oF:PE X (.Constant (.bool b) j pos) (tC (.bl b)):=fun _ _ _ H _ I h=>Constant_bool ⟨.bl b,H,I,rfl,h⟩
def aS:PE X (.Constant .none j pos) (tC .bH):=fun _ _ _ H _ I h=>Constant_none ⟨.bH,H,I,rfl,h⟩
def aJ:PE X (.Constant (.str x) j pos) (tC (.str x)):=fun _ _ _ H _ I h=>Calls.Constant_str ⟨.str x,H,I.tok _,⟨_,rfl⟩,h⟩
def Gl (X:Cx) (x:Str):Prop:=X.env.kindOf x=some .globalImplicit
def ka (I:Inv X pins σ H s) (hg:Gl X x) (hm:X.mg x=some u) (h:Q u s)
  (hd:(x == ("__debug__": Str))=false<|>qb_):wpAny (model X.prog X.w) X.A (eval (.Name x pos) X.env) Q E s:=
 Calls.Name_function_global I.ok.kind hg (Calls.loadGlobal_global (by rw[I.ok.glob];exact I.mod.glob.keeps I.bk) hm h) hd
def iA (I:Inv X pins σ H s) (hg:Gl X x) (hm:X.mg x=none) (hv:bootBuiltins x=some u) (h:Q u s)
  (hn:x≠ "__name__"<|>qb_) (hd:(x == ("__debug__": Str))=false<|>qb_):wpAny (model X.prog X.w) X.A (eval (.Name x pos) X.env) Q E s:=by
 obtain⟨mb,h1,h2⟩:=I.mod.blt;exact Calls.Name_function_global I.ok.kind hg (Calls.loadGlobal_builtin (by rw[I.ok.glob];exact I.mod.glob.keeps I.bk) hm (by rw[I.ok.blt];exact h1.keeps I.bk) ((h2 x hn).trans hv) h) hd
def bU (hg:Gl X x) (hm:X.mg x=some u) (r:RelV v u) (hd:(x == ("__debug__": Str))=false<|>qb_):PE X (.Name x pos) (tC v):=
 fun _ _ _ H _ I h=>ka I hg hm ⟨v,H,I,r,h⟩ hd
def ON (hg:Gl X x) (hm:X.mg x=none) (hv:bootBuiltins x=some u) (r:RelV v u) (hn:x≠ "__name__"<|>qb_) (hd:(x == ("__debug__": Str))=false<|>qb_):PE X (.Name x pos) (tC v):=
 fun _ _ _ H _ I h=>iA I hg hm hv ⟨v,H,I,r,h⟩ hn hd
variable {a b:Expr} {ta tb:TE} {pos:Pos}
def PC (X:Cx) (op:CmpOp) (a b:Expr) (t:TE):Prop:=
 ∀(pins:List (Addr×Obj)) (s:Shared) (σ:St) (H:Hp) (Q:VK),Inv X pins σ H s->t σ H Q->
  wpAny (model X.prog X.w) X.A (eval a X.env) (fun v s₁=>wpAny (model X.prog X.w) X.A (eval b X.env) (fun u s₂=>wpAny (model X.prog X.w) X.A (compareOp op v u) (EP X pins σ Q) X.xe s₂) X.xe s₁) X.xe s
def Gs (b:Expr) (h:op≠.In) (h2:op≠.NotIn):behindInMarks op b=false:=by
 have e1:(op == CmpOp.In)=false:=by cases op <;> first | rfl | exact absurd rfl h
 have e2:(op == CmpOp.NotIn)=false:=by cases op <;> first | rfl | exact absurd rfl h2
 cases b <;> simp[behindInMarks,e1,e2]
def Mh (ta:TE):TE:=fun σ H Q=>ta σ H fun x H1=>Q (.bl (decide (x=.bH))) H1
def Mf (ta:TE):TE:=fun σ H Q=>ta σ H fun x H1=>Q (.bl (!decide (x=.bH))) H1
def RelV.Gp (r:RelV x v):(v == Value.none)=decide (x=.bH):=by
 cases x with
 | bH=>cases r;rfl
 | bl _=>cases r;rfl
 | int _=>obtain⟨t,rfl⟩:=r;rfl
 | str _=>obtain⟨t,rfl⟩:=r;rfl
 | J8 _=>obtain⟨t,rfl⟩:=r;rfl
 | O4 _=>obtain⟨t,rfl⟩:=r;rfl
 | ref _=>cases r;rfl
 | ty _=>cases r;rfl
def cG (ha:PE X a ta):PC X .Is a (.Constant .none j pos') (Mh ta):=by
 intro pins s σ H Q I h;refine cU (ha pins s σ H _ I h) fun v s1 zz=>?_;obtain⟨x,H1,I1,r1,q1⟩:=zz;exact Constant_none (is_none_gen ⟨.bl _,H1,I1,by rw[r1.Gp];rfl,q1⟩)
def gN (ha:PE X a ta):PC X .IsNot a (.Constant .none j pos') (Mf ta):=by
 intro pins s σ H Q I h;refine cU (ha pins s σ H _ I h) fun v s1 zz=>?_;obtain⟨x,H1,I1,r1,q1⟩:=zz;exact Constant_none (isnot_none_gen ⟨.bl _,H1,I1,by rw[r1.Gp];rfl,q1⟩)
def tB (t:TE):TT:=fun σ H Q=>t σ H fun x H1=>∃c,x=.bl c/\Q c H1
def oE (h:PC X op a b t) (h1:behindInMarks op b=false<|>qc_):PE X (.Compare a [op] [b] pos) t:=fun pins s σ H Q I hw=>wpAny_Compare1 (h pins s σ H Q I hw) h1
def bB (h:PC X op a b t) (h1:behindInMarks op b=false<|>qc_):PT X (.Compare a [op] [b] pos) (tB t):=by
 intro pins s σ H Q I hw;refine wpAny_isTrue_Compare1 (cU (h pins s σ H _ I hw) fun v s1 h1=>cU h1 fun u s2 h2=>cU h2 fun c s3 ⟨x,H1,I1,r1,q1⟩=>?_) h1;obtain⟨d,rfl,q⟩:=q1;cases r1;exact wpAny_truthy_bool ⟨H1,I1,q⟩
def cz (h:PE X e t) (he:(∀whole,isTrue e X.env whole=(do let v <-whole;standAt e.pos;holding [v] (truthy v)))<|>qd_):PT X e (tB t):=by
 intro pins s σ H Q I hw;refine isTrue_plain (cU (h pins s σ H _ I hw) fun v s1 ⟨x,H1,I1,r1,q1⟩=>?_) (he _);obtain⟨d,rfl,q⟩:=q1;cases r1;exact wpAny_truthy_bool ⟨H1,I1,q⟩
variable {tA tB':TT} {rest:List Expr}
def Qv (t u:TT):TT:=fun σ H Q=>t σ H fun c H1=>if c=true then u σ H1 Q else Q false H1
def TM (t u:TT):TT:=fun σ H Q=>t σ H fun c H1=>if c=true then Q true H1 else u σ H1 Q
def Mg (t:TT):TT:=fun σ H Q=>t σ H fun c H1=>Q (!c) H1
def cR (ha:PT X a tA):PW X (.BoolOp .And [a] pos) tA:=by
 intro wh pins s σ H Q I h;refine isTrue_and (cU (ha pins s σ H Q I h) fun c s1 e=>?_);cases c with
 | true=>exact isTrue_and_nil e
 | false=>exact e
def dP (ha:PT X a tA):PW X (.BoolOp .Or [a] pos) tA:=by
 intro wh pins s σ H Q I h;refine isTrue_or (cU (ha pins s σ H Q I h) fun c s1 e=>?_);cases c with
 | false=>exact isTrue_or_nil e
 | true=>exact e
def dr (ha:PT X a tA) (hb:PW X (.BoolOp .And (b::rest) pos) tB'):PW X (.BoolOp .And (a::b::rest) pos) (Qv tA tB'):=by
 intro wh pins s σ H Q I h;refine isTrue_and (cU (ha pins s σ H _ I h) fun c s1 ⟨H1,I1,q1⟩=>?_);cases c with
 | true=>exact hb wh pins s1 σ H1 Q I1 q1
 | false=>exact⟨H1,I1,q1⟩
def eE (ha:PT X a tA) (hb:PW X (.BoolOp .Or (b::rest) pos) tB'):PW X (.BoolOp .Or (a::b::rest) pos) (TM tA tB'):=by
 intro wh pins s σ H Q I h;refine isTrue_or (cU (ha pins s σ H _ I h) fun c s1 ⟨H1,I1,q1⟩=>?_);cases c with
 | true=>exact⟨H1,I1,q1⟩
 | false=>exact hb wh pins s1 σ H1 Q I1 q1
def d5 (ha:PT X a tA):PT X (.UnaryOp .Not a pos) (Mg tA):=by
 intro pins s σ H Q I h;exact isTrue_not (ha pins s σ H (fun c H1=>Q (!c) H1) I h)
def Py (ta tb:TE):TE:=fun σ H Q=>ta σ H fun x H1=>∃c,x=.bl c/\if c=true then tb σ H1 Q else Q (.bl false) H1
def RS (ta tb:TE):TE:=fun σ H Q=>ta σ H fun x H1=>∃c,x=.bl c/\if c=true then Q (.bl true) H1 else tb σ H1 Q
def Pu (ta:TE):TE:=fun σ H Q=>ta σ H fun x H1=>∃c,x=.bl c/\Q (.bl (!c)) H1
def oC (h:PE X a t):PE X (.BoolOp op [a] pos) t:=fun pins s σ H Q I hw=>BoolOp_one (h pins s σ H Q I hw)
def qR (ha:PE X a ta) (hb:PE X (.BoolOp .And (b::rest) pos) tb):PE X (.BoolOp .And (a::b::rest) pos) (Py ta tb):=by
 intro pins s σ H Q I h;refine BoolOp_and (cU (ha pins s σ H _ I h) fun v s1 zz=>?_);obtain⟨x,H1,I1,r1,q1⟩:=zz;obtain⟨c,rfl,q1⟩:=q1;cases r1;refine wpAny_truthy_bool ?_;cases c with
 | true=>exact hb pins s1 σ H1 Q I1 q1
 | false=>exact⟨.bl false,H1,I1,rfl,q1⟩
def MW (ha:PE X a ta) (hb:PE X (.BoolOp .Or (b::rest) pos) tb):PE X (.BoolOp .Or (a::b::rest) pos) (RS ta tb):=by
 intro pins s σ H Q I h;refine BoolOp_or (cU (ha pins s σ H _ I h) fun v s1 zz=>?_);obtain⟨x,H1,I1,r1,q1⟩:=zz;obtain⟨c,rfl,q1⟩:=q1;cases r1;refine wpAny_truthy_bool ?_;cases c with
 | false=>exact hb pins s1 σ H1 Q I1 q1
 | true=>exact⟨.bl true,H1,I1,rfl,q1⟩
def QL (ha:PE X a ta):PE X (.UnaryOp .Not a pos) (Pu ta):=by
 intro pins s σ H Q I h;refine UnaryOp_ (cU (ha pins s σ H _ I h) fun v s1 zz=>?_);obtain⟨x,H1,I1,r1,q1⟩:=zz;obtain⟨c,rfl,q1⟩:=q1;cases r1;exact not_of (wpAny_truthy_bool ⟨.bl (!c),H1,I1,rfl,q1⟩)
def Uv (t:TT) (ta tb:TE):TE:=fun σ H Q=>t σ H fun c H1=>if c=true then ta σ H1 Q else tb σ H1 Q
def F4 (hc:PT X c tA) (ha:PE X a ta) (hb:PE X b tb):PE X (.IfExp c a b pos) (Uv tA ta tb):=by
 intro pins s σ H Q I h;refine wpAny_IfExp (cU (hc pins s σ H _ I h) fun d s1 ⟨H1,I1,q1⟩=>?_);cases d with
 | true=>exact ha pins s1 σ H1 Q I1 q1
 | false=>exact hb pins s1 σ H1 Q I1 q1
end
end L2
namespace L2
open PySem PySem.Spec PyProof.Rows
def aG (K:yA) (H:Hp) (a:Addr) (xs:List V):Prop:=
 Rd H a (.lst xs)\/
  ∃(o:Obj) (its:Array Value) (n:Nat),K.lookup a=some o/\o.cls=.type "list"/\o.dict=none/\o.data=.seq its n/\its.size<=sizeLine/\Vals xs its.toList
def dw (K:yA) (H:Hp) (a:Addr) (xs:List V):Prop:=
 Rd H a (.tup xs)\/
  ∃(o:Obj) (its:Array Value) (n:Nat),K.lookup a=some o/\o.cls=.type "tuple"/\o.data=.seq its n/\its.size<=sizeLine/\Vals xs its.toList
def Uq:Value->Option V
 | .none=>some .bH
 | .bool b=>some (.bl b)
 | .int i _=>some (.int i)
 | .str x _=>some (.str x)
 | .bytes b _=>some (.J8 b)
 | .float b _=>some (.O4 b)
 | .ref a=>some (.ref a)
 | .type n=>some (.ty n)
 | _=>none
def RelV.abs (r:RelV x u):Uq u=some x:=by
 cases x with
 | bH=>cases r;rfl
 | bl _=>cases r;rfl
 | int _=>obtain⟨t,rfl⟩:=r;rfl
 | str _=>obtain⟨t,rfl⟩:=r;rfl
 | J8 _=>obtain⟨t,rfl⟩:=r;rfl
 | O4 _=>obtain⟨t,rfl⟩:=r;rfl
 | ref _=>cases r;rfl
 | ty _=>cases r;rfl
def RelV.inj (r:RelV x u) (q:RelV y u):x=y:=yj (r.abs.symm.trans q.abs)
theorem Vals.inj:∀{xs ys:List V} {us:List Value},Vals xs us->Vals ys us->xs=ys
 | _,_,_,.nil,.nil=>rfl
 | _,_,_,.cons r t,.cons r' t'=>by rw[r.inj r',Vals.inj t t']
section
variable {X:Cx} {pins:List (Addr×Obj)} {σ:St} {H:Hp} {s:Shared} {a:Addr} {xs ys:List V}
def aG.of {K:yA} (h:H a=some (.lst xs)):aG K H a xs:=.inl (.inl h)
def dw.of {K:yA} (h:H a=some (.tup xs)):dw K H a xs:=.inl (.inl h)
def Inv.list (I:Inv X pins σ H s) (h:aG X.K H a xs):∃its:List Value,Vals xs its/\PlainL s.heap a its.toArray/\xs.length<=sizeLine:=by
 rcases h with h | ⟨o,its,n,hk,hc,hd,hs,hz,r⟩
 ·obtain⟨z,its,n,r,e⟩:=h.ok I.bZ
  exact⟨its,r,⟨_,n,e,rfl,rfl,rfl⟩,z⟩
 ·refine⟨its.toList,r,⟨o,n,I.sZ a o hk,hc,hd,by simpa using hs⟩,?_⟩
  have e:=r.length;simp only[Array.length_toList] at e;omega
def Inv.tuple (I:Inv X pins σ H s) (h:dw X.K H a xs):∃its:List Value,Vals xs its/\IsTup s.heap a its.toArray/\xs.length<=sizeLine:=by
 rcases h with h | ⟨o,its,n,hk,hc,hs,hz,r⟩
 ·obtain⟨z,its,r,p⟩:=h.ok I.bZ
  exact⟨its,r,p,z⟩
 ·refine⟨its.toList,r,⟨o,I.sZ a o hk,hc,n,by simpa using hs⟩,?_⟩
  have e:=r.length;simp only[Array.length_toList] at e;omega
def Inv.sY (I:Inv X pins σ H s) (h:aG X.K H a xs) (h':aG X.K H a ys):xs=ys:=by
 obtain⟨its,r,⟨o,n,e,_,_,d⟩,_⟩:=I.list h;obtain⟨its',r',⟨o',n',e',_,_,d'⟩,_⟩:=I.list h';rw[e] at e';cases e';rw[d] at d';injection d' with d1 _;have:its=its':=by simpa using congrArg Array.toList d1
 subst this;exact r.inj r'
def Inv.Cv (I:Inv X pins σ H s) (h:dw X.K H a xs) (h':dw X.K H a ys):xs=ys:=by
 obtain⟨its,r,⟨o,e,_,n,d⟩,_⟩:=I.tuple h;obtain⟨its',r',⟨o',e',_,n',d'⟩,_⟩:=I.tuple h';rw[e] at e';cases e';rw[d] at d';injection d' with d1 _;have:its=its':=by simpa using congrArg Array.toList d1
 subst this;exact r.inj r'
end
abbrev Cx.rF (X:Cx) (E:Value->Shared->Prop):Cx:={X with xe:=E}
abbrev Cx.Ir (X:Cx):Cx:=X.rF fun _ _=>False
theorem Cx.Ok.rF {X:Cx} (ok:X.Ok) (E:Value->Shared->Prop):(X.rF E).Ok:=
 ⟨ok.mod,ok.kind,ok.glob,ok.blt,ok.above,ok.inj,ok.has,ok.Ro,ok.hd,ok.frames,ok.Rz,ok.S5,ok.bs,ok.LO,ok.wF,ok.IK,ok.pL,ok.GF⟩
def Cx.Ok.hZ {X:Cx} {E:Value->Shared->Prop} (ok:(X.rF E).Ok):X.Ok:=
 ⟨ok.mod,ok.kind,ok.glob,ok.blt,ok.above,ok.inj,ok.has,ok.Ro,ok.hd,ok.frames,ok.Rz,ok.S5,ok.bs,ok.LO,ok.wF,ok.IK,ok.pL,ok.GF⟩
section
variable {X:Cx} {pins:List (Addr×Obj)} {σ:St} {H:Hp} {s:Shared} {E:Value->Shared->Prop}
theorem Inv.rF (I:Inv X pins σ H s) (E:Value->Shared->Prop):Inv (X.rF E) pins σ H s:=⟨I.ok.rF E,I.os,I.bare,I.base,I.loc,I.cell,I.free,I.ke,I.pin,I.bZ,I.len⟩
theorem Inv.hZ (I:Inv (X.rF E) pins σ H s):Inv X pins σ H s:=⟨I.ok.hZ,I.os,I.bare,I.base,I.loc,I.cell,I.free,I.ke,I.pin,I.bZ,I.len⟩
theorem SP.hZ (h:SP (X.rF E) pins D f s'):SP X pins D f s':=by
 cases f with
 | next=>obtain⟨σ',H',I,q⟩:=h;exact⟨σ',H',I.hZ,q⟩
 | brk=>obtain⟨σ',H',I,q⟩:=h;exact⟨σ',H',I.hZ,q⟩
 | cont=>obtain⟨σ',H',I,q⟩:=h;exact⟨σ',H',I.hZ,q⟩
 | ret u=>obtain⟨v,σ',H',I,r,q⟩:=h;exact⟨v,σ',H',I.hZ,r,q⟩
theorem Dg.Ir {st:List Stmt} {t:TS} (h:Dg X.Ir st t):Dg X st t:=fun pins s σ H D I hw=>
 wpAny_mono (h pins s σ H D (I.rF _) hw) (fun _ _ q=>q.hZ) fun _ _ z=>False.elim z
end
section
variable {X:Cx} {st:Stmt} {rest:List Stmt} {t u:TS} {e:Expr} {te:TE} {pos:Pos}
def Pw:TS:=fun D σ H=>D.nx σ H
def Qj (t u:TS):TS:=fun D σ H=>t {D with nx:=u D} σ H
def ax:Dg X [] Pw:=fun _ _ σ H _ I h=>wpAny_execs_nil ⟨σ,H,I,h⟩
def ag (h1:PS X st t) (h2:Dg X rest u):Dg X (st::rest) (Qj t u):=by
 intro pins s σ H D I h;refine wpAny_execs_cons (cU (h1 pins s σ H {D with nx:=u D} I h) fun f s1 q=>?_);cases f with
 | next=>
  obtain⟨σ',H',I',q⟩:=q;exact h2 pins s1 σ' H' D I' q
 | ret v=>exact q
 | brk=>exact q
 | cont=>exact q
def aj (h1:PS X st t):Dg X [st] t:=by
 intro pins s σ H D I h;refine wpAny_execs_cons (cU (h1 pins s σ H D I h) fun f s1 q=>?_);cases f with
 | next=>exact wpAny_execs_nil q
 | ret v=>exact q
 | brk=>exact q
 | cont=>exact q
def Inv.quiet (I:Inv X pins σ H s):interactive X.env=false:=by simp[interactive,I.ok.kind]
def Px (te:TE):TS:=fun D σ H=>te σ H fun _ H1=>D.nx σ H1
def bM (he:PE X e te) (hs:swapsWith e none pos.line X.env=pure false<|>qe_):PS X (.Expr e pos) (Px te):=by
 intro pins s σ H D I h;exact wpAny_Expr_any (cU (he pins s σ H _ I h) fun v s1 ⟨x,H1,I1,r1,q1⟩=>⟨σ,H1,I1,q1⟩) I.quiet hs
def Qk (te:TE):TS:=fun D σ H=>te σ H D.rt
def aq (he:PE X e te):PS X (.Return (some e) pos) (Qk te):=by
 intro pins s σ H D I h;exact wpAny_Return_some (cU (he pins s σ H _ I h) fun v s1 ⟨x,H1,I1,r1,q1⟩=>⟨x,σ,H1,I1,r1,q1⟩)
def Oi (c:TT) (t u:TS):TS:=fun D σ H=>c σ H fun b H1=>if b=true then t D σ H1 else u D σ H1
def aH (hc:PT X c tc) (ha:Dg X a t) (hb:Dg X b u):PS X (.If c a b pos) (Oi tc t u):=by
 intro pins s σ H D I h;refine wpAny_If (cU (hc pins s σ H _ I h) fun d s1 ⟨H1,I1,q1⟩=>?_);cases d with
 | true=>exact ha pins s1 σ H1 D I1 q1
 | false=>exact hb pins s1 σ H1 D I1 q1
def Qm:TS:=fun _ _ _=>False
def F2:PS X st Qm:=fun _ _ _ _ _ _ h=>h.elim
end
abbrev TG:=V->St->Hp->(St->Hp->Prop)->Prop
abbrev SF:=List V->St->Hp->(St->Hp->Prop)->Prop
def PG (X:Cx) (target:Expr) (t:TG):Prop:=
 ∀(pins:List (Addr×Obj)) (s:Shared) (σ:St) (H:Hp) (v:V) (u:Value) (Q:St->Hp->Prop),Inv X pins σ H s->RelV v u->t v σ H Q->
  wpAny (model X.prog X.w) X.A (assign target X.env u) (fun _ s'=>∃σ' H',Inv X pins σ' H' s'/\Q σ' H') X.xe s
def S8 (X:Cx) (ts:List Expr) (t:SF):Prop:=
 ∀(pins:List (Addr×Obj)) (s:Shared) (σ:St) (H:Hp) (vs:List V) (us:List Value) (Q:St->Hp->Prop),Inv X pins σ H s->Vals vs us->t vs σ H Q->
  wpAny (model X.prog X.w) X.A (assignInOrder ((assignEach ts X.env).map (·.2)) us) (fun _ s'=>∃σ' H',Inv X pins σ' H' s'/\Q σ' H') X.xe s
section
variable {X:Cx} {pos:Pos}
def bV (i:Nat):TG:=fun v σ H Q=>Q (σ.set i (some v)) H
def JO (hN:X.N.Nodup) (hi:X.N[i]?=some x) (hx:Loc X.env.scope x) (hf:X.fn x=true\/X.env.scope.names.lookup x=some .local<|>qa_):PG X (.Name x pos) (bV i):=by
 intro pins s σ H v u Q I r h;exact wpAny_assign_Name (nL I hN hi hx r (fun s' I'=>⟨_,H,I',h⟩) hf)
def GD:SF:=fun vs σ H Q=>vs=[]/\Q σ H
def gb (t:TG) (u:SF):SF:=fun vs σ H Q=>∃v r,vs=v::r/\t v σ H fun σ' H'=>u r σ' H' Q
def cZ:S8 X [] GD:=by
 intro pins s σ H vs us Q I r h;obtain⟨e,h⟩:=h;subst e;cases r;exact assignInOrder_nil ⟨σ,H,I,h⟩
def aK (h1:PG X e t) (h2:S8 X es u)
  (hs:(assignEach (e::es) X.env).map (·.2)=assign e X.env::(assignEach es X.env).map (·.2)<|>qe_):S8 X (e::es) (gb t u):=by
 intro pins s σ H vs us Q I r h;obtain⟨v,vr,e1,h⟩:=h;subst e1;cases r with
 | cons r rr=>
  rw[hs];refine assignInOrder_cons (cU (h1 pins s σ H _ _ _ I r h) fun _ s1 ⟨σ1,H1,I1,q1⟩=>?_);exact h2 pins s1 σ1 H1 _ _ Q I1 rr q1
def GC (K:yA) (n:Nat) (t:SF):TG:=fun v σ H Q=>∃a xs,v=.ref a/\dw K H a xs/\xs.length=n/\t xs σ H Q
def d6 (hc:X.calm=true) (h:S8 X es t)
  (hn:(assignEach es X.env).length=n<|>qe_) (hst:(assignEach es X.env).findIdx? (·.1)=none<|>qe_):PG X (.Tuple es k pos) (GC X.K n t):=by
 intro pins s σ H v u Q I r hw;obtain⟨a,xs,e1,hq,hl,hw⟩:=hw;subst e1;cases r;obtain⟨its,rv,ht,hz⟩:=I.tuple hq;refine assign_Tuple_tuple (I.ok.hd hc) ht (by simp[hn,<-hl,rv.length]) hst fun h' hx=>?_;have I1:Inv X pins σ H {s with heap:=h'}:=I.kept (t':=s.toks) fun b o e=>hx b o (yi (yx e)) e;exact h pins _ σ H xs _ Q I1 (by simpa using rv) hw
def Fz (te:TE) (g:TG):TS:=fun D σ H=>te σ H fun x H1=>g x σ H1 D.nx
def MP (hN:X.N.Nodup) (hi:X.N[i]?=some x) (hx:Loc X.env.scope x) (he:PE X e te) (hs:swapsWith e (some (.Name x pos')) pos.line X.env=pure false<|>qe_) (hf:X.fn x=true\/X.env.scope.names.lookup x=some .local<|>qa_) :
  PS X (.Assign [.Name x pos'] e pos) (Fz te (bV i)):=by
 intro pins s σ H D I h;refine wpAny_Assign_Name (cU (he pins s σ H _ I h) fun v s1 ⟨y,H1,I1,r1,q1⟩=>?_) hs;exact nL I1 hN hi hx r1 (fun s2 I2=>⟨_,H1,I2,q1⟩) hf
def TL (i j:Nat) (ta:TA):TS:=fun D σ H=>ta σ H fun vs H1=>∃v w,vs=[v,w]/\D.nx ((σ.set i (some v)).set j (some w)) H1
def MQ (hc:X.calm=true) (hN:X.N.Nodup) (hi:X.N[i]?=some x) (hj:X.N[j]?=some y) (hij:i≠j)
  (hx:X.env.scope.names.lookup x=some .local) (hy:X.env.scope.names.lookup y=some .local) (ha:PA X [a,b] ta)
  (hw:swappedStores [.Tuple [.Name x px,.Name y py] kt pt] (.Tuple [a,b] k2 pt2) X.env=pure (some [x,y]))
  (hs:swapsWithSole [.Tuple [.Name x px,.Name y py] kt pt] (.Tuple [a,b] k2 pt2) pos.line X.env=pure false<|>qe_) :
  PS X (.Assign [.Tuple [.Name x px,.Name y py] kt pt] (.Tuple [a,b] k2 pt2) pos) (TL i j ta):=by
 intro pins s σ H D I h;rw[exec_Assign_arm];refine yt (wpAny_standAt ?_);rw[hs];refine yt (yv ?_);rw[if_neg ∅];refine yt (Tuple_ (cU (ha _ pins s σ H _ I h) fun us s1 zz=>?_));obtain⟨vs,H1,I1,r1,q1⟩:=zz;obtain⟨v,w,e1,q1⟩:=q1;subst e1;obtain⟨u1,u2,rfl,rv,rw'⟩:∃u1 u2,us=[u1,u2]/\RelV v u1/\RelV w u2:=by
  cases r1 with
  | cons p q=>
   cases q with
   | cons p' q'=>
    cases q';exact⟨_,_,rfl,p,p'⟩
 refine wpAny_newObj_type ?_ (by show 2<=sizeLine;decide);have I2:Inv X pins σ H1 {s1 with heap:=s1.heap.push {cls:=.type "tuple",data:=.seq [u1,u2].toArray}}:=I1.kept (t':=s1.toks) fun b o e=>yu _ e;rw[hw];refine yt (yv ?_);show wpAny (model X.prog X.w) X.A (do rule "assign.swapped-stores";let items <-unpackItems (.ref ↑s1) 2 none;assignInOrder [fun v=>bindName X.env y v,fun v=>bindName X.env x v] items.reverse;pure Flow.next) _ _ _;refine yt (wpAny_rule (yt (unpackItems_tuple (items:=#[u1,u2]) (I.ok.hd hc) (IsTup.new s1.heap _) fun h' hx'=>?_)));have I3:=I2.kept (h':=h') (t':=s1.toks) fun b o e=>hx' b o (yi (yx e)) e;show wpAny _ _ (assignInOrder [fun v=>bindName X.env y v,fun v=>bindName X.env x v] [u2,u1] >>= fun _=>pure Flow.next) _ _ _;refine yt (assignInOrder_cons (wpAny_bindName (nL I3 hN hj (.inl hy) rw' (fun s2 I4=>?_) (.inr hy))));refine assignInOrder_cons (wpAny_bindName (nL I4 hN hi (.inl hx) rv (fun s3 I5=>assignInOrder_nil (yv ?_)) (.inr hx)));rw[List.set_comm _ _ (Ne.symm hij)] at I5;exact⟨_,H1,I5,q1⟩
end
section
variable {X:Cx} {pos:Pos}
def Md (c:TT) (tb:TS):TS:=fun D σ H=>∃W:Nat->St->Hp->Prop,(∃m,W m σ H)/\∀m σ H,W m σ H->
 c σ H fun b H1=>if b=true then∃N:St->Hp->Prop,(∀σ' H',N σ' H'->∃m',m'<m/\W m' σ' H')/\tb {D with nx:=N,ct:=N,bk:=D.nx} σ H1 else D.nx σ H1
def sJ (hp:PassesOwn (model X.prog X.w) X.A X.env X.xe) (hc:PT X c tc) (hb:Dg X body tb):PS X (.While c body [] pos) (Md tc tb):=by
 intro pins s σ H D I h;obtain⟨W,⟨m0,w0⟩,turn⟩:=h;refine wpAny_While (codeAny_whileLoop (fun n s'=>∃σ' H',Inv X pins σ' H' s'/\W n σ' H') ?_ m0 ⟨σ,H,I,w0⟩);rintro n s1 ⟨σ1,H1,I1,w1⟩;refine wpAny_passesOwn hp (cU (hc pins s1 σ1 H1 _ I1 (turn n σ1 H1 w1)) fun b s2 ⟨H2,I2,q2⟩=>?_);cases b with
 | true=>
  obtain⟨N,hN,q2⟩:=q2;rw[if_pos rfl];refine wpAny_passesOwn hp (cU (hb pins s2 σ1 H2 _ I2 q2) fun f s3 q3=>?_);cases f with
  | next=>
   obtain⟨σ3,H3,I3,n3⟩:=q3;obtain⟨m',hm,w3⟩:=hN σ3 H3 n3;exact⟨m',hm,σ3,H3,I3,w3⟩
  | cont=>
   obtain⟨σ3,H3,I3,n3⟩:=q3;obtain⟨m',hm,w3⟩:=hN σ3 H3 n3;exact⟨m',hm,σ3,H3,I3,w3⟩
  | brk=>exact q3
  | ret v=>exact q3
 | false=>
  rw[if_neg zK];exact wpAny_execs_nil ⟨σ1,H2,I2,q2⟩
end
structure It where
 go:Nat->Hp->Prop
 Jz:Nat->Hp->V->Hp->Prop
 stop:Nat->Hp->Prop
def rE (X:Cx) (pins:List (Addr×Obj)) (H:Hp) (b:Addr):Prop:=
 H b=none/\b≠X.env.locals/\b∉X.fs/\(b∈X.ex\/X.s₀.heap.objs.size<=b)/\(∀x c,X.env.cells.lookup x=some c->c≠b)/\∀p∈X.pn++pins,p.1≠b
def Inv.uM (I:Inv X pins σ H s) (hb:↑s<=b) (hn:H' b=none):rE X pins H' b:=by
 refine⟨hn,yh (yb I.lt hb),I.R9 hb,.inr (zL I.sz hb),fun x c e z=>?_,fun p hp z=>?_⟩
 ·obtain⟨v,q⟩:=I.cell x c e
  exact absurd (yb q.lt (by rw[z];exact hb)) (ye _)
 ·exact absurd (yb (yx (I.pin p hp).1) (by rw[z];exact hb)) (ye _)
structure Turn (P:Program) (w:World) (K:yA) (tg:Expr) (J:It) (fp:List Addr) (it:Addr) (tn:Nat->Heap->Prop):Prop where
 mem:it∈fp
 obj:∀i h,tn i h->∀b∈fp,∃o,h.get? b=some o/\∀v,o.data≠.cell v
 keep:∀i h h',tn i h->(∀b∈fp,∀o,h.get? b=some o->h'.get? b=some o)->tn i h'
 item:∀(X:Cx),X.prog=P->X.w=w->X.K=K->X.calm=true->∀(i:Nat) (pins:List (Addr×Obj)) (s:Shared) (σ:St) (H:Hp) (E:Value->Shared->Prop),Inv X pins σ H s->(∀b∈fp,rE X pins H b)->tn i s.heap->J.go i H->
  wpAny (model P w) X.A (pyNext (.ref it)) (fun r s1=>∃u,r=some u/\
   wpAny (model P w) X.A (letOwnedTupleGo tg (.ref it) u) (fun _ s2=>∃x H',Inv X pins σ H' s2/\RelV x u/\J.Jz i H x H'/\tn (i+1) s2.heap/\∀b∈fp,H' b=none) E s1) E s
 done:∀(X:Cx),X.prog=P->X.w=w->X.K=K->X.calm=true->∀(i:Nat) (pins:List (Addr×Obj)) (s:Shared) (σ:St) (H:Hp) (E:Value->Shared->Prop),Inv X pins σ H s->(∀b∈fp,rE X pins H b)->tn i s.heap->J.stop i H->
  wpAny (model P w) X.A (pyNext (.ref it)) (fun r s1=>r=none/\Inv X pins σ H s1) E s
 self:∀(A:Around) (i:Nat) (s:Shared) (Q:Value->Shared->Prop) (E:Value->Shared->Prop),tn i s.heap->Q (.ref it) s->wpAny (model P w) A (pyIter (.ref it)) Q E s
abbrev TI:=St->Hp->(It->Hp->Prop)->Prop
def UB (X:Cx) (pins:List (Addr×Obj)) (σ:St) (tg:Expr) (R:It->Hp->Prop) (itv:Value) (s2:Shared):Prop:=
 ∃(it:Addr) (fp:List Addr) (tn:Nat->Heap->Prop) (J:It) (H':Hp),itv=.ref it/\Inv X pins σ H' s2/\Turn X.prog X.w X.K tg J fp it tn/\tn 0 s2.heap/\(∀b∈fp,rE X pins H' b)/\R J H'
def PI (X:Cx) (tg iter:Expr) (wi:TI):Prop:=
 ∀(pins:List (Addr×Obj)) (s:Shared) (σ:St) (H:Hp) (R:It->Hp->Prop),Inv X pins σ H s->wi σ H R->
  wpAny (model X.prog X.w) X.A (eval iter X.env) (fun v s1=>wpAny (model X.prog X.w) X.A (pyIter v) (UB X pins σ tg R) X.xe s1) X.xe s
def Au (ho:s.heap.get? it=some o) (hc:o.cls=.type n) (hd:o.data=.fields vs)
    (hn:["enumerate","zip","dict_itemiterator","dict_reverseitemiterator","odict_iterator","itertools.zip_longest","itertools.pairwise"].contains n=false) (hQ:Q () s):wpAny M A (letOwnedTupleGo tg (.ref it) u) Q E s:=by
  unfold letOwnedTupleGo;cases tg <;> first
    | exact yv hQ
    | (cases u <;> first
        | exact yv hQ
        | (refine yt (wpAny_load ho ?_)
           rw[hc,hd];show wpAny M A (if(["enumerate","zip","dict_itemiterator","dict_reverseitemiterator","odict_iterator","itertools.zip_longest","itertools.pairwise"].contains n&&vs[0]? == some (rawInt _))=true then _ else _) Q E s;rw[if_neg (by intro h;rw[hn,Bool.false_and] at h;cases h)];exact yv hQ))
def LR (K:yA) (a:Addr):It:=
 ⟨fun i H=>∃xs x,aG K H a xs/\xs[i]?=some x,fun i H x H'=>H'=H/\∀xs,aG K H a xs->xs[i]?=some x,fun i H=>∃xs,aG K H a xs/\xs.length<=i⟩
def P6 (K:yA) (a:Addr):It:=
 ⟨fun i H=>∃xs x,dw K H a xs/\xs[i]?=some x,fun i H x H'=>H'=H/\∀xs,dw K H a xs->xs[i]?=some x,fun i H=>∃xs,dw K H a xs/\xs.length<=i⟩
def N4 (lo:Int) (n:Nat):It:=⟨fun i _=>i<n,fun i H x H'=>H'=H/\x=.int (lo+i),fun i _=>n<=i⟩
def Km {P:Program} {w:World} {K:yA} {tg:Expr} (a it:Addr):Turn P w K tg (LR K a) [it] it (fun i h=>h.IsListIter it a i) where
 mem:=by simp
 obj:=fun i h st b hb=>by
  have e:b=it:=by simpa using hb
  subst e;obtain⟨o,e,c,d⟩:=st;exact⟨o,e,fun v z=>by rw[d] at z;cases z⟩
 keep:=fun i h h' st k=>st.at fun o e=>k it (by simp) o e
 item:=by
  intro X hP hw hK hc i pins s σ H E I hf st hg;subst hP hw hK;obtain⟨xs,x,hq,hx⟩:=hg;obtain⟨its,rv,p,hz⟩:=I.list hq;obtain⟨u,hu,ru⟩:=rv.get hx;obtain⟨f0,f1,f2,f3,f4,f5⟩:=hf it (by simp);refine wpAny_pyNext_list_item st p.isList (x:=u) (by simpa using hu) fun h' st' sb=>?_;have I1:Inv X pins σ H {s with heap:=h'}:=I.turned (t':=s.toks) (fun b o hb e=>(sb.2 b hb).trans e) f0 f1 f3 f4 f5;obtain⟨o,e,c,d⟩:=id st';exact⟨u,rfl,Au (s:={s with heap:=h'}) e c d ∅ ⟨x,H,I1,ru,⟨rfl,fun ys hy=>by rw[I.sY hy hq];exact hx⟩,st',fun b hb=>(hf b hb).1⟩⟩
 done:=by
  intro X hP hw hK hc i pins s σ H E I hf st hg;subst hP hw hK;obtain⟨xs,hq,hx⟩:=hg;obtain⟨its,rv,p,hz⟩:=I.list hq;obtain⟨f0,f1,f2,f3,f4,f5⟩:=hf it (by simp);have hl:=rv.length;exact wpAny_pyNext_list_end (I.ok.hd hc) st p.isList (by simp;omega) fun h' eb=>⟨rfl,I.turned (t':=s.toks) (fun b o hb e=>eb b o hb e) f0 f1 f3 f4 f5⟩
 self:=fun _ _ _ _ _ st h=>wpAny_pyIter_listiter st h
def HN {P:Program} {w:World} {K:yA} {tg:Expr} (a it:Addr):Turn P w K tg (P6 K a) [it] it (fun i h=>h.IsTupleIter it a i) where
 mem:=by simp
 obj:=fun i h st b hb=>by
  have e:b=it:=by simpa using hb
  subst e;obtain⟨o,e,c,d⟩:=st;exact⟨o,e,fun v z=>by rw[d] at z;cases z⟩
 keep:=fun i h h' st k=>st.at fun o e=>k it (by simp) o e
 item:=by
  intro X hP hw hK hc i pins s σ H E I hf st hg;subst hP hw hK;obtain⟨xs,x,hq,hx⟩:=hg;obtain⟨its,rv,p,hz⟩:=I.tuple hq;obtain⟨u,hu,ru⟩:=rv.get hx;obtain⟨f0,f1,f2,f3,f4,f5⟩:=hf it (by simp);refine wpAny_pyNext_tuple_item st (show s.heap.IsTuple a its.toArray from p) (x:=u) (by simpa using hu) fun h' st' sb=>?_;have I1:Inv X pins σ H {s with heap:=h'}:=I.turned (t':=s.toks) (fun b o hb e=>(sb.2 b hb).trans e) f0 f1 f3 f4 f5;obtain⟨o,e,c,d⟩:=id st';exact⟨u,rfl,Au (s:={s with heap:=h'}) e c d ∅ ⟨x,H,I1,ru,⟨rfl,fun ys hy=>by rw[I.Cv hy hq];exact hx⟩,st',fun b hb=>(hf b hb).1⟩⟩
 done:=by
  intro X hP hw hK hc i pins s σ H E I hf st hg;subst hP hw hK;obtain⟨xs,hq,hx⟩:=hg;obtain⟨its,rv,p,hz⟩:=I.tuple hq;obtain⟨f0,f1,f2,f3,f4,f5⟩:=hf it (by simp);have hl:=rv.length;exact wpAny_pyNext_tuple_end (I.ok.hd hc) st (show s.heap.IsTuple a its.toArray from p) (by simp;omega) fun h' eb=>⟨rfl,I.turned (t':=s.toks) (fun b o hb e=>eb b o hb e) f0 f1 f3 f4 f5⟩
 self:=fun _ _ _ _ _ st h=>wpAny_pyIter_tupleiter st h
def HP {P:Program} {w:World} {K:yA} {tg:Expr} (it:Addr) (lo:Int) (n:Nat):Turn P w K tg (N4 lo n) [it] it (fun i h=>IsRangeIter h it (lo+(i:Nat)*1) ((n:Int)-(i:Nat)) 1) where
 mem:=by simp
 obj:=fun i h st b hb=>by
  have e:b=it:=by simpa using hb
  subst e;exact⟨_,st,fun v z=>by
   have z':Data.fields _=Data.cell v:=z;cases z'⟩
 keep:=fun i h h' st k=>k it (by simp) _ st
 item:=by
  intro X hP hw hK hc i pins s σ H E I hf st hg;subst hP hw hK;obtain⟨f0,f1,f2,f3,f4,f5⟩:=hf it (by simp);have W:=Walks.range (prog:=X.prog) (w:=X.w) (I.ok.hd hc) it lo 1 n;refine W.item i s _ _ hg st fun v h' tk hv st' kk=>?_;obtain⟨t,rfl⟩:=hv;have I1:Inv X pins σ H {s with heap:=h',toks:=tk}:=I.turned (fun b o hb e=>kk b o (by simpa using hb) e) f0 f1 f3 f4 f5;refine⟨_,rfl,Au (s:={s with heap:=h',toks:=tk}) (n:="range_iterator") st' rfl rfl ∅ ⟨.int (lo+i),H,I1,⟨t,?_⟩,⟨rfl,rfl⟩,st',fun b hb=>(hf b hb).1⟩⟩;rw[Int.mul_one]
 done:=by
  intro X hP hw hK hc i pins s σ H E I hf st hg;subst hP hw hK;obtain⟨f0,f1,f2,f3,f4,f5⟩:=hf it (by simp);exact wpAny_pyNext_range_end (I.ok.hd hc) st (by have:n<=i:=hg;omega) fun h' eb=>⟨rfl,I.turned (t':=s.toks) (fun b o hb e=>eb b o hb e) f0 f1 f3 f4 f5⟩
 self:=fun _ _ _ _ _ st h=>wpAny_pyIter_rangeiter st h
end L2
namespace L2
open PySem PySem.Spec PyProof.Rows
section
variable {X:Cx} {tg:Expr}
def JW (K:yA) (tl:TE):TI:=fun σ H R=>tl σ H fun x H1=>∃a,x=.ref a/\(∃xs,aG K H1 a xs)/\R (LR K a) H1
def Ue (K:yA) (tl:TE):TI:=fun σ H R=>tl σ H fun x H1=>∃a,x=.ref a/\(∃xs,dw K H1 a xs)/\R (P6 K a) H1
def bc {l:Expr} {tl:TE} (hl:PE X l tl):PI X tg l (JW X.K tl):=by
 intro pins s σ H R I h;refine cU (hl pins s σ H _ I h) fun v s1 zz=>?_;obtain⟨x,H1,I1,r1,q1⟩:=zz;obtain⟨a,e,⟨xs,hq⟩,q⟩:=q1;subst e;cases r1;obtain⟨its,rv,p,hz⟩:=I1.list hq;refine wpAny_pyIter_list p.isList ?_;refine⟨↑s1,[↑s1],_,_,H1,rfl,I1.kept (t':=s1.toks) fun b o e=>yu _ e,Km a _,⟨_,yw _ rfl,rfl,rfl⟩,fun b hb=>?_,q⟩;have e:b=↑s1:=by simpa using hb
 subst e;exact I1.uM (zk _) (I1.bZ.fresh (zk _))
def kA {l:Expr} {tl:TE} (hl:PE X l tl):PI X tg l (Ue X.K tl):=by
 intro pins s σ H R I h;refine cU (hl pins s σ H _ I h) fun v s1 zz=>?_;obtain⟨x,H1,I1,r1,q1⟩:=zz;obtain⟨a,e,⟨xs,hq⟩,q⟩:=q1;subst e;cases r1;obtain⟨its,rv,p,hz⟩:=I1.tuple hq;refine wpAny_pyIter_tuple (show s1.heap.IsTuple a its.toArray from p) ?_;refine⟨↑s1,[↑s1],_,_,H1,rfl,I1.kept (t':=s1.toks) fun b o e=>yu _ e,HN a _,⟨_,yw _ rfl,rfl,rfl⟩,fun b hb=>?_,q⟩;have e:b=↑s1:=by simpa using hb
 subst e;exact I1.uM (zk _) (I1.bZ.fresh (zk _))
def FY {pins:List (Addr×Obj)} {σ:St} {H:Hp} {s:Shared} {R:It->Hp->Prop} {E:Value->Shared->Prop} {lo hi:Int} {t u v:Tok} {tk:Nat} (I:Inv X pins σ H s) (h1:-(2^62)<=lo) (h2:lo<2^62) (h3:-(2^62)<=hi) (h4:hi<2^62)
  (q:R (N4 lo (hi-lo).toNat) H):wpAny (model X.prog X.w) X.A (pyIter (.ref ↑s)) (UB X pins σ tg R) E {s with heap:=s.heap.push {cls:=.type "range",data:=.fields #[.int lo t,.int hi u,.int 1 v]},toks:=tk}:=by
 refine wpAny_pyIter_range (IsRange.new ..) (small_one h1 h2 h3 h4) ?_;have I1:Inv X pins σ H {s with heap:=s.heap.push {cls:=.type "range",data:=.fields #[.int lo t,.int hi u,.int 1 v]},toks:=tk}:=I.kept fun b o e=>yu _ e;refine⟨(s.heap.push {cls:=.type "range",data:=.fields #[.int lo t,.int hi u,.int 1 v]}).objs.size,[(s.heap.push {cls:=.type "range",data:=.fields #[.int lo t,.int hi u,.int 1 v]}).objs.size],_,_,H,rfl,
  I1.kept (t':=tk) fun b o e=>yu _ e,HP _ lo (hi-lo).toNat,?_,fun b hb=>?_,q⟩
 ·have e1:lo+((0:Nat):Int)*1=lo:=by simp
  have e2:(((hi-lo).toNat:Nat):Int)-((0:Nat):Int)=Builtin.Range.rangeSize lo hi 1:=by rw[rangeSize_one];split <;> omega
  show IsRangeIter _ _ (lo+((0:Nat):Int)*1) ((((hi-lo).toNat:Nat):Int)-((0:Nat):Int)) 1;rw[e1,e2];exact yw _ rfl
 ·have e:b=(s.heap.push {cls:=.type "range",data:=.fields #[.int lo t,.int hi u,.int 1 v]}).objs.size:=by simpa using hb
  subst e;exact I1.uM (zk _) (I1.bZ.fresh (zk _))
def Nt (ta:TA):TI:=fun σ H R=>ta σ H fun vs H1=>∃j:Int,vs=[.int j]/\-(2^62)<=j/\j<2^62/\R (N4 0 j.toNat) H1
def Sm (ta:TA):TI:=fun σ H R=>ta σ H fun vs H1=>∃i j:Int,vs=[.int i,.int j]/\(-(2^62)<=i/\i<2^62/\-(2^62)<=j/\j<2^62)/\R (N4 i (j-i).toNat) H1
def cS {a:Expr} {ta:TA} {p pos:Pos} (hg:Gl X "range") (hm:X.mg "range"= none) (ha:PA X [a] ta) (hs:starEach [a] X.env=[(false,eval a X.env)]<|>qe_):PI X tg (.Call (.Name "range" p) [a] [] pos) (Nt ta):=by
 intro pins s σ H R I h;refine Call_ (iA I hg hm boot_range (yL (cU (ha pos pins s σ H _ I h) fun us s1 ⟨vs,H1,I1,r1,q1⟩=>?_) hs rfl));obtain⟨j,e,q1,q2,q⟩:=q1;subst e;cases r1 with
 | cons r rr=>
  cases rr;obtain⟨t,rfl⟩:=r;exact call_range_1 (FY I1 nofun nofun q1 q2 (by simpa using q))
def CI (hg:Gl X "range") (hm:X.mg "range"= none) (ha:PA X [a,b] ta) (hs:starEach [a,b] X.env=[(false,eval a X.env),(false,eval b X.env)]<|>qe_) (hs2:starEach [b] X.env=[(false,eval b X.env)]<|>qe_) :
  PI X tg (.Call (.Name "range" p) [a,b] [] pos) (Sm ta):=by
 intro pins s σ H R I h;refine Call_ (iA I hg hm boot_range (yL (cU (ha pos pins s σ H _ I h) fun us s1 ⟨vs,H1,I1,r1,q1⟩=>?_) (by rw[hs,hs2]) (by rw[hs2];rfl)));obtain⟨i,j,e,⟨q1,q2,q3,q4⟩,q⟩:=q1;subst e;cases r1 with
 | cons r rr=>
  cases rr with
  | cons r' rr=>
   cases rr;obtain⟨t,rfl⟩:=r;obtain⟨t',rfl⟩:=r';exact call_range_2 (FY I1 q1 q2 q3 q4 q)
def Qp (wi:TI) (g:TG) (tb:TS):TS:=fun D σ H=>wi σ H fun J H1=>∃W:Nat->Nat->St->Hp->Prop,(∃m,W 0 m σ H1)/\∀i m σ H,W i m σ H->
 (J.stop i H/\D.nx σ H)\/(J.go i H/\∃N:St->Hp->Prop,(∀σ' H',N σ' H'->∃m',m'<m/\W (i+1) m' σ' H')/\∀x H',J.Jz i H x H'->g x σ H' fun σ2 H2=>tb {D with nx:=N,ct:=N,bk:=D.nx} σ2 H2)
def ux (fp:List Addr) (h:Heap):List (Addr×Obj):=fp.filterMap fun b=>(h.get? b).map fun o=>(b,o)
def gA (hb:b∈fp) (e:h.get? b=some o):(b,o)∈ux fp h:=List.mem_filterMap.mpr ⟨b,hb,by rw[e];rfl⟩
def KP (hp:p∈ux fp h):p.1∈fp/\h.get? p.1=some p.2:=by
 obtain⟨b,hb,e⟩:=List.mem_filterMap.mp hp;cases q:h.get? b with
 | none=>rw[q] at e;cases e
 | some o=>
  rw[q] at e;have e':(b,o)=p:=yj e;subst e';exact⟨hb,q⟩
def Inv.pinned (I:Inv X pins σ H s) (hf:∀b∈fp,rE X pins H b) (ho:∀b∈fp,∃o,s.heap.get? b=some o/\∀v,o.data≠.cell v):Inv X (pins++ux fp s.heap) σ H s:=
 I.oZ fun p hp=>(zF.mp hp).elim (fun z=>I.pin p (zH _ z)) fun z=>by
  obtain⟨hb,e⟩:=KP z;obtain⟨f0,f1,f2,_⟩:=hf p.1 hb;obtain⟨o,e',d⟩:=ho p.1 hb;rw[e] at e';cases e';exact⟨e,f0,f1,f2,d⟩
def Inv.xC (I:Inv X (pins++pl) σ H s):Inv X pins σ H s:=I.oZ fun p hp=>I.pin p (zH _ (zI _ hp))
def cA (hp:PassesOwn (model X.prog X.w) X.A X.env X.xe) (hc:X.calm=true) (hi:PI X tg iter wi) (hg:PG X tg g) (hb:Dg X body tb)
  (hs:(∀x,foldedSetIterable iter X.env x=pure x)<|>qd_):PS X (.For tg iter body [] pos) (Qp wi g tb):=by
 intro pins s σ H D I h;refine wpAny_For (cU (hi pins s σ H _ I h) fun v s1 h1=>cU h1 fun itv s2 h2=>?_) hs;obtain⟨it,fp,tn,J,H2,e,I2,T,st2,f2,W,⟨m0,w0⟩,turn⟩:=h2;subst e;have stat:∀{H':Hp},(∀b∈fp,H' b=none)->∀b∈fp,rE X pins H' b:=fun hn b hb=>⟨hn b hb,(f2 b hb).2⟩
 refine codeAny_forLoop_any (fun n s'=>∃i σ' H',Inv X pins σ' H' s'/\tn i s'.heap/\(∀b∈fp,H' b=none)/\W i n σ' H') ?_ m0 ⟨0,σ,H2,I2,st2,fun b hb=>(f2 b hb).1,w0⟩;rintro n s3 ⟨i,σ3,H3,I3,st3,fr3,w3⟩;rcases turn i n σ3 H3 w3 with⟨stop,qn⟩ | ⟨go,N,hN,step⟩
 ·refine wpAny_passesOwn hp (cU (T.done X rfl rfl rfl hc i pins s3 σ3 H3 X.xe I3 (stat fr3) st3 stop) fun r s4 ⟨hr,I4⟩=>?_)
  subst hr;exact wpAny_execs_nil ⟨σ3,H3,I4,qn⟩
 ·refine wpAny_passesOwn hp (cU (T.item X rfl rfl rfl hc i pins s3 σ3 H3 X.xe I3 (stat fr3) st3 go) fun r s4 ⟨u,hr,h4⟩=>?_)
  subst hr;refine wpAny_passesOwn hp (cU h4 fun _ s5 zz=>?_);obtain⟨x,H5,I5,r5,y5,st5,fr5⟩:=zz;have I5':=I5.pinned (stat fr5) (T.obj _ _ st5);refine wpAny_passesOwn hp (cU (hg _ s5 σ3 H5 x u _ I5' r5 (step x H5 y5)) fun _ s6 ⟨σ6,H6,I6,q6⟩=>?_);refine wpAny_passesOwn hp (cU (hb _ s6 σ6 H6 _ I6 q6) fun f s7 q7=>?_);have again:∀{σ7:St} {H7:Hp},Inv X (pins++ux fp s5.heap) σ7 H7 s7->N σ7 H7->∃m,m<n/\∃i σ' H',Inv X pins σ' H' s7/\tn i s7.heap/\(∀b∈fp,H' b=none)/\W i m σ' H':=fun {σ7 H7} I7 n7=>by
   obtain⟨m',hm,w7⟩:=hN σ7 H7 n7;refine⟨m',hm,i+1,σ7,H7,I7.xC,T.keep _ _ _ st5 fun b hb o e=>(I7.pin (b,o) (zH _ (zH _ (gA hb e)))).1,fun b hb=>?_,w7⟩;obtain⟨o,e,d⟩:=T.obj _ _ st5 b hb;exact(I7.pin (b,o) (zH _ (zH _ (gA hb e)))).2.1
  cases f with
  | next=>obtain⟨σ7,H7,I7,n7⟩:=q7;exact again I7 n7
  | cont=>obtain⟨σ7,H7,I7,n7⟩:=q7;exact again I7 n7
  | brk=>obtain⟨σ7,H7,I7,q7⟩:=q7;exact⟨σ7,H7,I7.xC,q7⟩
  | ret v=>obtain⟨x7,σ7,H7,I7,r7,q7⟩:=q7;exact⟨x7,σ7,H7,I7.xC,r7,q7⟩
end
def dJ {K:yA} {a:Addr} {xs:List V} {g:TG} {tb:TS} {D:Ends} {σ:St} {H:Hp} (Pv:Nat->St->Hp->Prop) (h0:Pv 0 σ H) (hl:∀i σ H,i<=xs.length->Pv i σ H->aG K H a xs)
  (hs:∀i x σ H,xs[i]?=some x->Pv i σ H->g x σ H fun σ2 H2=>tb {D with nx:=Pv (i+1),ct:=Pv (i+1),bk:=D.nx} σ2 H2) (hd:∀σ H,Pv xs.length σ H->D.nx σ H) :
  ∃W:Nat->Nat->St->Hp->Prop,(∃m,W 0 m σ H)/\∀i m σ H,W i m σ H->
   ((LR K a).stop i H/\D.nx σ H)\/((LR K a).go i H/\∃N:St->Hp->Prop,(∀σ' H',N σ' H'->∃m',m'<m/\W (i+1) m' σ' H')/\∀x H',(LR K a).Jz i H x H'->g x σ H' fun σ2 H2=>tb {D with nx:=N,ct:=N,bk:=D.nx} σ2 H2):=by
 refine⟨fun i m σ H=>m=xs.length-i/\i<=xs.length/\Pv i σ H,⟨xs.length,by simp,yf _,h0⟩,?_⟩;rintro i m σ H ⟨rfl,hi,p⟩;have q:=hl i σ H hi p
 by_cases hlt:i<xs.length
 ·refine .inr ⟨⟨xs,xs[i],q,by simp[hlt]⟩,Pv (i+1),fun σ' H' p'=>⟨xs.length-(i+1),nofun,rfl,hlt,p'⟩,fun x H' y=>?_⟩
  obtain⟨e,y⟩:=y;subst e;exact hs i x σ _ (y xs q) p
 ·have e:i=xs.length:=nofun
  subst e;exact .inl ⟨⟨xs,q,zk _⟩,hd σ H p⟩
def JY {K:yA} {a:Addr} {xs:List V} {g:TG} {tb:TS} {D:Ends} {σ:St} {H:Hp} (Pv:Nat->St->Hp->Prop) (h0:Pv 0 σ H) (hl:∀i σ H,i<=xs.length->Pv i σ H->dw K H a xs)
  (hs:∀i x σ H,xs[i]?=some x->Pv i σ H->g x σ H fun σ2 H2=>tb {D with nx:=Pv (i+1),ct:=Pv (i+1),bk:=D.nx} σ2 H2) (hd:∀σ H,Pv xs.length σ H->D.nx σ H) :
  ∃W:Nat->Nat->St->Hp->Prop,(∃m,W 0 m σ H)/\∀i m σ H,W i m σ H->
   ((P6 K a).stop i H/\D.nx σ H)\/((P6 K a).go i H/\∃N:St->Hp->Prop,(∀σ' H',N σ' H'->∃m',m'<m/\W (i+1) m' σ' H')/\∀x H',(P6 K a).Jz i H x H'->g x σ H' fun σ2 H2=>tb {D with nx:=N,ct:=N,bk:=D.nx} σ2 H2):=by
 refine⟨fun i m σ H=>m=xs.length-i/\i<=xs.length/\Pv i σ H,⟨xs.length,by simp,yf _,h0⟩,?_⟩;rintro i m σ H ⟨rfl,hi,p⟩;have q:=hl i σ H hi p
 by_cases hlt:i<xs.length
 ·refine .inr ⟨⟨xs,xs[i],q,by simp[hlt]⟩,Pv (i+1),fun σ' H' p'=>⟨xs.length-(i+1),nofun,rfl,hlt,p'⟩,fun x H' y=>?_⟩
  obtain⟨e,y⟩:=y;subst e;exact hs i x σ _ (y xs q) p
 ·have e:i=xs.length:=nofun
  subst e;exact .inl ⟨⟨xs,q,zk _⟩,hd σ H p⟩
def gC {lo:Int} {n:Nat} {g:TG} {tb:TS} {D:Ends} {σ:St} {H:Hp} (Pv:Nat->St->Hp->Prop) (h0:Pv 0 σ H)
  (hs:∀i σ H,i<n->Pv i σ H->g (.int (lo+i)) σ H fun σ2 H2=>tb {D with nx:=Pv (i+1),ct:=Pv (i+1),bk:=D.nx} σ2 H2) (hd:∀σ H,Pv n σ H->D.nx σ H) :
  ∃W:Nat->Nat->St->Hp->Prop,(∃m,W 0 m σ H)/\∀i m σ H,W i m σ H->
   ((N4 lo n).stop i H/\D.nx σ H)\/((N4 lo n).go i H/\∃N:St->Hp->Prop,(∀σ' H',N σ' H'->∃m',m'<m/\W (i+1) m' σ' H')/\∀x H',(N4 lo n).Jz i H x H'->g x σ H' fun σ2 H2=>tb {D with nx:=N,ct:=N,bk:=D.nx} σ2 H2):=by
 refine⟨fun i m σ H=>m=n-i/\i<=n/\Pv i σ H,⟨n,by simp,yf _,h0⟩,?_⟩;rintro i m σ H ⟨rfl,hi,p⟩
 by_cases hlt:i<n
 ·refine .inr ⟨hlt,Pv (i+1),fun σ' H' p'=>⟨n-(i+1),nofun,rfl,hlt,p'⟩,fun x H' y=>?_⟩
  obtain⟨e,y⟩:=y;subst e y;exact hs i σ _ hlt p
 ·have e:i=n:=nofun
  subst e;exact .inl ⟨zk _,hd σ H p⟩
end L2
namespace L2
open PySem PySem.Spec PyProof.Rows
abbrev R2:=V->V->Hp->VK->Prop
def pB (X:Cx) (f:Value->Value->Sem Value) (r:R2):Prop:=
 ∀(pins:List (Addr×Obj)) (s:Shared) (σ:St) (H:Hp) (x y:V) (v u:Value) (Q:VK),Inv X pins σ H s->RelV x v->RelV y u->r x y H Q->
  wpAny (model X.prog X.w) X.A (f v u) (EP X pins σ Q) X.xe s
def Ur (X:Cx) (f:Value->Sem Value) (r:V->Hp->VK->Prop):Prop:=
 ∀(pins:List (Addr×Obj)) (s:Shared) (σ:St) (H:Hp) (x:V) (v:Value) (Q:VK),Inv X pins σ H s->RelV x v->r x H Q->
  wpAny (model X.prog X.w) X.A (f v) (EP X pins σ Q) X.xe s
def fB (X:Cx) (f:Value) (r:List V->Hp->VK->Prop):Prop:=
 ∀(pins:List (Addr×Obj)) (s:Shared) (σ:St) (H:Hp) (xs:List V) (us:List Value) (Q:VK),Inv X pins σ H s->Vals xs us->r xs H Q->
  wpAny (model X.prog X.w) X.A (call f us) (EP X pins σ Q) X.xe s
def fH (r:R2) (ta tb:TE):TE:=fun σ H Q=>ta σ H fun x H1=>tb σ H1 fun y H2=>r x y H2 Q
def UL (r:V->Hp->VK->Prop) (ta:TE):TE:=fun σ H Q=>ta σ H fun x H1=>r x H1 Q
def rI (C:Int->Int->Prop) (g:Int->Int->V):R2:=fun x y H Q=>∃i j,x=.int i/\y=.int j/\C i j/\Q (g i j) H
def wt (g:Int->Int->V):R2:=fun x y H Q=>∃i j,x=.int i/\y=.int j/\Q (g i j) H
def rU (g:Int->V):V->Hp->VK->Prop:=fun x H Q=>∃i,x=.int i/\Q (g i) H
section
variable {X:Cx} {a b c:Expr} {ta tb tc:TE} {pos:Pos}
def Rp (ha:PE X a ta) (hb:PE X b tb) {pins:List (Addr×Obj)} {s:Shared} {σ:St} {H:Hp} {R:V->V->Hp->Prop} (I:Inv X pins σ H s)
  (h:ta σ H fun x H1=>tb σ H1 fun y H2=>R x y H2) {Q:Value->Shared->Prop} {f:Value->Value->Sem Value}
  (hf:∀v u s2 x y H2,Inv X pins σ H2 s2->RelV x v->RelV y u->R x y H2->wpAny (model X.prog X.w) X.A (f v u) Q X.xe s2) :
  wpAny (model X.prog X.w) X.A (eval a X.env) (fun v s₁=>wpAny (model X.prog X.w) X.A (eval b X.env) (fun u s₂=>wpAny (model X.prog X.w) X.A (f v u) Q X.xe s₂) X.xe s₁) X.xe s:=by
 refine cU (ha pins s σ H _ I h) fun v s1 zz=>?_;obtain⟨x,H1,I1,r1,q1⟩:=zz;refine cU (hb pins s1 σ H1 _ I1 q1) fun u s2 zz=>?_;obtain⟨y,H2,I2,r2,q2⟩:=zz;exact hf v u s2 x y H2 I2 r1 r2 q2
def ar {op:Operator} {r:R2} (ho:pB X (binaryOp op) r) (ha:PE X a ta) (hb:PE X b tb):PE X (.BinOp a op b pos) (fH r ta tb):=by
 intro pins s σ H Q I h;exact wpAny_BinOp (Rp ha hb I h fun v u s2 x y H2 I2 rx ry q=>ho pins s2 σ H2 x y v u Q I2 rx ry q)
def sN (ho:Ur X (unaryOp op) r) (ha:PE X a ta):PE X (.UnaryOp op a pos) (UL r ta):=by
 intro pins s σ H Q I h;exact UnaryOp_ (cU (ha pins s σ H _ I h) fun v s1 ⟨x,H1,I1,r1,q1⟩=>ho pins s1 σ H1 x v Q I1 r1 q1)
def RB {f:Value->Value->Sem Value} {C:Int->Int->Prop} {g:Int->Int->Int}
  (rule:∀(i j:Int) (t u:Tok) (s:Shared) (Q:Value->Shared->Prop) (E:Value->Shared->Prop),C i j->Q (.int (g i j) s.toks) {s with toks:=s.toks+1}->wpAny (model X.prog X.w) X.A (f (.int i t) (.int j u)) Q E s) :
  pB X f (rI C fun i j=>.int (g i j)):=by
 intro pins s σ H x y v u Q I rx ry h;obtain⟨i,j,rfl,rfl,hc,q⟩:=h;obtain⟨t,rfl⟩:=rx;obtain⟨t',rfl⟩:=ry;exact rule i j t t' s _ _ hc ⟨.int (g i j),H,I.tok _,⟨_,rfl⟩,q⟩
def QS {f:Value->Value->Sem Value} {g:Int->Int->Int}
  (rule:∀(i j:Int) (t u:Tok) (s:Shared) (Q:Value->Shared->Prop) (E:Value->Shared->Prop),Q (.int (g i j) s.toks) {s with toks:=s.toks+1}->wpAny (model X.prog X.w) X.A (f (.int i t) (.int j u)) Q E s) :
  pB X f (wt fun i j=>.int (g i j)):=by
 intro pins s σ H x y v u Q I rx ry h;obtain⟨i,j,rfl,rfl,q⟩:=h;obtain⟨t,rfl⟩:=rx;obtain⟨t',rfl⟩:=ry;exact rule i j t t' s _ _ ⟨.int (g i j),H,I.tok _,⟨_,rfl⟩,q⟩
def OS {f:Value->Value->Sem Value} {g:Int->Int->Bool}
  (rule:∀(i j:Int) (t u:Tok) (s:Shared) (Q:Value->Shared->Prop) (E:Value->Shared->Prop),Q (.bool (g i j)) s->wpAny (model X.prog X.w) X.A (f (.int i t) (.int j u)) Q E s) :
  pB X f (wt fun i j=>.bl (g i j)):=by
 intro pins s σ H x y v u Q I rx ry h;obtain⟨i,j,rfl,rfl,q⟩:=h;obtain⟨t,rfl⟩:=rx;obtain⟨t',rfl⟩:=ry;exact rule i j t t' s _ _ ⟨.bl (g i j),H,I,rfl,q⟩
def Ry (i j:Int):Prop:=0<j/\j<1073741824
def LM (i j:Int):Prop:=(-(2^64)<i/\i<2^64)\/(-(2^64)<j/\j<2^64)
def LM.ok (h:LM i j):IntMulOk i j:=by
 rcases h with⟨h1,h2⟩ | ⟨h1,h2⟩
 ·exact .of_left (intBits_le_64 h1 h2)
 ·exact .of_right (intBits_le_64 h1 h2)
def HM (k:Nat):(0:Int)<=2^k:=by
 rw[two_pow_cast];exact Int.natCast_nonneg _
def aW:pB X (binaryOp .Add) (wt fun i j=>.int (i+j)):=QS fun _ _ _ _ _ _ _ q=>add_int q
def iw:pB X (binaryOp .Sub) (wt fun i j=>.int (i-j)):=QS fun _ _ _ _ _ _ _ q=>sub_int q
def dY:pB X (binaryOp .Mult) (rI LM fun i j=>.int (i*j)):=RB fun _ _ _ _ _ _ _ hc q=>mul_int q hc.ok
def aP:pB X (binaryOp .FloorDiv) (rI Ry fun i j=>.int (i/j)):=RB fun i j _ _ _ _ _ hc q=>by
 have h1:(0:Int)<j:=hc.1;have h2:j<1073741824:=hc.2;exact floordiv_int nofun (by rw[Int.fdiv_eq_ediv_of_nonneg i nofun];exact q) (.inl (PyProof.noPylong_small nofun))
def aO:pB X (binaryOp .Mod) (rI (fun _ j=>0<j) fun i j=>.int (i%j)):=RB fun i j _ _ _ _ _ hc q=>by
 have h1:(0:Int)<j:=hc;exact mod_int' nofun (by rw[Int.fmod_eq_emod_of_nonneg i nofun];exact q)
def QQ:pB X (binaryOp .RShift) (rI (fun _ j=>0<=j) fun i j=>.int (i/2^j.toNat)):=RB fun i j _ _ _ _ _ hc q=>
 rshift_int hc (by rw[Int.fdiv_eq_ediv_of_nonneg i (HM _)];exact q)
def QR:pB X (binaryOp .BitAnd) (wt fun i j=>.int (Builtin.bitAnd i j)):=QS fun _ _ _ _ _ _ _ q=>and_int q
def UK {f:Value->Sem Value} {g:Int->Int}
  (rule:∀(i:Int) (t:Tok) (s:Shared) (Q:Value->Shared->Prop) (E:Value->Shared->Prop),Q (.int (g i) s.toks) {s with toks:=s.toks+1}->wpAny (model X.prog X.w) X.A (f (.int i t)) Q E s) :
  Ur X f (rU fun i=>.int (g i)):=by
 intro pins s σ H x v Q I rx h;obtain⟨i,rfl,q⟩:=h;obtain⟨t,rfl⟩:=rx;exact rule i t s _ _ ⟨.int (g i),H,I.tok _,⟨_,rfl⟩,q⟩
def lF:Ur X (unaryOp .USub) (rU fun i=>.int (-i)):=UK fun _ _ _ _ _ q=>neg_int q
end
def Ox:V->V->Bool
 | .bH,.bH=>true | .bH,.int _=>true | .int _,.bH=>true | .bH,.bl _=>true | .bl _,.bH=>true | .bH,.str _=>true | .str _,.bH=>true
 | .int _,.int _=>true | .bl _,.bl _=>true | .str _,.str _=>true | .J8 _,.J8 _=>true
 | .int _,.str _=>true | .str _,.int _=>true | .bl _,.str _=>true | .str _,.bl _=>true
 | _,_=>false
def T5:R2:=fun x y H Q=>Ox x y=true/\Q (.bl (decide (x=y))) H
def T3:R2:=fun x y H Q=>Ox x y=true/\Q (.bl (!decide (x=y))) H
def Et:decide (V.int i=V.int j)=(i == j):=by
 rw[Bool.eq_iff_iff];simp
def NM:decide (V.bl i=V.bl j)=(i == j):=by
 rw[Bool.eq_iff_iff];simp
def Er:decide (V.str i=V.str j)=(i == j):=by
 rw[Bool.eq_iff_iff];simp
def J2:decide (V.J8 i=V.J8 j)=(i.toList == j.toList):=by
 rw[Bool.eq_iff_iff];cases i;cases j;simp
section
variable {X:Cx} {a b c:Expr} {ta tb tc:TE} {pos:Pos}
def b8 (I:Inv X pins σ H s) (q:Q (.bl k) H) (e:k=k'):EP X pins σ Q (.bool k') s:=by
 subst e;exact⟨.bl k,H,I,rfl,q⟩
def dg:pB X (compareOp .Eq) T5:=by
 intro pins s σ H x y v u Q I rx ry h;obtain⟨hs,q⟩:=h;cases x with
 | bH=>
  cases rx;cases y with
  | bH=>cases ry;exact PySem.EqNone.eq_none_none (b8 I q (by simp))
  | bl j=>cases ry;exact PySem.EqNone.eq_none_bool (b8 I q (by simp))
  | int j=>obtain⟨t',rfl⟩:=ry;exact PySem.EqNone.eq_none_int (b8 I q (by simp))
  | str j=>obtain⟨t',rfl⟩:=ry;exact PySem.EqNone.eq_none_str (b8 I q (by simp))
  | _=>exact absurd (show false=true from hs) zK
 | bl i=>
  cases rx;cases y with
  | bH=>cases ry;exact PySem.EqNone.eq_bool_none (b8 I q (by simp))
  | bl j=>cases ry;exact eq_bool (b8 I q NM)
  | str j=>obtain⟨t',rfl⟩:=ry;exact PySem.EqMixed.eq_bool_str (b8 I q (by simp))
  | _=>exact absurd (show false=true from hs) zK
 | int i=>
  obtain⟨t,rfl⟩:=rx;cases y with
  | bH=>cases ry;exact PySem.EqNone.eq_int_none (b8 I q (by simp))
  | int j=>obtain⟨t',rfl⟩:=ry;exact eq_int (b8 I q Et)
  | str j=>obtain⟨t',rfl⟩:=ry;exact PySem.EqMixed.eq_int_str (b8 I q (by simp))
  | _=>exact absurd (show false=true from hs) zK
 | str i=>
  obtain⟨t,rfl⟩:=rx;cases y with
  | bH=>cases ry;exact PySem.EqNone.eq_str_none (b8 I q (by simp))
  | bl j=>cases ry;exact PySem.EqMixed.eq_str_bool (b8 I q (by simp))
  | int j=>obtain⟨t',rfl⟩:=ry;exact PySem.EqMixed.eq_str_int (b8 I q (by simp))
  | str j=>obtain⟨t',rfl⟩:=ry;exact eq_str (b8 I q Er)
  | _=>exact absurd (show false=true from hs) zK
 | J8 i=>
  obtain⟨t,rfl⟩:=rx;cases y with
  | J8 j=>obtain⟨t',rfl⟩:=ry;exact PySem.W.eq_bytes (b8 I q J2)
  | _=>exact absurd (show false=true from hs) zK
 | _=>cases y <;> exact absurd (show false=true from hs) zK
def j6:pB X (compareOp .NotEq) T3:=by
 intro pins s σ H x y v u Q I rx ry h;obtain⟨hs,q⟩:=h;cases x with
 | bH=>
  cases rx;cases y with
  | bH=>cases ry;exact PySem.EqNone.ne_none_none (b8 I q (by simp))
  | bl j=>cases ry;exact PySem.EqNone.ne_none_bool (b8 I q (by simp))
  | int j=>obtain⟨t',rfl⟩:=ry;exact PySem.EqNone.ne_none_int (b8 I q (by simp))
  | str j=>obtain⟨t',rfl⟩:=ry;exact PySem.EqNone.ne_none_str (b8 I q (by simp))
  | _=>exact absurd (show false=true from hs) zK
 | bl i=>
  cases rx;cases y with
  | bH=>cases ry;exact PySem.EqNone.ne_bool_none (b8 I q (by simp))
  | bl j=>cases ry;exact ne_bool (b8 I q (congrArg not NM))
  | str j=>obtain⟨t',rfl⟩:=ry;exact PySem.EqMixed.ne_bool_str (b8 I q (by simp))
  | _=>exact absurd (show false=true from hs) zK
 | int i=>
  obtain⟨t,rfl⟩:=rx;cases y with
  | bH=>cases ry;exact PySem.EqNone.ne_int_none (b8 I q (by simp))
  | int j=>obtain⟨t',rfl⟩:=ry;exact ne_int (b8 I q (congrArg not Et))
  | str j=>obtain⟨t',rfl⟩:=ry;exact PySem.EqMixed.ne_int_str (b8 I q (by simp))
  | _=>exact absurd (show false=true from hs) zK
 | str i=>
  obtain⟨t,rfl⟩:=rx;cases y with
  | bH=>cases ry;exact PySem.EqNone.ne_str_none (b8 I q (by simp))
  | bl j=>cases ry;exact PySem.EqMixed.ne_str_bool (b8 I q (by simp))
  | int j=>obtain⟨t',rfl⟩:=ry;exact PySem.EqMixed.ne_str_int (b8 I q (by simp))
  | str j=>obtain⟨t',rfl⟩:=ry;exact ne_str (b8 I q (congrArg not Er))
  | _=>exact absurd (show false=true from hs) zK
 | J8 i=>
  obtain⟨t,rfl⟩:=rx;cases y with
  | J8 j=>obtain⟨t',rfl⟩:=ry;exact PySem.W.ne_bytes (b8 I q (congrArg not J2))
  | _=>exact absurd (show false=true from hs) zK
 | _=>cases y <;> exact absurd (show false=true from hs) zK
def fw:pB X (compareOp .Lt) (wt fun i j=>.bl (decide (i<j))):=OS fun _ _ _ _ _ _ _ q=>lt_int q
def iK:pB X (compareOp .LtE) (wt fun i j=>.bl (decide (i<=j))):=OS fun _ _ _ _ _ _ _ q=>le_int q
def fi:pB X (compareOp .Gt) (wt fun i j=>.bl (decide (j<i))):=OS fun _ _ _ _ _ _ _ q=>gt_int q
def Ab:pB X (compareOp .GtE) (wt fun i j=>.bl (decide (j<=i))):=OS fun _ _ _ _ _ _ _ q=>ge_int q
def CL:pB X (compareOp .In) (fun x y H Q=>∃i j,x=.str i/\y=.str j/\Q (.bl (!(Builtin.Str.occurrences j i 0 j.length 1).isEmpty)) H):=by
 intro pins s σ H x y v u Q I rx ry h;obtain⟨i,j,rfl,rfl,q⟩:=h;obtain⟨t,rfl⟩:=rx;obtain⟨t',rfl⟩:=ry;exact in_str (b8 I q rfl)
def gz (b:Expr) (h:op≠.In<|>qb_) (h2:op≠.NotIn<|>qb_):behindInMarks op b=false:=by
 have e1:(op == CmpOp.In)=false:=by cases op <;> first | rfl | exact absurd rfl h
 have e2:(op == CmpOp.NotIn)=false:=by cases op <;> first | rfl | exact absurd rfl h2
 cases b <;> simp[behindInMarks,e1,e2]
def dG (ho:pB X (compareOp op) r) (ha:PE X a ta) (hb:PE X b tb) (hm:behindInMarks op b=false):PE X (.Compare a [op] [b] pos) (fH r ta tb):=by
 intro pins s σ H Q I h;exact wpAny_Compare1 (Rp ha hb I h fun v u s2 x y H2 I2 rx ry q=>ho pins s2 σ H2 x y v u Q I2 rx ry q) hm
def nJ (t:TE):TT:=fun σ H Q=>t σ H fun x H'=>∃k,x=.bl k/\Q k H'
def iQ (ho:pB X (compareOp op) r) (ha:PE X a ta) (hb:PE X b tb) (hm:behindInMarks op b=false):PT X (.Compare a [op] [b] pos) (nJ (fH r ta tb)):=by
 intro pins s σ H Q I h;refine wpAny_isTrue_Compare1 (cU (ha pins s σ H _ I h) fun v s1 ⟨x,H1,I1,r1,q1⟩=>cU (hb pins s1 σ H1 _ I1 q1) fun u s2 ⟨y,H2,I2,r2,q2⟩=>
  cU (ho pins s2 σ H2 x y v u _ I2 r1 r2 q2) fun c s3 ⟨z,H3,I3,r3,k,e,q3⟩=>?_) hm
 subst e;cases r3;exact wpAny_truthy_bool ⟨H3,I3,q3⟩
def xM (r r':R2) (ta tb tc:TE):TE:=fun σ H Q=>ta σ H fun x H1=>tb σ H1 fun y H2=>r x y H2 fun z H3=>∃k,z=.bl k/\
 (if k=true then tc σ H3 fun w' H4=>r' y w' H4 Q else Q (.bl false) H3)
def F7 (ho:pB X (compareOp op) r) (ho':pB X (compareOp op') r') (ha:PE X a ta) (hb:PE X b tb) (hc:PE X c tc)
  (hm:lastMarks [op,op'] [b,c]=false<|>qf_):PE X (.Compare a [op,op'] [b,c] pos) (xM r r' ta tb tc):=by
 intro pins s σ H Q I h;refine Compare_chain (cU (ha pins s σ H _ I h) fun v s1 ⟨x,H1,I1,r1,q1⟩=>chain_link (cU (hb pins s1 σ H1 _ I1 q1) fun u s2 ⟨y,H2,I2,r2,q2⟩=>
  cU (ho pins s2 σ H2 x y v u _ I2 r1 r2 q2) fun d s3 ⟨z,H3,I3,r3,k,e,q3⟩=>?_)) hm
 subst e;cases r3;refine wpAny_truthy_bool ?_;cases k with
 | false=>exact ite_ff ⟨.bl false,H3,I3,rfl,q3⟩
 | true=>exact ite_tt (chain_last (cU (hc pins s3 σ H3 _ I3 q3) fun w' s4 ⟨z',H4,I4,r4,q4⟩=>ho' pins s4 σ H4 y z' u w' Q I4 r2 r4 q4))
def MO (ho:pB X (compareOp op) r) (ho':pB X (compareOp op') r') (ha:PE X a ta) (hb:PE X b tb) (hc:PE X c tc)
  (hm:lastMarks [op,op'] [b,c]=false<|>qf_):PT X (.Compare a [op,op'] [b,c] pos) (nJ (xM r r' ta tb tc)):=by
 intro pins s σ H Q I h;refine isTrue_chain (cU (ha pins s σ H _ I h) fun v s1 ⟨x,H1,I1,r1,q1⟩=>test_link (cU (hb pins s1 σ H1 _ I1 q1) fun u s2 ⟨y,H2,I2,r2,q2⟩=>
  cU (ho pins s2 σ H2 x y v u _ I2 r1 r2 q2) fun d s3 ⟨z,H3,I3,r3,k,e,q3⟩=>?_)) hm
 subst e;cases r3;refine wpAny_truthy_bool ?_;cases k with
 | false=>
  obtain⟨k',e',q'⟩:=q3;cases e';exact ite_ff ⟨H3,I3,q'⟩
 | true=>
  refine ite_tt (test_last (cU (hc pins s3 σ H3 _ I3 q3) fun w' s4 ⟨z',H4,I4,r4,q4⟩=>cU (ho' pins s4 σ H4 y z' u w' _ I4 r2 r4 q4) fun d' s5 zz=>?_));obtain⟨z2,H5,I5,r5,k2,e2,q5⟩:=zz;subst e2;cases r5;exact wpAny_truthy_bool ⟨H5,I5,q5⟩
def An:(sizeLine:Nat)<2^63:=by rw[yB];decide
def bS:pB X (binaryOp .Add) (fun x y H Q=>∃i j,x=.str i/\y=.str j/\i.length+j.length<=sizeLine/\Q (.str (i++j)) H):=by
 intro pins s σ H x y v u Q I rx ry h;obtain⟨i,j,rfl,rfl,hz,q⟩:=h;obtain⟨t,rfl⟩:=rx;obtain⟨t',rfl⟩:=ry;exact add_str (fun t' tk=>⟨.str (i++j),H,I.tok _,⟨_,rfl⟩,q⟩) hz
def vals1 (r:Vals [x] us):∃u,us=[u]/\RelV x u:=by
 cases r with
 | cons r1 r2=>cases r2;exact⟨_,rfl,r1⟩
def vals2 (r:Vals [x,y] us):∃u w',us=[u,w']/\RelV x u/\RelV y w':=by
 cases r with
 | cons r1 r2=>
  cases r2 with
  | cons r3 r4=>cases r4;exact⟨_,_,rfl,r1,r3⟩
def Hi:fB X (.builtin "abs") (fun xs H Q=>∃i,xs=[.int i]/\Q (.int (if i<0 then -i else i)) H):=by
 intro pins s σ H xs us Q I r h;obtain⟨i,rfl,q⟩:=h;obtain⟨u,rfl,t,rfl⟩:=vals1 r;exact call_abs_int fun u tk=>⟨.int (if i<0 then -i else i),H,I.tok _,⟨_,rfl⟩,q⟩
def Lq (hc:X.calm=true):fB X (.builtin "min") (fun xs H Q=>∃i j,xs=[.int i,.int j]/\Q (.int (if j<i then j else i)) H):=by
 intro pins s σ H xs us Q I r h;obtain⟨i,j,rfl,q⟩:=h;obtain⟨u,w',rfl,⟨t,rfl⟩,⟨t',rfl⟩⟩:=vals2 r;refine min_two_ints (I.ok.hd hc) fun h' tk k=>⟨_,H,I.kept k,?_,q⟩
 by_cases hj:j<i
 ·rw[if_pos hj,if_pos hj];exact⟨_,rfl⟩
 ·rw[if_neg hj,if_neg hj];exact⟨_,rfl⟩
def Ls:fB X (.type "int") (fun xs H Q=>(∃i,xs=[.int i]/\Q (.int i) H)\/∃k,xs=[.bl k]/\Q (.int (if k then 1 else 0)) H):=by
 intro pins s σ H xs us Q I r h;rcases h with⟨i,rfl,q⟩ | ⟨k,rfl,q⟩
 ·obtain⟨u,rfl,t,rfl⟩:=vals1 r
  exact call_int_int ⟨.int i,H,I,⟨_,rfl⟩,q⟩
 ·obtain⟨u,rfl,r1⟩:=vals1 r
  cases r1;exact call_int_bool ⟨.int (if k then 1 else 0),H,I.tok _,⟨_,rfl⟩,q⟩
def aU:fB X (.type "str") (fun xs H Q=>∃i,xs=[.int i]/\i.natAbs.log2<1920/\Q (.str (toString i)) H):=by
 intro pins s σ H xs us Q I r h;obtain⟨i,rfl,hz,q⟩:=h;obtain⟨u,rfl,t,rfl⟩:=vals1 r;exact PySem.P.str_of_int hz ⟨.str _,H,I.tok _,⟨_,rfl⟩,q⟩
end
end L2
namespace L2
open PySem PySem.Spec PyProof.Rows
structure LI (h:Heap) (x dx C:Addr) (mA:Str->Option Value):Prop where
 obj:h.get? x=some (PySem.W.instObj C dx)
 ns:h.Ns1 dx mA
 ne:dx≠x
def KW {h:Heap} {dx:Addr} {mA:Str->Option Value} (n:h.Ns1 dx mA):∃od,h.get? dx=some od/\∀name,PySem.W.lookIn name od=some (mA name):=by
 obtain⟨o,es,ep,ho,hd,hk,_,hm⟩:=n;refine⟨o,ho,fun name=>?_⟩;have e:=hm name;unfold nsFind findBy at e;rw[<-Array.find?_toList] at e;unfold PySem.W.lookIn;rw[hd];dsimp only;split
 ·rename_i y q
  rw[q] at e;exact congrArg some e
 ·rename_i q
  rw[q] at e;have a:es.toList.any (·.refKey)=false:=by
   rw[List.any_eq_false];intro y hy;obtain⟨z,t,hkey⟩:=hk y (Array.mem_toList_iff.mp hy);simp[DictEntry.refKey,hkey]
  have a':¬es.toList.any (·.refKey)=true:=by rw[a];exact zK
  rw[if_neg a'];exact congrArg some e
def LI.look (I:LI h x dx C mA):∃od,PySem.W.InstAt h x (PySem.W.instObj C dx) C (some od)/\∀name,PySem.W.lookIn name od=some (mA name):=
 let ⟨od,ho,hl⟩:=KW I.ns
 ⟨od,⟨I.obj,rfl,rfl,ho⟩,hl⟩
section
variable {prog:Program} {w:World} {A:Around} {E:Value->Shared->Prop} {s:Shared} {K:yA} {x dx C f:Addr} {mA:Str->Option Value} {name:Str} {v:Value}
def get_map (X:K.In s.heap) (I:LI s.heap x dx C mA) (hg:PySem.W.plainGet K C name=true) (hh:PySem.W.hasDictIn K C=true)
  (ha:PySem.W.findIn K (.ref C) name=some none) (hv:mA name=some v) (hv':PySem.W.handedIn v=true) (h:Q v {s with toks:=s.toks+1}) :
  wpAny (model prog w) A (getAttr (.ref x) name expr) Q E s:=by
 obtain⟨od,J,hl⟩:=I.look;exact PySem.W.get_value X J (PySem.W.plainGet_of hg).1 (PySem.W.findObj_own hh ha rfl (by rw[hl,hv])) hv' h
def Ov (X:K.In s.heap) (I:LI s.heap x dx C mA)
  (hs:PySem.W.findIn K (.ref C) "__setattr__"= some (some (.builtin "object.__setattr__"))) (hp:PySem.W.plainOver K C=true) (ht:PySem.W.takerIn K C name=some none) (hh:PySem.W.hasDictIn K C=true)
  (hw:PySem.Within mA ns) (hsz:ns.length<=sizeLine)
  (h:∀h',LI h' x dx C (fun y=>if y=name then some v else mA y)->Heap.SameBut dx s.heap h'->Q () {s with heap:=h',toks:=s.toks+2}) :
  wpAny (model prog w) A (setAttr (.ref x) name v) Q E s:=by
 obtain⟨od,J,hl⟩:=I.look;refine PySem.W.set_plain X J hs (PySem.W.osa_open (s:={s with toks:=s.toks+1}) (r:=none) X J hp ht fun b=>?_);obtain⟨cd,hc,hd'⟩:=PySem.W.any_some hh;have hx:s.heap.get? x=some ⟨.ref C,some dx,.plain,#[]⟩:=I.obj;refine yt (yv (yt (yt (wpAny_loadPart hx (yt (PySem.W.Looks.here (s:={s with toks:=s.toks+1}) (PySem.W.looks_clsIn X hc) ?_))))));rw[hd'];refine yv (a:=some dx) (yt (yv (yt ?_)));refine wpAny_nsSet1 (s:={s with toks:=s.toks+1}) I.ns fun h' hn2 hs2=>?_;obtain⟨oD,esD,epD,hoD,hdD,hcD⟩:=hn2.count (PySem.Within.cons name v hw);refine yt (wpAny_lookBehind hoD (by rw[hdD];exact pastItsLine_dict (zL hcD (by rw[zt];omega))) ?_);exact yv (h _ ⟨(hs2.2 _ (Ne.symm I.ne)).trans I.obj,hn2,I.ne⟩ hs2)
def Nc (X:K.In s.heap) (hm:PySem.W.makesIn K C=true)
  (hi:PySem.W.findIn K (.ref C) "__init__"= some (some (.ref f))) (hf:PySem.W.typeIn K (.ref f)=some (.type "function"))
  (h:codeAny (model prog w) (A.under (.builtin "type.__call__" ⟨.ref C::vs,kw⟩)) (.call (.ref f) ⟨.ref (↑s+1)::vs,kw⟩) (PySem.W.InitBack (↑s+1) R)
   {s with heap:=(s.heap.push PySem.W.emptyDict).push (PySem.W.instObj C ↑s)}) :
  codeAny (model prog w) A (.call (.ref C) ⟨vs,kw⟩) R s:=by
 obtain⟨hh,g,d,t,os⟩:=s;exact PySem.W.make_core (PySem.W.makes_of X hm) (PySem.W.looks_findIn X hi) (fun self=>PySem.W.bind_fn X self hf) (.inl rfl) h
end
def aV (f:Str) (v:V):List (Str×V)->List (Str×V)
 | []=>[(f,v)]
 | (g,x)::r=>if g=f then(g,v)::r else(g,x)::aV f v r
theorem vJ (f g:Str) (v:V):∀fs:List (Str×V),(aV f v fs).lookup g=if g=f then some v else fs.lookup g
 | []=>by
  show List.lookup g [(f,v)]=_
  by_cases h:g=f
  ·have hb:(g == f)=true:=beq_iff_eq.mpr h
   simp only[List.lookup,hb,if_pos h]
  ·have hb:(g == f)=false:=beq_eq_false_iff_ne.mpr h
   simp only[List.lookup,hb,if_neg h]
 | (k,x)::r=>by
  have ih:=vJ f g v r;rw[show aV f v ((k,x)::r)=(if k=f then(k,v)::r else(k,x)::aV f v r) from rfl]
  by_cases hk:k=f
  ·rw[if_pos hk]
   by_cases h:g=k
   ·have hb:(g == k)=true:=beq_iff_eq.mpr h
    simp only[List.lookup,hb,if_pos (h.trans hk)]
   ·have hb:(g == k)=false:=beq_eq_false_iff_ne.mpr h
    simp only[List.lookup,hb,if_neg (fun e:g=f=>h (e.trans hk.symm))]
  ·rw[if_neg hk]
   by_cases h:g=k
   ·have hb:(g == k)=true:=beq_iff_eq.mpr h
    simp only[List.lookup,hb,if_neg (fun e:g=f=>hk (h.symm.trans e))]
   ·have hb:(g == k)=false:=beq_eq_false_iff_ne.mpr h
    simp only[List.lookup,hb];exact ih
theorem uJ (f:Str) (v:V):∀fs:List (Str×V),f∈(aV f v fs).map (·.1)/\∀g,g∈fs.map (·.1)->g∈(aV f v fs).map (·.1)
 | []=>⟨by simp[aV],fun g h=>by simp at h⟩
 | (k,x)::r=>by
  obtain⟨i1,i2⟩:=uJ f v r;rw[show aV f v ((k,x)::r)=(if k=f then(k,v)::r else(k,x)::aV f v r) from rfl]
  by_cases hk:k=f
  ·rw[if_pos hk]
   subst hk;exact⟨by simp,fun g h=>by simpa using h⟩
  ·rw[if_neg hk]
   refine⟨?_,fun g h=>?_⟩
   ·rw[zh]
    exact zm _ i1
   ·rw[zh] at h ⊢
    rcases zC.mp h with e | e
    ·exact zC.mpr (.inl e)
    ·exact zm _ (i2 g e)
theorem vK (f:Str) (v:V):∀fs:List (Str×V),(aV f v fs).length<=fs.length+1
 | []=>by simp[aV]
 | (k,x)::r=>by
  have ih:=vK f v r;rw[show aV f v ((k,x)::r)=(if k=f then(k,v)::r else(k,x)::aV f v r) from rfl]
  by_cases hk:k=f
  ·rw[if_pos hk,zt,zt];omega
  ·rw[if_neg hk,zt,zt];omega
def mw.some_of (r:mw (some v) o):∃u,o=some u/\RelV v u:=by
 cases o with
 | none=>exact(show False from r).elim
 | some u=>exact⟨u,rfl,r⟩
def K6 (r:RelV v u):PySem.W.handedIn u=true:=by
 cases v with
 | bH=>cases(show u=Value.none from r);rfl
 | bl b=>cases(show u=Value.bool b from r);rfl
 | int i=>obtain⟨t,e⟩:=(show∃t,u=Value.int i t from r);cases e;rfl
 | str x=>obtain⟨t,e⟩:=(show∃t,u=Value.str x t from r);cases e;rfl
 | J8 b=>obtain⟨t,e⟩:=(show∃t,u=Value.bytes b t from r);cases e;rfl
 | O4 b=>obtain⟨t,e⟩:=(show∃t,u=Value.float b t from r);cases e;rfl
 | ref a=>cases(show u=Value.ref a from r);rfl
 | ty n=>cases(show u=Value.type n from r);rfl
section
variable {P:Program} {w:World} {H H':Hp} {h h':Heap} {a C dx:Addr} {fs fs':List (Str×V)}
def Ek (bZ:rD P w H h) (e:H a=some (.ins C dx fs)):∃mA,LI h a dx C mA/\(∀f,mw (fs.lookup f) (mA f))/\PySem.Within mA (fs.map (·.1))/\fs.length<=1000/\H dx=some (.own a):=by
 obtain⟨d,z,ne,ob,mA,n,r,q⟩:=(show cF P w H h a (.ins C dx fs) from bZ a _ e)
 exact⟨mA,⟨ob,n,ne⟩,r,q,z,d⟩
end
structure Pt (K:yA) (C:Addr):Prop where
 pg:PySem.W.plainGet K C Str.empty=true
 hd:PySem.W.hasDictIn K C=true
 po:PySem.W.plainOver K C=true
 sa:PySem.W.findIn K (.ref C) "__setattr__"= some (some (.builtin "object.__setattr__"))
def Pt.get {K:yA} {C:Addr} (c:Pt K C) (f:Str):PySem.W.plainGet K C f=true:=c.pg
def e9 (K:yA) (C:Addr) (f:Str):Prop:=PySem.W.findIn K (.ref C) f=some none
def e9.RO {K:yA} {C:Addr} {f:Str} (n:e9 K C f):PySem.W.takerIn K C f=some none:=by
 unfold PySem.W.takerIn;rw[show PySem.W.findIn K (.ref C) f=some none from n];rfl
section
variable {X:Cx} {pins:List (Addr×Obj)} {σ:St} {H:Hp} {s:Shared} {a C dx:Addr} {fs:List (Str×V)} {f:Str} {v:V} {A:Around} {E:Value->Shared->Prop}
def II (I:Inv X pins σ H s) (e:H a=some (.ins C dx fs)) (c:Pt X.K C) (n:e9 X.K C f) (l:fs.lookup f=some v)
  (h:∀u s',Inv X pins σ H s'->RelV v u->Q u s'):wpAny (model X.prog X.w) A (getAttr (.ref a) f b) Q E s:=by
 obtain⟨mA,O,r,_,_,_⟩:=Ek I.bZ e;obtain⟨u,hu,ru⟩:=mw.some_of (v:=v) (o:=mA f) (by rw[<-l];exact r f);exact get_map I.sZ O (c.get f) c.hd n hu (K6 ru) (h u _ (I.tok _) ru)
def Ia (I:Inv X pins σ H s) (e:H a=some (.ins C dx fs)) (c:Pt X.K C) (n:e9 X.K C f) (hl:fs.length<1000) (ry:RelV y u)
  (h:∀s',Inv X pins σ (upd H a (.ins C dx (aV f y fs))) s'->Q () s'):wpAny (model X.prog X.w) A (setAttr (.ref a) f u) Q E s:=by
 obtain⟨mA,O,r,wi,_,ho⟩:=Ek I.bZ e;have hz:(fs.map (·.1)).length<=sizeLine:=by rw[za,yB];omega
 refine Ov I.sZ O c.sa c.po n.RO c.hd wi hz fun h' O' sb=>h _ ?_;have hd:∃o,h'.get? dx=some o:=let ⟨o,_,_,e',_⟩:=O'.ns;⟨o,e'⟩;refine I.write (x:=a) (e:=dx) (by rw[e];exact True.intro) (.inr ho) (fun b q hb z=>(sb.2 b hb).trans z) hd ?_;refine⟨by rw[aD O.ne];exact ho,?_,O.ne,O'.obj,_,O'.ns,fun g=>?_,fun g hg=>?_⟩
 ·have:=vK f y fs;omega
 ·show mw ((aV f y fs).lookup g) (if g=f then some u else mA g)
  rw[vJ]
  by_cases q:g=f
  ·rw[if_pos q,if_pos q];exact ry
  ·rw[if_neg q,if_neg q];exact r g
 ·by_cases q:g=f
  ·rw[q];exact(uJ f y fs).1
  ·refine(uJ f y fs).2 g (wi g fun z=>hg ?_)
   show(if g=f then some u else mA g)=none;rw[if_neg q];exact z
def Inv.made (I:Inv X pins σ H s):Inv X pins σ (upd (upd H ↑s (.own (↑s+1))) (↑s+1) (.ins C ↑s []))
  {s with heap:=(s.heap.push PySem.W.emptyDict).push (PySem.W.instObj C ↑s)}:=by
 have e1:(s.heap.push PySem.W.emptyDict).get? ↑s=some PySem.W.emptyDict:=yw s.heap rfl;have e2:((s.heap.push PySem.W.emptyDict).push (PySem.W.instObj C ↑s)).get? (↑s+1)=some (PySem.W.instObj C ↑s):=by
  have:=yw (s.heap.push PySem.W.emptyDict) (o:=PySem.W.instObj C ↑s) rfl
  rwa [Heap.size_push] at this
 have e3:(s.heap.push PySem.W.emptyDict).Ns ↑s (fun _=>none):=⟨PySem.W.emptyDict,#[],_,e1,rfl,(fun e he=>absurd he (by simp)),fun _=>rfl⟩
 have I1:=I.laid (a:=↑s) (o:=.own (↑s+1)) (h':=s.heap.push PySem.W.emptyDict) (t':=s.toks) (fun b u q=>yu _ q) (zk _) ⟨_,e1⟩;refine I1.laid (a:=↑s+1) (o:=.ins C ↑s []) (t':=s.toks) (fun b u q=>yu _ q) (Nat.le_of_eq (Heap.size_push _ _)) ?_;have ne:↑s≠↑s+1:=yi (Nat.lt_succ_self _);refine⟨by rw[aD ne,aA],yf _,ne,e2,fun _=>none,(Heap.Ns1.of_empty e3).at fun o q=>yu _ q,fun _=>True.intro,fun y hy=>absurd rfl hy⟩
def Pf (hb:attributeBase e f env (eval e env)=eval e env)
  (h:wpAny (model prog w) A (eval e env) (fun o s₁=>wpAny (model prog w) A (getAttr o f true) Q E s₁) E s):wpAny (model prog w) A (eval (.Attribute e f pos) env) Q E s:=
 Attribute_any_ h (by rw[arm_eval_Attribute,hb])
end
def Oj (K:yA) (ta:TE) (f:Str):TE:=fun σ H Q=>ta σ H fun x H1=>∃a C dx fs v,x=.ref a/\H1 a=some (.ins C dx fs)/\Pt K C/\e9 K C f/\fs.lookup f=some v/\Q v H1
def TY (K:yA) (ta tv:TE) (f:Str):TS:=fun D σ H=>tv σ H fun y H1=>ta σ H1 fun x H2=>∃a C dx fs,x=.ref a/\H2 a=some (.ins C dx fs)/\Pt K C/\e9 K C f/\fs.length<1000/\
 D.nx σ (upd H2 a (.ins C dx (aV f y fs)))
section
variable {X:Cx} {o e value:Expr} {f:Str} {pos pos' tpos:Pos} {ta tv:TE}
def bE (he:PE X e ta) (hb:attributeBase e f X.env (eval e X.env)=eval e X.env):PE X (.Attribute e f pos) (Oj X.K ta f):=by
 intro pins s σ H Q I h;refine Pf hb (cU (he pins s σ H _ I h) fun u s1 zz=>?_);obtain⟨x,H1,I1,rx,a,C,dx,fs,v,ex,ea,c,n,l,q⟩:=zz;subst ex;obtain rfl:u=Value.ref a:=rx;exact II I1 ea c n l fun u' s2 I2 ru=>⟨v,H1,I2,ru,q⟩
def jz (ha:PE X o ta) (hv:PE X value tv) (hs:swapsWith value (some (.Attribute o f pos')) pos.line X.env=pure false):PS X (.Assign [.Attribute o f pos'] value pos) (TY X.K ta tv f):=by
 intro pins s σ H D I h;refine plainObj_wpAny_Assign_Attribute (cU (hv pins s σ H _ I h) fun u s1 ⟨y,H1,I1,ry,q⟩=>cU (ha pins s1 σ H1 _ I1 q) fun ov s2 ⟨x,H2,I2,rx,a,C,dx,fs,ex,ea,c,n,l,q2⟩=>?_) hs;subst ex;obtain rfl:ov=Value.ref a:=rx;exact Ia I2 ea c n l ry fun s3 I3=>⟨σ,_,I3,q2⟩
end
section
variable {X:Cx} {pins:List (Addr×Obj)} {σ:St} {H:Hp} {s:Shared} {A:Around} {E:Value->Shared->Prop} {Q:Value->Shared->Prop} {c:Value} {b:Bool}
inductive vc (K:yA) (H:Hp):V->Value->Prop where
 | bH:vc K H .bH (.type "NoneType")
 | bl (x:Bool):vc K H (.bl x) (.type "bool")
 | int (i:Int):vc K H (.int i) (.type "int")
 | str (x:Str):vc K H (.str x) (.type "str")
 | O4 (x:UInt64):vc K H (.O4 x) (.type "float")
 | lst {a:Addr} {xs:List V} (e:H a=some (.lst xs)):vc K H (.ref a) (.type "list")
 | nF {a:Addr} {o:Obj} {xs:List V} (e:H a=some (.nF o (.lst xs))):vc K H (.ref a) (.type "list")
 | tup {a:Addr} {xs:List V} (e:H a=some (.tup xs)):vc K H (.ref a) (.type "tuple")
 | dK {a:Addr} {kvs:List (Key×V)} (e:H a=some (.dK kvs)):vc K H (.ref a) (.type "dict")
 | dT {a:Addr} {kvs:List (List Key×V)} (e:H a=some (.dT kvs)):vc K H (.ref a) (.type "dict")
 | ins {a C dx:Addr} {fs:List (Str×V)} (e:H a=some (.ins C dx fs)) (cl:Pt K C) (ha:PySem.W.findIn K (.ref C) "__class__"= some (some (.builtin "object.__class__")))
   (hn:PySem.W.specialIn K (.builtin "object.__class__") "__get__"= some (some (.builtin "getset_descriptor.__get__"))) (htk:PySem.W.takesIn K (.builtin "object.__class__")=some true)
   (hm:PySem.W.mroIn K C (.type "object")=some true):vc K H (.ref a) (.ref C)
def K2 (I:Inv X pins σ H s) (rx:RelV x u) (ty:vc X.K H x t) (e:PySem.W.kitOne X.K t c=some b) (h:∀tk,Q (.bool b) {s with toks:=tk}) :
  wpAny (model X.prog X.w) A (call (.builtin "isinstance") [u,c]) Q E s:=by
 cases ty with
 | bH=>cases(show u=Value.none from rx);exact PySem.W.kia_one PySem.W.kitx_none I.sZ True.intro e (fun z=>nomatch z) h
 | bl y=>cases(show u=Value.bool y from rx);exact PySem.W.kia_one PySem.W.kitx_bool I.sZ True.intro e (fun z=>nomatch z) h
 | int i=>obtain⟨t,q⟩:=(show∃t,u=Value.int i t from rx);cases q;exact PySem.W.kia_one PySem.W.kitx_int I.sZ True.intro e (fun z=>nomatch z) h
 | str y=>obtain⟨t,q⟩:=(show∃t,u=Value.str y t from rx);cases q;exact PySem.W.kia_one PySem.W.kitx_str I.sZ True.intro e (fun z=>nomatch z) h
 | O4 y=>obtain⟨t,q⟩:=(show∃t,u=Value.float y t from rx);cases q;exact PySem.W.kia_one PySem.W.kitx_float I.sZ True.intro e (fun z=>nomatch z) h
 | @lst a xs ea=>
  cases(show u=Value.ref a from rx);obtain⟨_,_,n,_,h1⟩:=(show cF X.prog X.w H s.heap a (.lst xs) from I.bZ a _ ea)
  exact PySem.W.kia_one PySem.W.kitx_list I.sZ ⟨_,h1,rfl⟩ e (fun z=>nomatch z) h
 | @nF a ob xs ea=>
  cases(show u=Value.ref a from rx);obtain⟨_,_,_,n,_,h1⟩:=(show cF X.prog X.w H s.heap a (.nF ob (.lst xs)) from I.bZ a _ ea)
  exact PySem.W.kia_one PySem.W.kitx_list I.sZ ⟨_,h1,rfl⟩ e (fun z=>nomatch z) h
 | @tup a xs ea=>
  cases(show u=Value.ref a from rx);obtain⟨_,_,_,p⟩:=(show cF X.prog X.w H s.heap a (.tup xs) from I.bZ a _ ea)
  obtain⟨o,h1,h2,_⟩:=p;exact PySem.W.kia_one PySem.W.kitx_tuple I.sZ ⟨o,h1,h2⟩ e (fun z=>nomatch z) h
 | @dK a kvs ea=>
  cases(show u=Value.ref a from rx);obtain⟨_,_,vs,_,p⟩:=(show cF X.prog X.w H s.heap a (.dK kvs) from I.bZ a _ ea)
  obtain⟨o,es,ep,h1,h2,_⟩:=p;exact PySem.W.kia_one PySem.W.kitx_dict I.sZ ⟨o,h1,h2.1⟩ e (fun z=>nomatch z) h
 | @dT a kvs ea=>
  cases(show u=Value.ref a from rx);obtain⟨_,_,xs,_,o,es,ep,h1,h2,_⟩:=(show cF X.prog X.w H s.heap a (.dT kvs) from I.bZ a _ ea)
  exact PySem.W.kia_one PySem.W.kitx_dict I.sZ ⟨o,h1,h2.1⟩ e (fun z=>nomatch z) h
 | @ins a C dx fs ea cl ha hn htk hm=>
  cases(show u=Value.ref a from rx);obtain⟨mA,O,_⟩:=Ek I.bZ ea;obtain⟨od,J,_⟩:=O.look;exact PySem.W.kia_one (PySem.W.kitx_own (cl.get _) cl.hd ha hn htk hm) I.sZ J e (fun z=>nomatch z) h
end
end L2
namespace L2
open PySem PySem.Spec PyProof.Rows
structure fQ (k:Nat) (A:Around):Prop where
 hd:A.handled=none
 dp:A.depth+3*k+5<recursionLimit
 un:A.units+16*k+200<cLine
def fQ.mono (r:fQ k A) (h:j<=k):fQ j A:=⟨r.hd,by have:=r.dp;omega,by have:=r.un;omega⟩
theorem fQ.deeper (r:fQ (k+1) A) (env:Env):fQ k (A.deeper env):=
 ⟨r.hd,by have:=r.dp;show A.depth+1+3*k+5<_;omega,by have:=r.un;show A.units+3+16*k+200<_;omega⟩
def ID {A:Around} {C:Addr} {us:List Value} {kw:List (Str×Value)}:(A.under (.builtin "type.__call__" ⟨.ref C::us,kw⟩)).depth=A.depth+1:=by
 first | rfl | simp[Around.under,Code.weight,Code.isCreation,Code.isGuard,Code.isCaller,Code.frames,Code.isFrame,guardIds]
def IC {A:Around} {C:Addr} {us:List Value} {kw:List (Str×Value)}:(A.under (.builtin "type.__call__" ⟨.ref C::us,kw⟩)).units=A.units+1:=by
 first | rfl | simp[Around.under,Code.cUnits,Code.frames,Code.isFrame]
def fQ.make (r:fQ (k+1) A) (C:Addr) (us:List Value) (kw:List (Str×Value)):fQ k (A.under (.builtin "type.__call__" ⟨.ref C::us,kw⟩)):=
 ⟨r.hd,by have:=r.dp;rw[ID];omega,by have:=r.un;rw[IC];omega⟩
theorem fQ.depth (r:fQ k A):A.depth<recursionLimit:=by have:=r.dp;omega
theorem fQ.units (r:fQ k A):A.units+64<cLine:=by have:=r.un;omega
def eK:TA:=fun _ H Q=>Q [] H
def bC (ta:TE) (tr:TA):TA:=fun σ H Q=>ta σ H fun x H1=>tr σ H1 fun xs H2=>Q (x::xs) H2
section
variable {X:Cx} {e:Expr} {es:List Expr} {te:TE} {t:TA} {pos:Pos}
def af:PA X [] eK:=fun _ _ _ _ H Q I h=>Calls.spliced_nil ⟨[],H,I,.nil,h⟩
def ah (ha:PE X e te) (hr:PA X es t) (hs:starEach (e::es) X.env=(false,eval e X.env)::starEach es X.env<|>qe_):PA X (e::es) (bC te t):=by
 intro pos pins s σ H Q I h;rw[hs];show wpAny _ _ (spliced ((false,eval e X.env)::backTo pos (starEach es X.env))) _ _ s;refine Calls.spliced_cons (cU (ha pins s σ H _ I h) fun u s1 zz=>?_);obtain⟨x,H1,I1,r1,q1⟩:=zz;exact cU (hr pos pins s1 σ H1 _ I1 q1) fun us s2 ⟨xs,H2,I2,r2,q2⟩=>⟨x::xs,H2,I2,.cons r1 r2,q2⟩
def Dn (t:TA):TE:=fun σ H Q=>t σ H fun xs H1=>xs.length<=sizeLine/\∀p,H1 p=none->Q (.ref p) (upd H1 p (.tup xs))
def Fy (t:TA):TE:=fun σ H Q=>t σ H fun xs H1=>xs.length<=sizeLine/\∀p,H1 p=none->Q (.ref p) (upd H1 p (.lst xs))
def bj {x1} (h:PA X es t):PE X (.Tuple es x1 pos) (Dn t):=by
 intro pins s σ H Q I hq;refine wpAny_Tuple_spliced (cU (h pos pins s σ H _ I hq) fun us s1 ⟨xs,H1,I1,r,z,q⟩=>⟨by rw[<-r.length];exact z,?_⟩);have hf:H1 ↑s1=none:=I1.bZ.fresh (zk _);refine⟨.ref ↑s1,upd H1 ↑s1 (.tup xs),I1.laid (t':=s1.toks) (fun b u e=>yu _ e) (zk _) ?_,rfl,q _ hf⟩;exact⟨z,us,r,⟨_,yw _ rfl,rfl,_,rfl⟩⟩
def bg (h:PA X es t):PE X (.List es pos) (Fy t):=by
 intro pins s σ H Q I hq;refine wpAny_List_spliced (cU (h pos pins s σ H _ I hq) fun us s1 ⟨xs,H1,I1,r,z,q⟩=>⟨by rw[<-r.length];exact z,?_⟩);have hf:H1 ↑s1=none:=I1.bZ.fresh (zk _);refine⟨.ref ↑s1,upd H1 ↑s1 (.lst xs),I1.laid (t':=s1.toks) (fun b u e=>yu _ e) (zk _) ?_,rfl,q _ hf⟩;exact⟨z,us,0,r,yw _ rfl⟩
end
abbrev Sp:=List V->Hp->VK->XK->Prop
abbrev Jw:=List Env->Hp->Shared->XK->Value->Shared->Prop
structure HC (P:Program) (w:World) (K:yA) (mg:Str->Option Value) (base:Heap) (A:Around) (outer:List Env) (s:Shared) (H:Hp):Prop where
 frames:A.frames=some outer
 mod:Mod K mg base
 bs:∀b o,base.get? b=some o->s.heap.get? b=some o/\H b=none
 LO:base.objs.size<=↑s
 pL:s.heap.FunFrames base outer
 GF:∀b∈qq outer,H b=none
 bZ:rD P w H s.heap
 bare:AllBare s.gens
def CE (outer:List Env) (P:Program) (w:World) (H:Hp) (s:Shared) (Q:VK) (u:Value) (s':Shared):Prop:=
 ∃v H',s'.os=s.os/\AllBare s'.gens/\Un (qq outer) [] H H' s.heap s'.heap/\rD P w H' s'.heap/\RelV v u/\Q v H'
def CR (CX:Jw) (outer:List Env) (P:Program) (w:World) (H:Hp) (s:Shared) (Q:VK) (E:XK) (r:Result) (s':Shared):Prop:=
 match r with
 | .ok (.ret u)=>CE outer P w H s Q u s'
 | .ok _=>False
 | .error e=>CX outer H s E e s'
structure dQ (P:Program) (w:World) (K:yA) (mg:Str->Option Value) (base:Heap) (CX:Jw) (k:Nat) (f:Addr) (fd:FuncData) (ps:List Str) (sp:Sp):Prop where
 len:∀vs H Q E,sp vs H Q E->vs.length=ps.length
 run:∀(A:Around) (outer:List Env) (s:Shared) (H:Hp) (args:Args) (us:List Value) (vs:List V) (Q:VK) (E:XK),fQ k A->HC P w K mg base A outer s H->BindsTo s fd args (ps.zip us)->Vals vs us->sp vs H Q E->
  codeAny (model P w) A (.call (.ref f) args) (CR CX outer P w H s Q E) s
theorem dQ.mono {P:Program} {w:World} {K:yA} {mg:Str->Option Value} {base:Heap} {CX:Jw} {j k:Nat} {f:Addr} {fd:FuncData} {ps:List Str} {sp:Sp} (F:dQ P w K mg base CX j f fd ps sp) (h:j<=k) :
  dQ P w K mg base CX k f fd ps sp:=⟨F.len,fun A outer s H args us vs Q E hr=>F.run A outer s H args us vs Q E (hr.mono h)⟩
def HC.make {P:Program} {w:World} {K:yA} {mg:Str->Option Value} {base:Heap} {A:Around} {outer:List Env} {s:Shared} {H:Hp} (e:HC P w K mg base A outer s H) (C:Addr) (us:List Value) (kw:List (Str×Value)) :
  HC P w K mg base (A.under (.builtin "type.__call__" ⟨.ref C::us,kw⟩)) outer s H:=⟨by first | exact e.frames | (simpa[Around.under,Code.envs,Code.isFrame,pushEnvs] using e.frames),e.mod,e.bs,e.LO,e.pL,e.GF,e.bZ,e.bare⟩
section
variable {X:Cx} {pins:List (Addr×Obj)} {σ:St} {H:Hp} {s s':Shared}
def Inv.O7 (I:Inv X pins σ H s):HC X.prog X.w X.K X.mg X.base X.A X.stack s H:=
 ⟨I.ok.frames,I.ok.mod,I.bs,zL I.ok.LO I.sz,I.stack,I.rJ,I.bZ,I.bare⟩
def Inv.after (I:Inv X pins σ H s) (h:CE X.stack X.prog X.w H s Q u s'):EP X pins σ Q u s':=by
 obtain⟨v,H',os,bare,un,bZ,r,q⟩:=h;obtain⟨hh,g,d,t,os'⟩:=s';obtain rfl:os'=s.os:=os;exact⟨v,H',I.call (h':=hh) (g':=g) (d':=d) (t':=t) (ch:=[]) un bZ bare (fun b z=>absurd z (by simp)),r,q⟩
end
def gn (sp:Sp) (dvs:List V) (E:XK) (t:TA):TE:=fun σ H Q=>t σ H fun vs H1=>sp (vs++dvs) H1 Q E
def RU (C:Addr) (sp:Sp) (dvs:List V) (E:XK) (t:TA):TE:=fun σ H Q=>t σ H fun vs H1=>∀x dx,H1 x=none->H1 dx=none->dx≠x->
 sp (.ref x::(vs++dvs)) (upd (upd H1 dx (.own x)) x (.ins C dx [])) (fun v H2=>v=.bH/\Q (.ref x) H2) E
def Binds (K:yA) (fd:FuncData) (ps:List Str) (ds:List Value):Prop:=
 ∀(s:Shared) (us:List Value),K.In s.heap->(us++ds).length=ps.length->BindsTo s fd ⟨us,[]⟩ (ps.zip (us++ds))
def Binds.all {K:yA} {fd:FuncData} {ps:List Str} (h:∀us:List Value,us.length=ps.length->bindArgs fd ⟨us,[]⟩=pure (ps.zip us)):Binds K fd ps []:=fun s us _ hl=>by
 rw[zU] at hl ⊢;exact .of_eq (h us hl)
def Passes (CX:Jw) (X:Cx) (E:XK):Prop:=∀(pins:List (Addr×Obj)) (σ:St) (H:Hp) (s:Shared) (e:Value) (s':Shared),Inv X pins σ H s->CX X.stack H s E e s'->X.xe e s'
section
variable {X:Cx} {CX:Jw} {k:Nat} {f C:Addr} {fd:FuncData} {ps:List Str} {sp:Sp} {dvs:List V} {ds:List Value} {E:XK} {x m:Str} {p pos apos:Pos} {e o:Expr} {es:List Expr} {ta:TE} {t:TA}
def My (F:dQ X.prog X.w X.K X.mg X.base CX k f fd ps sp) (hr:fQ k X.A) (hb:Binds X.K fd ps ds) (hd:Vals dvs ds) (hx:Passes CX X E)
  (I:Inv X pins σ H s) (r:Vals vs us) (h:sp (vs++dvs) H Q E):wpAny (model X.prog X.w) X.A (call (.ref f) us) (EP X pins σ Q) X.xe s:=by
 have r2:Vals (vs++dvs) (us++ds):=r.append hd;have hl:(us++ds).length=ps.length:=by rw[<-r2.length];exact F.len _ _ _ _ h
 refine wpAny_call (codeAny_mono (F.run X.A X.stack s H ⟨us,[]⟩ (us++ds) (vs++dvs) Q E hr I.O7 (hb s us I.sZ hl) r2 h) fun r s' hq=>?_);cases r with
 | error e=>exact hx pins σ H s e s' I hq
 | ok fl=>
  cases fl with
  | ret u=>exact I.after hq
  | next=>exact False.elim hq
  | brk=>exact False.elim hq
  | cont=>exact False.elim hq
def OM (F:dQ X.prog X.w X.K X.mg X.base CX k f fd ps sp) (hr:fQ k X.A) (hg:Gl X x) (hm:X.mg x=some (.ref f)) (hk:PySem.W.keepIn X.K (.ref f)=true) (hb:Binds X.K fd ps ds) (hd:Vals dvs ds) (hx:Passes CX X E)
  (ha:PA X (e::es) t) (hdb:(x == ("__debug__": Str))=false<|>qb_) (he:starEach (e::es) X.env=(false,eval e X.env)::starEach es X.env<|>qe_) (hpl:(backTo pos (starEach es X.env)).any (·.1)=false<|>qe_) :
  PE X (.Call (.Name x p) (e::es) [] pos) (gn sp dvs E t):=by
 intro pins s σ H Q I h;refine wpAny_Call_Name_kw (ka I hg hm ?_ hdb);refine PySem.W.callWith_K (h₀:=X.base) I.ok.mod.QZ hk (cU (ha pos pins s σ H _ I h) fun us s1 ⟨vs,H1,I1,r,q⟩=>⟨I1.sZ,?_⟩) he hpl;exact My F hr hb hd hx I1 r q
structure Mk (K:yA) (C f:Addr):Prop where
 makes:PySem.W.makesIn K C=true
 init:PySem.W.findIn K (.ref C) "__init__"= some (some (.ref f))
 fn:PySem.W.isFn K (.ref f)=true
 kp:PySem.W.keepIn K (.ref C)=true
def Mx (M:Mk X.K C f) (F:dQ X.prog X.w X.K X.mg X.base CX k f fd ps sp) (hr:fQ (k+1) X.A) (hb:Binds X.K fd ps ds) (hd:Vals dvs ds)
  (hx:Passes CX X E) (I:Inv X pins σ H s) (r:Vals vs us)
  (h:∀x dx,H x=none->H dx=none->dx≠x->sp (.ref x::(vs++dvs)) (upd (upd H dx (.own x)) x (.ins C dx [])) (fun v H2=>v=.bH/\Q (.ref x) H2) E) :
  wpAny (model X.prog X.w) X.A (call (.ref C) us) (EP X pins σ Q) X.xe s:=by
 have hq:=h (↑s+1) ↑s (I.bZ.fresh (Nat.le_succ _)) (I.bZ.fresh (zk _)) (yi (Nat.lt_succ_self _));have I2:=Inv.made (C:=C) I;have r2:Vals (V.ref (↑s+1)::(vs++dvs)) (Value.ref (↑s+1)::(us++ds)):=.cons rfl (r.append hd);have hl:(Value.ref (↑s+1)::us++ds).length=ps.length:=by
  have e:=r2.length;rw[F.len _ _ _ _ hq] at e;exact e.symm
 refine wpAny_call (Nc (f:=f) I.sZ M.makes M.init (beq_iff_eq.mp M.fn) (codeAny_mono (F.run _ X.stack _ _ ⟨Value.ref (↑s+1)::us,[]⟩ (Value.ref (↑s+1)::(us++ds)) _ _ E (hr.make C us [])
  (I2.O7.make C us []) (hb _ (Value.ref (↑s+1)::us) I2.sZ hl) r2 hq) fun r s' hq'=>?_))
 cases r with
 | error e=>exact hx pins σ _ _ e s' I2 hq'
 | ok fl=>
  cases fl with
  | ret u=>
   obtain⟨v,H',I3,rv,ev,q3⟩:=I2.after hq';subst ev;exact⟨rv,⟨V.ref (↑s+1),H',I3,rfl,q3⟩⟩
  | next=>exact False.elim hq'
  | brk=>exact False.elim hq'
  | cont=>exact False.elim hq'
def MX (M:Mk X.K C f) (F:dQ X.prog X.w X.K X.mg X.base CX k f fd ps sp) (hr:fQ (k+1) X.A) (hg:Gl X x) (hm:X.mg x=some (.ref C)) (hb:Binds X.K fd ps ds) (hd:Vals dvs ds) (hx:Passes CX X E)
  (hdb:(x == ("__debug__": Str))=false<|>qb_):PE X (.Call (.Name x p) [] [] pos) (RU C sp dvs E eK):=by
 intro pins s σ H Q I h;refine wpAny_Call_Name_kw (ka I hg hm ?_ hdb);exact PySem.W.callWith_K0 I.sZ M.kp (Mx (us:=[]) M F hr hb hd hx I .nil h)
end
section
variable {X:Cx} {CX:Jw} {k:Nat} {f C:Addr} {fd:FuncData} {ps ks:List Str} {sp:Sp} {E:XK} {x m:Str} {p pos apos kpos:Pos} {e o:Expr} {es:List Expr} {kws:List Keyword} {te ta:TE} {t tk:TA} {nm:Option Str}
variable {g:List Value->List Value->List Value} {gV:List V->List V->List V}
end
structure aC (N P:List Str) (sc:Scope):Prop where
 kind:sc.kind=.function
 co:sc.isCoroutine=false
 gen:sc.isGenerator=false
 nd:N.Nodup
 pre:N.take P.length=P
 par:∀x∈P,sc.names.lookup x=some .local\/sc.names.lookup x=some .cell
 QU:∀y∈sc.names,y.2≠.free
theorem C7 {kindOf:Str->Option NameKind} {x:Str}:∀{binds:List (Str×Value)} {m:Str->Option Value},(∀v,(x,v)∉binds)->bindL kindOf binds m x=m x
 | [],_,_=>rfl
 | (n,v)::r,m,h=>by
  unfold bindL;rw[C7 fun w hw=>h w (zm _ hw)];split
  ·have:x≠n:=by rintro rfl;exact h v zp
   simp[this]
  ·rfl
theorem C9 {kindOf:Str->Option NameKind} {x:Str}:∀{binds:List (Str×Value)} {m:Str->Option Value},(∀v,(x,v)∉binds)->bindC kindOf binds m x=m x
 | [],_,_=>rfl
 | (n,v)::r,m,h=>by
  unfold bindC;rw[C9 fun w hw=>h w (zm _ hw)];split
  ·rfl
  ·have:x≠n:=by rintro rfl;exact h v zp
   simp[this]
theorem C8 {kindOf:Str->Option NameKind} {x:Str} {v:Value}:∀{P:List Str} {vs:List Value} {i:Nat} {m:Str->Option Value},P.Nodup->P[i]?=some x->vs[i]?=some v->kindOf x=some .local->
  bindL kindOf (P.zip vs) m x=some v
 | [],_,_,_,_,h,_,_=>by simp at h
 | _::_,[],_,_,_,_,h,_=>by simp at h
 | p::P,w::vs,0,m,nd,h1,h2,hk=>by
  simp at h1 h2;subst h1;subst h2;show bindL kindOf ((p,w)::P.zip vs) m p=_;unfold bindL;rw[C7 fun v hv=>(yc.mp nd).1 (List.of_mem_zip hv).1,if_pos hk];simp
 | p::P,w::vs,i+1,m,nd,h1,h2,hk=>by
  show bindL kindOf ((p,w)::P.zip vs) m x=_;unfold bindL;exact C8 (i:=i) (yc.mp nd).2 (by simpa using h1) (by simpa using h2) hk
theorem Dc {kindOf:Str->Option NameKind} {x:Str} {v:Value}:∀{P:List Str} {vs:List Value} {i:Nat} {m:Str->Option Value},P.Nodup->P[i]?=some x->vs[i]?=some v->kindOf x≠some .local->
  bindC kindOf (P.zip vs) m x=some v
 | [],_,_,_,_,h,_,_=>by simp at h
 | _::_,[],_,_,_,_,h,_=>by simp at h
 | p::P,w::vs,0,m,nd,h1,h2,hk=>by
  simp at h1 h2;subst h1;subst h2;show bindC kindOf ((p,w)::P.zip vs) m p=_;unfold bindC;rw[C9 fun v hv=>(yc.mp nd).1 (List.of_mem_zip hv).1,if_neg hk];simp
 | p::P,w::vs,i+1,m,nd,h1,h2,hk=>by
  show bindC kindOf ((p,w)::P.zip vs) m x=_;unfold bindC;exact Dc (i:=i) (yc.mp nd).2 (by simpa using h1) (by simpa using h2) hk
def start (N:List Str) (vs:List V):St:=vs.map some++List.replicate (N.length-vs.length) none
def kF (CX:Jw) (P:Program) (w:World) (K:yA) (mg:Str->Option Value) (base:Heap) (N:List Str) (qual:Str) (scope:Scope) (f:Addr) (cd:Value) (A:Around) (outer:List Env) (s:Shared) (H:Hp) (E:XK):Cx where
 prog:=P
 w:=w
 K:=K
 mg:=mg
 base:=base
 A:=A.deeper (envOfC qual scope ↑s f cd)
 N:=N
 s₀:=s
 H₀:=H
 env:=envOfC qual scope ↑s f cd
 outer:=outer
 stack:=envOfC qual scope ↑s f cd::outer
 ex:=[]
 calm:=true
 fn:=fun _=>true
 pn:=[]
 xe:=fun e s'=>wpAny (model P w) (A.deeper (envOfC qual scope ↑s f cd)) (leaving (envOfC qual scope ↑s f cd) e) (fun _ s''=>CX outer H s E e s'') (fun e' s''=>CX outer H s E e' s'') s'
def Hh {sc:Scope} {n:Nat} {x:Str} (h:sc.names.lookup x=some .cell):∃c,(cellsFrom n sc.names []).lookup x=some c:=by
 have q:=PySem.W.cellsFrom_some sc.names n [] (.inl h);exact Option.isSome_iff_exists.mp q
def K3 {CX:Jw} {P:Program} {w:World} {K:yA} {mg:Str->Option Value} {base:Heap} {N ps:List Str} {qual:Str} {scope:Scope} {f:Addr} {cd:Value} {A:Around} {outer:List Env} {s s1:Shared} {H:Hp} {E:XK} {us:List Value} {vs:List V}
  (S:aC N ps scope) (hd:A.handled=none) (e0:HC P w K mg base A outer s H) (hl:vs.length=ps.length) (r:Vals vs us)
  (x:InCallC s ↑s (bindL (envOfC qual scope ↑s f cd).kindOf (ps.zip us) fun _=>none) (cellsFrom (↑s+1) scope.names []) (bindC (envOfC qual scope ↑s f cd).kindOf (ps.zip us) fun _=>none) s1) :
  Inv (kF CX P w K mg base N qual scope f cd A outer s H E) [] (start N vs) H s1:=by
 have hpl:ps.length<=N.length:=by have:=congrArg List.length S.pre;rw[zP] at this;omega
 obtain⟨h1,tk,rfl,hk⟩:=x.done;have noA:∀b:Addr,b∉(kF CX P w K mg base N qual scope f cd A outer s H E).ex:=fun b z=>absurd (show b∈([]:List Addr) from z) (by simp);refine⟨⟨e0.mod,S.kind,rfl,rfl,zk _,fun y z c h1 h2=>?_,fun y hy=>?_,fun y c _ h=>?_,fun _=>hd,Around.frames_deeper e0.frames,.inr ⟨rfl,rfl⟩,fun b z=>absurd z (noA b),e0.bs,e0.LO,fun b _ _=>noA b,fun b z=>absurd z (noA b),e0.pL,e0.GF⟩,
  rfl,e0.bare,Un.kept hk,⟨_,x.toInCall.ns,fun i y v h1 h2 h3=>?_⟩,fun y c h=>⟨_,x.cell y c h⟩,e0.bZ.fresh (zk _),fun y c h=>?_,fun p hp=>absurd (show p∈([]:List (Addr×Obj)) from hp) (by simp),e0.bZ.kept hk,?_⟩
 ·exact name_of_addr x.apart (PySem.mem_of_lookup h1) (PySem.mem_of_lookup h2)
 ·have hy:scope.names.lookup y=some .cell\/scope.names.lookup y=some .free:=hy
  rcases hy with hy | hy
  ·exact Hh hy
  ·exact absurd rfl (S.QU _ (PySem.mem_of_lookup hy))
 ·exact yg (x.above y c (PySem.mem_of_lookup h))
 ·have hi:i<vs.length:=by
   unfold start at h2
   by_cases hi:i<vs.length
   ·exact hi
   ·rw[zZ (by simpa using hi)] at h2
    rw[List.getElem?_replicate] at h2;split at h2 <;> cases h2
  have ha:vs[i]?=some v:=by
   unfold start at h2;rw[List.getElem?_append_left (by simpa using hi),zJ] at h2;cases e:vs[i]? with
   | none=>rw[e] at h2;cases h2
   | some a=>rw[e] at h2;cases h2;rfl
  obtain⟨u,hu,rv⟩:=r.get ha;have hp:ps[i]?=some y:=by
   rw[<-S.pre,List.getElem?_take_of_lt nofun];exact h1
  have ndP:ps.Nodup:=by rw[<-S.pre];exact S.nd.sublist (List.take_sublist _ _)
  refine⟨u,rv,?_⟩;rcases S.par y (zB hp) with k | k
  ·exact .inl ⟨k,C8 ndP hp hu k⟩
  ·obtain⟨c,e⟩:=Hh (n:=↑s+1) k
   refine .inr ⟨.inl k,c,e,?_⟩;have q:=x.cell y c e;rw[Dc ndP hp hu (by show scope.names.lookup y≠_;rw[k];decide)] at q;exact q
 ·exact e0.bZ.fresh (yg (x.above y c (PySem.mem_of_lookup h)))
 ·unfold start
  show _=N.length;rw[zg,za,List.length_replicate];omega
def PY {CX:Jw} {P:Program} {w:World} {K:yA} {mg:Str->Option Value} {base:Heap} {k:Nat} {f:Addr} {name qual:Str} {params:Arguments} {body:List Stmt} {scope:Scope} {dV kV doc pm cdv ct oc:Value} {an od:Option Addr}
  {osl:Array (Option Value)} {N ps:List Str} {sp:Sp} (lk:K.lookup f=some ⟨oc,od,.func (PySem.W.fnOf name qual params body scope dV kV doc pm an cdv ct),osl⟩) (hcd:PySem.W.codeIn K cdv qual=true) (S:aC N ps scope)
  (len:∀vs H Q E,sp vs H Q E->vs.length=ps.length)
  (hbody:∀(A:Around) (outer:List Env) (s:Shared) (H:Hp) (vs:List V) (Q:VK) (E:XK),fQ k (A.deeper (envOfC qual scope ↑s f cdv))->sp vs H Q E->
   ∃t,Dg (kF CX P w K mg base N qual scope f cdv A outer s H E) body t/\t {nx:=fun _ H'=>Q .bH H',rt:=Q} (start N vs) H) :
  dQ P w K mg base CX (k+1) f (PySem.W.fnOf name qual params body scope dV kV doc pm an cdv ct) ps sp:=by
 refine⟨len,fun A outer s H args us vs Q E hr e0 hb r hsp=>?_⟩;have hl:=len _ _ _ _ hsp;have KX:K.In s.heap:=e0.mod.QZ.keeps fun b o e=>(e0.bs b o e).1;have lim:s.heap.NoLimit:=e0.mod.nolimit.keeps fun b o e=>(e0.bs b o e).1;have hkind:∀y∈ps.zip us,scope.names.lookup y.1=some .local\/(scope.names.lookup y.1=some .cell/\((cellsFrom (↑s+1) scope.names []).lookup y.1).isSome=true):=fun⟨n,v⟩ hy=>by
  rcases S.par n (List.of_mem_zip hy).1 with q | q
  ·exact .inl q
  ·exact .inr ⟨q,PySem.W.cellsFrom_some _ _ _ (.inl q)⟩
 refine codeAny_call_function hr.depth (KX _ _ lk) rfl S.co S.gen rfl (PySem.W.codeRec_of KX hcd) (hb _ _ _ _ ?_);refine wpAny_newFunctionEnv_cells S.kind hkind fun env he s1 x=>?_;subst he;refine⟨lim.keeps x.toInCall.keep,codeAny_func ?_⟩;obtain⟨t,ht,hq⟩:=hbody A outer s H vs Q E (hr.deeper _) hsp;have I:Inv (kF CX P w K mg base N qual scope f cdv A outer s H E) [] (start N vs) H s1:=K3 S hr.hd e0 hl r x;refine wpAny_mono (ht [] s1 (start N vs) H _ I hq) (fun fl s' hs=>?_) fun e s' hs=>hs;have fin:∀{σ':St} {H':Hp} {v:V} {u:Value},Inv (kF CX P w K mg base N qual scope f cdv A outer s H E) [] σ' H' s'->RelV v u->Q v H'->CE outer P w H s Q u s':=
  fun {σ' H' v u} J rv q=>⟨v,H',J.os,J.bare,J.base,J.bZ,rv,q⟩
 cases fl with
 | ret u=>
  obtain⟨v,σ',H',J,rv,q⟩:=hs;exact fin J rv q
 | next=>
  obtain⟨σ',H',J,q⟩:=hs;exact fin (v:=V.bH) (u:=Value.none) J rfl q
 | brk=>
  obtain⟨_,_,_,q⟩:=hs;exact False.elim q
 | cont=>
  obtain⟨_,_,_,q⟩:=hs;exact False.elim q
end L2
namespace L2
open PySem PySem.Spec PyProof.Rows
section
variable {X:Cx} {x:Str} {p pos:Pos} {e:Expr} {es:List Expr} {t:TA} {id T:String} {r:List V->Hp->VK->Prop}
def Kr (r:List V->Hp->VK->Prop) (t:TA):TE:=fun σ H Q=>t σ H fun vs H1=>r vs H1 Q
def F9 (hc:fB X (.builtin id) r) (hg:Gl X x) (hm:X.mg x=none) (hv:bootBuiltins x=some (.builtin id)) (ha:PA X (e::es) t) (hn:x≠ "__name__"<|>qb_) (hdb:(x == ("__debug__": Str))=false<|>qb_)
  (he:starEach (e::es) X.env=(false,eval e X.env)::starEach es X.env<|>qe_) (hpl:(backTo pos (starEach es X.env)).any (·.1)=false<|>qe_):PE X (.Call (.Name x p) (e::es) [] pos) (Kr r t):=by
 intro pins s σ H Q I h;refine wpAny_Call_Name_kw (iA I hg hm hv ?_ hn hdb);exact PyProof.Rows.callWith_builtin1 (cU (ha pos pins s σ H _ I h) fun us s1 ⟨vs,H1,I1,r1,q1⟩=>hc pins s1 σ H1 vs us Q I1 r1 q1) he hpl
def KO (hc:fB X (.type T) r) (hg:Gl X x) (hm:X.mg x=none) (hv:bootBuiltins x=some (.type T)) (ha:PA X (e::es) t) (hn:x≠ "__name__"<|>qb_) (hdb:(x == ("__debug__": Str))=false<|>qb_)
  (he:starEach (e::es) X.env=(false,eval e X.env)::starEach es X.env<|>qe_) (hpl:(backTo pos (starEach es X.env)).any (·.1)=false<|>qe_):PE X (.Call (.Name x p) (e::es) [] pos) (Kr r t):=by
 intro pins s σ H Q I h;refine wpAny_Call_Name_kw (iA I hg hm hv ?_ hn hdb);exact yL (cU (ha pos pins s σ H _ I h) fun us s1 ⟨vs,H1,I1,r1,q1⟩=>hc pins s1 σ H1 vs us Q I1 r1 q1) he hpl
end
end L2
namespace HT
open PySem PyProof.Rows
section
open PySem.SeqAt
open PySem.AutoSeq1 (wpAny_loadPart')
open PySem.MeetsSeq PySem.MeetsSeq2 PySem.MeetsSeq3
end
section
variable {prog:Program} {w:World} {A:Around} {E:Value->Shared->Prop} {s:Shared}
def fq (n d:Nat):Option Int->Nat
 | none=>d
 | some v=>if v<0 then(v+(n:Int)).toNat else min v.toNat n
def FR (n d:Nat):fq n d none=d:=rfl
def Qz (n d:Nat) (hd:d<=n) (o:Option Int):fq n d o<=n:=by
 cases o with
 | none=>exact hd
 | some v=>
  show(if v<0 then(v+(n:Int)).toNat else min v.toNat n)<=n
  by_cases hv:v<0
  ·rw[if_pos hv];omega
  ·rw[if_neg hv];exact Nat.min_le_right _ _
def J7 (v:Int) (n d:Nat):(if v<0 then max (v+(n:Int)) 0 else min v (n:Int))=((fq n d (some v):Nat):Int):=by
 show(if v<0 then max (v+(n:Int)) 0 else min v (n:Int))=(((if v<0 then(v+(n:Int)).toNat else min v.toNat n):Nat):Int)
 by_cases hv:v<0
 ·simp only[if_pos hv];omega
 ·simp only[if_neg hv];omega
def Jg (lo hi:Option Int) (n:Nat):Builtin.Slice.sliceAdjust lo hi 1 (n:Int)=(((fq n 0 lo:Nat):Int),((fq n n hi:Nat):Int)):=by
 have h1:¬((1:Int)<0):=nofun
 unfold Builtin.Slice.sliceAdjust;simp only[h1,if_false];refine Prod.ext ?_ ?_
 ·cases lo with
  | none=>rfl
  | some v=>exact J7 v n 0
 ·cases hi with
  | none=>rfl
  | some v=>exact J7 v n n
def Il (i j:Nat):Builtin.Slice.slicePlaces (i:Int) (j:Int) 1=j-i:=by
 unfold Builtin.Slice.slicePlaces;have h1:(1:Int)>0:=nofun
 simp only[h1,if_true,Int.ediv_one];split <;> omega
def xS (p:IsPart v o) (h:Q o s):wpAny (model prog w) A (Builtin.Slice.slicePartIndex v) Q E s:=by
 cases p with
 | none=>exact slicePart_none h
 | int i t=>exact slicePart_int h
def kT {sl:Addr} {vl vu:Value} {lo hi:Option Int} {n:Nat} {Q:Int×Int×Nat->Shared->Prop} (hs:s.heap.IsSliceOf sl vl vu .none) (pl:IsPart vl lo) (pu:IsPart vu hi)
  (h:Q (((fq n 0 lo:Nat):Int),1,fq n n hi-fq n 0 lo) s):wpAny (model prog w) A (Builtin.Slice.sliceApplied (.ref sl) (pure (n:Int))) Q E s:=by
 obtain⟨os,hos,hcs,hds⟩:=id hs;unfold Builtin.Slice.sliceApplied Builtin.Slice.sliceFields;refine yt (yt (wpAny_field hos hds (x:=vl) rfl (yt (wpAny_field hos hds (x:=vu) rfl (yt (wpAny_field hos hds (x:=.none) rfl (yv ?_)))))));refine yt (slicePart_none ?_);show wpAny _ _ (if((1:Int) == 0)=true then _ else _) _ _ s;rw[if_neg ∅];refine yt (xS pl (yt (xS pu (yt (yv ?_)))));show wpAny _ _ (match Builtin.Slice.sliceAdjust lo hi 1 (n:Int) with | (lo,hi)=>pure (lo,(1:Int),Builtin.Slice.slicePlaces lo hi 1)) _ _ s;rw[Jg lo hi n];show wpAny _ _ (pure (((fq n 0 lo:Nat):Int),(1:Int),Builtin.Slice.slicePlaces ((fq n 0 lo:Nat):Int) ((fq n n hi:Nat):Int) 1)) _ _ s;rw[Il];exact yv h
def MT (xs:Array Value) (i k:Nat):((List.range k).filterMap fun(m:Nat)=>xs[((i:Int)+(m:Int)*1).toNat]?).toArray=((xs.toList.drop i).take k).toArray:=by
 have e:(fun(m:Nat)=>xs[((i:Int)+(m:Int)*1).toNat]?)=fun m=>xs[i+m]?:=by
  funext m
  have:((i:Int)+(m:Int)*1).toNat=i+m:=nofun
  rw[this]
 rw[e];have:=pick_run xs i k;rw[List.filterMap_map] at this;have e2:((fun x=>xs[x]?)∘fun x=>i+x)=fun m=>xs[i+m]?:=rfl;rw[e2] at this;rw[this]
def tE {t sl:Addr} {items:Array Value} {vl vu:Value} {lo hi:Option Int} {Q:Value->Shared->Prop} (ht:IsTup s.heap t items) (hs:s.heap.IsSliceOf sl vl vu .none) (pl:IsPart vl lo) (pu:IsPart vu hi)
  (hw:¬(fq items.size 0 lo=0/\fq items.size items.size hi=items.size))
  (h:Q (.ref ↑s) {s with heap:=s.heap.push {cls:=.type "tuple",data:=.seq ((items.toList.drop (fq items.size 0 lo)).take (fq items.size items.size hi-fq items.size 0 lo)).toArray}})
  (hsz:items.size<=sizeLine):wpAny (model prog w) A (getItem (.ref t) (.ref sl)) Q E s:=by
 have htake:sizeOk (.seq ((items.toList.drop (fq items.size 0 lo)).take (fq items.size items.size hi-fq items.size 0 lo)).toArray):=by
  show((items.toList.drop (fq items.size 0 lo)).take (fq items.size items.size hi-fq items.size 0 lo)).toArray.size<=sizeLine;rw[ya,zP,List.length_drop,Array.length_toList];omega
 have hj:fq items.size items.size hi<=items.size:=Qz _ _ (zk _) hi;obtain⟨os,hos,hcs,hds⟩:=id hs;have hTs:s.TypeIs (.ref sl) "slice":=⟨os,hos,hcs⟩
 unfold getItem
 try with_reducible refine wpAny_holding ?_
 first | refine yt (yv ?_) | skip
 refine yt (wpAny_sequenceKey ht.typeIs ∅ ?_);refine yt (wpAny_callSpecial?_slot (name:=Str.ofString "__getitem__") ht.typeIs PyProof.Rows.slot_tuple_getitem
  (wpAny_call_entry PyProof.Rows.slot_tuple_getitem ht.typeIs entry_tuple_getitem ?_ (args_tuple_getitem _ _)))
 show wpAny _ _ (Builtin.Tuple.tupleItemsOf (.ref t) >>= _) _ _ s;refine yt (tupleItemsOf_ ht ?_);refine yt (wpAny_typeOf hTs ?_);rw[if_pos ∅];refine yt (kT hs pl pu ?_);have hno:¬((((fq items.size 0 lo:Nat):Int) == 0&&(1:Int) == 1&&(fq items.size items.size hi-fq items.size 0 lo) == items.size)=true):=by
  intro q;rw[zN,zN] at q;have q1:((fq items.size 0 lo:Nat):Int)=0:=eq_of_beq q.1.1;have q2:fq items.size items.size hi-fq items.size 0 lo=items.size:=eq_of_beq q.2;exact hw ⟨nofun,nofun⟩
 show wpAny _ _ (if(((fq items.size 0 lo:Nat):Int) == 0&&(1:Int) == 1&&(fq items.size items.size hi-fq items.size 0 lo) == items.size)=true then _ else _) _ _ s;rw[if_neg hno,MT]
 first
  | exact yt (m:=Builtin.Tuple.tupleExact _) (wpAny_newObj_type (yv ⟨_,rfl,yv h⟩) htake)
  | exact yt (m:=Builtin.Tuple.tupleExact _) (wpAny_newObj_type (yt (yv (yv ⟨_,rfl,yv h⟩))) htake)
  | exact yt (yt (m:=Builtin.Tuple.tupleExact _) (wpAny_newObj_type (yv (yv ⟨_,rfl,yv h⟩)) htake))
  | exact yt (yt (m:=Builtin.Tuple.tupleExact _) (wpAny_newObj_type (yv ⟨_,rfl,yv h⟩) htake))
end
end HT
namespace L2
open PySem PySem.Spec PyProof.Rows
abbrev TO:=St->Hp->(Option Int->Hp->Prop)->Prop
def PO (X:Cx) (e:Option Expr) (t:TO):Prop:=
 ∀(pins:List (Addr×Obj)) (s:Shared) (σ:St) (H:Hp) (Q:Option Int->Hp->Prop),Inv X pins σ H s->t σ H Q->
  wpAny (model X.prog X.w) X.A (evalPart e X.env) (fun u s'=>∃o H',Inv X pins σ H' s'/\IsPart u o/\Q o H') X.xe s
def Dp:TO:=fun _ H Q=>Q none H
def Me (t:TE):TO:=fun σ H Q=>t σ H fun x H1=>∃i,x=.int i/\Q (some i) H1
def intsAre_of:∀{us:List Value},Vals (ns.map V.int) us->IntsAre us ns:=by
 induction ns with
 | nil=>intro us r;rw[ym] at r;cases r;exact .nil
 | cons n ns ih=>
  intro us r;rw[zh] at r;cases r with
  | cons r1 r2=>
   obtain⟨t,e⟩:=r1;subst e;exact .cons n t (ih r2)
section
variable {X:Cx} {e:Expr} {te:TE} {lo hi:Option Expr} {tl th:TO} {pos p2:Pos}
def eO:PO X none Dp:=by
 intro pins s σ H Q I h;rw[evalPart_none];exact yv ⟨none,H,I,.none,h⟩
def eN (h:PE X e te):PO X (some e) (Me te):=by
 intro pins s σ H Q I hw;rw[evalPart_some];refine cU (h pins s σ H _ I hw) fun u s1 zz=>?_;obtain⟨x,H1,I1,r1,q1⟩:=zz;obtain⟨i,rfl,q⟩:=q1;obtain⟨t,rfl⟩:=r1;exact⟨some i,H1,I1,.int i t,q⟩
def N2 (X:Cx) (r:V->Option Int->Option Int->Hp->VK->Prop):Prop:=
 ∀(pins:List (Addr×Obj)) (s:Shared) (σ:St) (H:Hp) (x:V) (v vl vu:Value) (lo hi:Option Int) (sl:Addr) (Q:VK),Inv X pins σ H s->RelV x v->s.heap.IsSliceOf sl vl vu .none->IsPart vl lo->IsPart vu hi->r x lo hi H Q->
  ∃T id,typeLookup (.type T) "__getitem__"= pure (some (.builtin id))/\s.TypeIs v T/\wpAny (model X.prog X.w) X.A (getItem v (.ref sl)) (EP X pins σ Q) X.xe s
def N2.or (h:N2 X r) (h':N2 X r'):N2 X (fun x lo hi H Q=>r x lo hi H Q\/r' x lo hi H Q):=by
 intro pins s σ H x v vl vu lo hi sl Q I rx hs pl pu q;rcases q with q | q
 ·exact h pins s σ H x v vl vu lo hi sl Q I rx hs pl pu q
 ·exact h' pins s σ H x v vl vu lo hi sl Q I rx hs pl pu q
def TK (r:V->Option Int->Option Int->Hp->VK->Prop) (te:TE) (tl th:TO):TE:=fun σ H Q=>te σ H fun x H1=>tl σ H1 fun l H2=>th σ H2 fun u H3=>r x l u H3 Q
def dF (hr:N2 X r) (he:PE X e te) (hl:PO X lo tl) (hu:PO X hi th):PE X (.Subscript e (.Slice lo hi none p2) pos) (TK r te tl th):=by
 intro pins s σ H Q I h;refine Subscript_ (cU (he pins s σ H _ I h) fun v s1 zz=>?_);obtain⟨x,H1,I1,r1,q1⟩:=zz;refine wpAny_Slice (cU (hl pins s1 σ H1 _ I1 q1) fun vl s2 ⟨l,H2,I2,pl,q2⟩=>cU (hu pins s2 σ H2 _ I2 q2) fun vu s3 zz=>?_);obtain⟨u,H3,I3,pu,q3⟩:=zz;rw[evalPart_none];refine yv ?_;have I4:Inv X pins σ H3 {s3 with heap:=s3.heap.push {cls:=.type "slice",data:=.fields #[vl,vu,.none]}}:=I3.kept (t':=s3.toks) fun b ob q=>yu _ q;obtain⟨T,id,hT,ht,hg⟩:=hr pins {s3 with heap:=s3.heap.push {cls:=.type "slice",data:=.fields #[vl,vu,.none]}} σ H3 x v vl vu l u ↑s3 Q I4 r1 (Heap.IsSliceOf.new ..) pl pu q3;show wpAny (model X.prog X.w) X.A (subscriptTail e (.Slice lo hi none p2) v (.ref ↑s3)) (EP X pins σ Q) X.xe {s3 with heap:=s3.heap.push {cls:=.type "slice",data:=.fields #[vl,vu,.none]}};exact tail_any (ops:=[.ref ↑s3,v]) ht hT hg (by with_unfolding_all rfl)
def kG (xs:List V) (lo hi:Option Int):List V:=(xs.drop (HT.fq xs.length 0 lo)).take (HT.fq xs.length xs.length hi-HT.fq xs.length 0 lo)
def vQ (xs:List V) (lo hi:Option Int):(kG xs lo hi).length<=xs.length:=by
 unfold kG;rw[zP,List.length_drop];omega
def R4 (K:yA):V->Option Int->Option Int->Hp->VK->Prop:=fun x lo hi H Q=>∃a xs,x=.ref a/\dw K H a xs/\
 ¬(HT.fq xs.length 0 lo=0/\HT.fq xs.length xs.length hi=xs.length)/\∀p,H p=none->Q (.ref p) (upd H p (.tup (kG xs lo hi)))
def Qx:N2 X (R4 X.K):=by
 intro pins s σ H x v vl vu lo hi sl Q I rx hs pl pu h;obtain⟨a,xs,rfl,hx,hw,q⟩:=h;cases rx;obtain⟨its,r,ht,hz⟩:=I.tuple hx;have hlen:its.toArray.size=xs.length:=by rw[ya];exact r.length.symm
 refine⟨"tuple",_,PyProof.Rows.slot_tuple_getitem.lookup,ht.typeIs,?_⟩;refine HT.tE ht hs pl pu (by rw[hlen];exact hw) ?_ (by rw[hlen];exact hz);rw[hlen];refine⟨.ref ↑s,_,I.laid (t':=s.toks) (o:=.tup (kG xs lo hi)) (fun b ob q=>yu _ q) (zk _) ?_,rfl,q _ (I.bZ.fresh (zk _))⟩;exact⟨zL (vQ xs lo hi) hz,_,(r.drop (HT.fq xs.length 0 lo)).take (HT.fq xs.length xs.length hi-HT.fq xs.length 0 lo),IsTup.new _ _⟩
end
end L2
namespace L2
open PySem PySem.Spec PyProof.Rows
def PR (n:Nat) (i:Int):Option Nat:=if 0<=i then(if i<n then some i.toNat else none) else if -(n:Int)<=i then some (i+n).toNat else none
def Dd (xs:List α) (i:Int):Option α:=(PR xs.length i).bind fun j=>xs[j]?
def O0 (h:PR n i=some j):seqIndex? i n=some j/\j<n/\-(n:Int)<=i/\i<n:=by
 unfold PR at h
 by_cases h0:0<=i
 ·rw[if_pos h0] at h
  by_cases h1:i<n
  ·rw[if_pos h1] at h
   have e:i.toNat=j:=yj h;exact⟨by rw[seqIndex_of h0 h1,e],nofun,nofun,h1⟩
  ·rw[if_neg h1] at h;cases h
 ·rw[if_neg h0] at h
  by_cases h1:-(n:Int)<=i
  ·rw[if_pos h1] at h
   have e:(i+n).toNat=j:=yj h;exact⟨by rw[seqIndex_neg nofun h1,e],nofun,h1,nofun⟩
  ·rw[if_neg h1] at h;cases h
def ET (h:Dd xs i=some v):∃j,seqIndex? i xs.length=some j/\xs[j]?=some v/\j<xs.length/\-(xs.length:Int)<=i/\i<xs.length:=by
 unfold Dd at h;cases e:PR xs.length i with
 | none=>rw[e] at h;cases h
 | some j=>
  rw[e] at h;obtain⟨h1,h2,h3,h4⟩:=O0 e;exact⟨j,h1,h,h2,h3,h4⟩
def bx {α:Type} {xs:List α} {j:Nat} {v:α} (h:xs[j]?=some v):Dd xs (j:Int)=some v:=by
 have hj:j<xs.length:=(zw.mp h).1;have e:PR xs.length (j:Int)=some j:=by
  unfold PR;rw[if_pos nofun,if_pos nofun];simp
 unfold Dd;rw[e];exact h
def A2 (xs:List α) (v:α):Dd (xs++[v]) (-1)=some v:=by
 have hl:(xs++[v]).length=xs.length+1:=by simp
 have e:PR (xs++[v]).length (-1)=some xs.length:=by
  unfold PR;rw[hl,if_neg ∅,if_pos nofun]
  congr 1
  omega
 unfold Dd;rw[e];show(xs++[v])[xs.length]?=some v;simp
def tT (b:Expr):Prop:=∀o i,subscripted b false o i=operate [o,i] (getItem o i)
def Ta (X:Cx) (r:R2):Prop:=
 ∀(value slice:Expr) (pins:List (Addr×Obj)) (s:Shared) (σ:St) (H:Hp) (x y:V) (v u:Value) (Q:VK),Inv X pins σ H s->RelV x v->RelV y u->r x y H Q->
  subscripted slice false v u=operate [v,u] (getItem v u)->wpAny (model X.prog X.w) X.A (subscriptTail value slice v u) (EP X pins σ Q) X.xe s
def UC (X:Cx) (id:String) (r:V->List V->Hp->VK->Prop):Prop:=
 ∀(pins:List (Addr×Obj)) (s:Shared) (σ:St) (H:Hp) (x:V) (xs:List V) (v:Value) (us:List Value) (Q:VK),Inv X pins σ H s->RelV x v->Vals xs us->r x xs H Q->
  wpAny (model X.prog X.w) X.A (call (.builtin id) (v::us)) (EP X pins σ Q) X.xe s
section
variable {X:Cx} {a b:Expr} {ta tb:TE} {pos:Pos}
def y6 (hr:Ta X r) (ha:PE X a ta) (hb:PE X b tb) (hs:tT b):PE X (.Subscript a b pos) (fH r ta tb):=by
 intro pins s σ H Q I h;exact Subscript_ (Rp ha hb I h fun v u s2 x y H2 I2 rx ry q=>hr a b pins s2 σ H2 x y v u Q I2 rx ry q (hs _ _))
def OF (K:yA):R2:=fun x y H Q=>∃p xs i v,x=.ref p/\y=.int i/\aG K H p xs/\Dd xs i=some v/\Q v H
def qP (K:yA):R2:=fun x y H Q=>∃p xs i v,x=.ref p/\y=.int i/\dw K H p xs/\Dd xs i=some v/\Q v H
def OE:R2:=fun x y H Q=>∃z i c,x=.str z/\y=.int i/\z.length<=sizeLine/\Dd z.cps.toList i=some c/\Q (.str ⟨#[c]⟩) H
def JV:Ta X (OF X.K):=by
 intro value slice pins s σ H x y v u Q I rx ry h hs;obtain⟨p,xs,i,z,rfl,rfl,hq,he,q⟩:=h;cases rx;obtain⟨t,rfl⟩:=ry;obtain⟨its,r,pl,hz⟩:=I.list hq;obtain⟨j,h1,h2,h3,h4,h5⟩:=ET he;obtain⟨w,ew,rw'⟩:=r.get h2;have hl:=r.length;have hn:=An;have fin:EP X pins σ Q w s:=⟨z,H,I,rw',q⟩
 by_cases h0:0<=i
 ·have hj:i.toNat=j:=by
   rw[seqIndex_of h0 h5] at h1;exact yj h1
  exact item_listR pl.isList h0 nofun (by rw[hj];simpa using ew) fin hs
 ·have hj:(i+(its.toArray.size:Int)).toNat=j:=by
   rw[seqIndex_neg nofun h4] at h1;rw[ya,<-hl];exact yj h1
  exact subscriptTail_builtinR (x:=w) pl.isList.typeIs slot_list_getitem.lookup
   (wpAny_getItem_list_neg (Q:=fun r s'=>r=w/\EP X pins σ Q r s') pl.isList nofun (by rw[ya] <;> omega) nofun (by rw[hj];simpa using ew) ⟨rfl,fin⟩) hs
def Q5:Ta X (qP X.K):=by
 intro value slice pins s σ H x y v u Q I rx ry h hs;obtain⟨p,xs,i,z,rfl,rfl,hq,he,q⟩:=h;cases rx;obtain⟨t,rfl⟩:=ry;obtain⟨its,r,pl,hz⟩:=I.tuple hq;obtain⟨j,h1,h2,h3,h4,h5⟩:=ET he;obtain⟨w,ew,rw'⟩:=r.get h2;have hl:=r.length;have hn:=An;have fin:EP X pins σ Q w s:=⟨z,H,I,rw',q⟩
 exact subscriptTail_builtinR (x:=w) pl.typeIs slot_tuple_getitem.lookup
  (getItem_tuple (j:=j) (Q:=fun r s'=>r=w/\EP X pins σ Q r s') pl nofun nofun (by rw[ya,<-hl];exact h1) (by simpa using ew) ⟨rfl,fin⟩) hs
def Ej:Ta X OE:=by
 intro value slice pins s σ H x y v u Q I rx ry h hs;obtain⟨z,i,c,rfl,rfl,hz,he,q⟩:=h;obtain⟨t,rfl⟩:=rx;obtain⟨t',rfl⟩:=ry;obtain⟨j,h1,h2,h3,h4,h5⟩:=ET he;have hl:z.cps.toList.length=z.length:=by simp[Str.length]
 rw[hl] at h1 h4 h5;have hn:=An;exact tail_any (typeIs_str s z t) slot_str_getitem.lookup (getItem_str (c:=c) (by
  have e1:decide (i < -(2^63:Int))=false:=zd nofun;have e2:decide (i≥2^63)=false:=zd nofun;rw[e1,e2,Bool.or_false]) (by rw[h1];simpa using h2) ⟨.str ⟨#[c]⟩,H,I.tok _,⟨_,rfl⟩,q⟩) hs
def DH (lo hi:Option Int) (n:Nat):(sliceBounds lo hi none n).1=((HT.fq n 0 lo:Nat):Int)/\(sliceBounds lo hi none n).2.1=((HT.fq n n hi:Nat):Int)/\(sliceBounds lo hi none n).2.2=1:=by
 refine⟨?_,?_,rfl⟩
 ·cases lo with
  | none=>simp[sliceBounds,HT.fq]
  | some i=>
   simp only[sliceBounds,HT.fq,Option.getD_none,show(1:Int)>0 by decide,if_true]
   by_cases h:i<0
   ·simp only[h,if_true] <;> omega
   ·simp only[h,if_false] <;> omega
 ·cases hi with
  | none=>simp[sliceBounds,HT.fq]
  | some i=>
   simp only[sliceBounds,HT.fq,Option.getD_none,show(1:Int)>0 by decide,if_true]
   by_cases h:i<0
   ·simp only[h,if_true] <;> omega
   ·simp only[h,if_false] <;> omega
def By (its:List Value) (lo hi:Option Int):slicePick its.toArray lo hi none=((its.drop (HT.fq its.length 0 lo)).take (HT.fq its.length its.length hi-HT.fq its.length 0 lo)).toArray:=by
 obtain⟨h1,h2,h3⟩:=DH lo hi its.toArray.size;unfold slicePick;rw[h1,h2,h3];simp only[sliceRange_one,pick_run,ya] <;> rfl
def TZ (K:yA):V->Option Int->Option Int->Hp->VK->Prop:=fun x lo hi H Q=>∃a xs,x=.ref a/\aG K H a xs/\∀p,H p=none->Q (.ref p) (upd H p (.lst (kG xs lo hi)))
def gL:N2 X (TZ X.K):=by
 intro pins s σ H x v vl vu lo hi sl Q I rx hs pl pu h;obtain⟨a,xs,rfl,hx,q⟩:=h;cases rx;obtain⟨its,r,ht,hz⟩:=I.list hx;have hlen:=r.length;refine⟨"list",_,slot_list_getitem.lookup,ht.isList.typeIs,?_⟩;refine wpAny_getItem_list_slice ht.isList hs pl pu .none (by simp) ?_ (by rw[ya] <;> omega);rw[By,<-hlen];refine⟨.ref ↑s,_,I.laid (t':=s.toks) (o:=.lst (kG xs lo hi)) (fun b ob q=>yu _ q) (zk _) ?_,rfl,q _ (I.bZ.fresh (zk _))⟩;exact⟨zL (vQ xs lo hi) hz,_,0,(r.drop (HT.fq xs.length 0 lo)).take (HT.fq xs.length xs.length hi-HT.fq xs.length 0 lo),yw _ rfl⟩
def mZ:V->Bool
 | .bH=>true
 | .bl _=>true
 | .int _=>true
 | .str _=>true
 | _=>false
def IL:V->V->Bool
 | .bH,.bH=>true
 | .bl a,.bl b=>a == b
 | .bl a,.int b=>(if a then 1 else 0) == b
 | .int a,.bl b=>a == (if b then 1 else 0)
 | .int a,.int b=>a == b
 | .str a,.str b=>a == b
 | _,_=>false
def NH (ry:RelV y u) (rx:RelV x v) (fy:mZ y=true) (fx:mZ x=true):SeqAt.EqAt A s u v (IL y x):=by
 cases y with
 | bH=>
  cases ry;cases x with
  | bH=>cases rx;exact SeqAt.EqAt.same _
  | bl b=>cases rx;exact SeqAt.EqAt.none_bool b
  | int b=>obtain⟨t,rfl⟩:=rx;exact SeqAt.EqAt.none_int b t
  | str b=>obtain⟨t,rfl⟩:=rx;exact SeqAt.EqAt.none_str b t
  | _=>exact absurd (show false=true from fx) zK
 | bl a=>
  cases ry;cases x with
  | bH=>cases rx;exact SeqAt.EqAt.bool_none a
  | bl b=>cases rx;exact SeqAt.EqAt.bool_bool a b
  | int b=>obtain⟨t,rfl⟩:=rx;exact SeqAt.EqAt.bool_int a b t
  | str b=>obtain⟨t,rfl⟩:=rx;exact SeqAt.EqAt.bool_str a b t
  | _=>exact absurd (show false=true from fx) zK
 | int a=>
  obtain⟨t',rfl⟩:=ry;cases x with
  | bH=>cases rx;exact SeqAt.EqAt.int_none a t'
  | bl b=>cases rx;exact SeqAt.EqAt.int_bool a t' b
  | int b=>obtain⟨t,rfl⟩:=rx;exact SeqAt.EqAt.int_int a t' b t
  | str b=>obtain⟨t,rfl⟩:=rx;exact SeqAt.EqAt.int_str a t' b t
  | _=>exact absurd (show false=true from fx) zK
 | str a=>
  obtain⟨t',rfl⟩:=ry;cases x with
  | bH=>cases rx;exact SeqAt.EqAt.str_none a t'
  | bl b=>cases rx;exact SeqAt.EqAt.str_bool a t' b
  | int b=>obtain⟨t,rfl⟩:=rx;exact SeqAt.EqAt.str_int a t' b t
  | str b=>obtain⟨t,rfl⟩:=rx;exact SeqAt.EqAt.str_str a t' b t
  | _=>exact absurd (show false=true from fx) zK
 | _=>exact absurd (show false=true from fy) zK
def IM (x:V) (u:Value):Bool:=match u with
 | .none=>IL .bH x
 | .bool b=>IL (.bl b) x
 | .int i _=>IL (.int i) x
 | .str z _=>IL (.str z) x
 | _=>false
def NG (r:RelV y u) (f:mZ y=true):IM x u=IL y x:=by
 cases y with
 | bH=>cases r;rfl
 | bl b=>cases r;rfl
 | int i=>obtain⟨t,rfl⟩:=r;rfl
 | str z=>obtain⟨t,rfl⟩:=r;rfl
 | _=>exact absurd (show false=true from f) zK
theorem tO:∀{xs:List V} {us:List Value},Vals xs us->xs.all mZ=true->us.any (IM x)=xs.any fun y=>IL y x
 | _,_,.nil,_=>rfl
 | y::xs,u::us,.cons r t,f=>by
  rw[List.all_cons,zN] at f;rw[List.any_cons,List.any_cons,NG r f.1,tO t f.2]
theorem oK (rx:RelV x v) (fx:mZ x=true):∀{xs:List V} {us:List Value},Vals xs us->xs.all mZ=true->∀u∈us,SeqAt.EqAt A s u v (IM x u)
 | _,_,.nil,_=>fun u hu=>by cases hu
 | y::xs,u::us,.cons r t,f=>fun u' hu=>by
  rw[List.all_cons,zN] at f;rcases zC.mp hu with rfl | hu
  ·rw[NG r f.1];exact NH r rx f.1 fx
  ·exact oK rx fx t f.2 u' hu
def Fi (x:V) (xs:List V):Bool:=xs.any fun y=>IL y x
def RA (K:yA) (neg:Bool):R2:=fun x y H Q=>∃p xs,y=.ref p/\(aG K H p xs\/dw K H p xs)/\mZ x=true/\xs.all mZ=true/\Q (.bl (if neg then !Fi x xs else Fi x xs)) H
def o7:pB X (compareOp .In) (RA X.K false):=by
 intro pins s σ H x y v u Q I rx ry h;obtain⟨p,xs,rfl,hq,fx,fs,q⟩:=h;cases ry;rcases hq with hq | hq
 ·obtain⟨its,r,pl,hz⟩:=I.list hq
  refine SeqAt.in_listAt (IM x) pl.isList (fun w hw=>oK rx fx r fs w (by simpa using hw)) ⟨.bl _,H,I,rfl,?_⟩;rw[show its.toArray.any (IM x)=its.any (IM x) by simp,tO r fs];exact q
 ·obtain⟨its,r,pl,hz⟩:=I.tuple hq
  refine SeqAt.in_tupleAt (IM x) pl (fun w hw=>oK rx fx r fs w (by simpa using hw)) ⟨.bl _,H,I,rfl,?_⟩;rw[show its.toArray.any (IM x)=its.any (IM x) by simp,tO r fs];exact q
def d7:pB X (compareOp .NotIn) (RA X.K true):=by
 intro pins s σ H x y v u Q I rx ry h;obtain⟨p,xs,rfl,hq,fx,fs,q⟩:=h;cases ry;rcases hq with hq | hq
 ·obtain⟨its,r,pl,hz⟩:=I.list hq
  refine SeqAt.notIn_listAt (IM x) pl.isList (fun w hw=>oK rx fx r fs w (by simpa using hw)) ⟨.bl _,H,I,rfl,?_⟩;rw[show its.toArray.any (IM x)=its.any (IM x) by simp,tO r fs];exact q
 ·obtain⟨its,r,pl,hz⟩:=I.tuple hq
  refine SeqAt.notIn_tupleAt (IM x) pl (fun w hw=>oK rx fx r fs w (by simpa using hw)) ⟨.bl _,H,I,rfl,?_⟩;rw[show its.toArray.any (IM x)=its.any (IM x) by simp,tO r fs];exact q
def aB:fB X (.builtin "len") (fun xs H Q=>∃p ys,xs=[.ref p]/\(aG X.K H p ys\/dw X.K H p ys)/\Q (.int ys.length) H):=by
 intro pins s σ H xs us Q I r h;obtain⟨p,ys,rfl,hq,q⟩:=h;obtain⟨u,rfl,rx⟩:=vals1 r;cases rx;have hn:=An;rcases hq with hq | hq
 ·obtain⟨its,r',pl,hz⟩:=I.list hq
  have hlen:=r'.length;exact Calls.call_len_list pl.isList (by simp only[ya] <;> omega) ⟨.int ys.length,H,I.tok _,⟨s.toks+1,by rw[ya,hlen]⟩,q⟩
 ·obtain⟨its,r',pl,hz⟩:=I.tuple hq
  have hlen:=r'.length;exact len_tuple pl (by simp only[ya] <;> omega) ⟨.int ys.length,H,I.tok _,⟨s.toks+1,by rw[ya,hlen]⟩,q⟩
def gh:fB X (.builtin "len") (fun xs H Q=>∃z,xs=[.str z]/\z.length<=sizeLine/\Q (.int z.length) H):=by
 intro pins s σ H xs us Q I r h;obtain⟨z,rfl,hz,q⟩:=h;obtain⟨u,rfl,t,rfl⟩:=vals1 r;have hn:=An;exact len_str nofun ⟨.int z.length,H,I.tok _,⟨_,rfl⟩,q⟩
def iX:fB X (.type "list") (fun xs H Q=>∃p ys,xs=[.ref p]/\(aG X.K H p ys\/dw X.K H p ys)/\∀l,H l=none->Q (.ref l) (upd H l (.lst ys))):=by
 intro pins s σ H xs us Q I r h;obtain⟨p,ys,rfl,hq,q⟩:=h;obtain⟨u,rfl,rx⟩:=vals1 r;cases rx;have fin:∀(its:List Value),Vals ys its->ys.length<=sizeLine->∀(h':Heap) (c':Nat),(∀b o',s.heap.get? b=some o'->h'.get? b=some o')->
   h'.get? ↑s=some {cls:=.type "list",dict:=none,data:=.seq its.toArray c',slots:=#[]}->EP X pins σ Q (.ref ↑s) {s with heap:=h'}:=fun its r' hz h' c' kp e=>
  ⟨.ref ↑s,_,I.laid (t':=s.toks) kp (zk _) (show cF X.prog X.w _ h' _ (.lst ys) from⟨hz,its,c',r',e⟩),rfl,q _ (I.bZ.fresh (zk _))⟩
 rcases hq with hq | hq
 ·obtain⟨its,r',pl,hz⟩:=I.list hq
  have hlen:=r'.length;obtain⟨o,ho,hc,n,hd⟩:=pl.isList;exact call_list_seq p (.inl rfl) ho hc hd (fun h' c' kp e=>fin its r' hz h' c' kp e) (by simp only[ya] <;> omega)
 ·obtain⟨its,r',pl,hz⟩:=I.tuple hq
  have hlen:=r'.length;obtain⟨o,ho,hc,n,hd⟩:=pl;exact call_list_seq p (.inr rfl) ho hc hd (fun h' c' kp e=>fin its r' hz h' c' kp e) (by simp only[ya] <;> omega)
def cN:fB X (.type "tuple") (fun xs H Q=>∃p ys,xs=[.ref p]/\((aG X.K H p ys/\∀l,H l=none->Q (.ref l) (upd H l (.tup ys)))\/(dw X.K H p ys/\Q (.ref p) H))):=by
 intro pins s σ H xs us Q I r h;obtain⟨p,ys,rfl,h⟩:=h;obtain⟨u,rfl,rx⟩:=vals1 r;cases rx;rcases h with⟨hq,q⟩ | ⟨hq,q⟩
 ·obtain⟨its,r',pl,hz⟩:=I.list hq
  have hlen:=r'.length;refine call_tuple_list pl.isList (fun h' kp=>?_) (by simp only[ya] <;> omega);have I1:Inv X pins σ H {s with heap:=h'}:=I.kept (t':=s.toks) kp;have I2:Inv X pins σ (upd H h'.objs.size (.tup ys)) {s with heap:=h'.push {cls:=.type "tuple",data:=.seq its.toArray}}:=
   I1.laid (t':=s.toks) (fun b o e=>yu _ e) (zk _) (show cF X.prog X.w _ _ _ (.tup ys) from⟨hz,its,r',IsTup.new _ _⟩)
  exact⟨.ref h'.objs.size,_,I2,rfl,q _ (I1.bZ.fresh (zk _))⟩
 ·obtain⟨its,r',pl,hz⟩:=I.tuple hq
  exact call_tuple_same pl ⟨.ref p,H,I,rfl,q⟩
def SU (K:yA) (T:String) (x:V) (H:Hp):Prop:=match x with
 | .str _=>T ="str"
 | .int _=>T ="int"
 | .ref p=>(T ="list"/\∃xs,aG K H p xs)\/(T ="tuple"/\∃o,K.lookup p=some o/\o.cls=.type "tuple"/\o.dict=none)\/
   (T ="dict"/\((∃kvs,H p=some (.dK kvs))\/∃kvs,H p=some (.dT kvs)))\/(T ="set"/\∃S n,H p=some (.set S n))
 | _=>False
def L5 (I:Inv X pins σ H s) (r:RelV x v) (ty:SU X.K T x H) :
  s.TypeIs v T/\∀a,v=.ref a->∃ob,s.heap.get? a=some ob/\ob.dict=none:=by
 cases x with
 | str z=>
  obtain⟨t,rfl⟩:=r;cases(show T ="str" from ty);exact⟨typeIs_str s z t,fun _ e=>nomatch e⟩
 | int i=>
  obtain⟨t,rfl⟩:=r;cases(show T ="int" from ty);exact⟨typeIs_int s i t,fun _ e=>nomatch e⟩
 | ref p=>
  cases r;rcases ty with⟨rfl,xs,hq⟩ | ⟨rfl,o,hk,hc,hd⟩ | ⟨rfl,hk⟩ | ⟨rfl,S,n,hk⟩
  ·obtain⟨its,_,pl,_⟩:=I.list hq
   refine⟨pl.isList.typeIs,fun a e=>?_⟩;cases e;obtain⟨o,n,e,c,hd,_⟩:=pl;exact⟨o,e,hd⟩
  ·refine⟨⟨o,I.sZ p o hk,hc⟩,fun a e=>?_⟩
   cases e;exact⟨o,I.sZ _ o hk,hd⟩
  ·have z:∃o,s.heap.get? p=some o/\o.ExactDict:=by
    rcases hk with⟨kvs,hk⟩ | ⟨kvs,hk⟩
    ·obtain⟨_,_,_,_,o,_,_,e,ex,_⟩:=I.bZ p _ hk
     exact⟨o,e,ex⟩
    ·obtain⟨_,_,_,_,o,_,_,e,ex,_⟩:=I.bZ p _ hk
     exact⟨o,e,ex⟩
   obtain⟨o,e,ex⟩:=z;refine⟨⟨o,e,ex.1⟩,fun a e2=>?_⟩;cases e2;exact⟨o,e,ex.2.1⟩
  ·obtain⟨o,_,_,_,e,ex,_⟩:=I.bZ p _ hk
   refine⟨⟨o,e,ex.1⟩,fun a e2=>?_⟩;cases e2;exact⟨o,e,ex.2.1⟩
 | _=>exact False.elim ty
def TQ (K:yA) (T:String) (r:V->List V->Hp->VK->Prop) (to:TE):TE:=fun σ H Q=>to σ H fun x H1=>SU K T x H1/\r x [] H1 Q
def SX (K:yA) (T:String) (r:V->List V->Hp->VK->Prop) (to:TE) (t:TA):TE:=fun σ H Q=>to σ H fun x H1=>SU K T x H1/\t σ H1 fun xs H2=>r x xs H2 Q
variable {o e:Expr} {es:List Expr} {to:TE} {t:TA} {name:Str} {apos cpos:Pos} {T id:String} {r:V->List V->Hp->VK->Prop}
def QN (pa:PlainAttrs T) (slot:Slot T name id) (hty:typeOf (.builtin id)=pure (.type "method_descriptor")) (hm:UC X id r) (ho:PE X o to)
  (hbase:attributeBase o name X.env (eval o X.env)=eval o X.env<|>qe_) (hline:(apos.endLine == cpos.line)=true<|>qe_):PE X (.Call (.Attribute o name apos) [] [] cpos) (TQ X.K T r to):=by
 intro pins s σ H Q I h;refine wpAny_Call_method0_late hbase hline (cU (ho pins s σ H _ I h) fun v s1 zz=>?_);obtain⟨x,H1,I1,r1,ty,q1⟩:=zz;obtain⟨h1,h2⟩:=L5 I1 r1 ty;exact⟨T,id,pa,slot,hty,h1,h2,Calls.callWith_builtin rfl (PySem.evalArgs_none (hm pins s1 σ H1 x [] v [] Q I1 r1 .nil q1))⟩
def b7 (pa:PlainAttrs T) (slot:Slot T name id) (hty:typeOf (.builtin id)=pure (.type "method_descriptor")) (hm:UC X id r) (ho:PE X o to) (ha:PA X (e::es) t)
  (hbase:attributeBase o name X.env (eval o X.env)=eval o X.env<|>qe_)
  (hfew:((backTo cpos (starEach (e::es) X.env)).all (fun x=>!x.1)&&(backToKw cpos (keywordEach [] X.env)).all (fun x=>x.1.isSome)
   &&decide ((e::es).length+([]:List Keyword).length+(if([]:List Keyword).isEmpty then 0 else 1)<30))=true<|>qe_)
  (hline:(apos.endLine == cpos.line)=true<|>qe_) (hs:starEach (e::es) X.env=(false,eval e X.env)::starEach es X.env<|>qe_) (hplain:(backTo cpos (starEach es X.env)).any (·.1)=false<|>qe_) :
  PE X (.Call (.Attribute o name apos) (e::es) [] cpos) (SX X.K T r to t):=by
 intro pins s σ H Q I h;refine wpAny_Call_method_late hbase hfew hline rfl (cU (ho pins s σ H _ I h) fun v s1 zz=>?_);obtain⟨x,H1,I1,r1,ty,q1⟩:=zz;obtain⟨h1,h2⟩:=L5 I1 r1 ty;refine⟨T,id,pa,slot,hty,h1,h2,?_⟩;have hA:=ha cpos pins s1 σ H1 _ I1 q1;rw[hs] at hA ⊢;refine Calls.callWith_builtin (by show(false||(backTo cpos (starEach es X.env)).any (·.1))=false;rw[hplain] <;> rfl) (Calls.evalArgs_plain ?_);exact cU hA fun us s2 ⟨vs,H2,I2,r2,q2⟩=>hm pins s2 σ H2 x vs v us Q I2 r1 r2 q2
end
end L2
namespace L2
open PySem PySem.Spec PyProof.Rows
def P4 (X:Cx) (id:String) (r:V->List V->Hp->VK->Prop):Prop:=
 ∀(pins:List (Addr×Obj)) (s:Shared) (σ:St) (H:Hp) (x:V) (xs:List V) (v:Value) (us:List Value) (Q:VK),Inv X pins σ H s->RelV x v->Vals xs us->r x xs H Q->
  wpAny (model X.prog X.w) X.A (call (.builtin id) (v::us)) (EP X pins σ Q) X.xe s
theorem Vals.one:∀{x:V} {us:List Value},Vals [x] us->∃u,us=[u]/\RelV x u
 | _,_,.cons r .nil=>⟨_,rfl,r⟩
theorem Vals.zero:∀{us:List Value},Vals [] us->us=[]
 | _,.nil=>rfl
theorem Vals.reverse (h:Vals xs us):Vals xs.reverse us.reverse:=by
 induction h with
 | nil=>exact .nil
 | cons r t ih=>rw[List.reverse_cons,List.reverse_cons];exact Vals.append ih (.cons r .nil)
section
variable {X:Cx} {pins:List (Addr×Obj)} {σ:St} {H:Hp} {s:Shared} {l b:Addr} {xs ys zs:List V}
def Inv.OW {its its':List Value} {n:Nat} {f:Array Value->Array Value} {t':Nat} (I:Inv X pins σ H s) (hH:H l=some (.lst xs))
  (e:s.heap.get? l=some {cls:=.type "list",data:=.seq its.toArray n}) (hf:f its.toArray=its'.toArray) (hv:Vals ys its') (hz:ys.length<=sizeLine) :
  Inv X pins σ (upd H l (.lst ys)) {s with heap:=s.heap.update l (Obj.mapSeq f),toks:=t'}:=by
 have q:=PySem.IsL.update e f;rw[hf] at q;refine I.write (x:=l) (e:=l) (by rw[hH];exact trivial) (.inl rfl) (fun b' u hb hu=>(yy s.heap (Obj.mapSeq f) (Ne.symm hb)).trans hu) ⟨_,q⟩ ?_;exact⟨hz,its',_,hv,q⟩
def Inv.Se (I:Inv X pins σ H s) (hv:Vals ys its) (hz:ys.length<=sizeLine) :
  Inv X pins σ (upd H ↑s (.lst ys)) {s with heap:=s.heap.push {cls:=.type "list",data:=.seq its.toArray},toks:=t'}:=
 I.laid (fun _ _ q=>yu _ q) (zk _) ⟨hz,its,0,hv,yw _ rfl⟩
theorem Inv.fresh (I:Inv X pins σ H s):H ↑s=none:=I.bZ.fresh (zk _)
def Inv.Nf (I:Inv X pins σ H s) (hH:H l=some (.lst xs)):xs.length<=sizeLine/\∃(its:List Value) (n:Nat),Vals xs its/\xs.length=its.length/\s.heap.get? l=some {cls:=.type "list",data:=.seq its.toArray n}:=by
 obtain⟨z,its,n,r,e⟩:=I.bZ l _ hH;exact⟨z,its,n,r,r.length,e⟩
def Gn (h:n<=sizeLine):Builtin.List.listTooLong n=false:=by
 unfold Builtin.List.listTooLong;exact zd nofun
end
section
variable {X:Cx}
def OG:V->List V->Hp->VK->Prop:=fun x vs H Q=>∃l xs y,x=.ref l/\vs=[y]/\H l=some (.lst xs)/\xs.length<sizeLine/\Q .bH (upd H l (.lst (xs++[y])))
def bz:P4 X "list.append" OG:=by
 intro pins s σ H x vs v us Q I rx rv h;obtain⟨l,xs,y,rfl,rfl,hH,hz,q⟩:=h;cases rx;obtain⟨u,rfl,ru⟩:=rv.one;obtain⟨z,its,n,r,hl,e⟩:=I.Nf hH;refine call_meets F.slot_list_append ⟨_,e,rfl⟩ F.entry_list_append (F.args_list_append_2 _ _) (PySem.list_append l its.toArray n u (by rw[ya];omega)) ⟨e,?_⟩;refine⟨.bH,_,I.OW (its':=its++[u]) hH e (by simp) (r.append (.cons ru .nil)) ?_,rfl,q⟩;rw[zg,List.length_singleton];omega
def JM:V->List V->Hp->VK->Prop:=fun x vs H Q=>∃l b xs zs,x=.ref l/\vs=[.ref b]/\H l=some (.lst xs)/\H b=some (.lst zs)/\xs.length+zs.length<=sizeLine/\Q .bH (upd H l (.lst (xs++zs)))
def KR:P4 X "list.extend" JM:=by
 intro pins s σ H x vs v us Q I rx rv h;obtain⟨l,b,xs,zs,rfl,rfl,hH,hB,hz,q⟩:=h;cases rx;obtain⟨u,rfl,ru⟩:=rv.one;cases ru;obtain⟨z,its,n,r,hl,e⟩:=I.Nf hH;obtain⟨z2,its2,n2,r2,hl2,e2⟩:=I.Nf hB;have hsz:its.toArray.size+its2.toArray.size<=sizeLine:=by rw[ya,ya];omega
 have hlong:¬(!its.toArray.isEmpty&&Builtin.List.listTooLong (its.toArray.size+its2.toArray.size))=true:=by
  rw[Gn hsz,Bool.and_false];exact zK
 refine call_meets F.slot_list_extend ⟨_,e,rfl⟩ F.entry_list_extend (F.args_list_extend_2 _ _)
  (AutoSeq1.list_extend_list_list_0 l its.toArray n b its2.toArray n2 hlong (by rw[ya];omega) nofun) ⟨e,e2,?_⟩
 refine⟨.bH,_,I.OW (its':=its++its2) hH e (by simp) (r.append r2) ?_,rfl,q⟩;rw[zg];omega
def ML:V->List V->Hp->VK->Prop:=fun x vs H Q=>∃l xs,x=.ref l/\vs=[]/\H l=some (.lst xs)/\Q .bH (upd H l (.lst xs.reverse))
def Iw:P4 X "list.reverse" ML:=by
 intro pins s σ H x vs v us Q I rx rv h;obtain⟨l,xs,rfl,rfl,hH,q⟩:=h;cases rx;have hus:=rv.zero;subst hus;obtain⟨z,its,n,r,hl,e⟩:=I.Nf hH;refine call_meets F.slot_list_reverse ⟨_,e,rfl⟩ F.entry_list_reverse (F.args_list_reverse_1 _) (AutoSeq1.list_reverse_list_0 l its.toArray n (by rw[ya];omega)) ⟨e,?_⟩;refine⟨.bH,_,I.OW (its':=its.reverse) hH e (by simp) r.reverse ?_,rfl,q⟩;rw[List.length_reverse];omega
end
section
variable {prog:Program} {w:World} {A:Around} {E:Value->Shared->Prop} {s:Shared}
end
section
variable {X:Cx}
end
end L2
namespace UH
open PySem PySem.W PySem.Calls PyProof.Rows
def wH:∀(ns:List Int) (vs:List Value),WellAll P h vs (ns.map WData.int)->IntsAre vs ns:=by
 intro ns
 induction ns with
 | nil=>
  intro vs w;rw[ym] at w;cases w;exact .nil
 | cons n ns ih=>
  intro vs w;rw[zh] at w;cases w with
  | cons a b=>
   cases a;exact .cons _ _ (ih _ b)
def Kw {l:OpenLaw} {n:Nat} (hn:l.most=some n) {P:Params} {h:Heap} {args:List WData} {vals:List Value}
  (hpre:l.row.toRowW.claim.pre args=true) (hwl:WellAll P h vals args) :
  ∃a vs ns,vals=[Value.ref a]/\args=[WData.list (ns.map WData.int)]/\h.get? a=some {cls:=.type "list",data:=.seq vs.toArray}/\IntsAre vs ns/\ns.length<=n:=by
 have hsh:WShape.hasAll [] args [.list .int]=true:=(pre_splitW hpre).1;have hc:l.pre.holds [] {args:=args}=true:=(pre_splitW hpre).2;obtain⟨d,r,rfl,h1,h2⟩:=hasAllW_cons hsh;obtain rfl:=hasAllW_nil h2;obtain⟨xs,rfl,h3⟩:=hasW_list h1;obtain⟨ns,rfl⟩:=items_int h3;have hlen:ns.length<=n:=by
  unfold OpenLaw.pre at hc;have h4:(WTm.not (.lt (.lit (.int (n:Int))) (.len (.arg 0)))).holds [] {args:=[.list (ns.map .int)]}=true:=by
   have h4:=(holds_andW hc).1;rw[hn] at h4;exact h4
  have h5:=condW_of h4 (w_not (w_lt w_lit (w_len_list (w_arg rfl))));rw[za] at h5;refine Nat.le_of_not_lt fun q=>?_;have q':(n:Int)<((ns.length:Nat):Int):=nofun
  first
   | (rw[ze q'] at h5;exact absurd h5 ∅)
   | (simp at h5;omega)
 cases hwl with
 | cons w1 w2=>
  cases w2;cases w1 with
  | list ho hall=>exact⟨_,_,ns,rfl,rfl,ho,wH ns _ hall,hlen⟩
def KI (l:OpenLaw) (args:List WData):l.row.toRowW.claim.post args (.bool true) args=true:=
 postW_of (r:=l.row.toRowW) (X:=(true == true))
  (show WShape.has [] (.bool true) .bool=true by first | rfl | decide | simp[WShape.has,WShape.arms,WShape.armsAll])
  (show(WTm.eq .res (.lit (.bool true))).value [] {args:=args,res:=some (.bool true),after:=args}=some (.bool (true == true)) from w_eq_bool (w_res rfl) w_lit) rfl
def Hl {l:OpenLaw} {n:Nat} {q:Program} {loose:List Str} {XP:(Str->Option Value)->Heap->Prop} {YP:World->Heap->Prop} {d:DefRec}
  (hn:l.most=some n) (hdf:d.params.defaults=[])
  (call:∀(w:World) (s₀ s₁:Shared) (mg mb:Str->Option Value) (fa:Addr) (o:Obj) (pm cd doc:Value) (a:Addr) (vs:List Value) (ns:List Int),
   Ground q loose [] XP w s₀ mg mb s₁.heap->YP w s₁.heap->
   s₁.heap.get? fa=some o->o.data=.func (docDef d.name d.params d.body d.scope pm cd doc)->s₁.heap.CodeRec cd d.name->mg d.name=some (.ref fa)->
   s₁.heap.get? a=some {cls:=.type "list",data:=.seq vs.toArray}->IntsAre vs ns->ns.length<=n->s₁.gens=#[]->
   codeAny (model l.prog w) callerA (.call (.ref fa) ⟨[.ref a],[]⟩) (fun r s'=>r=.ok (.ret (.bool true))/\OldK s₁.heap s'.heap/\s'.os=s₁.os/\AllBare s'.gens) s₁) :
  WalkO q loose XP YP l.row.toRowW d [] (fun f vs=>PySem.call f vs):=by
 intro w s₀ s₁ mg mb G Y fa o pm cd doc dV kV ho hd hcd hD hmg hg args vals as hpre hlay hrd hwl hlo;obtain rfl:dV=.none:=Dflts.none hD hdf;obtain rfl:kV=.none:=Dflts.noKw hD;obtain⟨a,vs,ns,rfl,rfl,hobj,hints,hlen⟩:=Kw hn hpre hwl;refine enter_call (codeAny_mono (call w s₀ s₁ mg mb fa o pm cd doc a vs ns G Y ho (fd_plain hd) hcd hmg hobj hints hlen hg) fun r s' hq=>?_);obtain⟨rfl,h2,h3,h4⟩:=hq;exact⟨.inl ⟨.bool true,.bool true,[],rfl,fun _=>rfl,.bool true,KI l _,fun _=>⟨List.Pairwise.nil,fun _ hm=>(nomatch hm)⟩⟩,h2,h3,h4⟩
section
variable {prog:Program} {w:World} {A:Around} {E:Value->Shared->Prop} {s:Shared} {K:Frag}
end
end UH
namespace L2
open PySem PySem.Spec PyProof.Rows
theorem Ct:∀{vs:List Value} {ns:List Int},IntsAre vs ns->Vals (ns.map V.int) vs
 | _,_,.nil=>.nil
 | _,_,.cons n t h=>.cons ⟨t,rfl⟩ (Ct h)
def Ru (H:Hp):Prop:=∀b,H b=none\/∃o xs,H b=some (.nF o (.lst xs))
def Nm {P:Program} {w:World} {K:yA} {mg mb:Str->Option Value} {CX:Jw} {k:Nat} {fa a:Addr} {fd:FuncData} {x:Str} {sp:Sp} {s₁:Shared} {vs:List Value} {ns:List Int}
  (KX:K.In s₁.heap) (hns:s₁.heap.Ns mainGlobals mg) (hb:s₁.heap.Ns builtinsNs mb) (hbb:∀x:Str,x≠ "__name__"->mb x=bootBuiltins x) (hlim:s₁.heap.NoLimit) (hg:s₁.gens=#[])
  (ha:s₁.heap.get? a=some {cls:=.type "list",data:=.seq vs.toArray}) (hi:IntsAre vs ns) (hl:ns.length<=sizeLine) (hr:fQ k callerA)
  (F:∀base:Heap,K.In base->base.Ns mainGlobals mg->dQ P w K mg base CX k fa fd [x] sp) (hbind:∀(s:Shared) (u:Value),BindsTo s fd ⟨[u],[]⟩ [(x,u)])
  (hsp:∀H:Hp,Ru H->aG K H a (ns.map V.int)->sp [.ref a] H (fun v _=>v=.bl true) fun _ _ _=>False)
  (hCX:∀H e s',CX [] H s₁ (fun _ _ _=>False) e s'->False) :
  codeAny (model P w) callerA (.call (.ref fa) ⟨[.ref a],[]⟩) (fun r s'=>r=.ok (.ret (.bool true))/\OldK s₁.heap s'.heap/\s'.os=s₁.os/\AllBare s'.gens) s₁:=by
 have rv:=Ct hi;have lenV:=hi.length;have core:∀H:Hp,Ru H->aG K H a (ns.map V.int)->rD P w H s₁.heap->(∀b,H b≠none->b=a)->(H a≠none->K.lookup a=none)->
   codeAny (model P w) callerA (.call (.ref fa) ⟨[.ref a],[]⟩) (fun r s'=>r=.ok (.ret (.bool true))/\OldK s₁.heap s'.heap/\s'.os=s₁.os/\AllBare s'.gens) s₁:=by
  intro H hO hS bZ hA hK;have base_of:∀{b:Addr} {o:Obj},s₁.heap.get? b=some o->H b=none->(Em s₁.heap H).get? b=some o:=fun e n=>Nu e n;have noA:∀{b:Addr} {o:Obj} {es:Array DictEntry} {ep:Nat},s₁.heap.get? b=some o->o.data=.dict es ep->H b=none:=fun {b o es ep} e d=>by
   cases q:H b with
   | none=>rfl
   | some u=>
    have e':b=a:=hA b (by rw[q];simp);subst e';rw[ha] at e;cases e;have d':Data.seq vs.toArray _=Data.dict es ep:=d;cases d'
  have nsK:∀{b:Addr} {m:Str->Option Value},s₁.heap.Ns b m->(Em s₁.heap H).Ns b m:=fun {b m} ⟨o,es,ep,e,d,r⟩=>⟨o,es,ep,base_of e (noA e d),d,r⟩
  have hKb:K.In (Em s₁.heap H):=fun b o e=>base_of (KX b o e) (by
   cases q:H b with
   | none=>rfl
   | some u=>
    have e':b=a:=hA b (by rw[q];simp);subst e';rw[hK (by rw[q];simp)] at e;cases e)
  have hM:Mod K mg (Em s₁.heap H):=⟨hKb,nsK hns,⟨mb,nsK hb,hbb⟩,let ⟨mc,h1,h2⟩:=hlim;⟨mc,nsK h1,h2⟩⟩
  have e0:HC P w K mg (Em s₁.heap H) callerA [] s₁ H:=⟨rfl,hM,fun b o e=>OT e,Nat.le_of_eq (K5 _ _),trivial,fun b hb=>absurd (show b∈([]:List Addr) from hb) (by simp),bZ,.of_eq hg⟩
  refine codeAny_mono ((F _ hKb (nsK hns)).run callerA [] s₁ H ⟨[.ref a],[]⟩ [.ref a] [.ref a] _ _ hr e0 (hbind s₁ (.ref a)) (.cons rfl .nil) (hsp H hO hS)) fun r s' h=>?_;cases r with
  | error e=>exact(hCX H e s' h).elim
  | ok fl=>
   cases fl with
   | next=>exact False.elim h
   | brk=>exact False.elim h
   | cont=>exact False.elim h
   | ret u=>
    obtain⟨v,H',os,bare,un,hok',r',q⟩:=h;have q':v=.bl true:=q;subst q';obtain rfl:u=Value.bool true:=r';refine⟨rfl,OldK.of_keep fun b o e=>?_,os,bare⟩;cases q:H b with
    | none=>exact un.keep b o e q (by intro z;exact absurd (show b∈([]:List Addr) from z) (by simp)) (by simp)
    | some u=>
     rcases hO b with z | ⟨ob,xs,z⟩
     ·rw[q] at z;cases z
     ·have z2:=un.nh b ob _ z
      obtain⟨e1,_⟩:=bZ b _ z;obtain⟨e2,_⟩:=hok' b _ z2;rw[e] at e1;cases e1;exact e2
 cases hk:K.lookup a with
 | some o=>
  have e:=KX a o hk;rw[ha] at e;cases e;refine core (fun _=>none) (fun _=>.inl rfl) (.inr ⟨_,vs.toArray,_,hk,rfl,rfl,rfl,by rw[ya,lenV];exact hl,by simpa using rv⟩) (fun b u z=>by have z':(none:Option HO)=some u:=z;cases z') (fun b z=>absurd rfl z) fun z=>absurd rfl z
 | none=>
  refine core (fun b=>if b=a then some (.nF {cls:=.type "list",data:=.seq vs.toArray} (.lst (ns.map V.int))) else none) (fun b=>?_) (.inl (.inr ⟨{cls:=.type "list",data:=.seq vs.toArray},if_pos rfl⟩)) (fun b u z=>?_) (fun b z=>?_) fun _=>hk
  ·by_cases hb:b=a
   ·exact .inr ⟨_,_,if_pos hb⟩
   ·exact .inl (if_neg hb)
  ·by_cases hb:b=a
   ·have z':=(if_pos hb).symm.trans z
    cases z';subst hb;exact⟨ha,by rw[za];exact hl,vs,_,rv,ha⟩
   ·have z':=(if_neg hb).symm.trans z
    cases z'
  ·by_cases hb:b=a
   ·exact hb
   ·exact absurd (if_neg hb) z
end L2
namespace L2
open PySem PySem.Spec PyProof.Rows
def Of {l:PySem.W.OpenLaw} {n k:Nat} {q:Program} {loose:List Str} {XP:(Str->Option Value)->Heap->Prop} {YP:World->Heap->Prop} {d:DefRec} {K:Params->yA} {CX:World->Jw} {sp:World->Sp} {x:Str}
  (hn:l.most=some n) (hn2:n<=sizeLine) (hdf:d.params.defaults=[]) (hr:fQ k callerA)
  (hY:∀(w:World) (h:Heap),YP w h->(K w.params).In h)
  (F:∀(w:World) (mg:Str->Option Value) (fa:Addr) (h:Heap),(K w.params).In h->h.Ns mainGlobals mg->mg d.name=some (.ref fa)->
   ∃fd:FuncData,(∀(s:Shared) (u:Value),BindsTo s fd ⟨[u],[]⟩ [(x,u)])/\
    ∀base:Heap,(K w.params).In base->base.Ns mainGlobals mg->dQ l.prog w (K w.params) mg base (CX w) k fa fd [x] (sp w))
  (hsp:∀(w:World) (H:Hp) (a:Addr) (ns:List Int),ns.length<=n->Ru H->aG (K w.params) H a (ns.map V.int)->sp w [.ref a] H (fun v _=>v=.bl true) fun _ _ _=>False)
  (hCX:∀(w:World) (H:Hp) (s:Shared) (e:Value) (s':Shared),CX w [] H s (fun _ _ _=>False) e s'->False) :
  PySem.W.WalkO q loose XP YP l.row.toRowW d [] (fun f vs=>PySem.call f vs):=by
 refine UH.Hl hn hdf fun w s₀ s₁ mg mb fa o pm cd doc a vs ns G Y ho hd hcd hmg hobj hints hlen hg=>?_;have KX:=hY w _ Y;obtain⟨fd,hb,hF⟩:=F w mg fa _ KX G.T.g hmg;exact Nm KX G.T.g G.T.b G.T.builtins G.T.nolimit hg hobj hints (zL hlen hn2) hr hF hb (fun H hO hS=>hsp w H a ns hlen hO hS) fun H e s'=>hCX w H s₁ e s'
end L2
namespace L2
open PySem PySem.Spec PyProof.Rows
def inClass (s:Stmt) (j:Nat):Stmt:=match s with
 | .ClassDef _ _ _ body _ _ _ _ _ _ _=>body.getD j (.Pass ⟨0,0,0,0⟩)
 | _=>.Pass ⟨0,0,0,0⟩
def cI (s:Stmt):Arguments:=match s with
 | .FunctionDef _ a _ _ _ _ _ _ _ _=>a
 | _=>{posonlyargs:=[],args:=[],vararg:=none,kwonlyargs:=[],kw_defaults:=[],kwarg:=none,defaults:=[]}
def bW (s:Stmt):List Stmt:=match s with
 | .FunctionDef _ _ b _ _ _ _ _ _ _=>b
 | _=>[]
def ao (s:Stmt):Scope:=match s with
 | .FunctionDef _ _ _ _ _ _ sc _ _ _=>sc
 | _=>{kind:=.function,names:=[],isGenerator:=false,isCoroutine:=false}
abbrev HE:Jw:=fun _ _ _ _ _ _=>False
abbrev E0:XK:=fun _ _ _=>False
def JP:Passes HE X E0:=fun _ _ _ _ _ _ _ h=>h.elim
structure N6 (K:yA) (x qual:Str) (st:Stmt) (f:Addr) (fd:FuncData):Prop where
 ex:∃(oc:Value) (od:Option Addr) (kV doc pm:Value) (an:Option Addr) (cdv ct:Value) (osl:Array (Option Value)),
  fd=PySem.W.fnOf x qual (cI st) (bW st) (ao st) .none kV doc pm an cdv ct/\K.lookup f=some ⟨oc,od,.func fd,osl⟩/\PySem.W.codeIn K cdv qual=true
 kp:PySem.W.keepIn K (.ref f)=true
section
variable {P:Program} {w:World} {K:yA} {mg:Str->Option Value} {base:Heap}
def N6.ok {x qual:Str} {st:Stmt} {f:Addr} {fd:FuncData} {N ps:List Str} {k:Nat} {sp:Sp} (F:N6 K x qual st f fd) (S:aC N ps (ao st)) (len:∀vs H Q E,sp vs H Q E->vs.length=ps.length)
  (hbody:∀(cdv:Value) (A:Around) (outer:List Env) (s:Shared) (H:Hp) (vs:List V) (Q:VK) (E:XK),fQ k (A.deeper (envOfC qual (ao st) ↑s f cdv))->sp vs H Q E->
   ∃t,Dg (kF HE P w K mg base N qual (ao st) f cdv A outer s H E).Ir (bW st) t/\t {nx:=fun _ H'=>Q .bH H',rt:=Q} (start N vs) H):dQ P w K mg base HE (k+1) f fd ps sp:=by
 obtain⟨oc,od,kV,doc,pm,an,cdv,ct,osl,rfl,lk,hcd⟩:=F.ex;refine PY lk hcd S len fun A outer s H vs Q E hr hsp=>?_;obtain⟨t,h,q⟩:=hbody cdv A outer s H vs Q E hr hsp;exact⟨t,h.Ir,q⟩
def N6.binds {x qual:Str} {st:Stmt} {f:Addr} {fd:FuncData} {ps:List Str} (F:N6 K x qual st f fd)
  (h:∀(kV doc pm:Value) (an:Option Addr) (cdv ct:Value) (us:List Value),us.length=ps.length->bindArgs (PySem.W.fnOf x qual (cI st) (bW st) (ao st) .none kV doc pm an cdv ct) ⟨us,[]⟩=pure (ps.zip us)):Binds K fd ps []:=by
 obtain⟨oc,od,kV,doc,pm,an,cdv,ct,osl,rfl,lk,hcd⟩:=F.ex;exact .all (h kV doc pm an cdv ct)
def iB {x qual:Str} {st:Stmt} {f:Addr} {oc:Value} {od an:Option Addr} {osl:Array (Option Value)} {kV doc pm cdv ct:Value} (l:K.lookup f=some ⟨oc,od,.func (PySem.W.fnOf x qual (cI st) (bW st) (ao st) .none kV doc pm an cdv ct),osl⟩)
  (c:PySem.W.codeIn K cdv qual=true) (k:PySem.W.keepIn K (.ref f)=true):N6 K x qual st f (PySem.W.fnOf x qual (cI st) (bW st) (ao st) .none kV doc pm an cdv ct):=⟨⟨oc,od,kV,doc,pm,an,cdv,ct,osl,rfl,l,c⟩,k⟩
end
def jE (hr:fQ k A):A.units+1<cLine:=Nat.lt_of_le_of_lt (Nat.add_le_add_left (by decide:1<=64) _) hr.units
section
variable {X:Cx}
def pv (i:Nat) (hN:X.N[i]?=some x<|>qe_) (hv:Rr X.env.scope x<|>qg_) (hd:(x == ("__debug__": Str))=false<|>qb_)
  (hcd:(x == ("__classdict__": Str))=false<|>qb_):PE X (.Name x pos) (aX i):=QJ hN hv hd hcd
end
def Si {A B:Prop} (h:B):if false=true then A else B:=by
 rw[if_neg zK];exact h
def Uc {A B:Prop} (h:A):if true=true then A else B:=by
 rw[if_pos rfl];exact h
def wG {c A B:Prop} [Decidable c] (h1:c->A) (h2:¬c->B):if c then A else B:=by
 by_cases h:c
 ·rw[if_pos h]
  exact h1 h
 ·rw[if_neg h]
  exact h2 h
def PU {c A B:Prop} [Decidable c] (hc:c) (h:B):if(!decide c)=true then A else B:=by
 rw[ze hc];exact Si h
def au (H H':Hp):Prop:=∀b o,H b=some o->H' b=some o
def au.refl (H:Hp):au H H:=fun _ _ h=>h
def au.trans (a:au H H1) (b:au H1 H2):au H H2:=fun c o h=>b c o (a c o h)
def au.seq {K:yA} {H H':Hp} {a:Addr} {xs:List V} (e:au H H') (h:aG K H a xs):aG K H' a xs:=by
 rcases h with(h | ⟨o,h⟩) | h
 ·exact .inl (.inl (e _ _ h))
 ·exact .inl (.inr ⟨o,e _ _ h⟩)
 ·exact .inr h
end L2
namespace Lm
def red (t b:Int):Int×Int:=(t/(Int.gcd t b:Int),b/(Int.gcd t b:Int))
def xt {t b:Int} (hb:0<b):0<(Int.gcd t b:Int):=by
 have:0<Int.gcd t b:=Int.gcd_pos_of_ne_zero_right t nofun;omega
def sE {t b k:Int} (hk:0<k) (hb:0<b):red (k*t) (k*b)=red t b:=by
 have g0:=xt (t:=t) hb;have e:(Int.gcd (k*t) (k*b):Int)=k*(Int.gcd t b:Int):=by
  rw[Int.gcd_mul_left];simp only[Int.natCast_mul];rw[Int.natAbs_of_nonneg nofun]
 unfold red;rw[e,Int.mul_ediv_mul_of_pos _ _ hk,Int.mul_ediv_mul_of_pos _ _ hk]
def lP {t b:Int} (hb:0<b):∃g,0<g/\t=g*(red t b).1/\b=g*(red t b).2/\0<(red t b).2/\(red t b).2<=b:=by
 have g0:=xt (t:=t) hb;have d1:(Int.gcd t b:Int) ∣ t:=Int.gcd_dvd_left ..;have d2:(Int.gcd t b:Int) ∣ b:=Int.gcd_dvd_right ..;have e1:(Int.gcd t b:Int)*(t/(Int.gcd t b:Int))=t:=Int.mul_ediv_cancel' d1;have e2:(Int.gcd t b:Int)*(b/(Int.gcd t b:Int))=b:=Int.mul_ediv_cancel' d2;refine⟨_,g0,e1.symm,e2.symm,?_,?_⟩
 ·exact Int.ediv_pos_of_pos_of_dvd hb nofun d2
 ·exact zW _ nofun
def yW {t b:Int} (ht:0<=t):0<=(red t b).1:=zV ht (Int.natCast_nonneg _)
def yX {t b:Int} (ht:0<=t):(red t b).1<=t:=zW _ ht
def OB {t b:Int} (hb:0<b):red (red t b).1 (red t b).2=red t b:=by
 obtain⟨g,g0,e1,e2,p,_⟩:=lP (t:=t) hb;have h:=sE (t:=(red t b).1) (b:=(red t b).2) g0 p;rw[<-e1,<-e2] at h;exact h.symm
def add (x y:Int×Int):Int×Int:=red (x.1*y.2+y.1*x.2) (x.2*y.2)
def Ph {t b s c:Int} (hb:0<b) (hc:0<c):add (red t b) (red s c)=red (t*c+s*b) (b*c):=by
 obtain⟨g,g0,e1,e2,p,_⟩:=lP (t:=t) hb;obtain⟨k,k0,f1,f2,q,_⟩:=lP (t:=s) hc;unfold add;generalize hx:red t b=x at *;generalize hy:red s c=y at *;have h:=sE (t:=x.1*y.2+y.1*x.2) (b:=x.2*y.2) (Int.mul_pos g0 k0) (Int.mul_pos p q);rw[<-h]
 congr 1
 ·rw[e1,e2,f1,f2,Int.mul_add]
  congr 1 <;> simp only[Int.mul_assoc,Int.mul_left_comm,Int.mul_comm]
 ·rw[e2,f2];simp only[Int.mul_assoc,Int.mul_left_comm,Int.mul_comm]
end Lm
namespace Lm
def Rd (x:Int×Int):Prop:=∃t b,0<=t/\0<b/\x=red t b
def Rd.of {t b:Int} (ht:0<=t) (hb:0<b):Rd (red t b):=⟨t,b,ht,hb,rfl⟩
def Rd.pos {x:Int×Int} (h:Rd x):0<=x.1/\0<x.2/\red x.1 x.2=x:=by
 obtain⟨t,b,ht,hb,rfl⟩:=h;obtain⟨g,g0,e1,e2,p,_⟩:=lP (t:=t) hb;exact⟨yW ht,p,OB hb⟩
def Rd.zero:Rd (0,1):=⟨0,1,∅,∅,∅⟩
theorem Rd.add {x y:Int×Int} (h:Rd x) (k:Rd y):Rd (add x y):=by
 obtain⟨a,b,_⟩:=h.pos;obtain⟨c,d,_⟩:=k.pos;refine⟨_,_,?_,Int.mul_pos b d,rfl⟩;exact Int.add_nonneg (Int.mul_nonneg a nofun) (Int.mul_nonneg c nofun)
def GB {x y:Int} (hx:0<=x) (hy:0<y):Int.gcd y (x%y)=Int.gcd x y:=by
 have e:(x%y).natAbs=x.natAbs%y.natAbs:=by
  obtain⟨a,rfl⟩:=yK hx;obtain⟨b,rfl⟩:=yK (Int.le_of_lt hy);rfl
 show Nat.gcd y.natAbs (x%y).natAbs=Nat.gcd x.natAbs y.natAbs;rw[e,Nat.gcd_comm x.natAbs,Nat.gcd_rec y.natAbs x.natAbs,Nat.gcd_comm]
def Nx {t b:Int} (hb:0<b):(Int.gcd t b:Int)<=b:=by
 have h:Int.gcd t b<=b.natAbs:=Nat.gcd_le_right _ nofun;omega
end Lm
namespace Lm
end Lm
namespace Lm
theorem J6 {c:Nat}:∀{p q A B:List Nat},c∉p->c∉q->p++c::A=q++c::B->p=q/\A=B
 | [],[],A,B,_,_,h=>⟨rfl,by simpa using h⟩
 | [],y::q,A,B,_,hq,h=>by
  simp at h;exact absurd (by rw[h.1];exact zp) hq
 | x::p,[],A,B,hp,_,h=>by
  simp at h;exact absurd (by rw[<-h.1];exact zp) hp
 | x::p,y::q,A,B,hp,hq,h=>by
  simp only[List.cons_append,List.cons.injEq] at h;obtain⟨e,h⟩:=h;obtain⟨e1,e2⟩:=J6 (fun z=>hp (zm _ z)) (fun z=>hq (zm _ z)) h;exact⟨by rw[e,e1],e2⟩
def Nv:∀(n:Nat),0<n->∃c r,Nat.toDigits 10 n=c::r/\c≠'0':=by
 intro n
 induction n using Nat.strongRecOn with
 | _ n ih=>
  intro hn
  by_cases h:n<10
  ·rw[Nat.toDigits_of_lt_base h]
   refine⟨_,[],rfl,?_⟩;exact(by decide:∀n<10,0<n->Nat.digitChar n≠'0') n h hn
  ·have hd:n%10<10:=Nat.mod_lt _ ∅
   obtain⟨c,r,e,hc⟩:=ih (n/10) nofun nofun;have t:=Nat.toDigits_append_toDigits (b:=10) (n:=n/10) (d:=n%10) ∅ nofun hd;rw[Nat.div_add_mod,e] at t;exact⟨c,r++Nat.toDigits 10 (n%10),by rw[<-t];rfl,hc⟩
def QY {n k:Nat} (hk:0<k):n<10^k->(Nat.toDigits 10 n).length<=k:=by
 intro h
 induction k generalizing n with
 | zero=>omega
 | succ k ih=>
  by_cases h10:n<10
  ·rw[Nat.toDigits_of_lt_base h10];simp
  ·have hd:n%10<10:=Nat.mod_lt _ ∅
   have hk0:0<k:=by
    rcases Nat.eq_zero_or_pos k with rfl | z
    ·simp at h;omega
    ·exact z
   have:=ih hk0 (n:=n/10) (by rw[Nat.div_lt_iff_lt_mul ∅];rw[Nat.pow_succ] at h;exact h);have t:=Nat.toDigits_append_toDigits (b:=10) (n:=n/10) (d:=n%10) ∅ nofun hd;rw[Nat.div_add_mod] at t;rw[<-t,zg,Nat.toDigits_of_lt_base hd];simp;omega
end Lm
namespace L2
open PySem
def fo (t:Bool) (h:Heap) (a:Addr) (items:Array Value):Prop:=match t with
 | true=>h.IsTuple a items
 | false=>h.IsList a items
def du (t:Bool) (h:Heap) (it a:Addr) (k:Nat):Prop:=match t with
 | true=>h.IsTupleIter it a k
 | false=>h.IsListIter it a k
def tm (t:Bool) (a:Addr):Obj:=match t with
 | true=>{cls:=.type "tuple_iterator",data:=.fields #[.ref a,.int 0 0]}
 | false=>{cls:=.type "list_iterator",data:=.fields #[.ref a,.int 0 0]}
theorem fo.at {t:Bool} {h h':Heap} {a:Addr} {items:Array Value} (x:fo t h a items) (e:∀o,h.get? a=some o->h'.get? a=some o):fo t h' a items:=by
 cases t
 ·exact Heap.IsList.at x e
 ·obtain⟨o,ho,r⟩:=x;exact⟨o,e o ho,r⟩
theorem du.at {t:Bool} {h h':Heap} {it a:Addr} {k:Nat} (x:du t h it a k) (e:∀o,h.get? it=some o->h'.get? it=some o):du t h' it a k:=by
 cases t
 ·exact Heap.IsListIter.at x e
 ·exact Heap.IsTupleIter.at x e
def fo.but {t:Bool} {h h':Heap} {a b:Addr} {items:Array Value} (x:fo t h a items) (hs:Heap.SameBut b h h') (n:a≠b):fo t h' a items:=x.at fun o e=>hs.extBut a o n e
def du.but {t:Bool} {h h':Heap} {it a b:Addr} {k:Nat} (x:du t h it a k) (hs:Heap.SameBut b h h') (n:it≠b):du t h' it a k:=x.at fun o e=>hs.extBut it o n e
theorem du.get {t:Bool} {h:Heap} {it a:Addr} {k:Nat} (x:du t h it a k):∃o,h.get? it=some o/\∀v,o.data≠.cell v:=by
 cases t
 ·obtain⟨o,e,_,d⟩:=x;exact⟨o,e,fun v z=>by rw[d] at z;cases z⟩
 ·obtain⟨o,e,_,d⟩:=x;exact⟨o,e,fun v z=>by rw[d] at z;cases z⟩
def du.new (t:Bool) (h:Heap) (a:Addr):du t (h.push (tm t a)) h.objs.size a 0:=by
 cases t
 ·exact⟨_,yw _ rfl,rfl,rfl⟩
 ·exact⟨_,yw _ rfl,rfl,rfl⟩
section
variable {prog:Program} {w:World} {A:Around} {E:Value->Shared->Prop} {s:Shared}
def JH {t:Bool} {a:Addr} {items:Array Value} {Q:Value->Shared->Prop} (hl:fo t s.heap a items) (hQ:Q (.ref ↑s) {s with heap:=s.heap.push (tm t a)}) :
  wpAny (model prog w) A (pyIter (.ref a)) Q E s:=by
 cases t
 ·exact wpAny_pyIter_list hl hQ
 ·exact wpAny_pyIter_tuple hl hQ
def rK {t:Bool} {it a:Addr} {i:Nat} {items:Array Value} {x:Value} {Q:Value->Shared->Prop} (hit:du t s.heap it a i) (hl:fo t s.heap a items) (hx:items[i]?=some x)
  (hQ:∀h',du t h' it a (i+1)->Heap.SameBut it s.heap h'->Q x {s with heap:=h'}):wpAny (model prog w) A (Builtin.SmallTypes.nextOf (.ref it)) Q E s:=by
 cases t
 ·exact wpAny_nextOf_list_item hit hl hx hQ
 ·have hit':s.heap.IsTupleIter it a i:=hit
  obtain⟨o,ho,hc,hd⟩:=id hit';obtain⟨ol,hol,_,nl,hdl⟩:=(show s.heap.IsTuple a items from hl)
  unfold Builtin.SmallTypes.nextOf;refine yt (wpAny_callSpecial?_slot (name:=Str.ofString "__next__") hit'.typeIs F.slot_tuple_iterator_next (wpAny_call_entry F.slot_tuple_iterator_next hit'.typeIs F.entry_tuple_iterator_next ?_ (F.args_tuple_iterator_next_1 _)));show wpAny _ _ (field (.ref it) 0 >>= _) _ _ s;refine yt (wpAny_field ho hd (x:=.ref a) rfl ?_);show wpAny _ _ (if(Value.ref a == Value.none)=true then _ else _) _ _ s;rw[if_neg (show¬((Value.ref a == Value.none)=true) from zK)];show wpAny _ _ (field (.ref it) 1 >>= _) _ _ s;refine yt (wpAny_field ho hd (x:=.int i 0) rfl ?_);show wpAny _ _ (seqItems? (.ref a) >>= _) _ _ s;refine yt (wpAny_seqItems hol hdl ?_);simp only[Int.toNat_natCast,hx];refine yt (wpAny_setField ho hd (by simp) (yv ⟨x,rfl,yv (hQ _ ?_ (Heap.SameBut.update ..))⟩));exact⟨_,yz _ ho (Obj.isFreed_of_fields (Obj.data_mapFields hd _)),(Obj.cls_mapFields ..).trans hc,by rw[Obj.data_mapFields hd];simp[rawInt]⟩
def Dv {t:Bool} {it a:Addr} {i:Nat} {items:Array Value} {Q:Value->Shared->Prop} (hh:A.handled=none) (hit:du t s.heap it a i) (hl:fo t s.heap a items) (hx:items[i]?=none)
  (hE:∀h' e,Heap.ExtBut it s.heap h'->(∃o,h'.get? e=some o/\o.cls=.type "StopIteration")->E (.ref e) {s with heap:=h'}):wpAny (model prog w) A (Builtin.SmallTypes.nextOf (.ref it)) Q E s:=by
 cases t
 ·exact wpAny_nextOf_list_end hh hit hl hx hE
 ·have hit':s.heap.IsTupleIter it a i:=hit
  obtain⟨o,ho,hc,hd⟩:=id hit';obtain⟨ol,hol,_,nl,hdl⟩:=(show s.heap.IsTuple a items from hl)
  unfold Builtin.SmallTypes.nextOf;refine yt (wpAny_callSpecial?_slot (name:=Str.ofString "__next__") hit'.typeIs F.slot_tuple_iterator_next (wpAny_call_entry F.slot_tuple_iterator_next hit'.typeIs F.entry_tuple_iterator_next ?_ (F.args_tuple_iterator_next_1 _)));show wpAny _ _ (field (.ref it) 0 >>= _) _ _ s;refine yt (wpAny_field ho hd (x:=.ref a) rfl ?_);show wpAny _ _ (if(Value.ref a == Value.none)=true then _ else _) _ _ s;rw[if_neg (show¬((Value.ref a == Value.none)=true) from zK)];show wpAny _ _ (field (.ref it) 1 >>= _) _ _ s;refine yt (wpAny_field ho hd (x:=.int i 0) rfl ?_);show wpAny _ _ (seqItems? (.ref a) >>= _) _ _ s;refine yt (wpAny_seqItems hol hdl ?_);simp only[Int.toNat_natCast,hx];refine yt (wpAny_rule (yt (wpAny_setField ho hd (by simp) ?_)));show wpAny _ _ (newExc (.type "StopIteration") [] >>= _) _ _ _;refine yt ?_;simp only[newExc,newTuple];refine yt (wpAny_newObj_type ?_ (by size_fits));refine yt (m:=firstArgMember _ _) (wpAny_of_eq (a:=Value.none) (by first | rfl | (simp only[firstArgMember];rfl)) (wpAny_newObj_type ?_ (by size_fits)));simp only[raiseNew];refine yt (wpAny_handled ?_)
  first | rw[show A.in1.handled=none from hh] | rw[hh]
  exact yt (yv (wpAny_throw (hE _ _ (((Heap.SameBut.update ..).extBut.push _).push _) ⟨_,yw _ rfl,rfl⟩)))
structure LF (z TI TO i1 i2:Addr):Prop where
 a1:TI≠z
 a2:TO≠z
 a3:i1≠z
 a4:i2≠z
 a5:TI≠TO
 a6:TI≠i1
 a7:TI≠i2
 a8:TO≠i1
 a9:TO≠i2
 b1:i1≠i2
structure Bi (l z TO i1 i2:Addr):Prop where
 a1:l≠z
 a2:l≠TO
 a3:l≠i1
 a4:l≠i2
def tS (z TO i1 i2:Addr) (h h':Heap):Prop:=∀c o,c≠z->c≠TO->c≠i1->c≠i2->h.get? c=some o->h'.get? c=some o
structure Ob (t1 t2:Bool) (h:Heap) (z TI TO i1 i2 l1 l2:Addr) (k:Nat) (f0:Value):Prop where
 z:IsZip h z TI TO f0
 ti:IsPair h TI (.ref i1) (.ref i2)
 to:∃a b,IsPair h TO a b
 i1:du t1 h i1 l1 k
 i2:du t2 h i2 l2 k
def LW {t1 t2:Bool} {z TI TO i1 i2 l1 l2:Addr} {k:Nat} {xs ys:Array Value} {x y:Value} {Q:Value->Shared->Prop} (D:LF z TI TO i1 i2) (L1:Bi l1 z TO i1 i2) (L2:Bi l2 z TO i1 i2)
  (S:Ob t1 t2 s.heap z TI TO i1 i2 l1 l2 k .none) (hl1:fo t1 s.heap l1 xs) (hl2:fo t2 s.heap l2 ys) (hx:xs[k]?=some x) (hy:ys[k]?=some y)
  (hQ:∀h',Ob t1 t2 h' z TI TO i1 i2 l1 l2 (k+1) (rawInt ↑s)->IsPair h' ↑s x y->tS z TO i1 i2 s.heap h'->Q (.ref ↑s) {s with heap:=h'}) :
  wpAny (model prog w) A (Builtin.«zip.__next__» ⟨[.ref z],[]⟩) (fun fin s'=>∃v,fin=.done (.ret v)/\Q v s') E s:=by
 obtain⟨hz,hTI,⟨a,b,hTO⟩,h1,h2⟩:=S;show wpAny _ _ (field (.ref z) 2 >>= _) _ _ _;refine yt (wpAny_field hz rfl (x:=.bool false) rfl ?_);show wpAny _ _ (field (.ref z) 3 >>= _) _ _ _;refine yt (wpAny_field hz rfl (x:=.ref TI) rfl (yt (wpAny_seqItems hTI rfl ?_)));show wpAny _ _ (Builtin.SmallTypes.ownedTupleIsFree (.ref z) >>= _) _ _ _;refine yt ?_;unfold Builtin.SmallTypes.ownedTupleIsFree;refine yt (wpAny_field hz rfl (x:=.none) rfl (yv ?_));simp only[if_true];refine yt (wpAny_rule (yt (wpAny_field hz rfl (x:=.ref TO) rfl (yt (wpAny_setField_rec hz (by simp) fun g1 z1 q1=>?_)))));replace z1:IsZip g1 z TI TO .ellipsis:=z1;refine yt ?_;simp only[List.zipIdx_cons,List.zipIdx_nil,List.forIn_cons,List.forIn_nil];refine yt (yt (wpAny_onRaise ?_));show wpAny _ _ (Builtin.SmallTypes.nextOf (.ref i1) >>= _) _ _ _;refine yt (rK (h1.but q1 D.a3) (hl1.but q1 L1.a1) hx fun g2 p2 q2=>yv ?_);have o2:IsPair g2 TO a b:=q2.extBut _ _ D.a8 (q1.extBut _ _ D.a2 hTO);refine yt (wpAny_seqItems o2 rfl (yt (wpAny_updateSeq_pair o2 fun g3 o3 q3=>yt (wpAny_letGo (yv (yt (yt (wpAny_onRaise ?_))))))));replace o3:IsPair g3 TO x b:=o3;show wpAny _ _ (Builtin.SmallTypes.nextOf (.ref i2) >>= _) _ _ _;refine yt (rK (((h2.but q1 D.a4).but q2 D.b1.symm).but q3 D.a9.symm) (((hl2.but q1 L2.a1).but q2 L2.a3).but q3 L2.a2) hy fun g4 p4 q4=>yv ?_);have o4:IsPair g4 TO x b:=q4.extBut _ _ D.a9 o3;refine yt (wpAny_seqItems o4 rfl (yt (wpAny_updateSeq_pair o4 fun g5 o5 q5=>yt (wpAny_letGo (yv (yv ?_))))));replace o5:IsPair g5 TO x y:=o5;refine yt (wpAny_seqItems o5 rfl (yt (wpAny_newTuple ?_)));have sz:g5.objs.size=↑s:=by rw[q5.1,q4.1,q3.1,q2.1,q1.1]
 have z5:IsZip g5 z TI TO .ellipsis:=q5.extBut _ _ D.a2.symm (q4.extBut _ _ D.a4.symm (q3.extBut _ _ D.a2.symm (q2.extBut _ _ D.a3.symm z1)));have k5:tS z TO i1 i2 s.heap g5:=fun c o c1 c2 c3 c4 e=>q5.extBut _ _ c2 (q4.extBut _ _ c4 (q3.extBut _ _ c2 (q2.extBut _ _ c3 (q1.extBut _ _ c1 e))));have r1:du t1 g5 i1 l1 (k+1):=((p2.but q3 D.a8.symm).but q4 D.b1).but q5 D.a8.symm;have r2:du t2 g5 i2 l2 (k+1):=p4.but q5 D.a9.symm;have zl:z<g5.objs.size:=yx z5;show wpAny _ _ (Builtin.SmallTypes.ownedTupleHandOut (.ref z) (.ref g5.objs.size) >>= _) _ _ _;refine yt ?_;unfold Builtin.SmallTypes.ownedTupleHandOut;have z6:IsZip (g5.push {cls:=.type "tuple",data:=.seq #[x,y]}) z TI TO .ellipsis:=yu _ z5;refine yt (wpAny_setField_rec z6 (by simp) fun g7 z7 q7=>?_);replace z7:IsZip g7 z TI TO (rawInt g5.objs.size):=z7;refine wpAny_setField_rec z7 (by simp) fun g8 z8 q8=>?_;replace z8:IsZip g8 z TI TO (rawInt g5.objs.size):=z8;have up:∀c o,c≠z->g5.get? c=some o->g8.get? c=some o:=fun c o c1 e=>q8.extBut _ _ c1 (q7.extBut _ _ c1 (yu _ e));have t8:IsPair g8 g5.objs.size x y:=q8.extBut _ _ (yh zl) (q7.extBut _ _ (yh zl) (yw _ rfl));rw[sz] at z8 t8;refine yv ⟨_,rfl,?_⟩;show Q (.ref g5.objs.size) _;rw[sz];exact hQ g8 ⟨z8,up _ _ D.a1 (k5 _ _ D.a1 D.a5 D.a6 D.a7 hTI),⟨_,_,up _ _ D.a2 o5⟩,r1.at fun o e=>up _ o D.a3 e,r2.at fun o e=>up _ o D.a4 e⟩ t8 fun c o c1 c2 c3 c4 e=>up c o c1 (k5 c o c1 c2 c3 c4 e)
def LV {t1 t2:Bool} {z TI TO i1 i2 l1 l2:Addr} {k:Nat} {xs ys:Array Value} {Q:Fin->Shared->Prop} (hh:A.handled=none) (D:LF z TI TO i1 i2) (L1:Bi l1 z TO i1 i2) (L2:Bi l2 z TO i1 i2)
  (S:Ob t1 t2 s.heap z TI TO i1 i2 l1 l2 k .none) (hl1:fo t1 s.heap l1 xs) (hl2:fo t2 s.heap l2 ys) (hend:xs[k]?=none\/ys[k]?=none)
  (hE:∀h' e,tS z TO i1 i2 s.heap h'->(∃o,h'.get? e=some o/\o.cls=.type "StopIteration")->E (.ref e) {s with heap:=h'}) :
  wpAny (model prog w) A (Builtin.«zip.__next__» ⟨[.ref z],[]⟩) Q E s:=by
 obtain⟨hz,hTI,⟨a,b,hTO⟩,h1,h2⟩:=S;show wpAny _ _ (field (.ref z) 2 >>= _) _ _ _;refine yt (wpAny_field hz rfl (x:=.bool false) rfl ?_);show wpAny _ _ (field (.ref z) 3 >>= _) _ _ _;refine yt (wpAny_field hz rfl (x:=.ref TI) rfl (yt (wpAny_seqItems hTI rfl ?_)));show wpAny _ _ (Builtin.SmallTypes.ownedTupleIsFree (.ref z) >>= _) _ _ _;refine yt ?_;unfold Builtin.SmallTypes.ownedTupleIsFree;refine yt (wpAny_field hz rfl (x:=.none) rfl (yv ?_));simp only[if_true];refine yt (wpAny_rule (yt (wpAny_field hz rfl (x:=.ref TO) rfl (yt (wpAny_setField_rec hz (by simp) fun g1 z1 q1=>?_)))));replace z1:IsZip g1 z TI TO .ellipsis:=z1;refine yt ?_;simp only[List.zipIdx_cons,List.zipIdx_nil,List.forIn_cons,List.forIn_nil];refine yt (yt (wpAny_onRaise ?_));show wpAny _ _ (Builtin.SmallTypes.nextOf (.ref i1) >>= _) _ _ _;cases hx:xs[k]? with
 | none=>
  refine yt (Dv hh (h1.but q1 D.a3) (hl1.but q1 L1.a1) hx fun g2 e q2 he=>?_);obtain⟨oe,hoe,hce⟩:=he;have z2:IsZip g2 z TI TO .ellipsis:=q2 _ _ D.a3.symm z1;have hez:e≠z:=fun x=>by subst x;rw[z2] at hoe;cases hoe;simp at hce
  exact wpAny_setField_rec z2 (by simp) fun g3 _ q3=>hE g3 e (fun c o c1 _ c3 _ x=>q3.extBut _ _ c1 (q2 _ _ c3 (q1.extBut _ _ c1 x))) ⟨oe,q3.extBut _ _ hez hoe,hce⟩
 | some x=>
  have hy:ys[k]?=none:=by rcases hend with h | h;rw[hx] at h;cases h;exact h
  refine yt (rK (h1.but q1 D.a3) (hl1.but q1 L1.a1) hx fun g2 p2 q2=>yv ?_);have o2:IsPair g2 TO a b:=q2.extBut _ _ D.a8 (q1.extBut _ _ D.a2 hTO);refine yt (wpAny_seqItems o2 rfl (yt (wpAny_updateSeq_pair o2 fun g3 o3 q3=>yt (wpAny_letGo (yv (yt (yt (wpAny_onRaise ?_))))))));show wpAny _ _ (Builtin.SmallTypes.nextOf (.ref i2) >>= _) _ _ _;refine yt (Dv hh (((h2.but q1 D.a4).but q2 D.b1.symm).but q3 D.a9.symm) (((hl2.but q1 L2.a1).but q2 L2.a3).but q3 L2.a2) hy fun g4 e q4 he=>?_);obtain⟨oe,hoe,hce⟩:=he;have z4:IsZip g4 z TI TO .ellipsis:=q4 _ _ D.a4.symm (q3.extBut _ _ D.a2.symm (q2.extBut _ _ D.a3.symm z1));have hez:e≠z:=fun x=>by subst x;rw[z4] at hoe;cases hoe;simp at hce
  exact wpAny_setField_rec z4 (by simp) fun g5 _ q5=>hE g5 e (fun c o c1 c2 c3 c4 x=>q5.extBut _ _ c1 (q4 _ _ c4 (q3.extBut _ _ c2 (q2.extBut _ _ c3 (q1.extBut _ _ c1 x))))) ⟨oe,q5.extBut _ _ hez hoe,hce⟩
def Fp {t1 t2:Bool} {z TI TO i1 i2 l1 l2:Addr} {k:Nat} {xs ys:Array Value} {x y:Value} {Q:Option Value->Shared->Prop} (D:LF z TI TO i1 i2) (L1:Bi l1 z TO i1 i2) (L2:Bi l2 z TO i1 i2)
  (S:Ob t1 t2 s.heap z TI TO i1 i2 l1 l2 k .none) (hl1:fo t1 s.heap l1 xs) (hl2:fo t2 s.heap l2 ys) (hx:xs[k]?=some x) (hy:ys[k]?=some y)
  (hQ:∀h',Ob t1 t2 h' z TI TO i1 i2 l1 l2 (k+1) (rawInt ↑s)->IsPair h' ↑s x y->tS z TO i1 i2 s.heap h'->Q (some (.ref ↑s)) {s with heap:=h'}) :
  wpAny (model prog w) A (pyNext (.ref z)) Q E s:=by
 have hT:s.TypeIs (.ref z) "zip":=⟨_,S.z,rfl⟩
 unfold pyNext;exact yt (wpAny_attempt (wpAny_callSpecial?_slot (name:=Str.ofString "__next__") hT F.slot_zip_next (wpAny_call_entry F.slot_zip_next hT F.entry_zip_next (LW D L1 L2 S hl1 hl2 hx hy fun h' a1 a2 a3=>yv (hQ h' a1 a2 a3)) (F.args_zip_next_1 _))))
def Fn {t1 t2:Bool} {z TI TO i1 i2 l1 l2:Addr} {k:Nat} {xs ys:Array Value} {Q:Option Value->Shared->Prop} (hh:A.handled=none) (D:LF z TI TO i1 i2) (L1:Bi l1 z TO i1 i2) (L2:Bi l2 z TO i1 i2)
  (S:Ob t1 t2 s.heap z TI TO i1 i2 l1 l2 k .none) (hl1:fo t1 s.heap l1 xs) (hl2:fo t2 s.heap l2 ys) (hend:xs[k]?=none\/ys[k]?=none)
  (hQ:∀h',tS z TO i1 i2 s.heap h'->Q none {s with heap:=h'}):wpAny (model prog w) A (pyNext (.ref z)) Q E s:=by
 have hT:s.TypeIs (.ref z) "zip":=⟨_,S.z,rfl⟩
 unfold pyNext;refine yt (wpAny_attempt (wpAny_callSpecial?_slot (name:=Str.ofString "__next__") hT F.slot_zip_next (wpAny_call_entry F.slot_zip_next hT F.entry_zip_next (LV hh D L1 L2 S hl1 hl2 hend fun h' e hk he=>?_) (F.args_zip_next_1 _))));obtain⟨o,ho,hc⟩:=he;exact yt (wpAny_isInstance (T:="StopIteration") (b:=true) ⟨o,ho,hc⟩ isSubtype_stop (yv (hQ _ hk)))
end
abbrev SS (t1:Bool) (h:Heap) (l1:Addr):Heap:=h.push (tm t1 l1)
abbrev RD (t1 t2:Bool) (h:Heap) (l1 l2:Addr):Heap:=(SS t1 h l1).push (tm t2 l2)
abbrev SR (t1 t2:Bool) (h:Heap) (l1 l2:Addr):Heap:=(RD t1 t2 h l1 l2).push {cls:=.type "tuple",data:=.seq #[.ref h.objs.size,.ref (SS t1 h l1).objs.size]}
abbrev SQ (t1 t2:Bool) (h:Heap) (l1 l2:Addr):Heap:=(SR t1 t2 h l1 l2).push {cls:=.type "tuple",data:=.seq #[.none,.none]}
abbrev P7 (t1 t2:Bool) (h:Heap) (l1 l2:Addr):Heap:=(SQ t1 t2 h l1 l2).push {cls:=.type "zip",data:=.fields #[.none,.bool false,.bool false,.ref (RD t1 t2 h l1 l2).objs.size,.ref (SR t1 t2 h l1 l2).objs.size]}
def LY (t1 t2:Bool) (l1 l2:Addr) (xs ys:Array Value) :
  Meets (Builtin.«zip.__new__» ⟨[.type "zip",.ref l1,.ref l2],[]⟩) (fun _ R s=>fo t1 s.heap l1 xs/\fo t2 s.heap l2 ys/\R (.ok (.ret (.ref (SQ t1 t2 s.heap l1 l2).objs.size))) {s with heap:=P7 t1 t2 s.heap l1 l2}):=
 .of_wp fun prog w A R s h=>by
  obtain⟨hp,g,d,tk,os⟩:=s;obtain⟨a1,a2,h⟩:=h;have hsub:=sub_zip;have b1:fo t1 (Shared.heap ⟨hp,g,d,tk,os⟩) l1 xs:=a1;have b2:fo t2 (Shared.heap ⟨hp.push (tm t1 l1),g,d,tk,os⟩) l2 ys:=a2.at fun o e=>yu _ e;wp_walk using JH b1,JH b2;exact⟨_,rfl,h⟩
def Fq {prog:Program} {w:World} {A:Around} {E:Value->Shared->Prop} {s:Shared} {t1 t2:Bool} {l1 l2:Addr} {xs ys:Array Value} {Q:Value->Shared->Prop} (hl1:fo t1 s.heap l1 xs) (hl2:fo t2 s.heap l2 ys)
  (h:∀h',Ob t1 t2 h' (↑s+4) (↑s+2) (↑s+3) ↑s (↑s+1) l1 l2 0 .none->(∀c o,s.heap.get? c=some o->h'.get? c=some o)->Q (.ref (↑s+4)) {s with heap:=h'}) :
  wpAny (model prog w) A (call (.type "zip") [.ref l1,.ref l2]) Q E s:=by
 refine callType_new F.called_zip ∅ (F.typeCall_zip_2 _ _) (F.newCall_zip_2 _ _) (fun obj=>F.args_object_init_3 obj _ _) F.entry_zip_new (LY t1 t2 l1 l2 xs ys) ⟨hl1,hl2,?_⟩;have z1:(SS t1 s.heap l1).objs.size=↑s+1:=Heap.size_push ..;have z2:(RD t1 t2 s.heap l1 l2).objs.size=↑s+2:=by rw[Heap.size_push,z1]
 have z3:(SR t1 t2 s.heap l1 l2).objs.size=↑s+3:=by rw[Heap.size_push,z2]
 have z4:(SQ t1 t2 s.heap l1 l2).objs.size=↑s+4:=by rw[Heap.size_push,z3]
 have up:∀c o,(RD t1 t2 s.heap l1 l2).get? c=some o->(P7 t1 t2 s.heap l1 l2).get? c=some o:=fun c o e=>yu _ (yu _ (yu _ e));have g5:(P7 t1 t2 s.heap l1 l2).get? (SQ t1 t2 s.heap l1 l2).objs.size=some _:=yw _ rfl;have g4:(P7 t1 t2 s.heap l1 l2).get? (SR t1 t2 s.heap l1 l2).objs.size=some _:=yu _ (yw _ rfl);have g3:(P7 t1 t2 s.heap l1 l2).get? (RD t1 t2 s.heap l1 l2).objs.size=some _:=yu _ (yu _ (yw _ rfl));have g2:du t2 (P7 t1 t2 s.heap l1 l2) (SS t1 s.heap l1).objs.size l2 0:=(du.new t2 _ l2).at (up _);have g1:du t1 (P7 t1 t2 s.heap l1 l2) ↑s l1 0:=((du.new t1 _ l1).at fun o e=>yu _ e).at (up _);show _/\_;rw[z2,z3,z4] at g5;rw[z1,z2] at g3;rw[z3] at g4;rw[z1] at g2;rw[z4];exact⟨⟨_,g5,rfl⟩,h _ ⟨g5,g3,⟨_,_,g4⟩,g1,g2⟩ fun c o x=>up c o (yu _ (yu _ x))⟩
end L2
namespace L2
open PySem PySem.Spec PyProof.Rows
def aR (h:H p=none):au H (upd H p o):=fun b u e=>by rw[aD (bo e h)];exact e
def laid {H:Hp} {o:HO} {Q:VK} (k:∀p H',au H H'->H' p=some o->Q (.ref p) H'):∀p,H p=none->Q (.ref p) (upd H p o):=fun p hp=>k p _ (aR hp) aA
def au.tup {K:yA} {H H':Hp} {a:Addr} {xs:List V} (e:au H H') (h:dw K H a xs):dw K H' a xs:=by
 rcases h with(h | ⟨o,h⟩) | h
 ·exact .inl (.inl (e _ _ h))
 ·exact .inl (.inr ⟨o,e _ _ h⟩)
 ·exact .inr h
section
variable {X:Cx} {pins:List (Addr×Obj)} {σ:St} {H:Hp} {s:Shared} {h':Heap}
def Inv.xD {T:Addr} {o:HO} {ch:List Addr} {t':Nat} (I:Inv X pins σ H s) (hf:∀b∈ch,rE X pins H b) (hT:↑s<=T) (k:∀b u,b∉ch->s.heap.get? b=some u->h'.get? b=some u)
  (new:cF X.prog X.w (upd H T o) h' T o):Inv X pins σ (upd H T o) {s with heap:=h',toks:=t'}:=by
 have hn:H T=none:=I.bZ.fresh hT;have neT:∀b u,s.heap.get? b=some u->b≠T:=fun b u e=>yi (yb (yx e) hT);have nch:∀b u,H b=some u->b∉ch:=fun b u e hb=>by rw[(hf b hb).1] at e;cases e
 refine I.step (g':=s.gens) (d':=s.drawn) (ch:=ch) (fun b hb=>?_) (fun b u _ _ hc e _=>k b u hc e) (fun b u _ _ hc e _=>⟨u.slots,k b u hc e⟩) (fun b u hc e n=>by rw[aD (neT b u e)];exact n) (fun b u hc e=>⟨u,k b u hc e⟩)
  (fun b xs e=>by rw[aD (bo e hn)];exact e) (fun b ob u e=>by rw[aD (bo e hn)];exact e) (fun b ps e=>⟨#[],by rw[aD (bo e hn),e];simp⟩) (fun m hm=>?_) (fun b u e=>?_) I.bare
 ·obtain⟨f0,f1,f2,f3,f4,f5⟩:=hf b hb
  exact⟨f3,f1,f4,f5⟩
 ·obtain⟨ob,es,ep,ho,r⟩:=hm
  exact⟨ob,es,ep,k _ _ (fun z=>(hf _ z).2.1 rfl) ho,r⟩
 ·by_cases hb:b=T
  ·subst hb;rw[aA] at e;cases e;exact new
  ·rw[aD hb] at e
   refine(I.bZ b u e).lH (fun c v hc q=>k c v ?_ q) (fun c q=>by rw[aD (bo q hn)];exact q) fun c xs q=>by rw[aD (bo q hn)];exact q
   rcases hc with z | z
   ·rw[z];exact nch b u e
   ·exact nch c _ z
def Inv.turns {ch:List Addr} {t':Nat} (I:Inv X pins σ H s) (hf:∀b∈ch,rE X pins H b) (k:∀b u,b∉ch->s.heap.get? b=some u->h'.get? b=some u):Inv X pins σ H {s with heap:=h',toks:=t'}:=by
 have nch:∀b u,H b=some u->b∉ch:=fun b u e hb=>by rw[(hf b hb).1] at e;cases e
 refine I.step (g':=s.gens) (d':=s.drawn) (ch:=ch) (fun b hb=>?_) (fun b u _ _ hc e _=>k b u hc e) (fun b u _ _ hc e _=>⟨u.slots,k b u hc e⟩) (fun b u hc e n=>n) (fun b u hc e=>⟨u,k b u hc e⟩)
  (fun b xs e=>e) (fun b ob u e=>e) (fun b ps e=>⟨#[],by rw[e];simp⟩) (fun m hm=>?_) (fun b u e=>?_) I.bare
 ·obtain⟨f0,f1,f2,f3,f4,f5⟩:=hf b hb
  exact⟨f3,f1,f4,f5⟩
 ·obtain⟨ob,es,ep,ho,r⟩:=hm
  exact⟨ob,es,ep,k _ _ (fun z=>(hf _ z).2.1 rfl) ho,r⟩
 ·refine(I.bZ b u e).lH (fun c v hc q=>k c v ?_ q) (fun c q=>q) fun c xs q=>q
  rcases hc with z | z
  ·rw[z];exact nch b u e
  ·exact nch c _ z
def ER:bootBuiltins "enumerate"= some (.type "enumerate"):=by decide +kernel
def NU:bootBuiltins "zip"= some (.type "zip"):=by decide +kernel
def Rw (K:yA) (a:Addr):It:=
 ⟨fun i H=>∃xs x,aG K H a xs/\xs[i]?=some x,fun i H x H'=>∃p v,H p=none/\x=.ref p/\H'=upd H p (.tup [.int (i:Int),v])/\∀xs,aG K H a xs->xs[i]?=some v,fun i H=>∃xs,aG K H a xs/\xs.length<=i⟩
def Ko {P:Program} {w:World} {K:yA} {es:List Expr} {kt:Nat} {tp:Pos} (a it e:Addr) (hne:e≠it) :
  Turn P w K (.Tuple es kt tp) (Rw K a) [e,it] e (fun i h=>(∃old,IsEnum h e it (i:Int) old)/\h.IsListIter it a i) where
 mem:=by simp
 obj:=fun i h st b hb=>by
  obtain⟨⟨old,he⟩,o,e1,c,d⟩:=st;rcases zC.mp hb with z | z
  ·subst z;exact⟨_,he,fun v z=>by cases z⟩
  ·have z':b=it:=by simpa using z
   subst z';exact⟨o,e1,fun v z=>by rw[d] at z;cases z⟩
 keep:=fun i h h' st k=>⟨let ⟨old,he⟩:=st.1;⟨old,k e (by simp) _ he⟩,st.2.at fun o e=>k it (by simp) o e⟩
 item:=by
  intro X hP hw hK hc i pins s σ H E I hf st hg;subst hP hw hK;obtain⟨xs,x,hq,hx⟩:=hg;obtain⟨its,rv,p,hz⟩:=I.list hq;obtain⟨u,hu,ru⟩:=rv.get hx;obtain⟨⟨old,he⟩,hit⟩:=st;refine wpAny_pyNext_enum_item he hit p.isList (x:=u) (by simpa using hu) hne fun g1 ho hit1 hT hsz hk=>?_;refine⟨_,rfl,wpAny_letOwnedTupleGo_enum (s:={s with heap:=g1,toks:=s.toks+1}) ho fun g2 he2 hs2=>?_⟩;have hel:e<↑s:=yx he;have gT:g2.get? ↑s=some {cls:=.type "tuple",data:=.seq #[.int i s.toks,u]}:=hs2.extBut _ _ (yh hel) hT;have I1:Inv X pins σ (upd H ↑s (.tup [.int (i:Int),x])) {s with heap:=g2,toks:=s.toks+1}:=
   I.xD hf (zk _) (fun b ob hb q=>hs2.extBut _ _ (fun z=>hb (by simp[z])) (hk b ob (fun z=>hb (by simp[z])) (fun z=>hb (by simp[z])) q))
    ⟨by show 2<=sizeLine;decide,[.int i s.toks,u],.cons ⟨_,rfl⟩ (.cons ru .nil),⟨_,gT,rfl,_,rfl⟩⟩
  refine⟨.ref ↑s,_,I1,rfl,⟨_,x,I.bZ.fresh (zk _),rfl,rfl,fun ys hy=>by rw[I.sY hy hq];exact hx⟩,⟨⟨_,by simpa using he2⟩,hit1.at fun o q=>hs2.extBut _ _ hne.symm q⟩,fun b hb=>?_⟩;have hb':=(hf b hb).1;obtain⟨o,ho',_⟩:∃o,s.heap.get? b=some o/\True:=by
   rcases zC.mp hb with z | z
   ·subst z;exact⟨_,he,trivial⟩
   ·have z':b=it:=by simpa using z
    subst z';obtain⟨o,e1,_⟩:=hit;exact⟨o,e1,trivial⟩
  rw[aD (yi (yx ho'))];exact hb'
 done:=by
  intro X hP hw hK hc i pins s σ H E I hf st hg;subst hP hw hK;obtain⟨xs,hq,hx⟩:=hg;obtain⟨its,rv,p,hz⟩:=I.list hq;obtain⟨⟨old,he⟩,hit⟩:=st;have hl:=rv.length;exact wpAny_pyNext_enum_end (I.ok.hd hc) he hit p.isList (by simp;omega) fun g1 eb=>⟨rfl,I.turns (t':=s.toks) hf fun b o hb q=>eb b o (fun z=>hb (by simp[z])) q⟩
 self:=fun _ _ _ _ _ st h=>let ⟨_,he⟩:=st.1;wpAny_pyIter_enum he h
def PV (K:yA) (ta:TA):TI:=fun σ H R=>ta σ H fun vs H1=>∃a xs,vs=[.ref a]/\aG K H1 a xs/\R (Rw K a) H1
def xi {a:Expr} {ta:TA} {es:List Expr} {kt:Nat} {tp p pos:Pos} (hg:Gl X "enumerate") (hm:X.mg "enumerate"= none) (ha:PA X [a] ta) (hs:starEach [a] X.env=[(false,eval a X.env)]<|>qe_) :
  PI X (.Tuple es kt tp) (.Call (.Name "enumerate" p) [a] [] pos) (PV X.K ta):=by
 intro pins s σ H R I h;refine Call_ (iA I hg hm ER (yL (cU (ha pos pins s σ H _ I h) fun us s1 ⟨vs,H1,I1,r1,q1⟩=>?_) hs rfl));obtain⟨l,xs,e,hq,q⟩:=q1;subst e;cases r1 with
 | cons r rr=>
  cases rr;cases r;obtain⟨its,rv,pl,hz⟩:=I1.list hq;refine call_enumerate_list pl.isList fun g he hit hsz hk=>?_;refine wpAny_pyIter_enum (s:={s1 with heap:=g}) he ?_;have I2:Inv X pins σ H1 {s1 with heap:=g}:=I1.kept (t':=s1.toks) hk;refine⟨↑s1+1,[↑s1+1,↑s1],_,Rw X.K l,H1,rfl,I2,Ko l ↑s1 (↑s1+1) (yh (Nat.lt_succ_self _)),⟨⟨_,by simpa using he⟩,hit⟩,fun b hb=>?_,q⟩;have hb':↑s1<=b:=by
   rcases zC.mp hb with z | z
   ·subst z;exact Nat.le_succ _
   ·have z':b=↑s1:=by simpa using z
    subst z';exact zk _
  exact I1.uM hb' (I1.bZ.fresh hb')
def Cn (t:Bool) (K:yA) (H:Hp) (a:Addr) (xs:List V):Prop:=match t with
 | true=>dw K H a xs
 | false=>aG K H a xs
def Inv.sq (I:Inv X pins σ H s) (h:Cn t X.K H a xs):∃its:List Value,Vals xs its/\fo t s.heap a its.toArray/\xs.length<=sizeLine:=by
 cases t
 ·obtain⟨its,r,p,z⟩:=I.list h;exact⟨its,r,p.isList,z⟩
 ·obtain⟨its,r,p,z⟩:=I.tuple h;exact⟨its,r,p,z⟩
def Inv.Mq (I:Inv X pins σ H s) (h:Cn t X.K H a xs) (h':Cn t X.K H a ys):xs=ys:=by
 cases t
 ·exact I.sY h h'
 ·exact I.Cv h h'
def fo.lt (x:fo t h a items):a<h.objs.size:=by
 cases t
 ·obtain⟨o,e,_⟩:=x;exact yx e
 ·obtain⟨o,e,_⟩:=x;exact yx e
def Tc (t1 t2:Bool) (K:yA) (a b:Addr):It:=
  ⟨fun i H=>∃xs ys x y,Cn t1 K H a xs/\Cn t2 K H b ys/\xs[i]?=some x/\ys[i]?=some y,
   fun i H x H'=>∃p u v,H p=none/\x=.ref p/\H'=upd H p (.tup [u,v])/\(∀xs,Cn t1 K H a xs->xs[i]?=some u)/\∀ys,Cn t2 K H b ys->ys[i]?=some v,
   fun i H=>∃xs ys,Cn t1 K H a xs/\Cn t2 K H b ys/\(xs.length<=i\/ys.length<=i)⟩
def L7 {P:Program} {w:World} {K:yA} {es:List Expr} {kt:Nat} {tp:Pos} (t1 t2:Bool) (a b z TI TO i1 i2:Addr) (D:LF z TI TO i1 i2) (L1:Bi a z TO i1 i2) (L2:Bi b z TO i1 i2) :
  Turn P w K (.Tuple es kt tp) (Tc t1 t2 K a b) [z,TI,TO,i1,i2] z (fun i h=>Ob t1 t2 h z TI TO i1 i2 a b i .none) where
 mem:=by simp
 obj:=fun i h st c hc=>by
  obtain⟨hz,hi,⟨_,_,ho⟩,h1,h2⟩:=st;simp only[zC,zD,or_false] at hc;rcases hc with e | e | e | e | e
  ·subst e;exact⟨_,hz,fun v q=>by cases q⟩
  ·subst e;exact⟨_,hi,fun v q=>by cases q⟩
  ·subst e;exact⟨_,ho,fun v q=>by cases q⟩
  ·subst e;exact h1.get
  ·subst e;exact h2.get
 keep:=fun i h h' st k=>⟨k z (by simp) _ st.z,k TI (by simp) _ st.ti,let ⟨x,y,e⟩:=st.to;⟨x,y,k TO (by simp) _ e⟩,st.i1.at fun o e=>k i1 (by simp) o e,st.i2.at fun o e=>k i2 (by simp) o e⟩
 item:=by
  intro X hP hw hK hc i pins s σ H E I hf st hg;subst hP hw hK;obtain⟨xs,ys,x,y,hq,hq',hx,hy⟩:=hg;obtain⟨its,rv,p,hz⟩:=I.sq hq;obtain⟨jts,rw',p',hz'⟩:=I.sq hq';obtain⟨u,hu,ru⟩:=rv.get hx;obtain⟨u',hu',ru'⟩:=rw'.get hy;refine Fp D L1 L2 st p p' (x:=u) (y:=u') (by simpa using hu) (by simpa using hu') fun g1 S1 hT hk=>?_;refine⟨_,rfl,wpAny_letOwnedTupleGo_zip (s:={s with heap:=g1}) S1.z fun g2 z2 hs2=>?_⟩;have zl:z<↑s:=yx st.z;have gT:g2.get? ↑s=some {cls:=.type "tuple",data:=.seq #[u,u']}:=hs2.extBut _ _ (yh zl) hT;have I1:Inv X pins σ (upd H ↑s (.tup [x,y])) {s with heap:=g2}:=
   I.xD (t':=s.toks) hf (zk _) (fun c ob hb q=>hs2.extBut _ _ (fun e=>hb (by simp[e])) (hk c ob (fun e=>hb (by simp[e])) (fun e=>hb (by simp[e])) (fun e=>hb (by simp[e])) (fun e=>hb (by simp[e])) q))
    ⟨by show 2<=sizeLine;decide,[u,u'],.cons ru (.cons ru' .nil),⟨_,gT,rfl,_,rfl⟩⟩
  refine⟨.ref ↑s,_,I1,rfl,⟨_,x,y,I.bZ.fresh (zk _),rfl,rfl,fun zs h=>by rw[I.Mq h hq];exact hx,fun zs h=>by rw[I.Mq h hq'];exact hy⟩,⟨z2,hs2.extBut _ _ D.a1 S1.ti,let ⟨x,y,e⟩:=S1.to;⟨x,y,hs2.extBut _ _ D.a2 e⟩,S1.i1.but hs2 D.a3,S1.i2.but hs2 D.a4⟩,fun c hc=>?_⟩;have hb':=(hf c hc).1;obtain⟨o,ho',_⟩:∃o,s.heap.get? c=some o/\True:=by
   obtain⟨hz,hi,⟨_,_,ho⟩,⟨q1,e1,_⟩,⟨q2,e2,_⟩⟩:_/\_/\_/\_/\_:=⟨st.z,st.ti,st.to,st.i1.get,st.i2.get⟩
   simp only[zC,zD,or_false] at hc;rcases hc with e | e | e | e | e
   ·subst e;exact⟨_,hz,trivial⟩
   ·subst e;exact⟨_,hi,trivial⟩
   ·subst e;exact⟨_,ho,trivial⟩
   ·subst e;exact⟨_,e1,trivial⟩
   ·subst e;exact⟨_,e2,trivial⟩
  rw[aD (yi (yx ho'))];exact hb'
 done:=by
  intro X hP hw hK hc i pins s σ H E I hf st hg;subst hP hw hK;obtain⟨xs,ys,hq,hq',hx⟩:=hg;obtain⟨its,rv,p,hz⟩:=I.sq hq;obtain⟨jts,rw',p',hz'⟩:=I.sq hq';have hl:=rv.length;have hl':=rw'.length;refine Fn (I.ok.hd hc) D L1 L2 st p p' ?_ fun g1 eb=>⟨rfl,I.turns (t':=s.toks) hf fun c o hb q=>eb c o (fun e=>hb (by simp[e])) (fun e=>hb (by simp[e])) (fun e=>hb (by simp[e])) (fun e=>hb (by simp[e])) q⟩
  rcases hx with h | h
  ·exact .inl (by simp;omega)
  ·exact .inr (by simp;omega)
 self:=fun _ _ _ _ _ st h=>wpAny_pyIter_zip st.z h
def Ud (K:yA) (ta:TA):TI:=fun σ H R=>ta σ H fun vs H1=>∃t1 t2 a b xs ys,vs=[.ref a,.ref b]/\Cn t1 K H1 a xs/\Cn t2 K H1 b ys/\R (Tc t1 t2 K a b) H1
def MU {a b:Expr} {ta:TA} {es:List Expr} {kt:Nat} {tp p pos:Pos} (hg:Gl X "zip") (hm:X.mg "zip"= none) (ha:PA X [a,b] ta)
  (hs:starEach [a,b] X.env=[(false,eval a X.env),(false,eval b X.env)]<|>qe_) (hs2:starEach [b] X.env=[(false,eval b X.env)]<|>qe_) :
  PI X (.Tuple es kt tp) (.Call (.Name "zip" p) [a,b] [] pos) (Ud X.K ta):=by
 intro pins s σ H R I h;refine Call_ (iA I hg hm NU (yL (cU (ha pos pins s σ H _ I h) fun us s1 ⟨vs,H1,I1,r1,q1⟩=>?_) (by rw[hs,hs2]) (by rw[hs2];rfl)));obtain⟨t1,t2,a,b,xs,ys,e,hq,hq',q⟩:=q1;subst e;cases r1 with
 | cons r rr=>
  cases rr with
  | cons r' rr=>
   cases rr;cases r;cases r';obtain⟨its,rv,pl,hz⟩:=I1.sq hq;obtain⟨jts,rv',pl',hz'⟩:=I1.sq hq';have la:=pl.lt;have lb:=pl'.lt;refine Fq pl pl' fun g S hk=>?_;refine wpAny_pyIter_zip (s:={s1 with heap:=g}) S.z ?_;have I2:Inv X pins σ H1 {s1 with heap:=g}:=I1.kept (t':=s1.toks) hk;have D:LF (↑s1+4) (↑s1+2) (↑s1+3) ↑s1 (↑s1+1):=by
    constructor <;> (show _≠(_:Nat)) <;> omega
   have L:∀c,c<↑s1->Bi c (↑s1+4) (↑s1+3) ↑s1 (↑s1+1):=fun c hc=>by
    constructor <;> (show _≠(_:Nat)) <;> omega
   refine⟨↑s1+4,[_,_,_,_,_],_,Tc t1 t2 X.K a b,H1,rfl,I2,L7 t1 t2 a b _ _ _ _ _ D (L a la) (L b lb),S,fun c hc=>?_,q⟩;have hb':↑s1<=c:=by
    simp only[zC,zD,or_false] at hc;rcases hc with e | e | e | e | e <;> (subst e;first | exact Nat.le_add_right _ _ | exact zk _)
   exact I1.uM hb' (I1.bZ.fresh hb')
def DR (bs:List Bool):((List.range bs.length).all fun i=>(bs[i]?).getD true)=bs.all id:=by
 rw[Bool.eq_iff_iff,yo,yo];constructor
 ·intro h b hb
  obtain⟨i,hi,e⟩:=List.mem_iff_getElem.mp hb;have:=h i (List.mem_range.mpr hi);rw[zb hi,e] at this;exact this
 ·intro h i hi
  have hi':=List.mem_range.mp hi;rw[zb hi'];exact h _ (yk hi')
def pz (hc:X.calm=true):fB X (.builtin "all") (fun xs H Q=>∃(a:Addr) (bs:List Bool),xs=[.ref a]/\aG X.K H a (bs.map V.bl)/\Q (.bl (bs.all id)) H):=by
 intro pins s σ H xs us Q I r h;obtain⟨a,bs,e,hq,q⟩:=h;subst e;cases r with
 | cons r rr=>
  cases rr;cases r;obtain⟨its,rv,p,hz⟩:=I.list hq;have hlt:a<↑s:=by obtain⟨o,n,e,_⟩:=p;exact yx e
  have hlen:bs.length=its.length:=by have:=rv.length;rw[za] at this;exact this
  refine call_all_walk (wpAny_pyIter_list p.isList ?_);refine⟨↑s,[↑s,a],[↑s],its.toArray.size,_,_,fun i=>(bs[i]?).getD true,rfl,Walks.list (A:=X.A.in1) (I.ok.hd hc) _ a (yi hlt) its.toArray,
   ⟨⟨_,yw _ rfl,rfl,rfl⟩,p.isList.push _⟩,fun i v s' Q' E' hP hQ=>?_,fun h' tk hk=>?_⟩
  ·have hP':its[i]?=some v:=by simpa using hP
   have hi:i<bs.length:=by rw[hlen];exact(zw.mp hP').1
   have hm:(bs.map V.bl)[i]?=some (.bl bs[i]):=by rw[zJ,zb hi];rfl
   obtain⟨u,hu,ru⟩:=rv.get hm;rw[hP'] at hu;cases hu;cases ru;dsimp only at hQ;rw[zb hi] at hQ;exact wpAny_truthy_bool hQ
  ·have e:((List.range its.toArray.size).all fun i=>(bs[i]?).getD true)=bs.all id:=by rw[ya,<-hlen];exact DR bs
   rw[e];exact⟨.bl _,H,I.kept fun b o x=>hk b o (fun hm=>by rw[zy.mp hm] at x;exact ye _ (yx x)) (yu _ x),rfl,q⟩
end
section
variable {X:Cx} {pos:Pos}
end
inductive Ty where
 | bH | bl | int | str | tup | lst | SA
def Ty.name:Ty->String
 | .bH=> "NoneType" | .bl=> "bool" | .int=> "int" | .str=> "str" | .tup=> "tuple" | .lst=> "list" | .SA=> "dict"
def tag (H:Hp):V->Option Ty
 | .bH=>some .bH
 | .bl _=>some .bl
 | .int _=>some .int
 | .str _=>some .str
 | .ref a=>match H a with
  | some (.tup _)=>some .tup
  | some (.lst _)=>some .lst
  | some (.nF _ (.lst _))=>some .lst
  | some (.dK _)=>some .SA
  | some (.dT _)=>some .SA
  | _=>none
 | _=>none
def Oh {H:Hp} {a:Addr} {xs:List V} (h:H a=some (.tup xs)):tag H (.ref a)=some .tup:=by simp only[tag,h]
def Qi {K:yA} {H:Hp} {x:V} {n:Ty} (h:tag H x=some n):vc K H x (.type n.name):=by
 cases x with
 | bH=>cases h;exact .bH
 | bl b=>cases h;exact .bl b
 | int i=>cases h;exact .int i
 | str y=>cases h;exact .str y
 | J8 _=>cases h
 | O4 _=>cases h
 | ty _=>cases h
 | ref a=>
  simp only[tag] at h;split at h
  ·cases h;exact .tup ‹_›
  ·cases h;exact .lst ‹_›
  ·cases h;exact .nF ‹_›
  ·cases h;exact .dK ‹_›
  ·cases h;exact .dT ‹_›
  ·cases h
def Ty.sub:Ty->Ty->Bool
 | .bl,.bl=>true | .int,.int=>true | .str,.str=>true | .tup,.tup=>true | .lst,.lst=>true | .SA,.SA=>true | .bH,.bH=>true
 | .bl,.int=>true
 | _,_=>false
def OZ (K:yA) (a b:Ty):PySem.W.kitOne K (.type a.name) (.type b.name)=some (a.sub b):=by
 cases a <;> cases b <;> first | rfl | decide +kernel | kernel_rfl
def TN (c:Ty) (ta:TE):TE:=fun σ H Q=>ta σ H fun x H1=>∃n,tag H1 x=some n/\Q (.bl (n.sub c)) H1
section
variable {X:Cx}
def DT (c:Ty) (hx:bootBuiltins x=some (.type c.name)) (ha:PE X a ta) (hm:X.mg "isinstance"= none) (hm2:X.mg x=none)
  (hg:Gl X "isinstance"<|>qe_) (hg2:Gl X x<|>qe_) (hn:x≠ "__name__"<|>qb_) (hd:(x == ("__debug__": Str))=false<|>qb_)
  (hs:starEach [a,.Name x p2] X.env=(false,eval a X.env)::starEach [.Name x p2] X.env<|>qe_) (hs2:starEach [.Name x p2] X.env=[(false,eval (.Name x p2) X.env)]<|>qe_) :
  PE X (.Call (.Name "isinstance" p1) [a,.Name x p2] [] pos) (TN c ta):=by
 have hc:fB X (.builtin "isinstance") (fun xs H Q=>∃v n,xs=[v,.ty c.name]/\tag H v=some n/\Q (.bl (n.sub c)) H):=by
  intro pins s σ H xs us Q I r h;obtain⟨v,n,e,ht,q⟩:=h;subst e;cases r with
  | cons r rr=>
   cases rr with
   | cons r' rr=>
    cases rr;cases r';exact K2 I r (Qi ht) (OZ _ _ _) fun tk=>⟨.bl _,H,I.tok tk,rfl,q⟩
 have hb:PE X (.Name x p2) (tC (.ty c.name)):=ON (u:=.type c.name) hg2 hm2 hx rfl hn hd;have ht:=F9 (p:=p1) (pos:=pos) hc hg hm (by decide +kernel) (ah ha (ah hb af hs2) hs) (he:=hs) (hpl:=by rw[hs2];rfl);intro pins s σ H Q I h;have mono:ta σ H (fun x H1=>∃n,tag H1 x=some n/\Q (.bl (n.sub c)) H1)->Kr (fun xs H Q=>∃v n,xs=[v,.ty c.name]/\tag H v=some n/\Q (.bl (n.sub c)) H) (bC ta (bC (tC (.ty c.name)) eK)) σ H Q:=fun z=>by
  show ta σ H fun x H1=>∃v n,[x,V.ty c.name]=[v,.ty c.name]/\tag H1 v=some n/\Q (.bl (n.sub c)) H1;have e:(fun x H1=>∃n,tag H1 x=some n/\Q (.bl (n.sub c)) H1)=(fun(x:V) (H1:Hp)=>∃v n,[x,V.ty c.name]=[v,V.ty c.name]/\tag H1 v=some n/\Q (.bl (n.sub c)) H1):=by
   funext x H1
   apply propext;constructor
   ·rintro⟨n,h1,h2⟩;exact⟨x,n,rfl,h1,h2⟩
   ·rintro⟨v,n,e,h1,h2⟩;cases e;exact⟨n,h1,h2⟩
  rw[<-e];exact z
 exact ht pins s σ H Q I (mono h)
end
inductive Dt where
 | bH | bl (b:Bool) | int (i:Int) | str (x:Str) | tup (l:List Dt)
mutual
def Is (H:Hp):Dt->V->Prop
 | .bH,v=>v=.bH
 | .bl b,v=>v=.bl b
 | .int i,v=>v=.int i
 | .str x,v=>v=.str x
 | .tup l,v=>∃a vs,v=.ref a/\H a=some (.tup vs)/\ay H l vs
def ay (H:Hp):List Dt->List V->Prop
 | [],vs=>vs=[]
 | d::l,vs=>∃v r,vs=v::r/\Is H d v/\ay H l r
end
mutual
theorem Is.mono (s:au H H'):∀{d:Dt} {v:V},Is H d v->Is H' d v
 | .bH,_,h=>by unfold Is at h ⊢;exact h
 | .bl _,_,h=>by unfold Is at h ⊢;exact h
 | .int _,_,h=>by unfold Is at h ⊢;exact h
 | .str _,_,h=>by unfold Is at h ⊢;exact h
 | .tup l,_,h=>by
  unfold Is at h ⊢;obtain⟨a,vs,e,ha,hl⟩:=h;exact⟨a,vs,e,s _ _ ha,ay.mono s hl⟩
theorem ay.mono (s:au H H'):∀{l:List Dt} {vs:List V},ay H l vs->ay H' l vs
 | [],_,h=>by unfold ay at h ⊢;exact h
 | d::l,_,h=>by
  unfold ay at h ⊢;obtain⟨v,r,e,hv,hr⟩:=h;exact⟨v,r,e,Is.mono s hv,ay.mono s hr⟩
end
theorem ay.len:∀{l:List Dt} {vs:List V},ay H l vs->vs.length=l.length
 | [],_,h=>by unfold ay at h;rw[h];rfl
 | d::l,_,h=>by
  unfold ay at h;obtain⟨v,r,e,_,hr⟩:=h;rw[e,zt,zt,ay.len hr]
theorem ay.get:∀{l:List Dt} {vs:List V} {i:Nat} {v:V},ay H l vs->vs[i]?=some v->∃d,l[i]?=some d/\Is H d v
 | [],_,i,v,h,e=>by unfold ay at h;rw[h] at e;simp at e
 | d::l,_,i,v,h,e=>by
  unfold ay at h;obtain⟨u,r,e1,hv,hr⟩:=h;subst e1;cases i with
  | zero=>simp at e;subst e;exact⟨d,rfl,hv⟩
  | succ i=>
   obtain⟨d',h1,h2⟩:=ay.get (i:=i) hr (by simpa using e);exact⟨d',by simpa using h1,h2⟩
def au.kB (e:upd H p o=H') (h:H p=none):au H H':=e▸aR h
def kI (e:upd H p o=H'):H' p=some o:=e▸aA
def ck {c:Bool} {A B:Prop} (h:c=true) (q:A):if c=true then A else B:=by rw[if_pos h];exact q
def cE {c:Bool} {A B:Prop} (h:c=false) (q:B):if c=true then A else B:=by rw[if_neg (by rw[h];decide)];exact q
def cx:[a,b].length<=sizeLine:=by show 2<=sizeLine;decide
def nQ:[a,b,c].length<=sizeLine:=by show 3<=sizeLine;decide
def iV (h:H p=some (.tup [.int a,.int b])):Is H (.tup [.int a,.int b]) (.ref p):=by
 unfold Is;exact⟨p,_,rfl,h,by simp only[ay,Is];exact⟨_,_,rfl,rfl,_,_,rfl,rfl,rfl⟩⟩
def tF {K:yA} {a:Addr} {xs:List V} {g:TG} {tb:TS} {D:Ends} {σ:St} {H:Hp} (Pv:Nat->St->Hp->Prop) (h0:Pv 0 σ H) (hl:∀i σ H,i<=xs.length->Pv i σ H->aG K H a xs)
  (hs:∀i x σ H p H',xs[i]?=some x->Pv i σ H->au H H'->H' p=some (.tup [.int (i:Int),x])->g (.ref p) σ H' fun σ2 H2=>tb {D with nx:=Pv (i+1),ct:=Pv (i+1),bk:=D.nx} σ2 H2) (hd:∀σ H,Pv xs.length σ H->D.nx σ H) :
  ∃W:Nat->Nat->St->Hp->Prop,(∃m,W 0 m σ H)/\∀i m σ H,W i m σ H->
   ((Rw K a).stop i H/\D.nx σ H)\/((Rw K a).go i H/\∃N:St->Hp->Prop,(∀σ' H',N σ' H'->∃m',m'<m/\W (i+1) m' σ' H')/\∀x H',(Rw K a).Jz i H x H'->g x σ H' fun σ2 H2=>tb {D with nx:=N,ct:=N,bk:=D.nx} σ2 H2):=by
 refine⟨fun i m σ H=>m=xs.length-i/\i<=xs.length/\Pv i σ H,⟨xs.length,by simp,yf _,h0⟩,?_⟩;rintro i m σ H ⟨rfl,hi,p⟩;have q:=hl i σ H hi p
 by_cases hlt:i<xs.length
 ·refine .inr ⟨⟨xs,xs[i],q,by simp[hlt]⟩,Pv (i+1),fun σ' H' p'=>⟨xs.length-(i+1),nofun,rfl,hlt,p'⟩,fun x H' y=>?_⟩
  obtain⟨pp,v,hp,e1,e2,y⟩:=y;subst e1 e2;exact hs i v σ H pp _ (y xs q) p (aR hp) aA
 ·have e:i=xs.length:=nofun
  subst e;exact .inl ⟨⟨xs,q,zk _⟩,hd σ H p⟩
section
variable {X:Cx} {pos:Pos}
def Inv.Sf (I2:Inv X pins σ2 H2 s2) (hC:↑s2<=C) (I:Inv X pins σ H s) (hn:H C=none) (hs:Heap.SameBut C s.heap h'):Inv X pins σ H {s with heap:=h'}:=by
 obtain⟨f0,f1,f2,f3,f4,f5⟩:=I2.uM hC hn;exact I.turned (t':=s.toks) (fun b o hb e=>hs.extBut b o hb e) f0 f1 f3 f4 f5
end
section
variable {X:Cx} {pins:List (Addr×Obj)} {σ:St} {H:Hp} {s:Shared}
def Sz (n:Nat) (i:Int):Prop:=i.natAbs<2^n
def Sz.mono (h:Sz n i) (k:n<=m):Sz m i:=yb h (Nat.pow_le_pow_right ∅ k)
def Sz.mul (h:Sz n i) (k:Sz m j):Sz (n+m) (i*j):=by
 unfold Sz at *;rw[Int.natAbs_mul,Nat.pow_add];exact Nat.mul_lt_mul'' h k
def Sz.add (h:Sz n i) (k:Sz n j):Sz (n+1) (i+j):=by
 unfold Sz at *;have:=Int.natAbs_add_le i j;rw[Nat.pow_succ];omega
def Sz.le (h:Sz n j) (h0:0<=i) (hl:i<=j):Sz n i:=by
 unfold Sz at *;have:i.natAbs<=j.natAbs:=nofun
 omega
def Sz.bits (h:Sz n i):Builtin.Int.intBits i<=n:=by
 unfold Builtin.Int.intBits;split
 ·exact yf _
 ·rename_i hz
  have:i.natAbs≠0:=by
   intro e;have:i=0:=Int.natAbs_eq_zero.mp e;subst this;exact hz rfl
  have:=(Nat.log2_lt this).mpr h;omega
def SN (i j:Int):Prop:=Sz 20000 i/\Sz 20000 j
def SO (_ j:Int):Prop:=0<j/\Sz 8999 j
def sP:pB X (binaryOp .Mult) (rI SN fun i j=>.int (i*j)):=RB fun _ _ _ _ _ _ _ hc q=>mul_int q (.of_bits (zL hc.1.bits ∅) (zL hc.2.bits ∅))
def sQ:pB X (binaryOp .FloorDiv) (rI SO fun i j=>.int (i/j)):=RB fun i j _ _ _ _ _ hc q=>by
 have h1:(0:Int)<j:=hc.1;refine floordiv_int nofun (by rw[Int.fdiv_eq_ediv_of_nonneg i nofun];exact q) (.inl (PyProof.noPylong_of_log2 ?_));have h2:j.natAbs<2^8999:=hc.2;have h3:j.natAbs≠0:=nofun
 exact Nat.lt_trans ((Nat.log2_lt h3).mpr h2) ∅
def NX {ns:List Int} {j:Int} (h0:0<=j) (h1:j<ns.length):Dd (ns.map V.int) j=some (.int (ns.getD j.toNat 0)):=by
 obtain⟨k,rfl⟩:=yK h0;refine bx ?_;have hk:k<ns.length:=nofun
 rw[zJ,zb hk];simp[List.getD,hk]
def RC (K:yA) (a:Addr) (n:Nat):It:=
 ⟨fun i H=>∃xs,aG K H a xs/\xs.length=n/\i<n,fun i H x H'=>H'=H/\∀xs,aG K H a xs->xs[n-1-i]?=some x,fun i _=>i=n⟩
def L9 {P:Program} {w:World} {K:yA} {tg:Expr} (a it:Addr) (n:Nat):Turn P w K tg (RC K a n) [it] it (fun i h=>i<=n/\h.IsRevIter it a ((n:Int)-1-i)) where
 mem:=by simp
 obj:=fun i h st b hb=>by
  have e:b=it:=by simpa using hb
  subst e;obtain⟨o,e,c,d⟩:=st.2;exact⟨o,e,fun v z=>by rw[d] at z;cases z⟩
 keep:=fun i h h' st k=>⟨st.1,st.2.at fun o e=>k it (by simp) o e⟩
 item:=by
  intro X hP hw hK hc i pins s σ H E I hf st hg;subst hP hw hK;obtain⟨xs,hq,hn,hi⟩:=hg;obtain⟨its,rv,p,hz⟩:=I.list hq;have hx:xs[n-1-i]?=some xs[n-1-i]:=zb nofun;obtain⟨u,hu,ru⟩:=rv.get hx;have st':s.heap.IsRevIter it a ((n-1-i:Nat):Int):=by
   have e:(n:Int)-1-i=((n-1-i:Nat):Int):=nofun
   rw[<-e];exact st.2
  refine wpAny_pyNext_rev_item st' p.isList (x:=u) (by simpa using hu) fun h' st2 sb=>?_;have I1:Inv X pins σ H {s with heap:=h'}:=I.turns (t':=s.toks) hf fun b o hb e=>sb.extBut b o (fun z=>hb (by simp[z])) e;obtain⟨o,e,c,d⟩:=id st2;refine⟨u,rfl,Au (s:={s with heap:=h'}) e c d ∅ ⟨xs[n-1-i],H,I1,ru,⟨rfl,fun ys hy=>by rw[I.sY hy hq];exact hx⟩,⟨nofun,?_⟩,fun b hb=>(hf b hb).1⟩⟩;have e2:(n:Int)-1-((i+1:Nat):Int)=((n-1-i:Nat):Int)-1:=nofun
  rw[e2];exact st2
 done:=by
  intro X hP hw hK hc i pins s σ H E I hf st hg;subst hP hw hK;have hi:i=n:=hg;have st':s.heap.IsRevIter it a (-1):=by
   have e:(n:Int)-1-i=-1:=nofun
   rw[<-e];exact st.2
  exact wpAny_pyNext_rev_end (I.ok.hd hc) st' fun h' eb=>⟨rfl,I.turns (t':=s.toks) hf fun b o hb e=>eb b o (fun z=>hb (by simp[z])) e⟩
 self:=fun _ _ _ _ _ st h=>wpAny_pyIter_revIter st.2 h
def Uh (K:yA) (ta:TA):TI:=fun σ H R=>ta σ H fun vs H1=>∃a xs,vs=[.ref a]/\aG K H1 a xs/\R (RC K a xs.length) H1
def Hk:bootBuiltins "reversed"= some (.type "reversed"):=by decide +kernel
def QI {tg a:Expr} {ta:TA} {p pos:Pos} (hg:Gl X "reversed") (hm:X.mg "reversed"= none) (ha:PA X [a] ta) (hs:starEach [a] X.env=[(false,eval a X.env)]<|>qe_) :
  PI X tg (.Call (.Name "reversed" p) [a] [] pos) (Uh X.K ta):=by
 intro pins s σ H R I h;refine Call_ (iA I hg hm Hk (yL (cU (ha pos pins s σ H _ I h) fun us s1 ⟨vs,H1,I1,r1,q1⟩=>?_) hs rfl));obtain⟨l,xs,e,hq,q⟩:=q1;subst e;cases r1 with
 | cons r rr=>
  cases rr;cases r;obtain⟨its,rv,pl,hz⟩:=I1.list hq;have hlen:=rv.length;refine call_reversed_list pl.isList ?_;have I2:Inv X pins σ H1 {s1 with heap:=s1.heap.push (revObj l ((its.toArray.size:Int)-1))}:=I1.kept (t':=s1.toks) fun b o e=>yu _ e;have st:(s1.heap.push (revObj l ((its.toArray.size:Int)-1))).IsRevIter ↑s1 l ((xs.length:Int)-1-((0:Nat):Int)):=by
   have e:(xs.length:Int)-1-((0:Nat):Int)=(its.toArray.size:Int)-1:=by rw[ya,hlen];omega
   rw[e];exact⟨_,yw _ rfl,rfl,rfl⟩
  refine wpAny_pyIter_revIter (s:={s1 with heap:=s1.heap.push (revObj l ((its.toArray.size:Int)-1))}) st ?_;refine⟨↑s1,[↑s1],_,RC X.K l xs.length,H1,rfl,I2,L9 l ↑s1 xs.length,⟨yf _,st⟩,fun b hb=>?_,q⟩;have e:b=↑s1:=by simpa using hb
  subst e;exact I1.uM (zk _) (I1.bZ.fresh (zk _))
end
def O3 {K:yA} {a:Addr} {xs:List V} {g:TG} {tb:TS} {D:Ends} {σ:St} {H:Hp} (Pv:Nat->St->Hp->Prop) (h0:Pv 0 σ H) (hl:∀i σ H,i<=xs.length->Pv i σ H->aG K H a xs)
  (hs:∀i x σ H,i<xs.length->xs[xs.length-1-i]?=some x->Pv i σ H->g x σ H fun σ2 H2=>tb {D with nx:=Pv (i+1),ct:=Pv (i+1),bk:=D.nx} σ2 H2) (hd:∀σ H,Pv xs.length σ H->D.nx σ H) :
  ∃W:Nat->Nat->St->Hp->Prop,(∃m,W 0 m σ H)/\∀i m σ H,W i m σ H->
   ((RC K a xs.length).stop i H/\D.nx σ H)\/((RC K a xs.length).go i H/\∃N:St->Hp->Prop,(∀σ' H',N σ' H'->∃m',m'<m/\W (i+1) m' σ' H')/\∀x H',(RC K a xs.length).Jz i H x H'->g x σ H' fun σ2 H2=>tb {D with nx:=N,ct:=N,bk:=D.nx} σ2 H2):=by
 refine⟨fun i m σ H=>m=xs.length-i/\i<=xs.length/\Pv i σ H,⟨xs.length,by simp,yf _,h0⟩,?_⟩;rintro i m σ H ⟨rfl,hi,p⟩;have q:=hl i σ H hi p
 by_cases hlt:i<xs.length
 ·refine .inr ⟨⟨xs,q,rfl,hlt⟩,Pv (i+1),fun σ' H' p'=>⟨xs.length-(i+1),nofun,rfl,hlt,p'⟩,fun x H' y=>?_⟩
  obtain⟨e,y⟩:=y;subst e;exact hs i x σ _ hlt (y xs q) p
 ·have e:i=xs.length:=nofun
  subst e;exact .inl ⟨rfl,hd σ H p⟩
section
variable {X:Cx} {pos:Pos}
def PL (K:yA):R2:=fun x y H Q=>∃l b xs zs,x=.ref l/\y=.ref b/\aG K H l xs/\aG K H b zs/\xs.length+zs.length<=sizeLine/\∀p,H p=none->Q (.ref p) (upd H p (.lst (xs++zs)))
def gO:pB X (binaryOp .Add) (PL X.K):=by
 intro pins s σ H x y v u Q I rx ry h;obtain⟨l,b,xs,zs,rfl,rfl,hH,hB,hz,q⟩:=h;cases rx;cases ry;obtain⟨its,r,p,z⟩:=I.list hH;obtain⟨jts,r',p',z'⟩:=I.list hB;have l1:=r.length;have l2:=r'.length;obtain⟨⟨cls,dd,data,sl⟩,ho,hc,n,hd⟩:=id p.isList;obtain⟨⟨cls2,dd2,data2,sl2⟩,ho2,hc2,n2,hd2⟩:=id p'.isList;simp only at hc hd hc2 hd2;subst hc hd hc2 hd2;refine concat_meets ⟨_,ho,rfl⟩ ⟨_,ho2,rfl⟩ noFill_list_add seq_list_add PySem.F.slot_list_add PySem.F.entry_list_add (PySem.F.args_list_add_2 _ _) (list_addW l b its.toArray jts.toArray n n2 dd dd2 sl sl2 (by rw[ya,ya];omega)) ⟨ho,ho2,?_⟩;have ea:its.toArray++jts.toArray=(its++jts).toArray:=by simp
 rw[ea];exact⟨.ref _,_,I.Se (t':=s.toks) (r.append r') (by rw[zg];omega),rfl,q _ I.fresh⟩
end
def Bk (n:Nat) (x:Int×Int):Prop:=Sz n x.1/\Sz n x.2
theorem Bk.red (ht:0<=t) (hb:0<b) (h1:Sz n t) (h2:Sz n b):Bk n (Lm.red t b):=by
 obtain⟨g,g0,_,_,p,l⟩:=Lm.lP (t:=t) hb;exact⟨h1.le (Lm.yW ht) (Lm.yX ht),h2.le (Int.le_of_lt p) l⟩
theorem Bk.add (hx:Lm.Rd x) (hy:Lm.Rd y) (h:Bk n x) (k:Bk m y):Bk (n+m+1) (Lm.add x y):=by
 obtain⟨a,b,_⟩:=hx.pos;obtain⟨c,d,_⟩:=hy.pos;refine Bk.red (Int.add_nonneg (Int.mul_nonneg a nofun) (Int.mul_nonneg c nofun)) (Int.mul_pos b d) ?_ ((h.2.mul k.2).mono nofun);refine Sz.add (h.1.mul k.2) ?_;have:=k.1.mul h.2;rw[Nat.add_comm] at this;exact this
def dec (n:Int):Str:=Str.ofString (toString n)
def lG {x y:Str} (h:x.cps.toList=y.cps.toList):x=y:=by
 cases x;cases y;simp only[Str.mk.injEq];exact Array.toList_inj.mp h
def cJ (x y:Str):(x++y).cps.toList=x.cps.toList++y.cps.toList:=Array.toList_append ..
def len_app (x y:Str):(x++y).length=x.length+y.length:=Array.size_append ..
def Lv (x y z:Str):x++y++z=x++(y++z):=lG (by rw[cJ,cJ,cJ,cJ,zE])
def xw (m:Nat):(dec (m:Int)).cps.toList=(Nat.toDigits 10 m).map Char.toNat:=PySem.W.KIN.signs_num m
def Es (m:Nat):(dec (m:Int)).length=(Nat.toDigits 10 m).length:=by
 have h:=congrArg List.length (xw m);rw[za,Array.length_toList] at h;exact h
def Pa (h:c∈(Nat.toDigits 10 m).map Char.toNat):48<=c/\c<=57:=by
 obtain⟨ch,hc,e⟩:=zG.mp h;have r:=Nat.isDigit_of_mem_toDigits ∅ ∅ hc;rw[<-e];simp only[Char.isDigit,zN,decide_eq_true_eq] at r;exact⟨r.1,r.2⟩
section
variable {X:Cx}
end
section
variable {X:Cx}
def QD:V->Option Int->Option Int->Hp->VK->Prop:=fun x lo hi H Q=>∃t:Str,x=.str t/\t.length<=sizeLine/\Q (.str (PySem.Txt.slice t lo hi)) H
def HZ:N2 X QD:=by
 intro pins s σ H x v vl vu lo hi sl Q I rx hs pl pu h;obtain⟨t,rfl,hz,q⟩:=h;obtain⟨tk,rfl⟩:=rx;obtain⟨o,ho,hc,hd⟩:=hs;have fin:∀(l u:Option (Int×Tok)),l.map (·.1)=lo->u.map (·.1)=hi->partValue l=vl->partValue u=vu->
   ∃T id,typeLookup (.type T) "__getitem__"= pure (some (.builtin id))/\s.TypeIs (.str t tk) T/\wpAny (model X.prog X.w) X.A (getItem (.str t tk) (.ref sl)) (EP X pins σ Q) X.xe s:=by
  intro l u e1 e2 e3 e4;subst e1 e2 e3 e4;exact⟨"str",_,F.slot_str_getitem.lookup,typeIs_str _ _ _,wpAny_getItem_str_slice (l:=l) (u:=u) (st:=none) ⟨o,ho,hc,hd⟩ rfl
   (post_val_or_str ⟨zL (PySem.Txt.slice_le t _ _) hz,fun t' k=>⟨.str _,H,I.tok _,⟨_,rfl⟩,q⟩⟩)⟩
 cases pl with
 | none=>
  cases pu with
  | none=>exact fin none none rfl rfl rfl rfl
  | int j tj=>exact fin none (some (j,tj)) rfl rfl rfl rfl
 | int i ti=>
  cases pu with
  | none=>exact fin (some (i,ti)) none rfl rfl rfl rfl
  | int j tj=>exact fin (some (i,ti)) (some (j,tj)) rfl rfl rfl rfl
def SJ (x:Str):It:=⟨fun i _=>i<x.length,fun i H v H'=>H'=H/\∃c,x.cps[i]?=some c/\v=.str ⟨#[c]⟩,fun i _=>x.length<=i⟩
def L8 {P:Program} {w:World} {K:yA} {tg:Expr} (x:Str) (t:Tok) (it:Addr) (ty:String) (hty:ty ="str_ascii_iterator"\/ty ="str_iterator"):Turn P w K tg (SJ x) [it] it (fun i h=>i<=x.length/\h.IsStrIter it ty x t i) where
 mem:=by simp
 obj:=fun i h st b hb=>by
  have e:b=it:=by simpa using hb
  subst e;obtain⟨_,o,e,c,d⟩:=st;exact⟨o,e,fun v z=>by rw[d] at z;cases z⟩
 keep:=fun i h h' st k=>⟨st.1,let ⟨o,ho,r⟩:=st.2;⟨o,k it (by simp) o ho,r⟩⟩
 item:=by
  intro X hP hw hK hc i pins s σ H E I hf st hg;subst hP hw hK;have W:Walks X.prog X.w X.A it [it] [it] x.cps.size (SignAt x) (fun i h=>h.IsStrIter it ty x t i):=by
   rcases hty with rfl | rfl
   ·exact Walks.strAscii (I.ok.hd hc) it x t
   ·exact Walks.strWide (I.ok.hd hc) it x t
  refine W.item i s _ _ hg st.2 fun v h' tk hv z' kk=>?_;obtain⟨c,u,hcx,rfl⟩:=hv;have I1:Inv X pins σ H {s with heap:=h',toks:=tk}:=I.turns hf fun b o hb e=>kk b o (by simpa using hb) e;obtain⟨o,e,cc,d⟩:=id z';have hgl:i<x.length:=hg;refine⟨_,rfl,Au (s:={s with heap:=h',toks:=tk}) (n:=ty) e cc d ?_ ⟨.str ⟨#[c]⟩,H,I1,⟨u,rfl⟩,⟨rfl,c,hcx,rfl⟩,⟨hgl,z'⟩,fun b hb=>(hf b hb).1⟩⟩;rcases hty with rfl | rfl <;> decide
 done:=by
  intro X hP hw hK hc i pins s σ H E I hf st hg;subst hP hw hK;have hi:i=x.cps.size:=Nat.le_antisymm st.1 hg;subst hi;have W:Walks X.prog X.w X.A it [it] [it] x.cps.size (SignAt x) (fun i h=>h.IsStrIter it ty x t i):=by
   rcases hty with rfl | rfl
   ·exact Walks.strAscii (I.ok.hd hc) it x t
   ·exact Walks.strWide (I.ok.hd hc) it x t
  exact W.done s _ _ st.2 fun h' tk eb=>⟨rfl,I.turns hf fun b o hb e=>eb b o (by simpa using hb) e⟩
 self:=fun A i s Q E z h=>by
  rcases hty with rfl | rfl
  ·exact wpAny_pyIter_striter_ascii z.2 h
  ·exact wpAny_pyIter_striter_wide z.2 h
def Ug (tl:TE):TI:=fun σ H R=>tl σ H fun x H1=>∃t,x=.str t/\R (SJ t) H1
def MV {tg l:Expr} {tl:TE} (hl:PE X l tl):PI X tg l (Ug tl):=by
 intro pins s σ H R I h;refine cU (hl pins s σ H _ I h) fun v s1 zz=>?_;obtain⟨x,H1,I1,r1,q1⟩:=zz;obtain⟨t,e,q⟩:=q1;subst e;obtain⟨tk,rfl⟩:=r1;refine wpAny_pyIter_strU ?_;refine⟨↑s1,[↑s1],_,_,H1,rfl,I1.kept (t':=s1.toks) fun b o e=>yu _ e,L8 t tk _ (strIterType t) ?_,⟨yf _,_,yw _ rfl,rfl,rfl⟩,fun b hb=>?_,q⟩
 ·unfold strIterType
  split
  ·exact .inl rfl
  ·exact .inr rfl
 ·have e:b=↑s1:=by simpa using hb
  subst e;exact I1.uM (zk _) (I1.bZ.fresh (zk _))
theorem Cs:∀(l:List (Str×Tok)),Vals ((l.map (·.1)).map V.str) (strValues l)
 | []=>.nil
 | (x,t)::r=>.cons ⟨t,rfl⟩ (Cs r)
def QC:V->List V->Hp->VK->Prop:=fun x vs H Q=>∃(t y:Str),x=.str t/\vs=[.str y]/\y.length=1/\t.length+2<=sizeLine/\∀l,H l=none->Q (.ref l) (upd H l (.lst ((PySem.Txt.split t y).map V.str)))
def jC:P4 X "str.split" QC:=by
 intro pins s σ H x vs v us Q I rx rv h;obtain⟨t,y,rfl,rfl,hy,hz,q⟩:=h;obtain⟨tk,rfl⟩:=rx;obtain⟨u,rfl,tk',rfl⟩:=rv.one;have hy':(y.length == 0)=false:=by rw[hy];rfl
 have hle:=split_le t y;have fin:∀(l:List (Str×Tok)) (k:Nat),l.map (·.1)=PySem.Txt.split t y->
   EP X pins σ Q (.ref ↑s) {s with heap:=s.heap.push {cls:=.type "list",data:=.seq (strValues l).toArray},toks:=k}:=fun l k e=>
  ⟨.ref _,_,I.Se (t':=k) (by rw[<-e];exact Cs l) (by rw[za];omega),rfl,q _ I.fresh⟩
 cases h1:(decide (t.length<y.length)||decide (Builtin.Str.strKind t<Builtin.Str.strKind y))
 ·cases hf:(Builtin.Str.occurrences t y 0 t.length (t.length+1)).isEmpty
  ·have es:PySem.Txt.split t y=Builtin.Str.partsBetween t (Builtin.Str.occurrences t y 0 t.length (t.length+1)) y.length:=by
    unfold PySem.Txt.split;rw[h1,hf];rfl
   refine call_meets F.slot_str_split (typeIs_str s t tk) F.entry_str_split (F.args_str_split_2 _ _) (meets_str_split_sep t y tk tk' h1 hy' hf nofun (by rw[<-es];omega)) ?_;rw[strsFrom_eq];exact fin (numbered s.toks _) _ ((numbered_texts _ _).trans es.symm)
  ·have es:PySem.Txt.split t y=[t]:=by
    unfold PySem.Txt.split;rw[h1,hf];rfl
   refine call_meets F.slot_str_split (typeIs_str s t tk) F.entry_str_split (F.args_str_split_2 _ _) (meets_str_split_not_found t y tk tk' h1 hy' hf) ?_;exact fin [(t,tk)] _ es.symm
 ·have es:PySem.Txt.split t y=[t]:=by
   unfold PySem.Txt.split;rw[h1];rfl
  refine call_meets F.slot_str_split (typeIs_str s t tk) F.entry_str_split (F.args_str_split_2 _ _) (meets_str_split_cannot_occur t y tk tk' h1) ?_;exact fin [(t,tk)] _ es.symm
def OD:V->List V->Hp->VK->Prop:=fun x vs H Q=>∃(t y:Str),x=.str t/\vs=[.str y]/\Q (.bl (decide (0+y.length<=t.length)&&Builtin.Str.subAt t y 0)) H
def BR:P4 X "str.startswith" OD:=by
 intro pins s σ H x vs v us Q I rx rv h;obtain⟨t,y,rfl,rfl,q⟩:=h;obtain⟨tk,rfl⟩:=rx;obtain⟨u,rfl,tk',rfl⟩:=rv.one;exact call_meets F.slot_str_startswith (typeIs_str s t tk) F.entry_str_startswith (F.args_str_startswith_2 _ _) (gives_str_startswith t y tk tk').meets ⟨.bl _,H,I,rfl,q⟩
def EK:fB X (.type "int") (fun xs H Q=>∃(t:Str) (n:Int),xs=[.str t]/\PySem.intText? t=some n/\t.length<=640/\Q (.int n) H):=by
 intro pins s σ H xs us Q I r h;obtain⟨t,n,rfl,hn,hl,q⟩:=h;obtain⟨u,rfl,tk,rfl⟩:=vals1 r;exact PySem.W.KIN.call_text hn hl ⟨.int n,H,I.tok _,⟨_,rfl⟩,q⟩
end
def join_one (sep x:Str):Str.join sep [x]=x:=rfl
def fe (sep x y:Str) (r:List Str):Str.join sep (x::y::r)=x++sep++Str.join sep (y::r):=rfl
theorem Gy:∀{ps qs:List Str},ps≠[]->qs≠[]->(∀p∈ps,c∉p.cps.toList)->(∀q∈qs,c∉q.cps.toList)->Str.join ⟨#[c]⟩ ps=Str.join ⟨#[c]⟩ qs->ps=qs
 | [],_,h,_,_,_,_=>absurd rfl h
 | _,[],_,h,_,_,_=>absurd rfl h
 | [p],[q],_,_,_,_,h=>by rw[join_one,join_one] at h;rw[h]
 | [p],q::q2::r,_,_,hp,_,h=>by
  rw[join_one,fe] at h;have e:=congrArg (fun z:Str=>z.cps.toList) h;simp only[cJ] at e;exact absurd (show c∈p.cps.toList by rw[e];simp) (hp p zp)
 | p::p2::r,[q],_,_,_,hq,h=>by
  rw[join_one,fe] at h;have e:=congrArg (fun z:Str=>z.cps.toList) h;simp only[cJ] at e;exact absurd (show c∈q.cps.toList by rw[<-e];simp) (hq q zp)
 | p::p2::r,q::q2::r',_,_,hp,hq,h=>by
  rw[fe,fe] at h;have e:=congrArg (fun z:Str=>z.cps.toList) h;simp only[cJ,zE] at e;obtain⟨e1,e2⟩:=Lm.J6 (hp p zp) (hq q zp) (show p.cps.toList++c::(Str.join ⟨#[c]⟩ (p2::r)).cps.toList=q.cps.toList++c::(Str.join ⟨#[c]⟩ (q2::r')).cps.toList from e);have ih:=Gy (ps:=p2::r) (qs:=q2::r') (by simp) (by simp) (fun z hz=>hp z (zm _ hz)) (fun z hz=>hq z (zm _ hz)) (lG e2);rw[ih,lG e1]
def gw (ne:ps≠[]) (fr:∀p∈ps,c∉p.cps.toList):PySem.Txt.split (Str.join ⟨#[c]⟩ ps) ⟨#[c]⟩=ps:=by
 refine Gy ?_ ne (PySem.StrLaws.split_free _ c) fr (PySem.StrLaws.join_split _ _);intro z;have:=split_pos (Str.join ⟨#[c]⟩ ps) ⟨#[c]⟩;rw[z] at this;exact absurd this ∅
def Dw (ha:c∉a.cps.toList) (hb:c∉b.cps.toList):PySem.Txt.split (a++⟨#[c]⟩++b) ⟨#[c]⟩=[a,b]:=by
 refine gw (ps:=[a,b]) (by simp) fun p hp=>?_;rcases zC.mp hp with rfl | hp
 ·exact ha
 ·rw[zy.mp hp];exact hb
def split1 (ha:c∉a.cps.toList):PySem.Txt.split a ⟨#[c]⟩=[a]:=by
 refine gw (ps:=[a]) (by simp) fun p hp=>?_;rw[zy.mp hp];exact ha
def Qw (ha:c∉a.cps.toList) (hb:c∉b.cps.toList) (hd:c∉d.cps.toList):PySem.Txt.split (a++⟨#[c]⟩++b++⟨#[c]⟩++d) ⟨#[c]⟩=[a,b,d]:=by
 have e:a++(⟨#[c]⟩:Str)++b++⟨#[c]⟩++d=Str.join ⟨#[c]⟩ [a,b,d]:=by
  rw[fe,fe,join_one];simp only[Lv]
 rw[e];refine gw (ps:=[a,b,d]) (by simp) fun p hp=>?_;rcases zC.mp hp with rfl | hp
 ·exact ha
 rcases zC.mp hp with rfl | hp
 ·exact hb
 ·rw[zy.mp hp];exact hd
def xu (h:n<0):dec n ="-" ++ dec (-n):=by
 obtain⟨m,rfl⟩:∃m:Nat,n=Int.negSucc m:=⟨(-n-1).toNat,nofun⟩
 refine lG ?_;rw[cJ];have e1:(dec (Int.negSucc m)).cps.toList=("-" ++ toString (m+1)).toList.map Char.toNat:=PyProof.Rows.signs_ofString _;have e2:(dec (-(Int.negSucc m))).cps.toList=(toString (m+1)).toList.map Char.toNat:=PyProof.Rows.signs_ofString _;rw[e1,e2,String.toList_append,zj];rfl
def lA {n:Nat} {c:Nat} (h:c∈(dec (n:Int)).cps.toList):48<=c/\c<=57:=by
 rw[xw] at h;exact Pa h
def Ld {n:Nat} (h:(dec (n:Int)).cps[0]?=some 48):(dec (n:Int)).length=1:=by
 rcases Nat.eq_zero_or_pos n with rfl | hn
 ·rw[Es];decide
 ·obtain⟨c,r,e,hc⟩:=Lm.Nv n hn
  rw[<-Array.getElem?_toList,xw,e] at h;simp only[zh,List.getElem?_cons_zero,Option.some.injEq] at h;exact absurd (Char.toNat_inj.mp (by rw[h];rfl)) hc
def GV {n:Nat}:1<=(dec (n:Int)).length:=by
 rw[Es];exact PySem.toDigits_len_ge 10 n
def C4 {n k:Nat} (hk:0<k) (h:n<10^k):(dec (n:Int)).length<=k:=by rw[Es];exact Lm.QY hk h
def Ra (a:Option Int) (n:Nat):Builtin.Str.strSliceIndices a none 1 n=Builtin.Str.strSliceIndices a (some (n:Int)) 1 n:=by
 have h:¬((n:Int)<0):=nofun
 have e:max (0:Int) (min (n:Int) (n:Int))=n:=nofun
 simp only[Builtin.Str.strSliceIndices,h,if_false,e,show((1:Int)>0)=True from by simp,if_true]
def Q9 (b:Option Int) (n:Nat):Builtin.Str.strSliceIndices none b 1 n=Builtin.Str.strSliceIndices (some ((0:Nat):Int)) b 1 n:=by
 have h:¬(((0:Nat):Int)<0):=nofun
 have e:max (0:Int) (min ((0:Nat):Int) (n:Int))=0:=nofun
 simp only[Builtin.Str.strSliceIndices,h,if_false,e,show((1:Int)>0)=True from by simp,if_true]
def Cz (x:Str) (hab:a<=b) (hb:b<=x.length):(PySem.Txt.slice x (some (a:Int)) (some (b:Int))).cps.toList=(x.cps.toList.drop a).take (b-a):=by
 unfold PySem.Txt.slice;split
 ·rename_i h
  rw[PySem.StrLaws.strSliceIndices_plain hab hb] at h;simp only[beq_self_eq_true,Bool.true_and,beq_iff_eq,za,zQ] at h;have hl:x.cps.toList.length=x.length:=Array.length_toList;have ea:a=0:=nofun
  have eb:b-a=x.cps.toList.length:=nofun
  rw[eb,ea,List.drop_zero,zM]
 ·exact PySem.StrLaws.sliced_plain x hab hb
def qD (x:Str) (h:a<=x.length):(PySem.Txt.slice x (some (a:Int)) none).cps.toList=x.cps.toList.drop a:=by
 have e:PySem.Txt.slice x (some (a:Int)) none=PySem.Txt.slice x (some (a:Int)) (some ((x.length:Nat):Int)):=by
  unfold PySem.Txt.slice;rw[Ra]
 have hl:x.cps.toList.length=x.length:=Array.length_toList;rw[e,Cz x h (zk _),List.take_of_length_le (by rw[List.length_drop];omega)]
def FK (x:Str) (h:b<=x.length):(PySem.Txt.slice x none (some (b:Int))).cps.toList=x.cps.toList.take b:=by
 have e:PySem.Txt.slice x none (some (b:Int))=PySem.Txt.slice x (some ((0:Nat):Int)) (some (b:Int)):=by
  unfold PySem.Txt.slice;rw[Q9]
 rw[e,Cz x (yf _) h,List.drop_zero,Nat.sub_zero]
def qS {K:yA} {mg:Str->Option Value} {base:Heap} {x:Str} {C:Addr} {bm:List Value} {newId:String} (P:Program) (m:Mod K mg base) (e:PySem.W.nsIn K mainGlobals x=some (some (.ref C)))
  (q:PySem.W.excIn K C bm newId=true):OwnCls x C bm newId mg base:=by
 obtain⟨mb,hb,hbb⟩:=m.blt;obtain⟨o0,es0,ep0,hg0,hd0,sk0,look⟩:=m.glob;have fr:∀y,y∉(es0.toList.filterMap fun(d:DictEntry)=>match d.key with | .str z _=>some z | _=>none)->mg y=none:=fun y hy=>by
  rw[<-look y];show(es0.find? fun d=>d.key.isStr y).map (·.val)=none;cases hf:es0.find? fun d=>d.key.isStr y with
  | none=>rfl
  | some d=>
   exfalso;have hm:=Array.mem_of_find?_eq_some hf;have hk:=Array.find?_some hf;obtain⟨z,t,ez⟩:=sk0 d hm;have ezy:z=y:=by rw[ez] at hk;exact eq_of_beq (show(z == y)=true from hk)
   exact hy (List.mem_filterMap.mpr ⟨d,by simpa using hm,by rw[ez,ezy]⟩)
 exact PySem.W.own_of_in (p:=P) (loose:=es0.toList.filterMap fun(d:DictEntry)=>match d.key with | .str z _=>some z | _=>none) m.QZ ⟨m.glob,hb,m.nolimit,hbb,fun y _ hl _ _ _=>fr y hl⟩ e q
structure LS (P:Program) (w:World) (fs:List Addr) (H H':Hp) (h B h':Heap):Prop where
 keep:∀b o,h.get? b=some o->H b=none->b∉fs->B.get? b=some o
 slot:∀b o,h.get? b=some o->H b=none->b∈fs->∃sl,h'.get? b=some {o with slots:=sl}
 free:∀b o,h.get? b=some o->H b=none->H' b=none
 there:∀b o,h.get? b=some o->b∉fs->∃o',B.get? b=some o'
 pC:∀b xs,H b=some (.tup xs)->H' b=some (.tup xs)
 nh:∀b o u,H b=some (.nF o u)->H' b=some (.nF o u)
 pE:∀b ps,H b=some (.Mc ps)->∃more,H' b=some (.Mc (ps++more))
 bZ:rD P w H' B
 lH:B.StaysIn h'
section
variable {P:Program} {w:World} {fs:List Addr} {H H':Hp} {h B h' h2:Heap}
def LS.un (f:LS P w fs H H' h B h') (GF:∀b∈fs,H b=none):Un fs [] H H' h h' where
 keep:=fun b o e n hb _=>f.lH b o (f.keep b o e n hb)
 slot:=fun b o e n hb _=>f.slot b o e n hb
 free:=fun b o e n _=>f.free b o e n
 there:=fun b o e _=>by
  by_cases hb:b∈fs
  ·obtain⟨sl,q⟩:=f.slot b o e (GF b hb) hb
   exact⟨_,q⟩
  ·obtain⟨o',q⟩:=f.there b o e hb
   exact⟨o',f.lH b o' q⟩
 pC:=f.pC
 nh:=f.nh
 pE:=f.pE
def LS.on (f:LS P w fs H H' h B h') (u:h'.UpToSlots h2) (st:B.StaysIn h2) (nf:∀b∈fs,∃o,h'.get? b=some o/\∀vs,o.data≠.fields vs):LS P w fs H H' h B h2:=
 ⟨f.keep,fun b o e n hb=>by
  obtain⟨sl,q⟩:=f.slot b o e n hb;obtain⟨o1,q1,nd⟩:=nf b hb;rw[q] at q1;cases q1;obtain⟨sl2,q2⟩:=u b _ q nd;exact⟨sl2,q2⟩,f.free,f.there,f.pC,f.nh,f.pE,f.bZ,st⟩
end
def HD (P:Program) (w:World):Jw:=fun outer H s E e s'=>∃(a:Addr) (cls a0:Value) (B:Heap) (H':Hp),e=.ref a/\s'.os=s.os/\AllBare s'.gens/\Heap.FlyingW B outer a cls a0 s'.heap/\LS P w (qq outer) H H' s.heap B s'.heap/\E cls none H'
def NA (hf:env.frame=some L):qq (env::outer)=L::qq outer:=by
 unfold qq;rw[List.filterMap_cons,hf]
def Ql (C:Addr) (te:TA) (E:XK):TS:=fun _ σ H=>te σ H fun vs H1=>vs.length<=sizeLine/\E (.ref C) none H1
section
variable {P:Program} {w:World} {K:yA} {mg:Str->Option Value} {base:Heap} {N:List Str} {qual:Str} {scope:Scope} {f:Addr} {cdv:Value} {A:Around} {outer:List Env} {s₀:Shared} {H₀:Hp} {E:XK}
def F1
  (hC0:PySem.W.nsIn K mainGlobals x=some (some (.ref C))) (hQ0:PySem.W.excIn K C bm newId=true) (FB:ExcBaseFacts Bn newId initId bm) (hg:Gl (kF (HD P w) P w K mg base N qual scope f cdv A outer s₀ H₀ E) x)
  (ha:PA (kF (HD P w) P w K mg base N qual scope f cdv A outer s₀ H₀ E) (e₀::es) ta) (hd:(x == ("__debug__": Str))=false<|>qb_)
  (hs:starEach (e₀::es) (kF (HD P w) P w K mg base N qual scope f cdv A outer s₀ H₀ E).env=(false,eval e₀ (kF (HD P w) P w K mg base N qual scope f cdv A outer s₀ H₀ E).env)::starEach es (kF (HD P w) P w K mg base N qual scope f cdv A outer s₀ H₀ E).env<|>qe_)
  (hpl:(backTo cpos (starEach es (kF (HD P w) P w K mg base N qual scope f cdv A outer s₀ H₀ E).env)).any (·.1)=false<|>qe_) :
  PS (kF (HD P w) P w K mg base N qual scope f cdv A outer s₀ H₀ E) (.Raise (some (.Call (.Name x np) (e₀::es) [] cpos)) none pos) (Ql C ta E):=by
 intro pins s σ H D I h;have O:OwnCls x C bm newId mg base:=qS P I.ok.mod hC0 hQ0;obtain⟨tl,Nn,nm,q,bs,hdct,sn,sub,ab,col,dd,k0,k1,k2,k3,k5,mN,hC,hN,hni,T⟩:=O.obj;refine wpAny_Raise_call_subT (C:=C) (nm:=nm) (q:=q) (N:=Nn) (bs:=bs) (bm:=tl) (hdct:=hdct) (sn:=sn) (sub:=sub) (ab:=ab) (col:=col) (dd:=dd) (k0:=k0) (k1:=k1) (k2:=k2) (k3:=k3) (k5:=k5)
  FB (mN:=mN) (T.hasType FB.hasBase) (I.ok.hd rfl) (by rw[hs];show(false||(backTo cpos (starEach es (kF (HD P w) P w K mg base N qual scope f cdv A outer s₀ H₀ E).env)).any (·.1))=false;rw[hpl];rfl) hni (ka I hg O.bound ⟨rfl,?_⟩ hd)
 have hA:=ha cpos pins s σ H _ I h;rw[hs] at hA ⊢;refine Calls.evalArgs_plain (wpAny_mono hA (fun us s2 ⟨vs,H2,I2,r2,hl,q2⟩=>⟨rfl,?_,I2.bk _ _ hC,hN.keeps I2.bk,T.keeps I2.bk,fun h' e mk=>?_⟩) fun _ _ y=>y)
 ·show us.length<=sizeLine
  rw[<-r2.length];exact hl
 show wpAny (model P w) (A.deeper (envOfC qual scope ↑s₀ f cdv)) (leaving (envOfC qual scope ↑s₀ f cdv) (.ref e)) (fun _ s''=>HD P w outer H₀ s₀ E (.ref e) s'') (fun e' s''=>HD P w outer H₀ s₀ E e' s'') {s2 with heap:=h'};have hfr:qq (envOfC qual scope ↑s₀ f cdv::outer)=↑s₀::qq outer:=NA rfl;have hst:s2.heap.FunFrames base (envOfC qual scope ↑s₀ f cdv::outer):=I2.stack;have hin:∀env∈(envOfC qual scope ↑s₀ f cdv::outer),∀a,env.frame=some a->a∈qq (envOfC qual scope ↑s₀ f cdv::outer):=fun env he a hf=>List.mem_filterMap.mpr ⟨env,he,hf⟩;have hl:=PySem.W.funFrames_hide (as:=qq (envOfC qual scope ↑s₀ f cdv::outer)) hst hin;refine wpAny_leaves_madeW (base:=PySem.W.hideAll s2.heap (qq (envOfC qual scope ↑s₀ f cdv::outer))) (h:=s2.heap) I2.ok.frames rfl (fun b o q=>PySem.W.of_hideAll _ q) hl mk (fun h'' t fl _ _ ups=>?_);have low:∀b o,s₀.heap.get? b=some o->b≠↑s₀:=fun b o e z=>absurd (yx e) (by rw[z];exact ye _);have nin:∀b o,s₀.heap.get? b=some o->b∉qq outer->b∉qq (envOfC qual scope ↑s₀ f cdv::outer):=fun b o e n z=>by
  rw[hfr] at z;rcases zC.mp z with z | z
  ·exact low b o e z
  ·exact n z
 have wF:∀b:Addr,b∉(kF (HD P w) P w K mg base N qual scope f cdv A outer s₀ H₀ E).ex:=fun b z=>absurd (show b∈([]:List Addr) from z) (by simp);refine⟨e,.ref C,.ref t,_,H2,rfl,I2.os,I2.bare,fl,⟨fun b o q n hb=>PySem.W.hideAll_get _ (I2.base.keep b o q n hb (wF b)) (nin b o q hb),fun b o q n hb=>?_,fun b o q n=>I2.base.free b o q n (wF b),fun b o q hb=>?_,I2.base.pC,I2.base.nh,I2.base.pE,fun a o q=>?_,fl.1⟩,q2⟩
 ·obtain⟨sl,e1⟩:=I2.base.slot b o q n hb (wF b)
  obtain⟨_,o1,e2,nd⟩:=I2.ok.pL.mem hb;have e3:=mk.keeps _ _ e1;have e2':s₀.heap.get? b=some o1:=e2;rw[q] at e2';cases e2';obtain⟨sl2,e4⟩:=ups b _ e3 nd;exact⟨sl2,e4⟩
 ·obtain⟨o',e1⟩:=I2.base.there b o q (wF b)
  exact⟨o',PySem.W.hideAll_get _ e1 (nin b o q hb)⟩
 ·refine(I2.bZ a o q).lH (fun b u hb e1=>PySem.W.hideAll_get _ e1 fun z=>?_) (fun _ z=>z) fun _ _ z=>z
  have n:=I2.rJ b z;rcases hb with rfl | hb
  ·rw[q] at n;cases n
  ·rw[hb] at n;cases n
def N6.UM {x:Str} {st:Stmt} {fd:FuncData} {ps:List Str} {k:Nat} {sp:Sp} (F:N6 K x qual st f fd) (S:aC N ps (ao st)) (len:∀vs H Q E,sp vs H Q E->vs.length=ps.length)
  (hbody:∀(cdv:Value) (A:Around) (outer:List Env) (s:Shared) (H:Hp) (vs:List V) (Q:VK) (E:XK),fQ k (A.deeper (envOfC qual (ao st) ↑s f cdv))->sp vs H Q E->
   ∃t,Dg (kF (HD P w) P w K mg base N qual (ao st) f cdv A outer s H E) (bW st) t/\t {nx:=fun _ H'=>Q .bH H',rt:=Q} (start N vs) H):dQ P w K mg base (HD P w) (k+1) f fd ps sp:=by
 obtain⟨oc,od,kV,doc,pm,an,cdv,ct,osl,rfl,lk,hcd⟩:=F.ex;exact PY lk hcd S len fun A outer s H vs Q E hr hsp=>hbody cdv A outer s H vs Q E hr hsp
end
abbrev Cx.held (X:Cx) (e:Value):Cx:={X with A:=X.A.mark (some e),calm:=false}
theorem Cx.Ok.held {X:Cx} (ok:X.Ok) (e:Value):(X.held e).Ok:=
 ⟨ok.mod,ok.kind,ok.glob,ok.blt,ok.above,ok.inj,ok.has,ok.Ro,fun z=>(nomatch (show false=true from z)),ok.frames,ok.Rz,ok.S5,ok.bs,ok.LO,ok.wF,ok.IK,ok.pL,ok.GF⟩
def Cx.Ok.lE {X:Cx} {e:Value} (ok:(X.held e).Ok) (hd:X.calm=true->X.A.handled=none):X.Ok:=
 ⟨ok.mod,ok.kind,ok.glob,ok.blt,ok.above,ok.inj,ok.has,ok.Ro,hd,ok.frames,ok.Rz,ok.S5,ok.bs,ok.LO,ok.wF,ok.IK,ok.pL,ok.GF⟩
section
variable {X:Cx} {pins:List (Addr×Obj)} {σ:St} {H:Hp} {s:Shared} {e:Value}
theorem Inv.held (I:Inv X pins σ H s) (e:Value):Inv (X.held e) pins σ H s:=⟨I.ok.held e,I.os,I.bare,I.base,I.loc,I.cell,I.free,I.ke,I.pin,I.bZ,I.len⟩
theorem Inv.lE (I:Inv (X.held e) pins σ H s) (hd:X.calm=true->X.A.handled=none):Inv X pins σ H s:=⟨I.ok.lE hd,I.os,I.bare,I.base,I.loc,I.cell,I.free,I.ke,I.pin,I.bZ,I.len⟩
theorem SP.lE (hd:X.calm=true->X.A.handled=none) (h:SP (X.held e) pins D f s'):SP X pins D f s':=by
 cases f with
 | next=>obtain⟨σ',H',I,q⟩:=h;exact⟨σ',H',I.lE hd,q⟩
 | brk=>obtain⟨σ',H',I,q⟩:=h;exact⟨σ',H',I.lE hd,q⟩
 | cont=>obtain⟨σ',H',I,q⟩:=h;exact⟨σ',H',I.lE hd,q⟩
 | ret u=>obtain⟨v,σ',H',I,r,q⟩:=h;exact⟨v,σ',H',I.lE hd,r,q⟩
end
def RQ (i:Nat) (sp:Sp) (t:TA) (C:Addr) (th:TS):TS:=fun D σ H=>t σ H fun vs H1=>sp vs H1 (fun v H2=>bV i v σ H2 D.nx) fun cls _ H2=>cls=.ref C/\th D σ H2
section
variable {X:Cx} {k:Nat} {f:Addr} {fd:FuncData} {ps:List Str} {sp:Sp} {fx cn x:Str} {p pos cpos pa tpos np hpos:Pos} {e₀:Expr} {es:List Expr} {t:TA} {i:Nat} {C:Addr} {bm:List Value} {newId:String} {b₀:Stmt} {suite:List Stmt} {th:TS}
def OI (F:dQ X.prog X.w X.K X.mg X.base (HD X.prog X.w) k f fd ps sp) (hr:fQ k X.A) (hg:Gl X fx) (hm:X.mg fx=some (.ref f)) (hk:PySem.W.keepIn X.K (.ref f)=true) (hb:Binds X.K fd ps []) (ha:PA X.Ir (e₀::es) t)
  (hc:X.calm=true) (hN:X.N.Nodup) (hi:X.N[i]?=some x) (hx:Loc X.env.scope x) (hgc:Gl X cn) (hC0:PySem.W.nsIn X.K mainGlobals cn=some (some (.ref C))) (hQ0:PySem.W.excIn X.K C bm newId=true) (hbase:bm.contains (.type "BaseException")=true) (hstk:X.stack=X.env::X.outer) (hfrm:X.env.frame=some X.env.locals)
  (hsu:∀e,Dg (X.held e).Ir (b₀::suite) th)
  (hdb:(fx == ("__debug__": Str))=false<|>qb_) (hdc:(cn == ("__debug__": Str))=false<|>qb_) (he:starEach (e₀::es) X.env=(false,eval e₀ X.env)::starEach es X.env<|>qe_) (hpl:(backTo cpos (starEach es X.env)).any (·.1)=false<|>qe_)
  (hs:swapsWith (.Call (.Name fx p) (e₀::es) [] cpos) (some (.Name x tpos)) pa.line X.env=pure false<|>qe_) (hf:X.fn x=true\/X.env.scope.names.lookup x=some .local<|>qa_) :
  PS X (.Try [.Assign [.Name x tpos] (.Call (.Name fx p) (e₀::es) [] cpos) pa] [.ExceptHandler (some (.Name cn np)) none (b₀::suite) hpos] [] [] pos) (RQ i sp t C th):=by
 intro pins s σ H D I h;have O:OwnCls cn C bm newId X.mg X.base:=qS X.prog I.ok.mod hC0 hQ0;refine wpAny_Try_except (wpAny_execs_cons ?_);refine wpAny_Assign_Name ?_ hs;refine wpAny_Call_Name_kw (ka I hg hm ?_ hdb);have hA:wpAny (model X.prog X.w) X.A (spliced (backTo cpos (starEach (e₀::es) X.env))) (AP X.Ir pins σ _) (fun _ _=>False) s:=ha cpos pins s σ H _ (I.rF _) h;refine PySem.W.callWith_K (h₀:=X.base) I.ok.mod.QZ hk (wpAny_mono hA (fun us s1 ⟨vs,H1,I1',r,q⟩=>⟨I1'.sZ,?_⟩) fun _ _ z=>z.elim) he hpl;have I1:Inv X pins σ H1 s1:=I1'.hZ;have hl:us.length=ps.length:=by rw[<-r.length];exact F.len _ _ _ _ q
 refine wpAny_call (codeAny_mono (F.run X.A X.stack s1 H1 ⟨us,[]⟩ us vs _ _ hr I1.O7 (by have:=hb s1 us I1.sZ (by rw[zU];exact hl);rw[zU] at this;exact this) r q) fun rr s' hq=>?_);cases rr with
 | ok fl=>
  cases fl with
  | ret u=>
   obtain⟨v,H2,I2,r2,q2⟩:=I1.after hq;refine nL I2 hN hi hx r2 (fun s2 I3=>?_) hf;exact wpAny_execs_nil (wpAny_execs_nil ⟨_,H2,I3,q2⟩)
  | next=>exact False.elim hq
  | brk=>exact False.elim hq
  | cont=>exact False.elim hq
 | error ev=>
  obtain⟨a,cls,a0,B,H',rfl,os,bare,fl,fly,⟨rfl,q2⟩⟩:=hq;have GF:∀b∈qq X.stack,H1 b=none:=I1.rJ;have nf:∀{hh:Heap},Heap.FunFrames hh B X.stack->∀b∈qq X.stack,∃o,hh.get? b=some o/\∀vs,o.data≠.fields vs:=fun hF b hb=>(hF.mem hb).2;have back:∀(hh:Heap),LS X.prog X.w (qq X.stack) H1 H' s1.heap B hh->Inv X pins σ H' {s' with heap:=hh}:=fun hh fy=>
   I1.NS (s':={s' with heap:=hh}) (ch:=[]) os (fy.un GF) (fy.bZ.kept fy.lH) bare fun b z=>absurd z (by simp)
  have hfr:X.A.frames=some (X.env::X.outer):=by rw[<-hstk];exact I1.ok.frames
  refine wpAny_looks_onW hfr hfrm (by rw[<-hstk];exact fl) fun h4 held4 up4=>?_;refine wpAny_landsW held4 fun h5 fl5 up5=>?_;have fl5':Heap.FlyingW B X.stack a (.ref C) a0 h5:=by rw[hstk];exact fl5
  have fy5:LS X.prog X.w (qq X.stack) H1 H' s1.heap B h5:=fly.on (up4.trans up5) fl5.1 (nf fl.2.2.1);have I5:=back h5 fy5;obtain⟨ob,hob,hobc⟩:=fl5'.there;obtain⟨tl,Nn,nm,qn,bs,hdct,sn,sub,ab,col,dd,k0,k1,k2,k3,k5,mN,hC,hN',hni,T⟩:=O.obj;refine wpAny_handleBy_cons (codeAny_handlers_test (ka (X:=X.held (.ref a)) (I5.held _) hgc O.bound ?_ hdc)) (by intro q;cases q);refine wpAny_excMatches_sub_self (I5.bk _ _ hC) hob hobc (T.hasType hbase) (codeAny_handlers_suite ?_);refine lands_againW fl5' fun h6 fl6 up6=>?_;have fy6:LS X.prog X.w (qq X.stack) H1 H' s1.heap B h6:=fy5.on up6 fl6.1 (nf fl5'.2.2.1);have I6:=back h6 fy6;refine wpAny_mono (hsu (.ref a) pins _ σ H' D ((I6.held _).rF _) q2) (fun fl s7 z=>?_) fun _ _ z=>z.elim;exact SP.lE I.ok.hd (SP.hZ z)
end
section
variable {X:Cx}
def Mm {zs:List Str} {its:List Value} (r:Vals (zs.map V.str) its) {j:Nat} (h:j<its.length):∃z t,zs[j]?=some z/\its[j]=.str z t:=by
 have hl:zs.length=its.length:=by have:=r.length;rw[za] at this;exact this
 obtain⟨u,hu,ru⟩:=r.get (i:=j) (x:=.str (zs[j]'nofun)) (by rw[zJ,zb nofun];rfl);obtain⟨t,rfl⟩:=ru;rw[zb h] at hu;exact⟨_,t,zb nofun,yj hu⟩
end
section
variable {K:yA} {D x:Addr} {prog:Program} {w:World} {A:Around} {E:Value->Shared->Prop} {h:Heap} {g:Array GenState} {d:Drawn} {t:Nat} {os:OsState}
open Builtin Builtin.ObjectAttr Builtin.Getset_descriptor in
end
section
variable {X:Cx}
end
def cF.here (x:cF P w H h a o):∃ob,h.get? a=some ob:=by
 cases o with
 | lst xs=>obtain⟨_,_,_,_,e⟩:=x;exact⟨_,e⟩
 | tup xs=>obtain⟨_,_,_,o,e,_⟩:=x;exact⟨_,e⟩
 | dK kvs=>obtain⟨_,_,_,_,o,_,_,e,_⟩:=x;exact⟨_,e⟩
 | dT kvs=>obtain⟨_,_,_,_,o,_,_,e,_⟩:=x;exact⟨_,e⟩
 | set S n=>obtain⟨o,_,_,_,e,_⟩:=x;exact⟨_,e⟩
 | ins C dx fs=>obtain⟨_,_,_,e,_⟩:=x;exact⟨_,e⟩
 | own y=>exact x
 | xd fs=>obtain⟨_,⟨_,_,_,e,_⟩,_⟩:=x;exact⟨_,e⟩
 | KC lo hi=>obtain⟨_,_,_,e⟩:=x;exact⟨_,e⟩
 | nF ob u=>obtain⟨e,_⟩:=x;exact⟨_,e⟩
 | Mc ps=>exact⟨_,x⟩
 | met f y=>exact⟨_,x⟩
 | ext φ=>exact x.2.1
section
variable {X:Cx} {pins:List (Addr×Obj)} {σ:St} {H:Hp} {s:Shared}
def Inv.RN (I:Inv X pins σ H s) (hn:H a=none) (h0:X.s₀.heap.get? a=none) (hl:a≠X.env.locals) (hc:∀x c,X.env.cells.lookup x=some c->c≠a) (hp:∀p∈X.pn++pins,p.1≠a)
  (new:cF X.prog X.w (upd H a o) s.heap a o):Inv X pins σ (upd H a o) s where
 ok:=I.ok
 os:=I.os
 bare:=I.bare
 base:=⟨I.base.keep,I.base.slot,fun b ob e n hx=>by rw[aD (fun z=>by rw[z,h0] at e;cases e)];exact I.base.free b ob e n hx,I.base.there,
  fun b xs e=>by have:=I.base.pC b xs e;rw[aD (bo this hn)];exact this,fun b ob u e=>by have:=I.base.nh b ob u e;rw[aD (bo this hn)];exact this,
  fun b ps e=>by obtain⟨m,e1⟩:=I.base.pE b ps e;exact⟨m,by rw[aD (bo e1 hn)];exact e1⟩⟩
 loc:=I.loc
 cell:=I.cell
 free:=by rw[aD (Ne.symm hl)];exact I.free
 ke:=fun x c e=>by rw[aD (hc x c e)];exact I.ke x c e
 pin:=fun p hpp=>by obtain⟨e,n,ne,nf,d⟩:=I.pin p hpp;exact⟨e,by rw[aD (hp p hpp)];exact n,ne,nf,d⟩
 bZ:=fun b u e=>by
  by_cases hb:b=a
  ·subst hb
   rw[aA] at e;cases e;exact new
  ·rw[aD hb] at e
   refine(I.bZ b u e).lH (fun _ _ _ q=>q) (fun c q=>?_) fun c xs q=>?_
   ·rw[aD (bo q hn)];exact q
   ·rw[aD (bo q hn)];exact q
 len:=I.len
end
section
variable {X:Cx} {k:Nat} {f:Addr} {fd:FuncData} {ps:List Str} {sp:Sp} {fx cn n x:Str} {p pos cpos pa tpos np hpos:Pos} {e₀:Expr} {es:List Expr} {t:TA} {i j:Nat} {C S:Addr} {bm bmS:List Value} {newId newIdS:String} {b₀:Stmt} {suite:List Stmt} {th:TS}
end
end L2
namespace L2
open PySem PySem.Spec PyProof.Rows
section
variable {κ:Type} [DecidableEq κ]
def dB (kvs:List (κ×V)) (k:κ):Option V:=(kvs.find? fun kv=>decide (kv.1=k)).map (·.2)
def putK (kvs:List (κ×V)) (k:κ) (v:V):List (κ×V):=
 if(kvs.any fun kv=>decide (kv.1=k))=true then kvs.map (fun kv=>if kv.1=k then(kv.1,v) else kv) else kvs++[(k,v)]
def eR {p:κ×V} {r:List (κ×V)} {k:κ} (e:p.1=k):dB (p::r) k=some p.2:=by simp[dB,List.find?_cons,e]
def eT {p:κ×V} {r:List (κ×V)} {k:κ} (e:¬p.1=k):dB (p::r) k=dB r k:=by simp[dB,List.find?_cons,e]
theorem nG (k:κ):∀kvs:List (κ×V),(kvs.any fun kv=>decide (kv.1=k))=(dB kvs k).isSome
 | []=>rfl
 | p::r=>by
  rw[List.any_cons]
  by_cases e:p.1=k
  ·simp only[eR e,ze e,Bool.true_or,Option.isSome_some]
  ·rw[eT e,zd e,Bool.false_or];exact nG k r
theorem Fs (k j:κ) (y:V):∀kvs:List (κ×V),dB (kvs.map fun kv=>if kv.1=k then(kv.1,y) else kv) j=(dB kvs j).map fun x=>if j=k then y else x
 | []=>rfl
 | p::r=>by
  have ih:=Fs k j y r;rw[zh]
  by_cases h:p.1=k
  ·rw[if_pos h]
   by_cases e:p.1=j
   ·rw[eR (p:=(p.1,y)) e,eR e,Option.map_some,if_pos (e.symm.trans h)]
   ·rw[eT (p:=(p.1,y)) e,eT e,ih]
  ·rw[if_neg h]
   by_cases e:p.1=j
   ·rw[eR (p:=p) e,eR e,Option.map_some,if_neg (fun z=>h (e.trans z))]
   ·rw[eT (p:=p) e,eT e,ih]
theorem Cu (k j:κ) (y:V):∀kvs:List (κ×V),dB kvs k=none->dB (kvs++[(k,y)]) j=if j=k then some y else dB kvs j
 | [],_=>by
  by_cases e:k=j
  ·rw[if_pos e.symm];exact eR (p:=(k,y)) e
  ·rw[if_neg (fun z=>e z.symm)];exact eT (p:=(k,y)) e
 | p::r,hn=>by
  rw[List.cons_append];have hk:¬p.1=k:=fun z=>by rw[eR z] at hn;cases hn
  rw[eT hk] at hn;have ih:=Cu k j y r hn
  by_cases e:p.1=j
  ·rw[eR e,eR e,if_neg (fun z=>hk (e.trans z))]
  ·rw[eT e,eT e,ih]
def L3 (kvs:List (κ×V)) (k j:κ) (y:V):dB (putK kvs k y) j=if j=k then some y else dB kvs j:=by
 unfold putK
 by_cases a:(kvs.any fun kv=>decide (kv.1=k))=true
 ·rw[if_pos a,Fs]
  rw[nG] at a
  by_cases e:j=k
  ·obtain⟨x,hx⟩:=Option.isSome_iff_exists.mp a
   rw[if_pos e,e,hx,Option.map_some,if_pos rfl]
  ·rw[if_neg e]
   cases dB kvs j with
   | none=>rfl
   | some x=>rw[Option.map_some,if_neg e]
 ·rw[if_neg a]
  refine Cu k j y kvs ?_;rw[nG] at a;cases q:dB kvs k with
  | none=>rfl
  | some x=>rw[q] at a;exact(a rfl).elim
def oM (kvs:List (κ×V)) (k:κ) (v:V):(putK kvs k v).length<=kvs.length+1:=by
 unfold putK;split
 ·rw[za];omega
 ·rw[zg,zt,List.length_nil];omega
def MN {kvs:List (κ×V)} {k:κ} (v:V) (h:dB kvs k=none):putK kvs k v=kvs++[(k,v)]:=by
 unfold putK;rw[nG,h];exact if_neg ∅
def mw.lj (r:mw o u):o.isSome=u.isSome:=by
 cases o with
 | none=>cases u with
  | none=>rfl
  | some _=>exact(show False from r).elim
 | some _=>cases u with
  | none=>exact(show False from r).elim
  | some _=>rfl
theorem mw.getD (r:mw o u) (rd:RelV d d'):RelV (o.getD d) (u.getD d'):=by
 cases o with
 | none=>cases u with
  | none=>exact rd
  | some _=>exact(show False from r).elim
 | some _=>cases u with
  | none=>exact(show False from r).elim
  | some _=>exact r
def KV.val {kvs:List (κ×V)} {vs:List (κ×Value)} (r:KV kvs vs) (k:κ):mw (dB kvs k) (valueAt vs k):=by
 unfold KV at r
 induction r with
 | nil=>exact True.intro
 | @cons p q ps qs h t ih=>
  obtain⟨h1,h2⟩:=h
  by_cases e:p.1=k
  ·have e':q.1=k:=h1.symm.trans e
   have b:valueAt (q::qs) k=some q.2:=by simp[valueAt,List.find?_cons,e']
   rw[eR e,b];exact h2
  ·have e':¬q.1=k:=fun z=>e (h1.trans z)
   have b:valueAt (q::qs) k=valueAt qs k:=by simp[valueAt,List.find?_cons,e']
   rw[eT e,b];exact ih
theorem KV.any (r:KV kvs vs) (k:κ):(kvs.any fun kv=>decide (kv.1=k))=vs.any fun kv=>decide (kv.1=k):=by
 unfold KV at r
 induction r with
 | nil=>rfl
 | cons h t ih=>rw[List.any_cons,List.any_cons,ih,h.1]
def KV.QB (r:KV kvs vs) (k:κ) (ry:RelV y u) :
  KV (kvs.map fun kv=>if kv.1=k then(kv.1,y) else kv) (vs.map fun kv=>if kv.1=k then(kv.1,u) else kv):=by
 unfold KV at r ⊢
 induction r with
 | nil=>exact .nil
 | @cons p q ps qs h t ih=>
  rw[zh,zh];refine .cons ?_ ih;obtain⟨h1,h2⟩:=h
  by_cases e:p.1=k
  ·rw[if_pos e,if_pos (h1.symm.trans e)];exact⟨h1,ry⟩
  ·rw[if_neg e,if_neg (fun z=>e (h1.trans z))];exact⟨h1,h2⟩
def KV.put (r:KV kvs vs) (k:κ) (ry:RelV y u):KV (putK kvs k y) (stored vs k u):=by
 unfold putK stored;rw[r.any k]
 by_cases e:(vs.any fun kv=>decide (kv.1=k))=true
 ·rw[if_pos e,if_pos e];exact r.QB k ry
 ·rw[if_neg e,if_neg e];exact Paired.snoc r ⟨rfl,ry⟩
theorem KV.length (r:KV kvs vs):kvs.length=vs.length:=Paired.length r
end
def CP (r:RelV (kV k) u):(df P w).is k u=true:=by
 cases k with
 | inl i=>obtain⟨t,e⟩:=(show∃t,u=Value.int i t from r);subst e;exact Gv P w i t
 | inr x=>obtain⟨t,e⟩:=(show∃t,u=Value.str x t from r);subst e;exact vH P w x t
theorem CQ:∀{ks:List Key} {us:List Value},Vals (ks.map kV) us->ItemsAre (df P w) ks us
 | [],_,r=>by rw[ym] at r;cases r;exact .nil
 | k::ks,_,r=>by
  rw[zh] at r;cases r with
  | cons h t=>exact .cons (CP h) (CQ t)
abbrev KT (H:Hp):List (List Key×V)->List (List Key×Addr×Value)->Prop:=Paired fun p q=>p.1=q.1/\H q.2.1=some (.tup (p.1.map kV))/\RelV p.2 q.2.2
def KT.val {H:Hp} {kvs:List (List Key×V)} {xs:List (List Key×Addr×Value)} (r:KT H kvs xs) (k:List Key):mw (dB kvs k) ((atKey xs k).map (·.2)):=by
 induction r with
 | nil=>exact True.intro
 | @cons p q ps qs h t ih=>
  obtain⟨h1,_,h2⟩:=h
  by_cases e:p.1=k
  ·have e':q.1=k:=h1.symm.trans e
   have b:atKey (q::qs) k=some q.2:=by simp[atKey,List.find?_cons,e']
   rw[eR e,b];exact h2
  ·have e':¬q.1=k:=fun z=>e (h1.trans z)
   have b:atKey (q::qs) k=atKey qs k:=by simp[atKey,List.find?_cons,e']
   rw[eT e,b];exact ih
def KT.QB (r:KT H kvs xs) (k:List Key) (ry:RelV y u) :
  KT H (kvs.map fun kv=>if kv.1=k then(kv.1,y) else kv) (xs.map (putAt k u)):=by
 induction r with
 | nil=>exact .nil
 | @cons p q ps qs h t ih=>
  rw[zh,zh];refine .cons ?_ ih;obtain⟨h1,h2,h3⟩:=h;unfold putAt
  by_cases e:p.1=k
  ·rw[if_pos e,if_pos (h1.symm.trans e)];exact⟨h1,h2,ry⟩
  ·rw[if_neg e,if_neg (fun z=>e (h1.trans z))];exact⟨h1,h2,h3⟩
def KT.put (r:KT H kvs xs) (k:List Key) (hb:H b=some (.tup (k.map kV))) (ry:RelV y u) :
  KT H (putK kvs k y) (storedH xs k b u):=by
 have e:(kvs.any fun kv=>decide (kv.1=k))=(atKey xs k).isSome:=by
  rw[nG,(r.val k).lj,Option.isSome_map]
 unfold putK storedH;rw[e]
 by_cases q:(atKey xs k).isSome=true
 ·rw[if_pos q,if_pos q];exact r.QB k ry
 ·rw[if_neg q,if_neg q];exact Paired.snoc r ⟨rfl,hb,ry⟩
def KT.keeps (r:KT H kvs xs) (ht:∀b ys,H b=some (.tup ys)->H' b=some (.tup ys)):KT H' kvs xs:=
 Paired.QW r fun _ _ z=>⟨z.1,ht _ _ z.2.1,z.2.2⟩
section
variable {P:Program} {w:World} {H:Hp} {h:Heap} {a:Addr}
def PF (ok:rD P w H h) (e:Rd H a u):cF P w H h a u:=e.ok ok
def vN (ok:rD P w H h) (e:Rd H a (.dK kvs)):kvs.length<=sizeLine/\(a == sysModules)=false/\∃vs,KV kvs vs/\h.DictOf (df P w) a vs:=
 show cF P w H h a (.dK kvs) from PF ok e
def Sy (ok:rD P w H h) (e:H a=some (.dK kvs)):kvs.length<=sizeLine/\(a == sysModules)=false/\∃vs,KV kvs vs/\h.DictOf (df P w) a vs:=vN ok (.inl e)
def uK (ok:rD P w H h) (e:H a=some (.tup (ks.map kV))):(tupleKind (df P w)).is h ks a:=by
 obtain⟨_,its,r,o,h1,h2,n,h3⟩:=(show cF P w H h a (.tup (ks.map kV)) from ok a _ e)
 exact⟨o,its.toArray,n,h1,h2,h3,by simpa using CQ r⟩
def AB (ok:rD P w H h) (e:Rd H a (.dT kvs)):kvs.length<=sizeLine/\(a == sysModules)=false/\
  ∃xs,KT H kvs xs/\h.DictOfH (tupleKind (df P w)) a xs:=by
 obtain⟨z,y,xs,r,o,es,ep,h1,h2,h3,h4,h5⟩:=(show cF P w H h a (.dT kvs) from PF ok e)
 refine⟨z,y,xs,r,o,es,ep,h1,h2,h3,h4,fun x hx=>?_,h5⟩;have all:∀{l:List (List Key×V)} {m:List (List Key×Addr×Value)},KT H l m->∀x∈m,(tupleKind (df P w)).is h x.1 x.2.1:=by
  intro l m q
  induction q with
  | nil=>intro x hx;exact nomatch hx
  | @cons p q ps qs hq t ih=>
   intro x hx;rcases zC.mp hx with e | hx
   ·subst e
    exact uK ok (by rw[<-hq.1];exact hq.2.1)
   ·exact ih x hx
 exact all r x hx
def Sx (ok:rD P w H h) (e:H a=some (.dT kvs)):kvs.length<=sizeLine/\(a == sysModules)=false/\
  ∃xs,KT H kvs xs/\h.DictOfH (tupleKind (df P w)) a xs:=AB ok (.inl e)
end
def Fg (H:Hp) (a:Addr) (y:V) (r:Option V):Prop:=
 (∃kvs k,Rd H a (.dK kvs)/\y=kV k/\r=dB kvs k)\/∃kvs k b,Rd H a (.dT kvs)/\y=.ref b/\H b=some (.tup (k.map kV))/\r=dB kvs k
def SM (H:Hp) (a:Addr) (y v:V) (H':Hp):Prop:=
 (∃kvs k,H a=some (.dK kvs)/\y=kV k/\kvs.length<sizeLine/\H'=upd H a (.dK (putK kvs k v)))\/
 ∃kvs k b,H a=some (.dT kvs)/\y=.ref b/\H b=some (.tup (k.map kV))/\kvs.length<sizeLine/\H'=upd H a (.dT (putK kvs k v))
section
variable {X:Cx} {pins:List (Addr×Obj)} {σ:St} {H:Hp} {s:Shared} {a:Addr} {y v:V} {u r:Value} {o:Option V} {A:Around} {E:Value->Shared->Prop}
def Inv.big (I:Inv X pins σ H s):sysModules<↑s:=by
 have h:mainGlobals<↑s:=(I.mod.glob.keeps I.bk).lt;exact Nat.lt_trans ∅ h
def Lg (hu:A.units+1<cLine) (I:Inv X pins σ H s) (g:Fg H a y (some v)) (ry:RelV y u) (h:∀w' s',Inv X pins σ H s'->RelV v w'->Q w' s') :
  wpAny (model X.prog X.w) A (getItem (.ref a) u) Q E s:=by
 rcases g with⟨kvs,k,e,ey,l⟩ | ⟨kvs,k,b,e,ey,eb,l⟩
 ·subst ey
  obtain⟨z,hd,vs,rel,dd⟩:=vN I.bZ e;obtain⟨w',hw,rw'⟩:=mw.some_of (v:=v) (o:=valueAt vs k) (by rw[l];exact rel.val k);exact wpAny_getItem_of (CP ry) dd.mapOf hw (h w' _ (I.tok _) rw')
 ·subst ey
  cases(show u=Value.ref b from ry);obtain⟨z,hd,xs,rel,dd⟩:=AB I.bZ e;obtain⟨w',hw,rw'⟩:=mw.some_of (v:=v) (o:=(atKey xs k).map (·.2)) (by rw[l];exact rel.val k);obtain⟨p,hp,hp2⟩:=Option.map_eq_some_iff.mp hw;refine wpAny_getItem_heap (tupleKind_room_in1 hu) (uK I.bZ eb) dd hp ?_;rw[hp2];exact h w' _ (I.tok _) rw'
def Up (hu:A.units+1<cLine) (I:Inv X pins σ H s) (g:Fg H a y o) (ry:RelV y u) (h:∀s',Inv X pins σ H s'->Q (.bool o.isSome) s') :
  wpAny (model X.prog X.w) A (compareOp .In u (.ref a)) Q E s:=by
 rcases g with⟨kvs,k,e,ey,l⟩ | ⟨kvs,k,b,e,ey,eb,l⟩
 ·subst ey
  obtain⟨z,hd,vs,rel,dd⟩:=vN I.bZ e;refine wpAny_in_of (CP ry) hd dd.mapOf ?_;rw[<-(rel.val k).lj,<-l];exact h _ (I.tok _)
 ·subst ey
  cases(show u=Value.ref b from ry);obtain⟨z,hd,xs,rel,dd⟩:=AB I.bZ e;refine wpAny_in_heap (tupleKind_room_in1 hu) (uK I.bZ eb) hd dd ?_;have q:=(rel.val k).lj;rw[Option.isSome_map] at q;rw[<-q,<-l];exact h _ (I.tok _)
def Pb (hu:A.units+1<cLine) (I:Inv X pins σ H s) (g:Fg H a y o) (ry:RelV y u) (h:∀s',Inv X pins σ H s'->Q (.bool (!o.isSome)) s') :
  wpAny (model X.prog X.w) A (compareOp .NotIn u (.ref a)) Q E s:=by
 rcases g with⟨kvs,k,e,ey,l⟩ | ⟨kvs,k,b,e,ey,eb,l⟩
 ·subst ey
  obtain⟨z,hd,vs,rel,dd⟩:=vN I.bZ e;refine wpAny_notIn_of (CP ry) hd dd.mapOf ?_;rw[<-(rel.val k).lj,<-l];exact h _ (I.tok _)
 ·subst ey
  cases(show u=Value.ref b from ry);obtain⟨z,hd,xs,rel,dd⟩:=AB I.bZ e;refine wpAny_notIn_heap (tupleKind_room_in1 hu) (uK I.bZ eb) hd dd ?_;have q:=(rel.val k).lj;rw[Option.isSome_map] at q;rw[<-q,<-l];exact h _ (I.tok _)
def J4 (I:Inv X pins σ H s) (mu:SH (H a)) (hs:Heap.SameBut a s.heap h') (he:∃q,h'.get? a=some q) (new:cF X.prog X.w (upd H a ob) h' a ob) :
  Inv X pins σ (upd H a ob) {s with heap:=h',toks:=t'}:=
 I.write (x:=a) (e:=a) mu (.inl rfl) (fun b q hb z=>(hs.2 b hb).trans z) he new
def Rl (z:kvs.length<=sizeLine) (hd:(a == sysModules)=false) (rel:KV kvs vs) (dd:h'.DictOf (df P w) a vs) :
  cF P w H' h' a (.dK kvs):=⟨z,hd,vs,rel,dd⟩
def Lf (hu:A.units+1<cLine) (I:Inv X pins σ H s) (g:SM H a y v H') (ry:RelV y u) (rv:RelV v r) (h:∀s',Inv X pins σ H' s'->Q () s') :
  wpAny (model X.prog X.w) A (setItem (.ref a) u r) Q E s:=by
 rcases g with⟨kvs,k,e,ey,l,eH⟩ | ⟨kvs,k,b,e,ey,eb,l,eH⟩
 ·subst ey eH
  obtain⟨z,hd,vs,rel,dd⟩:=Sy I.bZ e;have hz:vs.length<=sizeLine:=by rw[<-rel.length];exact z
  have hl:(putK kvs k v).length<=sizeLine:=by have:=oM kvs k v;omega
  refine wpAny_setItem_pairs (hsz:=hz) (CP ry) dd fun h' dd' hs=>h _ ?_;have he:∃q,h'.get? a=some q:=let ⟨q,_,_,hq,_⟩:=dd';⟨q,hq⟩;exact J4 I (by rw[e];exact True.intro) hs he (Rl hl hd (rel.put k rv) dd')
 ·subst ey eH
  cases(show u=Value.ref b from ry);obtain⟨z,hd,xs,rel,dd⟩:=Sx I.bZ e;have hz:xs.length<=sizeLine:=by rw[<-Paired.length rel];exact z
  have hl:(putK kvs k v).length<=sizeLine:=by have:=oM kvs k v;omega
  refine wpAny_setItem_heap (hsz:=hz) (tupleKind_room_in1 hu) (uK I.bZ eb) dd fun h' dd' hs=>h _ ?_;obtain⟨q,es,ep,hq,h2,h3,h4,_,h5⟩:=dd';refine J4 I (by rw[e];exact True.intro) hs ⟨q,hq⟩ ⟨hl,hd,_,(rel.put k eb rv).keeps fun c ys ec=>?_,q,es,ep,hq,h2,h3,h4,h5⟩;rw[aD (aZ ec e (fun z=>nomatch z))];exact ec
end
section
variable {X:Cx} {pins:List (Addr×Obj)} {σ:St} {H:Hp} {s:Shared} {a:Addr} {kvs:List (Key×V)} {k:Key} {u:Value} {A:Around} {E:Value->Shared->Prop}
def SD (I:Inv X pins σ H s) (e:Rd H a (.dK kvs)) (h:∀t s',Inv X pins σ H s'->Q (.int kvs.length t) s'):wpAny (model X.prog X.w) A (call (.builtin "len") [.ref a]) Q E s:=by
 obtain⟨z,hd,vs,rel,dd⟩:=vN I.bZ e;refine call_len_dict hd dd (by rw[<-rel.length];rw[yB] at z;omega) ?_;rw[<-rel.length];exact h _ _ (I.tok _)
end
def Rv (i:Expr):Prop:=∀ov iv,subscripted i false ov iv=operate [ov,iv] (getItem ov iv)
def JF {prog:Program} {w:World} {A:Around} {E:Value->Shared->Prop} {s:Shared} {env:Env} {value slice:Expr} {pos:Pos} {T id:String} {Q:Value->Shared->Prop}
  (hl:typeLookup (.type T) "__getitem__"= pure (some (.builtin id))) (hs:Rv slice)
  (h:wpAny (model prog w) A (eval value env) (fun o s₁=>wpAny (model prog w) A (eval slice env) (fun i s₂=>s₂.TypeIs o T/\wpAny (model prog w) A (getItem o i) Q E s₂) E s₁) E s) :
  wpAny (model prog w) A (eval (.Subscript value slice pos) env) Q E s:=by
 refine Subscript_ (wpAny_mono h (fun o s₁ h₁=>wpAny_mono h₁ (fun i s₂ h₂=>?_) fun _ _ x=>x) fun _ _ x=>x);obtain⟨hT,h₂⟩:=h₂;unfold subscriptTail;refine yt ?_;rw[getitemInPython_of_ne hT.not_modules];refine yt (wpAny_specialOf hT hl ?_);have fin:wpAny (model prog w) A (subscripted slice false o i) (fun r s₃=>wpAny (model prog w) A (letTemporaryGo value o r >>= fun _=>pure r) Q E s₃) E s₂:=by
  rw[hs o i];exact wpAny_operating (wpAny_mono h₂ (fun r s₃ h₃=>yt (wpAny_letTemporaryGo (yv h₃))) fun _ _ x=>x)
 first
  | exact yv (yt fin)
  | exact yt (yv (yt fin))
  | exact yt fin
def GS (I:Inv X pins σ H s) (g:Fg H a y o):s.TypeIs (.ref a) "dict":=by
 rcases g with⟨kvs,k,e,_,_⟩ | ⟨kvs,k,b,e,_,_,_⟩
 ·obtain⟨_,_,vs,_,dd⟩:=vN I.bZ e
  exact dd.typeIs
 ·obtain⟨_,_,xs,_,dd⟩:=AB I.bZ e
  exact dd.typeIs
def RX (td ty:TE):TE:=fun σ H Q=>td σ H fun x H1=>ty σ H1 fun y H2=>∃a v,x=.ref a/\Fg H2 a y (some v)/\Q v H2
def RW (ty td:TE):TE:=fun σ H Q=>ty σ H fun y H1=>td σ H1 fun x H2=>∃a o,x=.ref a/\Fg H2 a y o/\Q (.bl o.isSome) H2
def Ol (ty td:TE):TE:=fun σ H Q=>ty σ H fun y H1=>td σ H1 fun x H2=>∃a o,x=.ref a/\Fg H2 a y o/\Q (.bl (!o.isSome)) H2
def R3 (td ty tv:TE):TS:=fun D σ H=>tv σ H fun v H1=>td σ H1 fun x H2=>ty σ H2 fun y H3=>∃a H4,x=.ref a/\SM H3 a y v H4/\D.nx σ H4
section
variable {X:Cx} {o i e value:Expr} {pos pos' tpos:Pos} {td ty tv:TE}
def OL (hu:X.A.units+1<cLine) (ho:PE X o td) (hi:PE X i ty) (hs:Rv i):PE X (.Subscript o i pos) (RX td ty):=by
 intro pins s σ H Q I h;refine JF PySem.F.slot_dict_getitem.lookup hs (cU (ho pins s σ H _ I h) fun u s1 ⟨x,H1,I1,rx,q1⟩=>cU (hi pins s1 σ H1 _ I1 q1) fun iv s2 zz=>?_);obtain⟨y,H2,I2,ry,a,v,ex,g,q2⟩:=zz;subst ex;obtain rfl:u=Value.ref a:=rx;exact⟨GS I2 g,Lg hu I2 g ry fun w' s3 I3 rw'=>⟨v,H2,I3,rw',q2⟩⟩
def DU (hu:X.A.units+1<cLine) (hi:PE X i ty) (ho:PE X o td):PC X .In i o (RW ty td):=by
 intro pins s σ H Q I h;refine cU (hi pins s σ H _ I h) fun iv s1 ⟨y,H1,I1,ry,q1⟩=>cU (ho pins s1 σ H1 _ I1 q1) fun u s2 zz=>?_;obtain⟨x,H2,I2,rx,a,ov,ex,g,q2⟩:=zz;subst ex;obtain rfl:u=Value.ref a:=rx;exact Up hu I2 g ry fun s3 I3=>⟨.bl ov.isSome,H2,I3,rfl,q2⟩
def o6 (hu:X.A.units+1<cLine) (hi:PE X i ty) (ho:PE X o td):PC X .NotIn i o (Ol ty td):=by
 intro pins s σ H Q I h;refine cU (hi pins s σ H _ I h) fun iv s1 ⟨y,H1,I1,ry,q1⟩=>cU (ho pins s1 σ H1 _ I1 q1) fun u s2 zz=>?_;obtain⟨x,H2,I2,rx,a,ov,ex,g,q2⟩:=zz;subst ex;obtain rfl:u=Value.ref a:=rx;exact Pb hu I2 g ry fun s3 I3=>⟨.bl (!ov.isSome),H2,I3,rfl,q2⟩
def sL (hu:X.A.units+1<cLine) (ho:PE X o td) (hi:PE X i ty) (hv:PE X value tv) (hs:swapsWith value (some (.Subscript o i pos')) pos.line X.env=pure false) :
  PS X (.Assign [.Subscript o i pos'] value pos) (R3 td ty tv):=by
 intro pins s σ H D I h;refine wpAny_Assign_Subscript (cU (hv pins s σ H _ I h) fun r s1 ⟨v,H1,I1,rv,q1⟩=>cU (ho pins s1 σ H1 _ I1 q1) fun u s2 ⟨x,H2,I2,rx,q2⟩=>cU (hi pins s2 σ H2 _ I2 q2) fun iv s3 ⟨y,H3,I3,ry,a,H4,ex,g,q3⟩=>?_) hs;subst ex;obtain rfl:u=Value.ref a:=rx;exact Lf hu I3 g ry rv fun s4 I4=>⟨σ,H4,I4,q3⟩
end
def NL (h:Heap) (hb:sysModules<h.objs.size):cF P w H (h.push {cls:=.type "dict",data:=.dict #[]}) h.objs.size (.dK []):=
 ⟨yf _,beq_eq_false_iff_ne.mpr (Ne.symm (yi hb)),[],.nil,Heap.DictOf.new h⟩
def NJ (h:Heap) (hb:sysModules<h.objs.size):cF P w H (h.push {cls:=.type "dict",data:=.dict #[]}) h.objs.size (.dT []):=
 ⟨yf _,beq_eq_false_iff_ne.mpr (Ne.symm (yi hb)),[],.nil,_,#[],0,yw _ rfl,⟨rfl,rfl,rfl⟩,rfl,rfl,List.nodup_nil⟩
def Qr:TE:=fun _ H Q=>∀p,H p=none->Q (.ref p) (upd H p (.dK []))
def Qq:TE:=fun _ H Q=>∀p,H p=none->Q (.ref p) (upd H p (.dT []))
section
variable {X:Cx} {pos:Pos}
def y7:PE X (.Dict [] [] pos) Qr:=fun pins s σ H Q I h=>
 wpAny_Dict_empty ⟨.ref ↑s,_,I.laid (a:=↑s) (o:=.dK []) (t':=s.toks) (fun _ _ q=>yu _ q) (zk _) (NL s.heap I.big),rfl,h _ (I.bZ.fresh (zk _))⟩
def F5:PE X (.Dict [] [] pos) Qq:=fun pins s σ H Q I h=>
 wpAny_Dict_empty ⟨.ref ↑s,_,I.laid (a:=↑s) (o:=.dT []) (t':=s.toks) (fun _ _ q=>yu _ q) (zk _) (NJ s.heap I.big),rfl,h _ (I.bZ.fresh (zk _))⟩
end
structure M2 (X:Cx) (o:Expr) (m:Str) (apos:Pos) (e f:Expr) (cpos:Pos):Prop where
 base:attributeBase o m X.env (eval o X.env)=eval o X.env
 UP:((backTo cpos (starEach [e,f] X.env)).all (fun x=>!x.1)&&(backToKw cpos (keywordEach [] X.env)).all (fun x=>x.1.isSome)
  &&decide (([e,f]:List Expr).length+([]:List Keyword).length+(if([]:List Keyword).isEmpty then 0 else 1)<30))=true
 line:(apos.endLine == cpos.line)=true
 trees:backTo cpos (starEach [e,f] X.env)=[(false,eval e X.env),(false,eval f X.env)]
def UE (H:Hp) (a:Addr):Prop:=(∃kvs,Rd H a (.dK kvs))\/∃kvs,Rd H a (.dT kvs)
def Q8 (I:Inv X pins σ H s) (d:UE H a) :
  s.TypeIs (.ref a) "dict"/\(∀b,Value.ref a=.ref b->∃ob,s.heap.get? b=some ob/\ob.dict=none)/\(a == sysModules)=false:=by
 rcases d with⟨kvs,e⟩ | ⟨kvs,e⟩
 ·obtain⟨_,hd,vs,_,dd⟩:=vN I.bZ e
  refine⟨dd.typeIs,fun b q=>?_,hd⟩;cases q;obtain⟨ob,_,_,h1,h2,_⟩:=dd;exact⟨ob,h1,h2.2.1⟩
 ·obtain⟨_,hd,xs,_,dd⟩:=AB I.bZ e
  refine⟨dd.typeIs,fun b q=>?_,hd⟩;cases q;obtain⟨ob,_,_,h1,h2,_⟩:=dd;exact⟨ob,h1,h2.2.1⟩
section
variable {X:Cx} {pins:List (Addr×Obj)} {σ:St} {H:Hp} {s:Shared} {a:Addr} {y d:V} {u r:Value} {o:Option V} {A:Around} {E:Value->Shared->Prop}
def Rm (hu:A.units+1<cLine) (I:Inv X pins σ H s) (g:Fg H a y o) (ry:RelV y u) (rd:RelV d r) (h:∀w' s',Inv X pins σ H s'->RelV (o.getD d) w'->Q w' s') :
  wpAny (model X.prog X.w) A (call (.builtin "dict.get") [.ref a,u,r]) Q E s:=by
 rcases g with⟨kvs,k,e,ey,l⟩ | ⟨kvs,k,b,e,ey,eb,l⟩
 ·subst ey
  obtain⟨z,hd,vs,rel,dd⟩:=vN I.bZ e;refine call_meetsIn PySem.F.slot_dict_get dd.typeIs PySem.F.entry_dict_get (PySem.F.args_dict_get_3 _ _ _) (meets_dict_get_default (df X.prog X.w) a (CP ry) hd r) ⟨_,dd.mapOf,h _ _ (I.tok _) ?_⟩;rw[l];exact(rel.val k).getD rd
 ·subst ey
  cases(show u=Value.ref b from ry);obtain⟨z,hd,xs,rel,dd⟩:=AB I.bZ e;refine call_meetsIn PySem.F.slot_dict_get dd.typeIs PySem.F.entry_dict_get (PySem.F.args_dict_get_3 _ _ _) (meetsH_dict_get_default (tupleKind (df X.prog X.w)) a b hd r) ⟨tupleKind_room_in1 hu,k,xs,uK I.bZ eb,dd,h _ _ (I.tok _) ?_⟩;rw[l];exact(rel.val k).getD rd
end
def Qt (td ty tx:TE):TE:=fun σ H Q=>td σ H fun x H1=>∃a,x=.ref a/\UE H1 a/\ty σ H1 fun y H2=>tx σ H2 fun z H3=>∃o,Fg H3 a y o/\Q (o.getD z) H3
section
variable {X:Cx} {o e f:Expr} {apos cpos:Pos} {td ty tx:TE}
def M0 (hu:X.A.units+1<cLine) (ho:PE X o td) (he:PE X e ty) (hf:PE X f tx) (m:M2 X o "get" apos e f cpos):PE X (.Call (.Attribute o "get" apos) [e,f] [] cpos) (Qt td ty tx):=by
 intro pins s σ H Q I h;refine wpAny_Call_method m.base m.UP m.line PySem.F.plainAttrs_dict PySem.F.slot_dict_get PySem.F.type_dict_get (cU (ho pins s σ H _ I h) fun u s1 zz=>?_);obtain⟨x,H1,I1,rx,a,ex,d,q1⟩:=zz;subst ex;obtain rfl:u=Value.ref a:=rx;obtain⟨t1,t2,_⟩:=Q8 I1 d;refine⟨t1,t2,?_⟩;rw[m.trees];refine Calls.callWith_builtin rfl (Calls.evalArgs_plain (Calls.spliced_cons (cU (he pins s1 σ H1 _ I1 q1) fun iv s2 ⟨y,H2,I2,ry,q2⟩=>
  Calls.spliced_cons (cU (hf pins s2 σ H2 _ I2 q2) fun fv s3 ⟨z,H3,I3,rz,ov,g,q3⟩=>Calls.spliced_nil ?_))))
 exact Rm hu I3 g ry rz fun w' s4 I4 rw'=>⟨_,H3,I4,rw',q3⟩
end
section
variable {X:Cx} {pins:List (Addr×Obj)} {σ:St} {H:Hp} {s:Shared} {a:Addr} {kvs:List (Key×V)} {A:Around} {E:Value->Shared->Prop}
end
section
variable {X:Cx} {pins:List (Addr×Obj)} {σ:St} {H:Hp} {s:Shared} {a:Addr} {y:V} {u:Value} {A:Around} {E:Value->Shared->Prop}
end
end L2
namespace L2
open PySem PySem.Spec PyProof.Rows
section
variable {κ:Type} [DecidableEq κ]
end
end L2
namespace L2
open PySem PySem.Spec PyProof.Rows
def dM (σ₀:St) (g:TG) (tc:TT) (te:TE) (Q:VK) (J:It) (H1:Hp):Prop:=∃W:Nat->Nat->List V->St->Hp->Prop,(∃m,W 0 m [] σ₀ H1)/\∀i m xs σ' H',W i m xs σ' H'->
 (J.stop i H'/\xs.length<=sizeLine/\∀D,H' D=none->Q (.ref D) (upd H' D (.lst xs)))\/
 (J.go i H'/\xs.length<sizeLine/\∀x H2,J.Jz i H' x H2->g x σ' H2 fun σ3 H3=>tc σ3 H3 fun b H4=>if b=true then te σ3 H4 fun y H5=>∃m',m'<m/\W (i+1) m' (xs++[y]) σ3 H5 else∃m',m'<m/\W (i+1) m' xs σ3 H4)
def cQ (X:Cx) (N:List Str) (scope:Scope) (cl:List (Str×Addr)) (C:Addr) (s₀:Shared) (H₀:Hp) (ex:List Addr):Cx:=
 {X with N:=N,s₀:=s₀,H₀:=H₀,env:=compEnvC scope (cellsFrom (C+1) scope.names cl) C X.env,outer:=X.stack,stack:=X.stack,ex:=ex,fn:=fun x=>((cellsFrom (C+1) scope.names []).lookup x).isSome,pn:=[],xe:=fun _ _=>False}
def nK (fr:List (Option Nat)) (wi:TI) (g:TG) (tc:TT) (te:TE):TE:=fun σ H Q=>wi σ H fun J H1=>dM (fr.map fun o=>o.bind fun j=>(σ[j]?).join) g tc te Q J H1
def Pl (X:Cx) (ifs:List Expr) (tc:TT):Prop:=∀(pins:List (Addr×Obj)) (s:Shared) (σ:St) (H:Hp) (Q:Bool->Hp->Prop),Inv X pins σ H s->tc σ H Q->
 wpAny (model X.prog X.w) X.A (forIn ifs true fun c r=>if r=true then do let ok <-isTrue c X.env (eval c X.env);pure (ForInStep.yield ok) else pure (ForInStep.yield r)) (TP X pins σ Q) X.xe s
def vU:TT:=fun _ H Q=>Q true H
def bw:Pl X [] vU:=fun _ _ _ H _ I h=>wpAny_tests_nil ⟨H,I,h⟩
def fZ (h:PT X c tc):Pl X [c] tc:=fun pins s σ H Q I q=>wpAny_tests_one (h pins s σ H Q I q)
theorem di:∀(names:List (Str×NameKind)) (n:Nat) (acc:List (Str×Addr)),cellsFrom n names acc=cellsFrom n names []++acc
 | [],_,_=>rfl
 | (x,k)::r,n,acc=>by
  unfold cellsFrom;split
  ·rw[di r (n+1) ((x,n)::acc),di r (n+1) [(x,n)],zE];rfl
  ·exact di r n acc
def OQ {h:Heap} {lo:Nat} {cs:List (Str×Addr)} (ok:CellsOk h lo cs) {x y:Str} {c:Addr} (e:cs.lookup x=some c) (e':cs.lookup y=some c):x=y:=by
 have key:∀(l:List (Str×Addr)),l.Pairwise (fun x y=>x.2≠y.2)->(x,c)∈l->(y,c)∈l->x=y:=by
  intro l
  induction l with
  | nil=>intro _ h;cases h
  | cons p r ih=>
   intro hp h1 h2;rw[List.pairwise_cons] at hp;rcases zC.mp h1 with h1 | h1
   ·rcases zC.mp h2 with h2 | h2
    ·rw[<-h1] at h2;exact(Prod.mk.inj h2).1.symm
    ·exact absurd rfl (by have:=hp.1 _ h2;rw[<-h1] at this;exact this)
   ·rcases zC.mp h2 with h2 | h2
    ·exact absurd rfl (by have:=hp.1 _ h1;rw[<-h2] at this;exact this)
    ·exact ih hp.2 h1 h2
 exact key cs ok.apart (mem_of_lookup e) (mem_of_lookup e')
def Eg
  (hQ:∀g1:Heap,g1.Ns ↑s (fun _=>none)->(∀b o,s.heap.get? b=some o->g1.get? b=some o)->CellsOk g1 (↑s+1) (cellsFrom (↑s+1) scope.names [])->
   Q (newEnv scope ↑s globals (cellsFrom (↑s+1) scope.names cl) qual none .none (some outer) builtinsNs) {s with heap:=g1}) :
  wpAny M A (newFunctionEnv scope globals cl [] qual none .none (some outer)) Q E s:=by
 simp only[newFunctionEnv,Option.isSome_some,if_true];refine yt (wpAny_alloc ?_);refine yt (wpAny_layCells _ (fun name kind cells=>by cases hkc:kind == NameKind.cell <;> simp[hkc]) _ _ _ _ ?_);have ok:=cellsFrom_ok scope.names (s.heap.push {cls:=.type "dict",data:=.dict #[]}) (↑s+1) [] ⟨fun _ _ hm=>(nomatch hm),List.Pairwise.nil⟩ (by rw[Heap.size_push];exact zk _);rw[Heap.size_push] at ok;rw[show({s with heap:=s.heap.push {cls:=.type "dict",data:=.dict #[]}}:Shared).heap.objs.size=↑s+1 from Heap.size_push ..];exact yt (yv (yv (hQ _ ((Heap.Ns.new s.heap (.type "dict")).keeps (pushCells_keeps _ _)) (fun b o e=>pushCells_keeps _ _ b o (yu _ e)) ok)))
def Ja (I:Nat->Shared->Prop)
  (turn:∀n s,I n s->wpAny (model prog w) A (pyNext it) (fun r s1=>match r with
   | none=>R (.ok .next) s1
   | some v=>wpAny (model prog w) A (letOwnedTupleGo target it v) (fun _ s2=>wpAny (model prog w) A (assign target env v) (fun _ s3=>
     wpAny (model prog w) A (forIn ifs true fun c r=>if r=true then do let ok <-isTrue c env (eval c env);pure (ForInStep.yield ok) else pure (ForInStep.yield r)) (fun ok s3'=>if ok=true then wpAny (model prog w) A (eval elt env) (fun x s4=>
     wpAny (model prog w) A (call (.builtin "list.append") [acc,x]) (fun _ s5=>∃m,m<n/\I m s5) (fun _ _=>False) s4) (fun _ _=>False) s3' else∃m,m<n/\I m s3') (fun _ _=>False) s3) (fun _ _=>False) s2) (fun _ _=>False) s1) (fun _ _=>False) s)
  (n:Nat) (h:I n s):codeAny (model prog w) A (.compLoop (.ListComp elt [⟨target,iter,ifs,0⟩] scope pos) 0 it acc env) R s:=by
 refine codeAny_loop rfl I (fun n s hI=>?_) n h;show wpAny _ _ ((compTurn (.ListComp elt [⟨target,iter,ifs,0⟩] scope pos) 0 it acc env).onRaise (fun x=>do noteFrame x env;theTreesLotGoes x)) _ _ s;refine wpAny_noted ?_;rw[compTurn_list];have no:∀(E:Value->Shared->Prop) (x:Value) (s':Shared),False->E x s':=fun _ _ _ f=>f.elim;refine yt (wpAny_standAt (yt (wpAny_mono (turn n s hI) (fun r s1 h1=>?_) (no _))));cases r with
 | none=>exact yv h1
 | some v=>
  refine yt (wpAny_mono h1 (fun _ s2 h2=>yt (wpAny_mono h2 (fun _ s3 h3=>yt (wpAny_mono h3 (fun ok s3' h3'=>?_) (no _))) (no _))) (no _));cases ok with
  | false=>
   rw[if_neg ∅] at h3';exact yv ⟨rfl,h3'⟩
  | true=>
   rw[if_pos rfl] at h3';exact yt (yt (wpAny_mono h3' (fun x s4 h4=>yt (wpAny_mono h4 (fun _ s5 h5=>yv (yv ⟨rfl,h5⟩)) (no _))) (no _)))
section
variable {X:Cx} {pos:Pos}
def AV {elt target iter:Expr} {scope:Scope} {N:List Str} {fr:List (Option Nat)} {cl:List (Str×Addr)} {g:TG} {tc:TT} {te:TE} {ifs:List Expr} (hc:X.calm=true) (hsub:∀x c,cl.lookup x=some c->X.env.cells.lookup x=some c) (hhas:∀C x,((compEnvC scope cl C X.env).kindOf x=some .cell\/(compEnvC scope cl C X.env).kindOf x=some .free)->(∃c,cl.lookup x=some c)\/∃c,(cellsFrom (C+1) scope.names []).lookup x=some c)
  (hlen:fr.length=N.length) (hfr:∀(i:Nat) x j,N[i]?=some x->fr[i]?=some (some j)->X.N[j]?=some x/\Rr X.env.scope x/\X.env.kindOf x≠some .local/\(∀C,(compEnvC scope cl C X.env).kindOf x=some .cell\/(compEnvC scope cl C X.env).kindOf x=some .free)/\(∀c,X.env.cells.lookup x=some c->cl.lookup x=some c)/\∀C,(cellsFrom (C+1) scope.names []).lookup x=none) (hkind:scope.kind=.function)
  (hg:∀C s₀ H₀ ex,PG (cQ X N scope cl C s₀ H₀ ex) target g) (hif:∀C s₀ H₀ ex,Pl (cQ X N scope cl C s₀ H₀ ex) ifs tc) (he:∀C s₀ H₀ ex,PE (cQ X N scope cl C s₀ H₀ ex) elt te)
  {pins:List (Addr×Obj)} {σ:St} {s2:Shared} {it:Addr} {fp:List Addr} {tn:Nat->Heap->Prop} {J:It} {H2:Hp} {Q:VK} {RR:Value->Addr->Result->Shared->Prop} (I2:Inv X pins σ H2 s2) (T:Turn X.prog X.w X.K target J fp it tn) (st2:tn 0 s2.heap) (f2:∀b∈fp,rE X pins H2 b)
  (ok:dM (fr.map fun o=>o.bind fun j=>(σ[j]?).join) g tc te Q J H2)
  (fin:∀D C s4 H' xs,↑s2<=D->↑s2<=C->C≠D->Inv X pins σ (upd H' D (.lst xs)) s4->H' D=none->H' C=none->(∃m,s4.heap.Ns C m)->(∀D,H' D=none->Q (.ref D) (upd H' D (.lst xs)))->RR (.ref D) C (.ok .next) s4) :
  wpAny (model X.prog X.w) X.A (newList []) (fun acc s3=>wpAny (model X.prog X.w) X.A (newFunctionEnv scope X.env.globals cl [] X.env.qual none .none (some X.env)) (fun cenv s4=>
   codeAny (model X.prog X.w) X.A (.compStart (.ListComp elt [⟨target,iter,ifs,0⟩] scope pos) 0 (.ref it) acc {cenv with scope:=relabel scope X.env}) (RR acc cenv.locals) s4) X.xe s3) X.xe s2:=by
 obtain⟨W,⟨m0,w0⟩,turn⟩:=ok;refine wpAny_newObj_type (Eg fun g1 hns hold hown=>?_);dsimp only at hns hold hown ⊢;generalize hG:s2.heap.push {cls:=.type "list",dict:=none,data:=.seq ([]:List Value).toArray}=G2 at hns hold hown ⊢;have hC:G2.objs.size=↑s2+1:=by rw[<-hG,Heap.size_push]
 have below:∀b,b<↑s2->b≠G2.objs.size/\b≠↑s2:=fun b hb=>⟨by rw[hC];exact yi (Nat.lt_succ_of_lt hb),yi hb⟩
 have hDC:↑s2≠G2.objs.size:=by rw[hC];exact yi (Nat.lt_succ_self _)
 have old:∀b o,s2.heap.get? b=some o->g1.get? b=some o:=fun b o e=>hold b o (hG▸yu _ e);have hacc:g1.get? ↑s2=some {cls:=.type "list",data:=.seq ([]:List Value).toArray 0}:=hold _ _ (hG▸yw _ rfl);have hsC:↑s2<G2.objs.size:=by rw[hC];exact Nat.lt_succ_self _
 have csl:∀x c,(cellsFrom (G2.objs.size+1) scope.names cl).lookup x=some c->((cellsFrom (G2.objs.size+1) scope.names []).lookup x=some c/\G2.objs.size<c/\g1.IsCell c none)\/((cellsFrom (G2.objs.size+1) scope.names []).lookup x=none/\cl.lookup x=some c/\X.env.cells.lookup x=some c/\c<↑s2):=fun x c e=>by
  rw[di,List.lookup_append] at e;cases q:(cellsFrom (G2.objs.size+1) scope.names []).lookup x with
  | some d=>
   rw[q] at e;cases e;obtain⟨z1,z2⟩:=hown.empty x _ (mem_of_lookup q);exact .inl ⟨rfl,z2,z1⟩
  | none=>
   rw[q] at e;obtain⟨v,z⟩:=I2.cell x c (hsub x c e);exact .inr ⟨rfl,e,hsub x c e,z.lt⟩
 have fplt:∀b∈fp,b<↑s2:=fun b hb=>let ⟨o,e,_⟩:=T.obj _ _ st2 b hb;yx e;have Oa:∀b∈fp,∀x c,(cellsFrom (G2.objs.size+1) scope.names cl).lookup x=some c->c≠b:=fun b hb x c e=>by
  rcases csl x c e with⟨_,l,_⟩ | ⟨_,_,z,_⟩
  ·exact yh (Nat.lt_trans (fplt b hb) (Nat.lt_trans hsC l))
  ·exact(f2 b hb).2.2.2.2.1 x c z
 let Y:Cx:=cQ X N scope cl G2.objs.size s2 H2 fp
 have okY:Y.Ok:=by
  refine⟨I2.ok.mod,hkind,I2.ok.glob,I2.ok.blt,?_,fun x y c e e'=>?_,fun x hx=>?_,fun x c hf e=>?_,I2.ok.hd,I2.ok.frames,.inl rfl,fun b hb=>⟨(below b (fplt b hb)).1,fun x c e=>Oa b hb x c e⟩,I2.bs,zL I2.ok.LO I2.sz,fun b o e hb=>?_,fun b hb hf=>?_,I2.stack,I2.rJ⟩
  ·show ↑s2<=G2.objs.size
   rw[hC];exact Nat.le_succ _
  ·rcases csl x c e with⟨q,l,_⟩ | ⟨_,q,z,l⟩
   ·rcases csl y c e' with⟨q',l',_⟩ | ⟨_,q',z',l'⟩
    ·exact OQ hown q q'
    ·exact absurd (Nat.lt_trans (Nat.lt_trans hsC l) l') (ye _)
   ·rcases csl y c e' with⟨q',l',_⟩ | ⟨_,q',z',l'⟩
    ·exact absurd (Nat.lt_trans (Nat.lt_trans hsC l') l) (ye _)
    ·exact I2.ok.inj x y c z z'
  ·show∃c,(cellsFrom (G2.objs.size+1) scope.names cl).lookup x=some c
   rw[di,List.lookup_append];rcases hhas G2.objs.size x hx with⟨c,e⟩ | ⟨c,e⟩
   ·rw[e];cases(cellsFrom (G2.objs.size+1) scope.names []).lookup x with
    | none=>exact⟨c,rfl⟩
    | some d=>exact⟨d,rfl⟩
   ·rw[e];exact⟨c,rfl⟩
  ·have hf':((cellsFrom (G2.objs.size+1) scope.names []).lookup x).isSome=true:=hf
   rcases csl x c e with⟨q,l,_⟩ | ⟨q,_⟩
   ·exact yg (Nat.lt_trans hsC l)
   ·rw[q] at hf';cases hf'
  ·rcases(f2 b hb).2.2.2.1 with z | z
   ·exact I2.ok.wF b o e z
   ·exact absurd (yb (yx e) (zL I2.ok.LO z)) (ye _)
  ·rcases zC.mp (I2.Ds b hf) with z | z
   ·exact(f2 b hb).2.1 z
   ·exact(f2 b hb).2.2.1 z
 have cl2:∀x c,(cellsFrom (G2.objs.size+1) scope.names cl).lookup x=some c->(∃v,g1.IsCell c v)/\H2 c=none/\c≠↑s2:=fun x c e=>by
  rcases csl x c e with⟨_,l,z⟩ | ⟨_,_,z,l⟩
  ·exact⟨⟨_,z⟩,I2.bZ.fresh (yg (Nat.lt_trans hsC l)),yh (Nat.lt_trans hsC l)⟩
  ·obtain⟨v,oc,hoc,hd⟩:=I2.cell x c z
   exact⟨⟨v,oc,old _ _ hoc,hd⟩,I2.ke x c z,yi l⟩
 have Dfs:↑s2∉Y.fs:=fun hb=>by
  rcases zC.mp (I2.Ds _ hb) with z | z
  ·exact absurd (z▸I2.lt) (ye _)
  ·exact I2.R9 (zk _) z
 have hCf:H2 G2.objs.size=none:=I2.bZ.fresh (by rw[hC];exact Nat.le_succ _);have start:∀tk,Inv Y [(↑s2,{cls:=.type "list",data:=.seq ([]:List Value).toArray 0})] (fr.map fun o=>o.bind fun j=>(σ[j]?).join) H2 {s2 with heap:=g1,toks:=tk}:=fun tk=>
  ⟨okY,rfl,I2.bare,Un.kept old,⟨_,hns,fun i x v e1 e2 _=>by
    rw[zJ] at e2;cases ef:fr[i]? with
    | none=>rw[ef] at e2;cases e2
    | some o=>
     cases o with
     | none=>rw[ef] at e2;cases e2
     | some j=>
      rw[ef] at e2;have e2':(σ[j]?).join=some v:=by simpa using e2
      have ej:σ[j]?=some (some v):=by
       cases q:σ[j]? with
       | none=>rw[q] at e2';cases e2'
       | some w=>rw[q] at e2';cases w with
        | none=>cases e2'
        | some w=>cases e2';rfl
      obtain⟨k1,k2,k3,k4,k5,k6⟩:=hfr i x j e1 ef;obtain⟨m,_,hl⟩:=I2.loc;obtain⟨u,r,l⟩:=hl j x v k1 ej k2;refine⟨u,r,?_⟩;rcases l with l | ⟨_,c,ec,z⟩
      ·exact absurd l.1 k3
      ·obtain⟨oc,hoc,hd⟩:=z
       exact .inr ⟨k4 G2.objs.size,c,by show(cellsFrom (G2.objs.size+1) scope.names cl).lookup x=some c;rw[di,List.lookup_append,k6];exact k5 c ec,oc,old _ _ hoc,hd⟩⟩,
   fun x c e=>(cl2 x c e).1,hCf,fun x c e=>(cl2 x c e).2.1,
   fun p hp=>by
    have e:p=(↑s2,{cls:=.type "list",data:=.seq ([]:List Value).toArray 0}):=by simpa using (show p∈[]++[_] from hp)
    subst e;exact⟨hacc,I2.bZ.fresh (zk _),hDC,Dfs,fun v z=>by cases z⟩,I2.bZ.kept old,by rw[za,hlen];rfl⟩
 have stat:∀{H':Hp} {ob:Obj},(∀b∈fp,H' b=none)->∀b∈fp,rE Y [(↑s2,ob)] H' b:=fun {H' ob} hn b hb=>by
  refine⟨hn b hb,(below b (fplt b hb)).1,fun z=>okY.IK b hb z,.inl hb,Oa b hb,fun p hp=>?_⟩;have e:p=(↑s2,ob):=by simpa using (show p∈[]++[_] from hp)
  subst e;exact(below b (fplt b hb)).2.symm
 have loop:∀tk,codeAny (model X.prog X.w) X.A (.compLoop (.ListComp elt [⟨target,iter,ifs,0⟩] scope pos) 0 (.ref it) (.ref ↑s2) (compEnvC scope (cellsFrom (G2.objs.size+1) scope.names cl) G2.objs.size X.env))
   (RR (.ref ↑s2) G2.objs.size) {s2 with heap:=g1,toks:=tk}:=by
  intro tk;refine Ja (fun n s'=>∃i σ' H' xs its k,Inv Y [(↑s2,{cls:=.type "list",data:=.seq its.toArray k})] σ' H' s'/\tn i s'.heap/\(∀b∈fp,H' b=none)/\Vals xs its/\W i n xs σ' H') ?_ m0
   ⟨0,_,H2,[],[],0,start tk,T.keep _ _ _ st2 fun b _ o e=>old b o e,fun b hb=>(f2 b hb).1,.nil,w0⟩
  rintro n s3 ⟨i,σ3,H3,xs,its,k,I3,st3,fr3,rv3,w3⟩;rcases turn i n xs σ3 H3 w3 with⟨stop,hz,qn⟩ | ⟨go,hz,step⟩
  ·refine cU (T.done Y rfl rfl rfl hc i _ s3 σ3 H3 _ I3 (stat fr3) st3 stop) fun r s4 ⟨hr,I4⟩=>?_
   subst hr;obtain⟨m,hm,_⟩:=id I4.loc;obtain⟨pD,nD,neD,fD,_⟩:=I4.pin (↑s2,{cls:=.type "list",data:=.seq its.toArray k}) (by show _∈[]++[_];simp);refine fin ↑s2 G2.objs.size s4 H3 xs (zk _) (by rw[hC];exact Nat.le_succ _) hDC.symm (I2.NS (s':=s4) (ch:=fp) I4.os ?_ ?_ I4.bare (fun b hb=>⟨(f2 b hb).2.2.2.1,(f2 b hb).2.1,(f2 b hb).2.2.2.2.1,(f2 b hb).2.2.2.2.2⟩)) nD I4.free ⟨m,hm⟩ qn
   ·have ub:Un Y.fs Y.ex H2 H3 s2.heap s4.heap:=I4.base
    have lt:∀b o,s2.heap.get? b=some o->b≠G2.objs.size/\b≠↑s2:=fun b o e=>below b (yx e);refine⟨fun b o e n hb hx=>ub.keep b o e n hb hx,fun b o e n hb hx=>ub.slot b o e n hb hx,fun b o e n hx=>?_,fun b o e hx=>ub.there b o e hx,fun b ys e=>?_,fun b o u e=>?_,fun b ps e=>?_⟩
    ·rw[aD (lt b o e).2];exact ub.free b o e n hx
    ·have q:=ub.pC b ys e
     rw[aD (bo q nD)];exact q
    ·have q:=ub.nh b o u e
     rw[aD (bo q nD)];exact q
    ·obtain⟨more,q⟩:=ub.pE b ps e
     exact⟨more,by rw[aD (bo q nD)];exact q⟩
   ·intro b u e
    by_cases hb:b=↑s2
    ·subst hb;rw[aA] at e;cases e
     exact⟨hz,its,k,rv3,pD⟩
    ·rw[aD hb] at e
     exact(I4.bZ b u e).lH (fun c v hc' q=>q) (fun c q=>by rw[aD (bo q nD)];exact q) fun c ys q=>by rw[aD (bo q nD)];exact q
  ·refine cU (T.item Y rfl rfl rfl hc i _ s3 σ3 H3 _ I3 (stat fr3) st3 go) fun r s4 ⟨u,hr,h4⟩=>?_
   subst hr;refine cU h4 fun _ s5 zz=>?_;obtain⟨x,H5,I5,r5,y5,st5,fr5⟩:=zz;have I5':=I5.pinned (stat fr5) (T.obj _ _ st5);refine cU (hg G2.objs.size s2 H2 fp _ s5 σ3 H5 x u _ I5' r5 (step x H5 y5)) fun _ s6 ⟨σ6,H6,I6,q6⟩=>?_;refine cU (hif G2.objs.size s2 H2 fp _ s6 σ6 H6 _ I6 q6) fun b s6' ⟨H6',I6',q6'⟩=>?_;cases b with
   | false=>
    rw[if_neg ∅] at q6' ⊢;obtain⟨m',hm,w7⟩:=q6';have inD:(↑s2,({cls:=.type "list",data:=.seq its.toArray k}:Obj))∈Y.pn++([(↑s2,({cls:=.type "list",data:=.seq its.toArray k}:Obj))]++ux fp s5.heap):=by show _∈[]++_;simp
    obtain⟨pD,nD,neD,fD,dD⟩:=I6'.pin _ inD;have I7':Inv Y [] σ6 H6' s6':=I6'.oZ fun p hp=>nomatch hp;refine⟨m',hm,i+1,σ6,H6',xs,its,k,I7'.oZ fun p hp=>?_,T.keep _ _ _ st5 (fun b hb o e=>(I6'.pin (b,o) (zH _ (zH _ (gA hb e)))).1),fun b hb=>?_,rv3,w7⟩
    ·have e:p=(↑s2,{cls:=.type "list",data:=.seq its.toArray k}):=by simpa using hp
     subst e;exact⟨pD,nD,neD,fD,dD⟩
    ·obtain⟨o,e,d⟩:=T.obj _ _ st5 b hb
     exact(I6'.pin (b,o) (zH _ (zH _ (gA hb e)))).2.1
   | true=>
   rw[if_pos rfl] at q6' ⊢;refine cU (he G2.objs.size s2 H2 fp _ s6' σ6 H6' _ I6' q6') fun v s7 zz=>?_;obtain⟨y,H7,I7,r7,m',hm,w7⟩:=zz;have inD:(↑s2,({cls:=.type "list",data:=.seq its.toArray k}:Obj))∈Y.pn++([(↑s2,({cls:=.type "list",data:=.seq its.toArray k}:Obj))]++ux fp s5.heap):=by show _∈[]++_;simp
   obtain⟨pD,nD,neD,fD,dD⟩:=I7.pin _ inD;have hlen:=rv3.length;refine wpAny_list_append_plain (items:=its.toArray) (hsz:=by rw[ya];omega) ⟨k,pD⟩ fun g8 pl8 sb8=>?_;obtain⟨k8,e8⟩:=pl8;have I7':Inv Y [] σ6 H7 s7:=I7.oZ fun p hp=>nomatch hp;have I8:Inv Y [] σ6 H7 {s7 with heap:=g8}:=I7'.turned (t':=s7.toks) (fun b o hb e=>sb8.extBut b o hb e) nD neD (.inr (zk _)) (fun x c e=>(cl2 x c e).2.2) (fun p hp=>(nomatch (show p∈([]:List (Addr×Obj)) from hp)));have e8':g8.get? ↑s2=some {cls:=.type "list",data:=.seq (its++[v]).toArray k8}:=by rw[e8];simp
   have fpD:∀b∈fp,∀o,s5.heap.get? b=some o->g8.get? b=some o:=fun b hb o e=>sb8.extBut b o (below b (fplt b hb)).2 (I7.pin (b,o) (zH _ (zH _ (gA hb e)))).1;refine⟨m',hm,i+1,σ6,H7,xs++[y],its++[v],k8,I8.oZ fun p hp=>?_,T.keep _ _ _ st5 fpD,fun b hb=>?_,rv3.append (.cons r7 .nil),w7⟩
   ·have e:p=(↑s2,{cls:=.type "list",data:=.seq (its++[v]).toArray k8}):=by simpa using hp
    subst e;exact⟨e8',nD,neD,fD,fun v z=>by cases z⟩
   ·obtain⟨o,e,d⟩:=T.obj _ _ st5 b hb
    exact(I7.pin (b,o) (zH _ (zH _ (gA hb e)))).2.1
 exact codeAny_compStart_list (loop _) (T.self _ _ _ _ _ (T.keep _ _ _ st2 fun b _ o e=>old b o e) (loop _))
def KN {elt target iter:Expr} {scope:Scope} {N:List Str} {fr:List (Option Nat)} {cl:List (Str×Addr)} {wi:TI} {g:TG} {tc:TT} {te:TE} {ifs:List Expr} (hc:X.calm=true) (hclos:closureFor scope X.env=pure cl) (hsub:∀x c,cl.lookup x=some c->X.env.cells.lookup x=some c) (hhas:∀C x,((compEnvC scope cl C X.env).kindOf x=some .cell\/(compEnvC scope cl C X.env).kindOf x=some .free)->(∃c,cl.lookup x=some c)\/∃c,(cellsFrom (C+1) scope.names []).lookup x=some c)
  (hlen:fr.length=N.length) (hfr:∀(i:Nat) x j,N[i]?=some x->fr[i]?=some (some j)->X.N[j]?=some x/\Rr X.env.scope x/\X.env.kindOf x≠some .local/\(∀C,(compEnvC scope cl C X.env).kindOf x=some .cell\/(compEnvC scope cl C X.env).kindOf x=some .free)/\(∀c,X.env.cells.lookup x=some c->cl.lookup x=some c)/\∀C,(cellsFrom (C+1) scope.names []).lookup x=none) (hkind:scope.kind=.function)
  (hnames:∀y∈scope.names,y.2=.local->scope.names.lookup y.1=some .local) (hi:PI X target iter wi)
  (hg:∀C s₀ H₀ ex,PG (cQ X N scope cl C s₀ H₀ ex) target g) (hif:∀C s₀ H₀ ex,Pl (cQ X N scope cl C s₀ H₀ ex) ifs tc) (he:∀C s₀ H₀ ex,PE (cQ X N scope cl C s₀ H₀ ex) elt te) (hs:(∀x,foldedSetIterable iter X.env x=pure x)<|>qd_) :
  PE X (.ListComp elt [⟨target,iter,ifs,0⟩] scope pos) (nK fr wi g tc te):=by
 intro pins s σ H Q I h;rw[eval_ListComp];refine wpAny_comprehension_free (use:=none) (cl:=cl) rfl hs hclos hkind hnames (cU (hi pins s σ H _ I h) fun xv s1 h1=>cU h1 fun itv s2 h2=>?_);obtain⟨it,fp,tn,J,H2,e,I2,T,st2,f2,ok⟩:=h2;subst e;refine AV (RR:=fun acc C=>compPost (model X.prog X.w) X.A X.xe none (EP X pins σ Q) acc C) hc hsub hhas hlen hfr hkind hg hif he I2 T st2 f2 ok ?_;intro D C s4 H' xs hD hC hne I4 nD nC ⟨m,hm⟩ qn;refine⟨m,hm,fun g5 hs5=>⟨.ref D,upd H' D (.lst xs),I2.Sf hC I4 (by rw[aD hne];exact nC) hs5,rfl,qn D nD⟩⟩
def KH {elt target iter:Expr} {scope:Scope} {N:List Str} {fr:List (Option Nat)} {cl:List (Str×Addr)} {wi:TI} {g:TG} {tc:TT} {te:TE} {ifs:List Expr} (hc:X.calm=true) (hclos:closureFor scope X.env=pure cl) (hsub:∀x c,cl.lookup x=some c->X.env.cells.lookup x=some c) (hhas:∀C x,((compEnvC scope cl C X.env).kindOf x=some .cell\/(compEnvC scope cl C X.env).kindOf x=some .free)->(∃c,cl.lookup x=some c)\/∃c,(cellsFrom (C+1) scope.names []).lookup x=some c)
  (hlen:fr.length=N.length) (hfr:∀(i:Nat) x j,N[i]?=some x->fr[i]?=some (some j)->X.N[j]?=some x/\Rr X.env.scope x/\X.env.kindOf x≠some .local/\(∀C,(compEnvC scope cl C X.env).kindOf x=some .cell\/(compEnvC scope cl C X.env).kindOf x=some .free)/\(∀c,X.env.cells.lookup x=some c->cl.lookup x=some c)/\∀C,(cellsFrom (C+1) scope.names []).lookup x=none) (hkind:scope.kind=.function)
  (hnames:∀y∈scope.names,y.2=.local->scope.names.lookup y.1=some .local) (hi:PI X target iter wi)
  (hg:∀C s₀ H₀ ex,PG (cQ X N scope cl C s₀ H₀ ex) target g) (hif:∀C s₀ H₀ ex,Pl (cQ X N scope cl C s₀ H₀ ex) ifs tc) (he:∀C s₀ H₀ ex,PE (cQ X N scope cl C s₀ H₀ ex) elt te) (hs:(∀x,foldedSetIterable iter X.env x=pure x)<|>qd_)  {i:Nat} {x:Str} {ps pa:Pos} (hN:X.N.Nodup) (hx1:X.N[i]?=some x) (hx2:Loc X.env.scope x) (hsw:swapsWith (.ListComp elt [⟨target,iter,ifs,0⟩] scope pos) (some (.Name x ps)) pa.line X.env=pure true<|>qe_)
  (hf:X.fn x=true\/X.env.scope.names.lookup x=some .local<|>qa_) :
  PS X (.Assign [.Name x ps] (.ListComp elt [⟨target,iter,ifs,0⟩] scope pos) pa) (Fz (nK fr wi g tc te) (bV i)):=by
 intro pins s σ H D I h;rw[exec_Assign_Name_used _ _ _ _ hsw];refine yt (wpAny_standAt (yt ?_));show wpAny _ X.A (do let _ <-comprehension (.ListComp elt [⟨target,iter,ifs,0⟩] scope pos) scope X.env _ (newList []) false (eval iter X.env) (some (assign (.Name x ps) X.env))) _ _ s;refine yt (wpAny_mono (wpAny_comprehension_free (use:=some (assign (.Name x ps) X.env)) (cl:=cl) (Q:=fun _ s'=>SP X pins D .next s') rfl hs hclos hkind hnames (cU (hi pins s σ H _ I h) fun xv s1 h1=>cU h1 fun itv s2 h2=>?_)) (fun _ s' hq=>yv (yv hq)) fun _ _ e=>e);obtain⟨it,fp,tn,J,H2,e,I2,T,st2,f2,ok⟩:=h2;subst e;refine AV (RR:=fun acc C=>compPost (model X.prog X.w) X.A X.xe (some (assign (.Name x ps) X.env)) (fun _ s'=>SP X pins D .next s') acc C) hc hsub hhas hlen hfr hkind hg hif he I2 T st2 f2 ok ?_;intro E C s4 H' xs hE hC hne I4 nE nC ⟨m,hm⟩ qn;show wpAny _ X.A (assign (.Name x ps) X.env (.ref E)) _ _ s4;refine wpAny_assign_Name (Cw I4 hN hx1 hx2 (v:=.ref E) rfl (fun s5 I5 hw=>?_) hf);obtain⟨aw,sb,ha⟩:=hw;have hCn:(upd H' E (.lst xs)) C=none:=by rw[aD hne];exact nC
 obtain⟨f0,f1,f2',f3,f4,f5⟩:=I2.uM hC hCn;have neC:C≠aw:=by
  rcases ha with z | z
  ·rw[z];exact f1
  ·exact fun q=>f4 x aw z q.symm
 refine⟨m,hm.sameBut sb neC,fun g6 hs6=>?_⟩;exact⟨_,_,I2.Sf hC I5 hCn hs6,qn E nE⟩
end
def E8 (cells:List (Str×Addr)):List (Str×Addr)->Prop
 | []=>True
 | p::r=>cells.lookup p.1=some p.2/\E8 cells r
theorem E8.sub:∀{cl:List (Str×Addr)},E8 cells cl->∀x c,cl.lookup x=some c->cells.lookup x=some c
 | [],_,x,c,e=>by cases e
 | (y,d)::r,h,x,c,e=>by
  rw[yp] at e;split at e
  ·rename_i q
   cases e;rw[eq_of_beq q];exact h.1
  ·exact E8.sub h.2 x c e
def LL (X:Cx) (scope:Scope) (cl:List (Str×Addr)):List Str->List Nat->Prop
 | [],[]=>True
 | y::ys,j::js=>(X.N[j]?=some y/\(X.env.kindOf y=some .cell\/X.env.kindOf y=some .free)/\((relabel scope X.env).names.lookup y=some .cell\/(relabel scope X.env).names.lookup y=some .free)/\∃c,X.env.cells.lookup y=some c/\cl.lookup y=some c)/\LL X scope cl ys js
 | _,_=>False
theorem LL.len:∀{ys:List Str} {js:List Nat},LL X scope cl ys js->js.length=ys.length
 | [],[],_=>rfl
 | _::_,_::_,h=>by rw[zt,zt,LL.len h.2]
 | [],_::_,h=>h.elim
 | _::_,[],h=>h.elim
theorem LL.get:∀{ys:List Str} {js:List Nat} {i:Nat} {y:Str} {j:Nat},LL X scope cl ys js->ys[i]?=some y->js[i]?=some j->
  X.N[j]?=some y/\(X.env.kindOf y=some .cell\/X.env.kindOf y=some .free)/\((relabel scope X.env).names.lookup y=some .cell\/(relabel scope X.env).names.lookup y=some .free)/\∃c,X.env.cells.lookup y=some c/\cl.lookup y=some c
 | [],_,_,_,_,_,e,_=>by simp at e
 | _::_,[],_,_,_,h,_,_=>h.elim
 | y::ys,j::js,0,_,_,h,e,e'=>by simp at e e';subst e e';exact h.1
 | y::ys,j::js,i+1,_,_,h,e,e'=>LL.get (i:=i) h.2 (by simpa using e) (by simpa using e')
theorem Jc:∀{names:List (Str×NameKind)} {n:Nat} {x:Str} {c:Addr},(cellsFrom n names []).lookup x=some c->(x,NameKind.cell)∈names
 | [],_,_,_,e=>by cases e
 | (y,k)::r,n,x,c,e=>by
  unfold cellsFrom at e;split at e
  ·rename_i hk
   rw[di,List.lookup_append] at e;cases q:(cellsFrom (n+1) r []).lookup x with
   | some d=>exact zm _ (Jc q)
   | none=>
    rw[q] at e;have e':([(y,n)]:List (Str×Addr)).lookup x=some c:=e;rw[yp] at e';split at e'
    ·rename_i z
     rw[eq_of_beq z,eq_of_beq hk];exact zp
    ·cases e'
  ·exact zm _ (Jc e)
theorem Jd:∀{names:List (Str×NameKind)} {n:Nat} {x:Str},(x,NameKind.cell)∈names->∃c,(cellsFrom n names []).lookup x=some c
 | [],_,_,h=>by cases h
 | (y,k)::r,n,x,h=>by
  unfold cellsFrom;split
  ·rw[di,List.lookup_append]
   cases q:(cellsFrom (n+1) r []).lookup x with
   | some d=>exact⟨d,rfl⟩
   | none=>
    rcases zC.mp h with h | h
    ·obtain⟨e1,_⟩:=Prod.mk.inj h
     exact⟨n,by show([(y,n)]:List (Str×Addr)).lookup x=some n;rw[e1,yp,beq_self_eq_true]⟩
    ·obtain⟨c,e⟩:=Jd (n:=n+1) h
     rw[q] at e;cases e
  ·rename_i hk
   rcases zC.mp h with h | h
   ·cases h;exact absurd rfl hk
   ·exact Jd h
theorem vI:∀{L:List (Str×NameKind)} {x:Str} {k:NameKind},L.lookup x=some k->(x,k)∈L
 | [],_,_,h=>by cases h
 | (y,j)::r,x,k,h=>by
  rw[yp] at h;split at h
  ·rename_i q;cases h;rw[eq_of_beq q];exact zp
  ·exact zm _ (vI h)
section
variable {X:Cx} {pos:Pos} {elt target iter:Expr} {ifs:List Expr} {scope:Scope} {ts ys:List Str} {js:List Nat} {cl:List (Str×Addr)} {wi:TI} {g:TG} {tc:TT} {te:TE}
def C5 (hcl:E8 X.env.cells cl) (hLo:((relabel scope X.env).names.all fun p=>(p.2 != .cell&&p.2 != .free)||ys.contains p.1||scope.names.contains (p.1,.cell))=true) (hno:∀p∈scope.names,p.2=.cell->p.1∉ys) (hfr:LL X scope cl ys js) :
  (∀(C:Addr) x,((compEnvC scope cl C X.env).kindOf x=some .cell\/(compEnvC scope cl C X.env).kindOf x=some .free)->(∃c,cl.lookup x=some c)\/∃c,(cellsFrom (C+1) scope.names []).lookup x=some c)/\
  (ts.map (fun _=>(none:Option Nat))++js.map some).length=(ts++ys).length/\
  (∀(i:Nat) x j,(ts++ys)[i]?=some x->(ts.map (fun _=>(none:Option Nat))++js.map some)[i]?=some (some j)->X.N[j]?=some x/\Rr X.env.scope x/\X.env.kindOf x≠some .local/\(∀C,(compEnvC scope cl C X.env).kindOf x=some .cell\/(compEnvC scope cl C X.env).kindOf x=some .free)/\(∀c,X.env.cells.lookup x=some c->cl.lookup x=some c)/\∀C,(cellsFrom (C+1) scope.names []).lookup x=none):=by
 refine⟨fun C x hx=>?_,by simp[LL.len hfr],fun i x j h1 h2=>?_⟩
 ·have key:∀k,(relabel scope X.env).names.lookup x=some k->(k=.cell\/k=.free)->(∃c,cl.lookup x=some c)\/∃c,(cellsFrom (C+1) scope.names []).lookup x=some c:=fun k hk hk'=>by
   have:=(yo.mp hLo) _ (vI hk);rw[Bool.or_eq_true,Bool.or_eq_true] at this;rcases this with(z | z) | z
   ·rcases hk' with rfl | rfl <;> simp at z
   ·have hm:x∈ys:=List.contains_iff_mem.mp z
    obtain⟨n,hn⟩:=List.getElem?_of_mem hm;have hl:n<js.length:=by rw[hfr.len];exact(zw.mp hn).1
    obtain⟨_,_,_,c,_,e⟩:=hfr.get hn (zb hl);exact .inl ⟨c,e⟩
   ·exact .inr (Jd (List.contains_iff_mem.mp z))
  rcases hx with hx | hx
  ·exact key _ hx (.inl rfl)
  ·exact key _ hx (.inr rfl)
 ·have hi:ts.length<=i:=by
   rcases Nat.lt_or_ge i ts.length with h | h
   ·rw[List.getElem?_append_left (by simpa using h),zJ] at h2
    cases q:ts[i]? with
    | none=>rw[q] at h2;cases h2
    | some z=>rw[q] at h2;cases h2
   ·exact h
  rw[zZ hi] at h1;rw[zZ (by simpa using hi),za,zJ] at h2;have h2':js[i-ts.length]?=some j:=by
   cases q:js[i-ts.length]? with
   | none=>rw[q] at h2;cases h2
   | some z=>rw[q] at h2;cases h2;rfl
  obtain⟨k1,k2,k3,c,k4,k5⟩:=hfr.get h1 h2';refine⟨k1,.inr k2,fun z=>?_,fun C=>k3,fun d hd=>?_,fun C=>?_⟩
  ·rcases k2 with k2 | k2 <;> (rw[z] at k2;cases k2)
  ·rw[k4] at hd;cases hd;exact k5
  ·cases q:(cellsFrom (C+1) scope.names []).lookup x with
   | none=>rfl
   | some d=>exact absurd (zB h1) (hno _ (Jc q) rfl)
def M1 (hc:X.calm=true) (hclos:closureFor scope X.env=pure cl) (hcl:E8 X.env.cells cl) (hLo:((relabel scope X.env).names.all fun p=>(p.2 != .cell&&p.2 != .free)||ys.contains p.1||scope.names.contains (p.1,.cell))=true) (hno:∀p∈scope.names,p.2=.cell->p.1∉ys) (hfr:LL X scope cl ys js) (hkind:scope.kind=.function)
  (hnames:∀y∈scope.names,y.2=.local->scope.names.lookup y.1=some .local) (hi:PI X target iter wi)
  (hg:∀C s₀ H₀ ex,PG (cQ X (ts++ys) scope cl C s₀ H₀ ex) target g) (hif:∀C s₀ H₀ ex,Pl (cQ X (ts++ys) scope cl C s₀ H₀ ex) ifs tc) (he:∀C s₀ H₀ ex,PE (cQ X (ts++ys) scope cl C s₀ H₀ ex) elt te) (hs:(∀x,foldedSetIterable iter X.env x=pure x)<|>qd_) :
  PE X (.ListComp elt [⟨target,iter,ifs,0⟩] scope pos) (nK (ts.map (fun _=>none)++js.map some) wi g tc te):=by
 obtain⟨a,b,c⟩:=C5 (ts:=ts) hcl hLo hno hfr;exact KN hc hclos hcl.sub a b c hkind hnames hi hg hif he hs
def MR (hc:X.calm=true) (hclos:closureFor scope X.env=pure cl) (hcl:E8 X.env.cells cl) (hLo:((relabel scope X.env).names.all fun p=>(p.2 != .cell&&p.2 != .free)||ys.contains p.1||scope.names.contains (p.1,.cell))=true) (hno:∀p∈scope.names,p.2=.cell->p.1∉ys) (hfr:LL X scope cl ys js) (hkind:scope.kind=.function)
  (hnames:∀y∈scope.names,y.2=.local->scope.names.lookup y.1=some .local) (hi:PI X target iter wi)
  (hg:∀C s₀ H₀ ex,PG (cQ X (ts++ys) scope cl C s₀ H₀ ex) target g) (hif:∀C s₀ H₀ ex,Pl (cQ X (ts++ys) scope cl C s₀ H₀ ex) ifs tc) (he:∀C s₀ H₀ ex,PE (cQ X (ts++ys) scope cl C s₀ H₀ ex) elt te) (hN:X.N.Nodup) (hx1:X.N[i]?=some x) (hx2:Loc X.env.scope x) (hs:(∀x,foldedSetIterable iter X.env x=pure x)<|>qd_) (hsw:swapsWith (.ListComp elt [⟨target,iter,ifs,0⟩] scope pos) (some (.Name x ps)) pa.line X.env=pure true<|>qe_)
  (hf:X.fn x=true\/X.env.scope.names.lookup x=some .local<|>qa_) :
  PS X (.Assign [.Name x ps] (.ListComp elt [⟨target,iter,ifs,0⟩] scope pos) pa) (Fz (nK (ts.map (fun _=>none)++js.map some) wi g tc te) (bV i)):=by
 obtain⟨a,b,c⟩:=C5 (ts:=ts) hcl hLo hno hfr;exact KH hc hclos hcl.sub a b c hkind hnames hi hg hif he hs hN hx1 hx2 hsw hf
end
def HF (n:Nat) (f:Nat->List V) (Pv:Nat->St->Hp->Prop) (i m:Nat) (xs:List V) (σ:St) (H:Hp):Prop:=m=n-i/\i<=n/\xs=f i/\Pv i σ H
def HF.push (hi:i<n) (e:f (i+1)=f i++[y]) (p:Pv (i+1) σ H):∃m',m'<n-i/\HF n f Pv (i+1) m' (f i++[y]) σ H:=⟨n-(i+1),nofun,rfl,hi,e.symm,p⟩
def HF.skip (hi:i<n) (e:f (i+1)=f i) (p:Pv (i+1) σ H):∃m',m'<n-i/\HF n f Pv (i+1) m' (f i) σ H:=⟨n-(i+1),nofun,rfl,hi,e.symm,p⟩
def oP (n:Nat) (f:Nat->List V) (Pv:Nat->St->Hp->Prop) (hz:∀i,i<=n->(f i).length<=i) (hn:n<=sizeLine) (f0:f 0=[]) (h0:Pv 0 σ₀ H1)
  (go:∀i σ H,i<n->Pv i σ H->J.go i H) (stop:∀σ H,Pv n σ H->J.stop n H)
  (turn:∀i x σ H H2,i<n->Pv i σ H->J.Jz i H x H2->g x σ H2 fun σ3 H3=>tc σ3 H3 fun b H4=>if b=true then te σ3 H4 fun y H5=>∃m',m'<n-i/\HF n f Pv (i+1) m' (f i++[y]) σ3 H5 else∃m',m'<n-i/\HF n f Pv (i+1) m' (f i) σ3 H4)
  (fin:∀σ H,Pv n σ H->∀D,H D=none->Q (.ref D) (upd H D (.lst (f n)))):dM σ₀ g tc te Q J H1:=by
 refine⟨HF n f Pv,⟨n,by simp,yf _,f0.symm,h0⟩,?_⟩;rintro i m xs σ H ⟨rfl,hi,rfl,p⟩;have:=hz i hi;rcases Nat.lt_or_ge i n with hlt | hge
 ·exact .inr ⟨go i σ H hlt p,nofun,fun x H2 y=>turn i x σ H H2 hlt p y⟩
 ·have e:i=n:=nofun
  subst e;exact .inl ⟨stop σ H p,nofun,fin σ H p⟩
section
variable {X:Cx}
def DQ (bs:List Bool):((List.range bs.length).any fun i=>(bs[i]?).getD false)=bs.any id:=by
 rw[Bool.eq_iff_iff,yn,yn];constructor
 ·rintro⟨i,hi,e⟩
  have hi':=List.mem_range.mp hi;rw[zb hi'] at e;exact⟨_,yk hi',e⟩
 ·rintro⟨b,hb,e⟩
  obtain⟨i,hi,e'⟩:=List.mem_iff_getElem.mp hb;exact⟨i,List.mem_range.mpr hi,by rw[zb hi,e'];exact e⟩
def gI (hc:X.calm=true):fB X (.builtin "any") (fun xs H Q=>∃(a:Addr) (bs:List Bool),xs=[.ref a]/\aG X.K H a (bs.map V.bl)/\Q (.bl (bs.any id)) H):=by
 intro pins s σ H xs us Q I r h;obtain⟨a,bs,e,hq,q⟩:=h;subst e;cases r with
 | cons r rr=>
  cases rr;cases r;obtain⟨its,rv,p,hz⟩:=I.list hq;have hlt:a<↑s:=by obtain⟨o,n,e,_⟩:=p;exact yx e
  have hlen:bs.length=its.length:=by have:=rv.length;rw[za] at this;exact this
  refine call_any_walk (wpAny_pyIter_list p.isList ?_);refine⟨↑s,[↑s,a],[↑s],its.toArray.size,_,_,fun i=>(bs[i]?).getD false,rfl,Walks.list (A:=X.A.in1) (I.ok.hd hc) _ a (yi hlt) its.toArray,
   ⟨⟨_,yw _ rfl,rfl,rfl⟩,p.isList.push _⟩,fun i v s' Q' E' hP hQ=>?_,fun h' tk hk=>?_⟩
  ·have hP':its[i]?=some v:=by simpa using hP
   have hi:i<bs.length:=by rw[hlen];exact(zw.mp hP').1
   have hm:(bs.map V.bl)[i]?=some (.bl bs[i]):=by rw[zJ,zb hi];rfl
   obtain⟨u,hu,ru⟩:=rv.get hm;rw[hP'] at hu;cases hu;cases ru;dsimp only at hQ;rw[zb hi] at hQ;exact wpAny_truthy_bool hQ
  ·have e:((List.range its.toArray.size).any fun i=>(bs[i]?).getD false)=bs.any id:=by rw[ya,<-hlen];exact DQ bs
   rw[e];exact⟨.bl _,H,I.kept fun b o x=>hk b o (fun hm=>by rw[zy.mp hm] at x;exact ye _ (yx x)) (yu _ x),rfl,q⟩
def vF (ns:List Int):∀k,k<=ns.length->preSum (fun i=>(ns[i]?).getD 0) k=(ns.take k).sum:=by
 intro k
 induction k with
 | zero=>intro _;simp[preSum]
 | succ k ih=>
  intro hk;have hk':k<ns.length:=hk;have e:=ih (yg hk');rw[List.take_succ,List.sum_append,<-e,zb hk'];simp[preSum,zb hk']
def Ln (hc:X.calm=true):fB X (.builtin "sum") (fun xs H Q=>∃(a:Addr) (ns:List Int),xs=[.ref a]/\aG X.K H a (ns.map V.int)/\(∀n∈ns,0<=n/\n<1000000)/\ns.length<=1000/\Q (.int ns.sum) H):=by
 intro pins s σ H xs us Q I r h;obtain⟨a,ns,e,hq,hb,hl,q⟩:=h;subst e;cases r with
 | cons r rr=>
  cases rr;cases r;obtain⟨its,rv,p,hz⟩:=I.list hq;have hlt:a<↑s:=by obtain⟨o,n,e,_⟩:=p;exact yx e
  have hlen:ns.length=its.length:=by have:=rv.length;rw[za] at this;exact this
  have bnd:∀k,k<=ns.length->0<=(ns.take k).sum/\(ns.take k).sum<=1000000*k:=by
   intro k
   induction k with
   | zero=>intro _;simp
   | succ k ih=>
    intro hk;have hk':k<ns.length:=hk;have:=ih (yg hk');rw[List.take_succ,List.sum_append,zb hk'];have hb':=hb _ (yk hk');simp only[Option.toList_some,List.sum_cons,List.sum_nil];omega
  refine call_sum_walk (wpAny_pyIter_list p.isList ?_);refine⟨↑s,[↑s,a],[↑s],its.toArray.size,_,_,fun i=>(ns[i]?).getD 0,rfl,Walks.list (A:=X.A.in1) (I.ok.hd hc) _ a (yi hlt) its.toArray,
   ⟨⟨_,yw _ rfl,rfl,rfl⟩,p.isList.push _⟩,fun b hb'=>?_,fun i v hP=>?_,fun j hj=>?_,fun h' tk t' hk=>?_⟩
  ·rw[Heap.size_push]
   rcases zC.mp hb' with e | e
   ·rw[e];exact Nat.lt_succ_self _
   ·rw[zy.mp e];exact Nat.lt_succ_of_lt hlt
  ·have hP':its[i]?=some v:=by simpa using hP
   have hi:i<ns.length:=by rw[hlen];exact(zw.mp hP').1
   have hm:(ns.map V.int)[i]?=some (.int ns[i]):=by rw[zJ,zb hi];rfl
   obtain⟨u,hu,ru⟩:=rv.get hm;rw[hP'] at hu;cases hu;dsimp only;rw[zb hi];exact ru
  ·have hj':j<ns.length:=by rw[hlen];simpa using hj
   have b1:=hb _ (yk hj');have b2:=bnd (j+1) hj';rw[vF ns (j+1) hj'];dsimp only;rw[zb hj'];simp only[Option.getD_some];constructor <;> (unfold InLong;omega)
  ·have e:preSum (fun i=>(ns[i]?).getD 0) its.toArray.size=ns.sum:=by rw[ya,<-hlen,vF ns _ (zk _),zM]
   rw[e];exact⟨.int _,H,I.kept fun b o x=>hk b o (fun hm=>by rw[zy.mp hm] at x;exact ye _ (yx x)) (yu _ x),⟨_,rfl⟩,q⟩
end
section
variable {prog:Program} {w:World} {A:Around} {E:Value->Shared->Prop} {s:Shared}
def B7 (hl:IsTup s.heap l vs.toArray)
  (h:Q vs {s with heap:=(s.heap.push (seqObj "list" #[] 0)).update ↑s (Obj.mapSeq (·++vs.toArray))}) (hsz:vs.length<=sizeLine) :
  wpAny (model prog w) A (collect (.ref l)) Q E s:=by
 obtain⟨o,ho,hc,n,hd⟩:=id hl;unfold collect;refine yt (wpAny_runValue (codeAny_builtin entry_proto_collect' ?_));show wpAny _ _ (do again (.builtin "list.__iadd__" ⟨[<-newList [],.ref l],[]⟩)) _ _ s;refine yt (wpAny_newList (yv ⟨Code.quiet_builtin _ (by decide +kernel),codeAny_builtin entry_list_iadd' ?_⟩));show wpAny _ _ (Builtin.List.listExtendWith (.ref ↑s) (.ref l) (.ref ↑s)) _ _ {s with heap:=s.heap.push (seqObj "list" #[] 0)};unfold Builtin.List.listExtendWith;have ho':(s.heap.push (seqObj "list" #[] 0)).get? l=some o:=yu _ ho;refine yt (wpAny_typeOf (T:="tuple") ⟨o,ho',hc⟩ ?_);have ht:(Value.type "tuple"== Value.type "tuple")=true:=by rfl
 rw[if_pos (by rw[ht];simp)];refine yt (listItems_at ho' hd ?_);refine yt (listItems_at (xs:=#[]) (n:=0) (yw _ rfl) rfl ?_);rw[if_neg (by simp)];refine yt (listUpdate_at (xs:=#[]) (n:=0) (yw _ rfl) rfl ?_ (yf _) (by show(#[]++vs.toArray).size<=sizeLine+1;simp only[Array.size_append,ya,List.length_nil];omega));refine yv ?_;show wpAny (model prog w) A (do
   let o <-load ↑s
   match o.data with
   | .seq xs _=>pure xs.toList
   | _=>unsupported "internal:collect") Q E {s with heap:=(s.heap.push (seqObj "list" #[] 0)).update ↑s (Obj.mapSeq (·++vs.toArray))}
 refine yt (wpAny_load (get?_update_seq (yw _ rfl) _) ?_);show wpAny _ _ (pure ((#[]:Array Value)++vs.toArray).toList) Q E _;rw[show((#[]:Array Value)++vs.toArray).toList=vs by simp];exact yv h
def HY (hl:IsTup s.heap l vs.toArray) (hI:IntsAre vs ns) (h64:vs.length<64)
  (h:∀(out:Array Value) (ns':List Int),IntsAre out.toList ns'->ns'.Perm ns->ns'.Pairwise (·<=·)->Q (.ref (↑s+1)) {s with heap:=sortedAll s.heap vs out}) :
  wpAny (model prog w) A (call (.builtin "sorted") [.ref l]) Q E s:=by
 refine Calls.call_function_entry kind_sorted plain_sorted entry_sorted (args_sorted1 _) ?_;unfold Builtin.«sorted»;refine yt (m:=checkCount "sorted" 1 1 _) (yv ?_);refine yt (B7 hl ?_ (by rw[yB];omega));refine yt (wpAny_newList ?_);have hsz:((s.heap.push (seqObj "list" #[] 0)).update ↑s (Obj.mapSeq (·++vs.toArray))).objs.size=↑s+1:=by
  rw[Heap.size_update,size_push']
 have hoL:(((s.heap.push (seqObj "list" #[] 0)).update ↑s (Obj.mapSeq (·++vs.toArray))).push (seqObj "list" vs.toArray 0)).get? (↑s+1)=some (seqObj "list" vs.toArray 0):=by
  rw[<-hsz];exact yw _ rfl
 show wpAny _ _ _ _ _ {s with heap:=((s.heap.push (seqObj "list" #[] 0)).update ↑s (Obj.mapSeq (·++vs.toArray))).push (seqObj "list" vs.toArray 0)};rw[hsz];refine yt (wpAny_holding (wpAny_call_entry slot_list_sort ⟨_,hoL,rfl⟩ entry_list_sort (list_sort_tree hoL hI h64 fun out ns' a1 a2 a3=>⟨_,rfl,?_⟩) (args_list_sort _)));exact yv ⟨_,rfl,h out ns' a1 a2 a3⟩
def Bx (h:Heap) (vs:List Value) (out:Array Value):∃n,(sortedAll h vs out).get? (h.objs.size+1)=some {cls:=.type "list",data:=.seq out n}:=by
 have hsz:((h.push (seqObj "list" #[] 0)).update h.objs.size (Obj.mapSeq (·++vs.toArray))).objs.size=h.objs.size+1:=by rw[Heap.size_update,size_push']
 have h1:(((h.push (seqObj "list" #[] 0)).update h.objs.size (Obj.mapSeq (·++vs.toArray))).push (seqObj "list" vs.toArray 0)).get? (h.objs.size+1)=some (seqObj "list" vs.toArray 0):=by
  rw[<-hsz];exact yw _ rfl
 unfold sortedAll sortedHeap;have h2:=get?_update_seq h1 (fun _=>#[]);have h3:=yu (seqObj "list" #[] 0) (yu (seqObj "tuple" vs.toArray 0) h2);exact⟨_,get?_update_seq h3 (fun _=>out)⟩
def wg (h:Heap) (vs:List Value) (out:Array Value) (b:Addr) (o:Obj) (e:h.get? b=some o):(sortedAll h vs out).get? b=some o:=by
 have hb:b<h.objs.size:=yx e;unfold sortedAll sortedHeap;have n1:h.objs.size≠b:=yh hb;have n2:h.objs.size+1≠b:=yh (Nat.lt_succ_of_lt hb);rw[yy _ _ n2];refine yu _ (yu _ ?_);rw[yy _ _ n2];refine yu _ ?_;rw[yy _ _ n1];exact yu _ e
end
theorem rG:∀{us:List Value} {ns:List Int},IntsAre us ns->Vals (ns.map V.int) us
 | _,_,.nil=>.nil
 | _,_,.cons r t h=>.cons ⟨_,rfl⟩ (rG h)
section
variable {X:Cx}
def tM:fB X (.builtin "sorted") (fun xs H Q=>∃(a:Addr) (ns:List Int),xs=[.ref a]/\(aG X.K H a (ns.map V.int)\/dw X.K H a (ns.map V.int))/\ns.length<64/\∀ns':List Int,ns'.Perm ns->ns'.Pairwise (·<=·)->∀l,H l=none->Q (.ref l) (upd H l (.lst (ns'.map V.int)))):=by
 intro pins s σ H xs us Q I r h;obtain⟨a,ns,rfl,hq,h64,q⟩:=h;obtain⟨u,rfl,rx⟩:=vals1 r;cases rx;have fin:∀(its:List Value),ns.length=its.length->∀(out:Array Value) (ns':List Int),IntsAre out.toList ns'->ns'.Perm ns->ns'.Pairwise (·<=·)->EP X pins σ Q (.ref (↑s+1)) {s with heap:=sortedAll s.heap its out}:=fun its hl out ns' a1 a2 a3=>by
  obtain⟨n,hn⟩:=Bx s.heap its out;refine⟨.ref _,_,I.laid (t':=s.toks) (a:=↑s+1) (o:=.lst (ns'.map V.int)) (wg s.heap its out) (Nat.le_succ _) ?_,rfl,q ns' a2 a3 _ (I.bZ.fresh (Nat.le_succ _))⟩;refine⟨by rw[za,a2.length_eq,yB];omega,out.toList,n,rG a1,by simpa using hn⟩
 rcases hq with hq | hq
 ·obtain⟨its,rv,p,_⟩:=I.list hq
  have hl:ns.length=its.length:=by have:=rv.length;rw[za] at this;exact this
  exact sorted_ints p.isList (intsAre_of rv) nofun (fin its hl)
 ·obtain⟨its,rv,p,_⟩:=I.tuple hq
  have hl:ns.length=its.length:=by have:=rv.length;rw[za] at this;exact this
  exact HY p (intsAre_of rv) nofun (fin its hl)
theorem JG:∀{zs:List Str} {us:List Value},Vals (zs.map V.str) us->∃l:List (Str×Tok),us=strValues l/\l.map (·.1)=zs
 | [],_,.nil=>⟨[],rfl,rfl⟩
 | z::zs,_,.cons ⟨t,e⟩ r=>by
  obtain⟨l,e1,e2⟩:=JG r;subst e e1 e2;exact⟨(z,t)::l,rfl,rfl⟩
def rJoin (K:yA):V->List V->Hp->VK->Prop:=fun x vs H Q=>∃(sep:Str) (a:Addr) (zs:List Str),x=.str sep/\vs=[.ref a]/\aG K H a (zs.map V.str)/\(zs.map (fun z:Str=>z.length+sep.length)).sum<=sizeLine/\Q (.str (Str.join sep zs)) H
theorem GG (sep:Str):∀(zs:List Str) (k:Nat),zs.foldl (fun n z=>n+z.length+sep.length) k=k+(zs.map (fun z:Str=>z.length+sep.length)).sum
 | [],k=>by simp
 | z::zs,k=>by
  rw[List.foldl_cons,GG sep zs,zh,List.sum_cons];omega
theorem JE (sep:Str):∀zs:List Str,(zs.map (·.length)).sum+zs.length*sep.length=(zs.map (fun z:Str=>z.length+sep.length)).sum
 | []=>by simp
 | z::zs=>by
  have ih:=JE sep zs;simp only[zh,List.sum_cons,zt,Nat.succ_mul] at ih ⊢;omega
def gQ:P4 X "str.join" (rJoin X.K):=by
 intro pins s σ H x vs v us Q I rx rv h;obtain⟨sep,a,zs,rfl,rfl,hq,hz,q⟩:=h;obtain⟨tk,rfl⟩:=rx;obtain⟨u,rfl,ru⟩:=rv.one;cases ru;obtain⟨its,ri,p,_⟩:=I.list hq;obtain⟨l,e1,e2⟩:=JG ri;subst e1;have hl:Builtin.Str.tooLong ((l.map (·.1)).toArray.foldl (·+·.length+sep.length) 0)=false:=by
  rw[e2,List.foldl_toArray,GG,Nat.zero_add];exact zd nofun
 have hj:Builtin.Str.glued sep (l.map (·.1))=Str.join sep zs:=by rw[e2];exact StrLaws.glued_eq_join sep zs
 have jl:(Str.join sep zs).length<=sizeLine:=by
  exact zL (StrLaws.join_length_le sep zs) (zL (Nat.le_of_eq (JE sep zs)) hz)
 refine call_meets F.slot_str_join (typeIs_str s sep tk) F.entry_str_join (F.args_str_join_2 _ _) (meets_str_join_list sep tk a l hl) ⟨p.isList,?_⟩
 match l,e2,hj with
 | [],e2,hj=>
  subst e2;exact⟨by rw[hj];exact jl,.str _,H,I.tok _,⟨_,rfl⟩,by rw[hj];exact q⟩
 | [z],e2,hj=>
  subst e2;exact⟨.str _,H,I,⟨_,rfl⟩,q⟩
 | z::z'::r,e2,hj=>
  subst e2;exact⟨by rw[hj];exact jl,.str _,H,I.tok _,⟨_,rfl⟩,by rw[hj];exact q⟩
def qK (x:Str) (n:Nat):Str:=⟨(List.replicate n x.cps).foldl (·++·) #[]⟩
def PK:R2:=fun x y H Q=>∃(t:Str) (n:Int),x=.str t/\y=.int n/\0<=n/\n<=1000/\t.length<=1000/\Q (.str (qK t n.toNat)) H
def sD (x:Str) (n:Nat):(qK x n).cps.toList=(List.replicate n x.cps.toList).flatten:=by
 have key:∀(n:Nat) (a:Array Nat),((List.replicate n x.cps).foldl (·++·) a).toList=a.toList++(List.replicate n x.cps.toList).flatten:=by
  intro n
  induction n with
  | zero=>intro a;simp
  | succ n ih=>intro a;rw[List.replicate_succ,List.foldl_cons,ih,List.replicate_succ,z9];simp
 have:=key n #[];show((List.replicate n x.cps).foldl (·++·) #[]).toList=_;rw[this];rfl
def FX (x:Str) (n:Nat):(qK x n).length=n*x.length:=by
 have e:(qK x n).length=(qK x n).cps.toList.length:=Array.length_toList.symm;rw[e,sD];have e2:x.cps.toList.length=x.length:=Array.length_toList;simp[e2]
def MF (x:Str):qK x 1=x:=lG (by rw[sD];simp)
def OR:pB X (binaryOp .Mult) PK:=by
 intro pins s σ H x y v u Q I rx ry h;obtain⟨t,n,rfl,rfl,h0,h1,hl,q⟩:=h;obtain⟨tk,rfl⟩:=rx;obtain⟨tk',rfl⟩:=ry;have sl:=yB;have hm:t.length*n.toNat<=1000000:=by
  have:t.length*n.toNat<=1000*1000:=Nat.mul_le_mul hl nofun;omega
 refine P.mul_str (by rw[zd nofun,zd nofun];rfl) (fun h2 _=>?_) (fun _ _=>zd nofun) ?_
 ·have:(2^63-1)/1000<=((2:Int)^63-1)/n:=by
   rw[Int.le_ediv_iff_mul_le nofun];have:n*9223372036854775<=1000*9223372036854775:=Int.mul_le_mul_of_nonneg_right h1 ∅;omega
  omega
 ·by_cases c1:n<1
  ·have e:n.toNat=0:=nofun
   rw[if_pos c1];rw[e] at q;exact⟨∅,.str _,H,I.tok _,⟨_,rfl⟩,q⟩
  ·rw[if_neg c1]
   refine post_val_or_str ⟨?_,fun t' k=>⟨.str _,H,I.tok _,⟨_,rfl⟩,?_⟩⟩
   ·split
    ·omega
    ·have:=FX t n.toNat
     have e:n.toNat*t.length=t.length*n.toNat:=Nat.mul_comm _ _;show(qK t n.toNat).length<=sizeLine;omega
   ·have ee:(if(n == 1||t.length == 0)=true then t else qK t n.toNat)=qK t n.toNat:=by
     split
     ·rename_i c2
      rw[Bool.or_eq_true,beq_iff_eq,beq_iff_eq] at c2;rcases c2 with rfl | c2
      ·exact(MF t).symm
      ·refine lG ?_
       have e2:t.cps.toList=[]:=yr.mp (by rw[Array.length_toList];exact c2);rw[sD,e2];simp
     ·rfl
    show Q (.str (if(n == 1||t.length == 0)=true then t else qK t n.toNat)) H;rw[ee];exact q
end
def KD (P:Program) (w:World) (K:yA) (a:Addr) (kvs:List (Str×V)):Prop:=
 (a == sysModules)=false/\(kvs.map (·.1)).Nodup/\∀h:Heap,K.In h->∃vs:List (Key×Value),KV (kvs.map fun p=>((Sum.inr p.1:Key),p.2)) vs/\h.DictOf (df P w) a vs
def GP (Pm:Params) (l:List (Str×Tok×Addr)):List DictEntry:=l.map fun p=>⟨PyData.keyHash Pm p.1,.str p.1 p.2.1,.ref p.2.2⟩
theorem M8:∀{l:List Str},l.Nodup->(l.map (Sum.inr:Str->Key)).Nodup
 | [],_=>List.nodup_nil
 | x::r,h=>by
  rw[yc] at h;rw[zh,yc];exact⟨fun z=>by obtain⟨y,hy,e⟩:=zG.mp z;exact h.1 (Sum.inr.inj e▸hy),M8 h.2⟩
def Sg {P:Program} {w:World} {K:yA} {a:Addr} {l:List (Str×Tok×Addr)} {n:Nat} (hl:K.lookup a=some {cls:=.type "dict",data:=.dict (GP w.params l).toArray n}) (hs:(a == sysModules)=false) (nd:(l.map (·.1)).Nodup) :
  KD P w K a (l.map fun p=>(p.1,V.ref p.2.2)):=by
 have e1:(l.map fun p=>(p.1,V.ref p.2.2)).map (·.1)=l.map (·.1):=by rw[zA];rfl
 refine⟨hs,by rw[e1];exact nd,fun h X=>⟨l.map fun p=>(Sum.inr p.1,.ref p.2.2),?_,_,_,_,X _ _ hl,⟨rfl,rfl,rfl⟩,rfl,?_,?_,?_⟩⟩
 ·clear hl nd e1
  induction l with
  | nil=>exact .nil
  | cons p r ih=>exact .cons ⟨rfl,rfl⟩ ih
 ·intro e he
  rw[List.mem_toArray] at he;obtain⟨p,_,rfl⟩:=zG.mp he;exact⟨Sum.inr p.1,pj p.1 p.2.1,rfl⟩
 ·show PySem.Pairs _ (GP w.params l) _
  clear hl nd e1
  induction l with
  | nil=>exact .nil
  | cons p r ih=>exact .cons (pj p.1 p.2.1) rfl ih
 ·have e2:(l.map fun p=>((Sum.inr p.1:Key),(Value.ref p.2.2))).map (·.1)=(l.map (·.1)).map Sum.inr:=by rw[zA,zA];rfl
  rw[e2];exact M8 nd
def tW (kvs:List (Str×V)) (k:Str):Option V:=(kvs.find? fun p=>decide (p.1=k)).map (·.2)
theorem IF:∀{kvs:List (Str×V)} {vs:List (Key×Value)} (k:Str),KV (kvs.map fun p=>((Sum.inr p.1:Key),p.2)) vs->mw (tW kvs k) (valueAt vs (Sum.inr k))
 | [],_,_,.nil=>trivial
 | (x,v)::r,_,k,.cons (b:=b) h t=>by
  obtain⟨h1,h2⟩:=h;obtain⟨bk,bv⟩:=b;dsimp only at h1 h2;subst h1
  by_cases e:x=k
  ·subst e
   simp only[tW,valueAt,List.find?_cons,decide_true];exact h2
  ·have ih:=IF k t
   have e':¬((Sum.inr x:Key)=Sum.inr k):=fun z=>e (Sum.inr.inj z);simp only[tW,valueAt,List.find?_cons,e,e',decide_false] at ih ⊢;exact ih
def Qs (P:Program) (w:World) (K:yA) (td ty:TE):TE:=fun σ H Q=>td σ H fun x H1=>ty σ H1 fun y H2=>∃a kvs k v,x=.ref a/\KD P w K a kvs/\y=.str k/\tW kvs k=some v/\Q v H2
def RV (P:Program) (w:World) (K:yA) (b:Bool) (ty td:TE):TE:=fun σ H Q=>ty σ H fun y H1=>td σ H1 fun x H2=>∃a kvs k,x=.ref a/\KD P w K a kvs/\y=.str k/\Q (.bl (b ^^ (tW kvs k).isSome)) H2
section
variable {X:Cx} {pos:Pos} {o i:Expr} {td ty:TE}
theorem mw.IG:∀{a:Option V} {b:Option Value},mw a b->a.isSome=b.isSome
 | some _,some _,_=>rfl
 | none,none,_=>rfl
 | some _,none,h=>h.elim
 | none,some _,h=>h.elim
def F6 (ho:PE X o td) (hi:PE X i ty) (hs:Rv i):PE X (.Subscript o i pos) (Qs X.prog X.w X.K td ty):=by
 intro pins s σ H Q I h;refine JF PySem.F.slot_dict_getitem.lookup hs (cU (ho pins s σ H _ I h) fun u s1 ⟨x,H1,I1,rx,q1⟩=>cU (hi pins s1 σ H1 _ I1 q1) fun iv s2 zz=>?_);obtain⟨y,H2,I2,ry,a,kvs,k,v,ex,kd,ey,hv,q2⟩:=zz;subst ex ey;obtain rfl:u=Value.ref a:=rx;obtain⟨tk,rfl⟩:=ry;obtain⟨hd,_,hk⟩:=kd;obtain⟨vs,rel,dd⟩:=hk _ I2.sZ;have rv:=IF k rel;rw[hv] at rv;cases hw:valueAt vs (Sum.inr k) with
 | none=>rw[hw] at rv;exact rv.elim
 | some w'=>
  rw[hw] at rv;exact⟨dd.typeIs,wpAny_getItem_of (pj k tk) dd.mapOf hw ⟨v,H2,I2.tok _,rv,q2⟩⟩
def OO (hi:PE X i ty) (ho:PE X o td):PC X .In i o (RV X.prog X.w X.K false ty td):=by
 intro pins s σ H Q I h;refine cU (hi pins s σ H _ I h) fun iv s1 ⟨y,H1,I1,ry,q1⟩=>cU (ho pins s1 σ H1 _ I1 q1) fun u s2 zz=>?_;obtain⟨x,H2,I2,rx,a,kvs,k,ex,kd,ey,q2⟩:=zz;subst ex ey;obtain rfl:u=Value.ref a:=rx;obtain⟨tk,rfl⟩:=ry;obtain⟨hd,_,hk⟩:=kd;obtain⟨vs,rel,dd⟩:=hk _ I2.sZ;refine wpAny_in_of (vH _ _ k tk) hd dd.mapOf ?_;have e:=mw.IG (IF k rel);exact⟨.bl _,H2,I2.tok _,rfl,by rw[e,Bool.false_xor] at q2;exact q2⟩
end
structure Rx (X:Cx) (CX:Jw) (k:Nat) (f:Addr) (sp:Sp):Prop where
 ok:∃fd ps,dQ X.prog X.w X.K X.mg X.base CX k f fd ps sp/\PySem.W.keepIn X.K (.ref f)=true/\Binds X.K fd ps []
def Qu (Tb:Addr->Sp->Prop) (E:XK) (i:Nat) (t:TA):TE:=fun σ H Q=>∃f sp,σ[i]?=some (some (.ref f))/\Tb f sp/\t σ H fun vs H1=>sp vs H1 Q E
section
variable {X:Cx} {CX:Jw} {k:Nat} {x:Str} {i:Nat} {p pos:Pos} {e:Expr} {es:List Expr} {t:TA} {E:XK}
def F8 (Tb:Addr->Sp->Prop) (hT:∀f sp,Tb f sp->Rx X CX k f sp) (hr:fQ k X.A) (hv:PE X (.Name x p) (aX i)) (hx:Passes CX X E)
  (ha:PA X (e::es) t) (he:starEach (e::es) X.env=(false,eval e X.env)::starEach es X.env<|>qe_) (hpl:(backTo pos (starEach es X.env)).any (·.1)=false<|>qe_) :
  PE X (.Call (.Name x p) (e::es) [] pos) (Qu Tb E i t):=by
 intro pins s σ H Q I h;obtain⟨f,sp,hf,hTb,h⟩:=h;obtain⟨fd,ps,F,hk,hb⟩:=(hT f sp hTb).ok;refine wpAny_Call_Name_kw (cU (hv pins s σ H (fun v H1=>v=.ref f/\H1=H) I ⟨_,hf,rfl,rfl⟩) fun u s1 zz=>?_);obtain⟨v,H1,I1,rv,ev,eH⟩:=zz;subst ev eH;obtain rfl:u=Value.ref f:=rv;refine PySem.W.callWith_K (h₀:=X.base) I1.ok.mod.QZ hk (cU (ha pos pins s1 σ _ _ I1 h) fun us s2 ⟨vs,H2,I2,r,q⟩=>⟨I2.sZ,?_⟩) he hpl;exact My F hr hb .nil hx I2 r (by rw[zU];exact q)
end
def RP (sp:Sp) (t:TA) (C:Addr) (th:TS):TS:=fun D σ H=>t σ H fun vs H1=>sp vs H1 (fun v H2=>D.rt v H2) fun cls _ H2=>cls=.ref C/\th D σ H2
section
variable {X:Cx} {k:Nat} {f:Addr} {fd:FuncData} {ps:List Str} {sp:Sp} {fx cn:Str} {p pos cpos pa np hpos:Pos} {e₀:Expr} {es:List Expr} {t:TA} {C:Addr} {bm:List Value} {newId:String} {b₀:Stmt} {suite:List Stmt} {th:TS}
def OH (F:dQ X.prog X.w X.K X.mg X.base (HD X.prog X.w) k f fd ps sp) (hr:fQ k X.A) (hg:Gl X fx) (hm:X.mg fx=some (.ref f)) (hk:PySem.W.keepIn X.K (.ref f)=true) (hb:Binds X.K fd ps []) (ha:PA X.Ir (e₀::es) t)
  (hc:X.calm=true) (hgc:Gl X cn) (hC0:PySem.W.nsIn X.K mainGlobals cn=some (some (.ref C))) (hQ0:PySem.W.excIn X.K C bm newId=true) (hbase:bm.contains (.type "BaseException")=true) (hstk:X.stack=X.env::X.outer) (hfrm:X.env.frame=some X.env.locals)
  (hsu:∀e,Dg (X.held e).Ir (b₀::suite) th)
  (hdb:(fx == ("__debug__": Str))=false<|>qb_) (hdc:(cn == ("__debug__": Str))=false<|>qb_) (he:starEach (e₀::es) X.env=(false,eval e₀ X.env)::starEach es X.env<|>qe_) (hpl:(backTo cpos (starEach es X.env)).any (·.1)=false<|>qe_) :
  PS X (.Try [.Return (some (.Call (.Name fx p) (e₀::es) [] cpos)) pa] [.ExceptHandler (some (.Name cn np)) none (b₀::suite) hpos] [] [] pos) (RP sp t C th):=by
 intro pins s σ H D I h;have O:OwnCls cn C bm newId X.mg X.base:=qS X.prog I.ok.mod hC0 hQ0;refine wpAny_Try_except (wpAny_execs_cons ?_);refine wpAny_Return_some ?_;refine wpAny_Call_Name_kw (ka I hg hm ?_ hdb);have hA:wpAny (model X.prog X.w) X.A (spliced (backTo cpos (starEach (e₀::es) X.env))) (AP X.Ir pins σ _) (fun _ _=>False) s:=ha cpos pins s σ H _ (I.rF _) h;refine PySem.W.callWith_K (h₀:=X.base) I.ok.mod.QZ hk (wpAny_mono hA (fun us s1 ⟨vs,H1,I1',r,q⟩=>⟨I1'.sZ,?_⟩) fun _ _ z=>z.elim) he hpl;have I1:Inv X pins σ H1 s1:=I1'.hZ;have hl:us.length=ps.length:=by rw[<-r.length];exact F.len _ _ _ _ q
 refine wpAny_call (codeAny_mono (F.run X.A X.stack s1 H1 ⟨us,[]⟩ us vs _ _ hr I1.O7 (by have:=hb s1 us I1.sZ (by rw[zU];exact hl);rw[zU] at this;exact this) r q) fun rr s' hq=>?_);cases rr with
 | ok fl=>
  cases fl with
  | ret u=>
   obtain⟨v,H2,I2,r2,q2⟩:=I1.after hq;exact⟨v,σ,H2,I2,r2,q2⟩
  | next=>exact False.elim hq
  | brk=>exact False.elim hq
  | cont=>exact False.elim hq
 | error ev=>
  obtain⟨a,cls,a0,B,H',rfl,os,bare,fl,fly,⟨rfl,q2⟩⟩:=hq;have GF:∀b∈qq X.stack,H1 b=none:=I1.rJ;have nf:∀{hh:Heap},Heap.FunFrames hh B X.stack->∀b∈qq X.stack,∃o,hh.get? b=some o/\∀vs,o.data≠.fields vs:=fun hF b hb=>(hF.mem hb).2;have back:∀(hh:Heap),LS X.prog X.w (qq X.stack) H1 H' s1.heap B hh->Inv X pins σ H' {s' with heap:=hh}:=fun hh fy=>
   I1.NS (s':={s' with heap:=hh}) (ch:=[]) os (fy.un GF) (fy.bZ.kept fy.lH) bare fun b z=>absurd z (by simp)
  have hfr:X.A.frames=some (X.env::X.outer):=by rw[<-hstk];exact I1.ok.frames
  refine wpAny_looks_onW hfr hfrm (by rw[<-hstk];exact fl) fun h4 held4 up4=>?_;refine wpAny_landsW held4 fun h5 fl5 up5=>?_;have fl5':Heap.FlyingW B X.stack a (.ref C) a0 h5:=by rw[hstk];exact fl5
  have fy5:LS X.prog X.w (qq X.stack) H1 H' s1.heap B h5:=fly.on (up4.trans up5) fl5.1 (nf fl.2.2.1);have I5:=back h5 fy5;obtain⟨ob,hob,hobc⟩:=fl5'.there;obtain⟨tl,Nn,nm,qn,bs,hdct,sn,sub,ab,col,dd,k0,k1,k2,k3,k5,mN,hC,hN',hni,T⟩:=O.obj;refine wpAny_handleBy_cons (codeAny_handlers_test (ka (X:=X.held (.ref a)) (I5.held _) hgc O.bound ?_ hdc)) (by intro q;cases q);refine wpAny_excMatches_sub_self (I5.bk _ _ hC) hob hobc (T.hasType hbase) (codeAny_handlers_suite ?_);refine lands_againW fl5' fun h6 fl6 up6=>?_;have fy6:LS X.prog X.w (qq X.stack) H1 H' s1.heap B h6:=fy5.on up6 fl6.1 (nf fl5'.2.2.1);have I6:=back h6 fy6;refine wpAny_mono (hsu (.ref a) pins _ σ H' D ((I6.held _).rF _) q2) (fun fl s7 z=>?_) fun _ _ z=>z.elim;exact SP.lE I.ok.hd (SP.hZ z)
end
section
variable {prog:Program} {w:World} {A:Around} {E:Value->Shared->Prop} {s:Shared}
def MJ (hd:(d == sysModules)=false) (ho:s.heap.get? d=some o) (hx:o.ExactDict) (hdat:o.data=.dict es ep)
  (hQ:Q (.ref ↑s) {s with heap:=s.heap.push {cls:=.type "dict_keyiterator",data:=.fields #[.ref d,.int 0 0,.int es.size 0,.int ep 0]}}) :
  wpAny (model prog w) A (pyIter (.ref d)) Q E s:=by
 have hT:s.TypeIs (.ref d) "dict":=⟨o,ho,hx.1⟩
 refine wpAny_pyIter_slot hT F.slot_dict_iter (wpAny_call_entry F.slot_dict_iter hT F.entry_dict_iter ?_ (F.args_dict_iter_1 _));unfold Builtin.«dict.__iter__»;refine yt ?_;unfold Builtin.Dict.dictSlotNone;refine yt (wpAny_notOrdered_dict hT ?_);show wpAny _ _ (pure (Value.ref d)) _ _ s;refine yv ?_;show wpAny _ _ (Builtin.Dict.showsAll d >>= _) _ _ s;unfold Builtin.Dict.showsAll;rw[if_neg (by rw[hd];exact zK)];refine yt (yv ?_);refine yt (wpAny_dictEntries ho hdat ?_);refine yt (wpAny_dictEpoch ho hdat ?_);refine yt (wpAny_newObj_type (yv ⟨_,rfl,"dict_keyiterator",_,⟨_,yw _ rfl,rfl⟩,F.slot_dict_keyiterator_next.lookup,?_⟩))
 simpa[rawInt] using hQ
def MK (hit:s.heap.IsKeyIter it d i es.size ep)
  (hod:s.heap.get? d=some od) (hdd:od.data=.dict es ep) (hx:es[i]?=some e)
  (hQ:∀h',h'.IsKeyIter it d (i+1) es.size ep->Heap.SameBut it s.heap h'->Q (some e.key) {s with heap:=h'}) :
  wpAny (model prog w) A (pyNext (.ref it)) Q E s:=by
 obtain⟨o,ho,hc,hd⟩:=id hit;unfold pyNext;refine yt (wpAny_attempt (wpAny_callSpecial?_slot (name:=Str.ofString "__next__") hit.typeIs F.slot_dict_keyiterator_next
  (wpAny_call_entry F.slot_dict_keyiterator_next hit.typeIs F.entry_dict_keyiterator_next ?_ (F.args_dict_keyiterator_next_1 _))))
 refine yt (yv ?_);refine yt ?_;refine yt ?_
 first | refine yt (wpAny_typeNameOfWhole_keyiter hit.typeIs (yv ?_)) | refine yt (wpAny_typeNameOf_keyiter hit.typeIs (yv ?_))
 refine yt (wpAny_fieldsOf ho hd ?_);have hown:Builtin.Dict_items.ownsTuple "dict_keyiterator"= false:=by decide
 simp only[hown,Bool.false_eq_true,if_false];show wpAny _ _ (if(Value.ref d == Value.none)=true then _ else _) _ _ s;rw[if_neg (show¬((Value.ref d == Value.none)=true) from zK)];refine yt (yv ?_);refine yt (wpAny_dictEntries hod hdd ?_);rw[if_neg (by simp)];refine yt (yv ?_);refine yt (wpAny_dictEpoch hod hdd ?_);rw[if_neg (by simp)];refine yv ?_;simp only[show¬((i:Int)<0) from by omega,if_false,Int.toNat_natCast,hx];refine yt ?_
 first | refine yt (wpAny_typeNameOfWhole_keyiter hit.typeIs (yv ?_)) | refine yt (wpAny_typeNameOf_keyiter hit.typeIs (yv ?_))
 refine yt (wpAny_isOneOf_keyiter hit.typeIs ?_);show wpAny _ _ (setField (.ref it) 1 (rawInt ((i:Int)+1)) >>= _) _ _ s;refine yt (wpAny_setField ho hd (by simp) ?_);have hit':(s.heap.update it (Obj.mapFields (·.setIfInBounds 1 (rawInt ((i:Int)+1))))).IsKeyIter it d (i+1) es.size ep:=
  ⟨_,yz _ ho (Obj.isFreed_of_fields (Obj.data_mapFields hd _)),(Obj.cls_mapFields ..).trans hc,by rw[Obj.data_mapFields hd];simp[rawInt]⟩
 refine yt (wpAny_holding ?_);refine yt (wpAny_isOneOf_keyiter (s:={s with heap:=s.heap.update it (Obj.mapFields (·.setIfInBounds 1 (rawInt ((i:Int)+1))))}) hit'.typeIs ?_);show wpAny _ _ (pure e.key) _ _ _;exact yv (yv ⟨_,rfl,yv (hQ _ hit' (Heap.SameBut.update ..))⟩)
def OC (hh:A.handled=none) (hit:s.heap.IsKeyIter it d i es.size ep)
  (hod:s.heap.get? d=some od) (hdd:od.data=.dict es ep) (hx:es.size<=i)
  (hQ:∀h',Heap.ExtBut it s.heap h'->Q none {s with heap:=h'}):wpAny (model prog w) A (pyNext (.ref it)) Q E s:=by
 obtain⟨o,ho,hc,hd⟩:=id hit;unfold pyNext;refine yt (wpAny_attempt (wpAny_callSpecial?_slot (name:=Str.ofString "__next__") hit.typeIs F.slot_dict_keyiterator_next
  (wpAny_call_entry F.slot_dict_keyiterator_next hit.typeIs F.entry_dict_keyiterator_next ?_ (F.args_dict_keyiterator_next_1 _))))
 refine yt (yv ?_);refine yt ?_;refine yt ?_
 first | refine yt (wpAny_typeNameOfWhole_keyiter hit.typeIs (yv ?_)) | refine yt (wpAny_typeNameOf_keyiter hit.typeIs (yv ?_))
 refine yt (wpAny_fieldsOf ho hd ?_);have hown:Builtin.Dict_items.ownsTuple "dict_keyiterator"= false:=by decide
 simp only[hown,Bool.false_eq_true,if_false];show wpAny _ _ (if(Value.ref d == Value.none)=true then _ else _) _ _ s;rw[if_neg (show¬((Value.ref d == Value.none)=true) from zK)];refine yt (yv ?_);refine yt (wpAny_dictEntries hod hdd ?_);rw[if_neg (by simp)];refine yt (yv ?_);refine yt (wpAny_dictEpoch hod hdd ?_);rw[if_neg (by simp)];refine yv ?_;simp only[show¬((i:Int)<0) from by omega,if_false,Int.toNat_natCast,Array.getElem?_eq_none hx];refine yt ?_
 first | refine yt (wpAny_typeNameOfWhole_keyiter hit.typeIs (yv ?_)) | refine yt (wpAny_typeNameOf_keyiter hit.typeIs (yv ?_))
 show wpAny _ _ (setField (.ref it) 0 .none >>= _) _ _ s;refine yt (wpAny_setField ho hd (by simp) ?_);show wpAny _ _ (newExc (.type "StopIteration") [] >>= _) _ _ _;refine yt ?_;simp only[newExc,newTuple];refine yt (wpAny_newObj_type ?_ (by size_fits));refine yt (m:=firstArgMember _ _) (wpAny_of_eq (a:=Value.none) (by first | rfl | (simp only[firstArgMember];rfl)) ?_);refine wpAny_newObj_type ?_ (by size_fits);simp only[raiseNew];refine yt (wpAny_handled ?_);rw[show A.in1.handled=none from hh];refine yt (yv (wpAny_throw ?_));refine yt (wpAny_isInstance (T:="StopIteration") (b:=true) ⟨_,yw _ rfl,rfl⟩ isSubtype_stop ?_);exact yv (hQ _ (((Heap.SameBut.update ..).extBut.push _).push _))
end
def N7 (H:Hp) (d:Addr) (o:Obj) (n:Nat) (kat:Hp->Nat->V->Prop):Prop:=∃u,H d=some (.nF o u)/\((∃kvs:List (Key×V),u=.dK kvs/\n=kvs.length/\kat=fun _ i x=>∃p,kvs[i]?=some p/\x=kV p.1)\/
 ∃kvs:List (List Key×V),u=.dT kvs/\n=kvs.length/\kat=fun H i x=>∃p b,kvs[i]?=some p/\H b=some (.tup (p.1.map kV))/\x=.ref b)
theorem CK {K:Type} [DecidableEq K] {prog:Program} {w:World} {knd:KeyKind prog w K}:∀{es:List DictEntry} {kvs:List (K×Value)} {i:Nat} {e:DictEntry},PySem.Pairs knd es kvs->es[i]?=some e->∃kv,kvs[i]?=some kv/\knd.is kv.1 e.key=true/\e.val=kv.2
 | _,_,_,_,.nil,h=>by simp at h
 | _,_,0,_,.cons a b _,h=>by simp at h;subst h;exact⟨_,rfl,a,b⟩
 | _,_,i+1,_,.cons _ _ t,h=>by
  obtain⟨kv,h1,h2⟩:=CK (i:=i) t (by simpa using h);exact⟨kv,by simpa using h1,h2⟩
theorem lU:∀{l:List α} {m:List β} {i:Nat} {b:β},Paired F l m->m[i]?=some b->∃a,l[i]?=some a/\F a b
 | _,_,_,_,.nil,h=>by simp at h
 | _,_,0,_,.cons r _,h=>by simp at h;subst h;exact⟨_,rfl,r⟩
 | _,_,i+1,_,.cons _ t,h=>by
  obtain⟨a,h1,h2⟩:=lU (i:=i) t (by simpa using h);exact⟨a,by simpa using h1,h2⟩
section
variable {X:Cx} {pins:List (Addr×Obj)} {σ:St} {H:Hp} {s:Shared} {d:Addr} {o:Obj} {n:Nat} {kat:Hp->Nat->V->Prop}
def N7.raw (f:N7 H d o n kat) (I:Inv X pins σ H s):(d == sysModules)=false/\∃es ep,s.heap.get? d=some o/\o.ExactDict/\o.data=.dict es ep/\es.size=n/\∀i e,es[i]?=some e->∃x,RelV x e.key/\kat H i x:=by
 obtain⟨u,hH,hu⟩:=f;obtain⟨ho,ok⟩:=(show cF X.prog X.w H s.heap d (.nF o u) from I.bZ d _ hH)
 rcases hu with⟨kvs,rfl,rfl,rfl⟩ | ⟨kvs,rfl,rfl,rfl⟩
 ·obtain⟨_,hd,vs,rel,o',es,ep,ho',hx,hdat,_,hp,_⟩:=ok
  have hl:es.size=kvs.length:=by
   have h1:=hp.length;have h2:kvs.length=vs.length:=Paired.length rel;have h3:es.toList.length=es.size:=Array.length_toList;omega
  rw[ho] at ho';cases ho';refine⟨hd,es,ep,ho,hx,hdat,hl,fun i e he=>?_⟩;obtain⟨kv,h1,h2,_⟩:=CK hp (i:=i) (e:=e) (by rw[Array.getElem?_toList];exact he);obtain⟨p,h3,h4,_⟩:=lU rel h1;refine⟨kV p.1,?_,p,h3,rfl⟩;rw[<-h4] at h2;rcases dh h2 with⟨j,t,e1,e2⟩ | ⟨y,t,e1,e2⟩
  ·rw[e1,e2];exact⟨t,rfl⟩
  ·rw[e1,e2];exact⟨t,rfl⟩
 ·obtain⟨_,hd,xs,rel,o',es,ep,ho',hx,hdat,he,_⟩:=ok
  have h3:es.toList.length=es.size:=Array.length_toList;have hl:es.size=kvs.length:=by
   have h2:kvs.length=xs.length:=Paired.length rel;rw[he,za] at h3;omega
  rw[ho] at ho';cases ho';refine⟨hd,es,ep,ho,hx,hdat,hl,fun i e hi=>?_⟩;rw[<-Array.getElem?_toList,he,zJ] at hi;cases q:xs[i]? with
  | none=>rw[q] at hi;cases hi
  | some y=>
   rw[q] at hi;cases hi;obtain⟨p,h4,h5,h6,_⟩:=lU rel q;exact⟨.ref y.2.1,rfl,p,y.2.1,h4,h6,rfl⟩
end
def UD (d:Addr) (o:Obj) (n:Nat) (kat:Hp->Nat->V->Prop):It:=⟨fun i H=>N7 H d o n kat/\i<n,fun i H x H'=>H'=H/\kat H i x,fun i H=>N7 H d o n kat/\n<=i⟩
def Kn {P:Program} {w:World} {K:yA} {tg:Expr} (d it:Addr) (n:Nat) (kat:Hp->Nat->V->Prop) (o:Obj) (es:Array DictEntry) (ep:Nat) (hdat:o.data=.dict es ep) (hn:es.size=n) :
  Turn P w K tg (UD d o n kat) [it] it (fun i h=>h.IsKeyIter it d i n ep) where
 mem:=by simp
 obj:=fun i h st b hb=>by
  have e:b=it:=by simpa using hb
  subst e;obtain⟨o,e,c,d⟩:=st;exact⟨o,e,fun v z=>by rw[d] at z;cases z⟩
 keep:=fun i h h' st k=>st.at fun o e=>k it (by simp) o e
 item:=by
  intro X hP hw hK hc i pins s σ H E I hf st hg;subst hP hw hK hn;obtain⟨fz,hlt⟩:=hg;obtain⟨hd,es',ep',ho,hx,hdat',hsz,hk⟩:=fz.raw I;rw[hdat] at hdat';cases hdat';obtain⟨f0,f1,f2,f3,f4,f5⟩:=hf it (by simp);have he:es[i]?=some es[i]:=Array.getElem?_eq_getElem hlt;obtain⟨x,rx,kx⟩:=hk i _ he;refine MK st ho hdat he fun h' st' sb=>?_;have I1:Inv X pins σ H {s with heap:=h'}:=I.turned (t':=s.toks) (fun b o hb e=>(sb.2 b hb).trans e) f0 f1 f3 f4 f5;obtain⟨oi,e,c,dd⟩:=id st';exact⟨_,rfl,Au (s:={s with heap:=h'}) e c dd ∅ ⟨x,H,I1,rx,⟨rfl,kx⟩,st',fun b hb=>(hf b hb).1⟩⟩
 done:=by
  intro X hP hw hK hc i pins s σ H E I hf st hg;subst hP hw hK hn;obtain⟨fz,hge⟩:=hg;obtain⟨hd,es',ep',ho,hx,hdat',hsz,hk⟩:=fz.raw I;rw[hdat] at hdat';cases hdat';obtain⟨f0,f1,f2,f3,f4,f5⟩:=hf it (by simp);exact OC (I.ok.hd hc) st ho hdat hge fun h' eb=>⟨rfl,I.turned (t':=s.toks) (fun b o hb e=>eb b o hb e) f0 f1 f3 f4 f5⟩
 self:=fun _ _ _ _ _ st h=>wpAny_pyIter_keyiter st h
def Sn (td:TE):TI:=fun σ H R=>td σ H fun x H1=>∃d o n kat,x=.ref d/\N7 H1 d o n kat/\R (UD d o n kat) H1
section
variable {X:Cx} {tg l:Expr} {tl:TE}
def OJ (hl:PE X l tl):PI X tg l (Sn tl):=by
 intro pins s σ H R I h;refine cU (hl pins s σ H _ I h) fun v s1 zz=>?_;obtain⟨x,H1,I1,r1,q1⟩:=zz;obtain⟨d,o,n,kat,e,fz,q⟩:=q1;subst e;cases r1;obtain⟨hd,es,ep,ho,hx,hdat,hsz,hk⟩:=fz.raw I1;refine MJ hd ho hx hdat ?_;refine⟨↑s1,[↑s1],_,_,H1,rfl,I1.kept (t':=s1.toks) fun b o e=>yu _ e,Kn d _ n kat o es ep hdat hsz,⟨_,yw _ rfl,rfl,by rw[hsz];rfl⟩,fun b hb=>?_,q⟩;have e:b=↑s1:=by simpa using hb
 subst e;exact I1.uM (zk _) (I1.bZ.fresh (zk _))
end
def Ju (H:Hp) (d:Addr) (o:Obj) (kvs:List (Key×V)):Prop:=H d=some (.nF o (.dK kvs))
def N5 (d:Addr) (o:Obj) (kvs:List (Key×V)):It:=⟨fun i H=>Ju H d o kvs/\i<kvs.length,fun i H x H'=>H'=H/\∃p,kvs[i]?=some p/\x=p.2,fun i H=>Ju H d o kvs/\kvs.length<=i⟩
section
variable {X:Cx} {pins:List (Addr×Obj)} {σ:St} {H:Hp} {s:Shared} {d:Addr} {o:Obj} {kvs:List (Key×V)}
def Ju.at' (f:Ju H d o kvs) (I:Inv X pins σ H s):(d == sysModules)=false/\∃vs es ep,KV kvs vs/\o.data=.dict es ep/\s.heap.DictAt (df X.prog X.w) d vs ep:=by
 obtain⟨ho,ok⟩:=(show cF X.prog X.w H s.heap d (.nF o (.dK kvs)) from I.bZ d _ f)
 obtain⟨_,hd,vs,rel,o',es,ep,ho',hx,hdat,hk,hp,nd⟩:=ok;rw[ho] at ho';cases ho';exact⟨hd,vs,es,ep,rel,hdat,o,es,ho,hx,hdat,hk,hp,nd⟩
end
def Ft {P:Program} {w:World} {K:yA} {tg:Expr} (d it:Addr) (o:Obj) (kvs:List (Key×V)) (es:Array DictEntry) (ep:Nat) (hdat:o.data=.dict es ep) :
  Turn P w K tg (N5 d o kvs) [it] it (fun i h=>h.IsValIter it d i kvs.length ep) where
 mem:=by simp
 obj:=fun i h st b hb=>by
  have e:b=it:=by simpa using hb
  subst e;obtain⟨o,e,c,d⟩:=st;exact⟨o,e,fun v z=>by rw[d] at z;cases z⟩
 keep:=fun i h h' st k=>st.at fun o e=>k it (by simp) o e
 item:=by
  intro X hP hw hK hc i pins s σ H E I hf st hg;subst hP hw hK;obtain⟨fz,hlt⟩:=hg;obtain⟨hd,vs,es',ep',rel,hdat',da⟩:=fz.at' I;rw[hdat] at hdat';cases hdat';obtain⟨f0,f1,f2,f3,f4,f5⟩:=hf it (by simp);have hl:kvs.length=vs.length:=Paired.length rel;have hi:vs[i]?=some (vs[i]'nofun):=zb nofun;obtain⟨p,h3,h4,h5⟩:=lU rel hi;refine wpAny_pyNext_values_item (by rw[<-hl];exact st) da hi fun h' st' sb=>?_;have I1:Inv X pins σ H {s with heap:=h'}:=I.turned (t':=s.toks) (fun b o hb e=>(sb.2 b hb).trans e) f0 f1 f3 f4 f5;obtain⟨oi,e,c,dd⟩:=id st';exact⟨_,rfl,Au (s:={s with heap:=h'}) e c dd ∅ ⟨p.2,H,I1,h5,⟨rfl,p,h3,rfl⟩,by rw[hl];exact st',fun b hb=>(hf b hb).1⟩⟩
 done:=by
  intro X hP hw hK hc i pins s σ H E I hf st hg;subst hP hw hK;obtain⟨fz,hge⟩:=hg;obtain⟨hd,vs,es',ep',rel,hdat',da⟩:=fz.at' I;rw[hdat] at hdat';cases hdat';obtain⟨f0,f1,f2,f3,f4,f5⟩:=hf it (by simp);have hl:kvs.length=vs.length:=Paired.length rel;exact wpAny_pyNext_values_end (I.ok.hd hc) (by rw[<-hl];exact st) da (by simp;omega) fun h' eb=>⟨rfl,I.turned (t':=s.toks) (fun b o hb e=>eb b o hb e) f0 f1 f3 f4 f5⟩
 self:=fun _ _ _ _ _ st h=>wpAny_pyIter_valiter st h
def O2 (td:TE):TI:=fun σ H R=>td σ H fun x H1=>∃d o kvs,x=.ref d/\Ju H1 d o kvs/\R (N5 d o kvs) H1
section
variable {X:Cx} {tg l:Expr} {tl:TE} {apos cpos:Pos}
def KL (hl:PE X l tl) (hbase:attributeBase l "values" X.env (eval l X.env)=eval l X.env<|>qe_) (hline:(apos.endLine == cpos.line)=true<|>qe_):PI X tg (.Call (.Attribute l "values" apos) [] [] cpos) (O2 tl):=by
 intro pins s σ H R I h;refine wpAny_Call_method0_late hbase hline (cU (hl pins s σ H _ I h) fun v s1 zz=>?_);obtain⟨x,H1,I1,r1,q1⟩:=zz;obtain⟨d,o,kvs,e,fz,q⟩:=q1;subst e;cases r1;obtain⟨hd,vs,es,ep,rel,hdat,da⟩:=fz.at' I1;refine⟨"dict","dict.values",F.plainAttrs_dict,F.slot_dict_values,F.type_dict_values,da.dictOf.typeIs,da.dictOf.mapOf.noDict,Calls.callWith_builtin rfl (PySem.evalArgs_none ?_)⟩;refine call_meetsIn F.slot_dict_values da.dictOf.typeIs F.entry_dict_values (F.args_dict_values_1 _) (meets_dict_values (df X.prog X.w) d hd) ⟨⟨vs,da.dictOf⟩,?_⟩;have I2:Inv X pins σ H1 {s1 with heap:=s1.heap.push {cls:=.type "dict_values",data:=.fields #[.ref d]}}:=I1.kept (t':=s1.toks) fun b o e=>yu _ e;obtain⟨_,vs2,es2,ep2,rel2,hdat2,da2⟩:=fz.at' I2;rw[hdat] at hdat2;cases hdat2;have hl2:kvs.length=vs2.length:=Paired.length rel2;refine wpAny_pyIter_values (knd:=df X.prog X.w) ⟨_,yw _ rfl,rfl,rfl⟩ da2 ?_;refine⟨_,[_],_,_,H1,rfl,I2.kept (t':=s1.toks) fun b o e=>yu _ e,Ft d _ o kvs es ep hdat,⟨_,yw _ rfl,rfl,by rw[hl2];rfl⟩,fun b hb=>?_,q⟩;rw[zy.mp hb];exact I2.uM (zk _) (I2.bZ.fresh (zk _))
end
def IJ {d:Addr} {o:Obj} {kvs:List (Key×V)} {g:TG} {tb:TS} {D:Ends} {σ:St} {H:Hp} (Pv:Nat->St->Hp->Prop) (h0:Pv 0 σ H) (hf:∀i σ H,i<=kvs.length->Pv i σ H->Ju H d o kvs)
  (hs:∀i p σ H,kvs[i]?=some p->Pv i σ H->g p.2 σ H fun σ2 H2=>tb {D with nx:=Pv (i+1),ct:=Pv (i+1),bk:=D.nx} σ2 H2) (hd:∀σ H,Pv kvs.length σ H->D.nx σ H) :
  ∃W:Nat->Nat->St->Hp->Prop,(∃m,W 0 m σ H)/\∀i m σ H,W i m σ H->
   ((N5 d o kvs).stop i H/\D.nx σ H)\/((N5 d o kvs).go i H/\∃Nn:St->Hp->Prop,(∀σ' H',Nn σ' H'->∃m',m'<m/\W (i+1) m' σ' H')/\∀v H',(N5 d o kvs).Jz i H v H'->g v σ H' fun σ2 H2=>tb {D with nx:=Nn,ct:=Nn,bk:=D.nx} σ2 H2):=by
 refine⟨fun i m σ H=>m=kvs.length-i/\i<=kvs.length/\Pv i σ H,⟨kvs.length,by simp,yf _,h0⟩,?_⟩;rintro i m σ H ⟨rfl,hi,pv'⟩;rcases Nat.lt_or_ge i kvs.length with hlt | hge
 ·refine .inr ⟨⟨hf i σ H hi pv',hlt⟩,Pv (i+1),fun σ' H' p'=>⟨kvs.length-(i+1),nofun,rfl,hlt,p'⟩,fun v H' y=>?_⟩
  obtain⟨e1,p,hp,e2⟩:=y;rw[e1,e2];exact hs i p σ H hp pv'
 ·have e:i=kvs.length:=nofun
  subst e;exact .inl ⟨⟨hf _ σ H hi pv',zk _⟩,hd σ H pv'⟩
def Sl:HO->Bool
 | .dK _=>true
 | .dT _=>true
 | _=>false
def dQ.Pz {P:Program} {w:World} {K:yA} {mg:Str->Option Value} {base:Heap} {k:Nat} {f:Addr} {fd:FuncData} {ps:List Str} {sp sp':Sp} (F:dQ P w K mg base HE k f fd ps sp) (len:∀vs H Q E,sp' vs H Q E->vs.length=ps.length)
  (h:∀vs H Q E,sp' vs H Q E->∃d u,H d=some u/\Sl u=true/\∀o,sp vs (upd H d (.nF o u)) (fun v H'=>Q v (upd H' d u)) E):dQ P w K mg base HE k f fd ps sp':=by
 refine⟨len,fun A outer s H args us vs Q E hr e hb hv hs=>?_⟩;obtain⟨d,u,hd,hu,hsp⟩:=h vs H Q E hs;have okd:=e.bZ d u hd;obtain⟨o,ho⟩:=okd.here;have nt:∀xs,u≠.tup xs:=fun xs z=>by rw[z] at hu;cases hu
 have no:∀x,u≠.own x:=fun x z=>by rw[z] at hu;cases hu
 have nf:∀a b,u≠.nF a b:=fun a b z=>by rw[z] at hu;cases hu
 have nb:∀a,u≠.Mc a:=fun a z=>by rw[z] at hu;cases hu
 have off:∀b,H b=none->b≠d:=fun b n z=>by rw[z,hd] at n;cases n
 have tup1:∀b xs,H b=some (.tup xs)->upd H d (.nF o u) b=some (.tup xs):=fun b xs q=>by rw[aD (fun z=>by rw[z,hd] at q;exact nt xs (yj q))];exact q
 have own1:∀b x,H b=some (.own x)->upd H d (.nF o u) b=some (.own x):=fun b x q=>by rw[aD (fun z=>by rw[z,hd] at q;exact no x (yj q))];exact q
 have e1:HC P w K mg base A outer s (upd H d (.nF o u)):=by
  refine⟨e.frames,e.mod,fun b ob q=>⟨(e.bs b ob q).1,by rw[aD (off b (e.bs b ob q).2)];exact(e.bs b ob q).2⟩,e.LO,e.pL,fun b hb=>by rw[aD (off b (e.GF b hb))];exact e.GF b hb,fun b ub q=>?_,e.bare⟩
  by_cases hbd:b=d
  ·subst hbd
   rw[aA] at q;cases q;exact⟨ho,okd.lH (fun _ _ _ z=>z) (fun c z=>own1 c _ z) tup1⟩
  ·rw[aD hbd] at q
   exact(e.bZ b ub q).lH (fun _ _ _ z=>z) (fun c z=>own1 c _ z) tup1
 refine codeAny_mono (F.run A outer s _ args us vs _ E hr e1 hb hv (hsp o)) fun r s' hq=>?_;cases r with
 | error x=>exact hq
 | ok fl=>
  cases fl with
  | next=>exact hq
  | brk=>exact hq
  | cont=>exact hq
  | ret uv=>
   obtain⟨v,H',os,bare,un,bZ,rv,q⟩:=hq;have hd':H' d=some (.nF o u):=un.nh d o u aA;have off1:∀b,H b=none->upd H d (.nF o u) b=none:=fun b n=>by rw[aD (off b n)];exact n
   have back:∀b z,H b=some z->b≠d->upd H d (.nF o u) b=some z:=fun b z q n=>by rw[aD n];exact q
   refine⟨v,upd H' d u,os,bare,⟨fun b ob q n hb hx=>un.keep b ob q (off1 b n) hb hx,fun b ob q n hb hx=>un.slot b ob q (off1 b n) hb hx,fun b ob q n hx=>by rw[aD (off b n)];exact un.free b ob q (off1 b n) hx,un.there,
    fun b xs q=>?_,fun b ob uu q=>?_,fun b ps' q=>?_⟩,fun b ub q=>?_,rv,q⟩
   ·have n:b≠d:=fun z=>by rw[z,hd] at q;exact nt xs (yj q)
    rw[aD n];exact un.pC b xs (back b _ q n)
   ·have n:b≠d:=fun z=>by rw[z,hd] at q;exact nf ob uu (yj q)
    rw[aD n];exact un.nh b ob uu (back b _ q n)
   ·have n:b≠d:=fun z=>by rw[z,hd] at q;exact nb ps' (yj q)
    obtain⟨m,z⟩:=un.pE b ps' (back b _ q n);exact⟨m,by rw[aD n];exact z⟩
   ·have own2:∀c x,H' c=some (.own x)->upd H' d u c=some (.own x):=fun c x z=>by rw[aD (fun y=>by rw[y,hd'] at z;cases z)];exact z
    have tup2:∀c xs,H' c=some (.tup xs)->upd H' d u c=some (.tup xs):=fun c xs z=>by rw[aD (fun y=>by rw[y,hd'] at z;cases z)];exact z
    by_cases hbd:b=d
    ·subst hbd
     rw[aA] at q;cases q;obtain⟨_,ok'⟩:=(show cF P w H' s'.heap b (.nF o u) from bZ b _ hd')
     exact ok'.lH (fun _ _ _ z=>z) (fun c z=>own2 c _ z) tup2
    ·rw[aD hbd] at q
     exact(bZ b ub q).lH (fun _ _ _ z=>z) (fun c z=>own2 c _ z) tup2
def F0 (σ:List Str) (x:Str):List Str:=if x∈σ then σ else σ++[x]
def gE (l:List Str):List Str:=l.foldl F0 []
def GU (l:List Str):(gE l).length<=l.length/\((gE l).length=l.length↔l.Nodup):=by
 have key:∀(l σ:List Str),σ.Nodup->(l.foldl F0 σ).length<=σ.length+l.length/\((l.foldl F0 σ).length=σ.length+l.length↔(σ++l).Nodup):=by
  intro l
  induction l with
  | nil=>intro σ h;simp[h]
  | cons x l ih=>
   intro σ h;rw[List.foldl_cons,zt]
   by_cases hx:x∈σ
   ·rw[show F0 σ x=σ from if_pos hx]
    have:=ih σ h;refine⟨nofun,⟨fun e=>nofun,fun e=>?_⟩⟩;exact absurd hx (fun z=>(zR.mp e).2.2 x z x zp rfl)
   ·rw[show F0 σ x=σ++[x] from if_neg hx]
    have hn:(σ++[x]).Nodup:=zR.mpr ⟨h,by simp,fun a ha b hb e=>by rw[zy.mp hb] at e;exact hx (e▸ha)⟩;have:=ih (σ++[x]) hn;rw[zg,List.length_singleton,zE,List.singleton_append] at this;exact⟨nofun,⟨fun e=>this.2.mp nofun,fun e=>by have:=this.2.mpr e;omega⟩⟩
 have:=key l [] List.nodup_nil
 simpa[gE] using this
def sub_tuple_set:isSubtype (.type "tuple") (.type "set")=pure false:=by rw[isSubtype_type];kernel_rfl
def sub_tuple_frozenset:isSubtype (.type "tuple") (.type "frozenset")=pure false:=by rw[isSubtype_type];kernel_rfl
section
variable {prog:Program} {w:World}
def Mu {A:Around} {R:Result->Shared->Prop} {I:Addr} {fp wr:List Addr} {G:Array GenState->Array GenState->Prop} {n:Nat} {P:Nat->Value->Prop} {St:Nat->Shared->Prop} (W:WalksS prog w A.in1 I fp wr G n P St) (S:Addr) (hSf:S∉fp)
  (zs:List Str) (hn:n=zs.length) (hval:∀i v,P i v->∃z t,zs[i]?=some z/\v=.str z t) (hb:n+1<scanBound) :
  ∀(k i:Nat) (s:Shared),n-i=k->i<=n->St i s->s.heap.SetOf (PySem.strKind prog w) S (fun x=>decide (x∈gE (zs.take i))) (gE (zs.take i)).length->
   (∀s',Moved (S::wr) G s s'->s'.heap.SetOf (PySem.strKind prog w) S (fun x=>decide (x∈gE zs)) (gE zs).length->R (.ok (.ret .none)) s')->
   codeAny (model prog w) A (.builtin "set.update.loop" ⟨[.ref S,.ref I],[]⟩) R s:=by
 have hSw:S∉wr:=fun h=>hSf (W.sub _ h);have hsub:∀b∈wr,b∈S::wr:=fun b hb=>zm _ hb;intro k
 induction k with
 | zero=>
  intro i s hk hi hst hS hR;have hin:i=n:=nofun
  subst hin;rw[hn,zM] at hS;refine codeAny_builtin F.entry_set_update_loop ?_;rw[Around.under_plainId F.plain_set_update_loop _];show wpAny _ A.in1 (pyNext (.ref I) >>= _) _ _ s;refine yt (W.done s _ _ hst fun s' hm=>?_);obtain⟨o,es,ep,t,ho,rest⟩:=hS;exact yv (hR s' (hm.mono hsub) ⟨o,es,ep,t,hm.heap S _ hSw ho,rest⟩)
 | succ k ih=>
  intro i s hk hi hst hS hR;have hlt:i<n:=nofun
  refine codeAny_builtin F.entry_set_update_loop ?_;rw[Around.under_plainId F.plain_set_update_loop _];show wpAny _ A.in1 (pyNext (.ref I) >>= _) _ _ s;refine yt (W.item i s _ _ hlt hst fun v s' hP hst' hm=>?_);obtain⟨z,t,hz,rfl⟩:=hval i v hP;obtain⟨o,es,ep,tb,ho,rest⟩:=hS;have hS':s'.heap.SetOf (PySem.strKind prog w) S (fun x=>decide (x∈gE (zs.take i))) (gE (zs.take i)).length:=⟨o,es,ep,tb,hm.heap S _ hSw ho,rest⟩
  show wpAny _ A.in1 (holding [Value.str z t] (setAdd S (.str z t)) >>= _) _ _ s';refine yt (wpAny_holding ?_);unfold setAdd;refine wpAny_holding ?_;refine yt ((PySem.strKind prog w).pyHash (k:=z) (strKind_is _ _ _ _) ?_);have hl:=(GU (zs.take i)).1;rw[zP] at hl;refine wpAny_setAddHashed_of (knd:=PySem.strKind prog w) (s:={s' with toks:=s'.toks+1}) (strKind_is _ _ _ _) rfl hS' nofun fun h' hsb hS2=>?_;have et:zs.take (i+1)=zs.take i++[z]:=by rw[List.take_succ,hz];rfl
  have ed:gE (zs.take (i+1))=F0 (gE (zs.take i)) z:=by rw[et];unfold gE;rw[zX];rfl
  have hSi:h'.SetOf (PySem.strKind prog w) S (fun x=>decide (x∈gE (zs.take (i+1)))) (gE (zs.take (i+1))).length:=by
   refine SetOf_congr hS2 (fun x=>?_) ?_
   ·rw[ed]
    unfold F0
    by_cases hx:z∈gE (zs.take i)
    ·rw[if_pos hx]
     by_cases e:x=z
     ·subst e;simp[hx]
     ·simp[e]
    ·rw[if_neg hx];simp[zF]
   ·rw[ed]
    unfold F0
    by_cases hx:z∈gE (zs.take i) <;> simp[hx]
  refine yv ⟨plainId_quiet F.plain_set_update_loop _,ih (i+1) _ nofun hlt (W.frame _ s' _ _ hst' (Nat.le_succ _) fun b hb o e=>?_) hSi fun s'' hm'' hS''=>?_⟩
  ·rw[hsb.2 b (fun h:b=S=>hSf (by rw[<-h];exact hb))];exact e
  ·refine hR s'' (Moved.trans W.gtrans ((hm.mono hsub).then_heap (Nat.le_succ _) fun b o hb e=>?_) hm'') hS''
   rw[hsb.2 b (fun h:b=S=>hb (by rw[h];exact zp))];exact e
variable {A:Around} {E:Value->Shared->Prop} {s:Shared}
def Ib {l:Addr} {items:Array Value} {zs:List Str} {Q:Value->Shared->Prop} (hh:A.handled=none) (hl:IsTup s.heap l items) (hi:∀(i:Nat) (v:Value),items[i]?=some v->∃z t,zs[i]?=some z/\v=.str z t) (hn:items.size=zs.length) (hb:items.size+1<scanBound)
  (h:∀(h':Heap) (tk:Nat),h'.SetOf (PySem.strKind prog w) ↑s (fun x=>decide (x∈gE zs)) (gE zs).length->(∀b o,b<↑s->s.heap.get? b=some o->h'.get? b=some o)->Q (.ref ↑s) {s with heap:=h',toks:=tk}) :
  wpAny (model prog w) A (call (.type "set") [.ref l]) Q E s:=by
 obtain⟨c,tl,hmro⟩:=F.called_set.mro;have hmade:=F.called_set.made;have hsub:=F.called_set.sub;refine wpAny_call (codeAny_of_tree ?_);show wpAny _ _ (callAny (.type "set") _) _ _ _;refine yv ⟨Code.quiet_builtin _ (by decide +kernel),codeAny_builtin F.entry_type_call ?_⟩;rw[Around.under_plain (weight_type_call_type "set" [.ref l] []) rfl];have h1:=F.called_set.notType;have h2:=F.called_set.canCreate;have hct:=F.typeCall_set_1 (.ref l)
 repeat (any_goals (first | assumption | wp_step))
 let fresh:Bool->Obj:=fun led=>{cls:=.type "set",dict:=none,data:=.set #[] 0 (.fresh 0 0 led)}
 refine codeAny_mono (code_set_new_1 (.ref l) (E:=E) (Q₁:=fun obj s₁=>∃led:Bool,obj=.ref ↑s/\s₁={s with heap:=s.heap.push (fresh led)}) fun led=>⟨led,rfl,rfl⟩) fun r s₁ hr=>?_;cases r with
 | error e=>exact hr
 | ok fl=>
  cases fl with
  | next=>exact hr.elim
  | brk=>exact hr.elim
  | cont=>exact hr.elim
  | ret obj=>
   obtain⟨led,rfl,rfl⟩:=hr;have hS:(s.heap.push (fresh led)).get? ↑s=some (fresh led):=yw _ rfl;have hT:Shared.TypeIs {s with heap:=s.heap.push (fresh led)} (.ref ↑s) "set":=⟨_,hS,rfl⟩
   have hli:=F.called_set.init.lookup;have hbi:=F.called_set.init.bind (.ref ↑s)
   repeat (any_goals (first | assumption | wp_step))
   refine codeAny_mono (codeAny_call_builtin (R:=wants (fun r s₂=>r=.none/\∃h' tk,s₂={s with heap:=h',toks:=tk}/\h'.SetOf (PySem.strKind prog w) ↑s (fun x=>decide (x∈gE zs)) (gE zs).length/\
     (∀b o,b<↑s->s.heap.get? b=some o->h'.get? b=some o)) E) F.called_set.init.plain F.entry_set_init (check_set_init_1 hT ?_)) fun r₂ s₂ hr₂=>?_
   ·obtain⟨⟨ocls,odict,odata,oslots⟩,hol,hcl,nl,hdl⟩:=hl
    simp only at hcl hdl;subst hcl hdl;have hol':(s.heap.push (fresh led)).get? l=some {cls:=.type "tuple",dict:=odict,data:=.seq items nl,slots:=oslots}:=yu _ hol;have hsls:=sub_tuple_set;have hslf:=sub_tuple_frozenset;have hne:(Value.type "tuple"== Value.type "dict")=false:=by decide
    have hl1:(s.heap.push (fresh led)).IsTuple l items:=⟨_,hol',rfl,nl,rfl⟩
    unfold Builtin.«set.__init__» noKeywords Builtin.Frozenset.updateFrom;generalize hPI:pyIter=PI;wp_walk;subst hPI;refine wpAny_pyIter_tuple hl1 ?_;refine yt (wpAny_runValue ?_);have hlS:l<↑s:=yx hol;have hh3:A.in1.in1.in1.handled=none:=by simp[hh]
    have hz:(s.heap.push (fresh led)).objs.size=↑s+1:=Heap.size_push ..;have hSf:↑s∉[(s.heap.push (fresh led)).objs.size,l]:=by
     rw[hz];simp only[zC,zD,or_false,not_or];exact⟨yi (Nat.lt_succ_self _),yh hlS⟩
    refine Mu ((Walks.tuple hh3 _ l (by rw[hz];exact yi (Nat.lt_succ_of_lt hlS)) items).toS) ↑s hSf zs hn hi hb (items.size-0) 0 _ nofun (yf _)
     ⟨⟨_,yw _ rfl,rfl,rfl⟩,(hl1.push _)⟩ ?hS0 ?hR
    case hS0=>
     exact SetOf_congr ((setObjOf_fresh (knd:=PySem.strKind prog w) led).setOf (yu _ hS) (by unfold scanBound;omega)) (fun _=>rfl) rfl
    case hR=>
     intro s' hm hS';obtain⟨h',g',d',tk',os'⟩:=s';have eg:g'=s.gens:=hm.gens;have ed:d'=s.drawn:=hm.drawn;have eo:os'=s.os:=hm.os;subst eg ed eo;refine yv (yv ⟨rfl,h',tk',rfl,hS',fun b o hb e=>?_⟩);refine hm.heap b o ?_ (yu _ (yu _ e));simp only[zC,zD,or_false,not_or];exact⟨yi hb,by rw[hz];exact yi (Nat.lt_succ_of_lt hb)⟩
   ·cases r₂ with
    | error e=>exact hr₂
    | ok fl₂=>
     cases fl₂ with
     | next=>exact hr₂.elim
     | brk=>exact hr₂.elim
     | cont=>exact hr₂.elim
     | ret r=>
      obtain⟨rfl,h',tk,rfl,hS',hk'⟩:=hr₂
      repeat (any_goals (first | assumption | wp_step))
      exact h _ _ hS' hk'
end
def HB (a:Addr) (n:Nat):HO:=.ext fun h=>∃o es ep t,h.get? a=some o/\o.ExactSet/\o.data=.set es ep t/\t.fits es.size=true/\es.size=n
section
variable {X:Cx}
def Lp (hc:X.calm=true):fB X (.type "set") (fun xs H Q=>∃(a:Addr) (zs:List Str),xs=[.ref a]/\dw X.K H a (zs.map V.str)/\zs.length<=1000/\∀p,H p=none->Q (.ref p) (upd H p (HB p (gE zs).length))):=by
 intro pins s σ H xs us Q I r h;obtain⟨a,zs,rfl,hq,hz,q⟩:=h;obtain⟨u,rfl,rx⟩:=vals1 r;cases rx;obtain⟨its,rv,p,_⟩:=I.tuple hq;have hl:zs.length=its.length:=by have:=rv.length;rw[za] at this;exact this
 refine Ib (zs:=zs) (I.ok.hd hc) p (fun i v hv=>?_) (by rw[ya,hl]) (by rw[ya];unfold scanBound;omega) fun h' tk hS hk=>?_
 ·have hv':its[i]?=some v:=by simpa using hv
  have hi:i<its.length:=(zw.mp hv').1;obtain⟨z,t,e1,e2⟩:=Mm rv hi;have:=(zw.mp hv').2;exact⟨z,t,e1,by rw[<-this,e2]⟩
 ·obtain⟨o,es,ep,t,ho,hex,hd,hel,hmem,hb,hf,hn⟩:=hS
  refine⟨.ref _,_,I.laid (t':=tk) (a:=↑s) (o:=HB ↑s (gE zs).length) (fun b ob e=>hk b ob (yx e) e) (zk _) ?_,rfl,q _ (I.bZ.fresh (zk _))⟩;exact⟨⟨o,es,ep,t,ho,hex,hd,hf,hn⟩,⟨o,ho⟩,fun h1 h2 ⟨o,es,ep,t,e1,r⟩ kk=>⟨o,es,ep,t,kk o e1,r⟩⟩
def Lr:fB X (.builtin "len") (fun xs H Q=>∃(p:Addr) (n:Nat),xs=[.ref p]/\H p=some (HB p n)/\n<=1000/\Q (.int n) H):=by
 intro pins s σ H xs us Q I r h;obtain⟨p,n,rfl,hp,hn,q⟩:=h;obtain⟨u,rfl,rx⟩:=vals1 r;cases rx;obtain⟨⟨o,es,ep,t,ho,hex,hd,hf,rfl⟩,_⟩:=(show cF X.prog X.w H s.heap p (HB p n) from I.bZ p _ hp)
 exact call_len_set ho hex hd hf nofun ⟨.int _,H,I.tok _,⟨_,rfl⟩,q⟩
end
def PM:V->Bool
 | .bH=>true
 | .int _=>true
 | .str _=>true
 | _=>false
def F3 (h:PM x=true):mZ x=true:=by cases x <;> first | rfl | cases h
def QH {x y:V} (a:PM x=true) (b:PM y=true):IL x y=decide (x=y):=by
 cases x <;> first | cases a;done | skip
 all_goals (cases y <;> first | rfl | exact Et.symm | exact Er.symm | cases b)
def UA (K:yA) (H:Hp) (a b:Addr) (xs ys:List V):Prop:=(aG K H a xs/\aG K H b ys)\/(dw K H a xs/\dw K H b ys)
def Us (xs ys:List V):Prop:=xs=[]\/ys=[]\/(xs.all PM=true/\ys.all PM=true)
def T4 (K:yA):R2:=fun x y H Q=>∃a b xs ys,x=.ref a/\y=.ref b/\UA K H a b xs ys/\Us xs ys/\Q (.bl (decide (xs=ys))) H
def QE (K:yA):R2:=fun x y H Q=>∃a b xs ys,x=.ref a/\y=.ref b/\UA K H a b xs ys/\Us xs ys/\Q (.bl (!decide (xs=ys))) H
def JC (r:Vals xs its) (h:j<its.length):∃x,xs[j]?=some x/\RelV x its[j]:=by
 have hl:=r.length;obtain⟨u,hu,ru⟩:=r.get (i:=j) (x:=xs[j]'nofun) (zb nofun);rw[zb h] at hu;cases hu;exact⟨_,zb nofun,ru⟩
section
variable {X:Cx}
def En (r:Vals xs its) (r':Vals ys jts) (p:Us xs ys):∀j (h1:j<its.toArray.size) (h2:j<jts.toArray.size),SeqAt.EqAt A s its.toArray[j] jts.toArray[j] (decide (xs[j]?=ys[j]?)):=by
 intro j h1 h2;have h1':j<its.length:=by simpa using h1
 have h2':j<jts.length:=by simpa using h2
 obtain⟨x,ex,rx⟩:=JC r h1';obtain⟨y,ey,ry⟩:=JC r' h2';have l1:=r.length;have l2:=r'.length;have hp:PM x=true/\PM y=true:=by
  rcases p with e | e | ⟨q1,q2⟩
  ·rw[e] at ex;simp at ex
  ·rw[e] at ey;simp at ey
  ·exact⟨yo.mp q1 x (zB ex),yo.mp q2 y (zB ey)⟩
 have g1:its.toArray[j]=its[j]:=by simp
 have g2:jts.toArray[j]=jts[j]:=by simp
 have z:=NH (A:=A) (s:=s) rx ry (F3 hp.1) (F3 hp.2);rw[QH hp.1 hp.2] at z;have e:decide (xs[j]?=ys[j]?)=decide (x=y):=by rw[ex,ey,Bool.eq_iff_iff];simp
 rw[g1,g2,e];exact z
def all_eq {xs ys:List V} (h:xs.length=ys.length):((List.range xs.length).all fun j=>decide (xs[j]?=ys[j]?))=decide (xs=ys):=by
 rw[Bool.eq_iff_iff,yo,decide_eq_true_eq];constructor
 ·intro hh
  refine List.ext_getElem? fun j=>?_;rcases Nat.lt_or_ge j xs.length with hj | hj
  ·exact yd (hh j (List.mem_range.mpr hj))
  ·rw[List.getElem?_eq_none hj,List.getElem?_eq_none nofun]
 ·intro hh j _
  rw[hh];exact ze rfl
def Eh {xs ys:List V} (h:xs.length≠ys.length):decide (xs=ys)=false:=zd fun e=>h (by rw[e])
def Ac (hu:X.A.units+64<cLine):pB X (compareOp .Eq) (T4 X.K):=by
 intro pins s σ H x y v u Q I rx ry h;obtain⟨a,b,xs,ys,rfl,rfl,hs,pl,q⟩:=h;cases rx;cases ry;rcases hs with⟨ha,hb⟩ | ⟨ha,hb⟩
 ·obtain⟨its,r,p,_⟩:=I.list ha
  obtain⟨jts,r',p',_⟩:=I.list hb;have l1:=r.length;have l2:=r'.length
  by_cases hl:xs.length=ys.length
  ·have z:=SeqAt.RcAt.lists (A:=X.A) (s:=s) p.isList p'.isList (by rw[ya,ya];omega) nofun (En r r' pl)
   rw[ya,<-l1,all_eq hl] at z;exact z _ _ _ _ ⟨.bl _,H,I,rfl,q⟩
  ·have z:=SeqAt.RcAt.lists_lengths (A:=X.A) (s:=s) p.isList p'.isList (by rw[ya,ya];simp;omega) nofun
   rw[Eh hl] at q;exact z _ _ _ _ ⟨.bl false,H,I,rfl,q⟩
 ·obtain⟨its,r,p,_⟩:=I.tuple ha
  obtain⟨jts,r',p',_⟩:=I.tuple hb;have l1:=r.length;have l2:=r'.length;have z:=SeqAt.RcAt.tuples (A:=X.A) (s:=s) p p' nofun (En r r' pl);rw[ya,ya,<-l1,<-l2] at z
  by_cases hl:xs.length=ys.length
  ·have em:min xs.length ys.length=xs.length:=nofun
   rw[em,all_eq hl,hl,beq_self_eq_true,Bool.and_true] at z;exact z _ _ _ _ ⟨.bl _,H,I,rfl,q⟩
  ·rw[show(xs.length == ys.length)=false by simpa using hl,Bool.and_false] at z
   rw[Eh hl] at q;exact z _ _ _ _ ⟨.bl false,H,I,rfl,q⟩
def Aa (hu:X.A.units+64<cLine):pB X (compareOp .NotEq) (QE X.K):=by
 intro pins s σ H x y v u Q I rx ry h;obtain⟨a,b,xs,ys,rfl,rfl,hs,pl,q⟩:=h;cases rx;cases ry;rcases hs with⟨ha,hb⟩ | ⟨ha,hb⟩
 ·obtain⟨its,r,p,_⟩:=I.list ha
  obtain⟨jts,r',p',_⟩:=I.list hb;have l1:=r.length;have l2:=r'.length
  by_cases hl:xs.length=ys.length
  ·have z:=SeqAt.RcNeAt.lists (A:=X.A) (s:=s) p.isList p'.isList (by rw[ya,ya];omega) nofun (En r r' pl)
   rw[ya,<-l1,all_eq hl] at z;exact z _ _ _ _ ⟨.bl _,H,I,rfl,q⟩
  ·have z:=SeqAt.RcNeAt.lists_lengths (A:=X.A) (s:=s) p.isList p'.isList (by rw[ya,ya];simp;omega) nofun
   rw[Eh hl] at q;exact z _ _ _ _ ⟨.bl true,H,I,rfl,q⟩
 ·obtain⟨its,r,p,_⟩:=I.tuple ha
  obtain⟨jts,r',p',_⟩:=I.tuple hb;have l1:=r.length;have l2:=r'.length;have z:=SeqAt.RcNeAt.tuples (A:=X.A) (s:=s) p p' nofun (En r r' pl);rw[ya,ya,<-l1,<-l2] at z
  by_cases hl:xs.length=ys.length
  ·have em:min xs.length ys.length=xs.length:=nofun
   rw[em,all_eq hl,hl,beq_self_eq_true,Bool.and_true] at z;exact z _ _ _ _ ⟨.bl _,H,I,rfl,q⟩
  ·rw[show(xs.length == ys.length)=false by simpa using hl,Bool.and_false] at z
   rw[Eh hl] at q;exact z _ _ _ _ ⟨.bl true,H,I,rfl,q⟩
def PH (K:yA):V->Option Int->Option Int->Hp->VK->Prop:=fun x lo hi H Q=>∃a xs,x=.ref a/\dw K H a xs/\(HT.fq xs.length 0 lo=0/\HT.fq xs.length xs.length hi=xs.length)/\Q (.ref a) H
def Oo:N2 X (PH X.K):=by
 intro pins s σ H x v vl vu lo hi sl Q I rx hs pl pu h;obtain⟨a,xs,rfl,hx,hw,q⟩:=h;cases rx;obtain⟨its,r,ht,hz⟩:=I.tuple hx;have hlen:its.toArray.size=xs.length:=by rw[ya];exact r.length.symm
 refine⟨"tuple",_,PyProof.Rows.slot_tuple_getitem.lookup,ht.typeIs,?_⟩;rw[<-hlen] at hw;obtain⟨os,hos,hcs,hds⟩:=id hs;have hTs:s.TypeIs (.ref sl) "slice":=⟨os,hos,hcs⟩
 unfold getItem
 try with_reducible refine wpAny_holding ?_
 first | refine yt (yv ?_) | skip
 refine yt (wpAny_sequenceKey ht.typeIs ∅ ?_);refine yt (wpAny_callSpecial?_slot (name:=Str.ofString "__getitem__") ht.typeIs PyProof.Rows.slot_tuple_getitem
  (wpAny_call_entry PyProof.Rows.slot_tuple_getitem ht.typeIs entry_tuple_getitem ?_ (args_tuple_getitem _ _)))
 show wpAny _ _ (Builtin.Tuple.tupleItemsOf (.ref a) >>= _) _ _ s;refine yt (tupleItemsOf_ ht ?_);refine yt (wpAny_typeOf hTs ?_);rw[if_pos ∅];refine yt (HT.kT hs pl pu ?_);show wpAny _ _ (if(((HT.fq its.toArray.size 0 lo:Nat):Int) == 0&&(1:Int) == 1&&(HT.fq its.toArray.size its.toArray.size hi-HT.fq its.toArray.size 0 lo) == its.toArray.size)=true then _ else _) _ _ s;rw[if_pos (by rw[hw.1,hw.2];simp)];unfold Builtin.Tuple.tupleIsExact;refine yt ?_
 repeat (any_goals (first | assumption | exact⟨_,rfl,yv ⟨.ref a,H,I,rfl,q⟩⟩ | refine yt (wpAny_typeOf ht.typeIs ?_) | wp_step))
def PJ (K:yA):V->Option Int->Option Int->Hp->VK->Prop:=fun x lo hi H Q=>R4 K x lo hi H Q\/PH K x lo hi H Q
def Oq:N2 X (PJ X.K):=N2.or Qx Oo
def FZ (K:yA):V->List V->Hp->VK->Prop:=fun x vs H Q=>∃l b xs zs,x=.ref l/\vs=[.ref b]/\H l=some (.lst xs)/\H b=some (.tup zs)/\xs.length+zs.length<=sizeLine/\Q .bH (upd H l (.lst (xs++zs)))
def MM (K:yA):V->List V->Hp->VK->Prop:=fun x vs H Q=>JM x vs H Q\/FZ K x vs H Q
def Iy:P4 X "list.extend" (FZ X.K):=by
 intro pins s σ H x vs v us Q I rx rv h;obtain⟨l,b,xs,zs,rfl,rfl,hH,hB,hz,q⟩:=h;cases rx;obtain⟨u,rfl,ru⟩:=rv.one;cases ru;obtain⟨z,its,n,r,hl,e⟩:=I.Nf hH;obtain⟨_,its2,r2,⟨oc,od,oda,osl⟩,ho,hoc,n2,hod⟩:=(show cF X.prog X.w H s.heap b (.tup zs) from I.bZ b _ hB)
 have l1:=r.length;have l2:=r2.length;have hsz:its.toArray.size+its2.toArray.size<=sizeLine:=by rw[ya,ya];omega
 have hlong:¬(!its.toArray.isEmpty&&Builtin.List.listTooLong (its.toArray.size+its2.toArray.size))=true:=by
  rw[Gn hsz,Bool.and_false];exact zK
 dsimp only at hoc hod;subst hoc hod;refine wpAny_call_entry F.slot_list_extend ⟨_,e,rfl⟩ F.entry_list_extend ?_ (F.args_list_extend_2 _ _);show wpAny _ _ (Builtin.List.listExtendWith (.ref l) (.ref b) .none) _ _ s;unfold Builtin.List.listExtendWith;refine yt (wpAny_typeOf (T:="tuple") ⟨_,ho,rfl⟩ ?_);have ht:(Value.type "tuple"== Value.type "tuple")=true:=by rfl
 rw[if_pos (by rw[ht];simp)];refine yt (listItems_at ho rfl ?_);refine yt (listItems_at e rfl ?_);rw[if_neg hlong];refine yt (listUpdate_at e rfl ?_ (by rw[ya];omega) (by show(its.toArray++its2.toArray).size<=sizeLine+1;rw[Array.size_append];omega));refine yv ⟨_,rfl,?_⟩;refine⟨.bH,_,I.OW (its':=its++its2) hH e (by simp) (r.append r2) ?_,rfl,q⟩;rw[zg];omega
def Iz:P4 X "list.extend" (MM X.K):=by
 intro pins s σ H x vs v us Q I rx rv h;rcases h with h | h
 ·exact KR pins s σ H x vs v us Q I rx rv h
 ·exact Iy pins s σ H x vs v us Q I rx rv h
def Je:fB X (.builtin "len") (fun xs H Q=>∃p kvs,xs=[.ref p]/\H p=some (.dK kvs)/\Q (.int (kvs.length:Nat)) H):=by
 intro pins s σ H xs us Q I r h;obtain⟨p,kvs,rfl,hp,q⟩:=h;obtain⟨u,rfl,rx⟩:=vals1 r;cases rx;exact SD I (.inl hp) fun t s' I'=>⟨.int _,H,I',⟨_,rfl⟩,q⟩
end
abbrev T6 (K:yA):List V->Hp->VK->Prop:=fun xs H Q=>∃p ys,xs=[.ref p]/\(aG K H p ys\/dw K H p ys)/\Q (.int ys.length) H
abbrev T7 (K:yA):List V->Hp->VK->Prop:=fun xs H Q=>∃(a:Addr) (bs:List Bool),xs=[.ref a]/\aG K H a (bs.map V.bl)/\Q (.bl (bs.any id)) H
abbrev R5:List V->Hp->VK->Prop:=fun xs H Q=>∃i,xs=[.int i]/\i.natAbs.log2<1920/\Q (.str (toString i)) H
abbrev QF (K:yA):List V->Hp->VK->Prop:=fun xs H Q=>∃p ys,xs=[.ref p]/\((aG K H p ys/\∀l,H l=none->Q (.ref l) (upd H l (.tup ys)))\/(dw K H p ys/\Q (.ref p) H))
abbrev R6 (K:yA):List V->Hp->VK->Prop:=fun xs H Q=>∃p ys,xs=[.ref p]/\(aG K H p ys\/dw K H p ys)/\∀l,H l=none->Q (.ref l) (upd H l (.lst ys))
def KA (lo:Int) (n:Nat):List Int:=(List.range n).map fun i=>lo+(i:Nat)
def Qo (ta:TA):TE:=fun σ H Q=>ta σ H fun vs H1=>∃i j:Int,vs=[.int i,.int j]/\(-(2^62)<=i/\i<2^62/\-(2^62)<=j/\j<2^62)/\(j-i).toNat<=1000000/\∀l,H1 l=none->Q (.ref l) (upd H1 l (.lst ((KA i (j-i).toNat).map V.int)))
theorem JB:∀{xs:List V} {us:List Value},xs.length=us.length->(∀(i:Nat) (x:V) (u:Value),xs[i]?=some x->us[i]?=some u->RelV x u)->Vals xs us
 | [],[],_,_=>.nil
 | x::xs,u::us,h,k=>.cons (k 0 x u rfl rfl) (JB (by simpa using h) fun i y v e e'=>k (i+1) y v (by simpa using e) (by simpa using e'))
 | [],_::_,h,_=>by simp at h
 | _::_,[],h,_=>by simp at h
section
variable {X:Cx}
def MZ (hc:X.calm=true) (hg0:Gl X "list") (hm0:X.mg "list"= none) (hg:Gl X "range") (hm:X.mg "range"= none) (ha:PA X [a,b] ta)
  (hs:starEach [a,b] X.env=[(false,eval a X.env),(false,eval b X.env)]<|>qe_) (hs2:starEach [b] X.env=[(false,eval b X.env)]<|>qe_)
  (hs1:starEach [.Call (.Name "range" p2) [a,b] [] pos2] X.env=[(false,eval (.Call (.Name "range" p2) [a,b] [] pos2) X.env)]<|>qe_) :
  PE X (.Call (.Name "list" p1) [.Call (.Name "range" p2) [a,b] [] pos2] [] pos1) (Qo ta):=by
 intro pins s σ H Q I h;refine wpAny_Call_Name_kw (iA I hg0 hm0 (by decide +kernel:bootBuiltins "list"= some (.type "list")) ?_ ∅ ∅);refine yL (Q:=_) ?_ hs1 rfl;rw[hs1];refine Calls.spliced_cons ?_;refine Call_ (iA I hg hm boot_range (yL (cU (ha pos2 pins s σ H _ I h) fun us s1 ⟨vs,H1,I1,r1,q1⟩=>?_) (by rw[hs,hs2]) (by rw[hs2];rfl)));obtain⟨i,j,e,⟨q1,q2,q3,q4⟩,hz,q⟩:=q1;subst e;cases r1 with
 | cons r rr=>
  cases rr with
  | cons r' rr=>
   cases rr;obtain⟨t,rfl⟩:=r;obtain⟨t',rfl⟩:=r';refine call_range_2 ?_;refine Calls.spliced_nil ?_;have I2:Inv X pins σ H1 {s1 with heap:=s1.heap.push {cls:=.type "range",data:=.fields #[.int i t,.int j t',.int 1 s1.toks]},toks:=s1.toks+1}:=I1.kept fun b o e=>yu _ e;have hn:Builtin.Range.rangeSize i j 1=(((j-i).toNat:Nat):Int):=by rw[rangeSize_one];split <;> omega
   refine call_list_range (I2.ok.hd hc) (IsRange.new ..) (small_one q1 q2 q3 q4) hn (zL hz ∅) fun h' tk acc c hk hS hit=>?_;have rv:Vals ((KA i (j-i).toNat).map V.int) acc.toList:=by
    refine JB ?_ ?_
    ·have e1:acc.toList.length=(j-i).toNat:=by rw[Array.length_toList];exact hit.1
     rw[za,e1];unfold KA;simp
    ·intro k x u hx hu
     rw[Array.getElem?_toList] at hu;obtain⟨tk',rfl⟩:=hit.2 k u hu;have hk':k<(j-i).toNat:=by
      have:=(Array.getElem?_eq_some_iff.mp hu).1;rw[hit.1] at this;exact this
     unfold KA at hx;rw[zA,zJ,List.getElem?_range hk'] at hx;cases hx;exact⟨tk',by simp⟩
   have hl:H1 (s1.heap.push {cls:=.type "range",data:=.fields #[.int i t,.int j t',.int 1 s1.toks]}).objs.size=none:=I2.bZ.fresh (zk _);refine⟨.ref _,_,I2.laid (t':=tk) hk (zk _) (show cF X.prog X.w _ h' _ (.lst ((KA i (j-i).toNat).map V.int)) from⟨?_,acc.toList,c,rv,?_⟩),rfl,q _ hl⟩
   ·rw[za]
    have sl:=yB;unfold KA;simp;omega
   ·simpa using hS
end
def HG:typeLookup (.type "zip") "__len__"= pure none:=by rw[typeLookup_type,builtinLookup_eq_fast];kernel_rfl
def Fo:typeLookup (.type "zip") "__length_hint__"= pure none:=by rw[typeLookup_type,builtinLookup_eq_fast];kernel_rfl
section
variable {prog:Program} {w:World} {A:Around} {E:Value->Shared->Prop} {s:Shared}
def vR (ho:s.heap.get? a=some o) (h:Q (some o) s):wpAny (model prog w) A (loadIfAlive a) Q E s:=
 fun Γ p _=>by
  unfold loadIfAlive;rw[Sem.wp_loadIfAlive,ho];exact h
abbrev Jt (h:Heap) (z TI TO T:Addr) (f1:Bool):Prop:=h.get? z=some {cls:=.type "zip",dict:=none,data:=.fields #[rawInt T,.bool f1,.bool false,.ref TI,.ref TO],slots:=#[]}
structure S6 (t1 t2:Bool) (h:Heap) (z TI TO i1 i2 l1 l2:Addr) (k:Nat):Prop where
 z:∃T f1,Jt h z TI TO T f1/\(∃o,h.get? T=some o)/\T≠z/\T≠i1/\T≠i2
 ti:IsPair h TI (.ref i1) (.ref i2)
 to:∃o,h.get? TO=some o
 i1:du t1 h i1 l1 k
 i2:du t2 h i2 l2 k
def Gm {z TI TO T:Addr} {f1:Bool} {o:Obj} {Q:Bool->Shared->Prop} (hz:Jt s.heap z TI TO T f1) (hT:s.heap.get? T=some o)
  (hQ:∀h',Jt h' z TI TO T true->Heap.SameBut z s.heap h'->Q false {s with heap:=h'}):wpAny (model prog w) A (Builtin.SmallTypes.ownedTupleIsFree (.ref z)) Q E s:=by
 unfold Builtin.SmallTypes.ownedTupleIsFree;refine yt (wpAny_field hz rfl (x:=rawInt T) rfl ?_);show wpAny _ _ (loadIfAlive ((T:Int).toNat) >>= _) _ _ _;rw[Int.toNat_natCast];refine yt (vR hT ?_);show wpAny _ _ (field (.ref z) 1 >>= _) _ _ _;refine yt (wpAny_field hz rfl (x:=.bool f1) rfl ?_);cases f1 with
 | true=>exact yv (hQ s.heap hz ⟨rfl,fun _ _=>rfl⟩)
 | false=>
  show wpAny _ _ (setField (.ref z) 1 (.bool true) >>= _) _ _ _;exact yt (wpAny_setField_rec hz (by simp) fun g1 z1 q1=>yv (hQ g1 z1 q1))
def Kk {t1 t2:Bool} {z TI TO i1 i2 l1 l2:Addr} {k:Nat} {xs ys:Array Value} {x y:Value} {Q:Value->Shared->Prop} (D:LF z TI TO i1 i2) (L1:Bi l1 z TO i1 i2) (L2:Bi l2 z TO i1 i2)
  (S:S6 t1 t2 s.heap z TI TO i1 i2 l1 l2 k) (hl1:fo t1 s.heap l1 xs) (hl2:fo t2 s.heap l2 ys) (hx:xs[k]?=some x) (hy:ys[k]?=some y)
  (hQ:∀h',S6 t1 t2 h' z TI TO i1 i2 l1 l2 (k+1)->IsPair h' ↑s x y->tS z TO i1 i2 s.heap h'->Q (.ref ↑s) {s with heap:=h'}) :
  wpAny (model prog w) A (Builtin.«zip.__next__» ⟨[.ref z],[]⟩) (fun fin s'=>∃v,fin=.done (.ret v)/\Q v s') E s:=by
 obtain⟨⟨T,f1,hz,⟨o,hT⟩,n1,n2,n3⟩,hTI,⟨oT,hTO⟩,h1,h2⟩:=S;show wpAny _ _ (field (.ref z) 2 >>= _) _ _ _;refine yt (wpAny_field hz rfl (x:=.bool false) rfl ?_);show wpAny _ _ (field (.ref z) 3 >>= _) _ _ _;refine yt (wpAny_field hz rfl (x:=.ref TI) rfl (yt (wpAny_seqItems hTI rfl ?_)));show wpAny _ _ (Builtin.SmallTypes.ownedTupleIsFree (.ref z) >>= _) _ _ _;refine yt (Gm hz hT fun g1 z1 q1=>?_);simp only[Bool.false_eq_true,if_false];refine yt ?_;simp only[List.forIn_toArray,List.forIn_cons,List.forIn_nil];refine yt (yt (wpAny_holding ?_));show wpAny _ _ (Builtin.SmallTypes.nextOf (.ref i1) >>= _) _ _ _;refine yt (rK (h1.but q1 D.a3) (hl1.but q1 L1.a1) hx fun g2 p2 q2=>yv ?_);refine yv ?_;refine yt (yt (wpAny_holding ?_));show wpAny _ _ (Builtin.SmallTypes.nextOf (.ref i2) >>= _) _ _ _;refine yt (rK ((h2.but q1 D.a4).but q2 D.b1.symm) ((hl2.but q1 L2.a1).but q2 L2.a3) hy fun g3 p3 q3=>yv ?_);refine yv (yv ?_);have sz:g3.objs.size=↑s:=by rw[q3.1,q2.1,q1.1]
 have k3:∀c o,c≠z->c≠i1->c≠i2->s.heap.get? c=some o->g3.get? c=some o:=fun c o c1 c3 c4 e=>q3.extBut _ _ c4 (q2.extBut _ _ c3 (q1.extBut _ _ c1 e));show wpAny _ _ (newTuple [x,y] >>= _) _ _ _;refine yt (wpAny_newTuple ?_);refine yv ⟨_,rfl,?_⟩;have up:∀c o,g3.get? c=some o->(g3.push {cls:=.type "tuple",data:=.seq #[x,y]}).get? c=some o:=fun c o e=>yu _ e;have gp:(g3.push {cls:=.type "tuple",data:=.seq #[x,y]}).get? g3.objs.size=some {cls:=.type "tuple",data:=.seq #[x,y]}:=yw _ rfl;rw[sz] at gp;show Q (.ref g3.objs.size) _;rw[sz];refine hQ _ ⟨⟨T,true,up _ _ (q3.extBut _ _ D.a4.symm (q2.extBut _ _ D.a3.symm z1)),⟨o,up _ _ (k3 _ _ n1 n2 n3 hT)⟩,n1,n2,n3⟩,up _ _ (k3 _ _ D.a1 D.a6 D.a7 hTI),⟨oT,up _ _ (k3 _ _ D.a2 D.a8 D.a9 hTO)⟩,(p2.but q3 D.b1).at (up _),p3.at (up _)⟩ gp fun c o c1 c2 c3 c4 e=>up _ _ (k3 c o c1 c3 c4 e)
def Kj {t1 t2:Bool} {z TI TO i1 i2 l1 l2:Addr} {k:Nat} {xs:Array Value} {Q:Fin->Shared->Prop} (hh:A.handled=none) (D:LF z TI TO i1 i2) (L1:Bi l1 z TO i1 i2)
  (S:S6 t1 t2 s.heap z TI TO i1 i2 l1 l2 k) (hl1:fo t1 s.heap l1 xs) (hx:xs[k]?=none)
  (hE:∀h' e,tS z TO i1 i2 s.heap h'->(∃o,h'.get? e=some o/\o.cls=.type "StopIteration")->E (.ref e) {s with heap:=h'}) :
  wpAny (model prog w) A (Builtin.«zip.__next__» ⟨[.ref z],[]⟩) Q E s:=by
 obtain⟨⟨T,f1,hz,⟨o,hT⟩,n1,n2,n3⟩,hTI,⟨oT,hTO⟩,h1,h2⟩:=S;show wpAny _ _ (field (.ref z) 2 >>= _) _ _ _;refine yt (wpAny_field hz rfl (x:=.bool false) rfl ?_);show wpAny _ _ (field (.ref z) 3 >>= _) _ _ _;refine yt (wpAny_field hz rfl (x:=.ref TI) rfl (yt (wpAny_seqItems hTI rfl ?_)));show wpAny _ _ (Builtin.SmallTypes.ownedTupleIsFree (.ref z) >>= _) _ _ _;refine yt (Gm hz hT fun g1 z1 q1=>?_);simp only[Bool.false_eq_true,if_false];refine yt ?_;simp only[List.forIn_toArray,List.forIn_cons,List.forIn_nil];refine yt (yt (wpAny_holding ?_));show wpAny _ _ (Builtin.SmallTypes.nextOf (.ref i1) >>= _) _ _ _;refine yt (Dv hh (h1.but q1 D.a3) (hl1.but q1 L1.a1) hx fun g2 e q2 he=>?_);exact hE g2 e (fun c o c1 c2 c3 c4 x=>q2 _ _ c3 (q1.extBut _ _ c1 x)) he
def LD (t1 t2:Bool) (h:Heap) (z TI TO i1 i2 l1 l2:Addr) (k:Nat):Prop:=(k=0/\Ob t1 t2 h z TI TO i1 i2 l1 l2 0 .none)\/S6 t1 t2 h z TI TO i1 i2 l1 l2 k
def LD.type {t1 t2:Bool} {z TI TO i1 i2 l1 l2:Addr} {k:Nat} (S:LD t1 t2 s.heap z TI TO i1 i2 l1 l2 k):s.TypeIs (.ref z) "zip":=by
 rcases S with⟨_,S⟩ | S
 ·exact⟨_,S.z,rfl⟩
 ·obtain⟨_,_,e,_⟩:=S.z;exact⟨_,e,rfl⟩
theorem LD.at {t1 t2:Bool} {h h':Heap} {z TI TO i1 i2 l1 l2:Addr} {k:Nat} (S:LD t1 t2 h z TI TO i1 i2 l1 l2 k) {B:Addr} (hk:∀c o,c≠B->h.get? c=some o->h'.get? c=some o) (hB:∃o,h'.get? B=some o) (nB:B∉[z,TI,TO,i1,i2]):LD t1 t2 h' z TI TO i1 i2 l1 l2 k:=by
 simp only[zC,zD,or_false,not_or] at nB;obtain⟨b1,b2,b3,b4,b5⟩:=nB;rcases S with⟨e,S⟩ | S
 ·exact .inl ⟨e,hk _ _ (Ne.symm b1) S.z,hk _ _ (Ne.symm b2) S.ti,(let ⟨x,y,q⟩:=S.to;⟨x,y,hk _ _ (Ne.symm b3) q⟩),S.i1.at fun o=>hk _ o (Ne.symm b4),S.i2.at fun o=>hk _ o (Ne.symm b5)⟩
 ·obtain⟨T,f1,z1,⟨o,hT⟩,n1,n2,n3⟩:=S.z
  refine .inr ⟨⟨T,f1,hk _ _ (Ne.symm b1) z1,?_,n1,n2,n3⟩,hk _ _ (Ne.symm b2) S.ti,(let ⟨x,q⟩:=S.to;⟨x,hk _ _ (Ne.symm b3) q⟩),S.i1.at fun o=>hk _ o (Ne.symm b4),S.i2.at fun o=>hk _ o (Ne.symm b5)⟩
  by_cases e:T=B
  ·rw[e];exact hB
  ·exact⟨o,hk _ _ e hT⟩
def LD.obj {t1 t2:Bool} {h:Heap} {z TI TO i1 i2 l1 l2:Addr} {k:Nat} (S:LD t1 t2 h z TI TO i1 i2 l1 l2 k):∀b∈[z,TI,TO,i1,i2],∃o,h.get? b=some o:=by
 intro b hb;simp only[zC,zD,or_false] at hb;rcases S with⟨e,S⟩ | S
 ·rcases hb with rfl | rfl | rfl | rfl | rfl
  ·exact⟨_,S.z⟩
  ·exact⟨_,S.ti⟩
  ·exact let ⟨x,y,q⟩:=S.to;⟨_,q⟩
  ·exact let ⟨o,e,_⟩:=S.i1.get;⟨o,e⟩
  ·exact let ⟨o,e,_⟩:=S.i2.get;⟨o,e⟩
 ·rcases hb with rfl | rfl | rfl | rfl | rfl
  ·obtain⟨_,_,e,_⟩:=S.z;exact⟨_,e⟩
  ·exact⟨_,S.ti⟩
  ·exact S.to
  ·exact let ⟨o,e,_⟩:=S.i1.get;⟨o,e⟩
  ·exact let ⟨o,e,_⟩:=S.i2.get;⟨o,e⟩
def Ki {t1 t2:Bool} {z TI TO i1 i2 l1 l2:Addr} {k:Nat} {xs ys:Array Value} {x y:Value} {Q:Option Value->Shared->Prop} (D:LF z TI TO i1 i2) (L1:Bi l1 z TO i1 i2) (L2:Bi l2 z TO i1 i2)
  (S:LD t1 t2 s.heap z TI TO i1 i2 l1 l2 k) (hl1:fo t1 s.heap l1 xs) (hl2:fo t2 s.heap l2 ys) (hx:xs[k]?=some x) (hy:ys[k]?=some y)
  (hQ:∀h',LD t1 t2 h' z TI TO i1 i2 l1 l2 (k+1)->IsPair h' ↑s x y->tS z TO i1 i2 s.heap h'->Q (some (.ref ↑s)) {s with heap:=h'}) :
  wpAny (model prog w) A (pyNext (.ref z)) Q E s:=by
 have ob:=S.obj;have lt:∀b∈[z,TI,TO,i1,i2],↑s≠b:=fun b hb e=>by
  obtain⟨o,ho⟩:=ob b hb;rw[<-e] at ho;exact absurd (yx ho) (ye _)
 rcases S with⟨e,S⟩ | S
 ·subst e
  refine Fp D L1 L2 S hl1 hl2 hx hy fun h' a1 a2 a3=>hQ h' (.inr ⟨⟨_,false,a1.z,⟨_,a2⟩,lt z (by simp),lt i1 (by simp),lt i2 (by simp)⟩,a1.ti,(let ⟨x,y,q⟩:=a1.to;⟨_,q⟩),a1.i1,a1.i2⟩) a2 a3
 ·have hT:s.TypeIs (.ref z) "zip":=by obtain⟨_,_,e,_⟩:=S.z;exact⟨_,e,rfl⟩
  unfold pyNext;exact yt (wpAny_attempt (wpAny_callSpecial?_slot (name:=Str.ofString "__next__") hT F.slot_zip_next (wpAny_call_entry F.slot_zip_next hT F.entry_zip_next (Kk D L1 L2 S hl1 hl2 hx hy fun h' a1 a2 a3=>yv (hQ h' (.inr a1) a2 a3)) (F.args_zip_next_1 _))))
def Kh {t1 t2:Bool} {z TI TO i1 i2 l1 l2:Addr} {k:Nat} {xs ys:Array Value} {Q:Option Value->Shared->Prop} (hh:A.handled=none) (D:LF z TI TO i1 i2) (L1:Bi l1 z TO i1 i2) (L2:Bi l2 z TO i1 i2)
  (S:LD t1 t2 s.heap z TI TO i1 i2 l1 l2 k) (hl1:fo t1 s.heap l1 xs) (hl2:fo t2 s.heap l2 ys) (hx:xs[k]?=none)
  (hQ:∀h',tS z TO i1 i2 s.heap h'->Q none {s with heap:=h'}):wpAny (model prog w) A (pyNext (.ref z)) Q E s:=by
 rcases S with⟨e,S⟩ | S
 ·subst e
  exact Fn hh D L1 L2 S hl1 hl2 (.inl hx) hQ
 ·have hT:s.TypeIs (.ref z) "zip":=by obtain⟨_,_,e,_⟩:=S.z;exact⟨_,e,rfl⟩
  unfold pyNext;refine yt (wpAny_attempt (wpAny_callSpecial?_slot (name:=Str.ofString "__next__") hT F.slot_zip_next (wpAny_call_entry F.slot_zip_next hT F.entry_zip_next (Kj hh D L1 S hl1 hx fun h' e hk he=>?_) (F.args_zip_next_1 _))));obtain⟨o,ho,hc⟩:=he;exact yt (wpAny_isInstance (T:="StopIteration") (b:=true) ⟨o,ho,hc⟩ isSubtype_stop (yv (hQ _ hk)))
end
def Pairs (H:Hp) (xs ys us:List V) (k:Nat):Prop:=us.length=k/\∀(j:Nat) (x y:V),j<k->xs[j]?=some x->ys[j]?=some y->∃q,us[j]?=some (.ref q)/\H q=some (.tup [x,y])
def au.PB {t:Bool} {K:yA} {H H':Hp} {a:Addr} {xs:List V} (e:au H H') (h:Cn t K H a xs):Cn t K H' a xs:=by
 cases t
 ·exact e.seq h
 ·exact e.tup h
abbrev Ke (h:Heap) (S:Addr) (acc:Array Value) (c:Nat):Prop:=h.get? S=some {cls:=.type "list",dict:=none,data:=.seq acc c,slots:=#[]}
section
variable {X:Cx} {pins:List (Addr×Obj)} {σ:St}
def LZ {A:Around} {R:Result->Shared->Prop} {t1 t2:Bool} {a b z TI TO i1 i2 S:Addr} {xs ys:List V} {res:Value} (hh:A.handled=none) (D:LF z TI TO i1 i2) (L1:Bi a z TO i1 i2) (L2:Bi b z TO i1 i2) (hl:xs.length=ys.length) (hz:xs.length<=sizeLine) (nS:S∉[z,TI,TO,i1,i2]) :
  ∀(n k:Nat) (s:Shared) (H:Hp) (acc:Array Value) (c:Nat) (us:List V),xs.length-k=n->k<=xs.length->Inv X pins σ H s->(∀b∈[z,TI,TO,i1,i2,S],rE X pins H b)->LD t1 t2 s.heap z TI TO i1 i2 a b k->Cn t1 X.K H a xs->Cn t2 X.K H b ys->
  Ke s.heap S acc c->Vals us acc.toList->Pairs H xs ys us k->
  (∀(s':Shared) (H':Hp) (us':List V) (acc':Array Value) (c':Nat),Inv X pins σ H' s'->rE X pins H' S->au H H'->Ke s'.heap S acc' c'->Vals us' acc'.toList->Pairs H' xs ys us' xs.length->R (.ok (.ret res)) s')->
  codeAny (model X.prog X.w) A (.builtin "list.extend.loop" ⟨[.ref S,.ref z,res],[]⟩) R s:=by
 intro n
 induction n with
 | zero=>
  intro k s H acc c us hk hi I hf S0 q1 q2 hS rv pr hR;have e:k=xs.length:=nofun
  subst e;obtain⟨its,rx,p1,_⟩:=I.sq q1;obtain⟨jts,ry,p2,_⟩:=I.sq q2;refine codeAny_builtin F.entry_extend_loop ?_;rw[Around.under_plainId F.plain_extend_loop _];show wpAny _ A.in1 (pyNext (.ref z) >>= _) _ _ s;have hl:=rx.length;refine yt (Kh (A:=A.in1) hh D L1 L2 S0 p1 p2 (by simp;omega) fun h' hk'=>?_);have kk:∀b u,b∉[z,TI,TO,i1,i2,S]->s.heap.get? b=some u->h'.get? b=some u:=fun b u hb e=>hk' b u (fun z=>hb (by simp[z])) (fun z=>hb (by simp[z])) (fun z=>hb (by simp[z])) (fun z=>hb (by simp[z])) e;have kS:Ke h' S acc c:=hk' S _ (fun z=>nS (by simp[z])) (fun z=>nS (by simp[z])) (fun z=>nS (by simp[z])) (fun z=>nS (by simp[z])) hS;exact yv (hR _ H us acc c (I.turns (t':=s.toks) hf kk) (hf S (by simp)) (fun _ _ e=>e) kS rv pr)
 | succ n ih=>
  intro k s H acc c us hk hi I hf S0 q1 q2 hS rv pr hR;have hlt:k<xs.length:=nofun
  obtain⟨its,rx,p1,_⟩:=I.sq q1;obtain⟨jts,ry,p2,_⟩:=I.sq q2;obtain⟨u,hu,ru⟩:=rx.get (zb hlt);obtain⟨u',hu',ru'⟩:=ry.get (zb (show k<ys.length by omega));refine codeAny_builtin F.entry_extend_loop ?_;rw[Around.under_plainId F.plain_extend_loop _];show wpAny _ A.in1 (pyNext (.ref z) >>= _) _ _ s;have ob:=S0.obj;have lt:∀b∈[z,TI,TO,i1,i2,S],b≠↑s:=fun b hb e=>by
   obtain⟨o,ho⟩:∃o,s.heap.get? b=some o:=by
    rcases zF.mp (show b∈[z,TI,TO,i1,i2]++[S] from hb) with z' | z'
    ·exact ob b z'
    ·rw[zy.mp z'];exact⟨_,hS⟩
   rw[e] at ho;exact absurd (yx ho) (ye _)
  refine yt (Ki (A:=A.in1) D L1 L2 S0 p1 p2 (x:=u) (y:=u') (by simpa using hu) (by simpa using hu') fun h' S1 hT hk'=>?_);have kS:Ke h' S acc c:=hk' S _ (fun z=>nS (by simp[z])) (fun z=>nS (by simp[z])) (fun z=>nS (by simp[z])) (fun z=>nS (by simp[z])) hS;have az:acc.size=k:=by rw[<-Array.length_toList,<-rv.length];exact pr.1
  show wpAny _ A.in1 (updateSeq S (·.push (.ref ↑s)) >>= _) _ _ _;refine yt ?_;have oth:∀b o,b≠S->h'.get? b=some o->(h'.update S (Obj.mapSeq (·.push (.ref ↑s)))).get? b=some o:=fun b o hb e=>(yy _ _ (Ne.symm hb)).trans e;have S2:=yz (Obj.mapSeq (·.push (Value.ref ↑s))) kS rfl;have hn:H ↑s=none:=I.bZ.fresh (zk _);have hT2:=oth _ _ (Ne.symm (lt S (by simp))) hT;have I2:Inv X pins σ (upd H ↑s (.tup [xs[k],ys[k]])) {s with heap:=h'.update S (Obj.mapSeq (·.push (.ref ↑s))),toks:=s.toks}:=
   I.xD (t':=s.toks) hf (zk _) (fun b o hb e=>oth b o (fun z=>hb (by simp[z])) (hk' b o (fun z=>hb (by simp[z])) (fun z=>hb (by simp[z])) (fun z=>hb (by simp[z])) (fun z=>hb (by simp[z])) e))
    ⟨by show 2<=sizeLine;decide,[u,u'],.cons ru (.cons ru' .nil),⟨_,hT2,rfl,_,rfl⟩⟩
  have s1:au H (upd H ↑s (.tup [xs[k],ys[k]])):=aR hn;refine wpAny_updateSeq kS rfl (yv ⟨plainId_quiet F.plain_extend_loop _,ih (k+1) _ (upd H ↑s (.tup [xs[k],ys[k]])) (acc.push (.ref ↑s)) _ (us++[.ref ↑s]) nofun hlt I2 (fun b hb=>?_) ?_ (s1.PB q1) (s1.PB q2) S2 ?_ ?_ ?_⟩)
   (by rw[az];omega) (by show(acc.push _).size<=sizeLine+1;rw[Array.size_push,az];omega)
  ·obtain⟨f0,f1,f2,f3,f4,f5⟩:=hf b hb
   exact⟨by rw[aD (lt b hb)];exact f0,f1,f2,f3,f4,f5⟩
  ·exact S1.at (B:=S) oth ⟨_,S2⟩ nS
  ·rw[Array.toList_push]
   exact Vals.append rv (.cons rfl .nil)
  ·refine⟨by rw[zg,pr.1];rfl,fun j x y hj hx hy=>?_⟩
   rcases Nat.lt_or_ge j k with z' | z'
   ·obtain⟨q,e1,e2⟩:=pr.2 j x y z' hx hy
    exact⟨q,by rw[List.getElem?_append_left (by rw[pr.1];exact z')];exact e1,s1 _ _ e2⟩
   ·have e:j=k:=nofun
    subst e;rw[zb hlt] at hx;rw[zb (show j<ys.length by omega)] at hy;cases hx;cases hy;exact⟨↑s,by rw[zZ (by rw[pr.1];exact zk _),pr.1,Nat.sub_self];rfl,aA⟩
  ·exact fun s' H' us' acc' c' I' f' sm l' v' p'=>hR s' H' us' acc' c' I' f' (s1.trans sm) l' v' p'
def B8 {A:Around} {E:Value->Shared->Prop} {s:Shared} {H:Hp} {Q:Value->Shared->Prop} {t1 t2:Bool} {a b z TI TO i1 i2:Addr} {xs ys:List V} (hh:A.handled=none) (D:LF z TI TO i1 i2) (L1:Bi a z TO i1 i2) (L2:Bi b z TO i1 i2) (hl:xs.length=ys.length) (hz:xs.length<=sizeLine)
  (I:Inv X pins σ H s) (hf:∀b∈[z,TI,TO,i1,i2],rE X pins H b) (Z0:Ob t1 t2 s.heap z TI TO i1 i2 a b 0 .none) (q1:Cn t1 X.K H a xs) (q2:Cn t2 X.K H b ys)
  (hQ:∀(s':Shared) (H':Hp) (us':List V) (l:Addr),Inv X pins σ H' s'->H l=none->au H H'->H' l=some (.lst us')->Pairs H' xs ys us' xs.length->Q (.ref l) s') :
  wpAny (model X.prog X.w) A (call (.type "list") [.ref z]) Q E s:=by
 have S0:LD t1 t2 s.heap z TI TO i1 i2 a b 0:=.inl ⟨rfl,Z0⟩;have nS:↑s∉[z,TI,TO,i1,i2]:=fun hb=>by
  obtain⟨o,ho⟩:=S0.obj _ hb;exact absurd (yx ho) (ye _)
 refine callType_codes (Q₁:=fun obj s₁=>obj=.ref ↑s/\s₁={s with heap:=s.heap.push {cls:=.type "list",data:=.seq #[]}}) F.called_list (F.typeCall_list_1 _) F.entry_list_init
  (code_list_new _ ⟨rfl,rfl⟩) fun obj s₁ h₁=>?_
 obtain⟨rfl,rfl⟩:=h₁;have hS:(s.heap.push {cls:=.type "list",data:=.seq #[]}).get? ↑s=some {cls:=.type "list",data:=.seq #[]}:=yw _ rfl;refine⟨⟨_,hS,rfl⟩,F.args_list_init_2 _ _,?_⟩;have kp:∀b o,s.heap.get? b=some o->(s.heap.push {cls:=.type "list",data:=.seq #[]}).get? b=some o:=fun b o e=>yu _ e;have fS:rE X pins H ↑s:=I.uM (zk _) (I.bZ.fresh (zk _));have hf6:∀b∈[z,TI,TO,i1,i2,↑s],rE X pins H b:=fun b hb=>by
  rcases zF.mp (show b∈[z,TI,TO,i1,i2]++[↑s] from hb) with z' | z'
  ·exact hf b z'
  ·rw[zy.mp z'];exact fS
 have S1:LD t1 t2 (s.heap.push {cls:=.type "list",data:=.seq #[]}) z TI TO i1 i2 a b 0:=S0.at (B:=↑s) (fun c o _ e=>kp c o e) ⟨_,hS⟩ nS;have I1:Inv X pins σ H {s with heap:=s.heap.push {cls:=.type "list",data:=.seq #[]}}:=I.kept (t':=s.toks) kp;have zz:IsZip (s.heap.push {cls:=.type "list",data:=.seq #[]}) z TI TO .none:=kp _ _ Z0.z;generalize hS0:↑s=S at hS nS fS hf6 ⊢;have s0S:X.s₀.heap.objs.size<=S:=by rw[<-hS0];exact I.sz
 have lo:↑s<=S:=Nat.le_of_eq hS0;clear kp;generalize (s.heap.push {cls:=.type "list",data:=.seq #[]}:Heap)=h1 at hS S1 I1 zz;show wpAny _ A.in1.in1 (do let old <-Builtin.List.listItems (.ref S);Builtin.List.listUpdate (.ref S) (fun _=>#[]);letGo old.toList.reverse;Builtin.List.listExtendWith (.ref S) (.ref z) .none) _ _ _;refine yt ?_;unfold Builtin.List.listItems;refine yt (wpAny_seqItems hS rfl (yv ?_));show wpAny _ A.in1.in1 (updateSeq S (fun _=>#[]) >>= fun _=>letGo (#[]:Array Value).toList.reverse >>= fun _=>Builtin.List.listExtendWith (.ref S) (.ref z) .none) _ _ _;refine yt (wpAny_updateSeq hS rfl ?_);have hS2:=yz (Obj.mapSeq (fun _=>(#[]:Array Value))) hS rfl;have oth:∀b o,b≠S->h1.get? b=some o->(h1.update S (Obj.mapSeq (fun _=>(#[]:Array Value)))).get? b=some o:=
  fun b o hb e=>(yy _ _ (Ne.symm hb)).trans e
 refine yt (wpAny_letGo ?_);have hSI:S≠z:=fun e=>nS (by rw[e];simp);replace zz:=oth _ _ hSI.symm zz;have S2:=S1.at (B:=S) oth ⟨_,hS2⟩ nS;have I2:=I1.turns (t':=s.toks) (ch:=[S]) (fun b hb=>by rw[zy.mp hb];exact fS) (fun b o hb e=>oth b o (fun z=>hb (by simp[z])) e);clear oth S1 I1 hS;generalize (h1.update S (Obj.mapSeq (fun _=>(#[]:Array Value))):Heap)=h2 at hS2 S2 I2 zz;dsimp only at I2 ⊢;unfold Builtin.List.listExtendWith;have hT:Shared.TypeIs {s with heap:=h2,toks:=s.toks} (.ref z) "zip":=S2.type (s:={s with heap:=h2,toks:=s.toks});refine yt (wpAny_typeOf hT ?_);have e1:Builtin.List.listSameRef (.ref S) (.ref z)=false:=by simp[Builtin.List.listSameRef,hSI]
 have e2:(Value.type "zip"== Value.type "list")=false:=by decide
 have e3:(Value.type "zip"== Value.type "tuple")=false:=by decide
 simp only[e1,e2,e3,Bool.or_false,Bool.false_eq_true,if_false];refine yt (wpAny_pyIter_zip (s:={s with heap:=h2,toks:=s.toks}) zz ?_);refine yt (wpAny_holding ?_);unfold Builtin.List.listLengthHint;refine yt (wpAny_specialOf hT HG ?_);show wpAny _ A.in1.in1 (specialOf (Value.ref z) (Str.ofString "__length_hint__") >>= _) _ _ _;refine yt (wpAny_specialOf hT Fo ?_);refine yv ?_;show wpAny _ A.in1.in1 (rule "list.extend.makes-room" >>= fun _=>Builtin.List.listTouch (.ref S) >>= fun _=>
  again (.builtin "list.extend.loop" ⟨[.ref S,.ref z,.none],[]⟩)) _ _ _
 refine yt (wpAny_rule ?_);refine yt ?_;show wpAny _ A.in1.in1 (updateSeq S (·.push .none) >>= fun _=>updateSeq S (·.pop)) _ _ _;refine yt (wpAny_updateSeq hS2 rfl ?_);have hS3:=yz (Obj.mapSeq (·.push Value.none)) hS2 rfl;refine wpAny_updateSeq (hz:=by seq_fits) hS3 rfl ?_;have hS4:=yz (Obj.mapSeq (·.pop)) hS3 rfl;have oth:∀b o,b≠S->h2.get? b=some o->((h2.update S (Obj.mapSeq (·.push Value.none))).update S (Obj.mapSeq (·.pop))).get? b=some o:=
  fun b o hb e=>(yy _ _ (Ne.symm hb)).trans ((yy _ _ (Ne.symm hb)).trans e)
 have S4:=S2.at (B:=S) oth ⟨_,hS4⟩ nS;have I4:=I2.turns (t':=s.toks) (ch:=[S]) (fun b hb=>by rw[zy.mp hb];exact fS) (fun b o hb e=>oth b o (fun z=>hb (by simp[z])) e);refine yv ⟨plainId_quiet F.plain_extend_loop _,LZ (X:=X) (pins:=pins) (σ:=σ) (A:=A.in1) hh D L1 L2 hl hz nS xs.length 0 _ H _ _ [] rfl (yf _) I4 hf6 S4 q1 q2 hS4 .nil ⟨rfl,fun j x y hj=>nofun⟩ fun s' H' us' acc' c' I' f' sm l' v' p'=>?_⟩;refine⟨rfl,?_⟩;obtain⟨f0,f1,f2,f3,f4,f5⟩:=f';have I5:Inv X pins σ (upd H' S (.lst us')) s':=I'.RN f0 (by
  cases q:X.s₀.heap.get? S with
  | none=>rfl
  | some o=>exact absurd (yx q) (Nat.not_lt.mpr s0S)) f1 f4 f5 ⟨by rw[p'.1];exact hz,acc'.toList,c',v',l'⟩
 refine hQ s' _ us' S I5 fS.1 (sm.trans (aR f0)) aA ⟨p'.1,fun j x y hj hx hy=>?_⟩;obtain⟨q,e1,e2⟩:=p'.2 j x y hj hx hy;exact⟨q,e1,aR f0 _ _ e2⟩
def Qn (K:yA) (ta:TA):TE:=fun σ H Q=>ta σ H fun vs H1=>∃t1 t2 a b xs ys,vs=[.ref a,.ref b]/\Cn t1 K H1 a xs/\Cn t2 K H1 b ys/\xs.length=ys.length/\∀l H2 us,au H1 H2->H1 l=none->H2 l=some (.lst us)->Pairs H2 xs ys us xs.length->Q (.ref l) H2
def MY (hc:X.calm=true) (hg0:Gl X "list") (hm0:X.mg "list"= none) (hg:Gl X "zip") (hm:X.mg "zip"= none) (ha:PA X [a,b] ta)
  (hs:starEach [a,b] X.env=[(false,eval a X.env),(false,eval b X.env)]<|>qe_) (hs2:starEach [b] X.env=[(false,eval b X.env)]<|>qe_)
  (hs1:starEach [.Call (.Name "zip" p2) [a,b] [] pos2] X.env=[(false,eval (.Call (.Name "zip" p2) [a,b] [] pos2) X.env)]<|>qe_) :
  PE X (.Call (.Name "list" p1) [.Call (.Name "zip" p2) [a,b] [] pos2] [] pos1) (Qn X.K ta):=by
 intro pins s σ H Q I h;refine wpAny_Call_Name_kw (iA I hg0 hm0 (by decide +kernel:bootBuiltins "list"= some (.type "list")) ?_ ∅ ∅);refine yL (Q:=_) ?_ hs1 rfl;rw[hs1];refine Calls.spliced_cons ?_;refine Call_ (iA I hg hm NU (yL (cU (ha pos2 pins s σ H _ I h) fun us s1 ⟨vs,H1,I1,r1,q1⟩=>?_) (by rw[hs,hs2]) (by rw[hs2];rfl)));obtain⟨t1,t2,a,b,xs,ys,e,hq,hq',hl,q⟩:=q1;subst e;cases r1 with
 | cons r rr=>
  cases rr with
  | cons r' rr=>
   cases rr;cases r;cases r';obtain⟨its,rv,pl,hz⟩:=I1.sq hq;obtain⟨jts,rv',pl',hz'⟩:=I1.sq hq';have la:=pl.lt;have lb:=pl'.lt;refine Fq pl pl' fun g S hk=>?_;refine Calls.spliced_nil ?_;have I2:Inv X pins σ H1 {s1 with heap:=g}:=I1.kept (t':=s1.toks) hk;have D:LF (↑s1+4) (↑s1+2) (↑s1+3) ↑s1 (↑s1+1):=by
    constructor <;> (show _≠(_:Nat)) <;> omega
   have L:∀c,c<↑s1->Bi c (↑s1+4) (↑s1+3) ↑s1 (↑s1+1):=fun c hc=>by
    constructor <;> (show _≠(_:Nat)) <;> omega
   refine B8 (I2.ok.hd hc) D (L a la) (L b lb) hl hz I2 (fun c hc=>?_) S hq hq' fun s' H' us' l I' hn sm e pr=>⟨.ref l,H',I',rfl,q l H' us' sm hn e pr⟩
   have hb':↑s1<=c:=by
    simp only[zC,zD,or_false] at hc;rcases hc with e | e | e | e | e <;> (subst e;first | exact Nat.le_add_right _ _ | exact zk _)
   exact I1.uM hb' (I1.bZ.fresh hb')
end
end L2
namespace Sc
open PySem L2 Lm
noncomputable def mixed (c k:Int):Int:=(c%2305843009213693951+1)*(k*k+48271)*40692%2147483399
def dq (h0:0<=i) (h1:i<2^n):Sz n i:=by
 unfold Sz;have e:((2^n:Nat):Int)=(2:Int)^n:=by simp
 rw[<-e] at h1;omega
def Rc (h1:48<=c) (h2:c<=57):c∈("0123456789": Str).cps.toList:=by
 have:c=48\/c=49\/c=50\/c=51\/c=52\/c=53\/c=54\/c=55\/c=56\/c=57:=nofun
 rcases this with rfl | rfl | rfl | rfl | rfl | rfl | rfl | rfl | rfl | rfl <;> decide
noncomputable def iU (x:Int×Int):Str:=if x.2=1 then dec x.1 else dec x.1 ++"/" ++ dec x.2
abbrev Item:=Option (Int×Int)×(Int×Int)
noncomputable def qX:Item->Str
 | (none,x)=> "r:" ++ iU x
 | (some q,x)=>dec q.1 ++":" ++ dec q.2 ++":" ++ iU x
def Oc (x:Int×Int):Prop:=Rd x/\0<x.1/\x.1<10000/\x.2<10000
def N3 (q:Int×Int):Prop:=-100<q.1/\q.1<100/\-100<q.2/\q.2<100/\(q.2-7*q.1)%12=0
def LK (it:Item):Prop:=Oc it.2/\∀q,it.1=some q->N3 q
def gf (h1:c≠45) (h2:¬(48<=c/\c<=57)):c∉(dec n).cps.toList:=by
 intro z
 by_cases h0:0<=n
 ·obtain⟨m,rfl⟩:=yK h0
  exact h2 (lA z)
 ·obtain⟨m,em⟩:∃m:Nat,-n=(m:Int):=⟨(-n).toNat,nofun⟩
  rw[xu nofun,em,cJ] at z;rcases zF.mp z with z | z
  ·have e:("-": Str).cps.toList=[45]:=rfl
   rw[e] at z;exact h1 (zy.mp z)
  ·exact h2 (lA z)
def CN (h:Oc x):58∉(iU x).cps.toList:=by
 unfold iU;split
 ·exact gf ∅ ∅
 ·rw[cJ,cJ]
  intro z;rcases zF.mp z with z | z
  ·rcases zF.mp z with z | z
   ·exact gf ∅ ∅ z
   ·have e:("/": Str).cps.toList=[47]:=rfl
    rw[e] at z;exact absurd (zy.mp z) ∅
  ·exact gf ∅ ∅ z
def GW (h0:0<=n) (h:n<10000):(dec n).length<=4:=by
 obtain⟨m,rfl⟩:=yK h0;exact C4 ∅ nofun
abbrev mr (x:Int×Int):HO:=.tup [.int x.1,.int x.2]
inductive Js (H:Hp):V->Option (Int×Int)->Prop where
 | bH:Js H .bH none
 | ref {b:Addr} {q:Int×Int}:H b=some (mr q)->Js H (.ref b) (some q)
def Js.mono (s:au H H') (h:Js H v o):Js H' v o:=by
 cases h with
 | bH=>exact .bH
 | ref h=>exact .ref (s _ _ h)
def Ut (H:Hp) (v:V) (it:Item):Prop:=∃p pv a,v=.ref p/\H p=some (.tup [pv,.ref a])/\H a=some (mr it.2)/\Js H pv it.1
noncomputable def wI:List Nat:=("0123456789": Str).cps.toList
noncomputable def rn (most:Int) (cs:List Nat):Option Int:=
 if(cs.length:Int)<1 then none else if most<cs.length then none else if cs.all (fun c=>decide (c∈wI))=true then(if cs[0]?=some 48/\1<cs.length then none else some ((NumText.digitsVal cs:Nat):Int)) else none
noncomputable def ov:Option Int->V
 | none=>.bH
 | some n=>.int n
noncomputable def rs (most:Int) (t:Str):Option Int:=if t.cps.toList[0]?=some 45 then(match rn most (t.cps.toList.drop 1) with | some n=>if n=0 then none else some (-n) | none=>none) else rn most t.cps.toList
noncomputable def rp (a b:Str):Option (Int×Int):=match rs 2 a,rs 2 b with
 | some f,some h=>if(h-7*f)%12=0 then some (f,h) else none
 | _,_=>none
noncomputable def N9 (t:Str):Option (Int×Int):=match Txt.split t "/" with
 | [a]=>(match rn 4 a.cps.toList with | some n=>some (red n 1) | none=>none)
 | [a,b]=>(match rn 4 a.cps.toList,rn 4 b.cps.toList with | some n,some m=>if m=0 then none else some (red n m) | _,_=>none)
 | _=>none
noncomputable def lr (t:Str):Option (Int×Int):=match N9 t with
 | some x=>if x.1=0 then none else some x
 | none=>none
noncomputable def ir (t:Str):Option Item:=match lr ((Txt.split t ":").getLast?.getD "") with
 | none=>none
 | some x=>if(Txt.split t ":").dropLast=[("r": Str)] then some (none,x) else match (Txt.split t ":").dropLast with
  | [a,b]=>(match rp a b with | some q=>some (some q,x) | none=>none)
  | _=>none
def Pq (H:Hp) (v:V):Option Item->Prop
 | none=>v=.bH
 | some it=>Ut H v it
def GN (h:c∈wI):48<=c/\c<=57:=by
 have e:wI=[48,49,50,51,52,53,54,55,56,57]:=rfl;rw[e] at h;simp at h;omega
def MD (h:rn most cs=some n) (hm:most<=4):0<=n/\n<10000/\(cs.all (fun c=>decide (c∈wI))=true):=by
 unfold rn at h;split at h
 ·cases h
 ·split at h
  ·cases h
  ·split at h
   ·rename_i h1 h2 h3
    split at h
    ·cases h
    ·cases h
     refine⟨Int.natCast_nonneg _,?_,h3⟩;have hl:cs.length<=4:=nofun
     have key:∀(l:List Nat) (a:Nat),l.all (fun c=>decide (c∈wI))=true->l.foldl (fun acc c=>acc*10+(c-48)) a<(a+1)*10^l.length:=by
      intro l
      induction l with
      | nil=>intro a _;simp
      | cons c l ih=>
       intro a ha;rw[List.all_cons,zN] at ha;have i3:=GN (yd ha.1);have i1:=ih (a*10+(c-48)) ha.2;have i2:(a*10+(c-48)+1)*10^l.length<=((a+1)*10)*10^l.length:=Nat.mul_le_mul_right _ nofun;rw[List.foldl_cons,zt,Nat.pow_succ,Nat.mul_comm (10^l.length) 10,<-Nat.mul_assoc];exact yb i1 i2
     have k1:NumText.digitsVal cs<10^cs.length:=by have:=key cs 0 h3;rw[Nat.zero_add,Nat.one_mul] at this;exact this
     have k2:10^cs.length<=10^4:=Nat.pow_le_pow_right ∅ hl;omega
   ·cases h
def Jf (h:cs.all (fun c=>decide (c∈wI))=true):NumText.AllDigits cs:=fun c hc=>by
 have:=(yo.mp h) c hc;exact GN (yd this)
inductive jP (vs:List V) (H:Hp) (Q:VK) (E:XK):Prop
 | mk (a b:Int) (_:vs=[.int a,.int b]) (_:0<=a) (_:0<=b) (_:Q (.int (Int.gcd a b:Nat)) H)
inductive fU (vs:List V) (H:Hp) (Q:VK) (E:XK):Prop
 | mk (t b:Int) (_:vs=[.int t,.int b]) (_:0<=t) (_:0<b) (_:Sz 8999 b) (_:∀p H',au H H'->H' p=some (mr (red t b))->Q (.ref p) H')
inductive Ms (vs:List V) (H:Hp) (Q:VK) (E:XK):Prop
 | mk (x y:Int×Int) (p q:Addr) (n m:Nat) (_:vs=[.ref p,.ref q]) (_:H p=some (mr x)) (_:H q=some (mr y)) (_:Rd x) (_:Rd y) (_:Bk n x) (_:Bk m y) (_:n+m<=8999) (_:∀r H',au H H'->H' r=some (mr (add x y))->Q (.ref r) H')
inductive HU (vs:List V) (H:Hp) (Q:VK) (E:XK):Prop
 | mk (x y:Int×Int) (p q:Addr) (_:vs=[.ref p,.ref q]) (_:H p=some (mr x)) (_:H q=some (mr y)) (_:Bk 8999 x) (_:Bk 8999 y) (_:Q (.bl (decide (x.1*y.2<y.1*x.2))) H)
inductive Bv (vs:List V) (H:Hp) (Q:VK) (E:XK):Prop
 | mk (c k:Int) (_:vs=[.int c,.int k]) (_:0<=k) (_:k<1000000) (_:Q (.int (mixed c k)) H)
abbrev xR:Sp:=fU
inductive ia (vs:List V) (H:Hp) (Q:VK) (E:XK):Prop
 | mk (t:Str) (most:Int) (_:vs=[.str t,.int most]) (_:t.length<=600) (_:∀H',au H H'->Q (ov (rn most t.cps.toList)) H')
inductive mB (vs:List V) (H:Hp) (Q:VK) (E:XK):Prop
 | mk (t:Str) (most:Int) (_:vs=[.str t,.int most]) (_:t.length<=600) (_:∀H',au H H'->Q (ov (rs most t)) H')
inductive nN (vs:List V) (H:Hp) (Q:VK) (E:XK):Prop
 | mk (a b:Str) (_:vs=[.str a,.str b]) (_:a.length<=600) (_:b.length<=600) (_:∀v H',au H H'->Js H' v (rp a b)->Q v H')
def mz (C:Addr):Sp:=fun vs H Q E=>∃(t:Str),vs=[.str t]/\t.length<=600/\(∀x,N9 t=some x->∀p H',au H H'->H' p=some (mr x)->Q (.ref p) H')/\(N9 t=none->∀H',au H H'->E (.ref C) none H')
def gZ:Sp:=fun vs H Q _=>∃(t:Str),vs=[.str t]/\t.length<=600/\∀v H',au H H'->Js H' v (lr t)->Q v H'
def pN:Sp:=fun vs H Q _=>∃(t:Str),vs=[.str t]/\t.length<=600/\∀v H',au H H'->Pq H' v (ir t)->Q v H'
noncomputable def dL (x:Int×Int):Dt:=.tup [.int x.1,.int x.2]
noncomputable def dO (f:α->Dt):Option α->Dt
 | none=>.bH
 | some x=>f x
noncomputable def eZ (it:Item):Dt:=.tup [dO dL it.1,dL it.2]
noncomputable def vO (l:List Int):Dt:=.tup (l.map .int)
noncomputable def m8 (l:List Str):Dt:=.tup (l.map .str)
abbrev End:=Int×List Int
noncomputable def nu (e:End):Dt:=.tup [.int e.1,vO e.2]
structure Rep where
 first:Int
 last:Int
 times:Int
 ends:List End
noncomputable def jO (r:Rep):Dt:=.tup [.int r.first,.int r.last,.int r.times,.tup (r.ends.map nu)]
structure LU where
 aQ:Int×Int
 key:Int
 marks:List Str
noncomputable def lB (b:LU):Dt:=.tup [dL b.aQ,.int b.key,m8 b.marks]
structure Jump where
 xn:Int
 Bj:Int
 dz:Int
 gH:Option Int
noncomputable def jG (j:Jump):Dt:=.tup [.int j.xn,.int j.Bj,.int j.dz,dO .int j.gH]
noncomputable def words (t:Str):List Str:=(Txt.split t " ").filter fun w=>decide (w≠ "")
noncomputable def sgn:List Nat:=("abcdefghijklmnopqrstuvwxyz0123456789": Str).cps.toList
noncomputable def cL (t:Str):Option Str:=if(t.length:Int)<1 then none else if(12:Int)<t.length then none else if t.cps.toList.all (fun c=>decide (c∈sgn))=true then some t else none
noncomputable def os:Option Str->V
 | none=>.bH
 | some x=>.str x
noncomputable def fJ (t:Str):Option Int:=rn 3 t.cps.toList
noncomputable def mR (t:Str) (lo hi:Int):Option Int:=match fJ t with
 | some n=>if n<lo then none else if hi<n then none else some n
 | none=>none
noncomputable def yU (a b:Str):Option (Int×Int):=match rp a b with
 | some q=>if 12<(if q.1<0 then -q.1 else q.1) then none else some q
 | none=>none
noncomputable def Cb:List Int:=[1,2,4,8,16,32]
noncomputable def jx (t:Str):Option (Int×Int):=match Txt.split t "/" with
 | [a,b]=>(match mR a 1 32,fJ b with | some m,some n=>if n∈Cb then some (m,n) else none | _,_=>none)
 | _=>none
noncomputable def FV (t:Str):Option Int:=match rs 3 t with
 | some k=>if 7<(if k<0 then -k else k) then none else some k
 | none=>none
noncomputable def oR:List (Option α)->Option (List α)
 | []=>some []
 | none::_=>none
 | some x::r=>match oR r with
  | some l=>some (x::l)
  | none=>none
noncomputable def yV (t:Str):Option End:=match Txt.split t ":" with
 | [a,b]=>(match fJ a,oR ((Txt.split b ",").map fJ) with | some n,some ps=>some (n,ps) | _,_=>none)
 | _=>none
noncomputable def lS:List Str->Option (Str×(Int×Int)×(Int×Int))
 | [a,b,c,d]=>(match cL a,yU b c,N9 d with | some n,some t,some l=>some (n,t,l) | _,_,_=>none)
 | _=>none
noncomputable def qO (ws:List Str):Option (Str×List Str):=match ws with
 | a::b::r=>(match oR ((a::b::r).map cL) with | some (n::ps)=>some (n,ps) | _=>none)
 | _=>none
noncomputable def BG:List Str->Option LU
 | m::k::ms=>(match oR (ms.map cL) with | some l=>(match jx m,FV k with | some x,some y=>some ⟨x,y,l⟩ | _,_=>none) | none=>none)
 | _=>none
noncomputable def sH:List Str->Option (Str×Int×Str)
 | [a,b,c]=>(match cL a,fJ b,cL c with | some x,some y,some z=>some (x,y,z) | _,_,_=>none)
 | _=>none
noncomputable def kz:List Str->Option (Int×Str×List Item)
 | b::p::i::r=>(match oR ((i::r).map ir) with | some l=>if l.all (fun it=>it.1.isNone)=true then none else(match fJ b,cL p with | some x,some y=>some (x,y,l) | _,_=>none) | none=>none)
 | _=>none
noncomputable def j0:List Str->Option Rep
 | a::b::c::r=>(match oR (r.map yV) with | some l=>(match fJ a,fJ b,mR c 2 9 with | some x,some y,some z=>some ⟨x,y,z,l⟩ | _,_,_=>none) | none=>none)
 | _=>none
noncomputable def vE:List Str->Option Jump
 | [a,b,c,d]=>(match fJ a,fJ b,fJ c with | some x,some y,some z=>(match fJ d with | some n=>some ⟨x,y,z,some n⟩ | none=>if d ="end" then some ⟨x,y,z,none⟩ else none) | _,_,_=>none)
 | _=>none
noncomputable def one (f:Str->Option α):List Str->Option α
 | [w]=>f w
 | _=>none
inductive Told where
 | bD (n:Str)
 | cM (n:Str) (t l:Int×Int)
 | cw (n:Str) (ps:List Str)
 | bar (b:LU)
 | aF (l:Int×Int)
 | holds (p:Str) (b:Int) (i:Str)
 | aE (b:Int) (p:Str) (its:List Item)
 | rep (r:Rep)
 | cj (j:Jump)
noncomputable def oY:List Str->Option Told
 | []=>none
 | w::r=>
  if w ="player" then(one cL r).map .bD
  else if w ="instrument" then(lS r).map fun x=>.cM x.1 x.2.1 x.2.2
  else if w ="staff" then(qO r).map fun x=>.cw x.1 x.2
  else if w ="bar" then(BG r).map .bar
  else if w ="upbeat" then(one lr r).map .aF
  else if w ="holds" then(sH r).map fun x=>.holds x.1 x.2.1 x.2.2
  else if w ="notes" then(kz r).map fun x=>.aE x.1 x.2.1 x.2.2
  else if w ="repeat" then(j0 r).map .rep
  else if w ="jump" then(vE r).map .cj
  else none
noncomputable def jF (r:Rep):List (Int×Int×List Int):=(r.ends.zip ((r.ends.drop 1).map (·.1)++[r.last+1])).map fun p=>(p.1.1,p.2-1,p.1.2)
noncomputable def sortI (l:List Int):List Int:=l.mergeSort
noncomputable def gc:List End->Int->List Int->Option (Int×List Int)
 | [],a,ps=>some (a,ps)
 | e::r,a,ps=>if e.1<=a then none else if e.2≠sortI e.2 then none else gc r e.1 (ps++e.2)
noncomputable def KC (lo:Int) (n:Nat):List Int:=(List.range n).map fun i=>lo+(i:Nat)
noncomputable def gd (r:Rep):Bool:=match r.ends with
 | []=>true
 | _=>(match gc r.ends (r.first-1) [] with | none=>false | some (a,ps)=>decide (a<=r.last)&&decide (sortI ps=KC 1 (r.times+1-1).toNat))
noncomputable def lO (rs:List Rep) (r:Rep):Bool:=match rs.getLast? with
 | some q=>if r.first<=q.last then false else decide (r.first<=r.last)&&gd r
 | none=>decide (r.first<=r.last)&&gd r
noncomputable def dS (rs:List Rep) (b:Int):Option Rep:=rs.find? fun r=>decide (r.first<=b)&&decide (b<=r.last)
noncomputable def hJ (rs:List Rep) (b:Int):Bool:=match dS rs b with
 | none=>true
 | some r=>decide (b=r.last)
noncomputable def eF (rs:List Rep) (b:Int):Bool:=match dS rs b with
 | none=>true
 | some r=>decide (b=r.first)
noncomputable def lZ (rs:List Rep) (b:Int):Bool:=rs.all fun r=>(jF r).all fun e=>!(decide (e.1<=b)&&decide (b<=e.2.1)&&!decide (r.times∈e.2.2))
noncomputable def hX (rs:List Rep) (j:Jump):Bool:=
 if j.dz<j.Bj then false else if j.xn<j.dz then false else
 match j.gH with
 | some c=>(decide (j.xn<c)&&eF rs c&&lZ rs c)&&(hJ rs j.xn&&eF rs j.Bj&&lZ rs j.dz)
 | none=>hJ rs j.xn&&eF rs j.Bj&&lZ rs j.dz
structure cD where
 players:List Str:=[]
 ak:List (Str×(Int×Int)×(Int×Int)):=[]
 aI:List (Str×List Str):=[]
 aM:List LU:=[]
 aF:Option (Int×Int):=none
 holds:List (Str×List (Int×Str)):=[]
 aE:List ((Int×Str)×List Item):=[]
 repeats:List Rep:=[]
 cj:Option Jump:=none
noncomputable def cD.aQ (S:cD) (b:Nat):Int×Int:=match S.aM[b]? with
 | some x=>red x.aQ.1 x.aQ.2
 | none=>(0,1)
noncomputable def cD.len (S:cD) (b:Nat):Int×Int:=match S.aF with
 | some u=>if b=0 then u else S.aQ b
 | none=>S.aQ b
noncomputable def km (l:List Item):Int×Int:=l.foldl (fun t it=>add t it.2) (0,1)
noncomputable def cD.has (S:cD) (bs:List Int):Bool:=bs.all fun b=>decide (b<S.aM.length)
noncomputable def fault (S:cD):Told->Option Str
 | .bD n=>if n∈S.players then some "twice" else if 12<=S.players.length then some "many" else none
 | .cM n _ _=>if n∈S.ak.map (·.1) then some "twice" else if 12<=S.ak.length then some "many" else none
 | .cw n ps=>if n∈S.aI.map (·.1) then some "twice" else if¬ps.Nodup then some "twice" else if S.aI.any (fun q=>ps.any fun p=>decide (p∈q.2))=true then some "twice" else if ps.any (fun p=>!decide (p∈S.players))=true then some "name" else none
 | .bar _=>if 200<=S.aM.length then some "many" else none
 | .aF l=>if S.aF.isSome=true then some "twice" else if S.aM.length=0 then some "bar" else if¬l.1*(S.aQ 0).2<(S.aQ 0).1*l.2 then some "length" else if S.aE.any (fun p=>decide (p.1.1=0))=true then some "length" else none
 | .holds p b i=>
  let hs:=(S.holds.lookup p).getD []
  if(match hs.getLast? with | some q=>decide (b<=q.1) | none=>false)=true then some "twice" else if p∉S.players then some "name" else if i∉S.ak.map (·.1) then some "name" else if¬S.has [b]=true then some "bar" else if 20<=hs.length then some "many" else none
 | .aE b p its=>if(b,p)∈S.aE.map (·.1) then some "twice" else if p∉S.players then some "name" else if¬S.has [b]=true then some "bar" else if km its≠S.len b.toNat then some "length" else if 40<its.length then some "many" else none
 | .rep r=>if¬S.has ([r.first,r.last]++r.ends.map (·.1))=true then some "bar" else if S.cj.isSome=true then some "form" else if¬lO S.repeats r=true then some "form" else if 20<=S.repeats.length then some "many" else none
 | .cj j=>if S.cj.isSome=true then some "twice" else if¬S.has ([j.xn,j.Bj,j.dz]++j.gH.toList)=true then some "bar" else if¬hX S.repeats j=true then some "form" else none
noncomputable def fh (hs:List (Str×List (Int×Str))) (p:Str) (h:Int×Str):List (Str×List (Int×Str)):=
 if p∈hs.map (·.1) then hs.map fun q=>if q.1=p then(q.1,q.2++[h]) else q else hs++[(p,[h])]
noncomputable def bI (S:cD):Told->cD
 | .bD n=>{S with players:=S.players++[n]}
 | .cM n t l=>{S with ak:=S.ak++[(n,t,l)]}
 | .cw n ps=>{S with aI:=S.aI++[(n,ps)]}
 | .bar b=>{S with aM:=S.aM++[b]}
 | .aF l=>{S with aF:=some l}
 | .holds p b i=>{S with holds:=fh S.holds p (b,i)}
 | .aE b p its=>{S with aE:=S.aE++[((b,p),its)]}
 | .rep r=>{S with repeats:=S.repeats++[r]}
 | .cj j=>{S with cj:=some j}
theorem cW (h:Is H d v):∀{ds:List Dt} {vs:List V},ay H ds vs->ay H (ds++[d]) (vs++[v])
 | [],_,q=>by unfold ay at q;subst q;show ay H [d] [v];unfold ay;exact⟨v,[],rfl,h,by unfold ay;rfl⟩
 | c::ds,_,q=>by
  unfold ay at q;obtain⟨u,r,rfl,h1,h2⟩:=q;show ay H (c::(ds++[d])) (u::(r++[v]));unfold ay;exact⟨u,_,rfl,h1,cW h h2⟩
def CY (h:aG K H p xs) (hi:i<xs.length):(LR K p).go i H:=⟨xs,xs[i],h,zb hi⟩
def IH (h:dw K H p xs) (hi:i<xs.length):(P6 K p).go i H:=⟨xs,xs[i],h,zb hi⟩
def jd (e:au H H') (h:H a=some (.tup xs)):dw K H' a xs:=dw.of (e _ _ h)
theorem _root_.L2.au.back (s:au H H') (h:H' a=none):H a=none:=by
 cases q:H a with
 | none=>rfl
 | some u=>rw[s _ _ q] at h;cases h
def oO {α:Type} {J:It} {ws:List α} {enc:α->V} {σ₀:St} {g:TG} {te:TE} {Q:VK} {H1:Hp} (F:α->Dt) (Pσ:St->Prop) (hn:ws.length<=sizeLine) (h0:Pσ σ₀)
  (go:∀i H,i<ws.length->au H1 H->J.go i H) (stop:∀H,au H1 H->J.stop ws.length H) (yl:∀(i:Nat) x H H2 (hi:i<ws.length),au H1 H->J.Jz i H x H2->H2=H/\x=enc ws[i])
  (turn:∀(a:α) (σ:St) (H:Hp) (R:St->V->Hp->Prop),a∈ws->au H1 H->Pσ σ->(∀σ3 y H5,au H H5->Is H5 (F a) y->Pσ σ3->R σ3 y H5)->g (enc a) σ H fun σ3 H3=>te σ3 H3 fun y H5=>R σ3 y H5)
  (fin:∀D vs H,au H1 H->H1 D=none->H D=some (.lst vs)->ay H (ws.map F) vs->Q (.ref D) H):dM σ₀ g vU te Q J H1:=by
 refine⟨fun i m xs σ H=>m=ws.length-i/\i<=ws.length/\xs.length=i/\au H1 H/\ay H ((ws.take i).map F) xs/\Pσ σ,⟨_,rfl,yf _,rfl,au.refl _,by simp[ay],h0⟩,?_⟩;rintro i m xs σ H ⟨rfl,hi,hx,sm,il,pσ⟩;rcases Nat.lt_or_ge i ws.length with hlt | hge
 ·refine .inr ⟨go i H hlt sm,nofun,?_⟩
  intro x H2 hy;obtain⟨rfl,rfl⟩:=yl i x H H2 hlt sm hy;refine turn ws[i] σ H2 (fun σ3 y H5=>if true=true then∃m',m'<ws.length-i/\(m'=ws.length-(i+1)/\i+1<=ws.length/\(xs++[y]).length=i+1/\au H1 H5/\ay H5 ((ws.take (i+1)).map F) (xs++[y])/\Pσ σ3) else False) (yk hlt) sm pσ ?_;rintro σ3 y H5 s5 iy p3;rw[if_pos rfl];refine⟨_,nofun,rfl,hlt,by simp[hx],sm.trans s5,?_,p3⟩;rw[List.take_add_one,zb hlt,zj];exact cW iy (il.mono s5)
 ·have e:i=ws.length:=nofun
  subst e;refine .inl ⟨stop H sm,nofun,fun D hD=>?_⟩;have il':ay H (ws.map F) xs:=by rw[zM] at il;exact il
  exact fin D xs _ (sm.trans (aR hD)) (sm.back hD) aA (il'.mono (aR hD))
def AU {α:Type} {J:It} {ws:List α} {enc:α->V} {σ₀:St} {g:TG} {te:TE} {Q:VK} {H1:Hp} (F:α->Dt) (Pσ:St->Prop) (hn:ws.length<=sizeLine) (h0:Pσ σ₀)
  (go:∀i H,i<ws.length->au H1 H->J.go i H) (stop:∀H,au H1 H->J.stop ws.length H) (yl:∀(i:Nat) x H H2 (hi:i<ws.length),au H1 H->J.Jz i H x H2->H2=H/\x=enc ws[i])
  (turn:∀(a:α) (σ:St) (H:Hp) (R:St->V->Hp->Prop),a∈ws->au H1 H->Pσ σ->(∀σ3 y H5,au H H5->Is H5 (F a) y->Pσ σ3->R σ3 y H5)->g (enc a) σ H fun σ3 H3=>te σ3 H3 fun y H5=>R σ3 y H5)
  (fin:∀D vs H,au H1 H->H D=some (.lst vs)->ay H (ws.map F) vs->Q (.ref D) H):dM σ₀ g vU te Q J H1:=oO F Pσ hn h0 go stop yl turn fun D vs H s _=>fin D vs H s
def eA {K:yA} {α:Type} {p:Addr} {ws:List α} {enc:α->V} {σ₀:St} {g:TG} {te:TE} {Q:VK} {H1:Hp} (F:α->Dt) (Pσ:St->Prop) (hn:ws.length<=sizeLine) (hp:aG K H1 p (ws.map enc)) (h0:Pσ σ₀)
  (turn:∀(a:α) (σ:St) (H:Hp) (R:St->V->Hp->Prop),a∈ws->au H1 H->Pσ σ->(∀σ3 y H5,au H H5->Is H5 (F a) y->Pσ σ3->R σ3 y H5)->g (enc a) σ H fun σ3 H3=>te σ3 H3 fun y H5=>R σ3 y H5)
  (fin:∀D vs H,au H1 H->H1 D=none->H D=some (.lst vs)->ay H (ws.map F) vs->Q (.ref D) H):dM σ₀ g vU te Q (LR K p) H1:=by
 refine oO F Pσ hn h0 (fun i H hi sm=>CY (sm.seq hp) (by rw[za];exact hi)) (fun H sm=>⟨_,sm.seq hp,by rw[za];exact zk _⟩) ?_ turn fin;rintro i x H H2 hi sm ⟨rfl,hy⟩;have hx':=hy _ (sm.seq hp);rw[zJ,zb hi] at hx';cases hx';exact⟨rfl,rfl⟩
def fO {K:yA} {α:Type} {p:Addr} {ws:List α} {enc:α->V} {σ₀:St} {g:TG} {te:TE} {Q:VK} {H1:Hp} (F:α->Dt) (Pσ:St->Prop) (hn:ws.length<=sizeLine) (hp:aG K H1 p (ws.map enc)) (h0:Pσ σ₀)
  (turn:∀(a:α) (σ:St) (H:Hp) (R:St->V->Hp->Prop),a∈ws->au H1 H->Pσ σ->(∀σ3 y H5,au H H5->Is H5 (F a) y->Pσ σ3->R σ3 y H5)->g (enc a) σ H fun σ3 H3=>te σ3 H3 fun y H5=>R σ3 y H5)
  (fin:∀D vs H,au H1 H->H D=some (.lst vs)->ay H (ws.map F) vs->Q (.ref D) H):dM σ₀ g vU te Q (LR K p) H1:=by
 refine AU F Pσ hn h0 (fun i H hi sm=>CY (sm.seq hp) (by rw[za];exact hi)) (fun H sm=>⟨_,sm.seq hp,by rw[za];exact zk _⟩) ?_ turn fin;rintro i x H H2 hi sm ⟨rfl,hy⟩;have hx':=hy _ (sm.seq hp);rw[zJ,zb hi] at hx';cases hx';exact⟨rfl,rfl⟩
def gG {K:yA} {α:Type} {p:Addr} {ws:List α} {enc:α->V} {σ₀:St} {g:TG} {te:TE} {Q:VK} {H1:Hp} (F:α->Dt) (Pσ:St->Prop) (hn:ws.length<=sizeLine) (hp:H1 p=some (.tup (ws.map enc))) (h0:Pσ σ₀)
  (turn:∀(a:α) (σ:St) (H:Hp) (R:St->V->Hp->Prop),a∈ws->au H1 H->Pσ σ->(∀σ3 y H5,au H H5->Is H5 (F a) y->Pσ σ3->R σ3 y H5)->g (enc a) σ H fun σ3 H3=>te σ3 H3 fun y H5=>R σ3 y H5)
  (fin:∀D vs H,au H1 H->H D=some (.lst vs)->ay H (ws.map F) vs->Q (.ref D) H):dM σ₀ g vU te Q (P6 K p) H1:=by
 refine AU F Pσ hn h0 (fun i H hi sm=>IH (jd sm hp) (by rw[za];exact hi)) (fun H sm=>⟨_,jd sm hp,by rw[za];exact zk _⟩) ?_ turn fin;rintro i x H H2 hi sm ⟨rfl,hy⟩;have hx':=hy _ (jd sm hp);rw[zJ,zb hi] at hx';cases hx';exact⟨rfl,rfl⟩
noncomputable def gs (v:V):Bool:=decide (v=.bH)
noncomputable def Dt.gs:Dt->Bool
 | .bH=>true
 | _=>false
def Nr:∀{d:Dt} {v:V},Is H d v->gs v=Dt.gs d
 | .bH,_,h=>by unfold Is at h;subst h;rfl
 | .bl _,_,h=>by unfold Is at h;subst h;rfl
 | .int _,_,h=>by unfold Is at h;subst h;rfl
 | .str _,_,h=>by unfold Is at h;subst h;rfl
 | .tup _,_,h=>by unfold Is at h;obtain⟨a,vs,rfl,_⟩:=h;rfl
theorem kc:∀{ds:List Dt} {vs:List V},ay H ds vs->vs.any gs=ds.any Dt.gs
 | [],_,h=>by unfold ay at h;subst h;rfl
 | d::ds,_,h=>by
  unfold ay at h;obtain⟨v,r,rfl,h1,h2⟩:=h;rw[List.any_cons,List.any_cons,Nr h1,kc h2]
theorem kC:∀{bs:List Bool} {vs:List V},ay H (bs.map Dt.bl) vs->vs=bs.map V.bl
 | [],_,h=>by unfold ay at h;exact h
 | b::bs,_,h=>by
  rw[zh] at h;unfold ay at h;obtain⟨v,r,rfl,h1,h2⟩:=h;unfold Is at h1;rw[h1,kC h2];rfl
theorem dI:∀{bs:List Str} {vs:List V},ay H (bs.map Dt.str) vs->vs=bs.map V.str
 | [],_,h=>by unfold ay at h;exact h
 | b::bs,_,h=>by
  rw[zh] at h;unfold ay at h;obtain⟨v,r,rfl,h1,h2⟩:=h;unfold Is at h1;rw[h1,dI h2];rfl
theorem fG:∀{bs:List Int} {vs:List V},ay H (bs.map Dt.int) vs->vs=bs.map V.int
 | [],_,h=>by unfold ay at h;exact h
 | b::bs,_,h=>by
  rw[zh] at h;unfold ay at h;obtain⟨v,r,rfl,h1,h2⟩:=h;unfold Is at h1;rw[h1,fG h2];rfl
theorem Dr:∀{bs:List Str},ay H (bs.map Dt.str) (bs.map V.str)
 | []=>by simp[ay]
 | b::bs=>by rw[zh,zh];unfold ay;exact⟨_,_,rfl,by unfold Is;rfl,Dr⟩
theorem tw:∀{bs:List Int},ay H (bs.map Dt.int) (bs.map V.int)
 | []=>by simp[ay]
 | b::bs=>by rw[zh,zh];unfold ay;exact⟨_,_,rfl,by unfold Is;rfl,tw⟩
def Jv (d:α->Dt):Prop:=∀a,Dt.gs (d a)=false
theorem jg {α:Type} {d:α->Dt} (f:Jv d):∀{l:List (Option α)},(l.map (dO d)).any Dt.gs=true->oR l=none
 | [],h=>by cases h
 | none::_,_=>rfl
 | some x::r,h=>by
  rw[zh,List.any_cons] at h;have e:Dt.gs (dO d (some x))=false:=f x;rw[e,Bool.false_or] at h;show(match oR r with | some l=>some (x::l) | none=>none)=none;rw[jg f h]
theorem jf:∀{l:List (Option α)},(l.map (dO d)).any Dt.gs=false->∃xs,oR l=some xs/\l.map (dO d)=xs.map d/\xs.length=l.length
 | [],_=>⟨[],rfl,rfl,rfl⟩
 | none::_,h=>by cases h
 | some x::r,h=>by
  rw[zh,List.any_cons,Bool.or_eq_false_iff] at h;obtain⟨xs,e1,e2,e3⟩:=jf h.2;refine⟨x::xs,?_,?_,by simp[e3]⟩
  ·show(match oR r with | some l=>some (x::l) | none=>none)=_
   rw[e1]
  ·rw[zh,zh,e2];rfl
def GJ:Jv Dt.str:=fun _=>rfl
def NC:Jv Dt.int:=fun _=>rfl
def Rb:Jv dL:=fun _=>rfl
def ND:Jv nu:=fun _=>rfl
def K7:Jv eZ:=fun _=>rfl
def Aq (h:Js H v o):Is H (dO dL o) v:=by
 cases h with
 | bH=>unfold dO Is;rfl
 | ref h=>exact iV h
def fk (h:Is H (dO dL o) v):Js H v o:=by
 cases o with
 | none=>unfold dO Is at h;subst h;exact .bH
 | some q=>
  unfold dO dL Is at h;obtain⟨a,vs,rfl,ha,hl⟩:=h;have e:[Dt.int q.1,Dt.int q.2]=[q.1,q.2].map Dt.int:=rfl;rw[e] at hl;rw[fG hl] at ha;exact .ref ha
def Ar (o:Option Int):Is H (dO .int o) (ov o):=by cases o <;> (unfold dO Is;rfl)
def CS (o:Option Str):Is H (dO .str o) (os o):=by cases o <;> (unfold dO Is;rfl)
def Sj (h:Pq H v o):Is H (dO eZ o) v:=by
 cases o with
 | none=>unfold dO Is;exact h
 | some it=>
  obtain⟨p,pv,a,rfl,h1,h2,h3⟩:=h;unfold dO eZ;unfold Is;refine⟨p,_,rfl,h1,?_⟩;unfold ay;refine⟨_,_,rfl,Aq h3,?_⟩;unfold ay;exact⟨_,_,rfl,iV h2,by unfold ay;rfl⟩
def FD:Sp:=fun vs H Q _=>∃(t:Str),vs=[.str t]/\t.length<=1000000/\∀p H',au H H'->H' p=some (.lst ((words t).map V.str))->Q (.ref p) H'
def lI:Sp:=fun vs H Q _=>∃(t:Str),vs=[.str t]/\t.length<=600/\∀H',au H H'->Q (os (cL t)) H'
def ko:Sp:=fun vs H Q _=>∃(t:Str),vs=[.str t]/\t.length<=600/\∀H',au H H'->Q (ov (fJ t)) H'
inductive xP (vs:List V) (H:Hp) (Q:VK) (E:XK):Prop
 | mk (t:Str) (lo hi:Int) (_:vs=[.str t,.int lo,.int hi]) (_:t.length<=600) (_:∀H',au H H'->Q (ov (mR t lo hi)) H')
def DB:Sp:=fun vs H Q _=>∃(t:Str),vs=[.str t]/\t.length<=600/\∀v H',au H H'->Js H' v (N9 t)->Q v H'
inductive DA (vs:List V) (H:Hp) (Q:VK) (E:XK):Prop
 | mk (a b:Str) (_:vs=[.str a,.str b]) (_:a.length<=600) (_:b.length<=600) (_:∀v H',au H H'->Js H' v (yU a b)->Q v H')
def Bq (K:yA):Sp:=fun vs H Q _=>∃(t:Str),vs=[.str t]/\t.length<=600/\∀v H',au H H'->Js H' v (jx t)->Q v H'
def FG:Sp:=fun vs H Q _=>∃(t:Str),vs=[.str t]/\t.length<=600/\∀H',au H H'->Q (ov (FV t)) H'
inductive Bt (K:yA) (vs:List V) (H:Hp) (Q:VK) (E:XK):Prop
 | mk (a:Addr) (us:List V) (_:vs=[.ref a]) (_:aG K H a us) (_:us.length<=1000000) (_:∀H',au H H'->Q (if us.any gs=true then .bH else .ref a) H')
inductive Bs (vs:List V) (H:Hp) (Q:VK) (E:XK):Prop
 | mk (a:Addr) (us:List V) (_:vs=[.ref a]) (_:H a=some (.tup us)) (_:us.length<=1000000) (_:∀H',au H H'->Q (if us.any gs=true then .bH else .ref a) H')
def ve:Sp:=fun vs H Q _=>∃(t:Str),vs=[.str t]/\t.length<=600/\∀v H',au H H'->Is H' (dO nu (yV t)) v->Q v H'
inductive fT (K:yA) (D:Hp->Hp->V->List Str->Prop) (vs:List V) (H:Hp) (Q:VK) (E:XK):Prop
 | mk (p:Addr) (ws:List Str) (_:vs=[.ref p]) (_:aG K H p (ws.map V.str)) (_:ws.length<=1000000) (_:(∀x∈ws,x.length<=600)) (_:∀v H',au H H'->D H H' v ws->Q v H')
noncomputable def eL (x:Str×(Int×Int)×(Int×Int)):Dt:=.tup [.str x.1,dL x.2.1,dL x.2.2]
noncomputable def gF (x:Str×List Str):Dt:=.tup [.str x.1,m8 x.2]
noncomputable def vP (x:Str×Int×Str):Dt:=.tup [.str x.1,.int x.2.1,.str x.2.2]
def Kd (H:Hp) (v:V) (x:Int×Str×List Item):Prop:=∃a q vs,v=.ref a/\H a=some (.tup [.int x.1,.str x.2.1,.ref q])/\H q=some (.lst vs)/\ay H (x.2.2.map eZ) vs
def i9 (H0 H:Hp) (v:V) (x:Int×Str×List Item):Prop:=∃a q vs,v=.ref a/\H a=some (.tup [.int x.1,.str x.2.1,.ref q])/\H q=some (.lst vs)/\ay H (x.2.2.map eZ) vs/\H0 q=none
def i9.at (h:i9 H0 H v x):Kd H v x:=by
 obtain⟨a,q,vs,h1,h2,h3,h4,_⟩:=h;exact⟨a,q,vs,h1,h2,h3,h4⟩
theorem i9.back (s:au H00 H0) (h:i9 H0 H v x):i9 H00 H v x:=by
 obtain⟨a,q,vs,h1,h2,h3,h4,h5⟩:=h;exact⟨a,q,vs,h1,h2,h3,h4,s.back h5⟩
def qt (d:α->Dt) (f:List Str->Option α) (_ H:Hp) (v:V) (ws:List Str):Prop:=Is H (dO d (f ws)) v
def SG (H0 H:Hp) (v:V) (ws:List Str):Prop:=match kz ws with
 | none=>v=.bH
 | some x=>i9 H0 H v x
def oN (h:Is H d v):ay H [d] [v]:=by unfold ay;exact⟨_,_,rfl,h,by unfold ay;rfl⟩
def aL (h:Is H d v) (r:ay H ds vs):ay H (d::ds) (v::vs):=by unfold ay;exact⟨_,_,rfl,h,r⟩
def cH:ay H [] []:=by unfold ay;rfl
def cB (h:H a=some (.tup vs)) (r:ay H ds vs):Is H (.tup ds) (.ref a):=by unfold Is;exact⟨_,_,rfl,h,r⟩
def d9:Is H (.str x) (.str x):=by unfold Is;rfl
def cP:Is H (.int x) (.int x):=by unfold Is;rfl
def d4:Is H .bH .bH:=by unfold Is;rfl
def fN (xs:List V) (k:Nat):kG xs (some (k:Int)) none=xs.drop k:=by
 unfold kG;rw[HT.FR];have e:HT.fq xs.length 0 (some (k:Int))=min k xs.length:=by unfold HT.fq;simp;omega
 rw[e];rcases Nat.le_total k xs.length with h | h
 ·rw[Nat.min_eq_left h]
  exact List.take_of_length_le (by rw[List.length_drop];exact zk _)
 ·rw[Nat.min_eq_right h,List.drop_eq_nil_of_le (zk _),List.drop_eq_nil_of_le h,List.take_nil]
def EI (xs:List V) (k:Nat):kG xs none (some (k:Int))=xs.take k:=by
 unfold kG;rw[HT.FR,List.drop_zero,Nat.sub_zero];have e:HT.fq xs.length xs.length (some (k:Int))=min k xs.length:=by unfold HT.fq;simp;omega
 rw[e];rcases Nat.le_total k xs.length with h | h
 ·rw[Nat.min_eq_left h]
 ·rw[Nat.min_eq_right h,List.take_of_length_le (zk _),List.take_of_length_le h]
def qN (a b:Str) (r:List Str):qO (a::b::r)=(match oR ((a::b::r).map cL) with | some (n::ps)=>some (n,ps) | _=>none):=rfl
def gK (H0 H:Hp) (v:V):Option Told->Prop
 | none=>v=.bH
 | some (.bD n)=>v=.str n
 | some (.cM n t l)=>Is H (eL (n,t,l)) v
 | some (.cw n ps)=>Is H (gF (n,ps)) v
 | some (.bar b)=>Is H (lB b) v
 | some (.aF l)=>Is H (dL l) v
 | some (.holds p b i)=>Is H (vP (p,b,i)) v
 | some (.aE b p its)=>i9 H0 H v (b,p,its)
 | some (.rep r)=>Is H (jO r) v
 | some (.cj j)=>Is H (jG j) v
inductive FF (K:yA) (vs:List V) (H:Hp) (Q:VK) (E:XK):Prop
 | mk (p:Addr) (x:Str) (ws:List Str) (_:vs=[.ref p]) (_:aG K H p ((x::ws).map V.str)) (_:ws.length<=999999) (_:(∀y∈x::ws,y.length<=600)) (_:∀v H',au H H'->gK H H' v (oY (x::ws))->Q v H')
def nI (h:Is H (dO d o) v) (hg:∀x,Is H (d x) v->gK H0 H v (some (g x))):gK H0 H v (o.map g):=by
 cases o with
 | none=>unfold dO Is at h;exact h
 | some x=>exact hg x h
theorem gK.back (s:au H00 H0):∀{t:Option Told},gK H0 H v t->gK H00 H v t
 | none,h=>h
 | some (.bD _),h=>h
 | some (.cM _ _ _),h=>h
 | some (.cw _ _),h=>h
 | some (.bar _),h=>h
 | some (.aF _),h=>h
 | some (.holds _ _ _),h=>h
 | some (.aE _ _ _),h=>i9.back s h
 | some (.rep _),h=>h
 | some (.cj _),h=>h
def dC {α:Type} {l:List α} {i:Nat} {x:α} (h:l[i]?=some x):l.take (i+1)=l.take i++[x]:=by rw[List.take_add_one,h];rfl
theorem J0:∀{l:List α} {i:Nat} {x:α},l[i]?=some x->(l.take i).find? p=none->p x=true->l.find? p=some x
 | [],i,x,h,_,_=>by simp at h
 | y::l,0,x,h,_,hx=>by simp at h;subst h;rw[List.find?_cons,hx]
 | y::l,i+1,x,h,hn,hx=>by
  rw[List.take_succ_cons,List.find?_cons] at hn;rw[List.find?_cons];cases q:p y with
  | true=>rw[q] at hn;cases hn
  | false=>rw[q] at hn;exact J0 (by simpa using h) hn hx
def C0 {α:Type} {p:α->Bool} {l:List α} {i:Nat} {x:α} (h:l[i]?=some x) (hn:(l.take i).find? p=none) (hx:p x=false):(l.take (i+1)).find? p=none:=by
 rw[dC h,List.find?_append,hn];simp[hx]
def Co (K:yA) (H:Hp) (p:Addr) (rs:List Rep):Prop:=∃vs,aG K H p vs/\ay H (rs.map jO) vs
theorem Co.mono {K:yA} {H H':Hp} (s:au H H') {p:Addr} {rs:List Rep} (h:Co K H p rs):Co K H' p rs:=by
 obtain⟨vs,h1,h2⟩:=h;exact⟨vs,s.seq h1,h2.mono s⟩
def fY (h:Is H (jO r) v):∃a e,v=.ref a/\H a=some (.tup [.int r.first,.int r.last,.int r.times,.ref e])/\Is H (.tup (r.ends.map nu)) (.ref e):=by
 unfold jO Is at h;obtain⟨a,vs,rfl,ha,hl⟩:=h;unfold ay at hl;obtain⟨v1,r1,rfl,h1,hl⟩:=hl;unfold ay at hl;obtain⟨v2,r2,rfl,h2,hl⟩:=hl;unfold ay at hl;obtain⟨v3,r3,rfl,h3,hl⟩:=hl;unfold ay at hl;obtain⟨v4,r4,rfl,h4,hl⟩:=hl;unfold ay at hl;subst hl;unfold Is at h1 h2 h3;subst h1 h2 h3;have h4':=h4;unfold Is at h4;obtain⟨e,us,rfl,he,hle⟩:=h4;exact⟨a,e,rfl,ha,h4'⟩
def uP (h:Is H (nu e) v):∃a q,v=.ref a/\H a=some (.tup [.int e.1,.ref q])/\H q=some (.tup (e.2.map V.int)):=by
 unfold nu Is at h;obtain⟨a,vs,rfl,ha,hl⟩:=h;unfold ay at hl;obtain⟨v1,r1,rfl,h1,hl⟩:=hl;unfold ay at hl;obtain⟨v2,r2,rfl,h2,hl⟩:=hl;unfold ay at hl;subst hl;unfold Is at h1;subst h1;unfold vO Is at h2;obtain⟨q,us,rfl,hq,hle⟩:=h2;rw[fG hle] at hq;exact⟨a,q,rfl,ha,hq⟩
def dZ {H:Hp} {α:Type} {d:α->Dt} {xs:List α} {vs:List V} {i:Nat} {v:V} (h:ay H (xs.map d) vs) (e:vs[i]?=some v):∃x,xs[i]?=some x/\Is H (d x) v:=by
 obtain⟨c,h1,h2⟩:=h.get e;rw[zJ] at h1;cases q:xs[i]? with
 | none=>rw[q] at h1;cases h1
 | some x=>rw[q] at h1;cases h1;exact⟨x,rfl,h2⟩
def aT {H:Hp} {α:Type} {d:α->Dt} {xs:List α} {vs:List V} (h:ay H (xs.map d) vs):vs.length=xs.length:=by rw[h.len,za]
inductive vV (K:yA) (vs:List V) (H:Hp) (Q:VK) (E:XK):Prop
 | mk (p:Addr) (rs:List Rep) (b:Int) (_:vs=[.ref p,.int b]) (_:Co K H p rs) (_:∀v,Is H (dO jO (dS rs b)) v->Q v H)
inductive DC (K:yA) (vs:List V) (H:Hp) (Q:VK) (E:XK):Prop
 | mk (p:Addr) (rs:List Rep) (b:Int) (_:vs=[.ref p,.int b]) (_:Co K H p rs) (_:Q (.bl (hJ rs b)) H)
inductive DD (K:yA) (vs:List V) (H:Hp) (Q:VK) (E:XK):Prop
 | mk (p:Addr) (rs:List Rep) (b:Int) (_:vs=[.ref p,.int b]) (_:Co K H p rs) (_:Q (.bl (eF rs b)) H)
noncomputable def Lk (x:Int×Int×List Int):Dt:=.tup [.int x.1,.int x.2.1,vO x.2.2]
inductive HW (vs:List V) (H:Hp) (Q:VK) (E:XK):Prop
 | mk (v:V) (r:Rep) (_:vs=[v]) (_:Is H (jO r) v) (_:r.ends.length<=1000000) (_:∀p us H',au H H'->H' p=some (.lst us)->ay H' ((jF r).map Lk) us->Q (.ref p) H')
inductive vY (K:yA) (vs:List V) (H:Hp) (Q:VK) (E:XK):Prop
 | mk (p:Addr) (rs:List Rep) (b:Int) (_:vs=[.ref p,.int b]) (_:Co K H p rs) (_:(∀r∈rs,r.ends.length<=1000000)) (_:∀H',au H H'->Q (.bl (lZ rs b)) H')
def AS {α:Type} {J:It} {ws:List α} {σ₀:St} {g:TG} {te:TE} {Q:VK} {H1:Hp} (Y:α->V->Hp->Prop) (F:α->Dt) (Pσ:St->Prop) (hn:ws.length<=sizeLine) (h0:Pσ σ₀)
  (go:∀i H,i<ws.length->au H1 H->J.go i H) (stop:∀H,au H1 H->J.stop ws.length H) (yl:∀(i:Nat) x H H2 (hi:i<ws.length),au H1 H->J.Jz i H x H2->au H H2/\Y ws[i] x H2)
  (turn:∀(a:α) (x:V) (σ:St) (H:Hp) (R:St->V->Hp->Prop),a∈ws->au H1 H->Y a x H->Pσ σ->(∀σ3 y H5,au H H5->Is H5 (F a) y->Pσ σ3->R σ3 y H5)->g x σ H fun σ3 H3=>te σ3 H3 fun y H5=>R σ3 y H5)
  (fin:∀D vs H,au H1 H->H D=some (.lst vs)->ay H (ws.map F) vs->Q (.ref D) H):dM σ₀ g vU te Q J H1:=by
 refine⟨fun i m xs σ H=>m=ws.length-i/\i<=ws.length/\xs.length=i/\au H1 H/\ay H ((ws.take i).map F) xs/\Pσ σ,⟨_,rfl,yf _,rfl,au.refl _,by simp[ay],h0⟩,?_⟩;rintro i m xs σ H ⟨rfl,hi,hx,sm,il,pσ⟩;rcases Nat.lt_or_ge i ws.length with hlt | hge
 ·refine .inr ⟨go i H hlt sm,nofun,?_⟩
  intro x H2 hy;obtain⟨s2,hY⟩:=yl i x H H2 hlt sm hy;refine turn ws[i] x σ H2 (fun σ3 y H5=>if true=true then∃m',m'<ws.length-i/\(m'=ws.length-(i+1)/\i+1<=ws.length/\(xs++[y]).length=i+1/\au H1 H5/\ay H5 ((ws.take (i+1)).map F) (xs++[y])/\Pσ σ3) else False) (yk hlt) (sm.trans s2) hY pσ ?_;rintro σ3 y H5 s5 iy p3;rw[if_pos rfl];refine⟨_,nofun,rfl,hlt,by simp[hx],(sm.trans s2).trans s5,?_,p3⟩;rw[List.take_add_one,zb hlt,zj];exact cW iy (il.mono (s2.trans s5))
 ·have e:i=ws.length:=nofun
  subst e;refine .inl ⟨stop H sm,nofun,fun D hD=>?_⟩;have il':ay H (ws.map F) xs:=by rw[zM] at il;exact il
  exact fin D xs _ (sm.trans (aR hD)) aA (il'.mono (aR hD))
structure Ow where
 dx:Addr
 pl:Addr
 ins:Addr
 st:Addr
 ba:Addr
 ho:Addr
 no:Addr
 re:Addr
 hs:List Addr
 ns:List Addr
noncomputable def Ow.lists (o:Ow):List Addr:=[o.pl,o.ba,o.re]++o.hs++o.ns
noncomputable def N8 (o:Ow) (ub jm:V):List (Str×V):=[("players",.ref o.pl),("instruments",.ref o.ins),("staffs",.ref o.st),("bars",.ref o.ba),("upbeat",ub),("holds",.ref o.ho),("notes",.ref o.no),("repeats",.ref o.re),("jump",jm)]
noncomputable def kS (x:Str):Key:=Sum.inr x
noncomputable def kN (x:Int×Str):List Key:=[Sum.inl x.1,Sum.inr x.2]
noncomputable def NP (x:Str×(Int×Int)×(Int×Int)):Dt:=.tup [dL x.2.1,dL x.2.2]
noncomputable def Pd (x:Str×List Str):Dt:=m8 x.2
noncomputable def J5 (x:Int×Str):Dt:=.tup [.int x.1,.str x.2]
def cm (H:Hp) (d:α->Dt):List (List α)->List Addr->Prop
 | [],as=>as=[]
 | l::r,as=>∃a t vs,as=a::t/\H a=some (.lst vs)/\ay H (l.map d) vs/\cm H d r t
structure bQ (C:Addr) (H:Hp) (a:Addr) (S:cD) (o:Ow):Prop where
 obj:∃ub jm,H a=some (.ins C o.dx (N8 o ub jm))/\Is H (dO dL S.aF) ub/\Is H (dO jG S.cj) jm
 pl:H o.pl=some (.lst (S.players.map V.str))
 ins:∃vs,H o.ins=some (.dK ((S.ak.map fun x=>kS x.1).zip vs))/\ay H (S.ak.map NP) vs
 st:∃vs,H o.st=some (.dK ((S.aI.map fun x=>kS x.1).zip vs))/\ay H (S.aI.map Pd) vs
 ba:∃vs,H o.ba=some (.lst vs)/\ay H (S.aM.map lB) vs
 ho:H o.ho=some (.dK ((S.holds.map fun x=>kS x.1).zip (o.hs.map V.ref)))/\cm H J5 (S.holds.map (·.2)) o.hs
 no:H o.no=some (.dT ((S.aE.map fun x=>kN x.1).zip (o.ns.map V.ref)))/\cm H eZ (S.aE.map (·.2)) o.ns
 re:∃vs,H o.re=some (.lst vs)/\ay H (S.repeats.map jO) vs
 nd:o.lists.Nodup
 dd:[o.ins,o.st,o.ho].Nodup
theorem cm.mono (s:au H H'):∀{ls:List (List α)} {as:List Addr},cm H d ls as->cm H' d ls as
 | [],_,h=>h
 | l::r,_,⟨a,t,vs,e,h1,h2,h3⟩=>⟨a,t,vs,e,s _ _ h1,h2.mono s,cm.mono s h3⟩
theorem bQ.mono (s:au H H') (h:bQ C H a S o):bQ C H' a S o where
 obj:=by obtain⟨ub,jm,h1,h2,h3⟩:=h.obj;exact⟨ub,jm,s _ _ h1,h2.mono s,h3.mono s⟩
 pl:=s _ _ h.pl
 ins:=by obtain⟨vs,h1,h2⟩:=h.ins;exact⟨vs,s _ _ h1,h2.mono s⟩
 st:=by obtain⟨vs,h1,h2⟩:=h.st;exact⟨vs,s _ _ h1,h2.mono s⟩
 ba:=by obtain⟨vs,h1,h2⟩:=h.ba;exact⟨vs,s _ _ h1,h2.mono s⟩
 ho:=⟨s _ _ h.ho.1,h.ho.2.mono s⟩
 no:=⟨s _ _ h.no.1,h.no.2.mono s⟩
 re:=by obtain⟨vs,h1,h2⟩:=h.re;exact⟨vs,s _ _ h1,h2.mono s⟩
 nd:=h.nd
 dd:=h.dd
def cT (o:Option HO):Prop:=∀vs,o≠some (.tup vs)
mutual
theorem Is.upd (hx:cT (H x)):∀{d:Dt} {v:V},Is H d v->Is (upd H x o) d v
 | .bH,_,h=>by unfold Is at h ⊢;exact h
 | .bl _,_,h=>by unfold Is at h ⊢;exact h
 | .int _,_,h=>by unfold Is at h ⊢;exact h
 | .str _,_,h=>by unfold Is at h ⊢;exact h
 | .tup l,_,h=>by
  unfold Is at h ⊢;obtain⟨a,vs,e,ha,hl⟩:=h;have ne:a≠x:=fun z=>hx vs (by rw[<-z];exact ha);exact⟨a,vs,e,by rw[aD ne];exact ha,ay.upd hx hl⟩
theorem ay.upd (hx:cT (H x)):∀{l:List Dt} {vs:List V},ay H l vs->ay (L2.upd H x o) l vs
 | [],_,h=>by unfold ay at h ⊢;exact h
 | d::l,_,h=>by
  unfold ay at h ⊢;obtain⟨v,r,e,hv,hr⟩:=h;exact⟨v,r,e,Is.upd hx hv,ay.upd hx hr⟩
end
theorem cm.upd (hx:cT (H x)):∀{ls:List (List α)} {as:List Addr},x∉as->cm H d ls as->cm (L2.upd H x o) d ls as
 | [],_,_,h=>h
 | l::r,_,nx,⟨a,t,vs,e,h1,h2,h3⟩=>by
  subst e;have ne:a≠x:=fun z=>nx (by rw[z];exact zp);exact⟨a,t,vs,rfl,by rw[aD ne];exact h1,ay.upd hx h2,cm.upd hx (fun z=>nx (zm _ z)) h3⟩
structure Cf (K:yA) (C:Addr):Prop where
 cls:Pt K C
 players:e9 K C "players"
 ak:e9 K C "instruments"
 aI:e9 K C "staffs"
 aM:e9 K C "bars"
 aF:e9 K C "upbeat"
 holds:e9 K C "holds"
 aE:e9 K C "notes"
 repeats:e9 K C "repeats"
 cj:e9 K C "jump"
def O9 (n:Nat):NumText.digitsVal (dec (n:Int)).cps.toList=n:=by rw[xw];exact PySem.W.KIN.val_back n
def QA {most:Int} {n k:Nat} (hk:0<k) (hm:(k:Int)<=most) (h:n<10^k):rn most (dec (n:Int)).cps.toList=some (n:Int):=by
 have l1:=GV (n:=n);have l2:=C4 hk h;have el:(dec (n:Int)).cps.toList.length=(dec (n:Int)).length:=Array.length_toList;have ha:((dec (n:Int)).cps.toList.all fun c=>decide (c∈wI))=true:=yo.mpr fun c hc=>ze (Rc (lA hc).1 (lA hc).2);unfold rn;rw[if_neg nofun,if_neg nofun,if_pos ha,if_neg,O9];rintro⟨z1,z2⟩;have:=Ld (n:=n) (by rw[<-Array.getElem?_toList];exact z1);omega
def oV {most n:Int} {k:Nat} (hk:0<k) (hm:(k:Int)<=most) (h0:0<=n) (h:n<10^k):rn most (dec n).cps.toList=some n:=by
 obtain⟨m,rfl⟩:=yK h0;exact QA hk hm (by exact_mod_cast h)
def fE {n:Int} (h0:0<=n) (h:n<1000):fJ (dec n)=some n:=oV (k:=3) ∅ ∅ h0 nofun
def CF (h0:0<=n) (h:n<1000) (h1:lo<=n) (h2:n<=hi):mR (dec n) lo hi=some n:=by
 unfold mR;rw[fE h0 h];dsimp only;rw[if_neg nofun,if_neg nofun]
def Ig {most n:Int} {k:Nat} (hk:0<k) (hm:(k:Int)<=most) (h1:-(10^k)<n) (h2:n<10^k):rs most (dec n)=some n:=by
 unfold rs
 by_cases h0:0<=n
 ·rw[if_neg,oV hk hm h0 h2]
  intro z;obtain⟨m,rfl⟩:=yK h0;have:=lA (zB z);omega
 ·have e:(dec n).cps.toList=45::(dec (-n)).cps.toList:=by rw[xu nofun,cJ];rfl
  rw[e,if_pos (show(45::(dec (-n)).cps.toList)[0]?=some 45 from rfl)];show(match rn most (dec (-n)).cps.toList with | some n=>if n=0 then none else some (-n) | none=>none)=_;rw[oV hk hm nofun nofun];dsimp only;rw[if_neg nofun,Int.neg_neg]
def MB {q:Int×Int} (h:N3 q):rp (dec q.1) (dec q.2)=some q:=by
 obtain⟨h1,h2,h3,h4,h5⟩:=h;unfold rp;rw[Ig (k:=2) ∅ ∅ nofun nofun,Ig (k:=2) ∅ ∅ nofun nofun];dsimp only;rw[if_pos h5]
def GX (n:Int):47∉(dec n).cps.toList:=gf ∅ ∅
def J3 (n:Int):58∉(dec n).cps.toList:=gf ∅ ∅
def Gw {x:Int×Int} (h:Rd x) (h1:x.1<10000) (h2:x.2<10000):N9 (iU x)=some x:=by
 obtain⟨p1,p2,p3⟩:=h.pos;unfold iU N9
 by_cases c:x.2=1
 ·rw[if_pos c,show Txt.split (dec x.1) "/"= [dec x.1] from split1 (c:=47) (GX _)]
  dsimp only;rw[oV (k:=4) ∅ ∅ p1 nofun];dsimp only;rw[<-c,p3]
 ·rw[if_neg c,show Txt.split (dec x.1 ++"/" ++ dec x.2) "/"= [dec x.1,dec x.2] from Dw (c:=47) (GX _) (GX _)]
  dsimp only;rw[oV (k:=4) ∅ ∅ p1 nofun,oV (k:=4) ∅ ∅ nofun nofun];dsimp only;rw[if_neg nofun,p3]
def Ei (h:Oc x):lr (iU x)=some x:=by
 obtain⟨h1,h2,h3,h4⟩:=h;unfold lr;rw[Gw h1 h3 h4];dsimp only;rw[if_neg nofun]
def O1 (h:LK it):ir (qX it)=some it:=by
 obtain⟨o,x⟩:=it;obtain⟨h1,h2⟩:=h;cases o with
 | none=>
  have e:Txt.split (qX (none,x)) ":"= [("r": Str),iU x]:=Dw (c:=58) (a:="r") ∅ (CN h1);unfold ir;rw[e];show(match lr (iU x) with | none=>none | some x=>_)=_;rw[Ei h1];exact if_pos rfl
 | some q=>
  have e:Txt.split (qX (some q,x)) ":"= [dec q.1,dec q.2,iU x]:=Qw (c:=58) (J3 _) (J3 _) (CN h1);unfold ir;rw[e];show(match lr (iU x) with | none=>none | some x=>_)=_;rw[Ei h1];dsimp only;rw[if_neg (by simp)];show(match rp (dec q.1) (dec q.2) with | some q=>some (some q,x) | none=>none)=_;rw[MB (h2 q rfl)]
def Ih (h1:1<=a) (h2:a<=32) (h3:b∈Cb):jx (dec a ++"/" ++ dec b)=some (a,b):=by
 have hb:0<=b/\b<1000:=by
  unfold Cb at h3;simp at h3;omega
 unfold jx;rw[show Txt.split (dec a ++"/" ++ dec b) "/"= [dec a,dec b] from Dw (c:=47) (GX _) (GX _)];dsimp only;rw[CF nofun nofun h1 h2,fE hb.1 hb.2];dsimp only;rw[if_pos h3]
def ME {k:Int} (h1:-7<=k) (h2:k<=7):FV (dec k)=some k:=by
 unfold FV;rw[Ig (k:=3) ∅ ∅ nofun nofun];dsimp only;rw[if_neg (by split <;> omega)]
def Ky (h:N3 q) (h1:-12<=q.1) (h2:q.1<=12):yU (dec q.1) (dec q.2)=some q:=by
 unfold yU;rw[MB h];dsimp only;rw[if_neg (by split <;> omega)]
theorem oQ:∀{l:List α},(∀x∈l,f (g x)=some x)->oR ((l.map g).map f)=some l
 | [],_=>rfl
 | x::l,h=>by
  rw[zh,zh,h x zp];unfold oR;rw[oQ fun y hy=>h y (zm _ hy)]
noncomputable def pM (e:End):Str:=dec e.1 ++":" ++ Str.join "," (e.2.map dec)
def Uu (e:End):Prop:=0<=e.1/\e.1<1000/\e.2≠[]/\∀p∈e.2,0<=p/\p<1000
theorem pk (hs:c∉sep.cps.toList):∀{zs:List Str},(∀z∈zs,c∉z.cps.toList)->c∉(Str.join sep zs).cps.toList
 | [],_=>by show c∉("": Str).cps.toList;exact zD
 | [z],h=>h z zp
 | z::y::r,h=>by
  rw[fe,cJ,cJ];intro m;rcases zF.mp m with m | m
  ·rcases zF.mp m with m | m
   ·exact h z zp m
   ·exact hs m
  ·exact pk hs (fun x hx=>h x (zm _ hx)) m
def MG (h:Uu e):yV (pM e)=some e:=by
 obtain⟨h1,h2,h3,h4⟩:=h;have f:58∉(Str.join "," (e.2.map dec)).cps.toList:=pk ∅ fun z hz=>by
  obtain⟨y,_,rfl⟩:=zG.mp hz;exact J3 _
 unfold yV pM;rw[show Txt.split (dec e.1 ++":" ++ Str.join "," (e.2.map dec)) ":"= [dec e.1,Str.join "," (e.2.map dec)] from Dw (c:=58) (J3 _) f];dsimp only;rw[show Txt.split (Str.join "," (e.2.map dec)) ","= e.2.map dec from gw (c:=44) (by simpa using h3) fun z hz=>by
  obtain⟨y,_,rfl⟩:=zG.mp hz;exact gf ∅ ∅]
 rw[fE h1 h2,oQ fun x hx=>fE (h4 x hx).1 (h4 x hx).2]
def LG (w:Str):Prop:=w≠ ""/\32∉w.cps.toList/\10∉w.cps.toList
def HK (ne:ws≠[]) (h:∀w∈ws,LG w):words (Str.join " " ws)=ws:=by
 unfold words;rw[show Txt.split (Str.join " " ws) " "= ws from gw (c:=32) ne fun w hw=>(h w hw).2.1];exact List.filter_eq_self.mpr fun w hw=>ze (h w hw).1
def fM (n:Int):LG (dec n):=by
 refine⟨fun z=>?_,gf ∅ ∅,gf ∅ ∅⟩
 by_cases h:0<=n
 ·obtain⟨m,rfl⟩:=yK h
  have:=GV (n:=m);rw[z] at this;exact absurd this ∅
 ·have e:(dec n).cps.toList=45::(dec (-n)).cps.toList:=by rw[xu nofun,cJ];rfl
  rw[z] at e;cases e
def Hm (ha:LG a) (hb1:32∉b.cps.toList) (hb2:10∉b.cps.toList):LG (a++b):=by
 refine⟨fun z=>ha.1 (lG ?_),fun m=>?_,fun m=>?_⟩
 ·have e:(a++b).cps.toList=("": Str).cps.toList:=by rw[z]
  rw[cJ] at e;exact(List.append_eq_nil_iff.mp e).1
 ·rw[cJ] at m
  rcases zF.mp m with m | m
  ·exact ha.2.1 m
  ·exact hb1 m
 ·rw[cJ] at m
  rcases zF.mp m with m | m
  ·exact ha.2.2 m
  ·exact hb2 m
def EU (ha:LG a) (hb1:32∉b.cps.toList) (hb2:10∉b.cps.toList) (hc:LG c):LG (a++b++c):=Hm (Hm ha hb1 hb2) hc.2.1 hc.2.2
def Am (x:Int×Int):LG (iU x):=by
 unfold iU;split
 ·exact fM _
 ·exact EU (fM _) ∅ ∅ (fM _)
def Q6 (it:Item):LG (qX it):=by
 obtain⟨o,x⟩:=it;cases o with
 | none=>exact Hm (a:="r:") ⟨∅,∅,∅⟩ (Am x).2.1 (Am x).2.2
 | some q=>exact EU (EU (fM _) ∅ ∅ (fM _)) ∅ ∅ (Am x)
def Rk (e:End):LG (pM e):=by
 have f:∀c,c≠44->c≠45->¬(48<=c/\c<=57)->c∉(Str.join "," (e.2.map dec)).cps.toList:=fun c h0 h1 h2=>pk (by show c∉[44];simpa using h0) fun z hz=>by
  obtain⟨y,_,rfl⟩:=zG.mp hz;exact gf h1 h2
 unfold pM;exact Hm (Hm (fM _) ∅ ∅) (f 32 ∅ ∅ ∅) (f 10 ∅ ∅ ∅)
def gm (n:Str):Prop:=cL n=some n
def gm.w (h:gm n):LG n:=by
 unfold gm cL at h;split at h
 ·cases h
 ·split at h
  ·cases h
  ·split at h
   ·rename_i h1 _ h3
    have hs:∀c,c∉sgn->c∉n.cps.toList:=fun c hc m=>hc (yd (yo.mp h3 c m));refine⟨fun z=>h1 (by rw[z];decide),hs 32 ∅,hs 10 ∅⟩
   ·cases h
noncomputable def ctxt:Option Int->Str
 | none=> "end"
 | some n=>dec n
noncomputable def wordsOf:Told->List Str
 | .bD n=>["player",n]
 | .cM n t l=>["instrument",n,dec t.1,dec t.2,iU l]
 | .cw n ps=> "staff":: n::ps
 | .bar b=> "bar":: (dec b.aQ.1 ++"/" ++ dec b.aQ.2)::dec b.key::b.marks
 | .aF l=>["upbeat",iU l]
 | .holds p b i=>["holds",p,dec b,i]
 | .aE b p its=> "notes":: dec b::p::its.map qX
 | .rep r=> "repeat":: dec r.first::dec r.last::dec r.times::r.ends.map pM
 | .cj j=>["jump",dec j.xn,dec j.Bj,dec j.dz,ctxt j.gH]
noncomputable def rowOf (t:Told):Str:=Str.join " " (wordsOf t)
def NB (n:Int):Prop:=0<=n/\n<1000
def P0:Told->Prop
 | .bD n=>gm n
 | .cM n t l=>gm n/\N3 t/\-12<=t.1/\t.1<=12/\Lm.Rd l/\l.1<10000/\l.2<10000
 | .cw n ps=>gm n/\ps≠[]/\∀p∈ps,gm p
 | .bar b=>1<=b.aQ.1/\b.aQ.1<=32/\b.aQ.2∈Cb/\-7<=b.key/\b.key<=7/\∀m∈b.marks,gm m
 | .aF l=>Oc l
 | .holds p b i=>gm p/\NB b/\gm i
 | .aE b p its=>NB b/\gm p/\(∀it∈its,LK it)/\its.all (fun it=>it.1.isNone)=false
 | .rep r=>NB r.first/\NB r.last/\2<=r.times/\r.times<=9/\∀e∈r.ends,Uu e
 | .cj j=>NB j.xn/\NB j.Bj/\NB j.dz/\∀c,j.gH=some c->NB c
def Kb (h:∀p∈l,gm p):oR (l.map cL)=some l:=by
 have:=oQ (f:=cL) (g:=fun x:Str=>x) (l:=l) h
 rwa [List.map_id'] at this
def Ij (h:P0 t):oY (wordsOf t)=some t:=by
 cases t with
 | bD n=>
  show(cL n).map Told.bD=_;rw[show cL n=some n from h];rfl
 | cM n t l=>
  obtain⟨h1,h2,h3,h4,h5,h6,h7⟩:=h;show(lS [n,dec t.1,dec t.2,iU l]).map (fun x=>Told.cM x.1 x.2.1 x.2.2)=_;unfold lS;dsimp only;rw[show cL n=some n from h1,Ky h2 h3 h4,Gw h5 h6 h7];rfl
 | cw n ps=>
  obtain⟨h1,h2,h3⟩:=h;show(qO (n::ps)).map (fun x=>Told.cw x.1 x.2)=_;obtain⟨b,r,rfl⟩:=List.exists_cons_of_ne_nil h2;rw[qN,Kb (l:=n::b::r) fun p hp=>by
   rcases zC.mp hp with e | e
   ·rw[e];exact h1
   ·exact h3 p e]
  rfl
 | bar b=>
  obtain⟨h1,h2,h3,h4,h5,h6⟩:=h;show(BG ((dec b.aQ.1 ++"/" ++ dec b.aQ.2)::dec b.key::b.marks)).map Told.bar=_;unfold BG;dsimp only;rw[Kb h6,Ih h1 h2 h3,ME h4 h5];rfl
 | aF l=>
  show(lr (iU l)).map Told.aF=_;rw[Ei h];rfl
 | holds p b i=>
  obtain⟨h1,h2,h3⟩:=h;show(sH [p,dec b,i]).map (fun x=>Told.holds x.1 x.2.1 x.2.2)=_;unfold sH;dsimp only;rw[show cL p=some p from h1,fE h2.1 h2.2,show cL i=some i from h3];rfl
 | aE b p its=>
  obtain⟨h1,h2,h3,h4⟩:=h;show(kz (dec b::p::its.map qX)).map (fun x=>Told.aE x.1 x.2.1 x.2.2)=_;cases its with
  | nil=>cases h4
  | cons i r=>
   show(kz (dec b::p::qX i::r.map qX)).map _=_;unfold kz;have e:=oQ (f:=ir) (g:=qX) (l:=i::r) fun x hx=>O1 (h3 x hx);rw[zh] at e;dsimp only;rw[e];dsimp only;rw[h4,fE h1.1 h1.2,show cL p=some p from h2];rfl
 | rep r=>
  obtain⟨h1,h2,h3,h4,h5⟩:=h;show(j0 (dec r.first::dec r.last::dec r.times::r.ends.map pM)).map Told.rep=_;unfold j0;dsimp only;rw[oQ fun x hx=>MG (h5 x hx),fE h1.1 h1.2,fE h2.1 h2.2,CF nofun nofun h3 h4];rfl
 | cj j=>
  obtain⟨h1,h2,h3,h4⟩:=h;show(vE [dec j.xn,dec j.Bj,dec j.dz,ctxt j.gH]).map Told.cj=_;unfold vE;dsimp only;rw[fE h1.1 h1.2,fE h2.1 h2.2,fE h3.1 h3.2];obtain⟨a,b,c,d⟩:=j;cases d with
  | none=>rfl
  | some n=>
   dsimp only[ctxt];rw[fE (h4 n rfl).1 (h4 n rfl).2];rfl
def JA (h:P0 t):∀w∈wordsOf t,LG w:=by
 have lit:∀s:Str,s≠ ""->32∉s.cps.toList->10∉s.cps.toList->LG s:=fun s a b c=>⟨a,b,c⟩
 cases t with
 | bD n=>
  intro w hw;simp only[wordsOf,zC,zD,or_false] at hw;rcases hw with rfl | rfl
  ·exact lit _ ∅ ∅ ∅
  ·exact gm.w h
 | cM n t l=>
  intro w hw;simp only[wordsOf,zC,zD,or_false] at hw;rcases hw with rfl | rfl | rfl | rfl | rfl
  ·exact lit _ ∅ ∅ ∅
  ·exact gm.w h.1
  ·exact fM _
  ·exact fM _
  ·exact Am _
 | cw n ps=>
  intro w hw;simp only[wordsOf,zC] at hw;rcases hw with rfl | rfl | hw
  ·exact lit _ ∅ ∅ ∅
  ·exact gm.w h.1
  ·exact gm.w (h.2.2 _ hw)
 | bar b=>
  intro w hw;simp only[wordsOf,zC] at hw;rcases hw with rfl | rfl | rfl | hw
  ·exact lit _ ∅ ∅ ∅
  ·exact EU (fM _) ∅ ∅ (fM _)
  ·exact fM _
  ·exact gm.w (h.2.2.2.2.2 _ hw)
 | aF l=>
  intro w hw;simp only[wordsOf,zC,zD,or_false] at hw;rcases hw with rfl | rfl
  ·exact lit _ ∅ ∅ ∅
  ·exact Am _
 | holds p b i=>
  intro w hw;simp only[wordsOf,zC,zD,or_false] at hw;rcases hw with rfl | rfl | rfl | rfl
  ·exact lit _ ∅ ∅ ∅
  ·exact gm.w h.1
  ·exact fM _
  ·exact gm.w h.2.2
 | aE b p its=>
  intro w hw;simp only[wordsOf,zC,zG] at hw;rcases hw with rfl | rfl | rfl | ⟨x,_,rfl⟩
  ·exact lit _ ∅ ∅ ∅
  ·exact fM _
  ·exact gm.w h.2.1
  ·exact Q6 _
 | rep r=>
  intro w hw;simp only[wordsOf,zC,zG] at hw;rcases hw with rfl | rfl | rfl | rfl | ⟨x,_,rfl⟩
  ·exact lit _ ∅ ∅ ∅
  ·exact fM _
  ·exact fM _
  ·exact fM _
  ·exact Rk _
 | cj j=>
  intro w hw;simp only[wordsOf,zC,zD,or_false] at hw;rcases hw with rfl | rfl | rfl | rfl | rfl
  ·exact lit _ ∅ ∅ ∅
  ·exact fM _
  ·exact fM _
  ·exact fM _
  ·unfold ctxt
   cases j.gH with
   | none=>exact lit _ ∅ ∅ ∅
   | some n=>exact fM _
def HL (t:Told):wordsOf t≠[]:=by cases t <;> simp[wordsOf]
def Kz (h:P0 t):words (rowOf t)=wordsOf t:=HK (HL t) (JA h)
def MC (h:P0 t):10∉(rowOf t).cps.toList:=pk ∅ fun w hw=>(JA h w hw).2.2
noncomputable def kindOf:HO->Nat
 | .lst _=>0
 | .tup _=>1
 | .ins _ _ _=>2
 | .dK _=>3
 | .dT _=>4
 | _=>5
def aZ {H:Hp} {a b:Addr} {u v:HO} (h1:H a=some u) (h2:H b=some v) (k:kindOf u≠kindOf v):a≠b:=fun z=>by
 rw[z,h2] at h1;cases h1;exact k rfl
noncomputable def own (a:Addr) (o:Ow):List Addr:=[a,o.pl,o.ins,o.st,o.ba,o.ho,o.no,o.re]++o.hs++o.ns
def xh (L:List Addr) (H H':Hp):Prop:=∀b u,b∉L->H b=some u->H' b=some u
def xh.of (s:au H H'):xh L H H':=fun b u _ h=>s b u h
def xh.trans (s:xh L H H') (t:xh L H' H''):xh L H H'':=fun b u n h=>t b u n (s b u n h)
theorem xh.upd (h:x∈L):xh L H (L2.upd H x o):=fun b u n e=>by
 rw[aD (fun z=>n (by rw[z];exact h))];exact e
structure Nd (o:Ow):Prop where
 pb:o.pl≠o.ba
 pr:o.pl≠o.re
 ph:o.pl∉o.hs
 pn:o.pl∉o.ns
 br:o.ba≠o.re
 bh:o.ba∉o.hs
 bn:o.ba∉o.ns
 rh:o.re∉o.hs
 rn:o.re∉o.ns
 hh:o.hs.Nodup
 nn:o.ns.Nodup
 hn:∀x∈o.hs,x∉o.ns
def Nd.of (h:o.lists.Nodup):Nd o:=by
 unfold Ow.lists at h;rw[zR] at h;obtain⟨h1,h2,h3⟩:=h;rw[zR] at h1;obtain⟨h4,h5,h6⟩:=h1;simp only[yc,zC,zD,or_false,not_or] at h4;refine⟨h4.1.1,h4.1.2,fun z=>?_,fun z=>?_,h4.2.1,fun z=>?_,fun z=>?_,fun z=>?_,fun z=>?_,h5,h2,fun x hx z=>?_⟩
 ·exact h6 o.pl (by simp) o.pl z rfl
 ·exact h3 o.pl (by simp) o.pl z rfl
 ·exact h6 o.ba (by simp) o.ba z rfl
 ·exact h3 o.ba (by simp) o.ba z rfl
 ·exact h6 o.re (by simp) o.re z rfl
 ·exact h3 o.re (by simp) o.re z rfl
 ·exact h3 x (by simp[hx]) x z rfl
def Nd.to (h:Nd o):o.lists.Nodup:=by
 unfold Ow.lists;rw[zR];refine⟨?_,h.nn,?_⟩
 ·rw[zR]
  refine⟨?_,h.hh,?_⟩
  ·simp only[yc,zC,zD,or_false,not_or]
   exact⟨⟨h.pb,h.pr⟩,h.br,fun z=>z,List.nodup_nil⟩
  ·intro x hx y hy e
   subst e;simp only[zC,zD,or_false] at hx;rcases hx with rfl | rfl | rfl
   ·exact h.ph hy
   ·exact h.bh hy
   ·exact h.rh hy
 ·intro x hx y hy e
  subst e;rw[zF] at hx;rcases hx with hx | hx
  ·simp only[zC,zD,or_false] at hx
   rcases hx with rfl | rfl | rfl
   ·exact h.pn hy
   ·exact h.bn hy
   ·exact h.rn hy
  ·exact h.hn x hx hy
section
variable {C a x:Addr} {H:Hp} {S:cD} {o:Ow} {u:HO}
def bQ.CM (h:bQ C H a S o) (nx:cT (H x)) (n:a≠x):∃ub jm,L2.upd H x u a=some (.ins C o.dx (N8 o ub jm))/\Is (L2.upd H x u) (dO dL S.aF) ub/\Is (L2.upd H x u) (dO jG S.cj) jm:=by
 obtain⟨ub,jm,h1,h2,h3⟩:=h.obj;exact⟨ub,jm,by rw[aD n];exact h1,Is.upd nx h2,Is.upd nx h3⟩
def bQ.DS (h:bQ C H a S o) (n:o.pl≠x):L2.upd H x u o.pl=some (.lst (S.players.map V.str)):=by rw[aD n];exact h.pl
def bQ.tD (h:bQ C H a S o) (nx:cT (H x)) (n:o.ins≠x):∃vs,L2.upd H x u o.ins=some (.dK ((S.ak.map fun x=>kS x.1).zip vs))/\ay (L2.upd H x u) (S.ak.map NP) vs:=by
 obtain⟨vs,h1,h2⟩:=h.ins;exact⟨vs,by rw[aD n];exact h1,ay.upd nx h2⟩
def bQ.Du (h:bQ C H a S o) (nx:cT (H x)) (n:o.st≠x):∃vs,L2.upd H x u o.st=some (.dK ((S.aI.map fun x=>kS x.1).zip vs))/\ay (L2.upd H x u) (S.aI.map Pd) vs:=by
 obtain⟨vs,h1,h2⟩:=h.st;exact⟨vs,by rw[aD n];exact h1,ay.upd nx h2⟩
def bQ.ES (h:bQ C H a S o) (nx:cT (H x)) (n:o.ba≠x):∃vs,L2.upd H x u o.ba=some (.lst vs)/\ay (L2.upd H x u) (S.aM.map lB) vs:=by
 obtain⟨vs,h1,h2⟩:=h.ba;exact⟨vs,by rw[aD n];exact h1,ay.upd nx h2⟩
def bQ.DP (h:bQ C H a S o) (nx:cT (H x)) (n:o.re≠x):∃vs,L2.upd H x u o.re=some (.lst vs)/\ay (L2.upd H x u) (S.repeats.map jO) vs:=by
 obtain⟨vs,h1,h2⟩:=h.re;exact⟨vs,by rw[aD n];exact h1,ay.upd nx h2⟩
def bQ.GA (h:bQ C H a S o) (nx:cT (H x)) (n:o.ho≠x) (nn:x∉o.hs):L2.upd H x u o.ho=some (.dK ((S.holds.map fun x=>kS x.1).zip (o.hs.map V.ref)))/\cm (L2.upd H x u) J5 (S.holds.map (·.2)) o.hs:=
 ⟨by rw[aD n];exact h.ho.1,cm.upd nx nn h.ho.2⟩
def bQ.Ef (h:bQ C H a S o) (nx:cT (H x)) (n:o.no≠x) (nn:x∉o.ns):L2.upd H x u o.no=some (.dT ((S.aE.map fun x=>kN x.1).zip (o.ns.map V.ref)))/\cm (L2.upd H x u) eZ (S.aE.map (·.2)) o.ns:=
 ⟨by rw[aD n];exact h.no.1,cm.upd nx nn h.no.2⟩
end
theorem cK:∀{ls:List (List α)} {as:List Addr},cm H d ls as->x∈as->∃vs,H x=some (.lst vs)
 | [],_,h,hx=>by unfold cm at h;subst h;simp at hx
 | l::r,_,⟨a,t,vs,e,h1,_,h3⟩,hx=>by
  subst e;rcases zC.mp hx with rfl | hx
  ·exact⟨vs,h1⟩
  ·exact cK h3 hx
theorem cm.snoc (hx:H x=some (.lst vs)) (im:ay H (m.map d) vs):∀{ls:List (List α)} {as:List Addr},cm H d ls as->cm H d (ls++[m]) (as++[x])
 | [],_,h=>by unfold cm at h;subst h;exact⟨x,[],vs,rfl,hx,im,rfl⟩
 | l::r,_,⟨a,t,vs',e,h1,h2,h3⟩=>by
  subst e;exact⟨a,t++[x],vs',rfl,h1,h2,cm.snoc hx im h3⟩
def LX (h:l.length=m.length) (x:α) (y:β):(l++[x]).zip (m++[y])=l.zip m++[(x,y)]:=by
 rw[List.zip_append h];rfl
def sI {κ:Type} [DecidableEq κ] {ks:List κ} {vs:List V} (hl:ks.length=vs.length) {k:κ} {v:V} (h:dB (ks.zip vs) k=none):putK (ks.zip vs) k v=(ks++[k]).zip (vs++[v]):=by
 rw[LX hl];exact MN v h
theorem CU (p:Str):∀{hs:List (Str×List α)} {as:List Addr},cm H d (hs.map (·.2)) as->as.Nodup->(hs.map (·.1)).Nodup->p∈hs.map (·.1)->
  ∃x vs,dB ((hs.map fun x=>kS x.1).zip (as.map V.ref)) (kS p)=some (.ref x)/\x∈as/\H x=some (.lst vs)/\∀y e,Is (L2.upd H x (.lst (vs++[y]))) (d e) y->
   cm (L2.upd H x (.lst (vs++[y]))) d ((hs.map fun q=>if q.1=p then(q.1,q.2++[e]) else q).map (·.2)) as
 | [],_,_,_,_,h=>by simp at h
 | (k,l)::r,_,hL,na,nk,hm=>by
  rw[zh] at hL;obtain⟨a,t,vs,rfl,h1,h2,h3⟩:=hL;rw[zh,yc] at nk;rw[yc] at na
  by_cases e:k=p
  ·subst e
   refine⟨a,vs,?_,zp,h1,fun y e iy=>?_⟩
   ·rw[zh,zh,List.zip_cons_cons]
    unfold dB;rw[List.find?_cons];simp
   ·have nx:cT (H a):=by rw[h1];exact fun _ z=>by cases z
    have er:(r.map fun q=>if q.1=k then(q.1,q.2++[e]) else q)=r:=by
     conv=>rhs;rw[<-List.map_id r]
     refine List.map_congr_left fun q hq=>?_;rw[if_neg (fun z=>nk.1 (by rw[show(k,l).1=q.1 from z.symm];exact zO (f:=fun x:Str×List α=>x.1) hq))];rfl
    rw[zh,zh,if_pos rfl,er];refine⟨a,t,vs++[y],rfl,aA,?_,cm.upd nx na.1 h3⟩;rw[zj];exact cW iy (ay.upd nx h2)
  ·have hm':p∈r.map (·.1):=by
    rcases zC.mp hm with z | z
    ·exact absurd z.symm e
    ·exact z
   obtain⟨x,vs',e1,e2,e3,e4⟩:=CU p h3 na.2 nk.2 hm';refine⟨x,vs',?_,zm _ e2,e3,fun y e iy=>?_⟩
   ·have e':¬kS k=kS p:=fun z=>e (Sum.inr.inj z)
    rw[zh,zh,List.zip_cons_cons];unfold dB at e1 ⊢;rw[List.find?_cons];simp only[e',decide_false];exact e1
   ·have nx:cT (H x):=by rw[e3];exact fun _ z=>by cases z
    rw[zh,zh,if_neg (by assumption)];refine⟨a,t,vs,rfl,?_,ay.upd nx h2,e4 y e iy⟩;rw[aD (fun z=>na.1 (by rw[z];exact e2))];exact h1
section
variable {C a:Addr} {H:Hp} {S:cD} {o:Ow}
def bQ.Ji (h:bQ C H a S o) (n:Str):bQ C (L2.upd H o.pl (.lst (S.players.map V.str++[.str n]))) a (bI S (.bD n)) o:=by
 have d:=Nd.of h.nd;have hp:=h.pl;have nx:cT (H o.pl):=by rw[hp];exact fun _ z=>by cases z
 obtain⟨_,_,ha,_⟩:=h.obj;obtain⟨_,hi,_⟩:=h.ins;obtain⟨_,hs,_⟩:=h.st;exact⟨h.CM nx (aZ ha hp (by simp[kindOf])),by rw[aA];show _=some (HO.lst ((S.players++[n]).map V.str));rw[zj];rfl,h.tD nx (aZ hi hp (by simp[kindOf])),h.Du nx (aZ hs hp (by simp[kindOf])),h.ES nx d.pb.symm,
  h.GA nx (aZ h.ho.1 hp (by simp[kindOf])) d.ph,h.Ef nx (aZ h.no.1 hp (by simp[kindOf])) d.pn,h.DP nx d.pr.symm,h.nd,h.dd⟩
def bQ.Pj (h:bQ C H a S o) {b:LU} {v:V} {vs:List V} (hb:H o.ba=some (.lst vs)) (il:ay H (S.aM.map lB) vs) (iv:Is H (lB b) v):bQ C (L2.upd H o.ba (.lst (vs++[v]))) a (bI S (.bar b)) o:=by
 have d:=Nd.of h.nd;have nx:cT (H o.ba):=by rw[hb];exact fun _ z=>by cases z
 obtain⟨_,_,ha,_⟩:=h.obj;obtain⟨_,hi,_⟩:=h.ins;obtain⟨_,hs,_⟩:=h.st;refine⟨h.CM nx (aZ ha hb (by simp[kindOf])),h.DS d.pb,h.tD nx (aZ hi hb (by simp[kindOf])),h.Du nx (aZ hs hb (by simp[kindOf])),⟨_,aA,?_⟩,
  h.GA nx (aZ h.ho.1 hb (by simp[kindOf])) d.bh,h.Ef nx (aZ h.no.1 hb (by simp[kindOf])) d.bn,h.DP nx d.br.symm,h.nd,h.dd⟩
 show ay _ ((S.aM++[b]).map lB) _;rw[zj];exact cW (Is.upd nx iv) (ay.upd nx il)
def bQ.Pg (h:bQ C H a S o) {r:Rep} {v:V} {vs:List V} (hb:H o.re=some (.lst vs)) (il:ay H (S.repeats.map jO) vs) (iv:Is H (jO r) v):bQ C (L2.upd H o.re (.lst (vs++[v]))) a (bI S (.rep r)) o:=by
 have d:=Nd.of h.nd;have nx:cT (H o.re):=by rw[hb];exact fun _ z=>by cases z
 obtain⟨_,_,ha,_⟩:=h.obj;obtain⟨_,hi,_⟩:=h.ins;obtain⟨_,hs,_⟩:=h.st;refine⟨h.CM nx (aZ ha hb (by simp[kindOf])),h.DS d.pr,h.tD nx (aZ hi hb (by simp[kindOf])),h.Du nx (aZ hs hb (by simp[kindOf])),h.ES nx d.br,
  h.GA nx (aZ h.ho.1 hb (by simp[kindOf])) d.rh,h.Ef nx (aZ h.no.1 hb (by simp[kindOf])) d.rn,⟨_,aA,?_⟩,h.nd,h.dd⟩
 show ay _ ((S.repeats++[r]).map jO) _;rw[zj];exact cW (Is.upd nx iv) (ay.upd nx il)
def xA {n:Str} {ks:List Str} {vs:List V} (h:n∉ks):dB ((ks.map kS).zip vs) (kS n)=none:=by
 unfold dB;rw[Option.map_eq_none_iff,List.find?_eq_none];intro x hx z;have e:=yd z;have m:=(List.of_mem_zip hx).1;obtain⟨k,hk,ek⟩:=zG.mp m;rw[<-ek] at e;exact h ((Sum.inr.inj e)▸hk)
def NN (h:[o.ins,o.st,o.ho].Nodup):o.ins≠o.st/\o.ins≠o.ho/\o.st≠o.ho:=by
 simp only[yc,zC,zD,or_false,not_or] at h;exact⟨h.1.1,h.1.2,h.2.1⟩
def bQ.Ly (h:bQ C H a S o) {n:Str} {t l:Int×Int} {p:Addr} {vs:List V} (hb:H o.ins=some (.dK ((S.ak.map fun x=>kS x.1).zip vs))) (il:ay H (S.ak.map NP) vs) (iv:Is H (NP (n,t,l)) (.ref p))
  (fr:n∉S.ak.map (·.1)):bQ C (L2.upd H o.ins (.dK (putK ((S.ak.map fun x=>kS x.1).zip vs) (kS n) (.ref p)))) a (bI S (.cM n t l)) o:=by
 have d:=Nd.of h.nd;obtain⟨d1,d2,d3⟩:=NN h.dd;have nx:cT (H o.ins):=by rw[hb];exact fun _ z=>by cases z
 obtain⟨_,_,ha,_⟩:=h.obj;obtain⟨_,hba,_⟩:=h.ba;obtain⟨_,hre,_⟩:=h.re;have vl:=aT il;have em:(S.ak.map fun x=>kS x.1)=(S.ak.map (·.1)).map kS:=by rw[zA];rfl
 have hns:o.ins∉o.ns:=fun z=>by
  obtain⟨_,q⟩:=cK h.no.2 z;rw[hb] at q;cases q
 have hhs:o.ins∉o.hs:=fun z=>by
  obtain⟨_,q⟩:=cK h.ho.2 z;rw[hb] at q;cases q
 refine⟨h.CM nx (aZ ha hb (by simp[kindOf])),h.DS (aZ h.pl hb (by simp[kindOf])),⟨vs++[.ref p],?_,?_⟩,h.Du nx d1.symm,h.ES nx (aZ hba hb (by simp[kindOf])),
  h.GA nx d2.symm hhs,h.Ef nx (aZ h.no.1 hb (by simp[kindOf])) hns,h.DP nx (aZ hre hb (by simp[kindOf])),h.nd,h.dd⟩
 ·rw[aA,sI (by rw[za];exact vl.symm) (by rw[em];exact xA fr)]
  show _=some (HO.dK (((S.ak++[(n,t,l)]).map fun x=>kS x.1).zip (vs++[.ref p])));rw[zj];rfl
 ·show ay _ ((S.ak++[(n,t,l)]).map NP) _
  rw[zj];exact cW (Is.upd nx iv) (ay.upd nx il)
def bQ.Lw (h:bQ C H a S o) {n:Str} {ps:List Str} {v:V} {vs:List V} (hb:H o.st=some (.dK ((S.aI.map fun x=>kS x.1).zip vs))) (il:ay H (S.aI.map Pd) vs) (iv:Is H (Pd (n,ps)) v)
  (fr:n∉S.aI.map (·.1)):bQ C (L2.upd H o.st (.dK (putK ((S.aI.map fun x=>kS x.1).zip vs) (kS n) v))) a (bI S (.cw n ps)) o:=by
 have d:=Nd.of h.nd;obtain⟨d1,d2,d3⟩:=NN h.dd;have nx:cT (H o.st):=by rw[hb];exact fun _ z=>by cases z
 obtain⟨_,_,ha,_⟩:=h.obj;obtain⟨_,hba,_⟩:=h.ba;obtain⟨_,hre,_⟩:=h.re;have vl:=aT il;have em:(S.aI.map fun x=>kS x.1)=(S.aI.map (·.1)).map kS:=by rw[zA];rfl
 have hns:o.st∉o.ns:=fun z=>by
  obtain⟨_,q⟩:=cK h.no.2 z;rw[hb] at q;cases q
 have hhs:o.st∉o.hs:=fun z=>by
  obtain⟨_,q⟩:=cK h.ho.2 z;rw[hb] at q;cases q
 refine⟨h.CM nx (aZ ha hb (by simp[kindOf])),h.DS (aZ h.pl hb (by simp[kindOf])),h.tD nx d1,⟨vs++[v],?_,?_⟩,h.ES nx (aZ hba hb (by simp[kindOf])),
  h.GA nx d3.symm hhs,h.Ef nx (aZ h.no.1 hb (by simp[kindOf])) hns,h.DP nx (aZ hre hb (by simp[kindOf])),h.nd,h.dd⟩
 ·rw[aA,sI (by rw[za];exact vl.symm) (by rw[em];exact xA fr)]
  show _=some (HO.dK (((S.aI++[(n,ps)]).map fun x=>kS x.1).zip (vs++[v])));rw[zj];rfl
 ·show ay _ ((S.aI++[(n,ps)]).map Pd) _
  rw[zj];exact cW (Is.upd nx iv) (ay.upd nx il)
def Kl {n:Int×Str} {ks:List (Int×Str)} {vs:List V} (h:n∉ks):dB ((ks.map kN).zip vs) (kN n)=none:=by
 unfold dB;rw[Option.map_eq_none_iff,List.find?_eq_none];intro x hx z;have e:=yd z;have m:=(List.of_mem_zip hx).1;obtain⟨k,hk,ek⟩:=zG.mp m;rw[<-ek] at e;unfold kN at e;simp at e;have:k=n:=Prod.ext e.1 e.2;exact h (this▸hk)
def bQ.Lx (h:bQ C H a S o) {b:Int} {pn:Str} {its:List Item} {q:Addr} {us:List V} (hq:H q=some (.lst us)) (iq:ay H (its.map eZ) us) (nq:q∉o.lists) (fr:(b,pn)∉S.aE.map (·.1)) :
  bQ C (L2.upd H o.no (.dT (putK ((S.aE.map fun x=>kN x.1).zip (o.ns.map V.ref)) (kN (b,pn)) (.ref q)))) a (bI S (.aE b pn its)) {o with ns:=o.ns++[q]}:=by
 have d:=Nd.of h.nd;have hb:=h.no.1;have nx:cT (H o.no):=by rw[hb];exact fun _ z=>by cases z
 obtain⟨ub,jm,ha,hub,hjm⟩:=h.obj;obtain⟨_,hi,_⟩:=h.ins;obtain⟨_,hs,_⟩:=h.st;obtain⟨_,hba,_⟩:=h.ba;obtain⟨_,hre,_⟩:=h.re;have em:(S.aE.map fun x=>kN x.1)=(S.aE.map (·.1)).map kN:=by rw[zA];rfl
 have hns:o.no∉o.ns:=fun z=>by
  obtain⟨_,q⟩:=cK h.no.2 z;rw[hb] at q;cases q
 have hhs:o.no∉o.hs:=fun z=>by
  obtain⟨_,q⟩:=cK h.ho.2 z;rw[hb] at q;cases q
 have ll:(o.ns.map V.ref).length=S.aE.length:=by
  have:∀{ls:List (List Item)} {as:List Addr},cm H eZ ls as->as.length=ls.length:=by
   intro ls
   induction ls with
   | nil=>intro as z;unfold cm at z;rw[z];rfl
   | cons l r ih=>rintro _ ⟨a,t,vs,rfl,_,_,h3⟩;rw[zt,zt,ih h3]
  rw[za,this h.no.2,za]
 have nn:q∉[o.pl,o.ba,o.re]/\q∉o.hs/\q∉o.ns:=by
  unfold Ow.lists at nq;rw[zF,zF] at nq;exact⟨fun z=>nq (.inl (.inl z)),fun z=>nq (.inl (.inr z)),fun z=>nq (.inr z)⟩
 obtain⟨n1,n2,n3⟩:=nn;simp only[zC,zD,or_false,not_or] at n1;refine⟨⟨ub,jm,by rw[aD (aZ ha hb (by simp[kindOf]))];exact ha,Is.upd nx hub,Is.upd nx hjm⟩,h.DS (aZ h.pl hb (by simp[kindOf])),h.tD nx (aZ hi hb (by simp[kindOf])),h.Du nx (aZ hs hb (by simp[kindOf])),h.ES nx (aZ hba hb (by simp[kindOf])),
  h.GA nx (aZ h.ho.1 hb (by simp[kindOf])) hhs,⟨?_,?_⟩,h.DP nx (aZ hre hb (by simp[kindOf])),?_,h.dd⟩
 ·show L2.upd H o.no _ o.no=some (HO.dT (((S.aE++[((b,pn),its)]).map fun x=>kN x.1).zip ((o.ns++[q]).map V.ref)))
  rw[aA,sI (by rw[za];exact ll.symm) (by rw[em];exact Kl fr),zj,zj];rfl
 ·show cm _ eZ ((S.aE++[((b,pn),its)]).map (·.2)) (o.ns++[q])
  rw[zj];exact cm.snoc (by rw[aD (aZ hq hb (by simp[kindOf]))];exact hq) (ay.upd nx iq) (cm.upd nx hns h.no.2)
 ·refine Nd.to ⟨d.pb,d.pr,d.ph,?_,d.br,d.bh,?_,d.rh,?_,d.hh,?_,?_⟩
  ·show o.pl∉o.ns++[q]
   rw[zF,zy];rintro(z | z)
   ·exact d.pn z
   ·exact n1.1 z.symm
  ·show o.ba∉o.ns++[q]
   rw[zF,zy];rintro(z | z)
   ·exact d.bn z
   ·exact n1.2.1 z.symm
  ·show o.re∉o.ns++[q]
   rw[zF,zy];rintro(z | z)
   ·exact d.rn z
   ·exact n1.2.2 z.symm
  ·show(o.ns++[q]).Nodup
   rw[zR];exact⟨d.nn,by simp,fun x hx y hy e=>by rw[zy] at hy;subst hy;subst e;exact n3 hx⟩
  ·intro x hx z
   have z':x∈o.ns++[q]:=z;rw[zF,zy] at z';rcases z' with z' | z'
   ·exact d.hn x hx z'
   ·subst z';exact n2 hx
def bQ.Jh (h:bQ C H a S o) {l:Int×Int} {v ub jm:V} (ha:H a=some (.ins C o.dx (N8 o ub jm))) (ij:Is H (dO jG S.cj) jm) (iv:Is H (dL l) v):bQ C (L2.upd H a (.ins C o.dx (N8 o v jm))) a (bI S (.aF l)) o:=by
 have nx:cT (H a):=by rw[ha];exact fun _ z=>by cases z
 obtain⟨_,hi,_⟩:=h.ins;obtain⟨_,hs,_⟩:=h.st;obtain⟨_,hba,_⟩:=h.ba;obtain⟨_,hre,_⟩:=h.re;have hns:a∉o.ns:=fun z=>by
  obtain⟨_,q⟩:=cK h.no.2 z;rw[ha] at q;cases q
 have hhs:a∉o.hs:=fun z=>by
  obtain⟨_,q⟩:=cK h.ho.2 z;rw[ha] at q;cases q
 exact⟨⟨v,jm,aA,Is.upd nx iv,Is.upd nx ij⟩,h.DS (aZ h.pl ha (by simp[kindOf])),h.tD nx (aZ hi ha (by simp[kindOf])),h.Du nx (aZ hs ha (by simp[kindOf])),h.ES nx (aZ hba ha (by simp[kindOf])),
  h.GA nx (aZ h.ho.1 ha (by simp[kindOf])) hhs,h.Ef nx (aZ h.no.1 ha (by simp[kindOf])) hns,h.DP nx (aZ hre ha (by simp[kindOf])),h.nd,h.dd⟩
def bQ.N1 (h:bQ C H a S o) {j:Jump} {v ub jm:V} (ha:H a=some (.ins C o.dx (N8 o ub jm))) (iu:Is H (dO dL S.aF) ub) (iv:Is H (jG j) v):bQ C (L2.upd H a (.ins C o.dx (N8 o ub v))) a (bI S (.cj j)) o:=by
 have nx:cT (H a):=by rw[ha];exact fun _ z=>by cases z
 obtain⟨_,hi,_⟩:=h.ins;obtain⟨_,hs,_⟩:=h.st;obtain⟨_,hba,_⟩:=h.ba;obtain⟨_,hre,_⟩:=h.re;have hns:a∉o.ns:=fun z=>by
  obtain⟨_,q⟩:=cK h.no.2 z;rw[ha] at q;cases q
 have hhs:a∉o.hs:=fun z=>by
  obtain⟨_,q⟩:=cK h.ho.2 z;rw[ha] at q;cases q
 exact⟨⟨ub,v,aA,Is.upd nx iu,Is.upd nx iv⟩,h.DS (aZ h.pl ha (by simp[kindOf])),h.tD nx (aZ hi ha (by simp[kindOf])),h.Du nx (aZ hs ha (by simp[kindOf])),h.ES nx (aZ hba ha (by simp[kindOf])),
  h.GA nx (aZ h.ho.1 ha (by simp[kindOf])) hhs,h.Ef nx (aZ h.no.1 ha (by simp[kindOf])) hns,h.DP nx (aZ hre ha (by simp[kindOf])),h.nd,h.dd⟩
def bQ.M7 (h:bQ C H a S o) {pn:Str} {q:Addr} (hq:H q=some (.lst [])) (nq:q∉o.lists) (fr:pn∉S.holds.map (·.1)) :
  bQ C (L2.upd H o.ho (.dK (putK ((S.holds.map fun x=>kS x.1).zip (o.hs.map V.ref)) (kS pn) (.ref q)))) a {S with holds:=S.holds++[(pn,[])]} {o with hs:=o.hs++[q]}:=by
 have d:=Nd.of h.nd;obtain⟨d1,d2,d3⟩:=NN h.dd;have hb:=h.ho.1;have nx:cT (H o.ho):=by rw[hb];exact fun _ z=>by cases z
 obtain⟨ub,jm,ha,hub,hjm⟩:=h.obj;obtain⟨_,hba,_⟩:=h.ba;obtain⟨_,hre,_⟩:=h.re;have em:(S.holds.map fun x=>kS x.1)=(S.holds.map (·.1)).map kS:=by rw[zA];rfl
 have hns:o.ho∉o.ns:=fun z=>by
  obtain⟨_,q⟩:=cK h.no.2 z;rw[hb] at q;cases q
 have hhs:o.ho∉o.hs:=fun z=>by
  obtain⟨_,q⟩:=cK h.ho.2 z;rw[hb] at q;cases q
 have ll:(o.hs.map V.ref).length=S.holds.length:=by
  have:∀{ls:List (List (Int×Str))} {as:List Addr},cm H J5 ls as->as.length=ls.length:=by
   intro ls
   induction ls with
   | nil=>intro as z;unfold cm at z;rw[z];rfl
   | cons l r ih=>rintro _ ⟨a,t,vs,rfl,_,_,h3⟩;rw[zt,zt,ih h3]
  rw[za,this h.ho.2,za]
 have nn:q∉[o.pl,o.ba,o.re]/\q∉o.hs/\q∉o.ns:=by
  unfold Ow.lists at nq;rw[zF,zF] at nq;exact⟨fun z=>nq (.inl (.inl z)),fun z=>nq (.inl (.inr z)),fun z=>nq (.inr z)⟩
 obtain⟨n1,n2,n3⟩:=nn;simp only[zC,zD,or_false,not_or] at n1;refine⟨⟨ub,jm,by rw[aD (aZ ha hb (by simp[kindOf]))];exact ha,Is.upd nx hub,Is.upd nx hjm⟩,h.DS (aZ h.pl hb (by simp[kindOf])),h.tD nx d2,h.Du nx d3,h.ES nx (aZ hba hb (by simp[kindOf])),
  ⟨?_,?_⟩,h.Ef nx (aZ h.no.1 hb (by simp[kindOf])) hns,h.DP nx (aZ hre hb (by simp[kindOf])),?_,h.dd⟩
 ·show L2.upd H o.ho _ o.ho=some (HO.dK (((S.holds++[((pn,[]):Str×List (Int×Str))]).map fun x:Str×List (Int×Str)=>kS x.1).zip ((o.hs++[q]).map V.ref)))
  rw[aA,sI (by rw[za];exact ll.symm) (by rw[em];exact xA fr),zj,zj];rfl
 ·show cm _ J5 ((S.holds++[((pn,[]):Str×List (Int×Str))]).map fun x:Str×List (Int×Str)=>x.2) (o.hs++[q])
  rw[zj];exact cm.snoc (vs:=[]) (by rw[aD (aZ hq hb (by simp[kindOf]))];exact hq) (by show ay _ [] [];unfold ay;rfl) (cm.upd nx hhs h.ho.2)
 ·refine Nd.to ⟨d.pb,d.pr,?_,d.pn,d.br,?_,d.bn,?_,d.rn,?_,d.nn,?_⟩
  ·show o.pl∉o.hs++[q]
   rw[zF,zy];rintro(z | z)
   ·exact d.ph z
   ·exact n1.1 z.symm
  ·show o.ba∉o.hs++[q]
   rw[zF,zy];rintro(z | z)
   ·exact d.bh z
   ·exact n1.2.1 z.symm
  ·show o.re∉o.hs++[q]
   rw[zF,zy];rintro(z | z)
   ·exact d.rh z
   ·exact n1.2.2 z.symm
  ·show(o.hs++[q]).Nodup
   rw[zR];exact⟨d.hh,by simp,fun x hx y hy e=>by rw[zy] at hy;subst hy;subst e;exact n2 hx⟩
  ·intro x hx z
   have hx':x∈o.hs++[q]:=hx;rw[zF,zy] at hx';rcases hx' with hx' | hx'
   ·exact d.hn x hx' z
   ·subst hx';exact n3 z
def bQ.o9 (h:bQ C H a S o) {pn:Str} (nk:(S.holds.map (·.1)).Nodup) (hm:pn∈S.holds.map (·.1)) :
  ∃x vs,dB ((S.holds.map fun x=>kS x.1).zip (o.hs.map V.ref)) (kS pn)=some (.ref x)/\x∈o.hs/\H x=some (.lst vs)/\∀y b i,Is H (J5 (b,i)) y->bQ C (L2.upd H x (.lst (vs++[y]))) a (bI S (.holds pn b i)) o:=by
 have d:=Nd.of h.nd;obtain⟨x,vs,e1,e2,e3,e4⟩:=CU pn h.ho.2 d.hh nk hm;refine⟨x,vs,e1,e2,e3,fun y b i iy=>?_⟩;have nx:cT (H x):=by rw[e3];exact fun _ z=>by cases z
 obtain⟨ub,jm,ha,hub,hjm⟩:=h.obj;obtain⟨_,hi,_⟩:=h.ins;obtain⟨_,hs,_⟩:=h.st;have ea:bI S (.holds pn b i)={S with holds:=S.holds.map fun q:Str×List (Int×Str)=>if q.1=pn then(q.1,q.2++[(b,i)]) else q}:=by
  show({S with holds:=fh S.holds pn (b,i)}:cD)=_;unfold fh;rw[if_pos hm]
 rw[ea];refine⟨h.CM nx (aZ ha e3 (by simp[kindOf])),h.DS (fun z=>d.ph (by rw[z];exact e2)),h.tD nx (aZ hi e3 (by simp[kindOf])),h.Du nx (aZ hs e3 (by simp[kindOf])),h.ES nx (fun z=>d.bh (by rw[z];exact e2)),
  ⟨?_,e4 y (b,i) (Is.upd nx iy)⟩,h.Ef nx (aZ h.no.1 e3 (by simp[kindOf])) (d.hn x e2),h.DP nx (fun z=>d.rh (by rw[z];exact e2)),h.nd,h.dd⟩
 rw[aD (aZ h.ho.1 e3 (by simp[kindOf])),h.ho.1];show _=some (HO.dK (((S.holds.map fun q:Str×List (Int×Str)=>if q.1=pn then(q.1,q.2++[(b,i)]) else q).map fun x:Str×List (Int×Str)=>kS x.1).zip _));rw[zA];have:(S.holds.map fun x:Str×List (Int×Str)=>kS x.1)=S.holds.map ((fun x:Str×List (Int×Str)=>kS x.1)∘fun q:Str×List (Int×Str)=>if q.1=pn then(q.1,q.2++[(b,i)]) else q):=by
  refine List.map_congr_left fun q _=>?_;show kS q.1=kS (if q.1=pn then((q.1,q.2++[(b,i)]):Str×List (Int×Str)) else q).1;split <;> rfl
 rw[this]
end
end Sc
namespace L2
open PySem PySem.Spec PyProof.Rows
noncomputable def noStar:Expr->Bool
 | .Starred ..=>false
 | _=>true
def oU (h:noStar e=true):starEach (e::es) env=(false,eval e env)::starEach es env:=by
 cases e <;> first | rfl | (simp[noStar] at h)
def aa (ha:PE X e te) (hr:PA X es t) (hs:noStar e=true<|>qe_):PA X (e::es) (bC te t):=ah ha hr (oU hs)
end L2
namespace Sc
open PySem L2 Lm
def ma (F:Nat->Dt) (Pσ:St->Prop) (hn:n<=sizeLine) (h0:Pσ σ₀)
  (turn:∀(i:Nat) (σ:St) (H:Hp) (R:St->V->Hp->Prop),i<n->au H1 H->Pσ σ->(∀σ3 y H5,au H H5->Is H5 (F i) y->Pσ σ3->R σ3 y H5)->g (.int (lo+i)) σ H fun σ3 H3=>te σ3 H3 fun y H5=>R σ3 y H5)
  (fin:∀D vs H,au H1 H->H1 D=none->H D=some (.lst vs)->ay H ((List.range n).map F) vs->Q (.ref D) H):dM σ₀ g vU te Q (N4 lo n) H1:=by
 refine oO (ws:=List.range n) (enc:=fun i=>.int (lo+(i:Nat))) F Pσ (by rw[zQ];exact hn) h0 (fun i H hi _=>by rw[zQ] at hi;exact hi) (fun H _=>by rw[zQ];exact zk _) ?_ ?_ fin
 ·rintro i x H H2 hi _ ⟨rfl,rfl⟩
  exact⟨rfl,by rw[List.getElem_range]⟩
 ·intro i σ H R hi s p r
  exact turn i σ H R (List.mem_range.mp hi) s p r
def eI {c:Bool} {T:(Bool->Hp->Prop)->Prop} {Z:Bool->Hp->Prop} {H:Hp} (v:Bool) (h1:c=true->∀Z,Z v H->T Z) (h2:c=false->v=false) (hz:Z v H):if c=true then T Z else Z false H:=by
 cases c with
 | true=>rw[if_pos rfl];exact h1 rfl Z hz
 | false=>rw[if_neg (by simp)];rw[<-h2 rfl];exact hz
def Fx:List (Int×Int)->TA
 | []=>eK
 | p::r=>bC (Dn (bC (tC (.int p.1)) (bC (tC (.int p.2)) eK))) (Fx r)
theorem MS:∀{ps:List (Int×Int)} {H:Hp} {R:List V->Hp->Prop},(∀vs H',au H H'->ay H' (ps.map dL) vs->R vs H')->Fx ps σ H R
 | [],H,R,h=>h [] H (au.refl _) cH
 | p::r,H,R,h=>by
  have sl:=yB;refine⟨by show 2<=sizeLine;omega,fun q hq=>?_⟩;refine MS fun vs H' s' il=>?_;have s1:=aR (o:=HO.tup [.int p.1,.int p.2]) hq;exact h _ _ (s1.trans s') (aL (iV (s' _ _ aA)) il)
def SW (ps:List (Int×Int)):TE:=fun _ H Q=>∀D vs H',au H H'->H' D=some (.lst vs)->ay H' (ps.map dL) vs->Q (.ref D) H'
def OV (hl:ps.length<=1000) (h:SW ps σ H Q):Fy (Fx ps) σ H Q:=by
 have sl:=yB;refine MS fun vs H' s' il=>⟨by have:=aT il;omega,fun D hD=>?_⟩
 exact h D vs _ (s'.trans (aR hD)) aA (il.mono (aR hD))
def QO:PA X [] (Fx []):=af
def R8 (h:PA X es (Fx r)):PA X (.Tuple [.Constant (.int a) x1 p1,.Constant (.int b) x2 p2] k pos::es) (Fx ((a,b)::r)):=
 ah (bj (ah ae (ah ae af (oU rfl)) (oU rfl))) h (oU rfl)
def QK (h:PA X es (Fx ps)) (hl:ps.length<=1000<|>qb_):PE X (.List es pos) (SW ps):=by
 intro pins s σ H Q I hq;exact bg h pins s σ H Q I (OV hl hq)
def tN (h:xs[xs.length-1]?=some x):Dd xs (-1)=some x:=by
 have hp:0<xs.length:=by
  have:=(zw.mp h).1;omega
 have ne:xs≠[]:=yq.mp hp;have e:=List.dropLast_concat_getLast ne;have e2:xs.getLast ne=x:=by
  have:=(zw.mp h).2;rw[List.getLast_eq_getElem];exact this
 rw[<-e,e2];exact L2.A2 _ _
theorem Ap:∀l:List Str,ay H (l.map Dt.str) (l.map V.str)
 | []=>cH
 | x::r=>aL d9 (Ap r)
def xk (h:Is H (lB b) v):∃a m q,v=.ref a/\H a=some (.tup [m,.int b.key,.ref q])/\Is H (dL b.aQ) m/\H q=some (.tup (b.marks.map V.str)):=by
 unfold lB Is at h;obtain⟨a,vs,rfl,ha,hl⟩:=h;unfold ay at hl;obtain⟨v1,r1,rfl,h1,hl⟩:=hl;unfold ay at hl;obtain⟨v2,r2,rfl,h2,hl⟩:=hl;unfold ay at hl;obtain⟨v3,r3,rfl,h3,hl⟩:=hl;unfold ay at hl;subst hl;unfold Is at h2;subst h2;unfold m8 Is at h3;obtain⟨q,us,rfl,hq,hle⟩:=h3;rw[dI hle] at hq;exact⟨a,v1,q,rfl,ha,h1,hq⟩
noncomputable def lets:Str:="abcdefghijklmnopqrstuvwxyz"
def Nj:∀j:Fin 26,lets.cps.toList[j.val]?=some (97+j.val):=by decide
def JS (h0:0<=i) (h:i<26):Dd lets.cps.toList i=some (97+i.toNat):=by
 obtain⟨j,rfl⟩:=yK h0;exact bx (Nj ⟨j,nofun⟩)
def Ot:∀j:Fin 36,(lets ++"0123456789").cps.toList[j.val]?=some (sgn.getD j.val 0)/\sgn.getD j.val 0∈sgn:=by decide
def Qy (h0:0<=i) (h:i<36):∃c,c∈sgn/\Dd (lets ++"0123456789").cps.toList i=some c:=by
 obtain⟨j,rfl⟩:=yK h0;have:=Ot ⟨j,nofun⟩;exact⟨_,this.2,bx this.1⟩
noncomputable def Ou (i:Int):Nat:=(Dd (lets ++"0123456789").cps.toList i).getD 0
def Mt (h0:0<=i) (h:i<36):Dd (lets ++"0123456789").cps.toList i=some (Ou i)/\Ou i∈sgn:=by
 obtain⟨c,h1,h2⟩:=Qy h0 h;unfold Ou;rw[h2];exact⟨rfl,h1⟩
def JT:∀j:Fin 26,97+j.val∈sgn:=by decide
def Nk {i:Int} (h0:0<=i) (h:i<26):97+i.toNat∈sgn:=JT ⟨i.toNat,nofun⟩
def PN (h1:1<=n.length) (h2:n.length<=12) (h3:∀c∈n.cps.toList,c∈sgn):gm n:=by
 unfold gm cL;rw[if_neg nofun,if_neg nofun,if_pos (yo.mpr fun c hc=>ze (h3 c hc))]
def Bh (ns:List Str):Prop:=(∀n∈ns,gm n)/\ns.Nodup
theorem uI:∀{l:List α},l.Nodup->(∀x∈l,∀y∈l,f x=f y->x=y)->(l.map f).Nodup
 | [],_,_=>List.nodup_nil
 | x::r,h,k=>by
  rw[yc] at h;rw[zh,yc];refine⟨fun z=>?_,uI h.2 fun a ha b hb e=>k a (zm _ ha) b (zm _ hb) e⟩;obtain⟨y,hy,e⟩:=zG.mp z;have:=k y (zm _ hy) x zp e;subst this;exact h.1 hy
def KQ (hm:m<=12) (hc:c∈sgn):Bh ((List.range m).map fun k=>qK ⟨#[c]⟩ (m-k)):=by
 have el:∀k,(qK ⟨#[c]⟩ k).length=k:=fun k=>by rw[FX];exact Nat.mul_one k
 refine⟨fun n hn=>?_,uI List.nodup_range fun x hx y hy e=>?_⟩
 ·obtain⟨k,hk,rfl⟩:=zG.mp hn
  have:=List.mem_range.mp hk;refine PN (by rw[el];omega) (by rw[el];omega) fun d hd=>?_;rw[sD] at hd;obtain⟨l,hl,hd⟩:=List.mem_flatten.mp hd;rw[List.mem_replicate] at hl;rw[hl.2] at hd;have:d=c:=by simpa using hd
  rw[this];exact hc
 ·have:=congrArg Str.length e
  rw[el,el] at this;have:=List.mem_range.mp hx;have:=List.mem_range.mp hy;omega
def Iu {stem:Str} {pl first m:Nat} (hs:stem.length<=11) (hp:pl<=stem.length) (hc:∀c∈stem.cps.toList,c∈sgn) (hm:m<=26) :
  Bh ((List.range m).map fun k=>Txt.slice stem none (some (pl:Int))++⟨#[97+(first+5*k)%26]⟩++Txt.slice stem (some (pl:Int)) none):=by
 have sl:stem.cps.toList.length=stem.length:=Array.length_toList;have cp:∀k,(Txt.slice stem none (some (pl:Int))++⟨#[97+(first+5*k)%26]⟩++Txt.slice stem (some (pl:Int)) none).cps.toList=stem.cps.toList.take pl++[97+(first+5*k)%26]++stem.cps.toList.drop pl:=fun k=>by
  rw[cJ,cJ,FK stem hp,qD stem hp]
 refine⟨fun n hn=>?_,uI List.nodup_range fun x hx y hy e=>?_⟩
 ·obtain⟨k,hk,rfl⟩:=zG.mp hn
  have el:(Txt.slice stem none (some (pl:Int))++⟨#[97+(first+5*k)%26]⟩++Txt.slice stem (some (pl:Int)) none).length=stem.length+1:=by
   rw[<-show _=(Txt.slice stem none (some (pl:Int))++⟨#[97+(first+5*k)%26]⟩++Txt.slice stem (some (pl:Int)) none).length from Array.length_toList,cp,zg,zg,zP,List.length_drop,List.length_singleton];omega
  refine PN nofun nofun fun d hd=>?_;rw[cp,zF,zF,zy] at hd;rcases hd with(hd | hd) | hd
  ·exact hc d (List.mem_of_mem_take hd)
  ·rw[hd];exact JT ⟨(first+5*k)%26,Nat.mod_lt _ ∅⟩
  ·exact hc d (List.mem_of_mem_drop hd)
 ·have q:(Txt.slice stem none (some (pl:Int))++⟨#[97+(first+5*x)%26]⟩++Txt.slice stem (some (pl:Int)) none).cps.toList=(Txt.slice stem none (some (pl:Int))++⟨#[97+(first+5*y)%26]⟩++Txt.slice stem (some (pl:Int)) none).cps.toList:=by rw[e]
  rw[cp,cp,zE,zE] at q;have q2:=List.append_cancel_left q;simp at q2;have:=List.mem_range.mp hx;have:=List.mem_range.mp hy;omega
theorem tf:∀zs:List Str,(Str.join "" zs).cps.toList=(zs.map fun z:Str=>z.cps.toList).flatten
 | []=>rfl
 | [z]=>by rw[join_one];simp
 | z::y::r=>by
  rw[fe,cJ,cJ,tf (y::r)];show z.cps.toList++[]++_=_;rw[zU];rfl
noncomputable def nM (c:Int) (n:Nat):List Str:=(List.range n).map fun k=>⟨#[Ou ((c/16224+7*(0+(k:Nat)))%36)]⟩
theorem GI (f:α->β):∀l:List α,((l.map f).map fun x=>[x]).flatten=l.map f
 | []=>rfl
 | x::r=>by rw[zh,zh,z9,GI f r];rfl
def FA (c:Int) (n:Nat):(Str.join "" (nM c n)).cps.toList=(List.range n).map fun k:Nat=>Ou ((c/16224+7*(0+(k:Nat)))%36):=by
 rw[tf];unfold nM;rw[zA];have:=GI (fun k:Nat=>Ou ((c/16224+7*(0+(k:Nat)))%36)) (List.range n);rw[zA] at this;exact this
def Mp (c:Int) (n:Nat):(Str.join "" (nM c n)).length=n:=by
 rw[<-show _=(Str.join "" (nM c n)).length from Array.length_toList,FA,za,zQ]
def Mo:∀d∈(Str.join "" (nM c n)).cps.toList,d∈sgn:=fun d hd=>by
 rw[FA] at hd;obtain⟨k,_,rfl⟩:=zG.mp hd;exact(Mt (zv _ ∅) (zr _ ∅)).2
def Mn (c:Int) (n:Nat):((nM c n).map (fun z:Str=>z.length+("": Str).length)).sum=n:=by
 unfold nM;rw[zA];have:((fun z:Str=>z.length+("": Str).length)∘fun k:Nat=>(⟨#[Ou ((c/16224+7*(0+(k:Nat)))%36)]⟩:Str))=fun _=>1:=rfl;rw[this,List.map_const',List.sum_replicate_nat,zQ,Nat.mul_one]
end Sc
namespace Sc
open PySem L2 Lm
def bX (n:H D=none) (s:au H H2):au H (L2.upd H2 D u):=fun b v hb=>by
 rw[aD (fun z=>by rw[z,n] at hb;cases hb)];exact s b v hb
def Fe (its:List Item) (x:Int×Int):Prop:=its.length<=40/\(∀it∈its,LK it)/\km its=x/\its.all (fun it=>it.1.isNone)=false
def LJ (x:Int×Int):Prop:=Lm.Rd x/\0<x.1/\x.1<=32/\x.2<=160
def HS (l:List Item) (it:Item):km (l++[it])=add (km l) it.2:=by unfold km;rw[zX];rfl
def Mi {x:Int×Int} (hx:0<x.2) {W:Int} (hW:0<W) {l:List Item} {t w:Int} {it:Item} (h:km l=red (x.1*t) (x.2*W)) (e:it.2=red (x.1*w) (x.2*W)):km (l++[it])=red (x.1*(t+w)) (x.2*W):=by
 have hb:0<x.2*W:=Int.mul_pos hx hW;rw[HS,h,e,Ph hb hb,<-sE hb hb (t:=x.1*(t+w))]
 congr 1
 rw[<-Int.add_mul,<-Int.mul_add,Int.mul_comm]
def Mj {x:Int×Int} (hx:0<x.2) {W:Int} (hW:0<W):km []=red (x.1*0) (x.2*W):=by
 have hb:0<x.2*W:=Int.mul_pos hx hW;show((0,1):Int×Int)=_;rw[Int.mul_zero];have:=sE (t:=0) (b:=1) (k:=x.2*W) hb ∅;rw[Int.mul_zero,Int.mul_one] at this;rw[this];decide
def Ks (hx:Lm.Rd x) (hW:0<W):red (x.1*W) (x.2*W)=x:=by
 obtain⟨_,p2,p3⟩:=hx.pos;rw[Int.mul_comm x.1,Int.mul_comm x.2,sE hW p2,p3]
def Nh (h:LJ x) (w1:1<=w) (w2:w<=4) (W1:1<=W) (W2:W<=24):Oc (red (x.1*w) (x.2*W)):=by
 obtain⟨hr,h1,h2,h3⟩:=h;obtain⟨_,p2,_⟩:=hr.pos;have a1:0<x.1*w:=Int.mul_pos h1 nofun;have a2:x.1*w<=32*4:=Int.mul_le_mul h2 w2 nofun ∅;have b1:0<x.2*W:=Int.mul_pos p2 nofun;have b2:x.2*W<=160*24:=Int.mul_le_mul h3 W2 nofun ∅;obtain⟨g,g1,g2,g3,g4,g5⟩:=lP (t:=x.1*w) b1;have r1:=yX (t:=x.1*w) (b:=x.2*W) (Int.le_of_lt a1);refine⟨Lm.Rd.of (Int.le_of_lt a1) b1,?_,nofun,nofun⟩;have r0:=yW (t:=x.1*w) (b:=x.2*W) (Int.le_of_lt a1);rcases Int.lt_or_eq_of_le r0 with z | z
 ·exact z
 ·rw[<-z,Int.mul_zero] at g2;omega
noncomputable def tV (m:Int) (n:Nat):List Int:=(List.range n).map fun j=>1+m/(7+5*(0+(j:Nat)))%4
def Oe (m:Int) (n:Nat):(tV m n).length=n:=by unfold tV;rw[za,zQ]
def HJ (h:w∈tV m n):1<=w/\w<=4:=by
 unfold tV at h;obtain⟨j,_,rfl⟩:=zG.mp h;have a:=zv (m/(7+5*(0+(j:Int)))) (b:=4) ∅;have b:=zr (m/(7+5*(0+(j:Int)))) (b:=4) ∅;omega
theorem Ml:∀{l:List Int},(∀w∈l,1<=w/\w<=4)->(l.length:Int)<=l.sum/\l.sum<=4*l.length
 | [],_=>by simp
 | w::r,h=>by
  have ih:=Ml (l:=r) fun z hz=>h z (zm _ hz);have:=h w zp;rw[List.sum_cons,zt];omega
def KJ (m:Int):N3 (m%41-20,7*(m%41-20)%12+(m/41%14-7)*12):=by
 have a:=zv m (b:=41) ∅;have b:=zr m (b:=41) ∅;have c:=zv (m/41) (b:=14) ∅;have d:=zr (m/41) (b:=14) ∅;unfold N3;dsimp only;omega
def join {c:Bool} {t1 t2:TS} {D:Ends} {σ:St} {H:Hp} (P:St->Hp->Prop) (ha:∀N:St->Hp->Prop,(∀σ H,P σ H->N σ H)->c=true->t1 {D with nx:=N} σ H)
  (hb:∀N:St->Hp->Prop,(∀σ H,P σ H->N σ H)->c=false->t2 {D with nx:=N} σ H) (hN:∀σ H,P σ H->D.nx σ H):if c=true then t1 D σ H else t2 D σ H:=by
 cases c with
 | true=>rw[if_pos rfl];exact ha D.nx hN rfl
 | false=>rw[if_neg (by simp)];exact hb D.nx hN rfl
def RL (R:α->V->Prop):List α->List V->Prop
 | [],vs=>vs=[]
 | x::xs,vs=>∃v r,vs=v::r/\R x v/\RL R xs r
theorem RL.imp {α:Type} {R R':α->V->Prop} (h:∀x v,R x v->R' x v):∀{xs:List α} {vs:List V},RL R xs vs->RL R' xs vs
 | [],_,e=>e
 | _::_,_,⟨v,r,e,h1,h2⟩=>⟨v,r,e,h _ _ h1,RL.imp h h2⟩
theorem RL.snoc {α:Type} {R:α->V->Prop} {x:α} {v:V} (h:R x v):∀{xs:List α} {vs:List V},RL R xs vs->RL R (xs++[x]) (vs++[v])
 | [],_,e=>by unfold RL at e;subst e;exact⟨v,[],rfl,h,rfl⟩
 | _::_,_,⟨u,r,e,h1,h2⟩=>by subst e;exact⟨u,r++[v],rfl,h1,RL.snoc h h2⟩
theorem RL.len:∀{xs:List α} {vs:List V},RL R xs vs->vs.length=xs.length
 | [],_,e=>by unfold RL at e;rw[e];rfl
 | _::_,_,⟨u,r,e,_,h2⟩=>by rw[e,zt,zt,RL.len h2]
theorem RL.at:∀{xs:List α} {vs:List V} {i:Nat} {v:V},RL R xs vs->vs[i]?=some v->∃x,xs[i]?=some x/\R x v
 | [],_,_,_,e,h=>by unfold RL at e;subst e;simp at h
 | x::_,_,0,_,⟨u,r,e,h1,_⟩,h=>by subst e;simp at h;subst h;exact⟨x,rfl,h1⟩
 | _::_,_,i+1,_,⟨u,r,e,_,h2⟩,h=>by subst e;simpa using RL.at (i:=i) h2 (by simpa using h)
def jN (D:Addr) (H:Hp) (x:Str×List (Int×Str)) (v:V):Prop:=∃a r us,v=.ref a/\H a=some (.tup [.str x.1,.ref r])/\H r=some (.lst us)/\ay H (x.2.map J5) us/\r≠D
theorem jN.mono (s:au H H') (h:jN D H x v):jN D H' x v:=by
 obtain⟨a,r,us,h1,h2,h3,h4,h5⟩:=h;exact⟨a,r,us,h1,s _ _ h2,s _ _ h3,h4.mono s,h5⟩
theorem jN.upd (hD:H D=some (.lst vs)) (h:jN D H x v):jN D (L2.upd H D o) x v:=by
 obtain⟨a,r,us,h1,h2,h3,h4,h5⟩:=h;have nt:cT (H D):=by rw[hD];exact fun _ z=>by cases z
 exact⟨a,r,us,h1,by rw[aD (Sc.aZ h2 hD (by simp[kindOf]))];exact h2,by rw[aD h5];exact h3,ay.upd nt h4,h5⟩
def iF (D:Addr) (H:Hp) (x:(Int×Str)×List Item) (v:V):Prop:=∃a q us,v=.ref a/\H a=some (.tup [.int x.1.1,.str x.1.2,.ref q])/\H q=some (.lst us)/\ay H (x.2.map eZ) us/\q≠D
theorem iF.mono (s:au H H') (h:iF D H x v):iF D H' x v:=by
 obtain⟨a,r,us,h1,h2,h3,h4,h5⟩:=h;exact⟨a,r,us,h1,s _ _ h2,s _ _ h3,h4.mono s,h5⟩
theorem iF.upd (hD:H D=some (.lst vs)) (h:iF D H x v):iF D (L2.upd H D o) x v:=by
 obtain⟨a,r,us,h1,h2,h3,h4,h5⟩:=h;have nt:cT (H D):=by rw[hD];exact fun _ z=>by cases z
 exact⟨a,r,us,h1,by rw[aD (Sc.aZ h2 hD (by simp[kindOf]))];exact h2,by rw[aD h5];exact h3,ay.upd nt h4,h5⟩
def Kc (ins:List Str) (many:Int) (row:List (Int×Str)):Prop:=row≠[]/\row.length<=4/\(row.map (·.1)).Pairwise (·<·)/\∀h∈row,0<=h.1/\h.1<many/\h.2∈ins
noncomputable def eU (S:cD):List Told:=
 S.players.map .bD++(S.ak.map fun x=>.cM x.1 x.2.1 x.2.2)++(S.aI.map fun x=>.cw x.1 x.2)++S.aM.map .bar++S.aF.toList.map .aF ++
 (S.holds.map fun x=>x.2.map fun h=>Told.holds x.1 h.1 h.2).flatten++(S.aE.map fun x=>.aE x.1.1 x.1.2 x.2)++(S.repeats.map .rep++S.cj.toList.map .cj)
structure tU (H:Hp) (p:Addr) (S:cD):Prop where
 at':∃pl il sl bl hl nl rl:Addr,∃ub jm:V,∃iv sv bv hv nv rv:List V,H p=some (.tup [.ref pl,.ref il,.ref sl,.ref bl,ub,.ref hl,.ref nl,.ref rl,jm])/\H pl=some (.lst (S.players.map V.str))/\
  (H il=some (.lst iv)/\ay H (S.ak.map eL) iv)/\(H sl=some (.lst sv)/\ay H (S.aI.map gF) sv)/\(H bl=some (.lst bv)/\ay H (S.aM.map lB) bv)/\Is H (dO dL S.aF) ub/\
  (H hl=some (.lst hv)/\RL (jN hl H) S.holds hv)/\(H nl=some (.lst nv)/\RL (iF nl H) S.aE nv)/\(H rl=some (.lst rv)/\ay H (S.repeats.map jO) rv)/\Is H (dO jG S.cj) jm
theorem tU.mono (s:au H H') (h:tU H p S):tU H' p S:=by
 obtain⟨pl,il,sl,bl,hl,nl,rl,ub,jm,iv,sv,bv,hv,nv,rv,h1,h2,h3,h4,h5,h6,h7,h8,h9,ha⟩:=h.at';exact⟨⟨pl,il,sl,bl,hl,nl,rl,ub,jm,iv,sv,bv,hv,nv,rv,s _ _ h1,s _ _ h2,⟨s _ _ h3.1,h3.2.mono s⟩,⟨s _ _ h4.1,h4.2.mono s⟩,⟨s _ _ h5.1,h5.2.mono s⟩,h6.mono s,⟨s _ _ h7.1,h7.2.imp fun x v z=>z.mono s⟩,⟨s _ _ h8.1,h8.2.imp fun x v z=>z.mono s⟩,⟨s _ _ h9.1,h9.2.mono s⟩,ha.mono s⟩⟩
def bq (h1:-10000<n) (h2:n<10000):(dec n).length<=5:=by
 by_cases h:0<=n
 ·have:=GW h h2;omega
 ·rw[xu nofun,len_app]
  have:=GW (n:=-n) nofun nofun;have:("-": Str).length=1:=rfl;omega
def bK (h1:-10000<n) (h2:n<10000):n.natAbs.log2<1920:=by
 by_cases z:n.natAbs=0
 ·rw[z];decide
 ·exact yb ((Nat.log2_lt z).mpr (show n.natAbs<2^14 by omega)) ∅
def lg (h1:-10000<x.1) (h2:x.1<10000) (h3:-10000<x.2) (h4:x.2<10000):(iU x).length<=11:=by
 unfold iU;have a:=bq h1 h2;have b:=bq h3 h4;split
 ·omega
 ·rw[len_app,len_app]
  have:("/": Str).length=1:=rfl;omega
def K1 (h:LK it):(qX it).length<=30:=by
 obtain⟨o,x⟩:=it;obtain⟨⟨hr,h1,h2,h3⟩,hq⟩:=h;obtain⟨_,p2,_⟩:=hr.pos;dsimp only at h1 h2 h3 p2 hq;have lx:=lg (x:=x) nofun h2 nofun h3;cases o with
 | none=>
  show("r:" ++ iU x).length<=30;rw[len_app];have:("r:": Str).length=2:=rfl;omega
 | some q=>
  obtain⟨q1,q2,q3,q4,_⟩:=hq q rfl;have a:=bq (n:=q.1) nofun nofun;have b:=bq (n:=q.2) nofun nofun;show(dec q.1 ++":" ++ dec q.2 ++":" ++ iU x).length<=30;rw[len_app,len_app,len_app,len_app];have:(":": Str).length=1:=rfl;omega
theorem qy {sep:Str} {k:Nat}:∀{zs:List Str},(∀z∈zs,z.length<=k)->(zs.map (fun z:Str=>z.length+sep.length)).sum<=zs.length*(k+sep.length)
 | [],_=>by simp
 | z::r,h=>by
  have ih:=qy (sep:=sep) (zs:=r) fun y hy=>h y (zm _ hy);have:=h z zp;rw[zh,List.sum_cons,zt,Nat.succ_mul];omega
theorem join_le (sep:Str):∀zs:List Str,(Str.join sep zs).length<=(zs.map (fun z:Str=>z.length+sep.length)).sum
 | []=>zk _
 | [z]=>by rw[join_one];simp
 | z::y::r=>by
  have ih:=join_le sep (y::r);rw[fe,len_app,len_app,zh,List.sum_cons];omega
def Ao (h:∀z∈zs,z.length<=k):(Str.join sep zs).length<=zs.length*(k+sep.length):=zL (join_le sep zs) (qy h)
def LH (r:Rep):Prop:=P0 (.rep r)/\r.ends.length<=9/\∀e∈r.ends,e.2.length<=9
def GO (h:Uu e) (hl:e.2.length<=9):(pM e).length<=60:=by
 obtain⟨h1,h2,h3,h4⟩:=h;have a:=bq (n:=e.1) nofun nofun;have b:(Str.join "," (e.2.map dec)).length<=(e.2.map dec).length*(5+(",": Str).length):=Ao fun z hz=>by
  obtain⟨p,hp,rfl⟩:=zG.mp hz;have:=h4 p hp;exact bq nofun nofun
 have l1:(":": Str).length=1:=rfl;have l2:(",": Str).length=1:=rfl;rw[za,l2] at b;unfold pM;rw[len_app,len_app];omega
def JI (h1:ns.Perm l) (h2:ns.Pairwise (·<=·)):sortI l=ns:=by
 unfold sortI;refine(List.Perm.eq_of_pairwise (le:=fun a b:Int=>a<=b) (fun a b _ _ x y=>Int.le_antisymm x y) h2 ?_ (h1.trans (List.mergeSort_perm _ _).symm)).symm;have:=List.pairwise_mergeSort (le:=fun a b:Int=>decide (a<=b)) (fun a b c x y=>by simp at x y ⊢;omega) (fun a b=>by simp;omega) l;exact this.imp fun h=>yd h
theorem Az:∀{es:List End} {a:Int} {ps:List Int},(es.map (·.1)).Pairwise (·<·)->(∀e∈es,a<e.1)->(∀e∈es,e.2.Pairwise (·<=·))->gc es a ps=some (((es.map (·.1)).getLast?).getD a,ps++(es.map (·.2)).flatten)
 | [],a,ps,_,_,_=>by simp[gc]
 | e::r,a,ps,h1,h2,h3=>by
  rw[zh,List.pairwise_cons] at h1;have ih:=Az (es:=r) (a:=e.1) (ps:=ps++e.2) h1.2 (fun x hx=>h1.1 _ (zO (f:=fun y:End=>y.1) hx)) (fun x hx=>h3 x (zm _ hx));show(if e.1<=a then none else if e.2≠sortI e.2 then none else gc r e.1 (ps++e.2))=_;have c1:=h2 e zp;rw[if_neg nofun,if_neg (fun z=>z (JI (List.Perm.refl _) (h3 e zp)).symm),ih,zh,zh,z9,zE]
  congr 2
  cases r with
  | nil=>rfl
  | cons x t=>rw[zh,List.getLast?_cons_cons,List.getLast?_cons];rfl
theorem GH:∀{n:Nat},k<n->((List.range n).map fun i=>if i=k then g i++[x] else g i).flatten.Perm (((List.range n).map g).flatten++[x])
 | 0,h=>nofun
 | n+1,h=>by
  rw[List.range_succ,zj,zj,List.flatten_append,List.flatten_append];simp only[zh,ym,z9,List.flatten_nil,zU]
  by_cases e:n=k
  ·rw[if_pos e,<-zE]
   have:((List.range n).map fun i=>if i=k then g i++[x] else g i)=(List.range n).map g:=List.map_congr_left fun i hi=>by
    have:=List.mem_range.mp hi;rw[if_neg nofun]
   rw[this]
  ·rw[if_neg e]
   have ih:=GH (g:=g) (x:=x) (k:=k) (n:=n) nofun;refine(ih.append_right _).trans ?_;rw[zE,zE];exact List.Perm.append_left _ (List.perm_append_comm)
noncomputable def cO (sp:Nat->Nat):Nat->Nat->List Int
 | 0,_=>[]
 | k+1,i=>if i=sp k then cO sp k i++[(k:Int)+1] else cO sp k i
theorem sO:∀{k:Nat},p∈cO sp k i->∃j,j<k/\p=(j:Int)+1/\i=sp j
 | 0,h=>by cases h
 | k+1,h=>by
  unfold cO at h;split at h
  ·rename_i e
   rcases zF.mp h with h | h
   ·obtain⟨j,h1,h2⟩:=sO h
    exact⟨j,nofun,h2⟩
   ·exact⟨k,nofun,by simpa using h,e⟩
  ·obtain⟨j,h1,h2⟩:=sO h
   exact⟨j,nofun,h2⟩
theorem y9:∀{k:Nat},(cO sp k i).Pairwise (·<=·)
 | 0=>List.Pairwise.nil
 | k+1=>by
  unfold cO;split
  ·rw[zT]
   refine⟨y9,by simp,fun a ha b hb=>?_⟩;obtain⟨j,h1,h2,_⟩:=sO ha;have:b=(k:Int)+1:=by simpa using hb
   omega
  ·exact y9
theorem Ga (e:i=sp j):∀{k:Nat},j<k->((j:Int)+1)∈cO sp k i
 | 0,h=>nofun
 | k+1,h=>by
  unfold cO
  by_cases c:j=k
  ·subst c
   rw[if_pos e];exact zH _ (zy.mpr rfl)
  ·have ih:=Ga e (k:=k) nofun
   split
   ·exact zI _ ih
   ·exact ih
theorem y8:∀{k:Nat},(cO sp k i).length<=k
 | 0=>zk _
 | k+1=>by
  have ih:=y8 (sp:=sp) (i:=i) (k:=k);unfold cO;split
  ·rw[zg];simp;omega
  ·omega
theorem CJ:∀{k:Nat},(∀j,j<k->sp j<n)->((List.range n).map (cO sp k)).flatten.Perm (KC 1 k)
 | 0,_=>by
  have:((List.range n).map (cO sp 0)).flatten=[]:=by
   rw[List.flatten_eq_nil_iff];intro l hl;obtain⟨i,_,rfl⟩:=zG.mp hl;rfl
  rw[this];exact List.Perm.refl _
 | k+1,h=>by
  have ih:=CJ (sp:=sp) (n:=n) (k:=k) fun j hj=>h j nofun;have e:(List.range n).map (cO sp (k+1))=(List.range n).map fun i=>if i=sp k then cO sp k i++[(k:Int)+1] else cO sp k i:=List.map_congr_left fun i _=>by rw[cO]
  rw[e];refine(GH (h k nofun)).trans ?_;unfold KC at ih ⊢;rw[List.range_succ,zj];refine(ih.append_right _).trans ?_;rw[List.map_singleton,Int.add_comm]
def Oz (k:Nat):(KC 1 k).Pairwise (·<=·):=by
 unfold KC;rw[List.pairwise_map];exact(List.pairwise_lt_range).imp fun h=>nofun
noncomputable def tG (bs:List Int) (sp:Nat->Nat) (t:Nat):List End:=bs.zip ((List.range bs.length).map (cO sp t))
theorem Fm:∀{a:List α} {b:List β},a.length=b.length->(a.zip b).map (·.1)=a
 | [],[],_=>rfl
 | x::xs,y::ys,h=>by rw[List.zip_cons_cons,zh,Fm (by simpa using h)]
 | [],_::_,h=>by simp at h
 | _::_,[],h=>by simp at h
theorem Fl:∀{a:List α} {b:List β},a.length=b.length->(a.zip b).map (·.2)=b
 | [],[],_=>rfl
 | x::xs,y::ys,h=>by rw[List.zip_cons_cons,zh,Fl (by simpa using h)]
 | [],_::_,h=>by simp at h
 | _::_,[],h=>by simp at h
def ly:(tG bs sp t).map (·.1)=bs:=Fm (by simp)
def uN:(tG bs sp t).map (·.2)=(List.range bs.length).map (cO sp t):=Fl (by simp)
def Lb:(tG bs sp t).length=bs.length:=by
 have:=congrArg List.length (ly (bs:=bs) (sp:=sp) (t:=t))
 rwa [za] at this
def uO (h:e∈tG bs sp t):e.1∈bs/\∃i,i<bs.length/\e.2=cO sp t i:=by
 have h1:=zO (f:=fun x:End=>x.1) h;have h2:=zO (f:=fun x:End=>x.2) h;rw[ly] at h1;rw[uN] at h2;obtain⟨i,hi,e2⟩:=zG.mp h2;exact⟨h1,i,List.mem_range.mp hi,e2.symm⟩
def Kf (first last times:Int) (es:List End):Prop:=gd ⟨first,last,times,es⟩=true/\es.length<=9/\(∀e∈es,first<=e.1/\e.1<=last/\e.2≠[]/\e.2.length<=9/\∀p∈e.2,0<=p/\p<1000)/\((es.map (·.2)).flatten).length<=9/\(es.map (·.1)).Pairwise (·<·)
def K9:Kf first last times []:=⟨rfl,∅,by simp,by simp,by simp⟩
def IP (t9:t<=9) (ne:bs≠[]) (asc:bs.Pairwise (·<·)) (hin:∀b∈bs,first<=b/\b<=last) (hsp:∀j,j<t->sp j<bs.length) (hon:∀i,i<bs.length->∃j,j<t/\sp j=i) (bt:bs.length<=t):Kf first last t (tG bs sp t):=by
 have pm:=CJ (k:=t) hsp;have pl:((List.range bs.length).map (cO sp t)).flatten.length=t:=by rw[pm.length_eq];unfold KC;simp
 refine⟨?_,by rw[Lb];omega,fun e he=>?_,by rw[uN,pl];exact t9,by rw[ly];exact asc⟩
 ·have e1:=Az (es:=tG bs sp t) (a:=first-1) (ps:=[]) (by rw[ly];exact asc) (fun e he=>by have:=hin _ (uO he).1;omega) (fun e he=>by obtain⟨_,i,_,e2⟩:=uO he;rw[e2];exact y9)
  have e2:sortI (([]:List Int)++((tG bs sp t).map (·.2)).flatten)=KC 1 t:=by rw[List.nil_append,uN];exact JI pm.symm (Oz t)
  unfold gd;dsimp only;cases q:tG bs sp t with
  | nil=>rfl
  | cons x r=>
   rw[q] at e1 e2;dsimp only;rw[e1];dsimp only;rw[e2,show((t:Int)+1-1).toNat=t by omega,ze rfl,Bool.and_true,decide_eq_true_eq,<-q,ly];cases q2:bs.getLast? with
   | none=>exact absurd (List.getLast?_eq_none_iff.mp q2) ne
   | some b=>exact(hin b (List.mem_of_getLast? q2)).2
 ·obtain⟨hb,i,hi,e2⟩:=uO he
  obtain⟨j,hj,ej⟩:=hon i hi;refine⟨(hin _ hb).1,(hin _ hb).2,?_,?_,fun p hp=>?_⟩
  ·rw[e2];exact List.ne_nil_of_mem (Ga ej.symm hj)
  ·rw[e2];have:=y8 (sp:=sp) (i:=i) (k:=t);omega
  ·rw[e2] at hp
   obtain⟨j,h1,h2,_⟩:=sO hp;omega
def Om {n c:Nat} {i:Nat} (hi:i<n):∃j,j<n/\(j+c)%n=i:=by
 refine⟨(i+(n-c%n))%n,Nat.mod_lt _ nofun,?_⟩;have hc:c%n<n:=Nat.mod_lt _ nofun;rw[Nat.add_mod,Nat.mod_mod,<-Nat.add_mod];have e:i+(n-c%n)+c=i+n+n*(c/n):=by
  have:=Nat.div_add_mod c n;omega
 rw[e,Nat.add_mul_mod_self_left,Nat.add_mod_right,Nat.mod_eq_of_lt hi]
def Cr (Pv:Nat->St->Hp->Prop) (Pe:St->Hp->Prop) (h0:∃m,Pv m σ H)
  (turn:∀m σ H,Pv m σ H->∀N:St->Hp->Prop,(∀σ H,Pe σ H->N σ H)->c σ H fun b H1=>if b=true then∃N':St->Hp->Prop,(∀σ' H',N' σ' H'->∃m',m'<m/\Pv m' σ' H')/\tb {D with nx:=N',ct:=N',bk:=N} σ H1 else N σ H1)
  (hd:∀σ H,Pe σ H->D.nx σ H):Md c tb D σ H:=⟨Pv,h0,fun m σ H p=>turn m σ H p D.nx hd⟩
def JQ {c:Bool} {T:(Bool->Hp->Prop)->Prop} {Z:Bool->Hp->Prop} {H:Hp} (v:Bool) (h1:c=false->∀Z,Z v H->T Z) (h2:c=true->v=true) (hz:Z v H):if c=true then Z true H else T Z:=by
 cases c with
 | false=>rw[if_neg (by simp)];exact h1 rfl Z hz
 | true=>rw[if_pos rfl];rw[<-h2 rfl];exact hz
def Jb {K:yA} {α:Type} {t1 t2:Bool} {a b:Addr} {ws:List α} {e1 e2:α->V} {σ₀:St} {g:TG} {te:TE} {Q:VK} {H1:Hp} (F:α->Dt) (Pσ:St->Prop) (hn:ws.length<=sizeLine) (ha:Cn t1 K H1 a (ws.map e1)) (hb:Cn t2 K H1 b (ws.map e2)) (h0:Pσ σ₀)
  (turn:∀(x:α) (σ:St) (H:Hp) (p:Addr) (R:St->V->Hp->Prop),x∈ws->au H1 H->H p=some (.tup [e1 x,e2 x])->Pσ σ->(∀σ3 y H5,au H H5->Is H5 (F x) y->Pσ σ3->R σ3 y H5)->g (.ref p) σ H fun σ3 H3=>te σ3 H3 fun y H5=>R σ3 y H5)
  (fin:∀D vs H,au H1 H->H1 D=none->H D=some (.lst vs)->ay H (ws.map F) vs->Q (.ref D) H):dM σ₀ g vU te Q (Tc t1 t2 K a b) H1:=by
 refine⟨fun i m xs σ H=>m=ws.length-i/\i<=ws.length/\xs.length=i/\au H1 H/\ay H ((ws.take i).map F) xs/\Pσ σ,⟨_,rfl,yf _,rfl,au.refl _,by simp[ay],h0⟩,?_⟩;rintro i m xs σ H ⟨rfl,hi,hx,sm,il,pσ⟩;rcases Nat.lt_or_ge i ws.length with hlt | hge
 ·have g1:(ws.map e1)[i]?=some (e1 ws[i]):=by rw[zJ,zb hlt];rfl
  have g2:(ws.map e2)[i]?=some (e2 ws[i]):=by rw[zJ,zb hlt];rfl
  refine .inr ⟨⟨_,_,_,_,sm.PB ha,sm.PB hb,g1,g2⟩,nofun,?_⟩;rintro x H2 ⟨p,u,v,np,rfl,rfl,hu,hv⟩;have eu:=hu _ (sm.PB ha);have ev:=hv _ (sm.PB hb);rw[g1] at eu;rw[g2] at ev;cases eu;cases ev;have s2:au H (upd H p (.tup [e1 ws[i],e2 ws[i]])):=aR np;refine turn ws[i] σ _ p (fun σ3 y H5=>if true=true then∃m',m'<ws.length-i/\(m'=ws.length-(i+1)/\i+1<=ws.length/\(xs++[y]).length=i+1/\au H1 H5/\ay H5 ((ws.take (i+1)).map F) (xs++[y])/\Pσ σ3) else False) (yk hlt) (sm.trans s2) aA pσ ?_;rintro σ3 y H5 s5 iy p3;rw[if_pos rfl];refine⟨_,nofun,rfl,hlt,by simp[hx],(sm.trans s2).trans s5,?_,p3⟩;rw[List.take_add_one,zb hlt,zj];exact cW iy ((il.mono s2).mono s5)
 ·have e:i=ws.length:=nofun
  subst e;refine .inl ⟨⟨_,_,sm.PB ha,sm.PB hb,.inl (by rw[za];exact zk _)⟩,nofun,fun D hD=>?_⟩;have il':ay H (ws.map F) xs:=by rw[zM] at il;exact il
  exact fin D xs _ (sm.trans (aR hD)) (sm.back hD) aA (il'.mono (aR hD))
def EJ (hn:xs.length<=sizeLine) (hp:aG K H1 p xs) (h0:∃v,σ₀=[v])
  (fin:∀(D:Addr) (qs:List Addr) (H:Hp),au H1 H->H1 D=none->H D=some (.lst (qs.map V.ref))->qs.Nodup->D∉qs->qs.length=xs.length->(∀q∈qs,H1 q=none/\H q=some (.lst []))->Q (.ref D) H):dM σ₀ (bV 0) vU (Fy eK) Q (LR K p) H1:=by
 refine⟨fun i m ys σ H=>m=xs.length-i/\i<=xs.length/\ys.length=i/\(∃v,σ=[v])/\au H1 H/\∃qs:List Addr,ys=qs.map V.ref/\qs.Nodup/\∀q∈qs,H1 q=none/\H q=some (.lst []),⟨_,rfl,yf _,rfl,h0,au.refl _,[],rfl,List.nodup_nil,by simp⟩,?_⟩;rintro i m ys σ H ⟨rfl,hi,hx,⟨v,rfl⟩,sm,qs,rfl,nd,hq⟩;rw[za] at hx;rcases Nat.lt_or_ge i xs.length with hlt | hge
 ·refine .inr ⟨CY (sm.seq hp) hlt,by rw[za];omega,?_⟩
  rintro x H2 ⟨rfl,_⟩;refine⟨yf _,fun q n=>?_⟩;refine⟨_,nofun,rfl,hlt,by rw[zg,za,hx];rfl,⟨_,rfl⟩,sm.trans (aR n),qs++[q],by rw[zj];rfl,?_,fun r hr=>?_⟩
  ·rw[zR]
   refine⟨nd,by simp,fun a ha b hb e=>?_⟩;have:b=q:=by simpa using hb
   subst this;subst e;rw[(hq a ha).2] at n;cases n
  ·rcases zF.mp hr with z | z
   ·exact⟨(hq r z).1,aR n _ _ (hq r z).2⟩
   ·rw[zy.mp z]
    exact⟨sm.back n,aA⟩
 ·have e:i=xs.length:=nofun
  subst e;refine .inl ⟨⟨_,sm.seq hp,zk _⟩,by rw[za];omega,fun D hD=>?_⟩;exact fin D qs _ (sm.trans (aR hD)) (sm.back hD) aA nd (fun z=>by rw[(hq D z).2] at hD;cases hD) hx fun q z=>⟨(hq q z).1,aR hD _ _ (hq q z).2⟩
theorem uw (f:α->β) (d:α):∀l:List α,(List.range l.length).map (fun i=>f (l.getD i d))=l.map f
 | []=>rfl
 | x::r=>by
  rw[zt,List.range_succ_eq_map,zh,zA,zh]
  congr 1
  exact uw f d r
theorem Cq (F:α->β->γ) (g:Nat->β) (d:α):∀(l:List α) (k:Nat),(List.range l.length).map (fun i=>F (l.getD i d) (g (k+i)))=(l.zip ((List.range l.length).map fun i=>g (k+i))).map fun p=>F p.1 p.2
 | [],_=>rfl
 | x::r,k=>by
  rw[zt,List.range_succ_eq_map,zh,zA,zh,zA,List.zip_cons_cons,zh]
  congr 1
  have:=Cq F g d r (k+1);have e:∀i,k+1+i=k+(i+1):=fun i=>nofun
  simp only[e] at this;exact this
theorem Gr:∀{l:List α} {i j:Nat},l.Nodup->l[i]?=some x->l[j]?=some x->i=j
 | [],_,_,_,h,_=>by simp at h
 | y::r,0,0,_,_,_=>rfl
 | y::r,0,j+1,n,h,k=>by
  simp at h k;subst h;exact absurd (zB k) (yc.mp n).1
 | y::r,i+1,0,n,h,k=>by
  simp at h k;subst k;exact absurd (zB h) (yc.mp n).1
 | y::r,i+1,j+1,n,h,k=>by
  simp at h k;rw[Gr (yc.mp n).2 h k]
def La (bs:List Int) (sp:Nat->Nat) (t:Nat):(List.range bs.length).map (fun i=>nu (bs.getD i 0,cO sp t i))=(tG bs sp t).map nu:=by
 have:=Cq (fun b p=>nu (b,p)) (cO sp t) 0 bs 0;simp only[Nat.zero_add] at this;rw[this];rfl
theorem xq (n:Int):∀ns:List Int,Fi (.int n) (ns.map V.int)=decide (n∈ns)
 | []=>rfl
 | m::ns=>by
  have ih:=xq n ns;unfold Fi at ih ⊢;rw[zh,List.any_cons,ih]
  by_cases e:n=m
  ·subst e
   simp[IL]
  ·simp[IL,e,Ne.symm (a:=m) (b:=n) (fun z=>e z.symm)]
   try omega
def rg {α:Type} {J:It} {ws:List α} {enc:α->V} {σ₀:St} {g:TG} {tc:TT} {te:TE} {Q:VK} {H1:Hp} (f:α->Bool) (F:α->Dt) (Pσ:St->Prop) (hn:ws.length<=sizeLine) (h0:Pσ σ₀)
  (go:∀i H,i<ws.length->au H1 H->J.go i H) (stop:∀H,au H1 H->J.stop ws.length H) (yl:∀(i:Nat) x H H2 (hi:i<ws.length),au H1 H->J.Jz i H x H2->H2=H/\x=enc ws[i])
  (turn:∀(a:α) (σ:St) (H:Hp) (R:St->V->Hp->Prop) (N:St->Hp->Prop),a∈ws->au H1 H->Pσ σ->(f a=true->∀σ3 y H5,au H H5->Is H5 (F a) y->Pσ σ3->R σ3 y H5)->(f a=false->∀σ3 H5,au H H5->Pσ σ3->N σ3 H5)->g (enc a) σ H fun σ3 H3=>tc σ3 H3 fun b H4=>if b=true then te σ3 H4 fun y H5=>R σ3 y H5 else N σ3 H4)
  (fin:∀D vs H,au H1 H->H1 D=none->H D=some (.lst vs)->ay H ((ws.filter f).map F) vs->Q (.ref D) H):dM σ₀ g tc te Q J H1:=by
 refine⟨fun i m xs σ H=>m=ws.length-i/\i<=ws.length/\xs.length<=i/\au H1 H/\ay H (((ws.take i).filter f).map F) xs/\Pσ σ,⟨_,rfl,yf _,zk _,au.refl _,by simp[ay],h0⟩,?_⟩;rintro i m xs σ H ⟨rfl,hi,hx,sm,il,pσ⟩;rcases Nat.lt_or_ge i ws.length with hlt | hge
 ·refine .inr ⟨go i H hlt sm,nofun,?_⟩
  intro x H2 hy;obtain⟨rfl,rfl⟩:=yl i x H H2 hlt sm hy;have tk:ws.take (i+1)=ws.take i++[ws[i]]:=by rw[List.take_add_one,zb hlt];rfl
  refine turn ws[i] σ H2 _ _ (yk hlt) sm pσ ?_ ?_
  ·intro ff σ3 y H5 s5 iy p3
   refine⟨_,nofun,rfl,hlt,by rw[zg];show xs.length+1<=i+1;omega,sm.trans s5,?_,p3⟩;rw[tk,List.filter_append,zj];have:[ws[i]].filter f=[ws[i]]:=by simp[ff]
   rw[this];exact cW iy (il.mono s5)
  ·intro ff σ3 H5 s5 p3
   refine⟨_,nofun,rfl,hlt,nofun,sm.trans s5,?_,p3⟩;rw[tk,List.filter_append,zj];have:[ws[i]].filter f=[]:=by simp[ff]
   rw[this,ym,zU];exact il.mono s5
 ·have e:i=ws.length:=nofun
  subst e;refine .inl ⟨stop H sm,nofun,fun D hD=>?_⟩;have il':ay H ((ws.filter f).map F) xs:=by rw[zM] at il;exact il
  exact fin D xs _ (sm.trans (aR hD)) (sm.back hD) aA (il'.mono (aR hD))
noncomputable def m6 (f:Int->Bool) (lo:Int) (n:Nat):List Int:=((List.range n).map fun i=>lo+(i:Nat)).filter f
def pw (h:x∈m6 f lo n):lo<=x/\x<lo+n/\f x=true:=by
 unfold m6 at h;rw[List.mem_filter] at h;obtain⟨i,hi,rfl⟩:=zG.mp h.1;have:=List.mem_range.mp hi;exact⟨nofun,nofun,h.2⟩
def K8:(m6 f lo n).length<=n:=by
 unfold m6;refine zL (List.length_filter_le _ _) ?_;simp
def GL {f:Int->Bool} {lo x:Int} {n:Nat} (h1:lo<=x) (h2:x<lo+n) (h3:f x=true):x∈m6 f lo n:=by
 unfold m6;rw[List.mem_filter];exact⟨zG.mpr ⟨(x-lo).toNat,List.mem_range.mpr nofun,nofun⟩,h3⟩
def jH {lo:Int} {n:Nat} {σ₀ rest:St} {tc:TT} {Q:VK} {H1:Hp} (f:Int->Bool) (hn:n<=sizeLine) (h0:∃v,σ₀=v::rest)
  (turn:∀(i:Int) (H:Hp) (R:Bool->Hp->Prop),lo<=i->i<lo+n->au H1 H->(∀H',au H H'->R (f i) H')->tc (some (.int i)::rest) H R)
  (fin:∀D H,au H1 H->H1 D=none->H D=some (.lst ((m6 f lo n).map V.int))->Q (.ref D) H):dM σ₀ (bV 0) tc (aX 0) Q (N4 lo n) H1:=by
 refine rg (ws:=(List.range n).map fun i=>lo+(i:Nat)) (enc:=V.int) f Dt.int (fun σ=>∃v,σ=v::rest) (by simp;exact hn) h0 (fun i H hi _=>by rw[za,zQ] at hi;exact hi) (fun H _=>by rw[za,zQ];exact zk n) ?_ ?_ ?_
 ·rintro i x H H2 hi _ ⟨rfl,rfl⟩
  exact⟨rfl,by simp⟩
 ·rintro a σ H R N ha s1 ⟨v,rfl⟩ hR hN
  obtain⟨i,hi,rfl⟩:=zG.mp ha;have:=List.mem_range.mp hi;refine turn (lo+(i:Nat)) H _ nofun nofun s1 fun H' s'=>?_;cases q:f (lo+(i:Nat)) with
  | true=>exact ck rfl ⟨_,rfl,hR q _ _ _ s' cP ⟨_,rfl⟩⟩
  | false=>exact cE rfl (hN q _ _ s' ⟨_,rfl⟩)
 ·intro D vs H s1 nD hD il
  rw[fG il] at hD;exact fin D H s1 nD hD
noncomputable def kb (rs:List Rep) (b:Int):Bool:=match dS rs b with
 | none=>true
 | some r=>match (r.ends.filter fun e=>decide (e.1<=b)).getLast? with
  | none=>true
  | some e=>decide (r.times∈e.2)
noncomputable def eY (rs:List Rep) (b:Int):Bool:=rs.any fun r=>decide (r.first<b)&&decide (b<=r.last)
noncomputable def Fj (r:Rep) (b:Int):Bool:=decide (r.first<=b)&&decide (b<=r.last)
theorem Aw:∀{l:List α} {i:Nat} {x:α},l[i]?=some x->p x=true->(∀y∈l.take i,p y=false)->l.find? p=some x
 | [],_,_,h,_,_=>by simp at h
 | y::r,0,x,h,hx,_=>by simp at h;subst h;rw[List.find?_cons,hx]
 | y::r,i+1,x,h,hx,hn=>by
  rw[List.find?_cons,hn y (by rw[List.take_succ_cons];exact zp)];exact Aw (i:=i) (by simpa using h) hx fun z hz=>hn z (by rw[List.take_succ_cons];exact zm _ hz)
theorem C1:∀{es:List End},(es.map (·.1)).Pairwise (·<·)->x∈(es.zip ((es.drop 1).map (·.1)++[hi])).map (fun p=>(p.1.1,p.2-1,p.1.2))->x.1<=b->b<=x.2.1->∃e,(es.filter fun e=>decide (e.1<=b)).getLast?=some e/\e.2=x.2.2
 | [],_,h,_,_=>by simp at h
 | [e],_,h,h1,h2=>by
  simp at h;subst h;exact⟨e,by simp at h1 ⊢;exact h1,rfl⟩
 | e::e'::r,asc,h,h1,h2=>by
  rw[zh,List.pairwise_cons] at asc;rw[List.drop_one,List.tail_cons,zh,List.cons_append,List.zip_cons_cons,zh,zC] at h;rcases h with h | h
  ·subst h
   dsimp only at h1 h2;have no:(e'::r).filter (fun e=>decide (e.1<=b))=[]:=by
    rw[List.filter_eq_nil_iff];intro y hy;have hm:y.1∈(e'::r).map (·.1):=zO (f:=fun z:End=>z.1) hy;have a2:=asc.2;rw[zh,List.pairwise_cons] at a2;rw[zh,zC] at hm;rcases hm with z | z
    ·simp;omega
    ·have:=a2.1 _ z
     simp;omega
   refine⟨e,?_,rfl⟩;rw[List.filter_cons,if_pos (ze h1),no];rfl
  ·obtain⟨e2,f1,f2⟩:=C1 (es:=e'::r) asc.2 (by rw[List.drop_one,List.tail_cons];exact h) h1 h2
   refine⟨e2,?_,f2⟩;rw[List.filter_cons];split
   ·cases q:(e'::r).filter (fun e=>decide (e.1<=b)) with
    | nil=>rw[q] at f1;cases f1
    | cons y t=>rw[q] at f1;rw[List.getLast?_cons_cons];exact f1
   ·exact f1
theorem J1:∀{es:List End},(∀e∈es,lo<=e.1/\e.1<hi)->x∈(es.zip ((es.drop 1).map (·.1)++[hi])).map (fun p=>(p.1.1,p.2-1,p.1.2))->lo<=x.1/\x.2.1<hi
 | [],_,h=>by simp at h
 | [e],hx,h=>by
  simp at h;subst h;have:=hx e (by simp);exact⟨this.1,by show hi-1<hi;omega⟩
 | e::e'::r,hx,h=>by
  rw[List.drop_one,List.tail_cons,zh,List.cons_append,List.zip_cons_cons,zh,zC] at h;rcases h with h | h
  ·subst h
   have a:=hx e (by simp);have c:=hx e' (by simp);exact⟨a.1,by show e'.1-1<hi;omega⟩
  ·exact J1 (es:=e'::r) (fun y hy=>hx y (zm _ hy)) (by rw[List.drop_one,List.tail_cons];exact h)
def Apart (rs:List Rep):Prop:=(∀r∈rs,r.first<=r.last/\(r.ends.map (·.1)).Pairwise (·<·)/\∀e∈r.ends,r.first<=e.1/\e.1<=r.last)/\rs.Pairwise fun a b=>a.last<b.first
theorem uX:∀{rs:List Rep} {r r':Rep} {b:Int},(∀r∈rs,r.first<=r.last)->rs.Pairwise (fun a b=>a.last<b.first)->r∈rs->r'∈rs->r.first<=b->b<=r.last->r'.first<=b->b<=r'.last->r=r'
 | [],_,_,_,_,_,h,_,_,_,_,_=>by cases h
 | x::l,r,r',b,hf,hp,h,h',h1,h2,h3,h4=>by
  rw[List.pairwise_cons] at hp;rcases zC.mp h with e | e <;> rcases zC.mp h' with e' | e'
  ·rw[e,e']
  ·subst e
   have:=hp.1 r' e';omega
  ·subst e'
   have:=hp.1 r e;omega
  ·exact uX (fun y hy=>hf y (zm _ hy)) hp.2 e e' h1 h2 h3 h4
def qJ {rs:List Rep} {b:Int} {r:Rep} (h:dS rs b=some r):r∈rs/\r.first<=b/\b<=r.last:=by
 unfold dS at h;have h1:=List.mem_of_find?_eq_some h;have h2:=List.find?_some h;simp at h2;exact⟨h1,h2⟩
def JU {rs:List Rep} {b:Int} (ap:Apart rs) (h:kb rs b=true):lZ rs b=true:=by
 unfold lZ;rw[yo];intro r hr;rw[yo];intro x hx;obtain⟨a1,a2,a3⟩:=ap.1 r hr
 by_cases c1:x.1<=b
 ·by_cases c2:b<=x.2.1
  ·unfold jF at hx
   have ein:=J1 (lo:=r.first) (fun e he=>⟨(a3 e he).1,by have:=(a3 e he).2;omega⟩) hx;obtain⟨e,f1,f2⟩:=C1 a2 hx c1 c2;unfold kb at h;have hro:dS rs b=some r:=by
    cases q:dS rs b with
    | none=>
     unfold dS at q;have:=List.find?_eq_none.mp q r hr;simp at this;omega
    | some r'=>
     obtain⟨g1,g2,g3⟩:=qJ q;rw[uX (fun y hy=>(ap.1 y hy).1) ap.2 g1 hr g2 g3 nofun nofun]
   rw[hro] at h;dsimp only at h;rw[f1] at h;dsimp only at h;rw[f2] at h;rw[h];simp
  ·rw[zd c2];simp
 ·rw[zd c1];simp
def vM {rs:List Rep} {b:Int} (h:eY rs b=false):eF rs b=true:=by
 unfold eF;cases q:dS rs b with
 | none=>rfl
 | some r=>
  obtain⟨g1,g2,g3⟩:=qJ q;dsimp only;unfold eY at h;rw[List.any_eq_false] at h;have:=h r g1;simp at this;exact ze nofun
def Nl {rs:List Rep} {b:Int} (ap:Apart rs) (h:(∃r∈rs,r.last=b)\/(rs.any fun r=>Fj r b)=false):hJ rs b=true:=by
 unfold hJ;cases q:dS rs b with
 | none=>rfl
 | some r=>
  obtain⟨g1,g2,g3⟩:=qJ q;dsimp only;rcases h with⟨r',hr',e⟩ | h
  ·have:=uX (b:=b) (fun y hy=>(ap.1 y hy).1) ap.2 g1 hr' g2 g3 (by have:=(ap.1 r' hr').1;omega) nofun
   rw[this,e];exact ze rfl
  ·rw[List.any_eq_false] at h
   have:=h r g1;unfold Fj at this;simp at this;omega
def Pp (many:Int) (rs:List Rep) (j:Jump):Prop:=hX rs j=true/\(0<=j.xn/\j.xn<many)/\(0<=j.Bj/\j.Bj<many)/\(0<=j.dz/\j.dz<many)/\∀c,j.gH=some c->0<=c/\c<many
def Q4 {many:Int} {rs:List Rep} (ap:Apart rs) {a t u:Int} {c:Option Int} (ha:0<=a) (ha2:a<many) (hl:(∃r∈rs,r.last=a)\/(rs.any fun r=>Fj r a)=false) (ht:0<=t) (ht2:t<=a) (hti:eY rs t=false)
  (hu:t<=u) (hu2:u<=a) (hul:kb rs u=true) (hc:∀x,c=some x->a<x/\x<many/\eY rs x=false/\kb rs x=true):Pp many rs ⟨a,t,u,c⟩:=by
 refine⟨?_,⟨ha,ha2⟩,⟨ht,by show t<many;omega⟩,⟨by show 0<=u;omega,by show u<many;omega⟩,fun x hx=>?_⟩
 ·unfold hX
  dsimp only;rw[if_neg nofun,if_neg nofun,Nl ap hl,vM hti,JU ap hul];cases c with
  | none=>rfl
  | some x=>
   obtain⟨h1,h2,h3,h4⟩:=hc x rfl;dsimp only;rw[ze h1,vM h3,JU ap h4];rfl
 ·obtain⟨h1,h2,_⟩:=hc x hx
  exact⟨nofun,h2⟩
def IE (t1:0<t) (t2:t<=32) (b1:0<b) (b2:b<=160):LJ (red t b):=by
 obtain⟨g,g1,g2,g3,g4,g5⟩:=lP (t:=t) b1;have r1:=yX (t:=t) (b:=b) (Int.le_of_lt t1);have r0:=yW (t:=t) (b:=b) (Int.le_of_lt t1);refine⟨Lm.Rd.of (Int.le_of_lt t1) b1,?_,nofun,nofun⟩;rcases Int.lt_or_eq_of_le r0 with z | z
 ·exact z
 ·rw[<-z,Int.mul_zero] at g2;omega
inductive KY:List Expr->List (Int×Int)->Prop
 | n:KY [] []
 | c {a b:Int} {x y u v m k r ps} (h:KY r ps):KY (.Tuple [.Constant (.int a) x y,.Constant (.int b) u v] m k::r) ((a,b)::ps)
def QP {X:Cx} {es:List Expr} {ps:List (Int×Int)} (h:KY es ps):PA X es (Fx ps):=by
 induction h with
 | n=>exact QO
 | c _ q=>exact R8 q
def QM {X:Cx} {es:List Expr} {p1 pos:Pos} {b:Expr} {tb:TE} (ps:List (Int×Int)) (hb:PE X b tb) (hs:tT b) (h:KY es ps<|>qh_) (hl:ps.length<=1000<|>qb_):PE X (.Subscript (.List es p1) b pos) (fH (OF X.K) (SW ps) tb):=y6 JV (QK (QP h) hl) hb hs
@[irreducible] def P2 (X:Cx) (s:Stmt) (t:TS):Prop:=PS X s t
@[irreducible] def S9 (X:Cx) (e:Expr) (t:TE):Prop:=PE X e t
def T8 {X:Cx} {x:Str} {e:Expr} {te:TE} {pos pos':Pos} (i:Nat) (hN:X.N.Nodup) (he:S9 X e te) (hi:X.N[i]?=some x<|>qe_) (hx:Loc X.env.scope x<|>qi_) (hs:swapsWith e (some (.Name x pos')) pos.line X.env=pure false<|>qe_) (hf:X.fn x=true\/X.env.scope.names.lookup x=some .local<|>qa_) :
  P2 X (.Assign [.Name x pos'] e pos) (Fz te (bV i)):=by
 unfold P2;unfold S9 at he;exact MP hN hi hx he hs hf
def OK {X:Cx} {es:List Expr} {p1 pos:Pos} {b:Expr} {tb:TE} (ps:List (Int×Int)) (hb:PE X b tb) (hs:tT b) (h:KY es ps<|>qh_) (hl:ps.length<=1000<|>qb_):S9 X (.Subscript (.List es p1) b pos) (fH (OF X.K) (SW ps) tb):=by
 unfold S9;exact QM ps hb hs h hl
@[irreducible] def Jr (X:Cx) (s:List Stmt) (t:TS):Prop:=Dg X s t
def zS {X:Cx} {s:Stmt} {t:TS} (h:PS X s t):P2 X s t:=by unfold P2;exact h
def zo {X:Cx} {s:Stmt} {t:TS} (h:P2 X s t):Jr X [s] t:=by unfold Jr;unfold P2 at h;exact aj h
def zc {X:Cx} {s:Stmt} {r:List Stmt} {t u:TS} (h:P2 X s t) (h2:Jr X r u):Jr X (s::r) (Qj t u):=by unfold Jr at h2 ⊢;unfold P2 at h;exact ag h h2
def zf {X:Cx} {s:List Stmt} {t:TS} (h:Jr X s t):Dg X s t:=by unfold Jr at h;exact h
def AR {K:yA} {a:Addr} {ns:List Str} {σ₀ rest:St} {tc:TT} {Q:VK} {H1:Hp} (f:Str->Bool) (hn:ns.length<=sizeLine) (ha:aG K H1 a (ns.map V.str)) (h0:∃v,σ₀=v::rest)
  (turn:∀(n:Str) (H:Hp) (R:Bool->Hp->Prop),n∈ns->au H1 H->(∀H',au H H'->R (f n) H')->tc (some (.str n)::rest) H R)
  (fin:∀D H,au H1 H->H1 D=none->H D=some (.lst ((ns.filter f).map V.str))->Q (.ref D) H):dM σ₀ (bV 0) tc (aX 0) Q (LR K a) H1:=by
 refine rg (ws:=ns) (enc:=V.str) f Dt.str (fun σ=>∃v,σ=v::rest) hn h0 (fun i H hi sm=>CY (sm.seq ha) (by rw[za];exact hi)) (fun H sm=>⟨_,sm.seq ha,by rw[za];exact zk _⟩) ?_ ?_ ?_
 ·rintro i x H H2 hi sm ⟨rfl,hy⟩
  have hx':=hy _ (sm.seq ha);rw[zJ,zb hi] at hx';cases hx';exact⟨rfl,rfl⟩
 ·rintro n σ H R N hn s1 ⟨v,rfl⟩ hR hN
  refine turn n H _ hn s1 fun H' s'=>?_;cases q:f n with
  | true=>exact ck rfl ⟨_,rfl,hR q _ _ _ s' d9 ⟨_,rfl⟩⟩
  | false=>exact cE rfl (hN q _ _ s' ⟨_,rfl⟩)
 ·intro D vs H s1 nD hD il
  rw[dI il] at hD;exact fin D H s1 nD hD
abbrev JN (S:cD) (n:Str) (j:Int):Bool:=decide ((j,n)∈S.aE.map (·.1))
noncomputable def oA (f:Int->Bool):Nat->List Int
 | 0=>[]
 | k+1=>if f k=true then [] else(k:Int)::oA f k
theorem DO (f:Int->Bool):∀k,(oA f k).length<=k
 | 0=>zk _
 | k+1=>by
  have:=DO f k;unfold oA;split
  ·exact yf _
  ·rw[zt];omega
def Mz {f:Int->Bool} {k:Nat} (h:f k=true):oA f (k+1)=[]:=by rw[oA,if_pos h]
def MA {f:Int->Bool} {k:Nat} (h:f k=false):oA f (k+1)=(k:Int)::oA f k:=by rw[oA,if_neg (by rw[h];simp)]
noncomputable def wV (S:cD) (bs:List Int):Option (Int×Str):=bs.findSome? fun b=>(S.players.filter fun n=>JN S n b).head?.map fun y=>(b,y)
def NQ {S:cD} {b:Int} {r:List Int} (e:(S.players.filter fun n=>JN S n b)=[]):wV S (b::r)=wV S r:=by
 unfold wV;rw[List.findSome?_cons,e];rfl
def NR {S:cD} {b:Int} {r:List Int} {y:Str} {l:List Str} (e:(S.players.filter fun n=>JN S n b)=y::l):wV S (b::r)=some (b,y):=by
 unfold wV;rw[List.findSome?_cons,e];rfl
noncomputable def Ll (x:Int×Str):Dt:=.tup [.int x.1,.str x.2]
def Q7 {H:Hp} {a:Addr} {b:Int} {y:Str} (h:H a=some (.tup [.int b,.str y])):Is H (dO Ll (some (b,y))) (.ref a):=cB h (aL cP (aL d9 cH))
def Rn {H:Hp} {v:V} {b:Int} {y:Str} (h:Is H (dO Ll (some (b,y))) v):∃a,v=.ref a/\H a=some (.tup [.int b,.str y]):=by
 unfold dO Ll Is at h;obtain⟨a,vs,e,ha,hl⟩:=h;unfold ay at hl;obtain⟨v1,r1,rfl,i1,hl⟩:=hl;unfold ay at hl;obtain⟨v2,r2,rfl,i2,hl⟩:=hl;unfold ay at hl;unfold Is at i1 i2;subst i1 i2 hl;exact⟨a,e,ha⟩
def Cp (S:cD) (n:Str) (H:Hp) (b:Nat) (v:V):Prop:=b<=1000/\∃a c,v=.ref a/\H a=some (.tup [.int b,c])/\Is H (dO Ll (wV S (oA (JN S n) b))) c
theorem Cp.mono {S:cD} {n:Str} {H H':Hp} (s:au H H') {b:Nat} {v:V} (h:Cp S n H b v):Cp S n H' b v:=by
 obtain⟨h0,a,c,h1,h2,h3⟩:=h;exact⟨h0,a,c,h1,s _ _ h2,h3.mono s⟩
theorem Cp.upd {S:cD} {n:Str} {D:Addr} {H:Hp} {vs:List V} {o:HO} (hD:H D=some (.lst vs)) {b:Nat} {v:V} (h:Cp S n H b v):Cp S n (L2.upd H D o) b v:=by
 obtain⟨h0,a,c,h1,h2,h3⟩:=h;exact⟨h0,a,c,h1,by rw[aD (Sc.aZ h2 hD (by simp[kindOf]))];exact h2,Is.upd (fun _ z=>by rw[hD] at z;cases z) h3⟩
end Sc
namespace K22
open PySem L2 Lm Sc
def top (i:Nat):Stmt:=PySem.Challenge.pw_partsmith_k27_cues.main.body.getD i (.Pass ⟨0,0,0,0⟩)
abbrev qd:=top 7
abbrev pX:=top 8
abbrev kU:=top 11
abbrev qi:=top 12
abbrev JJ:=top 13
abbrev CA:=top 14
abbrev qg:=top 15
abbrev rY:=top 21
abbrev jq:=top 22
abbrev vv:=top 23
abbrev xZ:=top 33
abbrev yP:=top 34
abbrev vq:=top 35
abbrev rX:=top 36
abbrev pV:=top 37
abbrev vo:=top 38
abbrev vn:=top 39
abbrev sg:=top 40
abbrev x6:=top 41
abbrev x8:=top 42
abbrev pZ:=top 43
abbrev jS:=top 44
abbrev rV:=top 45
abbrev x9:=top 46
abbrev pW:=top 47
abbrev vw:=top 48
abbrev rZ:=top 49
abbrev pY:=top 50
abbrev vt:=top 51
abbrev mH:=top 53
abbrev qH:=top 54
abbrev CC:=top 55
abbrev yO:=top 56
abbrev pU:=top 57
abbrev nZ:=top 58
abbrev vx:=top 59
abbrev vy:=top 60
abbrev om:=top 61
abbrev vB:=top 62
abbrev vz:=top 63
abbrev oh:=top 72
abbrev pS:=top 73
abbrev oj:=top 74
abbrev yN:=top 75
abbrev og:=top 76
abbrev jr:=top 77
abbrev pT:=top 78
abbrev vC:=top 79
abbrev nY:=top 80
abbrev sk:=top 81
abbrev qh:=top 82
abbrev oa:=top 83
abbrev sj:=top 84
abbrev qI:=top 86
abbrev yQ:=top 87
abbrev CD:=top 88
abbrev rW:=top 89
abbrev oo:=top 91
abbrev yM:=top 93
abbrev si:=top 94
abbrev vA:=top 95
abbrev CB:=top 96
abbrev oy:=top 98
abbrev sr:=top 99
abbrev mM:=top 100
abbrev qo:=top 101
abbrev mJ:=top 102
abbrev mO:=top 103
abbrev oz:=top 104
abbrev kX:=top 105
abbrev mP:=top 106
abbrev mL:=top 107
abbrev ox:=top 108
abbrev jV:=top 109
abbrev oq:=top 110
abbrev su:=top 111
abbrev ou:=top 112
abbrev gr:=top 113
abbrev kW:=top 114
abbrev mI:=top 115
abbrev jw:=top 116
abbrev kY:=top 117
abbrev jt:=top 118
abbrev kZ:=top 119
abbrev jU:=top 120
abbrev jT:=top 121
abbrev so:=top 122
abbrev mK:=top 123
abbrev qk:=top 124
abbrev mQ:=top 125
abbrev PD:=top 126
abbrev sA:=inClass (top 71) 0
structure Df (K:yA) (mg:Str->Option Value) (x:Str) (st:Stmt) (a:Addr) (d:FuncData) (ps:List Str):Prop where
 F:N6 K x x st a d
 g:mg x=some (.ref a)
 b:Binds K d ps []
structure UG (K:yA) (x y:Str) (st:Stmt) (a:Addr) (d:FuncData) (ps:List Str):Prop where
 F:N6 K x y st a d
 b:Binds K d ps []
set_option genInjectivity false in
set_option genSizeOf false in
structure Txt (K:yA) (mg:Str->Option Value) where
 (Ci Cg uY Cj Pk Lz kJ EZ rk Hu Jj Jp Ht EY Ce Hs Hr E1 Jk Jl gW eP iY mh gS kg iZ gU kf wY A5 LB Jo Cd A4 Hv Hw A8 HA Hy A6 Cc A7 Jn gk eB gR ki gi i6 gX gj i4 A9 Jq LC EX Ba Jm E3 Hz LA Be E5 xb Cm w8 xc Bf u7 xf xa Bd tR Bb E7 Bc nA uZ wZ rA u9 rm vb tQ tP E4 w9 Ck xg SE mi mf jI eD je sG:Addr)
 (B1 BY uQ B4 Pc Le kE Ey qY G4 IQ I0 G1 Ex BW G0 GZ EA IT IU B0 tH Eu IV BX G5 Ez BZ G3 wJ IS Li IZ BV AE G6 G7 AJ Hf G8 AH BS AI IX AG qZ BU Hg AD ED B3 AF EC IY I9 Lj Ew AK IW EB G9 Lh AO EF wO B6 wL wQ AQ uS wR wN AN tK AL EG AM nr uR wK ra uT q9 uU tJ tI EE wM B5 wU NO tL:FuncData)
 (Kq tY Bm xF Bo vS Di xI tX xJ vT xK Dj xH qx Fw Dm Dl xG:Tok)
 dE:Df K mg "read_number" qd Ci B1 ["text","most"]
 fK:Df K mg "read_signed" pX Cg BY ["text","most"]
 gg:Df K mg "common_divisor" kU uY uQ ["one","other"]
 eX:Df K mg "made_length" qi Cj B4 ["top","bottom"]
 added:Df K mg "added" JJ Pk Pc ["one","other"]
 DI:Df K mg "shorter" CA Lz Le ["one","other"]
 eW:Df K mg "read_length" qg kJ kE ["text"]
 jy:Df K mg "read_pitch" rY EZ Ey ["fifths_text","steps_text"]
 dX:Df K mg "read_item_length" jq rk qY ["text"]
 uq:Df K mg "read_item" vv Hu G4 ["text"]
 words_of:Df K mg "words_of" xZ Jj IQ ["row"]
 dt:Df K mg "all_read" yP Jp I0 ["values"]
 fb:Df K mg "read_name" vq Ht G1 ["word"]
 cV:Df K mg "read_plain" rX EY Ex ["word"]
 jW:Df K mg "read_within" pV Ce BW ["word","lowest","highest"]
 uo:Df K mg "read_time" vo Hs G0 ["word"]
 um:Df K mg "read_turn" vn Hr GZ ["fifths_word","steps_word"]
 qM:Df K mg "read_metre" sg E1 EA ["word"]
 yZ:Df K mg "read_key" x6 Jk IT ["word"]
 y3:Df K mg "read_end" x8 Jl IU ["word"]
 jZ:Df K mg "read_player" pZ gW B0 ["words"]
 fF:Df K mg "read_instrument" jS eP tH ["words"]
 lQ:Df K mg "read_staff" rV iY Eu ["words"]
 sF:Df K mg "read_bar" x9 mh IV ["words"]
 jX:Df K mg "read_upbeat" pW gS BX ["words"]
 oX:Df K mg "read_hold" vw kg G5 ["words"]
 lR:Df K mg "read_notes" rZ iZ Ez ["words"]
 jY:Df K mg "read_repeat" pY gU BZ ["words"]
 oW:Df K mg "read_jump" vt kf G3 ["words"]
 kD:Df K mg "is_score_word" mH wY wJ ["word"]
 yY:Df K mg "read_row" qH A5 IS ["words"]
 Eo:Df K mg "ends_of" CC LB Li ["repeat"]
 Ay:Df K mg "ends_fit" yO Jo IZ ["repeat"]
 oB:Df K mg "repeat_fits" pU Cd BV ["repeats","repeat"]
 iO:Df K mg "repeat_round" nZ A4 AE ["repeats","bar"]
 uH:Df K mg "may_leave" vx Hv G6 ["repeats","bar"]
 pf:Df K mg "may_enter" vy Hw G7 ["repeats","bar"]
 iW:Df K mg "in_last_pass" om A8 AJ ["repeats","bar"]
 uW:Df K mg "coda_fits" vB HA Hf ["repeats","at","coda"]
 uL:Df K mg "jump_fits" vz Hy G8 ["repeats","jump"]
 iT:Df K mg "metre_length" oh A6 AH ["score","bar"]
 nH:Df K mg "told_length" pS Cc BS ["score","bar"]
 lY:Df K mg "items_length" oj A7 AI ["items"]
 lq:Df K mg "has_bars" yN Jn IX ["score","bars"]
 iR:Df K mg "player_fault" og gk AG ["score","player"]
 fg:Df K mg "instrument_fault" jr eB qZ ["score","told"]
 gY:Df K mg "staff_fault" pT gR BU ["score","told"]
 pA:Df K mg "bar_fault" vC ki Hg ["score","told"]
 fR:Df K mg "upbeat_fault" nY gi AD ["score","length"]
 l6:Df K mg "hold_fault" sk i6 ED ["score","told"]
 j8:Df K mg "notes_fault" qh gX B3 ["score","told"]
 iP:Df K mg "repeat_fault" oa gj AF ["score","repeat"]
 lX:Df K mg "jump_fault" sj i4 EC ["score","jump"]
 Ax:Df K mg "fault_of" qI A9 IY ["score","sort","told"]
 A3:Df K mg "add_hold" yQ Jq I9 ["score","told"]
 EW:Df K mg "add_row" CD LC Lj ["score","sort","told"]
 qL:Df K mg "read_score" rW EX Ew ["text"]
 md:Df K mg "check_player" oo Ba AK ["score","player"]
 tq:Df K mg "is_empty" yM Jm IW ["score","player","bar"]
 qQ:Df K mg "playing_in" si E3 EB ["score","bar"]
 uV:Df K mg "cue_among" vA Hz G9 ["score","silent"]
 entries:Df K mg "entries" CB LA Lh ["score","player","quiet"]
 bP:Df K mg "_law_cell_at" oy Be AO ["_law_script","_law_k"]
 cC:Df K mg "_law_mixed" sr E5 EF ["_law_cell","_law_k"]
 eJ:Df K mg "_law_names_by" mM xb wO ["_law_cell","_law_many"]
 fP:Df K mg "_law_lowest" qo Cm B6 ["_law_top","_law_bottom"]
 kL:Df K mg "_law_pitch_by" mJ w8 wL ["_law_m"]
 kP:Df K mg "_law_items_by" mO xc wQ ["_law_m","_law_length"]
 mq:Df K mg "_law_bars_by" oz Bf AQ ["_law_cell","_law_many"]
 jK:Df K mg "_law_length_of" kX u7 uS ["_law_bars","_law_upbeat","_law_bar"]
 kQ:Df K mg "_law_holds_by" mP xf wR ["_law_cell","_law_players","_law_instruments","_law_many"]
 kO:Df K mg "_law_notes_by" mL xa wN ["_law_cell","_law_players","_law_bars","_law_upbeat"]
 mn:Df K mg "_law_ends_by" ox Bd AN ["_law_m","_law_first","_law_last","_law_times"]
 iE:Df K mg "_law_repeats_by" jV tR tK ["_law_cell","_law_many"]
 i7:Df K mg "_law_lasting" oq Bb AL ["_law_repeats","_law_bar"]
 mm:Df K mg "_law_inner" su E7 EG ["_law_repeats","_law_bar"]
 mj:Df K mg "_law_jump_by" ou Bc AM ["_law_cell","_law_many","_law_repeats"]
 fm:Df K mg "_law_instruments_by" gr nA nr ["_law_cell"]
 jJ:Df K mg "_law_staffs_by" kW uZ uR ["_law_cell","_law_players"]
 kK:Df K mg "_law_score_by" mI wZ wK ["_law_script","_law_most"]
 dn:Df K mg "_law_length_text" jw rA ra ["_law_length"]
 jL:Df K mg "_law_item_text" kY u9 uT ["_law_item"]
 gJ:Df K mg "_law_repeat_text" jt rm q9 ["_law_repeat"]
 jM:Df K mg "_law_form_rows" kZ vb uU ["_law_s"]
 iD:Df K mg "_law_score_rows" jU tQ tJ ["_law_s"]
 iC:Df K mg "_law_score_text" jT tP tI ["_law_s"]
 rB:Df K mg "_law_whole" so E4 EE ["_law_found"]
 kM:Df K mg "_law_notes_of" mK w9 wM ["_law_s"]
 oS:Df K mg "_law_quiets" qk Ck B5 ["_law_script"]
 kR:Df K mg "_law_cue_fits" mQ xg wU ["_law_s","_law_notes","_law_player","_law_bar","_law_cue"]
 Ua:Df K mg "law" PD SE NO ["_law_script"]
 Og:mg "Score"= some (.ref mf)
 Po:Mk K mf mi
 Bg:UG K "__init__" "Score.__init__" sA mi tL ["self"]
 Lu:mg "FIGURES"= some (.str "0123456789" Kq)
 lD:mg "LENGTH_FIGURES"= some (.int (4) tY)
 B9:mg "HIGHEST_KEY"= some (.int (7) Bm)
 AW:mg "OCTAVE_STEPS"= some (.int (12) xF)
 Ca:mg "FIFTH_STEPS"= some (.int (7) Bo)
 m9:mg "PITCH_FIGURES"= some (.int (2) vS)
 EL:mg "NAME_SIGNS"= some (.str "abcdefghijklmnopqrstuvwxyz0123456789" Di)
 AZ:mg "LONGEST_NAME"= some (.int (12) xI)
 lC:mg "NUMBER_FIGURES"= some (.int (3) tX)
 A0:mg "HIGHEST_TURN"= some (.int (12) xJ)
 wX:mg "HIGHEST_METRE"= some (.int (32) vT)
 wW:mg "METRE_BOTTOMS"= some (.ref eD)
 mY:∀H,dw K H eD [.int 1,.int 2,.int 4,.int 8,.int 16,.int 32]
 A1:mg "FEWEST_TIMES"= some (.int (2) xK)
 EM:mg "MOST_TIMES"= some (.int (9) Dj)
 C6:mg "READERS"= some (.ref je)
 AY:mg "MOST_PLAYERS"= some (.int (12) xH)
 rj:mg "MOST_INSTRUMENTS"= some (.int (12) qx)
 Hj:mg "MOST_BARS"= some (.int (200) Fw)
 EO:mg "MOST_HOLDS"= some (.int (20) Dm)
 EN:mg "MOST_ITEMS"= some (.int (40) Dl)
 AX:mg "MOST_REPEATS"= some (.int (20) xG)
 NT:mg "FAULTS"= some (.ref sG)
 PQ:mg "abs"= none
 JR:mg "all"= none
 Al:mg "any"= none
 QV:mg "bool"= none
 j9:mg "enumerate"= none
 Na:mg "int"= none
 iS:mg "isinstance"= none
 bu:mg "len"= none
 uG:mg "list"= none
 Sd:mg "min"= none
 dH:mg "range"= none
 Iv:mg "reversed"= none
 Sb:mg "set"= none
 Gu:mg "sorted"= none
 fj:mg "str"= none
 Sa:mg "sum"= none
 gP:mg "tuple"= none
 M9:mg "zip"= none
 l8:PySem.W.nsIn K mainGlobals "NoLength"= some (some (.ref jI))
 lT:PySem.W.excIn K jI [.type "ValueError",.type "Exception",.type "BaseException",.type "object"] "ValueError.__new__"= true
 Qd:mg "NoLength"= some (.ref jI)
 cf:Cf K mf
def bJ {X:Cx} {x:Str} {st:Stmt} {k n:Nat} {f:Addr} {fd:FuncData} {ps:List Str} {sp:Sp} {e:Expr} {es:List Expr} {t:TA} {p pos:Pos} (F:dQ X.prog X.w X.K X.mg X.base HE k f fd ps sp) (hr:fQ n X.A) (D:Df X.K X.mg x st f fd ps)
  (ha:PA X (e::es) t) (hk:k<=n<|>qb_) (hg:Gl X x<|>qe_) (hdb:(x == ("__debug__": Str))=false<|>qb_) (he:starEach (e::es) X.env=(false,eval e X.env)::starEach es X.env<|>qe_) (hpl:(backTo pos (starEach es X.env)).any (·.1)=false<|>qe_) :
  PE X (.Call (.Name x p) (e::es) [] pos) (gn sp [] E0 t):=OM F (hr.mono hk) hg D.g D.F.kp D.b .nil JP ha hdb he hpl
def fL {X:Cx} {a b:Expr} {ta tb:TE} {pos:Pos} (ha:PE X a ta) (hb:PE X b tb) (hs:tT b<|>qj_):PE X (.Subscript a b pos) (fH (OF X.K) ta tb):=y6 JV ha hb hs
def bR {X:Cx} {a b:Expr} {ta tb:TE} {pos:Pos} (ha:PE X a ta) (hb:PE X b tb) (hs:tT b<|>qj_):PE X (.Subscript a b pos) (fH (qP X.K) ta tb):=y6 Q5 ha hb hs
def ptr {X:Cx} {a b:Expr} {ta tb:TE} {pos:Pos} {op:CmpOp} {r:R2} (ho:pB X (compareOp op) r) (ha:PE X a ta) (hb:PE X b tb) (h:op≠.In<|>qb_) (h2:op≠.NotIn<|>qb_):PT X (.Compare a [op] [b] pos) (nJ (fH r ta tb)):=iQ ho ha hb (gz b h h2)
def Lo (p:St) (n:Nat) (σ:St):Prop:=∃e:Nat->Option V,σ=p++(List.range n).map e
def Lo.of {p:St} {n:Nat} {σ:St} (h:σ.take p.length=p) (l:σ.length=p.length+n):Lo p n σ:=by
 refine⟨fun i=>σ[p.length+i]?.join,List.ext_getElem? fun i=>?_⟩
 by_cases c:i<p.length
 ·rw[List.getElem?_append_left c]
  conv=>rhs;rw[<-h]
  rw[List.getElem?_take_of_lt c]
 ·rw[zZ nofun,zJ]
  by_cases d:i-p.length<n
  ·rw[List.getElem?_range d]
   have:p.length+(i-p.length)=i:=nofun
   simp only[Option.map_some,this];rw[zb nofun];rfl
  ·rw[List.getElem?_eq_none nofun,List.getElem?_eq_none (by simp;omega)]
   rfl
abbrev At (b:yA->TS) (K:yA):TS:=b K
abbrev Sq (b:yA->TS) (K:yA) (D:Ends):Ends:={D with nx:=b K D}
abbrev Dz (Q:VK):Ends:={nx:=fun _ H'=>Q .bH H',rt:=Q}
def Ev (t:TE) (σ:St) (H:Hp) (v:V):Prop:=∀Q:VK,Q v H->t σ H Q
def Od (t:TA) (σ:St) (H:Hp) (vs:List V):Prop:=∀R:List V->Hp->Prop,R vs H->t σ H R
def Pr (t:TT) (σ:St) (H:Hp) (b:Bool):Prop:=∀R:Bool->Hp->Prop,R b H->t σ H R
def Ui (K:yA) (f:Str) (x:V) (H:Hp) (Q:VK):Prop:=∃a C dx fs v,x=.ref a/\H a=some (.ins C dx fs)/\Pt K C/\e9 K C f/\fs.lookup f=some v/\Q v H
section
variable {t u:TE} {ta:TA} {c:TT} {wi:TI} {a b:TS} {gt:TG} {D:Ends} {σ:St} {H:Hp} {v x y:V} {vs:List V} {g:Int->Int->V} {i j:Int} {r:R2} {Q:VK} {R:List V->Hp->Prop} {S:Bool->Hp->Prop} {k:Bool} {K:yA} {p:Addr} {xs:List V}
def Rg {n:Nat} (e:σ[n]?=some (some v)):Ev (aX n) σ H v:=fun _ q=>⟨v,e,q⟩
def Ul:Ev (tC v) σ H v:=fun _ q=>q
def Sv (a:Ev t σ H (.int i)) (b:Ev u σ H (.int j)):Ev (fH (wt g) t u) σ H (g i j):=fun _ q=>a _ (b _ ⟨_,_,rfl,rfl,q⟩)
def Su {C:Int->Int->Prop} (a:Ev t σ H (.int i)) (b:Ev u σ H (.int j)) (c:C i j):Ev (fH (rI C g) t u) σ H (g i j):=fun _ q=>a _ (b _ ⟨_,_,rfl,rfl,c,q⟩)
def Ss (a:Ev t σ H (.ref p)) (b:Ev u σ H (.int j)) (h:H p=some (.tup xs)) (e:Dd xs j=some v):Ev (fH (qP K) t u) σ H v:=fun _ q=>a _ (b _ ⟨_,_,_,_,rfl,rfl,dw.of h,e,q⟩)
def Ri:Od eK σ H []:=fun _ q=>q
def O6 (a:Ev t σ H v) (b:Od ta σ H vs):Od (bC t ta) σ H (v::vs):=fun _ q=>a _ (b _ q)
def Rj (a:Ev t σ H v):Ev (Mh t) σ H (.bl (decide (v=.bH))):=fun _ q=>a _ q
def O5 (a:Ev t σ H v):Ev (Mf t) σ H (.bl (!decide (v=.bH))):=fun _ q=>a _ q
def Rh (a:Ev t σ H (.bl k)):Ev (Pu t) σ H (.bl (!k)):=fun _ q=>a _ ⟨_,rfl,q⟩
def Sw (a:Ev t σ H x) (b:Ev u σ H y) (s:Ox x y=true):Ev (fH T5 t u) σ H (.bl (decide (x=y))):=fun _ q=>a _ (b _ ⟨s,q⟩)
def Sr (a:Ev t σ H x) (b:Ev u σ H y) (s:Ox x y=true):Ev (fH T3 t u) σ H (.bl (!decide (x=y))):=fun _ q=>a _ (b _ ⟨s,q⟩)
def Uj (a:Ev t σ H (.bl k)):Pr (nJ t) σ H k:=fun _ q=>a _ ⟨_,rfl,q⟩
def Um (a:Ev t σ H (.bl k)):Pr (tB t) σ H k:=fun _ q=>a _ ⟨_,rfl,q⟩
def Uk (a:Pr c σ H k):Pr (Mg c) σ H (!k):=fun _ q=>a _ q
def R0 (e:Ev t σ H v) (q:gt v σ H D.nx):Fz t gt D σ H:=e _ q
def RZ (e:Ev t σ H v) (q:D.rt v H):Qk t D σ H:=e _ q
def TV {a b:yA->TS} (e:Pr c σ H k) (q:if k=true then At a K D σ H else At b K D σ H):Oi c (a K) (b K) D σ H:=e _ q
def Td {b:yA->TS} (q:a (Sq b K D) σ H):Qj a (b K) D σ H:=q
def Tj {n:Nat} {S:St->Hp->Prop} (q:S (σ.set n (some v)) H):bV n v σ H S:=q
def Tg {b:yA->TS} (q:b K D σ H):(Sq b K D).nx σ H:=q
def Tf (q:D.nx σ H):Pw D σ H:=q
def RI (q:t σ H fun x H1=>gt x σ H1 D.nx):Fz t gt D σ H:=q
def RF (q:t σ H D.rt):Qk t D σ H:=q
def P8 (q:t σ H fun _ H1=>D.nx σ H1):Px t D σ H:=q
def Ti (q:c σ H fun z H1=>if z=true then a D σ H1 else b D σ H1):Oi c a b D σ H:=q
def Tn {a b:yA->TS} (q:c σ H fun z H1=>if z=true then At a K D σ H1 else At b K D σ H1):Oi c (a K) (b K) D σ H:=q
def RY (e:Pr c σ H k) (q:S k H):c σ H S:=e S q
def UI (q:t σ H fun x H'=>∃k,x=.bl k/\S k H'):nJ t σ H S:=q
def UJ (q:t σ H fun x H'=>∃k,x=.bl k/\S k H'):tB t σ H S:=q
def Tr (e:Ev t σ H v) (q:Q v H):t σ H Q:=e Q q
def w_arg (e:Od ta σ H vs) (q:R vs H):ta σ H R:=e R q
def x_call {sp:Sp} {dv:List V} {E:XK} (q:ta σ H fun vs H1=>sp (vs++dv) H1 Q E):gn sp dv E ta σ H Q:=q
def To {q':List V->Hp->VK->Prop} (q:ta σ H fun vs H1=>q' vs H1 Q):Kr q' ta σ H Q:=q
def RE (q:ta σ H fun xs H1=>xs.length<=sizeLine/\∀p,H1 p=none->Q (.ref p) (upd H1 p (.tup xs))):Dn ta σ H Q:=q
def RG (q:ta σ H fun xs H1=>xs.length<=sizeLine/\∀p,H1 p=none->Q (.ref p) (upd H1 p (.lst xs))):Fy ta σ H Q:=q
def P9 {fr:List (Option Nat)} (q:wi σ H fun J H1=>dM (fr.map fun o=>o.bind fun j=>(σ[j]?).join) gt c t Q J H1):nK fr wi gt c t σ H Q:=q
def TU {R:It->Hp->Prop} (e:Ev t σ H (.ref p)) (q:(∃xs,aG K H p xs)/\R (LR K p) H):JW K t σ H R:=e _ ⟨_,rfl,q⟩
def Te {R:It->Hp->Prop} (q:ta σ H fun vs H1=>∃j:Int,vs=[.int j]/\-(2^62)<=j/\j<2^62/\R (N4 0 j.toNat) H1):Nt ta σ H R:=q
abbrev iJ (J:It):TI:=fun _ H R=>R J H
def Fr (g:TG) (b:TS) (D:Ends) (σ:St) (J:It) (H:Hp):Prop:=Qp (iJ J) g b D σ H
def RH {b:yA->TS} (q:wi σ H (Fr gt (At b K) D σ)):Qp wi gt (b K) D σ H:=q
def x_at {b:yA->TS} (q:b K D σ H):At b K D σ H:=q
def Th {R:It->Hp->Prop} (q:t σ H fun x H1=>∃a,x=.ref a/\(∃xs,aG K H1 a xs)/\R (LR K a) H1):JW K t σ H R:=q
def TC {R:It->Hp->Prop} (e:Od ta σ H vs) (q:∃a xs,vs=[.ref a]/\aG K H a xs/\R (Rw K a) H):PV K ta σ H R:=e _ q
def Tw {R:It->Hp->Prop} (e:Od ta σ H vs) (q:∃j:Int,vs=[.int j]/\-(2^62)<=j/\j<2^62/\R (N4 0 j.toNat) H):Nt ta σ H R:=e _ q
def Qc {sp:Sp} {dv:List V} {E:XK} (e:Od ta σ H vs) (q:sp (vs++dv) H Q E):gn sp dv E ta σ H Q:=e _ q
def TF {q':List V->Hp->VK->Prop} (e:Od ta σ H vs) (q:q' vs H Q):Kr q' ta σ H Q:=e _ q
def Tv (e:Od ta σ H vs) (q:vs.length<=sizeLine/\∀p,H p=none->Q (.ref p) (upd H p (.tup vs))):Dn ta σ H Q:=e _ q
def TB (e:Od ta σ H vs) (q:vs.length<=sizeLine/\∀p,H p=none->Q (.ref p) (upd H p (.lst vs))):Fy ta σ H Q:=e _ q
def R1 {d:TT} (e:Pr c σ H k) (q:if k=true then d σ H S else S false H):Qv c d σ H S:=e _ q
def TR {d:TT} (e:Pr c σ H k) (q:if k=true then S true H else d σ H S):TM c d σ H S:=e _ q
def TX (e:Pr c σ H k) (q:if k=true then t σ H Q else u σ H Q):Uv c t u σ H Q:=e _ q
def RK {f:Str} (e:Ev t σ H x) (q:Ui K f x H Q):Oj K t f σ H Q:=e _ q
def TH {T:String} {q':V->List V->Hp->VK->Prop} (e:Ev t σ H x) (q:SU K T x H/\ta σ H fun xs H2=>q' x xs H2 Q):SX K T q' t ta σ H Q:=e _ q
def RM (e:Ev t σ H (.bl k)) (q:if k=true then u σ H Q else Q (.bl false) H):Py t u σ H Q:=e _ ⟨_,rfl,q⟩
def Tx (e:Ev t σ H (.bl k)) (q:if k=true then Q (.bl true) H else u σ H Q):RS t u σ H Q:=e _ ⟨_,rfl,q⟩
def Tz (q:t σ H fun x H1=>u σ H1 fun y H2=>r x y H2 Q):fH r t u σ H Q:=q
def Qb (q:t σ H fun x H1=>ta σ H1 fun xs H2=>R (x::xs) H2):bC t ta σ H R:=q
def Tp (e:Ev t σ H x) (q:u σ H fun y H2=>r x y H2 Q):fH r t u σ H Q:=e _ q
def Qa (e:Ev t σ H v) (q:ta σ H fun xs H2=>R (v::xs) H2):bC t ta σ H R:=e _ q
def Tq (q:Q (g i j) H):wt g (.int i) (.int j) H Q:=⟨i,j,rfl,rfl,q⟩
def RJ (h:H p=some (.tup xs)) (e:Dd xs j=some v) (q:Q v H):qP K (.ref p) (.int j) H Q:=⟨_,_,_,_,rfl,rfl,dw.of h,e,q⟩
end
def cY {g:TG} {tb:TS} {x:V} {σ:St} {H:Hp} {A C:St->Hp->Prop} {B:VK} (h:∀N:Ends,(∀σ H,A σ H->N.nx σ H)->(∀v H,B v H->N.rt v H)->(∀σ H,A σ H->N.ct σ H)->(∀σ H,C σ H->N.bk σ H)->g x σ H fun σ2 H2=>tb N σ2 H2):g x σ H fun σ2 H2=>tb {nx:=A,rt:=B,bk:=C,ct:=A} σ2 H2:=h _ (fun _ _ z=>z) (fun _ _ z=>z) (fun _ _ z=>z) fun _ _ z=>z
def Tt {r:Sp} {vs:List V} {H:Hp} {Q:VK} {E:XK} (h:∀Q':VK,(∀v H',Q v H'->Q' v H')->r vs H Q' E):r vs H Q E:=h Q fun _ _ z=>z
def Tu {r:R2} {x y:V} {H:Hp} {Q:VK} (h:∀Q':VK,(∀v H',Q v H'->Q' v H')->r x y H Q'):r x y H Q:=h Q fun _ _ z=>z
def Ts {r:V->Hp->VK->Prop} {x:V} {H:Hp} {Q:VK} (h:∀Q':VK,(∀v H',Q v H'->Q' v H')->r x H Q'):r x H Q:=h Q fun _ _ z=>z
abbrev cX (P:Program) (w:World) (base:Heap) (n:Nat) {K:yA} {mg:Str->Option Value} {x:Str} {st:Stmt} {a:Addr} {d:FuncData} {ps:List Str} (_:Df K mg x st a d ps) (sp:Sp):Prop:=dQ P w K mg base HE n a d ps sp
theorem _root_.L2.N6.SY {P:Program} {w:World} {K:yA} {mg:Str->Option Value} {base:Heap} {x qual:Str} {st:Stmt} {f:Addr} {fd:FuncData} {N ps:List Str} {k:Nat} {sp:Sp} (F:N6 K x qual st f fd) (S:aC N ps (ao st))
  (hbody:∀(cdv:Value) (A:Around) (outer:List Env) (s:Shared) (H:Hp) (vs:List V) (Q:VK) (E:XK),fQ k (A.deeper (PyProof.Rows.envOfC qual (ao st) ↑s f cdv))->sp vs H Q E->
   ∃t,Dg (kF HE P w K mg base N qual (ao st) f cdv A outer s H E).Ir (bW st) t/\t (Dz Q) (start N vs) H)
  (len:(∀vs H Q E,sp vs H Q E->vs.length=ps.length)<|>qk_):dQ P w K mg base HE (k+1) f fd ps sp:=F.ok S len hbody
def Uw {P:Program} {w:World} {K:yA} {mg:Str->Option Value} {base:Heap} {x:Str} {st:Stmt} {f:Addr} {fd:FuncData} {N ps:List Str} {k:Nat} {sp:Sp} (D:Df K mg x st f fd ps) (S:aC N ps (ao st))
  (hbody:∀(cdv:Value) (A:Around) (outer:List Env) (s:Shared) (H:Hp) (vs:List V) (Q:VK) (E:XK),fQ k (A.deeper (PyProof.Rows.envOfC x (ao st) ↑s f cdv))->sp vs H Q E->
   ∃t,Dg (kF HE P w K mg base N x (ao st) f cdv A outer s H E).Ir (bW st) t/\t (Dz Q) (start N vs) H)
  (len:(∀vs H Q E,sp vs H Q E->vs.length=ps.length)<|>qk_):dQ P w K mg base HE (k+1) f fd ps sp:=D.F.ok S len hbody
def dy {N P:List Str} {sc:Scope} (h1:sc.kind=.function<|>qe_) (h2:sc.isCoroutine=false<|>qe_) (h3:sc.isGenerator=false<|>qe_) (h4:N.Nodup<|>ql_) (h5:N.take P.length=P<|>qe_) (h6:(∀x∈P,sc.names.lookup x=some .local\/sc.names.lookup x=some .cell)<|>ql_) (h7:(∀y∈sc.names,y.2≠.free)<|>ql_):aC N P sc:=⟨h1,h2,h3,h4,h5,h6,h7⟩
def eQ {X:Cx} {x:Str} {id:String} {r:List V->Hp->VK->Prop} {e:Expr} {es:List Expr} {t:TA} {p pos:Pos} (hc:fB X (.builtin id) r) (hm:X.mg x=none) (ha:PA X (e::es) t) (hg:Gl X x<|>qe_) (hv:bootBuiltins x=some (.builtin id)<|>ql_) (hn:x≠ "__name__"<|>qb_) (hdb:(x == ("__debug__": Str))=false<|>qb_)
  (he:starEach (e::es) X.env=(false,eval e X.env)::starEach es X.env<|>qe_) (hpl:(backTo pos (starEach es X.env)).any (·.1)=false<|>qe_):PE X (.Call (.Name x p) (e::es) [] pos) (Kr r t):=F9 hc hg hm hv ha hn hdb he hpl
def ng {X:Cx} {x:Str} {id:String} {r:List V->Hp->VK->Prop} {e:Expr} {es:List Expr} {t:TA} {p pos:Pos} (hc:fB X (.type id) r) (hm:X.mg x=none) (ha:PA X (e::es) t) (hg:Gl X x<|>qe_) (hv:bootBuiltins x=some (.type id)<|>ql_) (hn:x≠ "__name__"<|>qb_) (hdb:(x == ("__debug__": Str))=false<|>qb_)
  (he:starEach (e::es) X.env=(false,eval e X.env)::starEach es X.env<|>qe_) (hpl:(backTo pos (starEach es X.env)).any (·.1)=false<|>qe_):PE X (.Call (.Name x p) (e::es) [] pos) (Kr r t):=KO hc hg hm hv ha hn hdb he hpl
def bT {X:Cx} {x:Str} {e:Expr} {te:TE} {pos pos':Pos} (i:Nat) (hN:X.N.Nodup) (he:PE X e te) (hi:X.N[i]?=some x<|>qe_) (hx:Loc X.env.scope x<|>qi_) (hs:swapsWith e (some (.Name x pos')) pos.line X.env=pure false<|>qe_) (hf:X.fn x=true\/X.env.scope.names.lookup x=some .local<|>qa_) :
  PS X (.Assign [.Name x pos'] e pos) (Fz te (bV i)):=MP hN hi hx he hs hf
def jA {X:Cx} {x:Str} {pos:Pos} (i:Nat) (hN:X.N.Nodup) (hi:X.N[i]?=some x<|>qe_) (hx:Loc X.env.scope x<|>qi_) (hf:X.fn x=true\/X.env.scope.names.lookup x=some .local<|>qa_):PG X (.Name x pos) (bV i):=JO hN hi hx hf
def gy {X:Cx} {ts ys:List Str} {scope:Scope} {cl:List (Str×Addr)} {C:Addr} {s₀:Shared} {H₀:Hp} {ex:List Addr} {x:Str} {pos:Pos} (i:Nat) (hN:(ts++ys).Nodup<|>ql_) (hi:(ts++ys)[i]?=some x<|>qe_) (hx:Loc (cQ X (ts++ys) scope cl C s₀ H₀ ex).env.scope x<|>qi_) (hf:(cQ X (ts++ys) scope cl C s₀ H₀ ex).fn x=true\/(cQ X (ts++ys) scope cl C s₀ H₀ ex).env.scope.names.lookup x=some .local<|>qa_):PG (cQ X (ts++ys) scope cl C s₀ H₀ ex) (.Name x pos) (bV i):=JO hN hi hx hf
section
variable {X:Cx} {pos:Pos} {elt target iter:Expr} {ifs:List Expr} {scope:Scope} {ts ys:List Str} {js:List Nat} {cl:List (Str×Addr)} {wi:TI} {g:TG} {tc:TT} {te:TE}
def pI (hi:PI X target iter wi) (hg:∀{C s₀ H₀ ex},PG (cQ X (ts++ys) scope cl C s₀ H₀ ex) target g) (hif:∀{C s₀ H₀ ex},Pl (cQ X (ts++ys) scope cl C s₀ H₀ ex) ifs tc) (he:∀{C s₀ H₀ ex},PE (cQ X (ts++ys) scope cl C s₀ H₀ ex) elt te)
  (hclos:closureFor scope X.env=pure cl<|>qe_) (hc:X.calm=true<|>qe_) (hcl:E8 X.env.cells cl<|>qm_)
  (hLo:((relabel scope X.env).names.all fun p=>(p.2 != .cell&&p.2 != .free)||ys.contains p.1||scope.names.contains (p.1,.cell))=true<|>qe_) (hno:(∀p∈scope.names,p.2=.cell->p.1∉ys)<|>ql_)
  (hfr:LL X scope cl ys js<|>qm_)
  (hkind:scope.kind=.function<|>qe_) (hnames:(∀y∈scope.names,y.2=.local->scope.names.lookup y.1=some .local)<|>ql_) (hs:(∀x,foldedSetIterable iter X.env x=pure x)<|>qd_) :
  PE X (.ListComp elt [⟨target,iter,ifs,0⟩] scope pos) (nK (ts.map (fun _=>none)++js.map some) wi g tc te):=M1 hc hclos hcl hLo hno hfr hkind hnames hi (fun _ _ _ _=>hg) (fun _ _ _ _=>hif) (fun _ _ _ _=>he) hs
def M3 {i:Nat} {x:Str} {ps pa:Pos} (hi:PI X target iter wi) (hg:∀{C s₀ H₀ ex},PG (cQ X (ts++ys) scope cl C s₀ H₀ ex) target g) (hif:∀{C s₀ H₀ ex},Pl (cQ X (ts++ys) scope cl C s₀ H₀ ex) ifs tc) (he:∀{C s₀ H₀ ex},PE (cQ X (ts++ys) scope cl C s₀ H₀ ex) elt te) (hN:X.N.Nodup)
  (hclos:closureFor scope X.env=pure cl<|>qe_) (hc:X.calm=true<|>qe_) (hcl:E8 X.env.cells cl<|>qm_)
  (hLo:((relabel scope X.env).names.all fun p=>(p.2 != .cell&&p.2 != .free)||ys.contains p.1||scope.names.contains (p.1,.cell))=true<|>qe_) (hno:(∀p∈scope.names,p.2=.cell->p.1∉ys)<|>ql_)
  (hfr:LL X scope cl ys js<|>qm_)
  (hkind:scope.kind=.function<|>qe_) (hnames:(∀y∈scope.names,y.2=.local->scope.names.lookup y.1=some .local)<|>ql_) (hx1:X.N[i]?=some x<|>qe_) (hx2:Loc X.env.scope x<|>qi_) (hs:(∀x,foldedSetIterable iter X.env x=pure x)<|>qd_) (hsw:swapsWith (.ListComp elt [⟨target,iter,ifs,0⟩] scope pos) (some (.Name x ps)) pa.line X.env=pure true<|>qe_)
  (hf:X.fn x=true\/X.env.scope.names.lookup x=some .local<|>qa_) :
  PS X (.Assign [.Name x ps] (.ListComp elt [⟨target,iter,ifs,0⟩] scope pos) pa) (Fz (nK (ts.map (fun _=>none)++js.map some) wi g tc te) (bV i)):=MR hc hclos hcl hLo hno hfr hkind hnames hi (fun _ _ _ _=>hg) (fun _ _ _ _=>hif) (fun _ _ _ _=>he) hN hx1 hx2 hs hsw hf
end
section
variable {P:Program} {w:World} {K:yA} {mg:Str->Option Value} {base:Heap} (T:Txt K mg)
local macro_rules | `(tactic|right) => `(tactic| (intro pp hn; generalize hG : upd _ pp _ = HH; have sm := au.kB hG hn; have hh := kI hG; clear hG hn))
local macro_rules|`(tactic|ac_rfl)=>`(tactic|try dsimp only[kF,Cx.Ir])
local macro_rules|`(tactic|intros $p:ident $H:ident $s:ident $h:ident)=>`(tactic|(intro $p hn;generalize hG:upd _ $p _=$H;have $s:ident:=au.kB hG hn;have $h:ident:=kI hG;clear hG hn))
local macro_rules|`(tactic|change $e:term)=>`(tactic|(left ;exact $e))
set_option hygiene false
local macro_rules|`(tactic|fail "h")=>`(tactic|(refine au.on (by assumption) ?_; fail "h"))
local macro_rules|`(tactic|fail "h")=>`(tactic|assumption)
local macro_rules|`(tactic|fail "e")=>`(tactic|((with_reducible apply Su); fail "e"; fail "e"; (first | (show (0 : Int) < _; decide) | exact And.intro ∅ ∅ | exact Or.inl ⟨∅, by decide⟩ | exact Or.inr ⟨∅, by decide⟩)))
local macro_rules|`(tactic|fail "e")=>`(tactic|((with_reducible (first | apply Sw | apply Sr)); fail "e"; fail "e"; exact rfl))
local macro_rules|`(tactic|fail "e")=>`(tactic|((with_reducible (first | apply Uj | apply Um | apply Uk | apply Rj | apply O5 | apply Rh)); fail "e"))
local macro_rules|`(tactic|fail "e")=>`(tactic|((with_reducible apply Ss); fail "e"; fail "e"; fail "h"; exact rfl))
local macro_rules|`(tactic|fail "e")=>`(tactic|((with_reducible (first | apply Sv | apply O6)); fail "e"; fail "e"))
local macro_rules|`(tactic|fail "e")=>`(tactic|with_reducible (first | exact Ul | exact Ri))
local macro_rules|`(tactic|fail "e")=>`(tactic|((with_reducible apply Rg); exact rfl))
local macro_rules | `(tactic| exists $es,*) => `(tactic| (left; first | ((with_reducible (first | refine Tt fun _ kq => ?_ | refine Tu fun _ kq => ?_ | refine Ts fun _ kq => ?_)); refine ⟨$es,*⟩; refine kq _ _ ?_) | refine ⟨$es,*⟩))
local macro_rules|`(tactic|fail "s")=>`(tactic|refine Or.inr ⟨_, rfl, ?_⟩)
local macro_rules|`(tactic|fail "s")=>`(tactic|refine ⟨Or.inr ⟨∅, by decide⟩, ?_⟩)
local macro_rules|`(tactic|fail "s")=>`(tactic|refine ⟨Or.inl ⟨∅, by decide⟩, ?_⟩)
local macro_rules|`(tactic|fail "s")=>`(tactic|refine ⟨(And.intro ∅ ∅), ?_⟩)
local macro_rules|`(tactic|fail "s")=>`(tactic|refine ⟨(by show (0 : Int) < _; decide), ?_⟩)
local macro_rules|`(tactic|fail "s")=>`(tactic|refine ⟨_, Oh (by fail "h"), ?_⟩)
local macro_rules|`(tactic|fail "s")=>`(tactic|refine ⟨_, _, _, _, rfl, rfl, dw.of (by fail "h"), rfl, ?_⟩)
local macro_rules|`(tactic|fail "s")=>`(tactic|refine Uc ?_)
local macro_rules|`(tactic|fail "s")=>`(tactic|refine Si ?_)
local macro_rules|`(tactic|fail "s")=>`(tactic|refine ⟨rfl, ?_⟩)
local macro_rules|`(tactic|fail "s")=>`(tactic|refine ⟨_, _, rfl, rfl, ?_⟩)
local macro_rules|`(tactic|fail "s")=>`(tactic|refine ⟨_, rfl, ?_⟩)
local macro_rules|`(tactic|fail "s")=>`(tactic|with_reducible (first | apply Tq | apply UI | apply UJ | apply x_call | apply To | apply RE | apply RG | apply P9 | apply Te | apply Th | apply Tz | apply Qb))
local macro_rules|`(tactic|fail "s")=>`(tactic|((with_reducible apply RJ); fail "h"; exact rfl))
local macro_rules|`(tactic|fail "s")=>`(tactic|((with_reducible (first | apply Qc | apply TF | apply TU | apply RK | apply TH | apply RM | apply Tx | apply Tp | apply Qa | apply Tv | apply TB | apply TC | apply Tw | apply R1 | apply TR | apply TX)); fail "e"))
local macro_rules|`(tactic|fail "s")=>`(tactic|((with_reducible apply RY); fail "e"))
local macro_rules|`(tactic|fail "s")=>`(tactic|((with_reducible apply w_arg); fail "e"))
local macro_rules|`(tactic|fail "s")=>`(tactic|((with_reducible apply Tr); fail "e"))
local macro_rules|`(tactic|fail "s")=>`(tactic|with_reducible (first | apply Td (K := K) | apply Tj | apply Tg | apply Tf | apply x_at | apply RI | apply RF | apply P8 | apply Tn (K := K) | apply Ti | apply RH (K := K)))
local macro_rules|`(tactic|fail "s")=>`(tactic|((with_reducible (first | apply R0 | apply RZ | apply TV (K := K))); fail "e"))
local macro_rules | `(tactic|left) => `(tactic| ((repeat fail "s"); (first | (first | apply kN4 | apply kN3 | apply kN2 | apply kN1 | apply kN0 | apply kR4 | apply kR3 | apply kR2 | apply kR1 | apply kR0); left | skip)))
local macro_rules | `(tactic| nomatch $a:term, $b:term) => `(tactic| refine Uw $a $b fun _ _ _ _ H vs Q E hr h => ?_)
set_option hygiene true
def eM:aC ["one","other","rest"] ["one","other"] (ao kU):=dy
def sS:cX P w base 1 T.gg jP:=by
 nomatch T.gg,eM
 obtain⟨a,b,rfl,h1,h2,kk⟩:=h;refine⟨_,(ag (sJ PassesOwn.never (ptr j6 (pv 1) ae)
  (ag (bT 2 eM.nd (ar aO (pv 0) (pv 1)))
   (ag (bT 0 eM.nd (pv 1))
   (aj (bT 1 eM.nd (pv 2))))))
  (aj (aq (pv 0)))),?_⟩
 refine⟨fun m σ H'=>H'=H/\∃(x y:Int) (r:Option V),σ=[some (.int x),some (.int y),r]/\0<=x/\0<=y/\Int.gcd x y=Int.gcd a b/\m=y.toNat,⟨_,rfl,a,b,none,rfl,h1,h2,rfl,rfl⟩,?_⟩;rintro m σ H' ⟨rfl,x,y,r,rfl,hx,hy,hg,rfl⟩;left
 by_cases e:y=0
 ·subst e
  refine PU rfl ?_;refine⟨_,rfl,?_⟩;have e2:Int.gcd a b=x.natAbs:=by rw[<-hg];simp
  have e3:((Int.gcd a b:Nat):Int)=x:=by rw[e2];omega
  rw[e3] at kk;exact kk
 ·refine ck (by simp[e]) ?_
  refine⟨fun σ' H''=>∃m',m'<y.toNat/\H''=H'/\∃(x y:Int) (r:Option V),σ'=[some (.int x),some (.int y),r]/\0<=x/\0<=y/\Int.gcd x y=Int.gcd a b/\m'=y.toNat,fun _ _ h=>h,?_⟩;exists(by show(0:Int)<y;omega),?_;left;have hp:(0:Int)<y:=nofun
  have l1:=zv x (by omega:y≠0);have l2:=zr x hp;exact⟨(x%y).toNat,nofun,rfl,y,x%y,_,rfl,hy,l1,(GB hx hp).trans hg,rfl⟩
def nV:aC ["top","bottom","divisor"] ["top","bottom"] (ao qi):=dy
def jB:cX P w base 2 T.eX fU:=by
 have G_common_divisor:cX P w base 1 T.gg jP:=sS T
 nomatch T.eX,nV
 obtain⟨t,b,rfl,h1,h2,h3,kk⟩:=h;refine⟨_,(ag (bT 2 nV.nd (bJ G_common_divisor hr T.gg (ah (pv 0) (ah (pv 1) af))))
  (aj (aq (bj (ah (ar sQ (pv 0) (pv 2)) (ah (ar sQ (pv 1) (pv 2)) af)))))),?_⟩
 exists t,b,rfl,h1,Int.le_of_lt h2,?_;have g0:=xt (t:=t) h2;have g1:Sz 8999 ((Int.gcd t b:Nat):Int):=h3.le (Int.le_of_lt g0) (Nx h2);exists⟨g0,g1⟩,?_;exists⟨g0,g1⟩,?_;refine⟨cx,laid fun p H' sm hp=>kk p H' sm ?_⟩;exact hp
def Mv:aC ["one","other"] ["one","other"] (ao JJ):=dy
def M6:cX P w base 3 T.added Ms:=by
 have G_made_length:cX P w base 2 T.eX fU:=jB T
 nomatch T.added,Mv
 obtain⟨x,y,p,q,n,m,rfl,hp,hq,rx,ry,sx,sy,hnm,kk⟩:=h;obtain⟨x1,x2,_⟩:=rx.pos;obtain⟨y1,y2,_⟩:=ry.pos;have bx1:Sz 20000 x.1:=sx.1.mono nofun;have bx2:Sz 20000 x.2:=sx.2.mono nofun;have by1:Sz 20000 y.1:=sy.1.mono nofun;have by2:Sz 20000 y.2:=sy.2.mono nofun;refine⟨_,(aj (aq (bJ G_made_length hr T.eX (ah (ar aW (ar sP (bR (pv 0) ae) (bR (pv 1) ae)) (ar sP (bR (pv 1) ae) (bR (pv 0) ae))) (ah (ar sP (bR (pv 0) ae) (bR (pv 1) ae)) af))))),?_⟩;exists⟨bx1,by2⟩,?_;exists⟨by1,bx2⟩,?_;exists⟨bx2,by2⟩,?_;refine⟨_,_,rfl,Int.add_nonneg (Int.mul_nonneg x1 (Int.le_of_lt y2)) (Int.mul_nonneg y1 (Int.le_of_lt x2)),Int.mul_pos x2 y2,(sx.2.mul sy.2).mono hnm,fun r H' sm hr'=>kk r H' sm hr'⟩
def Ic:aC ["one","other"] ["one","other"] (ao CA):=dy
def Im:cX P w base 1 T.DI HU:=by
 nomatch T.DI,Ic
 obtain⟨x,y,p,q,rfl,hp,hq,sx,sy,kk⟩:=h;have bx1:Sz 20000 x.1:=sx.1.mono nofun;have bx2:Sz 20000 x.2:=sx.2.mono nofun;have by1:Sz 20000 y.1:=sy.1.mono nofun;have by2:Sz 20000 y.2:=sy.2.mono nofun;refine⟨_,(aj (aq (dG fw (ar sP (bR (pv 0) ae) (bR (pv 1) ae)) (ar sP (bR (pv 1) ae) (bR (pv 0) ae)) (gz _)))),?_⟩;exists⟨bx1,by2⟩,?_;exists⟨by1,bx2⟩,?_;change kk
def BD:aC ["_law_cell","_law_k"] ["_law_cell","_law_k"] (ao sr):=dy
def bO:cX P w base 1 T.cC Bv:=by
 nomatch T.cC,BD
 obtain⟨c,k,rfl,h1,h2,kk⟩:=h;refine⟨_,(aj (aq (ar aO (ar dY (ar dY (ar aW (ar aO (pv 0) ae) ae) (ar aW (ar dY (pv 1) (pv 1)) ae)) ae) ae))),?_⟩;exists Or.inl ⟨nofun,nofun⟩,?_;left;have e1:0<=c%2305843009213693951:=zv _ ∅;have e2:c%2305843009213693951<2305843009213693951:=zr _ ∅;refine⟨Or.inl ⟨nofun,nofun⟩,?_⟩;change kk
def jn:aC ["_law_top","_law_bottom","_law_one","_law_other"] ["_law_top","_law_bottom"] (ao qo):=dy
def f9:cX P w base 1 T.fP xR:=by
 nomatch T.fP,jn
 obtain⟨t,b,rfl,h1,h2,h3,kk⟩:=h;have g0:=xt (t:=t) h2;have g1:Sz 8999 ((Int.gcd t b:Nat):Int):=h3.le (Int.le_of_lt g0) (Nx h2);refine⟨_,(ag (MQ (i:=2) (j:=3) rfl jn.nd rfl rfl ∅ rfl rfl (ah (pv 0) (ah (pv 1) af)) rfl)
  (ag (sJ PassesOwn.never (ptr fi (pv 3) ae)
  (aj (MQ (i:=2) (j:=3) rfl jn.nd rfl rfl ∅ rfl rfl (ah (pv 3) (ah (ar aO (pv 2) (pv 3)) af)) rfl)))
  (aj (aq (bj (ah (ar sQ (pv 0) (pv 2)) (ah (ar sQ (pv 1) (pv 2)) af))))))),?_⟩
 exists _,_,rfl,?_;refine⟨fun m σ H'=>H'=H/\∃(x y:Int),σ=[some (.int t),some (.int b),some (.int x),some (.int y)]/\0<=x/\0<=y/\Int.gcd x y=Int.gcd t b/\m=y.toNat,⟨_,rfl,t,b,rfl,h1,Int.le_of_lt h2,rfl,rfl⟩,?_⟩;rintro m σ H' ⟨rfl,x,y,rfl,hx,hy,hg,rfl⟩;left
 by_cases e:y=0
 ·subst e
  refine cE (by simp) ?_;have e2:Int.gcd t b=x.natAbs:=by rw[<-hg];simp
  have e3:x=((Int.gcd t b:Nat):Int):=by rw[e2];omega
  subst e3;exists⟨g0,g1⟩,?_;exists⟨g0,g1⟩,?_;refine⟨cx,laid fun p H' sm hp=>kk p H' sm ?_⟩;exact hp
 ·have hp:(0:Int)<y:=nofun
  refine ck (ze hp) ?_;refine⟨fun σ' H''=>∃m',m'<y.toNat/\H''=H'/\∃(x y:Int),σ'=[some (.int t),some (.int b),some (.int x),some (.int y)]/\0<=x/\0<=y/\Int.gcd x y=Int.gcd t b/\m'=y.toNat,fun _ _ h=>h,?_⟩;exists(by show(0:Int)<y;omega),?_;refine⟨_,_,rfl,?_⟩;have l1:=zv x (by omega:y≠0);have l2:=zr x hp;exact⟨(x%y).toNat,nofun,rfl,y,x%y,rfl,hy,l1,(GB hx hp).trans hg,rfl⟩
def xX:aC ["text","most"] ["text","most"] (ao qd):=dy
def nU:aC ["text","most","number"] ["text","most"] (ao pX):=dy
def ku:aC ["fifths_text","steps_text","fifths","steps"] ["fifths_text","steps_text"] (ao rY):=dy
def eV:aC ["text","parts","top","bottom"] ["text"] (ao qg):=dy
def iI:aC ["text","length"] ["text"] (ao jq):=dy
def iM:aC ["text","parts","length","pitch"] ["text"] (ao vv):=dy
def iz:cX P w base 1 T.dE ia:=by
 nomatch T.dE,xX
 obtain⟨t,most,rfl,hl,kk⟩:=h;have sl:=yB;have hz:t.length<=sizeLine:=nofun
 have el:t.cps.toList.length=t.length:=Array.length_toList;unfold rn at kk;rw[el] at kk;refine⟨_,(ag (aH (PW.pt (eE (ptr fw (eQ gh T.bu (ah (pv 0) af)) ae) (dP (ptr fi (eQ gh T.bu (ah (pv 0) af)) (pv 1)))))
  (aj (aq aS))
  ax)
  (ag (aH (d5 (cz (eQ (pz rfl) T.JR (ah (pI (ts:=["sign"]) (ys:=[]) (js:=[]) (te:=(fH (fun x y H Q=>∃i j,x=.str i/\y=.str j/\Q (.bl (!(Builtin.Str.occurrences j i 0 j.length 1).isEmpty)) H) (aX 0) (tC (.str "0123456789")))) (MV (pv 0)) (gy 0) bw (dG CL (pv 0) (bU (v:=.str "0123456789") (by rfl) T.Lu ⟨_,rfl⟩) (by with_unfolding_all rfl))) af))))
  (aj (aq aS))
  ax)
  (ag (aH (PW.pt (dr (ptr dg (y6 Ej (pv 0) ae (fun _ _=>rfl)) aJ) (cR (ptr fi (eQ gh T.bu (ah (pv 0) af)) ae))))
  (aj (aq aS))
  ax)
  (aj (aq (ng EK T.Na (ah (pv 0) af))))))),?_⟩
 exists hz,?_;left;refine wG (fun c1=>?_) (fun c1=>?_)
 ·left
  have z:=kk H (au.refl H);rw[if_pos (yd c1)] at z;exact z
 have c1':¬(t.length:Int)<1:=fun z=>c1 (ze z);rw[if_neg c1'] at kk;exists hz,?_;left;refine wG (fun c2=>?_) (fun c2=>?_)
 ·left
  have z:=kk H (au.refl H);rw[if_pos (yd c2)] at z;exact z
 have c2':¬most<(t.length:Int):=fun z=>c2 (ze z);rw[if_neg c2'] at kk;left;refine oP t.length (fun i=>(t.cps.toList.take i).map fun c=>V.bl (decide (c∈wI))) (fun i σ H'=>H'=H/\∃v,σ=[v]) (fun i hi=>by rw[za,zP];omega) nofun rfl ⟨rfl,none,rfl⟩ (fun i σ H' hi _=>hi) (fun σ H' _=>zk _) ?_ ?_
 ·rintro i x σ H1 H2 hi ⟨rfl,v,rfl⟩ ⟨rfl,c,hc,rfl⟩
  left;refine HF.push hi ?_ ⟨rfl,_,rfl⟩;rw[PySem.StrLaws.found_one];rw[<-Array.getElem?_toList] at hc;show List.map _ (List.take (i+1) t.cps.toList)=_;rw[List.take_add_one,hc,zj];rfl
 ·rintro σ H1 ⟨rfl,_⟩
  rw[<-el,zM];intros D H2 sm h2;refine⟨D,t.cps.toList.map (fun c=>decide (c∈wI)),rfl,aG.of (by rw[h2,zA];rfl),?_⟩;have ea:(t.cps.toList.map (fun c=>decide (c∈wI))).all id=t.cps.toList.all (fun c=>decide (c∈wI)):=by rw[List.all_map];rfl
  rw[ea]
  by_cases ha:t.cps.toList.all (fun c=>decide (c∈wI))=true
  ·rw[ha]
   rw[if_pos ha] at kk;left;have h1:0<t.cps.size:=by show 0<t.length;omega
   obtain⟨c,hc⟩:∃c,t.cps[0]?=some c:=⟨t.cps[0]'h1,Array.getElem?_eq_getElem h1⟩
   have hc':t.cps.toList[0]?=some c:=by rw[Array.getElem?_toList];exact hc
   rw[hc'] at kk;refine⟨_,0,c,rfl,rfl,hz,bx (j:=0) hc',?_⟩;left;have rd:PySem.intText? t=some ((NumText.digitsVal t.cps.toList:Nat):Int):=PySem.intText_digits (Jf ha) (fun z=>by rw[z] at el;simp at el;omega) nofun
   by_cases e0:c=48
   ·subst e0
    refine ck ∅ ?_;exists hz,?_;left;refine wG (fun c3=>?_) (fun c3=>?_)
    ·left
     have c3':1<t.length:=by have:=yd c3;omega
     have z:=kk H2 sm;rw[if_pos ⟨rfl,c3'⟩] at z;exact z
    ·have c3':¬1<t.length:=fun z=>c3 (ze nofun)
     have z:=kk H2 sm;rw[if_neg (fun q=>c3' q.2)] at z;change⟨_,_,rfl,rd,nofun,z⟩
   ·refine cE (zd fun z=>e0 ?_) ?_
    ·have z':=V.str.inj z
     exact(List.cons.inj (show [c]=[48] from congrArg (fun y:Str=>y.cps.toList) z')).1
    have z:=kk H2 sm;rw[if_neg (fun q=>e0 (yj q.1))] at z;change⟨_,_,rfl,rd,nofun,z⟩
  ·rw[if_neg ha] at kk
   rw[Bool.eq_false_iff.mpr ha];change kk H2 sm
def mT:cX P w base 2 T.fK mB:=by
 have G_read_number:cX P w base 1 T.dE ia:=iz T
 nomatch T.fK,nU
 obtain⟨t,most,rfl,hl,kk⟩:=h;have sl:=yB;unfold rs at kk;refine⟨_,(ag (aH (d5 (cz (b7 yF PySem.F.slot_str_startswith PySem.F.type_str_startswith BR (pv 0) (ah aJ af))))
  (aj (aq (bJ G_read_number hr T.dE (ah (pv 0) (ah (pv 1) af)))))
  ax)
  (ag (bT 2 nU.nd (bJ G_read_number hr T.dE (ah (dF HZ (pv 0) (eN ae) eO) (ah (pv 1) af))))
  (ag (aH (PW.pt (eE (bB (cG (pv 2))) (dP (ptr dg (pv 2) ae))))
  (aj (aq aS))
  ax)
  (aj (aq (sN lF (pv 2))))))),?_⟩
 left
 by_cases hn:t.cps.toList[0]?=some 45
 ·rw[if_pos hn] at kk
  have q:=(PySem.StrLaws.subAt_one t 45 0).mpr hn;have es:(decide (0+("-": Str).length<=t.length)&&Builtin.Str.subAt t "-" 0)=true:=by
   rw[zN];exact⟨ze q.1,q.2⟩
  rw[es];exists by omega,?_
  have h1:1<=t.length:=by have:=q.1;have e:(⟨#[45]⟩:Str).length=1:=rfl;omega
  have e1:(PySem.Txt.slice t (some 1) none).cps.toList=t.cps.toList.drop 1:=qD t h1;exists _,most,rfl,zL (PySem.Txt.slice_le t _ _) hl,fun H1 s1=>?_;rw[e1];have z:=kk H1 s1;cases hr':rn most (t.cps.toList.drop 1) with
  | none=>
   rw[hr'] at z;change z
  | some n=>
   rw[hr'] at z;left
   by_cases e0:n=0
   ·subst e0
    refine ck ∅ ?_;change z
   ·refine cE (zd fun y=>e0 (V.int.inj y)) ?_
    left;have z':Q (ov (if n=0 then none else some (-n))) H1:=z;rw[if_neg e0] at z';exact z'
 ·rw[if_neg hn] at kk
  have es:(decide (0+("-": Str).length<=t.length)&&Builtin.Str.subAt t "-" 0)=false:=by
   rw[Bool.eq_false_iff];intro z;rw[zN] at z;exact hn ((PySem.StrLaws.subAt_one t 45 0).mp ⟨yd z.1,z.2⟩)
  rw[es];change⟨t,most,rfl,hl,fun H1 s1=>kk H1 s1⟩
def oG:cX P w base 3 T.jy nN:=by
 have G_read_signed:cX P w base 2 T.fK mB:=mT T
 nomatch T.jy,ku
 obtain⟨a,b,rfl,la,lb,kk⟩:=h;unfold rp at kk;refine⟨_,(ag (bT 2 ku.nd (bJ G_read_signed hr T.fK (ah (pv 0) (ah (bU (v:=.int 2) (by rfl) T.m9 ⟨_,rfl⟩) af))))
  (ag (bT 3 ku.nd (bJ G_read_signed hr T.fK (ah (pv 1) (ah (bU (v:=.int 2) (by rfl) T.m9 ⟨_,rfl⟩) af))))
  (ag (aH (PW.pt (eE (bB (cG (pv 2))) (dP (bB (cG (pv 3))))))
  (aj (aq aS))
  ax)
  (ag (aH (ptr j6 (ar aO (ar iw (pv 3) (ar dY (bU (v:=.int 7) (by rfl) T.Ca ⟨_,rfl⟩) (pv 2))) (bU (v:=.int 12) (by rfl) T.AW ⟨_,rfl⟩)) ae)
  (aj (aq aS))
  ax)
  (aj (aq (bj (ah (pv 2) (ah (pv 3) af))))))))),?_⟩
 exists a,2,rfl,la,fun H1 s1=>?_;exists b,2,rfl,lb,fun H2 s2=>?_;have S2:=s1.trans s2;cases ea:rs 2 a with
 | none=>
  rw[ea] at kk;change kk .bH H2 S2 .bH
 | some f=>
  cases eb:rs 2 b with
  | none=>
   rw[ea,eb] at kk;change kk .bH H2 S2 .bH
  | some g=>
   rw[ea,eb] at kk;left
   by_cases hm:(g-7*f)%12=0
   ·refine PU (congrArg V.int hm) ?_
    left;refine⟨cx,laid fun p H3 s3 hp=>kk (.ref p) H3 (S2.trans s3) ?_⟩;show Js H3 (.ref p) (if(g-7*f)%12=0 then some (f,g) else none);rw[if_pos hm];exact .ref hp
   ·refine ck (by simp[hm]) ?_
    left;refine kk .bH H2 S2 ?_;show Js H2 .bH (if(g-7*f)%12=0 then some (f,g) else none);rw[if_neg hm];exact .bH
def mS:dQ P w K mg base (HD P w) 3 T.kJ T.kE ["text"] (mz T.jI):=by
 have G_read_number:cX P w base 1 T.dE ia:=iz T;have G_made_length:cX P w base 2 T.eX fU:=jB T;refine T.eW.F.UM eV (fun vs H Q E h=>?_) (fun cdv A' outer s H vs Q E hr h=>?_)
 ·obtain⟨_,rfl,_⟩:=h;rfl
 ·obtain⟨t,rfl,lt,k1,k2⟩:=h
  have sl:=yB;have pl:=PyProof.Rows.split_pos t "/";have sh:∀z∈Txt.split t "/",z.length<=600:=fun z hz=>zL (PyProof.Rows.part_short hz) lt;unfold N9 at k1 k2;refine⟨_,(ag (bT 1 eV.nd (b7 yF yJ yI jC (pv 0) (ah aJ af)))
   (ag (aH (ptr fi (eQ aB T.bu (ah (pv 1) af)) ae)
   (aj (F1 T.l8 T.lT PySem.F.excBase_ValueError rfl (ah aJ af)))
   ax)
   (ag (bT 2 eV.nd (bJ G_read_number hr T.dE (ah (fL (pv 1) ae) (ah (bU (v:=.int 4) (by rfl) T.lD ⟨_,rfl⟩) af))))
   (ag (bT 3 eV.nd ae)
   (ag (aH (ptr dg (eQ aB T.bu (ah (pv 1) af)) ae)
   (aj (bT 3 eV.nd (bJ G_read_number hr T.dE (ah (fL (pv 1) ae) (ah (bU (v:=.int 4) (by rfl) T.lD ⟨_,rfl⟩) af)))))
   ax)
   (ag (aH (PW.pt (eE (bB (cG (pv 2))) (eE (bB (cG (pv 3))) (dP (ptr dg (pv 3) ae)))))
   (aj (F1 T.l8 T.lT PySem.F.excBase_ValueError rfl (ah aJ af)))
   ax)
   (aj (aq (bJ G_made_length hr T.eX (ah (pv 2) (ah (pv 3) af))))))))))),?_⟩
  exists by omega,?_
  generalize Txt.split t "/"= ws at k1 k2 pl sh;intros p1 H1 s1 h1;exists p1,_,rfl,.inl (aG.of h1),?_
  match ws,pl,sh,k1,k2,h1 with
  | [a],_,sh,k1,k2,h1=>
   exists p1,_,0,_,rfl,rfl,aG.of h1,rfl,?_;exists a,4,rfl,sh a (by simp),fun H2 s2=>?_;replace h1:=s2 _ _ h1;exists p1,_,rfl,.inl (aG.of h1),?_;cases ea:rn 4 a.cps.toList with
   | none=>
    simp only[ea] at k1 k2;left;refine⟨by show 1<=sizeLine;decide,k2 trivial H2 (s1.trans s2)⟩
   | some n=>
    simp only[ea] at k1 k2;obtain⟨n0,n1,_⟩:=MD ea ∅;change⟨_,_,rfl,n0,∅,(dq (n:=1) ∅ ∅).mono ∅,fun p3 H3 s3 h3=>k1 _ rfl p3 H3 ((s1.trans s2).trans s3) h3⟩
  | [a,b],_,sh,k1,k2,h1=>
   exists p1,_,0,_,rfl,rfl,aG.of h1,rfl,?_;exists a,4,rfl,sh a (by simp),fun H2 s2=>?_;replace h1:=s2 _ _ h1;exists p1,_,rfl,.inl (aG.of h1),?_;exists p1,_,1,_,rfl,rfl,aG.of h1,rfl,?_;exists b,4,rfl,sh b (by simp),fun H3 s3=>?_;have S3:=(s1.trans s2).trans s3;cases ea:rn 4 a.cps.toList with
   | none=>
    simp only[ea] at k1 k2;change⟨by show 1<=sizeLine;decide,k2 trivial H3 S3⟩
   | some n=>
    cases eb:rn 4 b.cps.toList with
    | none=>
     simp only[ea,eb] at k1 k2;change⟨by show 1<=sizeLine;decide,k2 trivial H3 S3⟩
    | some m=>
     simp only[ea,eb] at k1 k2;obtain⟨n0,n1,_⟩:=MD ea ∅;obtain⟨m0,m1,_⟩:=MD eb ∅;left
     by_cases e0:m=0
     ·subst e0
      refine ck ∅ ?_;change⟨by show 1<=sizeLine;decide,k2 rfl H3 S3⟩
     ·rw[if_neg e0] at k1
      refine cE (zd fun y=>e0 (V.int.inj y)) ?_;change⟨_,_,rfl,n0,nofun,(dq (n:=14) nofun nofun).mono ∅,fun p4 H4 s4 h4=>k1 _ rfl p4 H4 (S3.trans s4) h4⟩
  | a::b::c::r,_,sh,k1,k2,h1=>
   left;refine ck (ze (show(2:Int)<(((a::b::c::r).map V.str).length:Int) by rw[za];simp only[zt];omega)) ?_;change⟨by show 1<=sizeLine;decide,k2 rfl H1 s1⟩
def g9:cX P w base 4 T.dX gZ:=by
 have G_read_length:dQ P w K mg base (HD P w) 3 T.kJ T.kE ["text"] (mz T.jI):=mS T
 nomatch T.dX,iI
 obtain⟨t,rfl,lt,kk⟩:=h;unfold lr at kk;refine⟨_,(ag (OI G_read_length (hr.mono ∅) rfl T.eW.g T.eW.F.kp T.eW.b (ah (pv 0) af) rfl iI.nd (i:=1) rfl (Or.inl rfl) rfl T.l8 T.lT rfl rfl rfl (fun e=>(aj (aq aS))))
  (ag (aH (ptr dg (bR (pv 1) ae) ae)
  (aj (aq aS))
  ax)
  (aj (aq (pv 1))))),?_⟩
 left;refine⟨lt,fun x ex p1 H1 s1 h1=>?_,fun en H1 s1=>⟨rfl,?_⟩⟩
 ·simp only[ex] at kk
  left
  by_cases e0:x.1=0
  ·refine ck (by rw[e0];rfl) ?_
   left;rw[if_pos e0] at kk;exact kk .bH H1 s1 .bH
  ·refine cE (zd fun y=>e0 (V.int.inj y)) ?_
   left;rw[if_neg e0] at kk;exact kk (.ref p1) H1 s1 (.ref h1)
 ·simp only[en] at kk
  change kk .bH H1 s1 .bH
def OY {ws:List Str} (h:1<=ws.length):Dd (ws.map V.str) (-1)=some (.str (ws.getLast?.getD "")):=by
 have ne:ws≠[]:=fun z=>by rw[z] at h;simp at h
 have e:=List.dropLast_concat_getLast ne;have e2:ws.getLast?.getD ""= ws.getLast ne:=by rw[List.getLast?_eq_some_getLast ne];rfl
 rw[e2];have e3:ws.map V.str=ws.dropLast.map V.str++[V.str (ws.getLast ne)]:=by rw[<-List.map_singleton (f:=V.str),<-zj,e]
 rw[e3];exact A2 _ _
def Np {ws:List Str} (h:1<=ws.length):ws.getLast?.getD "" ∈ws:=by
 have ne:ws≠[]:=fun z=>by rw[z] at h;simp at h
 rw[List.getLast?_eq_some_getLast ne];exact List.getLast_mem ne
def BH:cX P w base 5 T.uq pN:=by
 have G_read_item_length:cX P w base 4 T.dX gZ:=g9 T;have G_read_pitch:cX P w base 3 T.jy nN:=oG T
 nomatch T.uq,iM
 obtain⟨t,rfl,lt,kk⟩:=h;have sl:=yB;have pl:=PyProof.Rows.split_pos t ":";have sh:∀z∈Txt.split t ":",z.length<=600:=fun z hz=>zL (PyProof.Rows.part_short hz) lt;unfold ir at kk;refine⟨_,(ag (bT 1 iM.nd (b7 yF yJ yI jC (pv 0) (ah aJ af)))
  (ag (bT 2 iM.nd (bJ G_read_item_length hr T.dX (ah (fL (pv 1) (sN lF ae)) af)))
  (ag (aH (bB (cG (pv 2)))
  (aj (aq aS))
  ax)
  (ag (aH (PW.pt (dr (ptr dg (eQ aB T.bu (ah (pv 1) af)) ae) (cR (ptr dg (fL (pv 1) ae) aJ))))
  (aj (aq (bj (ah aS (ah (pv 2) af)))))
  ax)
  (ag (aH (ptr j6 (eQ aB T.bu (ah (pv 1) af)) ae)
  (aj (aq aS))
  ax)
  (ag (bT 3 iM.nd (bJ G_read_pitch hr T.jy (ah (fL (pv 1) ae) (ah (fL (pv 1) ae) af))))
  (ag (aH (bB (cG (pv 3)))
  (aj (aq aS))
  ax)
  (aj (aq (bj (ah (pv 3) (ah (pv 2) af)))))))))))),?_⟩
 exists by omega,?_
 generalize Txt.split t ":"= ws at kk pl sh;intros p1 H1 s1 h1;exists p1,_,-1,_,rfl,rfl,aG.of h1,OY pl,?_;refine⟨_,rfl,sh _ (Np pl),fun v H2 s2 hv=>?_⟩;have h2:=s2 _ _ h1;have S2:=s1.trans s2;generalize lr (ws.getLast?.getD "")=o at kk hv;cases hv with
 | bH=>
  change kk .bH H2 S2 rfl
 | @ref p2 x hx=>
  have kk':∀v H',au H H'->Pq H' v (if ws.dropLast=[("r": Str)] then some (none,x) else match ws.dropLast with
   | [a,b]=>(match rp a b with | some q=>some (some q,x) | none=>none)
   | _=>none)->Q v H':=kk
  clear kk;exists p1,_,rfl,.inl (aG.of h2),?_
  match ws,pl,sh,kk',h2 with
  | [a],_,sh,kk,h2=>
   exists p1,_,rfl,.inl (aG.of h2),?_;change kk .bH H2 S2 rfl
  | [a,b],_,sh,kk,h2=>
   exists p1,_,0,_,rfl,rfl,aG.of h2,rfl,?_;left
   by_cases ea:a ="r"
   ·subst ea
    refine ck ∅ ?_;change⟨cx,laid fun p3 H3 s3 h3=>kk (.ref p3) H3 (S2.trans s3) ⟨p3,_,p2,rfl,h3,s3 _ _ hx,.bH⟩⟩
   ·refine cE (zd fun z=>ea (V.str.inj z)) ?_
    exists p1,_,rfl,.inl (aG.of h2),?_;left;refine kk .bH H2 S2 ?_;rw[if_neg (by intro z;exact ea (List.cons.inj z).1)];rfl
  | [a,b,c],_,sh,kk,h2=>
   exists p1,_,rfl,.inl (aG.of h2),?_;exists p1,_,0,_,rfl,rfl,aG.of h2,rfl,?_;exists p1,_,1,_,rfl,rfl,aG.of h2,rfl,?_;refine⟨a,b,rfl,sh a (by simp),sh b (by simp),fun v H3 s3 hv=>?_⟩;have kk2:∀v H',au H H'->Pq H' v (match rp a b with | some q=>some (some q,x) | none=>none)->Q v H':=fun v H' s' z=>kk v H' s' (by
    rw[if_neg (by intro y;simp at y)];exact z)
   generalize rp a b=o at kk2 hv;cases hv with
   | bH=>
    change kk2 .bH H3 (S2.trans s3) rfl
   | @ref p4 q hq=>
    change⟨cx,laid fun p5 H5 s5 h5=>kk2 (.ref p5) H5 ((S2.trans s3).trans s5) ⟨p5,_,p2,rfl,h5,s5 _ _ (s3 _ _ hx),.ref (s5 _ _ hq)⟩⟩
  | a::b::c::d::r,_,sh,kk,h2=>
   exists p1,_,rfl,.inl (aG.of h2),?_;left;refine kk .bH H2 S2 ?_;rw[if_neg (by intro y;simp at y)];rfl
def FL:aC ["row"] ["row"] (ao xZ):=dy
def Gb:cX P w base 1 T.words_of FD:=by
 nomatch T.words_of,FL
 obtain⟨t,rfl,hl,kk⟩:=h;have sl:=yB;have ple:=PyProof.Rows.split_le t " ";refine⟨_,(aj (aq (pI (ts:=["word"]) (ys:=[]) (js:=[]) (g:=(bV 0)) (tc:=(nJ (fH T3 (aX 0) (tC (.str ""))))) (te:=(aX 0)) (bc (b7 yF yJ yI jC (pv 0) (ah aJ af))) (gy 0) (fZ (ptr j6 (pv 0) aJ)) (pv 0)))),?_⟩;ac_rfl;exists by omega,?_
 unfold words at kk;generalize Txt.split t " "= ws at kk ple;intros p1 H1 s1 h1;refine⟨p1,rfl,⟨_,aG.of h1⟩,?_⟩;refine oP ws.length (fun i=>((ws.take i).filter fun w=>decide (w≠("": Str))).map V.str) (fun i σ H'=>H'=H1/\∃v,σ=[v]) ?_ nofun rfl ⟨rfl,none,rfl⟩ ?_ ?_ ?_ ?_
 ·intro i hi
  rw[za];exact zL (List.length_filter_le _ _) (by rw[zP];omega)
 ·rintro i σ H' hi ⟨rfl,_⟩
  exact CY (aG.of h1) (by rw[za];exact hi)
 ·rintro σ H' ⟨rfl,_⟩
  exact⟨_,aG.of h1,by rw[za];exact zk _⟩
 ·rintro i x σ H' H2 hi ⟨rfl,v,rfl⟩ ⟨rfl,hy⟩
  have hx:=hy _ (aG.of h1);rw[zJ,zb hi] at hx;cases hx;left
  by_cases e:ws[i] =""
  ·refine cE (by rw[e];rfl) ?_
   refine HF.skip hi ?_ ⟨rfl,_,rfl⟩;show List.map V.str (List.filter _ (List.take (i+1) ws))=List.map V.str (List.filter _ (List.take i ws));rw[List.take_add_one,zb hi,e,List.filter_append];simp
  ·refine ck (by rw[zd fun z=>e (V.str.inj z)];rfl) ?_
   left;refine HF.push hi ?_ ⟨rfl,_,rfl⟩;show List.map V.str (List.filter _ (List.take (i+1) ws))=List.map V.str (List.filter _ (List.take i ws))++[V.str ws[i]];rw[List.take_add_one,zb hi,List.filter_append,zj];have:List.filter (fun w=>decide (w≠("": Str))) (Option.toList (some ws[i]))=[ws[i]]:=by simp[e]
   rw[this];rfl
 ·rintro σ H' ⟨rfl,_⟩
  rw[zM];exact laid fun p H' sm h=>kk p H' (s1.trans sm) h
def Bz:aC ["word"] ["word"] (ao rX):=dy
def cu:cX P w base 2 T.cV ko:=by
 nomatch T.cV,Bz
 obtain⟨t,rfl,hl,kk⟩:=h;refine⟨_,(aj (aq (bJ (iz T) hr T.dE (ah (pv 0) (ah (bU (v:=.int (3)) (by rfl) T.lC ⟨_,rfl⟩) af))))),?_⟩;ac_rfl;change⟨_,_,rfl,hl,kk⟩
def DK:aC ["word"] ["word"] (ao vq):=dy
def d8:cX P w base 1 T.fb lI:=by
 nomatch T.fb,DK
 obtain⟨t,rfl,hl,kk⟩:=h;have sl:=yB;have hz:t.length<=sizeLine:=nofun
 have el:t.cps.toList.length=t.length:=Array.length_toList;unfold cL at kk;refine⟨_,(ag (aH (PW.pt (eE (ptr fw (eQ gh T.bu (ah (pv 0) af)) ae) (dP (ptr fi (eQ gh T.bu (ah (pv 0) af)) (bU (v:=.int (12)) (by rfl) T.AZ ⟨_,rfl⟩)))))
  (aj (aq aS))
  ax)
  (ag (aH (d5 (cz (eQ (pz rfl) T.JR (ah (pI (ts:=["sign"]) (ys:=[]) (js:=[]) (te:=(fH (fun x y H Q=>∃i j,x=.str i/\y=.str j/\Q (.bl (!(Builtin.Str.occurrences j i 0 j.length 1).isEmpty)) H) (aX 0) (tC (.str "abcdefghijklmnopqrstuvwxyz0123456789")))) (MV (pv 0)) (gy 0) bw (dG CL (pv 0) (bU (v:=.str "abcdefghijklmnopqrstuvwxyz0123456789") (by rfl) T.EL ⟨_,rfl⟩) (by with_unfolding_all rfl))) af))))
  (aj (aq aS))
  ax)
  (aj (aq (pv 0))))),?_⟩
 ac_rfl;exists hz,?_;left;refine wG (fun c1=>?_) (fun c1=>?_)
 ·left
  have z:=kk H (au.refl H);rw[if_pos (yd c1)] at z;exact z
 have c1':¬(t.length:Int)<1:=fun z=>c1 (ze z);rw[if_neg c1'] at kk;exists hz,?_;left;refine wG (fun c2=>?_) (fun c2=>?_)
 ·left
  have z:=kk H (au.refl H);rw[if_pos (yd c2)] at z;exact z
 have c2':¬(12:Int)<(t.length:Int):=fun z=>c2 (ze z);rw[if_neg c2'] at kk;left;refine oP t.length (fun i=>(t.cps.toList.take i).map fun c=>V.bl (decide (c∈sgn))) (fun i σ H'=>H'=H/\∃v,σ=[v]) (fun i hi=>by rw[za,zP];omega) nofun rfl ⟨rfl,none,rfl⟩ (fun i σ H' hi _=>hi) (fun σ H' _=>zk _) ?_ ?_
 ·rintro i x σ H1 H2 hi ⟨rfl,v,rfl⟩ ⟨rfl,c,hc,rfl⟩
  left;refine HF.push hi ?_ ⟨rfl,_,rfl⟩;rw[PySem.StrLaws.found_one];rw[<-Array.getElem?_toList] at hc;show List.map _ (List.take (i+1) t.cps.toList)=_;rw[List.take_add_one,hc,zj];rfl
 ·rintro σ H1 ⟨rfl,_⟩
  rw[<-el,zM];intros D H2 s2 h2;refine⟨D,t.cps.toList.map (fun c=>decide (c∈sgn)),rfl,aG.of (by rw[h2,zA];rfl),?_⟩;have ea:(t.cps.toList.map (fun c=>decide (c∈sgn))).all id=t.cps.toList.all (fun c=>decide (c∈sgn)):=by rw[List.all_map];rfl
  rw[ea]
  by_cases ha:t.cps.toList.all (fun c=>decide (c∈sgn))=true
  ·rw[ha]
   rw[if_pos ha] at kk;change kk _ s2
  ·rw[if_neg ha] at kk
   rw[show t.cps.toList.all (fun c=>decide (c∈sgn))=false from by simpa using ha];change kk _ s2
def nT:aC ["word","lowest","highest","number"] ["word","lowest","highest"] (ao pV):=dy
def oH:cX P w base 3 T.jW xP:=by
 nomatch T.jW,nT
 obtain⟨t,lo,hi,rfl,hl,kk⟩:=h;unfold mR at kk;refine⟨_,(ag (bT 3 nT.nd (bJ (cu T) hr T.cV (ah (pv 0) af)))
  (ag (aH (PW.pt (eE (bB (cG (pv 3))) (eE (ptr fw (pv 3) (pv 1)) (dP (ptr fi (pv 3) (pv 2))))))
  (aj (aq aS))
  ax)
  (aj (aq (pv 3))))),?_⟩
 ac_rfl;exists hl,fun H1 s1=>?_;cases e:fJ t with
 | none=>
  rw[e] at kk;change kk _ s1
 | some n=>
  rw[e] at kk;left
  by_cases c1:n<lo
  ·refine ck (ze c1) ?_
   simp only[if_pos c1] at kk;change kk _ s1
  ·refine cE (zd c1) ?_
   simp only[if_neg c1] at kk;left
   by_cases c2:hi<n
   ·refine ck (ze c2) ?_
    simp only[if_pos c2] at kk;change kk _ s1
   ·refine cE (zd c2) ?_
    simp only[if_neg c2] at kk;change kk _ s1
def DJ:aC ["word"] ["word"] (ao vo):=dy
def DY:cX P w base 4 T.uo DB:=by
 nomatch T.uo,DJ
 obtain⟨t,rfl,hl,kk⟩:=h;refine⟨_,(aj (OH (mS T) (hr.mono ∅) rfl T.eW.g T.eW.F.kp T.eW.b (ah (pv 0) af) rfl rfl T.l8 T.lT rfl rfl rfl (fun e=>(aj (aq aS))))),?_⟩;ac_rfl;left;refine⟨hl,fun x e p H1 s1 h1=>?_,fun e H1 s1=>⟨rfl,?_⟩⟩
 ·rw[e] at kk
  exact kk _ H1 s1 (.ref h1)
 ·rw[e] at kk
  change kk _ H1 s1 .bH
def rP:aC ["fifths_word","steps_word","turn"] ["fifths_word","steps_word"] (ao vn):=dy
def DX:cX P w base 4 T.um DA:=by
 nomatch T.um,rP
 obtain⟨a,b,rfl,la,lb,kk⟩:=h;unfold yU at kk;refine⟨_,(ag (bT 2 rP.nd (bJ (oG T) hr T.jy (ah (pv 0) (ah (pv 1) af))))
  (ag (aH (PW.pt (eE (bB (cG (pv 2))) (dP (ptr fi (eQ Hi T.PQ (ah (bR (pv 2) ae) af)) (bU (v:=.int (12)) (by rfl) T.A0 ⟨_,rfl⟩)))))
  (aj (aq aS))
  ax)
  (aj (aq (pv 2))))),?_⟩
 ac_rfl;exists _,_,rfl,la,lb,fun v H1 s1 h1=>?_;cases e:rp a b with
 | none=>
  rw[e] at kk h1;cases h1;change kk _ _ s1 .bH
 | some q=>
  rw[e] at kk h1;cases h1 with
  | ref h1=>
   left;refine wG (fun c=>?_) (fun c=>?_)
   ·simp only[if_pos (yd c)] at kk
    change kk _ _ s1 .bH
   ·simp only[if_neg (fun z=>c (ze z))] at kk
    change kk _ _ s1 (.ref h1)
def vi:aC ["word","key"] ["word"] (ao x6):=dy
def Gf:cX P w base 3 T.yZ FG:=by
 nomatch T.yZ,vi
 obtain⟨t,rfl,hl,kk⟩:=h;unfold FV at kk;refine⟨_,(ag (bT 1 vi.nd (bJ (mT T) hr T.fK (ah (pv 0) (ah (bU (v:=.int (3)) (by rfl) T.lC ⟨_,rfl⟩) af))))
  (ag (aH (PW.pt (eE (bB (cG (pv 1))) (dP (ptr fi (eQ Hi T.PQ (ah (pv 1) af)) (bU (v:=.int (7)) (by rfl) T.B9 ⟨_,rfl⟩)))))
  (aj (aq aS))
  ax)
  (aj (aq (pv 1))))),?_⟩
 ac_rfl;exists _,_,rfl,hl,fun H1 s1=>?_;cases e:rs 3 t with
 | none=>
  rw[e] at kk;change kk _ s1
 | some n=>
  rw[e] at kk;left;refine wG (fun c=>?_) (fun c=>?_)
  ·simp only[if_pos (yd c)] at kk
   change kk _ s1
  ·simp only[if_neg (fun z=>c (ze z))] at kk
   change kk _ s1
def vm:aC ["values"] ["values"] (ao yP):=dy
def eG:cX P w base 1 T.dt (Bt K):=by
 nomatch T.dt,vm
 obtain⟨a,us,rfl,ha,hl,kk⟩:=h;have sl:=yB;refine⟨_,(ag (aH (cz (eQ (gI rfl) T.Al (ah (pI (ts:=["value"]) (ys:=[]) (js:=[]) (te:=(Mh (aX 0))) (bc (pv 0)) (gy 0) bw (oE (cG (pv 0)))) af)))
  (aj (aq aS))
  ax)
  (aj (aq (pv 0)))),?_⟩
 ac_rfl;exists⟨_,ha⟩,?_;refine fO (enc:=fun v=>v) (ws:=us) (fun v=>.bl (gs v)) (fun σ=>∃v,σ=[v]) nofun (by rw[List.map_id'];exact ha) ⟨none,rfl⟩ ?_ ?_
 ·rintro v σ H1 R hv s1 ⟨_,rfl⟩ r
  change r _ _ _ (au.refl _) (by unfold Is;rfl) ⟨_,rfl⟩
 ·intro D vs H1 s1 hD il
  have e:us.map (fun v=>Dt.bl (gs v))=(us.map gs).map Dt.bl:=by rw[zA];rfl
  rw[e] at il;rw[kC il] at hD;refine⟨D,us.map gs,rfl,aG.of hD,?_⟩;have e2:(us.map gs).any id=us.any gs:=by rw[List.any_map];rfl
  rw[e2];cases q:us.any gs with
  | true=>
   rw[q] at kk;change kk _ s1
  | false=>
   rw[q] at kk;change kk _ s1
def fA:cX P w base 1 T.dt Bs:=by
 nomatch T.dt,vm
 obtain⟨a,us,rfl,ha,hl,kk⟩:=h;have sl:=yB;refine⟨_,(ag (aH (cz (eQ (gI rfl) T.Al (ah (pI (ts:=["value"]) (ys:=[]) (js:=[]) (te:=(Mh (aX 0))) (kA (pv 0)) (gy 0) bw (oE (cG (pv 0)))) af)))
  (aj (aq aS))
  ax)
  (aj (aq (pv 0)))),?_⟩
 ac_rfl;exists⟨_,dw.of ha⟩,?_;refine gG (enc:=fun v=>v) (ws:=us) (fun v=>.bl (gs v)) (fun σ=>∃v,σ=[v]) nofun (by rw[List.map_id'];exact ha) ⟨none,rfl⟩ ?_ ?_
 ·rintro v σ H1 R hv s1 ⟨_,rfl⟩ r
  change r _ _ _ (au.refl _) (by unfold Is;rfl) ⟨_,rfl⟩
 ·intro D vs H1 s1 hD il
  have e:us.map (fun v=>Dt.bl (gs v))=(us.map gs).map Dt.bl:=by rw[zA];rfl
  rw[e] at il;rw[kC il] at hD;refine⟨D,us.map gs,rfl,aG.of hD,?_⟩;have e2:(us.map gs).any id=us.any gs:=by rw[List.any_map];rfl
  rw[e2];cases q:us.any gs with
  | true=>
   rw[q] at kk;change kk _ s1
  | false=>
   rw[q] at kk;change kk _ s1
theorem As (n:Int):∀ns:List Int,Fi (.int n) (ns.map V.int)=decide (n∈ns)
 | []=>rfl
 | m::ns=>by
  have ih:=As n ns;unfold Fi at ih ⊢;rw[zh,List.any_cons,ih]
  by_cases e:n=m
  ·subst e
   simp[IL]
  ·simp[IL,e,Ne.symm (a:=m) (b:=n) (fun z=>e z.symm)]
   try omega
def Ii {t a b:Str} (h:Txt.split t "/"= [a,b]):jx t=(match mR a 1 32,fJ b with | some m,some n=>if n∈Cb then some (m,n) else none | _,_=>none):=by unfold jx;rw[h];try rfl
def KG {t:Str} (h:(Txt.split t "/").length≠2):jx t=none:=by
 unfold jx;split
 ·rename_i e;rw[e] at h;exact absurd rfl h
 ·rfl
def MH {t a b:Str} (h:Txt.split t ":"= [a,b]):yV t=(match fJ a,oR ((Txt.split b ",").map fJ) with | some n,some ps=>some (n,ps) | _,_=>none):=by unfold yV;rw[h];try rfl
def OA {t:Str} (h:(Txt.split t ":").length≠2):yV t=none:=by
 unfold yV;split
 ·rename_i e;rw[e] at h;exact absurd rfl h
 ·rfl
def gM:aC ["word","parts","top","bottom"] ["word"] (ao sg):=dy
def BL:cX P w base 4 T.qM (Bq K):=by
 nomatch T.qM,gM
 obtain⟨t,rfl,hl,kk⟩:=h;have sl:=yB;have sh:∀z∈Txt.split t "/",z.length<=600:=fun z hz=>zL (PyProof.Rows.part_short hz) hl;refine⟨_,(ag (bT 1 gM.nd (b7 yF yJ yI jC (pv 0) (ah aJ af)))
  (ag (aH (ptr j6 (eQ aB T.bu (ah (pv 1) af)) ae)
  (aj (aq aS))
  ax)
  (ag (bT 2 gM.nd (bJ (oH T) hr T.jW (ah (fL (pv 1) ae) (ah ae (ah (bU (v:=.int (32)) (by rfl) T.wX ⟨_,rfl⟩) af)))))
  (ag (bT 3 gM.nd (bJ (cu T) hr T.cV (ah (fL (pv 1) ae) af)))
  (ag (aH (PW.pt (eE (bB (cG (pv 2))) (dP (iQ d7 (pv 3) (bU (v:=.ref T.eD) (by rfl) T.wW rfl) (by with_unfolding_all rfl)))))
  (aj (aq aS))
  ax)
  (aj (aq (bj (ah (pv 2) (ah (pv 3) af)))))))))),?_⟩
 ac_rfl;exists by omega,?_
 generalize ew:Txt.split t "/"= ws at sh;intros p1 H1 s1 h1;exists p1,_,rfl,.inl (aG.of h1),?_;rw[za];left
 by_cases hw:ws.length=2
 ·obtain⟨a,b,rfl⟩:∃a b,ws=[a,b]:=by
   match ws,hw with
   | [a,b],_=>exact⟨a,b,rfl⟩
  refine cE rfl ?_;exists p1,_,0,_,rfl,rfl,aG.of h1,rfl,?_;refine⟨_,_,_,rfl,sh a (by simp),fun H2 s2=>?_⟩;exists p1,_,1,_,rfl,rfl,aG.of (s2 _ _ h1),rfl,?_;refine⟨_,rfl,sh b (by simp),fun H3 s3=>?_⟩;have s03:=(s1.trans s2).trans s3;rw[Ii ew] at kk;cases ea:mR a 1 32 with
  | none=>
   rw[ea] at kk;change kk _ _ s03 .bH
  | some m=>
   rw[ea] at kk;left;cases eb:fJ b with
   | none=>
    rw[eb] at kk;refine⟨T.eD,_,rfl,.inr (T.mY H3),rfl,rfl,?_⟩;change kk _ _ s03 .bH
   | some n=>
    rw[eb] at kk;refine⟨T.eD,Cb.map V.int,rfl,.inr (T.mY H3),rfl,rfl,?_⟩;show∃k,V.bl (!Fi (.int n) (Cb.map V.int))=.bl k/\_;rw[As]
    by_cases c:n∈Cb
    ·rw[ze c]
     simp only[if_pos c] at kk;left;refine⟨cx,laid fun p4 H4 s4 h4=>kk _ _ (s03.trans s4) (.ref h4)⟩
    ·rw[zd c]
     simp only[if_neg c] at kk;change kk _ _ s03 .bH
 ·refine ck (by rw[zd fun z=>hw (by have:=V.int.inj z;omega)];rfl) ?_
  left;rw[KG (by rw[ew];exact hw)] at kk;exact kk _ _ s1 .bH
def jR:aC ["word","parts","bar","passes"] ["word"] (ao x8):=dy
def Gg:cX P w base 4 T.y3 ve:=by
 nomatch T.y3,jR
 obtain⟨t,rfl,hl,kk⟩:=h;have sl:=yB;have sh:∀z∈Txt.split t ":",z.length<=600:=fun z hz=>zL (PyProof.Rows.part_short hz) hl;refine⟨_,(ag (bT 1 jR.nd (b7 yF yJ yI jC (pv 0) (ah aJ af)))
  (ag (aH (ptr j6 (eQ aB T.bu (ah (pv 1) af)) ae)
  (aj (aq aS))
  ax)
  (ag (bT 2 jR.nd (bJ (cu T) hr T.cV (ah (fL (pv 1) ae) af)))
  (ag (bT 3 jR.nd (bJ (eG T) hr T.dt (ah (pI (ts:=["part"]) (ys:=[]) (js:=[]) (te:=(gn ko [] E0 (bC (aX 0) eK))) (bc (b7 yF yJ yI jC (fL (pv 1) ae) (ah aJ af))) (gy 0) bw (bJ (cu T) hr T.cV (ah (pv 0) af))) af)))
  (ag (aH (PW.pt (eE (bB (cG (pv 2))) (dP (bB (cG (pv 3))))))
  (aj (aq aS))
  ax)
  (aj (aq (bj (ah (pv 2) (ah (ng cN T.gP (ah (pv 3) af)) af)))))))))),?_⟩
 ac_rfl;exists by omega,?_
 generalize ew:Txt.split t ":"= ws at sh;intros p1 H1 s1 h1;exists p1,_,rfl,.inl (aG.of h1),?_;rw[za];left
 by_cases hw:ws.length=2
 ·obtain⟨a,b,rfl⟩:∃a b,ws=[a,b]:=by
   match ws,hw with
   | [a,b],_=>exact⟨a,b,rfl⟩
  refine cE rfl ?_;exists p1,_,0,_,rfl,rfl,aG.of h1,rfl,?_;refine⟨_,rfl,sh a (by simp),fun H2 s2=>?_⟩;exists p1,_,1,_,rfl,rfl,aG.of (s2 _ _ h1),rfl,?_;left;have lb:=sh b (by simp);have bl:=PyProof.Rows.split_le b ",";have bsh:∀z∈Txt.split b ",",z.length<=600:=fun z hz=>zL (PyProof.Rows.part_short hz) lb;refine⟨nofun,?_⟩;rw[MH ew] at kk;generalize Txt.split b ","= bs at kk bl bsh;intros p3 H3 s3 h3;exists⟨_,aG.of h3⟩,?_;refine fO (enc:=V.str) (ws:=bs) (fun z=>dO .int (fJ z)) (fun σ=>∃v,σ=[v]) nofun (aG.of h3) ⟨none,rfl⟩ ?_ ?_
  ·rintro z σ H4 R hz s4 ⟨_,rfl⟩ r
   change⟨bsh z hz,fun H5 s5=>r _ _ _ s5 (Ar _) ⟨_,rfl⟩⟩
  ·intro D vs H4 s4 hD il
   have s04:=((s1.trans s2).trans s3).trans s4;refine⟨D,vs,rfl,aG.of hD,by rw[il.len,za];omega,fun H5 s5=>?_⟩;have e1:bs.map (fun z=>dO Dt.int (fJ z))=(bs.map fJ).map (dO Dt.int):=by rw[zA];rfl
   rw[e1] at il;rw[kc il];cases q:((bs.map fJ).map (dO Dt.int)).any Dt.gs with
   | true=>
    rw[jg NC q] at kk;have kn:=kk .bH H5 (s04.trans s5) (by cases fJ a <;> (unfold dO Is;rfl));cases ea:fJ a with
    | none=>change kn
    | some n=>change kn
   | false=>
    obtain⟨xs,e2,e3,e4⟩:=jf q;rw[e2] at kk;rw[e3] at il;have ev:=fG il;subst ev;cases ea:fJ a with
    | none=>
     rw[ea] at kk;change kk .bH H5 (s04.trans s5) (by unfold dO Is;rfl)
    | some n=>
     rw[ea] at kk;left;refine⟨D,_,rfl,.inl ⟨aG.of (s5 _ _ hD),?_⟩⟩;intros p6 H6 s6 h6;left;refine⟨cx,laid fun p7 H7 s7 h7=>kk _ _ (((s04.trans s5).trans s6).trans s7) ?_⟩;show Is H7 (.tup [.int n,.tup (xs.map .int)]) _;unfold Is;refine⟨p7,_,rfl,h7,?_⟩;unfold ay;refine⟨_,_,rfl,by unfold Is;rfl,?_⟩;unfold ay;refine⟨_,_,rfl,?_,by unfold ay;rfl⟩;unfold Is;exact⟨p6,_,rfl,s7 _ _ h6,tw⟩
 ·refine ck (by rw[zd fun z=>hw (by have:=V.int.inj z;omega)];rfl) ?_
  left;rw[OA (by rw[ew];exact hw)] at kk;exact kk _ _ s1 (by unfold dO Is;rfl)
def M5 {α:Type} {f:Str->Option α} {ws:List Str} (h:ws.length≠1):one f ws=none:=by
 match ws,h with
 | [],_=>rfl
 | [_],h=>exact absurd rfl h
 | _::_::_,_=>rfl
def xW:aC ["words"] ["words"] (ao pZ):=dy
def Ai:cX P w base 2 T.jZ (fT K (qt .str (one cL))):=by
 nomatch T.jZ,xW
 obtain⟨p,ws,rfl,hp,hl,sh,kk⟩:=h;refine⟨_,(ag (aH (ptr j6 (eQ aB T.bu (ah (pv 0) af)) ae)
  (aj (aq aS))
  ax)
  (aj (aq (bJ (d8 T) hr T.fb (ah (fL (pv 0) ae) af))))),?_⟩
 ac_rfl;exists p,_,rfl,.inl hp,?_;rw[za];left
 by_cases hw:ws.length=1
 ·obtain⟨a,rfl⟩:∃a,ws=[a]:=by
   match ws,hw with
   | [a],_=>exact⟨a,rfl⟩
  refine cE rfl ?_;exists p,_,0,_,rfl,rfl,hp,rfl,?_;exact⟨_,rfl,sh a (by simp),fun H1 s1=>kk _ _ s1 (CS _)⟩
 ·refine ck (by rw[zd fun z=>hw (by have:=V.int.inj z;omega)];rfl) ?_
  left;refine kk _ _ (au.refl _) ?_;unfold qt;rw[M5 hw];exact d4
def xV:aC ["words"] ["words"] (ao pW):=dy
def Ag:cX P w base 5 T.jX (fT K (qt dL (one lr))):=by
 nomatch T.jX,xV
 obtain⟨p,ws,rfl,hp,hl,sh,kk⟩:=h;refine⟨_,(ag (aH (ptr j6 (eQ aB T.bu (ah (pv 0) af)) ae)
  (aj (aq aS))
  ax)
  (aj (aq (bJ (g9 T) hr T.dX (ah (fL (pv 0) ae) af))))),?_⟩
 ac_rfl;exists p,_,rfl,.inl hp,?_;rw[za];left
 by_cases hw:ws.length=1
 ·obtain⟨a,rfl⟩:∃a,ws=[a]:=by
   match ws,hw with
   | [a],_=>exact⟨a,rfl⟩
  refine cE rfl ?_;exists p,_,0,_,rfl,rfl,hp,rfl,?_;exact⟨_,rfl,sh a (by simp),fun v H1 s1 h1=>kk _ _ s1 (Aq h1)⟩
 ·refine ck (by rw[zd fun z=>hw (by have:=V.int.inj z;omega)];rfl) ?_
  left;refine kk _ _ (au.refl _) ?_;unfold qt;rw[M5 hw];exact d4
def EH {α:Type} (d:α->Dt) (o:Option α):dO d o=(o.map d).getD .bH:=by cases o <;> rfl
def EV {H:Hp} {ds:List Dt} {us:List V} {a:Addr} {d:Option Dt} (ha:H a=some (.tup us)) (il:ay H ds us) (h1:ds.any Dt.gs=true->d=none) (h2:ds.any Dt.gs=false->d=some (.tup ds)):Is H (d.getD .bH) (if us.any gs=true then .bH else .ref a):=by
 rw[kc il];cases q:ds.any Dt.gs with
 | true=>rw[h1 q];exact d4
 | false=>rw[h2 q];exact cB ha il
def qE:aC ["words"] ["words"] (ao jS):=dy
def qT:cX P w base 5 T.fF (fT K (qt eL lS)):=by
 nomatch T.fF,qE
 obtain⟨p,ws,rfl,hp,hl,sh,kk⟩:=h;refine⟨_,(ag (aH (ptr j6 (eQ aB T.bu (ah (pv 0) af)) ae)
  (aj (aq aS))
  ax)
  (aj (aq (bJ (fA T) hr T.dt (ah (bj (ah (bJ (d8 T) hr T.fb (ah (fL (pv 0) ae) af)) (ah (bJ (DX T) hr T.um (ah (fL (pv 0) ae) (ah (fL (pv 0) ae) af))) (ah (bJ (DY T) hr T.uo (ah (fL (pv 0) ae) af)) af)))) af))))),?_⟩
 ac_rfl;exists p,_,rfl,.inl hp,?_;rw[za];left
 by_cases hw:ws.length=4
 ·obtain⟨a,b,c,d,rfl⟩:∃a b c d,ws=[a,b,c,d]:=by
   match ws,hw with
   | [a,b,c,d],_=>exact⟨a,b,c,d,rfl⟩
  refine cE rfl ?_;exists p,_,0,_,rfl,rfl,hp,rfl,?_;refine⟨_,rfl,sh a (by simp),fun H1 s1=>?_⟩;exists p,_,1,_,rfl,rfl,s1.seq hp,rfl,?_;exists p,_,2,_,rfl,rfl,s1.seq hp,rfl,?_;refine⟨_,_,rfl,sh b (by simp),sh c (by simp),fun v2 H2 s2 h2=>?_⟩;exists p,_,3,_,rfl,rfl,(s1.trans s2).seq hp,rfl,?_;refine⟨_,rfl,sh d (by simp),fun v3 H3 s3 h3=>?_⟩;exists nQ,?_;intros p4 H4 s4 h4;have s24:=s3.trans s4;refine⟨p4,_,rfl,h4,(by show 3<=1000000;decide),fun H5 s5=>kk _ _ (((s1.trans s2).trans s24).trans s5) ?_⟩;unfold qt;rw[EH];refine EV (s5 _ _ h4) (aL (CS _) (aL (Aq (h2.mono (s24.trans s5))) (oN (Aq (h3.mono (s4.trans s5)))))) ?_ ?_
  ·simp only[lS]
   cases cL a <;> cases yU b c <;> cases N9 d <;> first | (intro _;rfl) | (intro q;exact absurd q (by simp[dO,dL,Dt.gs]))
  ·simp only[lS]
   cases cL a <;> cases yU b c <;> cases N9 d <;> first | (intro _;rfl) | (intro q;exact absurd q (by simp[dO,dL,Dt.gs]))
 ·refine ck (by rw[zd fun z=>hw (by have:=V.int.inj z;omega)];rfl) ?_
  left;refine kk _ _ (au.refl _) ?_;have e:lS ws=none:=by
   unfold lS;split
   ·exact absurd rfl hw
   ·rfl
  unfold qt;rw[e];exact d4
def DL:aC ["words"] ["words"] (ao vw):=dy
def D1:cX P w base 3 T.oX (fT K (qt vP sH)):=by
 nomatch T.oX,DL
 obtain⟨p,ws,rfl,hp,hl,sh,kk⟩:=h;refine⟨_,(ag (aH (ptr j6 (eQ aB T.bu (ah (pv 0) af)) ae)
  (aj (aq aS))
  ax)
  (aj (aq (bJ (fA T) hr T.dt (ah (bj (ah (bJ (d8 T) hr T.fb (ah (fL (pv 0) ae) af)) (ah (bJ (cu T) hr T.cV (ah (fL (pv 0) ae) af)) (ah (bJ (d8 T) hr T.fb (ah (fL (pv 0) ae) af)) af)))) af))))),?_⟩
 ac_rfl;exists p,_,rfl,.inl hp,?_;rw[za];left
 by_cases hw:ws.length=3
 ·obtain⟨a,b,c,rfl⟩:∃a b c,ws=[a,b,c]:=by
   match ws,hw with
   | [a,b,c],_=>exact⟨a,b,c,rfl⟩
  refine cE rfl ?_;exists p,_,0,_,rfl,rfl,hp,rfl,?_;refine⟨_,rfl,sh a (by simp),fun H1 s1=>?_⟩;exists p,_,1,_,rfl,rfl,s1.seq hp,rfl,?_;refine⟨_,rfl,sh b (by simp),fun H2 s2=>?_⟩;exists p,_,2,_,rfl,rfl,(s1.trans s2).seq hp,rfl,?_;refine⟨_,rfl,sh c (by simp),fun H3 s3=>?_⟩;exists nQ,?_;intros p4 H4 s4 h4;refine⟨p4,_,rfl,h4,(by show 3<=1000000;decide),fun H5 s5=>kk _ _ (((s1.trans s2).trans (s3.trans s4)).trans s5) ?_⟩;unfold qt;rw[EH];refine EV (s5 _ _ h4) (aL (CS _) (aL (Ar _) (oN (CS _)))) ?_ ?_
  ·simp only[sH]
   cases cL a <;> cases fJ b <;> cases cL c <;> first | (intro _;rfl) | (intro q;exact absurd q (by simp[dO,dL,Dt.gs]))
  ·simp only[sH]
   cases cL a <;> cases fJ b <;> cases cL c <;> first | (intro _;rfl) | (intro q;exact absurd q (by simp[dO,dL,Dt.gs]))
 ·refine ck (by rw[zd fun z=>hw (by have:=V.int.inj z;omega)];rfl) ?_
  left;refine kk _ _ (au.refl _) ?_;have e:sH ws=none:=by
   unfold sH;split
   ·exact absurd rfl hw
   ·rfl
  unfold qt;rw[e];exact d4
def oJ {H:Hp} {ws:List Str} {vs:List V} {α:Type} {d:α->Dt} {f:Str->Option α} (il:ay H (ws.map fun z=>dO d (f z)) vs):ay H ((ws.map f).map (dO d)) vs:=by
 have e:ws.map (fun z=>dO d (f z))=(ws.map f).map (dO d):=by rw[zA];rfl
 rw[<-e];exact il
def pQ:aC ["words","names"] ["words"] (ao rV):=dy
def BI:cX P w base 2 T.lQ (fT K (qt gF qO)):=by
 nomatch T.lQ,pQ
 obtain⟨p,ws,rfl,hp,hl,sh,kk⟩:=h;have sl:=yB;refine⟨_,(ag (aH (ptr fw (eQ aB T.bu (ah (pv 0) af)) ae)
  (aj (aq aS))
  ax)
  (ag (bT 1 pQ.nd (bJ (eG T) hr T.dt (ah (pI (ts:=["word"]) (ys:=[]) (js:=[]) (te:=(gn lI [] E0 (bC (aX 0) eK))) (bc (pv 0)) (gy 0) bw (bJ (d8 T) hr T.fb (ah (pv 0) af))) af)))
  (ag (aH (bB (cG (pv 1)))
  (aj (aq aS))
  ax)
  (aj (aq (bj (ah (fL (pv 1) ae) (ah (ng cN T.gP (ah (dF gL (pv 1) (eN ae) eO) af)) af)))))))),?_⟩
 ac_rfl;exists p,_,rfl,.inl hp,?_;rw[za];left;refine wG (fun c=>?_) (fun c=>?_)
 ·left
  refine kk _ _ (au.refl _) ?_;have hw:=yd c;have e:qO ws=none:=by
   unfold qO;split
   ·simp at hw;omega
   ·rfl
  unfold qt;rw[e];exact d4
 ·have hw:¬(ws.length:Int)<2:=fun z=>c (ze z)
  obtain⟨a,b,r,rfl⟩:∃a b r,ws=a::b::r:=by
   match ws,hw with
   | [],h=>exact absurd (by simp) h
   | [_],h=>exact absurd (by simp) h
   | a::b::r,_=>exact⟨a,b,r,rfl⟩
  exists⟨_,hp⟩,?_;refine fO (enc:=V.str) (ws:=a::b::r) (fun z=>dO .str (cL z)) (fun σ=>∃v,σ=[v]) nofun hp ⟨none,rfl⟩ ?_ ?_
  ·rintro z σ H4 R hz s4 ⟨_,rfl⟩ r
   change⟨sh z hz,fun H5 s5=>r _ _ _ s5 (CS _) ⟨_,rfl⟩⟩
  ·intro D vs H4 s4 hD il
   refine⟨D,vs,rfl,aG.of hD,by rw[il.len,za];omega,fun H5 s5=>?_⟩;have il:=oJ il;rw[kc il];cases q:(((a::b::r).map cL).map (dO Dt.str)).any Dt.gs with
   | true=>
    left;refine kk _ _ (s4.trans s5) ?_;unfold qt;rw[qN,jg GJ q];exact d4
   | false=>
    obtain⟨xs,e2,e3,e4⟩:=jf q;rw[e3] at il;have ev:=dI il;subst ev;obtain⟨n,ps,rfl⟩:∃n ps,xs=n::ps:=by
     match xs,e4 with
     | n::ps,_=>exact⟨n,ps,rfl⟩
    have hD5:=s5 _ _ hD;exists D,_,0,_,rfl,rfl,aG.of hD5,bx (j:=0) rfl,?_;exists D,_,rfl,aG.of hD5,?_;rw[show kG (List.map V.str (n::ps)) (some 1) none=ps.map V.str from(fN _ 1).trans rfl];intros p6 H6 s6 h6;left;refine⟨p6,_,rfl,.inl ⟨aG.of h6,?_⟩⟩;intros p7 H7 s7 h7;left;refine⟨cx,laid fun p8 H8 s8 h8=>kk _ _ (((((s4.trans s5).trans s6).trans s7)).trans s8) ?_⟩;unfold qt;rw[qN,e2];exact cB h8 (aL d9 (oN (cB (s8 _ _ h7) Dr)))
def vj:aC ["words","marks"] ["words"] (ao x9):=dy
def Gh:cX P w base 5 T.sF (fT K (qt lB BG)):=by
 nomatch T.sF,vj
 obtain⟨p,ws,rfl,hp,hl,sh,kk⟩:=h;have sl:=yB;refine⟨_,(ag (aH (ptr fw (eQ aB T.bu (ah (pv 0) af)) ae)
  (aj (aq aS))
  ax)
  (ag (bT 1 vj.nd (bJ (eG T) hr T.dt (ah (pI (ts:=["word"]) (ys:=[]) (js:=[]) (te:=(gn lI [] E0 (bC (aX 0) eK))) (bc (dF gL (pv 0) (eN ae) eO)) (gy 0) bw (bJ (d8 T) hr T.fb (ah (pv 0) af))) af)))
  (ag (aH (bB (cG (pv 1)))
  (aj (aq aS))
  ax)
  (aj (aq (bJ (fA T) hr T.dt (ah (bj (ah (bJ (BL T) hr T.qM (ah (fL (pv 0) ae) af)) (ah (bJ (Gf T) hr T.yZ (ah (fL (pv 0) ae) af)) (ah (ng cN T.gP (ah (pv 1) af)) af)))) af))))))),?_⟩
 ac_rfl;exists p,_,rfl,.inl hp,?_;rw[za];left;refine wG (fun c=>?_) (fun c=>?_)
 ·left
  refine kk _ _ (au.refl _) ?_;have hw:=yd c;have e:BG ws=none:=by
   unfold BG;split
   ·simp at hw;omega
   ·rfl
  unfold qt;rw[e];exact d4
 ·have hw:¬(ws.length:Int)<2:=fun z=>c (ze z)
  obtain⟨a,b,r,rfl⟩:∃a b r,ws=a::b::r:=by
   match ws,hw with
   | [],h=>exact absurd (by simp) h
   | [_],h=>exact absurd (by simp) h
   | a::b::r,_=>exact⟨a,b,r,rfl⟩
  rw[zt,zt] at hl;exists p,_,rfl,hp,?_;rw[show kG (List.map V.str (a::b::r)) (some 2) none=r.map V.str from(fN _ 2).trans rfl];intros p1 H1 s1 h1;exists⟨_,aG.of h1⟩,?_;refine fO (enc:=V.str) (ws:=r) (fun z=>dO .str (cL z)) (fun σ=>∃v,σ=[v]) nofun (aG.of h1) ⟨none,rfl⟩ ?_ ?_
  ·rintro z σ H4 R hz s4 ⟨_,rfl⟩ r
   change⟨sh z (by simp[hz]),fun H5 s5=>r _ _ _ s5 (CS _) ⟨_,rfl⟩⟩
  ·intro D vs H4 s4 hD il
   refine⟨D,vs,rfl,aG.of hD,by rw[il.len,za];omega,fun H5 s5=>?_⟩;have il:=oJ il;rw[kc il];have s05:=(s1.trans s4).trans s5;cases q:((r.map cL).map (dO Dt.str)).any Dt.gs with
   | true=>
    left;refine kk _ _ s05 ?_;unfold qt;simp only[BG];rw[jg GJ q];exact d4
   | false=>
    obtain⟨xs,e2,e3,e4⟩:=jf q;rw[e3] at il;have ev:=dI il;subst ev;have hD5:=s5 _ _ hD;exists p,_,0,_,rfl,rfl,s05.seq hp,bx (j:=0) rfl,?_;refine⟨_,rfl,sh a (by simp),fun v6 H6 s6 h6=>?_⟩;exists p,_,1,_,rfl,rfl,(s05.trans s6).seq hp,bx (j:=1) rfl,?_;refine⟨_,rfl,sh b (by simp),fun H7 s7=>?_⟩;left;refine⟨D,_,rfl,.inl ⟨aG.of (s7 _ _ (s6 _ _ hD5)),?_⟩⟩;intros p8 H8 s8 h8;exists nQ,?_;intros p9 H9 s9 h9;refine⟨p9,_,rfl,h9,(by show 3<=1000000;decide),fun Hx sx=>kk _ _ (((((s05.trans s6).trans s7).trans s8).trans s9).trans sx) ?_⟩;unfold qt;rw[EH];refine EV (ds:=[dO dL (jx a),dO .int (FV b),m8 xs]) (sx _ _ h9) (aL (Aq (h6.mono (((s7.trans s8).trans s9).trans sx))) (aL (Ar _) (oN (cB (sx _ _ (s9 _ _ h8)) Dr)))) ?_ ?_
    ·simp only[BG]
     rw[e2];cases jx a <;> cases FV b <;> first | (intro _;rfl) | (intro q;exact absurd q (by simp[dO,dL,Dt.gs,m8]))
    ·simp only[BG]
     rw[e2];cases jx a <;> cases FV b <;> first | (intro _;rfl) | (intro q;exact absurd q (by simp[dO,dL,Dt.gs,m8]))
theorem xo {H:Hp} {α:Type} {d:α->Dt}:∀{xs:List α} {vs:List V},ay H (xs.map d) vs->∃ps:List (α×V),ps.map (·.1)=xs/\ps.map (·.2)=vs/\∀q∈ps,Is H (d q.1) q.2
 | [],_,h=>by unfold ay at h;exact⟨[],rfl,h.symm,fun _ z=>nomatch z⟩
 | x::xs,_,h=>by
  rw[zh] at h;unfold ay at h;obtain⟨u,r,rfl,h1,h2⟩:=h;obtain⟨ps,e1,e2,hh⟩:=xo h2;refine⟨(x,u)::ps,by simp[e1],by simp[e2],fun q m=>?_⟩;rcases zC.mp m with e | m
  ·subst e;exact h1
  ·exact hh q m
def item_at {H:Hp} {it:Item} {v:V} (h:Is H (eZ it) v):∃a pv lv,v=.ref a/\H a=some (.tup [pv,lv])/\Is H (dO dL it.1) pv/\Is H (dL it.2) lv:=by
 unfold eZ Is at h;obtain⟨a,vs,rfl,ha,hl⟩:=h;unfold ay at hl;obtain⟨pv,r,rfl,h1,hl⟩:=hl;unfold ay at hl;obtain⟨lv,r,rfl,h2,hl⟩:=hl;unfold ay at hl;subst hl;exact⟨a,pv,lv,rfl,ha,h1,h2⟩
def Sk {H:Hp} {α:Type} {d:α->Dt} (f:Jv d) {o:Option α} {v:V} (h:Is H (dO d o) v):gs v=o.isNone:=by
 rw[Nr h];cases o with
 | none=>rfl
 | some x=>exact f x
def pR:aC ["words","items"] ["words"] (ao rZ):=dy
def BK:cX P w base 6 T.lR (fT K SG):=by
 nomatch T.lR,pR
 obtain⟨p,ws,rfl,hp,hl,sh,kk⟩:=h;have sl:=yB;refine⟨_,(ag (aH (ptr fw (eQ aB T.bu (ah (pv 0) af)) ae)
  (aj (aq aS))
  ax)
  (ag (bT 1 pR.nd (bJ (eG T) hr T.dt (ah (pI (ts:=["word"]) (ys:=[]) (js:=[]) (te:=(gn pN [] E0 (bC (aX 0) eK))) (bc (dF gL (pv 0) (eN ae) eO)) (gy 0) bw (bJ (BH T) hr T.uq (ah (pv 0) af))) af)))
  (ag (aH (PW.pt (eE (bB (cG (pv 1))) (dP (cz (eQ (pz rfl) T.JR (ah (pI (ts:=["item"]) (ys:=[]) (js:=[]) (te:=(Mh (fH (qP K) (aX 0) (tC (.int (0)))))) (bc (pv 1)) (gy 0) bw (oE (cG (bR (pv 0) ae)))) af))))))
  (aj (aq aS))
  ax)
  (aj (aq (bJ (fA T) hr T.dt (ah (bj (ah (bJ (cu T) hr T.cV (ah (fL (pv 0) ae) af)) (ah (bJ (d8 T) hr T.fb (ah (fL (pv 0) ae) af)) (ah (pv 1) af)))) af))))))),?_⟩
 ac_rfl;exists p,_,rfl,.inl hp,?_;rw[za];left;refine wG (fun c=>?_) (fun c=>?_)
 ·left
  refine kk _ _ (au.refl _) ?_;have hw:=yd c;have e:kz ws=none:=by
   unfold kz;split
   ·simp at hw;omega
   ·rfl
  unfold SG;rw[e]
 ·have hw:¬(ws.length:Int)<3:=fun z=>c (ze z)
  obtain⟨a,b,i,r,rfl⟩:∃a b i r,ws=a::b::i::r:=by
   match ws,hw with
   | [],h=>exact absurd (by simp) h
   | [_],h=>exact absurd (by simp) h
   | [_,_],h=>exact absurd (by simp) h
   | a::b::i::r,_=>exact⟨a,b,i,r,rfl⟩
  have en:kz (a::b::i::r)=(match oR ((i::r).map ir) with | some l=>if l.all (fun it=>it.1.isNone)=true then none else(match fJ a,cL b with | some x,some y=>some (x,y,l) | _,_=>none) | none=>none):=rfl;unfold SG at kk;rw[en] at kk;have sh':∀z∈i::r,z.length<=600:=fun z hz=>sh z (by simp at hz ⊢;rcases hz with h | h <;> simp[h]);have hl':(i::r).length<=1000000:=by simp at hl ⊢;omega
  exists p,_,rfl,hp,?_;rw[show kG (List.map V.str (a::b::i::r)) (some 2) none=(i::r).map V.str from(fN _ 2).trans rfl];clear en;generalize i::r=its at kk sh' hl';intros p1 H1 s1 h1;exists⟨_,aG.of h1⟩,?_;refine eA (enc:=V.str) (ws:=its) (fun z=>dO eZ (ir z)) (fun σ=>∃v,σ=[v]) nofun (aG.of h1) ⟨none,rfl⟩ ?_ ?_
  ·rintro z σ H4 R hz s4 ⟨_,rfl⟩ r
   change⟨sh' z hz,fun v H5 s5 h5=>r _ _ _ s5 (Sj h5) ⟨_,rfl⟩⟩
  ·intro D vs H4 s4 nD hD il
   refine⟨D,vs,rfl,aG.of hD,by rw[il.len,za];omega,fun H5 s5=>?_⟩;have il:=oJ il;rw[kc il];have s05:=(s1.trans s4).trans s5;cases q:((its.map ir).map (dO eZ)).any Dt.gs with
   | true=>
    left;refine kk _ _ s05 ?_;rw[jg K7 q]
   | false=>
    obtain⟨xs,e2,e3,e4⟩:=jf q;rw[e3] at il;rw[e2] at kk;have il5:=il.mono s5;have hD5:=s5 _ _ hD;obtain⟨ps,f1,f2,f3⟩:=xo il5;have pl:ps.length<=1000000:=by
     have:ps.length=xs.length:=by rw[<-f1,za]
     rw[this,e4,za];exact hl'
    exists⟨_,aG.of hD5⟩,?_;refine fO (enc:=fun q:Item×V=>q.2) (ws:=ps) (fun q=>.bl q.1.1.isNone) (fun σ=>∃v,σ=[v]) nofun (by rw[f2];exact aG.of hD5) ⟨none,rfl⟩ ?_ ?_
    ·rintro z σ H6 R hz s6 ⟨_,rfl⟩ r
     obtain⟨a6,pv,lv,ev,h6,h7,h8⟩:=item_at (f3 z hz);rw[ev];have h66:=s6 _ _ h6;left;refine r _ _ _ (au.refl _) ?_ ⟨_,rfl⟩;rw[<-Sk Rb h7];unfold Is;rfl
    ·intro D2 vs2 H6 s6 hD2 il2
     have e5:ps.map (fun q=>Dt.bl q.1.1.isNone)=(ps.map fun q=>q.1.1.isNone).map Dt.bl:=by rw[zA];rfl
     rw[e5] at il2;rw[kC il2] at hD2;refine⟨D2,_,rfl,aG.of hD2,?_⟩;have e6:(ps.map fun q=>q.1.1.isNone).all id=xs.all fun it=>it.1.isNone:=by rw[<-f1,List.all_map,List.all_map];rfl
     rw[e6];cases qa:xs.all fun it=>it.1.isNone with
     | true=>
      dsimp only at kk;rw[qa] at kk;change kk _ _ (s05.trans s6) rfl
     | false=>
      dsimp only at kk;rw[qa] at kk;have s06:=s05.trans s6;exists p,_,0,_,rfl,rfl,s06.seq hp,bx (j:=0) rfl,?_;refine⟨_,rfl,sh a (by simp),fun H7 s7=>?_⟩;exists p,_,1,_,rfl,rfl,(s06.trans s7).seq hp,bx (j:=1) rfl,?_;refine⟨_,rfl,sh b (by simp),fun H8 s8=>?_⟩;exists nQ,?_;intros p9 H9 s9 h9;have s59:=((s6.trans s7).trans s8).trans s9;refine⟨p9,_,rfl,h9,(by show 3<=1000000;decide),fun Hx sx=>kk _ _ ((s05.trans s59).trans sx) ?_⟩;have s5x:=s59.trans sx;have h9x:=sx _ _ h9;clear h9
      revert h9x
      cases fJ a <;> cases cL b <;> intro h9x <;> first | rfl | exact⟨p9,D,vs,rfl,h9x,s5x _ _ hD5,il5.mono s5x,s1.back nD⟩
def ji:aC ["words","times","ends"] ["words"] (ao pY):=dy
def Ah:cX P w base 5 T.jY (fT K (qt jO j0)):=by
 nomatch T.jY,ji
 obtain⟨p,ws,rfl,hp,hl,sh,kk⟩:=h;have sl:=yB;refine⟨_,(ag (aH (ptr fw (eQ aB T.bu (ah (pv 0) af)) ae)
  (aj (aq aS))
  ax)
  (ag (bT 1 ji.nd (bJ (oH T) hr T.jW (ah (fL (pv 0) ae) (ah (bU (v:=.int (2)) (by rfl) T.A1 ⟨_,rfl⟩) (ah (bU (v:=.int (9)) (by rfl) T.EM ⟨_,rfl⟩) af)))))
  (ag (bT 2 ji.nd (bJ (eG T) hr T.dt (ah (pI (ts:=["word"]) (ys:=[]) (js:=[]) (te:=(gn ve [] E0 (bC (aX 0) eK))) (bc (dF gL (pv 0) (eN ae) eO)) (gy 0) bw (bJ (Gg T) hr T.y3 (ah (pv 0) af))) af)))
  (ag (aH (bB (cG (pv 2)))
  (aj (aq aS))
  ax)
  (aj (aq (bJ (fA T) hr T.dt (ah (bj (ah (bJ (cu T) hr T.cV (ah (fL (pv 0) ae) af)) (ah (bJ (cu T) hr T.cV (ah (fL (pv 0) ae) af)) (ah (pv 1) (ah (ng cN T.gP (ah (pv 2) af)) af))))) af)))))))),?_⟩
 ac_rfl;exists p,_,rfl,.inl hp,?_;rw[za];left;refine wG (fun c=>?_) (fun c=>?_)
 ·left
  refine kk _ _ (au.refl _) ?_;have hw:=yd c;have e:j0 ws=none:=by
   unfold j0;split
   ·simp at hw;omega
   ·rfl
  unfold qt;rw[e];exact d4
 ·have hw:¬(ws.length:Int)<3:=fun z=>c (ze z)
  obtain⟨a,b,c',r,rfl⟩:∃a b i r,ws=a::b::i::r:=by
   match ws,hw with
   | [],h=>exact absurd (by simp) h
   | [_],h=>exact absurd (by simp) h
   | [_,_],h=>exact absurd (by simp) h
   | a::b::i::r,_=>exact⟨a,b,i,r,rfl⟩
  have en:j0 (a::b::c'::r)=(match oR (r.map yV) with | some l=>(match fJ a,fJ b,mR c' 2 9 with | some x,some y,some z=>some ⟨x,y,z,l⟩ | _,_,_=>none) | none=>none):=rfl;unfold qt at kk;rw[en] at kk;have sh':∀z∈r,z.length<=600:=fun z hz=>sh z (by simp[hz]);have hl':r.length<=1000000:=by simp at hl ⊢;omega
  exists p,_,2,_,rfl,rfl,hp,bx (j:=2) rfl,?_;refine⟨_,_,_,rfl,sh c' (by simp),fun H0 s0=>?_⟩;exists p,_,rfl,s0.seq hp,?_;rw[show kG (List.map V.str (a::b::c'::r)) (some 3) none=r.map V.str from(fN _ 3).trans rfl];intros p1 H1 s1 h1;exists⟨_,aG.of h1⟩,?_;refine fO (enc:=V.str) (ws:=r) (fun z=>dO nu (yV z)) (fun σ=>∃v,σ=[v]) nofun (aG.of h1) ⟨none,rfl⟩ ?_ ?_
  ·rintro z σ H4 R hz s4 ⟨_,rfl⟩ r
   change⟨sh' z hz,fun v H5 s5 h5=>r _ _ _ s5 h5 ⟨_,rfl⟩⟩
  ·intro D vs H4 s4 hD il
   refine⟨D,vs,rfl,aG.of hD,by rw[il.len,za];omega,fun H5 s5=>?_⟩;have il:=oJ il;rw[kc il];have s05:=((s0.trans s1).trans s4).trans s5;cases q:((r.map yV).map (dO nu)).any Dt.gs with
   | true=>
    left;refine kk _ _ s05 ?_;rw[jg ND q];exact d4
   | false=>
    obtain⟨xs,e2,e3,e4⟩:=jf q;rw[e3] at il;rw[e2] at kk;have il5:=il.mono s5;have hD5:=s5 _ _ hD;exists p,_,0,_,rfl,rfl,s05.seq hp,bx (j:=0) rfl,?_;refine⟨_,rfl,sh a (by simp),fun H6 s6=>?_⟩;exists p,_,1,_,rfl,rfl,(s05.trans s6).seq hp,bx (j:=1) rfl,?_;refine⟨_,rfl,sh b (by simp),fun H7 s7=>?_⟩;left;refine⟨D,_,rfl,.inl ⟨aG.of (s7 _ _ (s6 _ _ hD5)),?_⟩⟩;intros p8 H8 s8 h8;exists by show 4<=sizeLine;omega,?_
    intros p9 H9 s9 h9;have s59:=((s6.trans s7).trans s8).trans s9;refine⟨p9,_,rfl,h9,(by show 4<=1000000;decide),fun Hx sx=>kk _ _ ((s05.trans s59).trans sx) ?_⟩;rw[EH];refine EV (ds:=[dO .int (fJ a),dO .int (fJ b),dO .int (mR c' 2 9),.tup (xs.map nu)]) (sx _ _ h9) (aL (Ar _) (aL (Ar _) (aL (Ar _) (oN (cB (sx _ _ (s9 _ _ h8)) (il5.mono (s59.trans sx))))))) ?_ ?_
    ·cases fJ a <;> cases fJ b <;> cases mR c' 2 9 <;> first | (intro _;rfl) | (intro q;exact absurd q (by simp[dO,dL,Dt.gs]))
    ·cases fJ a <;> cases fJ b <;> cases mR c' 2 9 <;> first | (intro _;rfl) | (intro q;exact absurd q (by simp[dO,dL,Dt.gs]))
def lK:aC ["words","stops","coda"] ["words"] (ao vt):=dy
def DZ:cX P w base 3 T.oW (fT K (qt jG vE)):=by
 nomatch T.oW,lK
 obtain⟨p,ws,rfl,hp,hl,sh,kk⟩:=h;have sl:=yB;refine⟨_,(ag (aH (ptr j6 (eQ aB T.bu (ah (pv 0) af)) ae)
  (aj (aq aS))
  ax)
  (ag (bT 1 lK.nd (bJ (eG T) hr T.dt (ah (pI (ts:=["word"]) (ys:=[]) (js:=[]) (te:=(gn ko [] E0 (bC (aX 0) eK))) (bc (dF gL (pv 0) eO (eN ae))) (gy 0) bw (bJ (cu T) hr T.cV (ah (pv 0) af))) af)))
  (ag (bT 2 lK.nd (bJ (cu T) hr T.cV (ah (fL (pv 0) ae) af)))
  (ag (aH (PW.pt (eE (bB (cG (pv 1))) (dP (PW.pt (dr (bB (cG (pv 2))) (cR (ptr j6 (fL (pv 0) ae) aJ)))))))
  (aj (aq aS))
  ax)
  (aj (aq (bj (ah (fL (pv 1) ae) (ah (fL (pv 1) ae) (ah (fL (pv 1) ae) (ah (pv 2) af))))))))))),?_⟩
 ac_rfl;exists p,_,rfl,.inl hp,?_;rw[za];left
 by_cases hw:ws.length=4
 ·obtain⟨a,b,c,d,rfl⟩:∃a b c d,ws=[a,b,c,d]:=by
   match ws,hw with
   | [a,b,c,d],_=>exact⟨a,b,c,d,rfl⟩
  have en:vE [a,b,c,d]=(match fJ a,fJ b,fJ c with | some x,some y,some z=>(match fJ d with | some n=>some ⟨x,y,z,some n⟩ | none=>if d ="end" then some ⟨x,y,z,none⟩ else none) | _,_,_=>none):=rfl;unfold qt at kk;rw[en] at kk;refine cE rfl ?_;exists p,_,rfl,hp,?_;rw[show kG (List.map V.str [a,b,c,d]) none (some 3)=[a,b,c].map V.str from(EI _ 3).trans rfl];intros p1 H1 s1 h1;exists⟨_,aG.of h1⟩,?_;refine fO (enc:=V.str) (ws:=[a,b,c]) (fun z=>dO .int (fJ z)) (fun σ=>∃v,σ=[v]) (by show 3<=sizeLine;omega) (aG.of h1) ⟨none,rfl⟩ ?_ ?_
  ·rintro z σ H4 R hz s4 ⟨_,rfl⟩ r
   change⟨sh z (by simp at hz ⊢;rcases hz with h | h | h <;> simp[h]),fun H5 s5=>r _ _ _ s5 (Ar _) ⟨_,rfl⟩⟩
  ·intro D vs H4 s4 hD il
   refine⟨D,vs,rfl,aG.of hD,by rw[il.len];show 3<=1000000;decide,fun H5 s5=>?_⟩;have il:=oJ il;rw[kc il];have s05:=(s1.trans s4).trans s5;cases q:(([a,b,c].map fJ).map (dO Dt.int)).any Dt.gs with
   | true=>
    exists p,_,3,_,rfl,rfl,s05.seq hp,rfl,?_;refine⟨_,rfl,sh d (by simp),fun H6 s6=>?_⟩;left;refine kk _ _ (s05.trans s6) ?_;have q':([fJ a,fJ b,fJ c].map (dO Dt.int)).any Dt.gs=true:=q;clear q en kk
    revert q'
    cases fJ a <;> cases fJ b <;> cases fJ c <;> intro q' <;> first | exact d4 | exact absurd q' (by simp[dO,Dt.gs])
   | false=>
    obtain⟨x,y,z,ea,eb,ec⟩:∃x y z,fJ a=some x/\fJ b=some y/\fJ c=some z:=by
     have q':([fJ a,fJ b,fJ c].map (dO Dt.int)).any Dt.gs=false:=q;clear q en kk il
     revert q'
     cases fJ a <;> cases fJ b <;> cases fJ c <;> intro q' <;> first | exact⟨_,_,_,rfl,rfl,rfl⟩ | exact absurd q' (by simp[dO,Dt.gs])
    rw[ea,eb,ec] at kk;have il':ay H4 ([x,y,z].map Dt.int) vs:=by
     have:([a,b,c].map fJ).map (dO Dt.int)=[x,y,z].map Dt.int:=by simp[ea,eb,ec,dO]
     rw[this] at il;exact il
    have ev:=fG il';subst ev;have hD5:=s5 _ _ hD;exists p,_,3,_,rfl,rfl,s05.seq hp,rfl,?_;refine⟨_,rfl,sh d (by simp),fun H6 s6=>?_⟩;have hD6:=s6 _ _ hD5;have s06:=s05.trans s6;have fin:∀(o:Option Int) (v:V),Is H6 (dO .int o) v->fJ d=o->(o=none->d ="end")->∀p7 H7,au H6 H7->H7 p7=some (.tup [.int x,.int y,.int z,v])->Q (.ref p7) H7:=fun o v iv eo hend p7 H7 s7 h7=>by
     refine kk _ _ (s06.trans s7) ?_;rw[eo];cases o with
     | none=>
      simp only[hend rfl,if_pos];exact cB h7 (aL cP (aL cP (aL cP (oN (iv.mono s7)))))
     | some n=>exact cB h7 (aL cP (aL cP (aL cP (oN (iv.mono s7)))))
    cases ed:fJ d with
    | none=>
     exists p,_,3,_,rfl,rfl,s06.seq hp,rfl,?_;left
     by_cases he:d ="end"
     ·refine cE (by rw[he];rfl) ?_
      exists D,_,0,_,rfl,rfl,aG.of hD6,rfl,?_;exists D,_,1,_,rfl,rfl,aG.of hD6,rfl,?_;exists D,_,2,_,rfl,rfl,aG.of hD6,rfl,?_;left;refine⟨by show 4<=sizeLine;omega,laid ?_⟩;exact fin none .bH d4 ed fun _=>he
     ·refine ck (by rw[zd fun z=>he (V.str.inj z)];rfl) ?_
      left;refine kk _ _ s06 ?_;rw[ed];simp only[if_neg he];exact d4
    | some n=>
     exists D,_,0,_,rfl,rfl,aG.of hD6,rfl,?_;exists D,_,1,_,rfl,rfl,aG.of hD6,rfl,?_;exists D,_,2,_,rfl,rfl,aG.of hD6,rfl,?_;left;refine⟨by show 4<=sizeLine;omega,laid ?_⟩;exact fin (some n) (.int n) cP ed fun z=>nomatch z
 ·refine ck (by rw[zd fun z=>hw (by have:=V.int.inj z;omega)];rfl) ?_
  left;refine kk _ _ (au.refl _) ?_;have e:vE ws=none:=by
   unfold vE;split
   ·exact absurd rfl hw
   ·rfl
  unfold qt;rw[e];exact d4
structure Dk (P:Program) (w:World) (K:yA) {mg:Str->Option Value} (T:Txt K mg):Prop where
 JL:KD P w K T.je [("player",.ref T.gW),("instrument",.ref T.eP),("staff",.ref T.iY),("bar",.ref T.mh),("upbeat",.ref T.gS),("holds",.ref T.kg),("notes",.ref T.iZ),("repeat",.ref T.gU),("jump",.ref T.kf)]
 Rf:KD P w K T.sG [("player",.ref T.gk),("instrument",.ref T.eB),("staff",.ref T.gR),("bar",.ref T.ki),("upbeat",.ref T.gi),("holds",.ref T.i6),("notes",.ref T.gX),("repeat",.ref T.gj),("jump",.ref T.i4)]
inductive LP (K:yA) {mg:Str->Option Value} (T:Txt K mg):Addr->Sp->Prop where
 | bD:LP K T T.gW (fT K (qt .str (one cL)))
 | cM:LP K T T.eP (fT K (qt eL lS))
 | cw:LP K T T.iY (fT K (qt gF qO))
 | bar:LP K T T.mh (fT K (qt lB BG))
 | aF:LP K T T.gS (fT K (qt dL (one lr)))
 | holds:LP K T T.kg (fT K (qt vP sH))
 | aE:LP K T T.iZ (fT K SG)
 | rep:LP K T T.gU (fT K (qt jO j0))
 | cj:LP K T T.kf (fT K (qt jG vE))
noncomputable def y4 {K:yA} {mg:Str->Option Value} (T:Txt K mg):List (Str×V):=[("player",V.ref T.gW),("instrument",.ref T.eP),("staff",.ref T.iY),("bar",.ref T.mh),("upbeat",.ref T.gS),("holds",.ref T.kg),("notes",.ref T.iZ),("repeat",.ref T.gU),("jump",.ref T.kf)]
def MI (K:yA) {mg:Str->Option Value} (T:Txt K mg) (x:Str):(tW (y4 T) x=none/\∀ws,oY (x::ws)=none)\/∃f D,tW (y4 T) x=some (.ref f)/\LP K T f (fT K D)/\∀H0 H v ws,D H0 H v ws->gK H0 H v (oY (x::ws)):=by
 by_cases e0:x ="player"
 ·subst e0
  refine .inr ⟨_,_,rfl,.bD,fun H0 H v ws h=>?_⟩;exact nI (g:=Told.bD) h fun x z=>by unfold Is at z;exact z
 by_cases e1:x ="instrument"
 ·subst e1
  refine .inr ⟨_,_,rfl,.cM,fun H0 H v ws h=>?_⟩;exact nI (g:=fun(x:Str×(Int×Int)×(Int×Int))=>Told.cM x.1 x.2.1 x.2.2) h fun x z=>(show Is H (eL x) v from z)
 by_cases e2:x ="staff"
 ·subst e2
  refine .inr ⟨_,_,rfl,.cw,fun H0 H v ws h=>?_⟩;exact nI (g:=fun(x:Str×List Str)=>Told.cw x.1 x.2) h fun x z=>(show Is H (gF x) v from z)
 by_cases e3:x ="bar"
 ·subst e3
  refine .inr ⟨_,_,rfl,.bar,fun H0 H v ws h=>?_⟩;exact nI (g:=Told.bar) h fun x z=>z
 by_cases e4:x ="upbeat"
 ·subst e4
  refine .inr ⟨_,_,rfl,.aF,fun H0 H v ws h=>?_⟩;exact nI (g:=Told.aF) h fun x z=>z
 by_cases e5:x ="holds"
 ·subst e5
  refine .inr ⟨_,_,rfl,.holds,fun H0 H v ws h=>?_⟩;exact nI (g:=fun(x:Str×Int×Str)=>Told.holds x.1 x.2.1 x.2.2) h fun x z=>(show Is H (vP x) v from z)
 by_cases e6:x ="notes"
 ·subst e6
  refine .inr ⟨_,_,rfl,.aE,fun H0 H v ws h=>?_⟩;have e:oY ("notes":: ws)=(kz ws).map fun x=>Told.aE x.1 x.2.1 x.2.2:=rfl;rw[e];unfold SG at h;cases q:kz ws with
  | none=>rw[q] at h;exact h
  | some y=>rw[q] at h;exact h
 by_cases e7:x ="repeat"
 ·subst e7
  refine .inr ⟨_,_,rfl,.rep,fun H0 H v ws h=>?_⟩;exact nI (g:=Told.rep) h fun x z=>z
 by_cases e8:x ="jump"
 ·subst e8
  refine .inr ⟨_,_,rfl,.cj,fun H0 H v ws h=>?_⟩;exact nI (g:=Told.cj) h fun x z=>z
 refine .inl ⟨?_,fun ws=>?_⟩
 ·have f0:∀(k:Str) (v:V) (r:List (Str×V)),x≠k->tW ((k,v)::r) x=tW r x:=fun k v r h=>by
   unfold tW;rw[List.find?_cons];rw[show decide ((k,v).1=x)=false from zd fun z=>h z.symm]
  unfold y4;rw[f0 _ _ _ e0,f0 _ _ _ e1,f0 _ _ _ e2,f0 _ _ _ e3,f0 _ _ _ e4,f0 _ _ _ e5,f0 _ _ _ e6,f0 _ _ _ e7,f0 _ _ _ e8];rfl
 ·unfold oY
  dsimp only;rw[if_neg e0,if_neg e1,if_neg e2,if_neg e3,if_neg e4,if_neg e5,if_neg e6,if_neg e7,if_neg e8]
def ua {K:yA} {mg:Str->Option Value} (T:Txt K mg):Sp:=fun vs H Q _=>∃x:Str,vs=[.str x]/\Q (.bl (tW (y4 T) x).isSome) H
def uk:aC ["word"] ["word"] (ao mH):=dy
def uy (B:Dk P w K T):cX P w base 1 T.kD (ua T):=by
 nomatch T.kD,uk
 obtain⟨x,rfl,kk⟩:=h;refine⟨_,(aj (aq (oE (OO (pv 0) (bU (v:=.ref T.je) (by rfl) T.C6 rfl))))),?_⟩;ac_rfl;exists T.je,y4 T,x,rfl,B.JL,rfl,?_;left;show Q (V.bl (false ^^ (tW (y4 T) x).isSome)) H;rw[Bool.false_xor];exact kk
def vh:aC ["words","reader"] ["words"] (ao qH):=dy
def Ge (B:Dk P w K T):cX P w base 7 T.yY (FF K):=by
 refine T.yY.F.SY vh fun cdv A' outer s H vs Q E hr h=>?_
 ·obtain⟨p,x,ws,rfl,hp,hl,sh,kk⟩:=h
  have sl:=yB;have hTbV:∀f sp,LP K T f sp->Rx (kF HE P w K mg base ["words","reader"] "read_row" (ao qH) T.A5 cdv A' outer s H E).Ir HE 6 f sp:=by
   intro f sp h;cases h with
   | bD=>exact⟨_,_,L2.dQ.mono (Ai T) ∅,T.jZ.F.kp,T.jZ.b⟩
   | cM=>exact⟨_,_,L2.dQ.mono (qT T) ∅,T.fF.F.kp,T.fF.b⟩
   | cw=>exact⟨_,_,L2.dQ.mono (BI T) ∅,T.lQ.F.kp,T.lQ.b⟩
   | bar=>exact⟨_,_,L2.dQ.mono (Gh T) ∅,T.sF.F.kp,T.sF.b⟩
   | aF=>exact⟨_,_,L2.dQ.mono (Ag T) ∅,T.jX.F.kp,T.jX.b⟩
   | holds=>exact⟨_,_,L2.dQ.mono (D1 T) ∅,T.oX.F.kp,T.oX.b⟩
   | aE=>exact⟨_,_,L2.dQ.mono (BK T) ∅,T.lR.F.kp,T.lR.b⟩
   | rep=>exact⟨_,_,L2.dQ.mono (Ah T) ∅,T.jY.F.kp,T.jY.b⟩
   | cj=>exact⟨_,_,L2.dQ.mono (DZ T) ∅,T.oW.F.kp,T.oW.b⟩
  refine⟨_,(ag (aH (d5 (cz (bJ (uy T B) hr T.kD (ah (fL (pv 0) ae) af))))
   (aj (aq aS))
   ax)
   (ag (bT 1 vh.nd (F6 (bU (v:=.ref T.je) (by rfl) T.C6 rfl) (fL (pv 0) ae) (fun _ _=>rfl)))
   (aj (aq (F8 (LP K T) hTbV (hr.mono ∅) (pv 1) JP (ah (dF gL (pv 0) (eN ae) eO) af)))))),?_⟩
  ac_rfl;exists p,_,0,_,rfl,rfl,hp,bx (j:=0) rfl,?_;refine⟨x,rfl,?_⟩;rcases MI K T x with⟨ev,er⟩ | ⟨f,D,ev,htb,hd⟩
  ·rw[ev]
   left;refine kk _ _ (au.refl _) ?_;rw[er];rfl
  ·rw[ev]
   exists p,_,0,_,rfl,rfl,hp,bx (j:=0) rfl,?_;refine⟨T.je,y4 T,x,_,rfl,B.JL,rfl,ev,?_⟩;exists f,_,rfl,htb,?_;exists p,_,rfl,hp,?_;rw[show kG (List.map V.str (x::ws)) (some 1) none=ws.map V.str from(fN _ 1).trans rfl];intros p1 H1 s1 h1;refine⟨p1,ws,rfl,aG.of h1,nofun,fun y hy=>sh y (by simp[hy]),fun v H2 s2 h2=>kk _ _ (s1.trans s2) ((hd _ _ _ _ h2).back s1)⟩
def mF:aC ["repeats","bar","repeat"] ["repeats","bar"] (ao nZ):=dy
def mU:cX P w base 1 T.iO (vV K):=by
 nomatch T.iO,mF
 obtain⟨p,rs,b,rfl,⟨vs,hp,il⟩,kk⟩:=h;unfold dS at kk;refine⟨_,(ag (cA PassesOwn.never rfl (bc (pv 0)) (jA 2 mF.nd)
  (aj (aH (PW.pt (dr (ptr iK (bR (pv 2) ae) (pv 1)) (cR (ptr iK (pv 1) (bR (pv 2) ae)))))
   (aj (aq (pv 2)))
   ax)))
  (aj (aq aS))),?_⟩
 ac_rfl;exists⟨_,hp⟩,?_;refine dJ (K:=K) (a:=p) (xs:=vs) (fun i σ H'=>H'=H/\(rs.take i).find? (fun r=>decide (r.first<=b)&&decide (b<=r.last))=none/\∃v,σ=[some (.ref p),some (.int b),v]) ⟨rfl,rfl,none,rfl⟩ (fun i σ H' _ h=>by rw[h.1];exact hp) ?_ ?_
 ·intro i x σ H' hx hh
  refine cY fun N kN0 kR0 _ _=>?_;obtain⟨rfl,hn,v,rfl⟩:=hh;obtain⟨r,hr',hi⟩:=dZ il hx;obtain⟨a,e,rfl,ha,he⟩:=fY hi;left
  by_cases c1:r.first<=b
  ·refine ck (ze c1) ?_
   left
   by_cases c2:b<=r.last
   ·refine ck (ze c2) ?_
    left;refine kk _ ?_;rw[J0 hr' hn (by rw[ze c1,ze c2];rfl)];exact hi
   ·refine cE (zd c2) ?_
    change⟨C0 hr' hn (by rw[zd c2,Bool.and_false]),_,rfl⟩
  ·refine cE (zd c1) ?_
   change⟨C0 hr' hn (by rw[zd c1,Bool.false_and]),_,rfl⟩
 ·rintro σ H' ⟨rfl,hn,v,rfl⟩
  rw[aT il,zM] at hn;left;refine kk _ ?_;rw[hn];exact d4
def rQ:aC ["repeats","bar","repeat"] ["repeats","bar"] (ao vx):=dy
def Ea:cX P w base 2 T.uH (DC K):=by
 nomatch T.uH,rQ
 obtain⟨p,rs,b,rfl,hp,kk⟩:=h;unfold hJ at kk;refine⟨_,(ag (bT 2 rQ.nd (bJ (mU T) hr T.iO (ah (pv 0) (ah (pv 1) af))))
  (aj (aq (MW (oE (cG (pv 2))) (oC (dG dg (pv 1) (bR (pv 2) ae) (gz _))))))),?_⟩
 ac_rfl;exists p,rs,b,rfl,hp,fun v iv=>?_;cases q:dS rs b with
 | none=>
  rw[q] at iv kk;unfold dO Is at iv;subst iv;change kk
 | some r=>
  rw[q] at iv kk;obtain⟨a,e,rfl,ha,he⟩:=fY iv;left;have e1:decide (V.int b=V.int r.last)=decide (b=r.last):=by simp
  show Q (.bl (decide (V.int b=V.int r.last))) H;rw[e1];exact kk
def rR:aC ["repeats","bar","repeat"] ["repeats","bar"] (ao vy):=dy
def sR:cX P w base 2 T.pf (DD K):=by
 nomatch T.pf,rR
 obtain⟨p,rs,b,rfl,hp,kk⟩:=h;unfold eF at kk;refine⟨_,(ag (bT 2 rR.nd (bJ (mU T) hr T.iO (ah (pv 0) (ah (pv 1) af))))
  (aj (aq (MW (oE (cG (pv 2))) (oC (dG dg (pv 1) (bR (pv 2) ae) (gz _))))))),?_⟩
 ac_rfl;exists p,rs,b,rfl,hp,fun v iv=>?_;cases q:dS rs b with
 | none=>
  rw[q] at iv kk;unfold dO Is at iv;subst iv;change kk
 | some r=>
  rw[q] at iv kk;obtain⟨a,e,rfl,ha,he⟩:=fY iv;left;have e1:decide (V.int b=V.int r.first)=decide (b=r.first):=by simp
  show Q (.bl (decide (V.int b=V.int r.first))) H;rw[e1];exact kk
def NI (us:List V) (h:us≠[]):¬(HT.fq us.length 0 (some 1)=0/\HT.fq us.length us.length none=us.length):=by
 rintro⟨h1,_⟩;have hp:0<us.length:=yq.mpr h;have e:HT.fq us.length 0 (some ((1:Nat):Int))=min 1 us.length:=by unfold HT.fq;simp
 have e':HT.fq us.length 0 (some (1:Int))=min 1 us.length:=e;rw[e'] at h1;omega
def Kv {K:yA} {H:Hp} {e:Addr} {us:List V} {Q:VK} (hu:H e=some (.tup us)) (k:∀q H1,au H H1->H1 q=some (.tup (us.drop 1))->Q (.ref q) H1):PJ K (.ref e) (some 1) none H Q:=by
 by_cases h:us=[]
 ·subst h
  exact .inr ⟨e,[],rfl,dw.of hu,⟨rfl,rfl⟩,k e H (au.refl H) hu⟩
 ·refine .inl ⟨e,us,rfl,dw.of hu,NI us h,?_⟩
  rw[show kG us (some 1) none=us.drop 1 from fN us 1];exact laid k
def qF:aC ["repeat","ends","behind"] ["repeat"] (ao CC):=dy
def Ip:cX P w base 1 T.Eo HW:=by
 nomatch T.Eo,qF
 obtain⟨v,r,rfl,iv,hl,kk⟩:=h;have sl:=yB;obtain⟨a,e,rfl,ha,he⟩:=fY iv;unfold Is at he;obtain⟨e',us,ee,hu,ilu⟩:=he;cases ee;refine⟨_,(ag (bT 1 qF.nd (bR (pv 0) ae))
  (ag (bT 2 qF.nd (ar gO (pI (ts:=["end"]) (ys:=[]) (js:=[]) (te:=(fH (qP K) (aX 0) (tC (.int (0))))) (kA (dF Oq (pv 1) (eN ae) eO)) (gy 0) bw (bR (pv 0) ae)) (bg (ah (ar aW (bR (pv 0) ae) ae) af))))
  (aj (aq (pI (ts:=["end","after"]) (ys:=[]) (js:=[]) (g:=(GC K 2 (gb (bV 0) (gb (bV 1) GD)))) (te:=(Dn (bC (fH (qP K) (aX 0) (tC (.int (0)))) (bC (fH (wt fun i j=>.int (i-j)) (aX 1) (tC (.int (1)))) (bC (fH (qP K) (aX 0) (tC (.int (1)))) eK))))) (MU (by rfl) T.M9 (ah (pv 1) (ah (pv 2) af))) (d6 (n:=2) rfl (aK (gy 0) (aK (gy 1) cZ))) bw (bj (ah (bR (pv 0) ae) (ah (ar iw (pv 1) ae) (ah (bR (pv 0) ae) af))))))))),?_⟩
 ac_rfl;left;have main:∀(q:Addr) (H1:Hp),au H H1->H1 q=some (.tup (us.drop 1))->∀(R:VK),(∀D H2,au H1 H2->H2 D=some (.lst ((r.ends.drop 1).map fun x=>V.int x.1))->R (.ref D) H2)->
   dM [none] (bV 0) vU (fH (qP K) (aX 0) (tC (.int 0))) R (P6 K q) H1:=by
  intro q H1 s1 h1 R hR;have il1:ay H ((r.ends.drop 1).map nu) (us.drop 1):=by
   cases re:r.ends with
   | nil=>
    rw[re] at ilu;unfold ay at ilu;subst ilu;unfold ay;rfl
   | cons x xs=>
    rw[re,zh] at ilu;unfold ay at ilu;obtain⟨u,ur,rfl,_,h2⟩:=ilu;exact h2
  obtain⟨ps,f1,f2,f3⟩:=xo il1;have pl:ps.length<=1000000:=by
   have:ps.length=(r.ends.drop 1).length:=by rw[<-f1,za]
   rw[this,List.length_drop];omega
  refine gG (enc:=fun z:Sc.End×V=>z.2) (ws:=ps) (fun z=>.int z.1.1) (fun σ=>∃v,σ=[v]) nofun (by rw[f2];exact h1) ⟨none,rfl⟩ ?_ ?_
  ·rintro z σ H6 R' hz s6 ⟨_,rfl⟩ r'
   obtain⟨a6,q6,ev,h6,h7⟩:=uP (f3 z hz);rw[ev];have h66:=s6 _ _ (s1 _ _ h6);change r' _ _ _ (au.refl _) cP ⟨_,rfl⟩
  ·intro D vs H6 s6 hD il
   have e5:ps.map (fun z=>Dt.int z.1.1)=((r.ends.drop 1).map (·.1)).map Dt.int:=by rw[<-f1,zA,zA];rfl
   rw[e5] at il;rw[fG il,zA] at hD;exact hR D H6 s6 hD
 refine Kv hu fun q H1 s1 h1=>⟨q,rfl,⟨_,dw.of h1⟩,main q H1 s1 h1 _ fun D H2 s2 h2=>?_⟩
 have ha2:=s2 _ _ (s1 _ _ ha);exists by show 1<=sizeLine;omega,?_
 intros p3 H3 s3 h3;refine⟨D,p3,_,_,rfl,rfl,aG.of (s3 _ _ h2),aG.of h3,by rw[za,List.length_drop];show _+1<=_;omega,?_⟩;intros p4 H4 s4 h4;have s04:=(s1.trans s2).trans (s3.trans s4);have hu4:=s04 _ _ hu;have eb:(List.map (fun x=>V.int x.1) (r.ends.drop 1)++[V.int (r.last+1)])=((r.ends.drop 1).map (·.1)++[r.last+1]).map V.int:=by rw[zj,zA];rfl
 rw[eb] at h4;left;have ilu4:=ilu.mono s04;have ul:=aT ilu;refine⟨true,false,e,p4,us,_,rfl,dw.of hu4,aG.of h4,?_⟩;generalize hbs:(r.ends.drop 1).map (·.1)++[r.last+1]=bs at h4;have zl:(r.ends.zip bs).length=min r.ends.length bs.length:=List.length_zip;refine AS (ws:=r.ends.zip bs) (fun z x H'=>∃p u,x=.ref p/\H' p=some (.tup [u,.int z.2])/\Is H' (nu z.1) u) (fun z=>Lk (z.1.1,z.2-1,z.1.2)) (fun σ=>∃u v,σ=[u,v]) nofun ⟨none,none,rfl⟩ ?_ ?_ ?_ ?_ ?_
 ·intro i H5 hi s5
  have i1:i<us.length:=nofun
  have i2:i<(bs.map V.int).length:=by rw[za];omega
  exact⟨us,bs.map V.int,us[i],(bs.map V.int)[i],dw.of (s5 _ _ hu4),aG.of (s5 _ _ h4),zb i1,zb i2⟩
 ·intro H5 s5
  refine⟨us,bs.map V.int,dw.of (s5 _ _ hu4),aG.of (s5 _ _ h4),?_⟩;rw[za];rcases Nat.le_total r.ends.length bs.length with h | h
  ·exact Or.inl nofun
  ·right;omega
 ·rintro i x H5 H6 hi s5 ⟨p,u,v,hp,rfl,rfl,hu',hv'⟩
  have i1:i<r.ends.length:=nofun
  have i2:i<bs.length:=nofun
  have gu:=hu' us (dw.of (s5 _ _ hu4));have gv:=hv' (bs.map V.int) (aG.of (s5 _ _ h4));rw[zJ,zb i2] at gv;cases gv;obtain⟨x0,hx0,ix0⟩:=dZ (ilu4.mono s5) gu;rw[zb i1] at hx0;cases hx0;refine⟨aR hp,p,u,rfl,?_,?_⟩
  ·rw[aA,List.getElem_zip]
  ·rw[List.getElem_zip];exact ix0.mono (aR hp)
 ·rintro z x σ H5 R hz s5 ⟨p,u,rfl,hp,iu⟩ ⟨_,_,rfl⟩ rr
  obtain⟨a6,q6,rfl,h6,h7⟩:=uP iu;refine⟨p,_,rfl,dw.of hp,rfl,?_⟩;refine⟨_,_,rfl,_,_,rfl,rfl,?_⟩;left;refine⟨nQ,laid fun p7 H7 s7 h7'=>rr _ _ _ s7 ?_ ⟨_,_,rfl⟩⟩;exact cB h7' (aL cP (aL cP (oN (cB (s7 _ _ h7) tw))))
 ·intro D5 vs5 H5 s5 hD5 il5
  refine kk _ _ _ (s04.trans s5) hD5 ?_;have ee:(jF r).map Lk=(r.ends.zip bs).map fun z=>Lk (z.1.1,z.2-1,z.1.2):=by
   unfold jF;rw[hbs,zA];rfl
  rw[ee];exact il5
def Qg {H:Hp} {e:Int×Int×List Int} {v:V} (h:Is H (Lk e) v):∃a q,v=.ref a/\H a=some (.tup [.int e.1,.int e.2.1,.ref q])/\H q=some (.tup (e.2.2.map V.int)):=by
 unfold Lk Is at h;obtain⟨a,vs,rfl,ha,hl⟩:=h;unfold ay at hl;obtain⟨v1,r1,rfl,h1,hl⟩:=hl;unfold ay at hl;obtain⟨v2,r2,rfl,h2,hl⟩:=hl;unfold ay at hl;obtain⟨v3,r3,rfl,h3,hl⟩:=hl;unfold ay at hl;subst hl;unfold Is at h1 h2;subst h1 h2;unfold vO Is at h3;obtain⟨q,us,rfl,hq,hle⟩:=h3;rw[fG hle] at hq;exact⟨a,q,rfl,ha,hq⟩
noncomputable def AA (r:Rep) (b:Int) (e:Int×Int×List Int):Bool:=decide (e.1<=b)&&decide (b<=e.2.1)&&!decide (r.times∈e.2.2)
def K4 (rs:List Rep) (b:Int):lZ rs b=rs.all fun r=>(jF r).all fun e=>!AA r b e:=rfl
theorem CZ:∀ns:List Int,(ns.map V.int).all mZ=true
 | []=>rfl
 | n::ns=>by rw[zh,List.all_cons,CZ ns];rfl
def ik:aC ["repeats","bar","repeat","end"] ["repeats","bar"] (ao om):=dy
def mW:cX P w base 2 T.iW (vY K):=by
 nomatch T.iW,ik
 obtain⟨p,rs,b,rfl,⟨vs,hp,il⟩,hl,kk⟩:=h;rw[K4] at kk;refine⟨_,(ag (cA PassesOwn.never rfl (bc (pv 0)) (jA 2 ik.nd)
  (aj (cA PassesOwn.never rfl (bc (bJ (Ip T) hr T.Eo (ah (pv 2) af))) (jA 3 ik.nd)
   (aj (aH (PW.pt (dr (ptr iK (bR (pv 3) ae) (pv 1)) (dr (ptr iK (pv 1) (bR (pv 3) ae)) (cR (iQ d7 (bR (pv 2) ae) (bR (pv 3) ae) (by with_unfolding_all rfl))))))
    (aj (aq oF))
    ax)))))
  (aj (aq oF))),?_⟩
 ac_rfl;exists⟨_,hp⟩,?_;refine dJ (K:=K) (a:=p) (xs:=vs) (fun i σ H'=>au H H'/\(rs.take i).all (fun r=>(jF r).all fun e=>!AA r b e)=true/\∃v u,σ=[some (.ref p),some (.int b),v,u]) ⟨au.refl H,rfl,none,none,rfl⟩ (fun i σ H' _ h=>h.1.seq hp) ?_ ?_
 ·intro i x σ H' hx hh
  refine cY fun N kN0 kR0 _ _=>?_;obtain⟨s1,hn,v,u,rfl⟩:=hh;obtain⟨r,hr',hi⟩:=dZ il hx;have hm:=zB hr';exists _,r,rfl,hi.mono s1,hl r hm,fun D us H2 s2 hD ilD=>?_;refine⟨D,rfl,⟨_,aG.of hD⟩,?_⟩;obtain⟨a,e,rfl,ha,he⟩:=fY (hi.mono (s1.trans s2));refine dJ (K:=K) (a:=D) (xs:=us) (fun j σ H'=>H'=H2/\((jF r).take j).all (fun e=>!AA r b e)=true/\∃u,σ=[some (.ref p),some (.int b),some (.ref a),u]) ⟨rfl,rfl,_,rfl⟩ (fun j σ H' _ h=>by rw[h.1];exact aG.of hD) ?_ ?_
  ·intro j y σ H3 hy hh
   refine cY fun N kN1 kR1 _ _=>?_;obtain⟨rfl,hnj,u',rfl⟩:=hh;obtain⟨t,ht,it⟩:=dZ ilD hy;obtain⟨a6,q6,rfl,h6,h7⟩:=Qg it;have good:AA r b t=false->((jF r).take (j+1)).all (fun e=>!AA r b e)=true:=fun z=>by
    rw[dC ht,List.all_append,hnj,Bool.true_and];simp[z]
   left
   by_cases c1:t.1<=b
   ·refine ck (ze c1) ?_
    left
    by_cases c2:b<=t.2.1
    ·refine ck (ze c2) ?_
     exists q6,t.2.2.map V.int,rfl,.inr (dw.of h7),rfl,CZ _,?_;show∃k,V.bl (!Fi (.int r.times) (t.2.2.map V.int))=.bl k/\_;rw[As]
     by_cases c3:r.times∈t.2.2
     ·rw[ze c3]
      change⟨good (by unfold AA;rw[ze c3];simp),_,rfl⟩
     ·rw[zd c3]
      left;have z:=kk H3 (s1.trans s2);have e0:(rs.all fun r=>(jF r).all fun e=>!AA r b e)=false:=by
       rw[List.all_eq_false];refine⟨r,hm,?_⟩;have:((jF r).all fun e=>!AA r b e)=false:=by
        rw[List.all_eq_false];exact⟨t,zB ht,by unfold AA;simp[c1,c2,c3]⟩
       rw[this];decide
      rw[e0] at z;exact z
    ·refine cE (zd c2) ?_
     change⟨good (by unfold AA;rw[zd c2];simp),_,rfl⟩
   ·refine cE (zd c1) ?_
    change⟨good (by unfold AA;rw[zd c1];simp),_,rfl⟩
  ·rintro σ H3 ⟨rfl,hnj,u',rfl⟩
   rw[aT ilD,zM] at hnj;left;refine⟨s1.trans s2,?_,_,_,rfl⟩;rw[dC hr',List.all_append,hn,Bool.true_and];simp[hnj]
 ·rintro σ H' ⟨s1,hn,v,u,rfl⟩
  rw[aT il,zM] at hn;left;have z:=kk H' s1;rw[hn] at z;exact z
inductive DG (K:yA) (vs:List V) (H:Hp) (Q:VK) (E:XK):Prop
 | mk (p:Addr) (rs:List Rep) (a c:Int) (_:vs=[.ref p,.int a,.int c]) (_:Co K H p rs) (_:(∀r∈rs,r.ends.length<=1000000)) (_:∀H',au H H'->Q (.bl (decide (a<c)&&eF rs c&&lZ rs c)) H')
inductive DE (K:yA) (vs:List V) (H:Hp) (Q:VK) (E:XK):Prop
 | mk (p:Addr) (rs:List Rep) (v:V) (j:Jump) (_:vs=[.ref p,v]) (_:Co K H p rs) (_:(∀r∈rs,r.ends.length<=1000000)) (_:Is H (jG j) v) (_:∀H',au H H'->Q (.bl (hX rs j)) H')
def xm {H:Hp} {j:Jump} {v:V} (h:Is H (jG j) v):∃a,v=.ref a/\H a=some (.tup [.int j.xn,.int j.Bj,.int j.dz,ov j.gH]):=by
 unfold jG Is at h;obtain⟨a,vs,rfl,ha,hl⟩:=h;unfold ay at hl;obtain⟨v1,r1,rfl,h1,hl⟩:=hl;unfold ay at hl;obtain⟨v2,r2,rfl,h2,hl⟩:=hl;unfold ay at hl;obtain⟨v3,r3,rfl,h3,hl⟩:=hl;unfold ay at hl;obtain⟨v4,r4,rfl,h4,hl⟩:=hl;unfold ay at hl;subst hl;unfold Is at h1 h2 h3;subst h1 h2 h3;refine⟨a,rfl,?_⟩;cases q:j.gH with
 | none=>rw[q] at h4;unfold dO Is at h4;subst h4;exact ha
 | some n=>rw[q] at h4;unfold dO Is at h4;subst h4;exact ha
def DM:aC ["repeats","at","coda"] ["repeats","at","coda"] (ao vB):=dy
def Ed:cX P w base 3 T.uW (DG K):=by
 nomatch T.uW,DM
 obtain⟨p,rs,a,c,rfl,hp,hl,kk⟩:=h;refine⟨_,(aj (aq (qR (dG fw (pv 1) (pv 2) (gz _)) (qR (bJ (sR T) hr T.pf (ah (pv 0) (ah (pv 2) af))) (oC (bJ (mW T) hr T.iW (ah (pv 0) (ah (pv 2) af)))))))),?_⟩;ac_rfl;left
 by_cases c1:a<c
 ·rw[ze c1,Bool.true_and] at kk
  refine ck (ze c1) ?_;exists p,rs,c,rfl,hp,?_;cases q:eF rs c with
  | true=>
   rw[q,Bool.true_and] at kk;change⟨p,rs,c,rfl,hp,hl,kk⟩
  | false=>
   rw[q,Bool.false_and] at kk;change kk _ (au.refl _)
 ·rw[zd c1,Bool.false_and,Bool.false_and] at kk
  refine cE (zd c1) ?_;change kk _ (au.refl _)
def fW:aC ["repeats","jump","at","to","until","coda"] ["repeats","jump"] (ao vz):=dy
def Eb:cX P w base 4 T.uL (DE K):=by
 nomatch T.uL,fW
 obtain⟨p,rs,v,j,rfl,hp,hl,iv,kk⟩:=h;obtain⟨a,rfl,ha⟩:=xm iv;unfold hX at kk;refine⟨_,(ag (bT 2 fW.nd (bR (pv 1) ae))
  (ag (bT 3 fW.nd (bR (pv 1) ae))
  (ag (bT 4 fW.nd (bR (pv 1) ae))
  (ag (bT 5 fW.nd (bR (pv 1) ae))
  (ag (aH (PW.pt (eE (ptr fw (pv 4) (pv 3)) (dP (ptr fw (pv 2) (pv 4)))))
  (aj (aq oF))
  ax)
  (ag (aH (PW.pt (dr (bB (gN (pv 5))) (cR (d5 (cz (bJ (Ed T) hr T.uW (ah (pv 0) (ah (pv 2) (ah (pv 5) af)))))))))
  (aj (aq oF))
  ax)
  (aj (aq (qR (bJ (Ea T) hr T.uH (ah (pv 0) (ah (pv 2) af))) (qR (bJ (sR T) hr T.pf (ah (pv 0) (ah (pv 3) af))) (oC (bJ (mW T) hr T.iW (ah (pv 0) (ah (pv 4) af)))))))))))))),?_⟩
 ac_rfl;left
 by_cases c1:j.dz<j.Bj
 ·refine ck (ze c1) ?_
  simp only[if_pos c1] at kk;change kk _ (au.refl _)
 ·refine cE (zd c1) ?_
  simp only[if_neg c1] at kk;left
  by_cases c2:j.xn<j.dz
  ·refine ck (ze c2) ?_
   simp only[if_pos c2] at kk;change kk _ (au.refl _)
  ·refine cE (zd c2) ?_
   simp only[if_neg c2] at kk;left;cases q:j.gH with
   | none=>
    rw[q] at kk;exists p,rs,_,rfl,hp,?_;cases q1:hJ rs j.xn with
    | false=>
     rw[q1] at kk;change kk _ (au.refl _)
    | true=>
     rw[q1] at kk;exists p,rs,_,rfl,hp,?_;cases q2:eF rs j.Bj with
     | false=>
      rw[q2] at kk;change kk _ (au.refl _)
     | true=>
      rw[q2] at kk;change⟨p,rs,_,rfl,hp,hl,kk⟩
   | some n=>
    rw[q] at kk;exists p,rs,_,_,rfl,hp,hl,fun H1 s1=>?_;cases q0:(decide (j.xn<n)&&eF rs n&&lZ rs n) with
    | false=>
     simp only[q0] at kk;change kk _ s1
    | true=>
     simp only[q0,Bool.true_and] at kk;exists p,rs,_,rfl,hp.mono s1,?_;cases q1:hJ rs j.xn with
     | false=>
      rw[q1] at kk;change kk _ s1
     | true=>
      rw[q1] at kk;exists p,rs,_,rfl,hp.mono s1,?_;cases q2:eF rs j.Bj with
      | false=>
       rw[q2] at kk;change kk _ s1
      | true=>
       rw[q2] at kk;change⟨p,rs,_,rfl,hp.mono s1,hl,fun H2 s2=>kk _ (s1.trans s2)⟩
def Cy {l ns:List Int} (h1:ns.Perm l) (h2:ns.Pairwise (·<=·)):ns=sortI l:=by
 unfold sortI;refine List.Perm.eq_of_pairwise (le:=fun a b:Int=>a<=b) (fun a b _ _ x y=>Int.le_antisymm x y) h2 ?_ (h1.trans (List.mergeSort_perm _ _).symm);have:=List.pairwise_mergeSort (le:=fun a b:Int=>decide (a<=b)) (fun a b c x y=>by simp at x y ⊢;omega) (fun a b=>by simp;omega) l;exact this.imp fun h=>by simpa using h
noncomputable def HR:List Sc.End->Nat
 | []=>0
 | e::r=>e.2.length+HR r
def Qh {es:List Sc.End} {e:Sc.End} (h:e∈es):e.2.length<=HR es:=by
 induction es with
 | nil=>cases h
 | cons x r ih=>
  rcases zC.mp h with rfl | h
  ·unfold HR;omega
  ·have:=ih h;unfold HR;omega
def L0 {a b:List Int}:(decide (a.map V.int=b.map V.int))=decide (a=b):=by
 by_cases h:a=b
 ·subst h;simp
 ·rw[zd h,zd]
  intro z;have:∀{a b:List Int},a.map V.int=b.map V.int->a=b:=by
   intro a
   induction a with
   | nil=>intro b z;cases b with | nil=>rfl | cons _ _=>cases z
   | cons x r ih=>intro b z;cases b with | nil=>cases z | cons y s=>simp at z;rw[z.1,ih (by simpa using z.2)]
  exact h (this z)
theorem sM:∀ns:List Int,(ns.map V.int).all PM=true
 | []=>rfl
 | n::ns=>by rw[zh,List.all_cons,sM ns];rfl
def GQ {e:Sc.End} {r:List Sc.End} {a:Int} {ps:List Int} (h1:¬e.1<=a) (h2:e.2=sortI e.2):gc (e::r) a ps=gc r e.1 (ps++e.2):=by
 show(if e.1<=a then none else if e.2≠sortI e.2 then none else gc r e.1 (ps++e.2))=_;rw[if_neg h1,if_neg (fun z=>z h2)]
def C2 {e:Sc.End} {r:List Sc.End} {a:Int} {ps:List Int} (h:e.1<=a\/e.2≠sortI e.2):gc (e::r) a ps=none:=by
 show(if e.1<=a then none else if e.2≠sortI e.2 then none else gc r e.1 (ps++e.2))=_;rcases h with h | h
 ·rw[if_pos h]
 ·rw[if_pos h];split <;> rfl
def Ep {α:Type} {l:List α} {i:Nat} {x:α} (h:l[i]?=some x):l.drop i=x::l.drop (i+1):=by
 obtain⟨hi,rfl⟩:=zw.mp h;exact List.drop_eq_getElem_cons hi
inductive vg (vs:List V) (H:Hp) (Q:VK) (E:XK):Prop
 | mk (v:V) (r:Rep) (_:vs=[v]) (_:Is H (jO r) v) (_:HR r.ends<64) (_:-1000000<=r.times) (_:r.times<=1000000) (_:∀H',au H H'->Q (.bl (gd r)) H')
def fI:aC ["repeat","ends","ahead","passes","end"] ["repeat"] (ao yO):=dy
def Gj:cX P w base 1 T.Ay vg:=by
 nomatch T.Ay,fI
 obtain⟨v,r,rfl,iv,ht,t0,t1,kk⟩:=h;have sl:=yB;obtain⟨a,e,rfl,ha,he⟩:=fY iv;unfold Is at he;obtain⟨e',us,ee,hu,ilu⟩:=he;cases ee;have ul:=aT ilu;refine⟨_,(ag (bT 1 fI.nd (bR (pv 0) ae))
  (ag (aH (ptr dg (eQ aB T.bu (ah (pv 1) af)) ae)
  (aj (aq oF))
  ax)
  (ag (bT 2 fI.nd (ar iw (bR (pv 0) ae) ae))
  (ag (bT 3 fI.nd (bg af))
  (ag (cA PassesOwn.never rfl (kA (pv 1)) (jA 4 fI.nd)
  (ag (aH (PW.pt (eE (ptr iK (bR (pv 4) ae) (pv 2)) (dP (ptr (Aa hr.units) (ng iX T.uG (ah (bR (pv 4) ae) af)) (eQ tM T.Gu (ah (bR (pv 4) ae) af))))))
   (aj (aq oF))
   ax)
   (ag (bT 2 fI.nd (bR (pv 4) ae))
   (aj (bM (b7 yC PySem.F.slot_list_extend PySem.F.type_list_extend Iz (pv 3) (ah (bR (pv 4) ae) af)))))))
  (aj (aq (qR (dG iK (pv 2) (bR (pv 0) ae) (gz _)) (oC (dG (Ac hr.units) (eQ tM T.Gu (ah (pv 3) af)) (MZ rfl (by rfl) T.uG (by rfl) T.dH (ah ae (ah (ar aW (bR (pv 0) ae) ae) af))) (gz _))))))))))),?_⟩
 ac_rfl;exists e,_,rfl,.inr (dw.of hu),?_;rw[ul];left
 by_cases h0:r.ends.length=0
 ·refine ck (by rw[h0];rfl) ?_
  left;have e0:gd r=true:=by
   unfold gd;rw[yr.mp h0]
  rw[e0] at kk;exact kk _ (au.refl _)
 ·refine cE (zd fun z=>h0 (by have:=V.int.inj z;omega)) ?_
  have ef:gd r=(match gc r.ends (r.first-1) [] with | none=>false | some (a,ps)=>decide (a<=r.last)&&decide (sortI ps=KC 1 (r.times+1-1).toNat)):=by
   unfold gd;cases q:r.ends with
   | nil=>rw[q] at h0;exact absurd rfl h0
   | cons x xs=>rfl
  rw[ef] at kk;exists by show 0<=sizeLine;omega,?_
  intro pp hn;generalize hG:upd _ pp _=H1;have s1:=au.kB hG hn;have h1:=kI hG;clear hG;exists⟨_,dw.of (s1 _ _ hu)⟩,?_;refine JY (K:=K) (a:=e) (xs:=us) (fun i σ H'=>au H H'/\∃(z:Int) (ps:List Int) (u:Option V),σ=[some (.ref a),some (.ref e),some (.int z),some (.ref pp),u]/\H' pp=some (.lst (ps.map V.int))/\ps.length+HR (r.ends.drop i)=HR r.ends/\gc r.ends (r.first-1) []=gc (r.ends.drop i) z ps) ⟨s1,_,[],none,rfl,h1,by simp,rfl⟩ (fun i σ H' _ h=>dw.of (h.1 _ _ hu)) ?_ ?_
  ·intro i x σ H2 hx hh
   refine cY fun N kN0 kR0 _ _=>?_;obtain⟨s2,z,ps,u,rfl,h2,hc,hgo⟩:=hh;obtain⟨en,hen,ien⟩:=dZ ilu hx;obtain⟨a6,q6,rfl,h6,h7⟩:=uP (ien.mono s2);have hle:=Qh (zB hen);rw[Ep hen] at hgo hc;rw[show HR (en::List.drop (i+1) r.ends)=en.2.length+HR (List.drop (i+1) r.ends) from rfl] at hc;left
   by_cases c1:en.1<=z
   ·refine ck (ze c1) ?_
    rw[hgo,C2 (.inl c1)] at kk;change kk _ s2
   ·refine cE (zd c1) ?_
    exists q6,_,rfl,.inr (dw.of h7),?_;intros p8 H8 s8 h8;have h68:=s8 _ _ h6;have h78:=s8 _ _ h7;exists q6,en.2,rfl,.inr (dw.of h78),nofun,fun ns np ns'=>?_;intros p9 H9 s9 h9;have h69:=s9 _ _ h68;have h79:=s9 _ _ h78;have h29:=s9 _ _ (s8 _ _ h2);rw[Cy np ns'] at h9;refine⟨p8,p9,_,_,rfl,rfl,.inl ⟨aG.of (s9 _ _ h8),aG.of h9⟩,.inr (.inr ⟨sM _,sM _⟩),?_⟩;rw[L0]
    by_cases c2:en.2=sortI en.2
    ·rw[ze c2]
     rw[GQ c1 c2] at hgo;exists .inl ⟨rfl,_,aG.of h29⟩,?_;left;refine .inr ⟨pp,q6,_,_,rfl,rfl,h29,h79,by rw[za,za];omega,?_⟩;left;have s29:=(s2.trans s8).trans s9;refine⟨fun b o hb=>?_,en.1,ps++en.2,_,rfl,by rw[aA,zj],by rw[zg];omega,hgo⟩;have ne:b≠pp:=fun z=>by rw[z,hn] at hb;cases hb
     rw[aD ne];exact s29 b o hb
    ·rw[zd c2]
     rw[hgo,C2 (.inr c2)] at kk;change kk _ ((s2.trans s8).trans s9)
  ·rintro σ H2 ⟨s2,z,ps,u,rfl,h2,hc,hgo⟩
   rw[ul,List.drop_length] at hgo hc;rw[hgo] at kk;have ha2:=s2 _ _ ha;unfold gc at kk;simp only at kk;rw[show HR []=0 from rfl] at hc;left
   by_cases c1:z<=r.last
   ·rw[ze c1,Bool.true_and] at kk
    refine ck (ze c1) ?_;exists pp,ps,rfl,.inl (aG.of h2),nofun,fun ns np ns'=>?_;intros p9 H9 s9 h9;rw[Cy np ns'] at h9;have ha9:=s9 _ _ ha2;exists 1,r.times+1,rfl,⟨∅,(by decide),nofun,nofun⟩,nofun,?_;intros p10 H10 s10 h10;refine⟨p9,p10,_,_,rfl,rfl,.inl ⟨aG.of (s10 _ _ h9),aG.of h10⟩,.inr (.inr ⟨sM _,sM _⟩),?_⟩;rw[L0];exact kk _ ((s2.trans s9).trans s10)
   ·rw[zd c1,Bool.false_and] at kk
    refine cE (zd c1) ?_;exact kk _ s2
def Ka {xs:List V} {x:V} (h:xs[xs.length-1]?=some x):Dd xs (-1)=some x:=by
 have hp:0<xs.length:=by
  have:=(zw.mp h).1;omega
 have ne:xs≠[]:=yq.mp hp;have e:=List.dropLast_concat_getLast ne;have e2:xs.getLast ne=x:=by
  have:=(zw.mp h).2;rw[List.getLast_eq_getElem];exact this
 rw[<-e,e2];exact L2.A2 _ _
inductive xO (K:yA) (vs:List V) (H:Hp) (Q:VK) (E:XK):Prop
 | mk (p:Addr) (rs:List Rep) (v:V) (r:Rep) (_:vs=[.ref p,v]) (_:Co K H p rs) (_:Is H (jO r) v) (_:HR r.ends<64) (_:-1000000<=r.times) (_:r.times<=1000000) (_:∀H',au H H'->Q (.bl (lO rs r)) H')
def xU:aC ["repeats","repeat"] ["repeats","repeat"] (ao pU):=dy
def Af:cX P w base 2 T.oB (xO K):=by
 nomatch T.oB,xU
 obtain⟨p,rs,v,r,rfl,⟨vs,hp,il⟩,iv,ht,t0,t1,kk⟩:=h;obtain⟨a,e,rfl,ha,he⟩:=fY iv;have vl:=aT il;have tail:(∀H',au H H'->Q (.bl (decide (r.first<=r.last)&&gd r)) H')->(if decide (r.first<=r.last)=true then gn vg [] E0 (bC (aX 1) eK) [some (.ref p),some (.ref a)] H Q else Q (.bl false) H):=by
  intro k
  by_cases c:r.first<=r.last
  ·rw[ze c,Bool.true_and] at k
   refine ck (ze c) ?_;exact⟨_,rfl,_,r,rfl,iv,ht,t0,t1,k⟩
  ·rw[zd c,Bool.false_and] at k
   refine cE (zd c) ?_;exact k _ (au.refl _)
 refine⟨_,(ag (aH (PW.pt (dr (ptr fi (eQ aB T.bu (ah (pv 0) af)) ae) (cR (ptr iK (bR (pv 1) ae) (bR (fL (pv 0) (sN lF ae)) ae)))))
  (aj (aq oF))
  ax)
  (aj (aq (qR (dG iK (bR (pv 1) ae) (bR (pv 1) ae) (gz _)) (oC (bJ (Gj T) hr T.Ay (ah (pv 1) af))))))),?_⟩
 ac_rfl;exists p,_,rfl,.inl hp,?_;rw[vl];left
 by_cases h0:0<rs.length
 ·refine ck (ze nofun) ?_
  have hi:rs.length-1<vs.length:=nofun
  obtain⟨q,hq,iq⟩:=dZ il (zb hi);obtain⟨b,eb,evb,hb,_⟩:=fY iq;have eg:rs.getLast?=some q:=by rw[List.getLast?_eq_getElem?];exact hq
  unfold lO at kk;rw[eg] at kk;left;refine⟨p,vs,-1,_,rfl,rfl,hp,Ka (by rw[vl];exact zb hi),?_⟩;rw[evb];left
  by_cases c:r.first<=q.last
  ·refine ck (ze c) ?_
   simp only[if_pos c] at kk;change kk _ (au.refl _)
  ·refine cE (zd c) ?_
   simp only[if_neg c] at kk;change tail kk
 ·refine cE (zd nofun) ?_
  have e0:rs=[]:=yr.mp nofun;unfold lO at kk;rw[e0] at kk;change tail kk
def Kg (x:Sc.LU):Prop:=0<=x.aQ.1/\x.aQ.1<=1000/\0<x.aQ.2/\x.aQ.2<=1000
structure S7 (C:Addr) (H:Hp) (a:Addr) (S:cD) (o:Ow):Prop where
 obj:∃ub jm,H a=some (.ins C o.dx (N8 o ub jm))
 ba:∃vs,H o.ba=some (.lst vs)/\ay H (S.aM.map lB) vs
def S7.of {C a:Addr} {H:Hp} {S:cD} {o:Ow} (h:bQ C H a S o):S7 C H a S o:=⟨by obtain⟨ub,jm,h1,_⟩:=h.obj;exact⟨ub,jm,h1⟩,h.ba⟩
inductive vW (C:Addr) (vs:List V) (H:Hp) (Q:VK) (E:XK):Prop
 | mk (a:Addr) (S:cD) (o:Ow) (b:Nat) (_:vs=[.ref a,.int b]) (_:S7 C H a S o) (_:b<S.aM.length) (_:(∀x∈S.aM,Kg x)) (_:∀p H',au H H'->H' p=some (mr (S.aQ b))->Q (.ref p) H')
def Rq {H:Hp} {b:Sc.LU} {v:V} (h:Is H (lB b) v):∃a m q,v=.ref a/\H a=some (.tup [.ref m,.int b.key,.ref q])/\H m=some (mr b.aQ):=by
 unfold lB Is at h;obtain⟨a,vs,rfl,ha,hl⟩:=h;unfold ay at hl;obtain⟨v1,r1,rfl,h1,hl⟩:=hl;unfold ay at hl;obtain⟨v2,r2,rfl,h2,hl⟩:=hl;unfold ay at hl;obtain⟨v3,r3,rfl,h3,hl⟩:=hl;unfold ay at hl;subst hl;unfold Is at h2;subst h2;unfold m8 Is at h3;obtain⟨q,us,rfl,hq,hle⟩:=h3;have:=fk (o:=some b.aQ) h1;cases this with
 | ref hm=>exact⟨a,_,q,rfl,ha,hm⟩
def mG:aC ["score","bar","metre"] ["score","bar"] (ao oh):=dy
def mV {C:Addr} (F:Cf K C):cX P w base 3 T.iT (vW C):=by
 nomatch T.iT,mG
 obtain⟨a,S,o,b,rfl,sc,hb,bZ,kk⟩:=h;obtain⟨ub,jm,ho⟩:=sc.obj;obtain⟨vs,hv,il⟩:=sc.ba;have hi:b<vs.length:=by rw[aT il];exact hb
 obtain⟨x,hx,ix⟩:=dZ il (zb hi);obtain⟨a1,m,q,ev,h1,hm⟩:=Rq ix;obtain⟨k1,k2,k3,k4⟩:=bZ x (zB hx);unfold cD.aQ at kk;rw[hx] at kk;refine⟨_,(ag (bT 2 mG.nd (bR (fL (bE (pv 0) rfl) (pv 1)) ae))
  (aj (aq (bJ (jB T) hr T.eX (ah (bR (pv 2) ae) (ah (bR (pv 2) ae) af)))))),?_⟩
 ac_rfl;exists a,C,o.dx,_,_,rfl,ho,F.cls,F.aM,rfl,?_;left;refine⟨o.ba,vs,b,_,rfl,rfl,aG.of hv,bx (zb hi),?_⟩;rw[ev];change⟨_,_,rfl,k1,k3,(dq (n:=10) nofun nofun).mono ∅,fun p H' s' h'=>kk p H' s' h'⟩
inductive xN (C:Addr) (vs:List V) (H:Hp) (Q:VK) (E:XK):Prop
 | mk (a:Addr) (S:cD) (o:Ow) (b:Nat) (_:vs=[.ref a,.int b]) (_:bQ C H a S o) (_:b<S.aM.length) (_:(∀x∈S.aM,Kg x)) (_:∀p H',au H H'->H' p=some (mr (S.len b))->Q (.ref p) H')
def xT:aC ["score","bar"] ["score","bar"] (ao pS):=dy
def Ad {C:Addr} (F:Cf K C):cX P w base 4 T.nH (xN C):=by
 nomatch T.nH,xT
 obtain⟨a,S,o,b,rfl,sc,hb,bZ,kk⟩:=h;obtain⟨ub,jm,ho,hub,hjm⟩:=sc.obj;unfold cD.len at kk;refine⟨_,(ag (aH (PW.pt (dr (ptr dg (pv 1) ae) (cR (bB (gN (bE (pv 0) rfl))))))
  (aj (aq (bE (pv 0) rfl)))
  ax)
  (aj (aq (bJ (mV T F) hr T.iT (ah (pv 0) (ah (pv 1) af)))))),?_⟩
 ac_rfl;left
 by_cases c:b=0
 ·refine ck (by rw[c];rfl) ?_
  exists a,C,o.dx,_,_,rfl,ho,F.cls,F.aF,rfl,?_;cases q:S.aF with
  | none=>
   rw[q] at kk hub;unfold dO Is at hub;subst hub;change⟨a,S,o,b,rfl,.of sc,hb,bZ,kk⟩
  | some u=>
   rw[q] at kk hub;cases fk (o:=some u) hub with
   | ref hu=>
    exists a,C,o.dx,_,_,rfl,ho,F.cls,F.aF,rfl,?_;refine kk _ _ (au.refl _) ?_;simp only[if_pos c];exact hu
 ·refine cE (zd fun z=>c (by have:=V.int.inj z;omega)) ?_
  left;refine⟨a,S,o,b,rfl,.of sc,hb,bZ,fun p H' s' h'=>kk p H' s' ?_⟩;cases q:S.aF with
  | none=>exact h'
  | some u=>simp only[if_neg c];exact h'
theorem jD (n:Str):∀ns:List Str,Fi (.str n) (ns.map V.str)=decide (n∈ns)
 | []=>rfl
 | m::ns=>by
  have ih:=jD n ns;unfold Fi at ih ⊢;rw[zh,List.any_cons,ih]
  by_cases e:n=m
  ·subst e
   simp[IL]
  ·have e':¬m=n:=fun z=>e z.symm
   simp[IL,e,e']
theorem gD:∀ns:List Str,(ns.map V.str).all mZ=true
 | []=>rfl
 | n::ns=>by rw[zh,List.all_cons,gD ns];rfl
inductive fu (C:Addr) (D:Hp->V->cD->Option Str->Prop) (vs:List V) (H:Hp) (Q:VK) (E:XK):Prop
 | mk (a:Addr) (S:cD) (o:Ow) (v:V) (f:Option Str) (_:vs=[.ref a,v]) (_:bQ C H a S o) (_:D H v S f) (_:∀H',au H H'->Q (os f) H')
def mE (C:Addr):Sp:=fu C fun _ v S f=>∃n,v=.str n/\f=fault S (.bD n)
def wm:aC ["score","player"] ["score","player"] (ao og):=dy
def wy {C:Addr} (F:Cf K C):cX P w base 1 T.iR (mE C):=by
 nomatch T.iR,wm
 obtain⟨a,S,o,v,f,rfl,sc,⟨n,rfl,rfl⟩,kk⟩:=h;obtain⟨ub,jm,ho,hub,hjm⟩:=sc.obj;have k:=kk H (au.refl H);unfold fault at k;dsimp only at k;refine⟨_,(ag (aH (iQ o7 (pv 1) (bE (pv 0) rfl) (by with_unfolding_all rfl))
  (aj (aq aJ))
  ax)
  (ag (aH (ptr Ab (eQ aB T.bu (ah (bE (pv 0) rfl) af)) (bU (v:=.int (12)) (by rfl) T.AY ⟨_,rfl⟩))
  (aj (aq aJ))
  ax)
  (aj (aq aS)))),?_⟩
 ac_rfl;exists a,C,o.dx,_,_,rfl,ho,F.cls,F.players,rfl,?_;refine⟨o.pl,_,rfl,.inl (aG.of sc.pl),rfl,gD _,?_⟩;show∃k,V.bl (Fi (.str n) (S.players.map V.str))=.bl k/\_;rw[jD]
 by_cases c1:n∈S.players
 ·rw[ze c1]
  rw[if_pos c1] at k;change k
 ·rw[zd c1]
  rw[if_neg c1] at k;exists a,C,o.dx,_,_,rfl,ho,F.cls,F.players,rfl,?_;exists o.pl,_,rfl,.inl (aG.of sc.pl),?_;rw[za];left
  by_cases c2:12<=S.players.length
  ·refine ck (ze nofun) ?_
   rw[if_pos c2] at k;change k
  ·refine cE (zd nofun) ?_
   rw[if_neg c2] at k;change k
def rL (C:Addr):Sp:=fu C fun _ _ S f=>∃b,f=fault S (.bar b)
def DN:aC ["score","told"] ["score","told"] (ao vC):=dy
def Ee {C:Addr} (F:Cf K C):cX P w base 1 T.pA (rL C):=by
 nomatch T.pA,DN
 obtain⟨a,S,o,v,f,rfl,sc,⟨b,rfl⟩,kk⟩:=h;obtain⟨ub,jm,ho,hub,hjm⟩:=sc.obj;obtain⟨vs,hv,il⟩:=sc.ba;have vl:=aT il;have k:=kk H (au.refl H);unfold fault at k;dsimp only at k;refine⟨_,(ag (aH (ptr Ab (eQ aB T.bu (ah (bE (pv 0) rfl) af)) (bU (v:=.int (200)) (by rfl) T.Hj ⟨_,rfl⟩))
  (aj (aq aJ))
  ax)
  (aj (aq aS))),?_⟩
 ac_rfl;exists a,C,o.dx,_,_,rfl,ho,F.cls,F.aM,rfl,?_;exists o.ba,_,rfl,.inl (aG.of hv),?_;rw[vl];left
 by_cases c2:200<=S.aM.length
 ·refine ck (ze nofun) ?_
  rw[if_pos c2] at k;change k
 ·refine cE (zd nofun) ?_
  rw[if_neg c2] at k;change k
theorem rH (n:Str):∀{ks:List Str} {vs:List V},vs.length=ks.length->(dB ((ks.map kS).zip vs) (kS n)).isSome=decide (n∈ks)
 | [],_,_=>by simp[dB]
 | k::ks,[],h=>by simp at h
 | k::ks,v::vs,h=>by
  have ih:=rH n (ks:=ks) (vs:=vs) (by simpa using h);rw[zh,List.zip_cons_cons];unfold dB at ih ⊢;rw[List.find?_cons]
  by_cases e:k=n
  ·subst e
   simp
  ·have e1:¬kS k=kS n:=fun z=>e (Sum.inr.inj z)
   have e2:¬n=k:=fun z=>e z.symm;simp only[e1,decide_false] at ih ⊢;rw[ih];simp[e2]
def iG (C:Addr):Sp:=fu C fun H v S f=>∃x,Is H (eL x) v/\f=fault S (.cM x.1 x.2.1 x.2.2)
def Gz {H:Hp} {x:Str×(Int×Int)×(Int×Int)} {v:V} (h:Is H (eL x) v):∃a t l,v=.ref a/\H a=some (.tup [.str x.1,t,l])/\Is H (dL x.2.1) t/\Is H (dL x.2.2) l:=by
 unfold eL Is at h;obtain⟨a,vs,rfl,ha,hl⟩:=h;unfold ay at hl;obtain⟨v1,r1,rfl,h1,hl⟩:=hl;unfold ay at hl;obtain⟨v2,r2,rfl,h2,hl⟩:=hl;unfold ay at hl;obtain⟨v3,r3,rfl,h3,hl⟩:=hl;unfold ay at hl;subst hl;unfold Is at h1;subst h1;exact⟨a,v2,v3,rfl,ha,h2,h3⟩
def pG:aC ["score","told"] ["score","told"] (ao jr):=dy
def pJ {C:Addr} (F:Cf K C):cX P w base 1 T.fg (iG C):=by
 nomatch T.fg,pG
 obtain⟨a,S,o,v,f,rfl,sc,⟨x,iv,rfl⟩,kk⟩:=h;obtain⟨ub,jm,ho,hub,hjm⟩:=sc.obj;obtain⟨vs,hv,il⟩:=sc.ins;obtain⟨a1,t,l,rfl,h1,_,_⟩:=Gz iv;have vl:=aT il;have em:(S.ak.map fun x=>kS x.1)=(S.ak.map (·.1)).map kS:=by rw[zA];rfl
 have k:=kk H (au.refl H);unfold fault at k;dsimp only at k;refine⟨_,(ag (aH (bB (DU (jE hr) (bR (pv 1) ae) (bE (pv 0) rfl)))
  (aj (aq aJ))
  ax)
  (ag (aH (ptr Ab (eQ Je T.bu (ah (bE (pv 0) rfl) af)) (bU (v:=.int (12)) (by rfl) T.rj ⟨_,rfl⟩))
  (aj (aq aJ))
  ax)
  (aj (aq aS)))),?_⟩
 ac_rfl;exists a,C,o.dx,_,_,rfl,ho,F.cls,F.ak,rfl,?_;refine⟨o.ins,_,rfl,.inl ⟨_,kS x.1,.inl hv,rfl,rfl⟩,?_⟩;rw[em,rH x.1 (by rw[za];exact vl)];left
 by_cases c1:x.1∈S.ak.map (·.1)
 ·rw[ze c1]
  rw[if_pos c1] at k;change k
 ·rw[zd c1]
  rw[if_neg c1] at k;exists a,C,o.dx,_,_,rfl,ho,F.cls,F.ak,rfl,?_;exists o.ins,_,rfl,hv,?_;rw[List.length_zip,za,vl,Nat.min_self];left
  by_cases c2:12<=S.ak.length
  ·refine ck (ze nofun) ?_
   rw[if_pos c2] at k;change k
  ·refine cE (zd nofun) ?_
   rw[if_neg c2] at k;change k
inductive FH (K:yA) (C:Addr) (vs:List V) (H:Hp) (Q:VK) (E:XK):Prop
 | mk (a p:Addr) (S:cD) (o:Ow) (bs:List Int) (_:vs=[.ref a,.ref p]) (_:bQ C H a S o) (_:aG K H p (bs.map V.int)) (_:bs.length<=1000000) (_:∀H',au H H'->Q (.bl (S.has bs)) H')
def FO:aC ["score","bars"] ["score","bars"] (ao yN):=dy
def j7 {C:Addr} (F:Cf K C):cX P w base 1 T.lq (FH K C):=by
 nomatch T.lq,FO
 obtain⟨a,p,S,o,bs,rfl,sc,hp,hl,kk⟩:=h;have sl:=yB;refine⟨_,(aj (aq (eQ (pz rfl) T.JR (ah (pI (ts:=["bar"]) (ys:=["score"]) (js:=[0]) (te:=(fH (wt fun i j=>.bl (decide (i<j))) (aX 0) (Kr (T6 K) (bC (Oj K (aX 1) "bars") eK)))) (bc (pv 1)) (gy 0) bw (dG fw (pv 0) (eQ aB T.bu (ah (bE (pv 1) rfl) af)) (gz _))) af)))),?_⟩;ac_rfl;exists⟨_,hp⟩,?_;refine fO (enc:=V.int) (ws:=bs) (fun z=>.bl (decide (z<(S.aM.length:Int)))) (fun σ=>∃v,σ=[v,some (.ref a)]) nofun hp ⟨none,rfl⟩ ?_ ?_
 ·rintro z σ H1 R hz s1 ⟨_,rfl⟩ r
  have sc1:=sc.mono s1;obtain⟨ub,jm,ho,hub,hjm⟩:=sc1.obj;obtain⟨vs,hv,il⟩:=sc1.ba;have vl:=aT il;exists a,C,o.dx,_,_,rfl,ho,F.cls,F.aM,rfl,?_;exists o.ba,vs,rfl,.inl (aG.of hv),?_;rw[vl];change r _ _ _ (au.refl _) (by unfold Is;rfl) ⟨_,rfl⟩
 ·intro D vs H1 s1 hD il
  have e:bs.map (fun z=>Dt.bl (decide (z<(S.aM.length:Int))))=(bs.map fun z=>decide (z<(S.aM.length:Int))).map Dt.bl:=by rw[zA];rfl
  rw[e] at il;rw[kC il] at hD;refine⟨D,_,rfl,aG.of hD,?_⟩;have e2:(bs.map fun z=>decide (z<(S.aM.length:Int))).all id=S.has bs:=by rw[List.all_map];rfl
  rw[e2];exact kk _ s1
inductive vX (K:yA) (vs:List V) (H:Hp) (Q:VK) (E:XK):Prop
 | mk (p:Addr) (us:List V) (its:List Item) (_:vs=[.ref p]) (_:aG K H p us) (_:ay H (its.map eZ) us) (_:its.length<=500) (_:(∀it∈its,Oc it.2)) (_:∀r H',au H H'->H' r=some (mr (km its))->Q (.ref r) H')
def tZ (l:List Item) (it:Item):km (l++[it])=add (km l) it.2:=by unfold km;rw[zX];rfl
def fC:aC ["items","length","item"] ["items"] (ao oj):=dy
def wz:cX P w base 4 T.lY (vX K):=by
 nomatch T.lY,fC
 obtain⟨p,us,its,rfl,hp,il,hl,bZ,kk⟩:=h;have sl:=yB;have ul:=aT il;refine⟨_,(ag (bT 1 fC.nd (bj (ah ae (ah ae af))))
  (ag (cA PassesOwn.never rfl (bc (pv 0)) (jA 2 fC.nd)
  (aj (bT 1 fC.nd (bJ (M6 T) hr T.added (ah (pv 1) (ah (bR (pv 2) ae) af))))))
  (aj (aq (pv 1))))),?_⟩
 ac_rfl;exists cx,?_;intros p1 H1 s1 h1;exists⟨_,s1.seq hp⟩,?_;refine dJ (K:=K) (a:=p) (xs:=us) (fun i σ H'=>au H H'/\∃q v,σ=[some (.ref p),some (.ref q),v]/\H' q=some (mr (km (its.take i)))/\Lm.Rd (km (its.take i))/\Bk (15*i+1) (km (its.take i))) ⟨s1,p1,none,rfl,h1,?_,?_⟩ (fun i σ H' _ h=>h.1.seq hp) ?_ ?_
 ·exact Lm.Rd.zero
 ·show Bk 1 (0,1)
  exact⟨dq ∅ ∅,dq ∅ ∅⟩
 ·rintro i x σ H2 hx ⟨s2,q,v,rfl,hq,rq,zq⟩
  obtain⟨it,hit,iit⟩:=dZ il hx;obtain⟨a6,pv,lv,rfl,h6,_,i8⟩:=item_at (iit.mono s2);have hi:i<its.length:=(zw.mp hit).1;obtain⟨ok1,SY,Uw,ok4⟩:=bZ it (zB hit);cases fk (o:=some it.2) i8 with
  | ref h8=>
   have zi:Bk 14 it.2:=⟨dq nofun nofun,dq (by have:=ok1.pos;omega) nofun⟩
   exists _,_,_,_,_,_,rfl,hq,h8,rq,ok1,zq,zi,nofun,fun r H3 s3 h3=>?_;have e:=dC hit;refine⟨s2.trans s3,r,_,rfl,?_,?_,?_⟩
   ·rw[e,tZ];exact h3
   ·rw[e,tZ];exact rq.add ok1
   ·rw[e,tZ];exact⟨(Bk.add rq ok1 zq zi).1.mono nofun,(Bk.add rq ok1 zq zi).2.mono nofun⟩
 ·rintro σ H2 ⟨s2,q,v,rfl,hq,_,_⟩
  rw[ul,zM] at hq;change kk _ _ s2 hq
def Fb (S:cD):Prop:=∀r∈S.repeats,r.ends.length<=1000000
def pO (C:Addr):Sp:=fu C fun H v S f=>∃j,Is H (jG j) v/\Fb S/\f=fault S (.cj j)
def GK {l:List V} {i:Nat} {x:V} (h:l[i]?=some x):(l.take (i+1)).filter (fun v=>!gs v)=(l.take i).filter (fun v=>!gs v)++(if gs x=true then [] else [x]):=by
 rw[dC h,List.filter_append];cases q:gs x with
 | true=>simp[q]
 | false=>simp[q]
def BB:aC ["score","jump"] ["score","jump"] (ao sj):=dy
def BN {C:Addr} (F:Cf K C):cX P w base 5 T.lX (pO C):=by
 nomatch T.lX,BB
 obtain⟨a,S,o,v,f,rfl,sc,⟨j,iv,rok,rfl⟩,kk⟩:=h;have sl:=yB;obtain⟨ub,jm,ho,hub,hjm⟩:=sc.obj;obtain⟨vs,hv,il⟩:=sc.re;obtain⟨a1,rfl,h1⟩:=xm iv;unfold fault at kk;dsimp only at kk;refine⟨_,(ag (aH (bB (gN (bE (pv 0) rfl)))
  (aj (aq aJ))
  ax)
  (ag (aH (d5 (cz (bJ (j7 T F) hr T.lq (ah (pv 0) (ah (pI (ts:=["bar"]) (ys:=[]) (js:=[]) (g:=(bV 0)) (tc:=(tB (Mf (aX 0)))) (te:=(aX 0)) (kA (pv 1)) (gy 0) (fZ (bB (gN (pv 0)))) (pv 0)) af)))))
  (aj (aq aJ))
  ax)
  (ag (aH (d5 (cz (bJ (Eb T) hr T.uL (ah (bE (pv 0) rfl) (ah (pv 1) af)))))
  (aj (aq aJ))
  ax)
  (aj (aq aS))))),?_⟩
 ac_rfl;exists a,C,o.dx,_,_,rfl,ho,F.cls,F.cj,rfl,?_;cases q:S.cj with
 | some j'=>
  rw[q] at hjm kk;obtain⟨a2,rfl,_⟩:=xm hjm;change kk _ (au.refl _)
 | none=>
  rw[q] at hjm kk;unfold dO Is at hjm;subst hjm;rw[if_neg ∅] at kk;exists⟨_,dw.of h1⟩,?_;generalize hw:[V.int j.xn,V.int j.Bj,V.int j.dz,ov j.gH]=ws at h1;have wl:ws.length=4:=by rw[<-hw];rfl
  refine oP ws.length (fun i=>(ws.take i).filter fun v=>!gs v) (fun i σ H'=>H'=H/\∃v,σ=[v]) (fun i hi=>zL (List.length_filter_le _ _) (by rw[zP];omega)) nofun rfl ⟨rfl,none,rfl⟩ ?_ ?_ ?_ ?_
  ·rintro i σ H' hi ⟨rfl,_⟩
   exact IH (dw.of h1) hi
  ·rintro σ H' ⟨rfl,_⟩
   exact⟨_,dw.of h1,zk _⟩
  ·rintro i x σ H' H2 hi ⟨rfl,v,rfl⟩ ⟨rfl,hy⟩
   have hx:=hy _ (dw.of h1);left
   by_cases e:x=.bH
   ·refine cE (by rw[ze e];rfl) ?_
    refine HF.skip hi ?_ ⟨rfl,_,rfl⟩;show List.filter _ (List.take (i+1) ws)=List.filter _ (List.take i ws);rw[GK hx,if_pos (show gs x=true from ze e),zU]
   ·refine ck (by rw[zd e];rfl) ?_
    left;refine HF.push hi ?_ ⟨rfl,_,rfl⟩;show List.filter _ (List.take (i+1) ws)=List.filter _ (List.take i ws)++[x];rw[GK hx,if_neg (by unfold gs;rw[zd e];decide)]
  ·rintro σ H' ⟨rfl,_⟩
   rw[zM];have ef:(ws.filter fun v=>!gs v)=([j.xn,j.Bj,j.dz]++j.gH.toList).map V.int:=by
    rw[<-hw];cases j.gH <;> rfl
   rw[ef];intros D H2 s2 h2;refine⟨a,D,S,o,_,rfl,sc.mono s2,aG.of h2,?_,fun H3 s3=>?_⟩
   ·cases j.gH <;> simp
   ·cases qb:S.has ([j.xn,j.Bj,j.dz]++j.gH.toList) with
    | false=>
     rw[qb] at kk;change kk _ (s2.trans s3)
    | true=>
     rw[qb,if_neg (by simp)] at kk;have s03:=s2.trans s3;have sc3:=sc.mono s03;exists a,C,o.dx,_,_,rfl,s03 _ _ ho,F.cls,F.repeats,rfl,?_;exists o.re,S.repeats,_,j,rfl,⟨vs,aG.of (s03 _ _ hv),il.mono s03⟩,rok,iv.mono s03,fun H4 s4=>?_;cases qj:hX S.repeats j with
     | false=>
      rw[qj] at kk;change kk _ (s03.trans s4)
     | true=>
      rw[qj,if_neg (by simp)] at kk;change kk _ (s03.trans s4)
def mD (C:Addr):Sp:=fu C fun H v S f=>∃r:Rep,Is H (jO r) v/\HR r.ends<64/\r.ends.length<=1000/\-1000000<=r.times/\r.times<=1000000/\f=fault S (.rep r)
def wk:aC ["score","repeat"] ["score","repeat"] (ao oa):=dy
def wx {C:Addr} (F:Cf K C):cX P w base 3 T.iP (mD C):=by
 nomatch T.iP,wk
 obtain⟨a,S,o,v,f,rfl,sc,⟨r,iv,ht,hl,t0,t1,rfl⟩,kk⟩:=h;have sl:=yB;obtain⟨ub,jm,ho,hub,hjm⟩:=sc.obj;obtain⟨vs,hv,il⟩:=sc.re;have vl:=aT il;obtain⟨a1,e,rfl,h1,he⟩:=fY iv;unfold Is at he;obtain⟨e',us,ee,hu,ilu⟩:=he;cases ee;unfold fault at kk;dsimp only at kk;refine⟨_,(ag (aH (d5 (cz (bJ (j7 T F) hr T.lq (ah (pv 0) (ah (ar gO (bg (ah (bR (pv 1) ae) (ah (bR (pv 1) ae) af))) (pI (ts:=["end"]) (ys:=[]) (js:=[]) (te:=(fH (qP K) (aX 0) (tC (.int (0))))) (kA (bR (pv 1) ae)) (gy 0) bw (bR (pv 0) ae))) af)))))
  (aj (aq aJ))
  ax)
  (ag (aH (PW.pt (eE (bB (gN (bE (pv 0) rfl))) (dP (d5 (cz (bJ (Af T) hr T.oB (ah (bE (pv 0) rfl) (ah (pv 1) af))))))))
  (aj (aq aJ))
  ax)
  (ag (aH (ptr Ab (eQ aB T.bu (ah (bE (pv 0) rfl) af)) (bU (v:=.int (20)) (by rfl) T.AX ⟨_,rfl⟩))
  (aj (aq aJ))
  ax)
  (aj (aq aS))))),?_⟩
 ac_rfl;exists cx,?_;intros p2 H2 s2 h2;have h12:=s2 _ _ h1;exists⟨_,dw.of (s2 _ _ hu)⟩,?_;obtain⟨ps,f1,f2,f3⟩:=xo ilu;have pl:ps.length<=1000:=by
  have:ps.length=r.ends.length:=by rw[<-f1,za]
  omega
 refine gG (enc:=fun z:Sc.End×V=>z.2) (ws:=ps) (fun z=>.int z.1.1) (fun σ=>∃v,σ=[v]) nofun (by rw[f2];exact s2 _ _ hu) ⟨none,rfl⟩ ?_ ?_
 ·rintro z σ H6 R' hz s6 ⟨_,rfl⟩ r'
  obtain⟨a6,q6,ev,h6,h7⟩:=uP (f3 z hz);rw[ev];have h66:=s6 _ _ (s2 _ _ h6);change r' _ _ _ (au.refl _) cP ⟨_,rfl⟩
 ·intro D vs5 H3 s3 hD il5
  have e5:ps.map (fun z=>Dt.int z.1.1)=(r.ends.map (·.1)).map Dt.int:=by rw[<-f1,zA,zA];rfl
  rw[e5] at il5;rw[fG il5] at hD;refine⟨p2,D,_,_,rfl,rfl,aG.of (s3 _ _ h2),aG.of hD,by rw[za,za];show 2+_<=_;omega,?_⟩;rw[show [V.int r.first,V.int r.last]++List.map V.int (r.ends.map (·.1))=([r.first,r.last]++r.ends.map (·.1)).map V.int from by rw[zj];rfl];intros p4 H4 s4 h4;have s04:=(s2.trans s3).trans s4;refine⟨a,p4,S,o,_,rfl,sc.mono s04,aG.of h4,by rw[zg,za];show 2+_<=_;omega,fun H5 s5=>?_⟩;have s05:=s04.trans s5;cases qb:S.has ([r.first,r.last]++r.ends.map (·.1)) with
  | false=>
   rw[qb] at kk;change kk _ s05
  | true=>
   rw[qb,if_neg (by simp)] at kk;exists a,C,o.dx,_,_,rfl,s05 _ _ ho,F.cls,F.cj,rfl,?_;cases q:S.cj with
   | some j'=>
    rw[q] at hjm kk;obtain⟨a2,rfl,_⟩:=xm hjm;change kk _ s05
   | none=>
    rw[q] at hjm kk;unfold dO Is at hjm;subst hjm;rw[if_neg ∅] at kk;exists a,C,o.dx,_,_,rfl,s05 _ _ ho,F.cls,F.repeats,rfl,?_;exists o.re,S.repeats,_,r,rfl,⟨vs,aG.of (s05 _ _ hv),il.mono s05⟩,iv.mono s05,ht,t0,t1,fun H6 s6=>?_;have s06:=s05.trans s6;cases qj:lO S.repeats r with
    | false=>
     rw[qj] at kk;change kk _ s06
    | true=>
     rw[qj,if_neg (by simp)] at kk;exists a,C,o.dx,_,_,rfl,s06 _ _ ho,F.cls,F.repeats,rfl,?_;exists o.re,vs,rfl,.inl (aG.of (s06 _ _ hv)),?_;rw[vl];left
     by_cases c2:20<=S.repeats.length
     ·refine ck (ze nofun) ?_
      rw[if_pos c2] at kk;change kk _ s06
     ·refine cE (zd nofun) ?_
      rw[if_neg c2] at kk;change kk _ s06
theorem xB (n:Int×Str):∀{ks:List (Int×Str)} {vs:List V},vs.length=ks.length->(dB ((ks.map kN).zip vs) (kN n)).isSome=decide (n∈ks)
 | [],_,_=>by simp[dB]
 | k::ks,[],h=>by simp at h
 | k::ks,v::vs,h=>by
  have ih:=xB n (ks:=ks) (vs:=vs) (by simpa using h);rw[zh,List.zip_cons_cons];unfold dB at ih ⊢;rw[List.find?_cons]
  by_cases e:k=n
  ·subst e
   simp
  ·have e1:¬kN k=kN n:=fun z=>e (by
    unfold kN at z;simp at z;exact Prod.ext z.1 z.2)
   have e2:¬n=k:=fun z=>e z.symm;simp only[e1,decide_false] at ih ⊢;rw[ih];simp[e2]
theorem lh {α:Type} {d:α->Dt} {H:Hp}:∀{ls:List (List α)} {as:List Addr},cm H d ls as->as.length=ls.length
 | [],_,h=>by unfold cm at h;rw[h];rfl
 | l::r,_,⟨a,t,vs,e,_,_,h3⟩=>by rw[e,zt,zt,lh h3]
def OP {x y:Int×Int}:decide ([V.int x.1,V.int x.2]=[V.int y.1,V.int y.2])=decide (x=y):=by
 by_cases h:x=y
 ·subst h;simp
 ·rw[zd h,zd]
  intro z;simp at z;exact h (Prod.ext z.1 z.2)
def nP (C:Addr):Sp:=fu C fun H v S f=>∃x:Int×Str×List Item,Kd H v x/\0<=x.1/\x.2.2.length<=500/\(∀it∈x.2.2,Oc it.2)/\(∀b∈S.aM,Kg b)/\f=fault S (.aE x.1 x.2.1 x.2.2)
def fV:aC ["score","told","bar","player","items"] ["score","told"] (ao qh):=dy
def Aj {C:Addr} (F:Cf K C):cX P w base 5 T.j8 (nP C):=by
 nomatch T.j8,fV
 obtain⟨a,S,o,v,f,rfl,sc,⟨⟨b,pn,its⟩,⟨a1,q,us,rfl,h1,hq,ilq⟩,b0,il5,iok,bok,rfl⟩,kk⟩:=h;have sl:=yB;obtain⟨ub,jm,ho,hub,hjm⟩:=sc.obj;have nl:(o.ns.map V.ref).length=(S.aE.map (·.1)).length:=by rw[za,za,lh sc.no.2,za]
 have em:(S.aE.map fun x=>kN x.1)=(S.aE.map (·.1)).map kN:=by rw[zA];rfl
 unfold fault at kk;dsimp only at kk h1 b0 il5 iok ilq;refine⟨_,(ag (bT 2 fV.nd (bR (pv 1) ae))
  (ag (bT 3 fV.nd (bR (pv 1) ae))
  (ag (bT 4 fV.nd (bR (pv 1) ae))
  (ag (aH (bB (DU (jE hr) (bj (ah (pv 2) (ah (pv 3) af))) (bE (pv 0) rfl)))
  (aj (aq aJ))
  ax)
  (ag (aH (iQ d7 (pv 3) (bE (pv 0) rfl) (by with_unfolding_all rfl))
  (aj (aq aJ))
  ax)
  (ag (aH (d5 (cz (bJ (j7 T F) hr T.lq (ah (pv 0) (ah (bg (ah (pv 2) af)) af)))))
  (aj (aq aJ))
  ax)
  (ag (aH (ptr (Aa hr.units) (bJ (wz T) hr T.lY (ah (pv 4) af)) (bJ (Ad T F) hr T.nH (ah (pv 0) (ah (pv 2) af))))
  (aj (aq aJ))
  ax)
  (ag (aH (ptr fi (eQ aB T.bu (ah (pv 4) af)) (bU (v:=.int (40)) (by rfl) T.EN ⟨_,rfl⟩))
  (aj (aq aJ))
  ax)
  (aj (aq aS)))))))))),?_⟩
 ac_rfl;exists cx,?_;intros p2 H2 s2 h2;have h12:=s2 _ _ h1;exists a,C,o.dx,_,_,rfl,s2 _ _ ho,F.cls,F.aE,rfl,?_;refine⟨o.no,_,rfl,.inr ⟨_,kN (b,pn),p2,.inl (s2 _ _ sc.no.1),rfl,h2,rfl⟩,?_⟩;rw[em,xB (b,pn) nl];left
 by_cases c1:(b,pn)∈S.aE.map (·.1)
 ·rw[ze c1]
  rw[if_pos c1] at kk;change kk _ s2
 ·rw[zd c1]
  rw[if_neg c1] at kk;exists a,C,o.dx,_,_,rfl,s2 _ _ ho,F.cls,F.players,rfl,?_;refine⟨o.pl,_,rfl,.inl (aG.of (s2 _ _ sc.pl)),rfl,gD _,?_⟩;show∃k,V.bl (!Fi (.str pn) (S.players.map V.str))=.bl k/\_;rw[jD]
  by_cases c2:pn∈S.players
  ·rw[ze c2]
   rw[if_neg (fun z=>z c2)] at kk;exists by show 1<=sizeLine;omega,?_
   intros p3 H3 s3 h3;refine⟨a,p3,S,o,[b],rfl,sc.mono (s2.trans s3),aG.of h3,(by show 1<=1000000;decide),fun H4 s4=>?_⟩;have s04:=(s2.trans s3).trans s4;cases qb:S.has [b] with
   | false=>
    rw[qb] at kk;change kk _ s04
   | true=>
    rw[qb,if_neg (by simp)] at kk;have hb:b<S.aM.length:=by
     unfold cD.has at qb
     simpa using qb
    obtain⟨n,rfl⟩:=yK b0;exists q,us,its,rfl,aG.of (s04 _ _ hq),ilq.mono s04,il5,iok,fun r5 H5 s5 h5=>?_;exists a,S,o,n,rfl,sc.mono (s04.trans s5),nofun,bok,fun r6 H6 s6 h6=>?_;have s06:=(s04.trans s5).trans s6;refine⟨r5,r6,_,_,rfl,rfl,.inr ⟨dw.of (s6 _ _ h5),dw.of h6⟩,.inr (.inr ⟨rfl,rfl⟩),?_⟩;rw[OP]
    by_cases c3:km its=S.len n
    ·rw[ze c3]
     rw[if_neg (fun z=>z c3)] at kk;exists q,us,rfl,.inl (aG.of (s06 _ _ hq)),?_;rw[aT ilq];left
     by_cases c4:40<its.length
     ·refine ck (ze nofun) ?_
      rw[if_pos c4] at kk;change kk _ s06
     ·refine cE (zd nofun) ?_
      rw[if_neg c4] at kk;change kk _ s06
    ·rw[zd c3]
     rw[if_pos (show km its≠S.len ((n:Int)).toNat from c3)] at kk;change kk _ s06
  ·rw[zd c2]
   rw[if_pos c2] at kk;change kk _ s2
def both {c:Bool} {T:(Bool->Hp->Prop)->Prop} {Z:Bool->Hp->Prop} {H:Hp} (v:Bool) (h1:c=true->∀Z,Z v H->T Z) (h2:c=false->v=false) (hz:Z v H):if c=true then T Z else Z false H:=by
 cases c with
 | true=>rw[if_pos rfl];exact h1 rfl Z hz
 | false=>rw[if_neg (by simp)];rw[<-h2 rfl];exact hz
theorem CV {H:Hp} {α:Type} {d:α->Dt} (p:Str):∀{hs:List (Str×List α)} {as:List Addr},cm H d (hs.map (·.2)) as->
  (hs.lookup p=none/\dB ((hs.map fun x=>kS x.1).zip (as.map V.ref)) (kS p)=none)\/∃l h vs,hs.lookup p=some l/\dB ((hs.map fun x=>kS x.1).zip (as.map V.ref)) (kS p)=some (.ref h)/\H h=some (.lst vs)/\ay H (l.map d) vs
 | [],_,h=>.inl ⟨rfl,by simp[dB]⟩
 | (x,l)::r,as,h=>by
  rw[zh] at h;unfold cm at h;obtain⟨a,t,vs,rfl,h1,h2,h3⟩:=h;rw[zh,zh,List.zip_cons_cons]
  by_cases e:x=p
  ·subst e
   refine .inr ⟨l,a,vs,by rw[yp,beq_self_eq_true],?_,h1,h2⟩;unfold dB;rw[List.find?_cons];simp
  ·have e1:¬kS x=kS p:=fun z=>e (Sum.inr.inj z)
   have e2:(p == x)=false:=by simp;exact fun z=>e z.symm
   have ih:=CV p h3;unfold dB at ih ⊢;rw[List.find?_cons,yp,e2];simp only[e1,decide_false];exact ih
def So {H:Hp} {x:Int×Str} {v:V} (h:Is H (J5 x) v):∃a,v=.ref a/\H a=some (.tup [.int x.1,.str x.2]):=by
 unfold J5 Is at h;obtain⟨a,vs,rfl,ha,hl⟩:=h;unfold ay at hl;obtain⟨v1,r1,rfl,h1,hl⟩:=hl;unfold ay at hl;obtain⟨v2,r2,rfl,h2,hl⟩:=hl;unfold ay at hl;subst hl;unfold Is at h1 h2;subst h1 h2;exact⟨a,rfl,ha⟩
def JX {H:Hp} {x:Str×Int×Str} {v:V} (h:Is H (vP x) v):∃a,v=.ref a/\H a=some (.tup [.str x.1,.int x.2.1,.str x.2.2]):=by
 unfold vP Is at h;obtain⟨a,vs,rfl,ha,hl⟩:=h;unfold ay at hl;obtain⟨v1,r1,rfl,h1,hl⟩:=hl;unfold ay at hl;obtain⟨v2,r2,rfl,h2,hl⟩:=hl;unfold ay at hl;obtain⟨v3,r3,rfl,h3,hl⟩:=hl;unfold ay at hl;subst hl;unfold Is at h1 h2 h3;subst h1 h2 h3;exact⟨a,rfl,ha⟩
def pP (C:Addr):Sp:=fu C fun H v S f=>∃x:Str×Int×Str,Is H (vP x) v/\f=fault S (.holds x.1 x.2.1 x.2.2)
def ky:aC ["score","told","bar","holds"] ["score","told"] (ao sk):=dy
def BO {C:Addr} (F:Cf K C):cX P w base 3 T.l6 (pP C):=by
 nomatch T.l6,ky
 obtain⟨a,S,o,v,f,rfl,sc,⟨⟨pn,b,iN⟩,hd,rfl⟩,kk⟩:=h;obtain⟨a1,rfl,h1⟩:=JX hd;have sl:=yB;obtain⟨ub,jm,ho,hub,hjm⟩:=sc.obj;unfold fault at kk;dsimp only at kk h1;refine⟨_,(ag (bT 2 ky.nd (bR (pv 1) ae))
  (ag (bT 3 ky.nd (M0 (jE hr) (bE (pv 0) rfl) (bR (pv 1) ae) (bg af) ⟨rfl,rfl,rfl,rfl⟩))
  (ag (aH (PW.pt (dr (ptr fi (eQ aB T.bu (ah (pv 3) af)) ae) (cR (ptr iK (pv 2) (bR (fL (pv 3) (sN lF ae)) ae)))))
  (aj (aq aJ))
  ax)
  (ag (aH (PW.pt (eE (iQ d7 (bR (pv 1) ae) (bE (pv 0) rfl) (by with_unfolding_all rfl)) (dP (bB (o6 (jE hr) (bR (pv 1) ae) (bE (pv 0) rfl))))))
  (aj (aq aJ))
  ax)
  (ag (aH (d5 (cz (bJ (j7 T F) hr T.lq (ah (pv 0) (ah (bg (ah (pv 2) af)) af)))))
  (aj (aq aJ))
  ax)
  (ag (aH (ptr Ab (eQ aB T.bu (ah (pv 3) af)) (bU (v:=.int (20)) (by rfl) T.EO ⟨_,rfl⟩))
  (aj (aq aJ))
  ax)
  (aj (aq aS)))))))),?_⟩
 ac_rfl;exists a,C,o.dx,_,_,rfl,ho,F.cls,F.holds,rfl,?_;refine⟨o.ho,rfl,.inl ⟨_,.inl sc.ho.1⟩,?_⟩;exists by show 0<=sizeLine;omega,?_
 intros p2 H2 s2 h2;have h12:=s2 _ _ h1;refine⟨_,.inl ⟨_,kS pn,.inl (s2 _ _ sc.ho.1),rfl,rfl⟩,?_⟩;obtain⟨h,vs,l,eh,hh,ilh,el⟩:∃h vs l,(dB ((S.holds.map fun x=>kS x.1).zip (o.hs.map V.ref)) (kS pn)).getD (.ref p2)=.ref h/\H2 h=some (.lst vs)/\ay H2 (l.map J5) vs/\(S.holds.lookup pn).getD []=l:=by
  rcases CV (H:=H) pn sc.ho.2 with⟨e1,e2⟩ | ⟨l,h,vs,e1,e2,hh,il⟩
  ·exact⟨p2,[],[],by rw[e2];rfl,h2,by unfold ay;rfl,by rw[e1];rfl⟩
  ·exact⟨h,vs,l,by rw[e2];rfl,s2 _ _ hh,il.mono s2,by rw[e1];rfl⟩
 rw[el] at kk;rw[eh];exists h,vs,rfl,.inl (aG.of hh),?_;rw[aT ilh];left;obtain⟨c1,ec,kk⟩:∃c1:Bool,c1=(match l.getLast? with | some q=>decide (b<=q.1) | none=>false)/\∀H',au H H'->Q (Sc.os (if c1=true then some "twice" else if pn∉S.players then some "name" else if iN∉S.ak.map (·.1) then some "name" else if¬S.has [b]=true then some "bar" else if 20<=l.length then some "many" else none)) H':=by
  refine⟨_,rfl,?_⟩;cases q:l.getLast? with
  | none=>rw[q] at kk;exact kk
  | some x=>rw[q] at kk;exact kk
 refine both c1 ?_ ?_ ?_
 ·intro c Z hz
  have lp:0<l.length:=by have:=yd c;omega
  have vl:=aT ilh;obtain⟨x,hx,ix⟩:=dZ ilh (i:=vs.length-1) (zb nofun);obtain⟨a3,ea,h3⟩:=So ix;have eg:l.getLast?=some x:=by rw[List.getLast?_eq_getElem?,<-vl];exact hx
  rw[ec,eg] at hz;left;refine⟨h,vs,-1,_,rfl,rfl,aG.of hh,Ka (zb nofun),?_⟩;rw[ea];change hz
 ·intro c
  have:l=[]:=yr.mp (by have:=of_decide_eq_false c;omega);rw[ec,this];rfl
 ·clear ec
  cases c1 with
  | true=>
   change kk _ s2
  | false=>
   rw[if_neg (by simp)] at kk;exists a,C,o.dx,_,_,rfl,s2 _ _ ho,F.cls,F.players,rfl,?_;refine⟨o.pl,_,rfl,.inl (aG.of (s2 _ _ sc.pl)),rfl,gD _,?_⟩;show∃k,V.bl (!Fi (.str pn) (S.players.map V.str))=.bl k/\_;rw[jD]
   by_cases c2:pn∈S.players
   ·rw[ze c2]
    rw[if_neg (fun z=>z c2)] at kk;obtain⟨us,hu,ilu⟩:=sc.ins;have em:(S.ak.map fun x=>kS x.1)=(S.ak.map (·.1)).map kS:=by rw[zA];rfl
    exists a,C,o.dx,_,_,rfl,s2 _ _ ho,F.cls,F.ak,rfl,?_;refine⟨o.ins,_,rfl,.inl ⟨_,kS iN,.inl (s2 _ _ hu),rfl,rfl⟩,?_⟩;rw[em,rH iN (by rw[za];exact aT ilu)]
    by_cases c3:iN∈S.ak.map (·.1)
    ·rw[ze c3]
     rw[if_neg (fun z=>z c3)] at kk;exists by show 1<=sizeLine;omega,?_
     intros p3 H3 s3 h3;refine⟨a,p3,S,o,[b],rfl,sc.mono (s2.trans s3),aG.of h3,(by show 1<=1000000;decide),fun H4 s4=>?_⟩;have s04:=(s2.trans s3).trans s4;cases qb:S.has [b] with
     | false=>
      rw[qb] at kk;change kk _ s04
     | true=>
      rw[qb,if_neg (by simp)] at kk;exists h,vs,rfl,.inl (aG.of ((s3.trans s4) _ _ hh)),?_;rw[aT ilh];left
      by_cases c4:20<=l.length
      ·refine ck (ze nofun) ?_
       rw[if_pos c4] at kk;change kk _ s04
      ·refine cE (zd nofun) ?_
       rw[if_neg c4] at kk;change kk _ s04
    ·rw[zd c3]
     rw[if_pos c3] at kk;change kk _ s2
   ·rw[zd c2]
    rw[if_pos c2] at kk;change kk _ s2
def FC {H:Hp} {x:Str×List Str} {v:V} (h:Is H (gF x) v):∃a q,v=.ref a/\H a=some (.tup [.str x.1,.ref q])/\H q=some (.tup (x.2.map V.str)):=by
 unfold gF Is at h;obtain⟨a,vs,rfl,ha,hl⟩:=h;unfold ay at hl;obtain⟨v1,r1,rfl,h1,hl⟩:=hl;unfold ay at hl;obtain⟨v2,r2,rfl,h2,hl⟩:=hl;unfold ay at hl;subst hl;unfold Is at h1;subst h1;unfold m8 Is at h2;obtain⟨q,us,rfl,hq,hl⟩:=h2;rw[dI hl] at hq;exact⟨a,q,rfl,ha,hq⟩
def QG {H:Hp} {x:Str×List Str} {v:V} (h:Is H (Pd x) v):∃q,v=.ref q/\H q=some (.tup (x.2.map V.str)):=by
 unfold Pd m8 Is at h;obtain⟨q,us,rfl,hq,hl⟩:=h;rw[dI hl] at hq;exact⟨q,rfl,hq⟩
inductive FE (C:Addr) (vs:List V) (H:Hp) (Q:VK) (E:XK):Prop
 | mk (a:Addr) (S:cD) (o:Ow) (v ub jm:V) (x:Str×List Str) (ob:Obj) (us:List V) (_:vs=[.ref a,v]) (_:H a=some (.ins C o.dx (N8 o ub jm))) (_:H o.pl=some (.lst (S.players.map V.str))) (_:Ju H o.st ob ((S.aI.map fun x=>kS x.1).zip us)) (_:ay H (S.aI.map Pd) us) (_:Is H (gF x) v) (_:x.2.length<=1000) (_:∀H',au H H'->Q (os (fault S (.cw x.1 x.2))) H')
theorem HI {α β:Type}:∀{l:List α} {m:List β} {i:Nat} {p:α×β},(l.zip m)[i]?=some p->l[i]?=some p.1/\m[i]?=some p.2
 | [],_,_,_,h=>by simp at h
 | _::_,[],_,_,h=>by simp at h
 | _::_,_::_,0,_,h=>by simp at h;subst h;exact⟨rfl,rfl⟩
 | _::l,_::m,i+1,_,h=>by
  rw[List.zip_cons_cons] at h
  simpa using HI (l:=l) (m:=m) (i:=i) (by simpa using h)
def NY {α:Type} {p:α->Bool} {l:List α} {i:Nat} {x:α} (h:l[i]?=some x) (hn:(l.take i).any p=false) (hx:p x=false):(l.take (i+1)).any p=false:=by
 rw[dC h,List.any_append,hn];simp[hx]
def NZ {α:Type} {p:α->Bool} {l:List α} {i:Nat} {x:α} (h:l[i]?=some x) (hx:p x=true):l.any p=true:=yn.mpr ⟨x,zB h,hx⟩
def jh:aC ["score","told","players","others"] ["score","told"] (ao pT):=dy
def Gd {C:Addr} (F:Cf K C):cX P w base 1 T.gY (FE C):=by
 nomatch T.gY,jh
 obtain⟨a,S,o,v,ub,jm,x,ob,us,rfl,ho,hpl,fz,ilu,iv,x5,kk⟩:=h;obtain⟨a1,q,rfl,h1,hq⟩:=FC iv;have sl:=yB;have ul:=aT ilu;have em:(S.aI.map fun x=>kS x.1)=(S.aI.map (·.1)).map kS:=by rw[zA];rfl
 unfold fault at kk;dsimp only at kk;refine⟨_,(ag (bT 2 jh.nd (bR (pv 1) ae))
  (ag (aH (PW.pt (eE (bB (DU (jE hr) (bR (pv 1) ae) (bE (pv 0) rfl))) (dP (ptr fw (eQ Lr T.bu (ah (ng (Lp rfl) T.Sb (ah (pv 2) af)) af)) (eQ aB T.bu (ah (pv 2) af))))))
  (aj (aq aJ))
  ax)
  (ag (cA PassesOwn.never rfl (KL (bE (pv 0) rfl)) (jA 3 jh.nd)
  (aj (aH (cz (eQ (gI rfl) T.Al (ah (pI (ts:=["player"]) (ys:=["others"]) (js:=[3]) (te:=(fH (RA K false) (aX 0) (aX 1))) (kA (pv 2)) (gy 0) bw (dG o7 (pv 0) (pv 1) (by with_unfolding_all rfl))) af)))
   (aj (aq aJ))
   ax)))
  (ag (aH (cz (eQ (gI rfl) T.Al (ah (pI (ts:=["player"]) (ys:=["score"]) (js:=[0]) (te:=(fH (RA K true) (aX 0) (Oj K (aX 1) "players"))) (kA (pv 2)) (gy 0) bw (dG d7 (pv 0) (bE (pv 1) rfl) (by with_unfolding_all rfl))) af)))
  (aj (aq aJ))
  ax)
  (aj (aq aS)))))),?_⟩
 ac_rfl;exists a,C,o.dx,_,_,rfl,ho,F.cls,F.aI,rfl,?_;refine⟨o.st,_,rfl,.inl ⟨_,kS x.1,.inr ⟨_,fz⟩,rfl,rfl⟩,?_⟩;rw[em,rH x.1 (by rw[za];exact ul)]
 by_cases c1:x.1∈S.aI.map (·.1)
 ·rw[ze c1]
  rw[if_pos c1] at kk;change kk _ (au.refl _)
 ·rw[zd c1]
  rw[if_neg c1] at kk;exists q,x.2,rfl,dw.of hq,x5,fun p2 n2=>?_;have s2:au H (upd H p2 (HB p2 (gE x.2).length)):=aR n2;have h2:upd H p2 (HB p2 (gE x.2).length) p2=some (HB p2 (gE x.2).length):=aA;generalize upd H p2 (HB p2 (gE x.2).length)=H2 at s2 h2 ⊢;obtain⟨d1,d2⟩:=GU x.2;refine⟨p2,_,rfl,h2,nofun,?_⟩;exists q,_,rfl,.inr (dw.of (s2 _ _ hq)),?_;rw[za];left
  by_cases c2:x.2.Nodup
  ·refine cE (zd (by have:=d2.mpr c2;omega)) ?_
   rw[if_neg (fun z=>z c2)] at kk;exists a,C,o.dx,_,_,rfl,s2 _ _ ho,F.cls,F.aI,rfl,?_;refine⟨o.st,ob,_,rfl,s2 _ _ fz,?_⟩;refine IJ (fun i σ H'=>au H H'/\(S.aI.take i).any (fun q=>x.2.any fun p=>decide (p∈q.2))=false/\∃u,σ=[some (.ref a),some (.ref a1),some (.ref q),u]) ⟨s2,rfl,none,rfl⟩ (fun i σ H' _ h=>h.1 _ _ fz) ?_ ?_
   ·intro i p σ H3 hp hh
    refine cY fun N kN0 kR0 _ _=>?_;obtain⟨s3,hn,u,rfl⟩:=hh;obtain⟨_,hp2⟩:=HI hp;obtain⟨st,hst,ist⟩:=dZ ilu hp2;obtain⟨r,er,hr'⟩:=QG ist;rw[er];exists⟨_,dw.of (s3 _ _ hq)⟩,?_;refine gG (enc:=V.str) (ws:=x.2) (fun z=>.bl (decide (z∈st.2))) (fun σ=>∃v,σ=[v,some (.ref r)]) nofun (s3 _ _ hq) ⟨none,rfl⟩ ?_ ?_
    ·rintro z σ H4 R hz s4 ⟨_,rfl⟩ rr
     exists r,_,rfl,.inr (dw.of ((s3.trans s4) _ _ hr')),rfl,gD _,?_;refine rr _ _ _ (au.refl _) ?_ ⟨_,rfl⟩;rw[if_neg (by simp),jD];unfold Is;rfl
    ·intro D vs H4 s4 hD il
     have e:x.2.map (fun z=>Dt.bl (decide (z∈st.2)))=(x.2.map fun z=>decide (z∈st.2)).map Dt.bl:=by rw[zA];rfl
     rw[e] at il;rw[kC il] at hD;refine⟨D,_,rfl,aG.of hD,?_⟩;have e2:(x.2.map fun z=>decide (z∈st.2)).any id=x.2.any fun p=>decide (p∈st.2):=by rw[List.any_map];rfl
     rw[e2];cases qc:x.2.any fun p=>decide (p∈st.2) with
     | true=>
      rw[if_pos (NZ hst (p:=fun q:Str×List Str=>x.2.any fun p=>decide (p∈q.2)) qc)] at kk;change kk _ (s3.trans s4)
     | false=>
      change⟨s3.trans s4,NY hst hn qc,_,rfl⟩
   ·rintro σ H3 ⟨s3,hn,u,rfl⟩
    rw[List.length_zip,za,ul,Nat.min_self,zM] at hn;rw[hn,if_neg (by simp)] at kk;exists⟨_,dw.of (s3 _ _ hq)⟩,?_;refine gG (enc:=V.str) (ws:=x.2) (fun z=>.bl (!decide (z∈S.players))) (fun σ=>∃v,σ=[v,some (.ref a)]) nofun (s3 _ _ hq) ⟨none,rfl⟩ ?_ ?_
    ·rintro z σ H4 R hz s4 ⟨_,rfl⟩ rr
     exists a,C,o.dx,_,_,rfl,(s3.trans s4) _ _ ho,F.cls,F.players,rfl,?_;refine⟨o.pl,_,rfl,.inl (aG.of ((s3.trans s4) _ _ hpl)),rfl,gD _,?_⟩;refine rr _ _ _ (au.refl _) ?_ ⟨_,rfl⟩;show Is H4 _ (V.bl (!Fi (.str z) (S.players.map V.str)));rw[jD];unfold Is;rfl
    ·intro D vs H4 s4 hD il
     have e:x.2.map (fun z=>Dt.bl (!decide (z∈S.players)))=(x.2.map fun z=>!decide (z∈S.players)).map Dt.bl:=by rw[zA];rfl
     rw[e] at il;rw[kC il] at hD;refine⟨D,_,rfl,aG.of hD,?_⟩;have e2:(x.2.map fun z=>!decide (z∈S.players)).any id=x.2.any fun p=>!decide (p∈S.players):=by rw[List.any_map];rfl
     rw[e2];cases qc:x.2.any fun p=>!decide (p∈S.players) with
     | true=>
      rw[qc,if_pos rfl] at kk;change kk _ (s3.trans s4)
     | false=>
      rw[qc,if_neg (by simp)] at kk;change kk _ (s3.trans s4)
  ·refine ck (ze (by have:(gE x.2).length≠x.2.length:=fun z=>c2 (d2.mp z);omega)) ?_
   rw[if_pos c2] at kk;change kk _ s2
def nO (C:Addr):Sp:=fu C fun H v S f=>∃x,Is H (gF x) v/\x.2.length<=1000/\f=fault S (.cw x.1 x.2)
def Nz {H:Hp} {d:Addr} {o:Obj} {u:HO} (hd:H d=some u) (nt:cT (some u)) {l:List Dt} {vs:List V} (h:ay H l vs):ay (upd H d (.nF o u)) l vs:=ay.upd (by rw[hd];exact nt) h
def FQ {H H':Hp} {d:Addr} {o:Obj} {u:HO} (hd:H d=some u) (s:au (upd H d (.nF o u)) H'):au H (upd H' d u):=fun b z hb=>by
 by_cases e:b=d
 ·subst e;rw[aA,<-hd,hb]
 ·rw[aD e];exact s b z (by rw[aD e];exact hb)
def Ae {C:Addr} (F:Cf K C):cX P w base 1 T.gY (nO C):=by
 refine(Gd (P:=P) (w:=w) (base:=base) T F).Pz (fun vs H Q E h=>?_) (fun vs H Q E h=>?_)
 ·obtain⟨_,_,_,_,_,rfl,_⟩:=h;rfl
 ·obtain⟨a,S,o,v,f,rfl,sc,⟨x,iv,x5,rfl⟩,kk⟩:=h
  obtain⟨us,hu,ilu⟩:=sc.st;obtain⟨ub,jm,ho,hub,hjm⟩:=sc.obj;have nt:cT (some (HO.dK ((S.aI.map fun x=>kS x.1).zip us))):=fun vs z=>by cases z
  have na:a≠o.st:=fun z=>by rw[z,hu] at ho;cases ho
  have np:o.pl≠o.st:=fun z=>by have:=sc.pl;rw[z,hu] at this;cases this
  refine⟨o.st,_,hu,rfl,fun ob=>⟨a,S,o,v,ub,jm,x,ob,us,rfl,by rw[aD na];exact ho,by rw[aD np];exact sc.pl,aA,Nz hu nt ilu,Is.upd (by rw[hu];exact nt) iv,x5,fun H' s'=>kk _ (FQ hu s')⟩⟩
def P5 (S:cD):Prop:=∀b∈S.aM,Kg b
inductive Dy (C:Addr) (vs:List V) (H:Hp) (Q:VK) (E:XK):Prop
 | mk (a:Addr) (S:cD) (o:Ow) (v ub jm:V) (x:Int×Int) (ob:Obj) (us:List V) (_:vs=[.ref a,v]) (_:H a=some (.ins C o.dx (N8 o ub jm))) (_:Is H (dO dL S.aF) ub) (_:S7 C H a S o) (_:H o.no=some (.nF ob (.dT ((S.aE.map fun x=>kN x.1).zip us)))) (_:us.length=S.aE.length) (_:S.aE.length<=1000000) (_:Is H (dL x) v) (_:Bk 8999 x) (_:P5 S) (_:∀H',au H H'->Q (os (fault S (.aF x))) H')
def Nb {S:cD} (h:P5 S) (b:Nat) (hb:b<S.aM.length):Bk 8999 (S.aQ b):=by
 unfold cD.aQ;rw[zb hb];obtain⟨k1,k2,k3,k4⟩:=h _ (yk hb);obtain⟨g,g1,g2,g3,g4,g5⟩:=lP (t:=S.aM[b].aQ.1) k3;have r0:=yW (t:=S.aM[b].aQ.1) (b:=S.aM[b].aQ.2) k1;have r1:=yX (t:=S.aM[b].aQ.1) (b:=S.aM[b].aQ.2) k1;dsimp only;exact⟨(dq (n:=10) r0 nofun).mono ∅,(dq (n:=10) nofun nofun).mono ∅⟩
def wj:aC ["score","length"] ["score","length"] (ao nY):=dy
def DW {C:Addr} (F:Cf K C):cX P w base 4 T.fR (Dy C):=by
 nomatch T.fR,wj
 obtain⟨a,S,o,v,ub,jm,x,ob,us,rfl,ho,hub,sb,fz,ul,n6,iv,zx,bok,kk⟩:=h;have sl:=yB;unfold fault at kk;dsimp only at kk;refine⟨_,(ag (aH (bB (gN (bE (pv 0) rfl)))
  (aj (aq aJ))
  ax)
  (ag (aH (ptr dg (eQ aB T.bu (ah (bE (pv 0) rfl) af)) ae)
  (aj (aq aJ))
  ax)
  (ag (aH (d5 (cz (bJ (Im T) hr T.DI (ah (pv 1) (ah (bJ (mV T F) hr T.iT (ah (pv 0) (ah ae af))) af)))))
  (aj (aq aJ))
  ax)
  (ag (aH (cz (eQ (gI rfl) T.Al (ah (pI (ts:=["place"]) (ys:=[]) (js:=[]) (te:=(fH T5 (fH (qP K) (aX 0) (tC (.int (0)))) (tC (.int (0))))) (OJ (bE (pv 0) rfl)) (gy 0) bw (dG dg (bR (pv 0) ae) ae (gz _))) af)))
  (aj (aq aJ))
  ax)
  (aj (aq aS)))))),?_⟩
 ac_rfl;exists a,C,o.dx,_,_,rfl,ho,F.cls,F.aF,rfl,?_;cases q:S.aF with
 | some u=>
  rw[q,if_pos (show(some u).isSome=true from rfl)] at kk;rw[q] at hub;cases fk (o:=some u) hub with
  | ref hu=>
   change kk _ (au.refl _)
 | none=>
  rw[q,if_neg (by simp)] at kk;rw[q] at hub;unfold dO Is at hub;subst hub;obtain⟨vs,hv,il⟩:=sb.ba;cases fk (o:=some x) iv with
  | ref hx=>
  rename_i a1;exists a,C,o.dx,_,_,rfl,ho,F.cls,F.aM,rfl,?_;exists o.ba,vs,rfl,.inl (aG.of hv),?_;rw[aT il];left
  by_cases c1:S.aM.length=0
  ·refine ck (by rw[c1];rfl) ?_
   rw[if_pos c1] at kk;change kk _ (au.refl _)
  ·refine cE (zd fun z=>c1 (by have:=V.int.inj z;omega)) ?_
   rw[if_neg c1] at kk;exists a,S,o,0,rfl,sb,nofun,bok,fun p H1 s1 h1=>?_;refine⟨_,_,_,_,rfl,s1 _ _ hx,h1,zx,Nb bok 0 nofun,?_⟩
   by_cases c2:x.1*(S.aQ 0).2<(S.aQ 0).1*x.2
   ·rw[ze c2]
    rw[if_neg (fun z=>z c2)] at kk;exists a,C,o.dx,_,_,rfl,s1 _ _ ho,F.cls,F.aE,rfl,?_;refine⟨o.no,ob,_,_,rfl,⟨_,s1 _ _ fz,.inr ⟨_,rfl,rfl,rfl⟩⟩,?_⟩;have kl:((S.aE.map fun x=>kN x.1).zip us).length=S.aE.length:=by rw[List.length_zip,za,ul,Nat.min_self]
    refine AS (ws:=S.aE) (fun p x H=>∃b,x=.ref b/\H b=some (.tup [.int p.1.1,.str p.1.2])) (fun p=>.bl (decide (p.1.1=0))) (fun σ=>∃v,σ=[v]) nofun ⟨none,rfl⟩ (fun i H2 hi s2=>⟨⟨_,s2 _ _ (s1 _ _ fz),.inr ⟨_,rfl,rfl,rfl⟩⟩,nofun⟩) (fun H2 s2=>⟨⟨_,s2 _ _ (s1 _ _ fz),.inr ⟨_,rfl,rfl,rfl⟩⟩,nofun⟩) ?_ ?_ ?_
    ·rintro i y H2 H3 hi s2 ⟨rfl,p,b,hp,hb,rfl⟩
     refine⟨au.refl _,b,rfl,?_⟩;obtain⟨z1,_⟩:=HI hp;rw[zJ,zb hi] at z1;simp only[Option.map_some,Option.some.injEq] at z1;rw[<-z1] at hb;exact hb
    ·rintro p y σ H2 R hp s2 ⟨b,rfl,hb⟩ ⟨_,rfl⟩ r
     left;refine r _ _ _ (au.refl _) ?_ ⟨_,rfl⟩;rw[show decide (V.int p.1.1=V.int 0)=decide (p.1.1=0) from by by_cases h:p.1.1=0 <;> simp[h]];unfold Is;rfl
    ·intro D vs H4 s4 hD il
     have e:S.aE.map (fun p=>Dt.bl (decide (p.1.1=0)))=(S.aE.map fun p=>decide (p.1.1=0)).map Dt.bl:=by rw[zA];rfl
     rw[e] at il;rw[kC il] at hD;refine⟨D,_,rfl,aG.of hD,?_⟩;have e2:(S.aE.map fun p=>decide (p.1.1=0)).any id=S.aE.any fun p=>decide (p.1.1=0):=by rw[List.any_map];rfl
     rw[e2];cases qc:S.aE.any fun p=>decide (p.1.1=0) with
     | true=>
      rw[qc,if_pos rfl] at kk;change kk _ (s1.trans s4)
     | false=>
      rw[qc,if_neg (by simp)] at kk;change kk _ (s1.trans s4)
   ·rw[zd c2]
    rw[if_pos c2] at kk;change kk _ s1
def mC (C:Addr):Sp:=fu C fun H v S f=>∃x,Is H (dL x) v/\Bk 8999 x/\P5 S/\S.aE.length<=1000000/\f=fault S (.aF x)
def wu {C:Addr} (F:Cf K C):cX P w base 4 T.fR (mC C):=by
 refine(DW (P:=P) (w:=w) (base:=base) T F).Pz (fun vs H Q E h=>?_) (fun vs H Q E h=>?_)
 ·obtain⟨_,_,_,_,_,rfl,_⟩:=h;rfl
 ·obtain⟨a,S,o,v,f,rfl,sc,⟨x,iv,zx,bok,n6,rfl⟩,kk⟩:=h
  obtain⟨hn,ln⟩:=sc.no;obtain⟨ub,jm,ho,hub,hjm⟩:=sc.obj;obtain⟨bs,hb,ilb⟩:=sc.ba;have nt:cT (some (HO.dT ((S.aE.map fun x=>kN x.1).zip (o.ns.map V.ref)))):=fun vs z=>by cases z
  have na:a≠o.no:=fun z=>by rw[z,hn] at ho;cases ho
  have nb:o.ba≠o.no:=fun z=>by rw[z,hn] at hb;cases hb
  have ho':∀ob,upd H o.no (.nF ob (.dT ((S.aE.map fun x=>kN x.1).zip (o.ns.map V.ref)))) a=some (.ins C o.dx (N8 o ub jm)):=fun ob=>by rw[aD na];exact ho
  refine⟨o.no,_,hn,rfl,fun ob=>⟨a,S,o,v,ub,jm,x,ob,o.ns.map V.ref,rfl,ho' ob,Is.upd (by rw[hn];exact nt) hub,⟨⟨ub,jm,ho' ob⟩,bs,by rw[aD nb];exact hb,Nz hn nt ilb⟩,aA,by rw[za,lh ln,za],n6,Is.upd (by rw[hn];exact nt) iv,zx,bok,fun H' s'=>kk _ (FQ hn s')⟩⟩
noncomputable def qC:Told->Str
 | .bD _=> "player"
 | .cM _ _ _=> "instrument"
 | .cw _ _=> "staff"
 | .bar _=> "bar"
 | .aF _=> "upbeat"
 | .holds _ _ _=> "holds"
 | .aE _ _ _=> "notes"
 | .rep _=> "repeat"
 | .cj _=> "jump"
def Rt (S:cD):Told->Prop
 | .cw _ ps=>ps.length<=1000
 | .aF l=>Bk 8999 l/\P5 S/\S.aE.length<=1000000
 | .aE b _ its=>0<=b/\its.length<=500/\(∀it∈its,Oc it.2)/\P5 S
 | .rep r=>HR r.ends<64/\r.ends.length<=1000/\-1000000<=r.times/\r.times<=1000000
 | .cj _=>Fb S
 | _=>True
inductive LQ (K:yA) {mg:Str->Option Value} (T:Txt K mg) (C:Addr):Addr->Sp->Prop where
 | bD:LQ K T C T.gk (mE C)
 | cM:LQ K T C T.eB (iG C)
 | cw:LQ K T C T.gR (nO C)
 | bar:LQ K T C T.ki (rL C)
 | aF:LQ K T C T.gi (mC C)
 | holds:LQ K T C T.i6 (pP C)
 | aE:LQ K T C T.gX (nP C)
 | rep:LQ K T C T.gj (mD C)
 | cj:LQ K T C T.i4 (pO C)
noncomputable def PX {K:yA} {mg:Str->Option Value} (T:Txt K mg):List (Str×V):=[("player",V.ref T.gk),("instrument",.ref T.eB),("staff",.ref T.gR),("bar",.ref T.ki),("upbeat",.ref T.gi),("holds",.ref T.i6),("notes",.ref T.gX),("repeat",.ref T.gj),("jump",.ref T.i4)]
def Ny (K:yA) {mg:Str->Option Value} (T:Txt K mg) (C:Addr) (t:Told):∃f D,tW (PX T) (qC t)=some (.ref f)/\LQ K T C f (fu C D)/\∀H0 H v S,gK H0 H v (some t)->Rt S t->D H v S (fault S t):=by
 cases t with
 | bD n=>exact⟨_,_,rfl,.bD,fun H0 H v S h1 h2=>⟨n,h1,rfl⟩⟩
 | cM n t l=>exact⟨_,_,rfl,.cM,fun H0 H v S h1 h2=>⟨(n,t,l),h1,rfl⟩⟩
 | cw n ps=>exact⟨_,_,rfl,.cw,fun H0 H v S h1 h2=>⟨(n,ps),h1,h2,rfl⟩⟩
 | bar b=>exact⟨_,_,rfl,.bar,fun H0 H v S h1 h2=>⟨b,rfl⟩⟩
 | aF l=>exact⟨_,_,rfl,.aF,fun H0 H v S h1 h2=>⟨l,h1,h2.1,h2.2.1,h2.2.2,rfl⟩⟩
 | holds p b i=>exact⟨_,_,rfl,.holds,fun H0 H v S h1 h2=>⟨(p,b,i),h1,rfl⟩⟩
 | aE b p its=>exact⟨_,_,rfl,.aE,fun H0 H v S h1 h2=>⟨(b,p,its),i9.at h1,h2.1,h2.2.1,h2.2.2.1,h2.2.2.2,rfl⟩⟩
 | rep r=>exact⟨_,_,rfl,.rep,fun H0 H v S h1 h2=>⟨r,h1,h2.1,h2.2.1,h2.2.2.1,h2.2.2.2,rfl⟩⟩
 | cj j=>exact⟨_,_,rfl,.cj,fun H0 H v S h1 h2=>⟨j,h1,h2,rfl⟩⟩
def Ma {H0 H:Hp} {v:V} {t:Told} (h:gK H0 H v (some t)):v≠.bH:=by
 have tp:∀l,Is H (.tup l) v->v≠.bH:=fun l z=>by
  unfold Is at z;obtain⟨a,vs,e,_⟩:=z;rw[e];simp
 cases t with
 | bD n=>have e:v=.str n:=h;rw[e];simp
 | cM n t l=>exact tp _ h
 | cw n ps=>exact tp _ h
 | bar b=>exact tp _ h
 | aF l=>exact tp _ h
 | holds p b i=>exact tp _ h
 | aE b p its=>obtain⟨a,_,_,e,_⟩:=h;rw[e];simp
 | rep r=>exact tp _ h
 | cj j=>exact tp _ h
noncomputable def NF (S:cD):Option Told->Option Str
 | none=>some "row"
 | some t=>fault S t
inductive FI (C:Addr) (vs:List V) (H:Hp) (Q:VK) (E:XK):Prop
 | mk (a:Addr) (S:cD) (o:Ow) (x:Str) (v:V) (H0:Hp) (t:Option Told) (_:vs=[.ref a,.str x,v]) (_:bQ C H a S o) (_:gK H0 H v t) (_:(∀t',t=some t'->x=qC t'/\Rt S t')) (_:∀H',au H H'->Q (os (NF S t)) H')
def vk:aC ["score","sort","told","finder"] ["score","sort","told"] (ao qI):=dy
def Gi (B:Dk P w K T) {C:Addr} (F:Cf K C):cX P w base 6 T.Ax (FI C):=by
 refine T.Ax.F.SY vk fun cdv A' outer s H vs Q E hr h=>?_
 ·obtain⟨a,S,o,x,v,H0,t,rfl,sc,tv,fit,kk⟩:=h
  have hTbV:∀f sp,LQ K T C f sp->Rx (kF HE P w K mg base ["score","sort","told","finder"] "fault_of" (ao qI) T.A9 cdv A' outer s H E).Ir HE 5 f sp:=by
   intro f sp h;cases h with
   | bD=>exact⟨_,_,L2.dQ.mono (wy T F) ∅,T.iR.F.kp,T.iR.b⟩
   | cM=>exact⟨_,_,L2.dQ.mono (pJ T F) ∅,T.fg.F.kp,T.fg.b⟩
   | cw=>exact⟨_,_,L2.dQ.mono (Ae T F) ∅,T.gY.F.kp,T.gY.b⟩
   | bar=>exact⟨_,_,L2.dQ.mono (Ee T F) ∅,T.pA.F.kp,T.pA.b⟩
   | aF=>exact⟨_,_,L2.dQ.mono (wu T F) ∅,T.fR.F.kp,T.fR.b⟩
   | holds=>exact⟨_,_,L2.dQ.mono (BO T F) ∅,T.l6.F.kp,T.l6.b⟩
   | aE=>exact⟨_,_,L2.dQ.mono (Aj T F) ∅,T.j8.F.kp,T.j8.b⟩
   | rep=>exact⟨_,_,L2.dQ.mono (wx T F) ∅,T.iP.F.kp,T.iP.b⟩
   | cj=>exact⟨_,_,L2.dQ.mono (BN T F) ∅,T.lX.F.kp,T.lX.b⟩
  refine⟨_,(ag (aH (bB (cG (pv 2)))
   (aj (aq aJ))
   ax)
   (ag (bT 3 vk.nd (F6 (bU (v:=.ref T.sG) (by rfl) T.NT rfl) (pv 1) (fun _ _=>rfl)))
   (aj (aq (F8 (LQ K T C) hTbV (hr.mono ∅) (pv 3) JP (ah (pv 0) (ah (pv 2) af))))))),?_⟩
  ac_rfl;left;cases t with
  | none=>
   have e:v=.bH:=tv;subst e;change kk _ (au.refl _)
  | some t=>
   obtain⟨ex,ft⟩:=fit t rfl;subst ex;obtain⟨f,D,ev,htb,hd⟩:=Ny K T C t;have ne:=Ma tv;rw[zd ne];exists T.sG,PX T,qC t,_,rfl,B.Rf,rfl,ev,?_;exists f,_,rfl,htb,?_;change⟨a,S,o,v,_,rfl,sc,hd H0 H v S tv ft,kk⟩
def Ho {hs:List (Str×List (Int×Str))} {p:Str} {h:Int×Str} (fr:p∉hs.map (·.1)):fh (hs++[(p,[])]) p h=fh hs p h:=by
 unfold fh;rw[if_neg fr,if_pos (by rw[zj];exact zH _ (zy.mpr rfl)),zj];have e:(hs.map fun q:Str×List (Int×Str)=>if q.1=p then(q.1,q.2++[h]) else q)=hs:=by
  conv=>rhs;rw[<-List.map_id hs]
  refine List.map_congr_left fun q hq=>?_;rw[if_neg (fun z=>fr (by rw[<-z];exact zO (f:=fun x:Str×List (Int×Str)=>x.1) hq))];rfl
 rw[e];simp
def rC (S:cD):Prop:=(S.holds.map (·.1)).Nodup/\S.holds.length<=1000000/\∀q∈S.holds,q.2.length<=1000000
inductive FJ (C:Addr) (vs:List V) (H:Hp) (Q:VK) (E:XK):Prop
 | mk (a:Addr) (S:cD) (o:Ow) (v:V) (pn:Str) (b:Int) (i:Str) (_:vs=[.ref a,v]) (_:bQ C H a S o) (_:Is H (vP (pn,b,i)) v) (_:rC S) (_:∀H' o',bQ C H' a (bI S (.holds pn b i)) o'->xh (own a o) H H'->(∀x∈own a o',x∈own a o\/H x=none)->Q .bH H')
def sX {o:Ow} {a x:Addr} (h:x∈o.lists):x∈own a o:=by
 unfold Ow.lists at h;unfold own;rw[zF,zF] at h ⊢;rcases h with(h | h) | h
 ·refine .inl (.inl ?_)
  simp only[zC,zD,or_false] at h ⊢;rcases h with h | h | h <;> simp[h]
 ·exact .inl (.inr h)
 ·exact .inr h
def M4 {C a x:Addr} {H:Hp} {S:cD} {o:Ow} (h:bQ C H a S o) (hx:x∈own a o):∃u,H x=some u:=by
 obtain⟨_,_,ha,_⟩:=h.obj;obtain⟨_,hi,_⟩:=h.ins;obtain⟨_,hs,_⟩:=h.st;obtain⟨_,hb,_⟩:=h.ba;obtain⟨_,hr,_⟩:=h.re;unfold own at hx;rw[zF,zF] at hx;rcases hx with(hx | hx) | hx
 ·simp only[zC,zD,or_false] at hx
  rcases hx with rfl | rfl | rfl | rfl | rfl | rfl | rfl | rfl
  ·exact⟨_,ha⟩
  ·exact⟨_,h.pl⟩
  ·exact⟨_,hi⟩
  ·exact⟨_,hs⟩
  ·exact⟨_,hb⟩
  ·exact⟨_,h.ho.1⟩
  ·exact⟨_,h.no.1⟩
  ·exact⟨_,hr⟩
 ·obtain⟨vs,e⟩:=cK h.ho.2 hx
  exact⟨_,e⟩
 ·obtain⟨vs,e⟩:=cK h.no.2 hx
  exact⟨_,e⟩
def DV {C a x:Addr} {H:Hp} {S:cD} {o:Ow} (h:bQ C H a S o) (hx:H x=none):x∉own a o:=fun z=>by
 obtain⟨u,e⟩:=M4 h z;rw[hx] at e;cases e
def Gx {hs:List (Str×List (Int×Str))} {as:List Addr} {H:Hp} {x:Addr} {vs:List V} (hL:cm H J5 (hs.map (·.2)) as) (hx:x∈as) (hH:H x=some (.lst vs)) (hb:∀q∈hs,q.2.length<=1000000):vs.length<=1000000:=by
 induction hs generalizing as with
 | nil=>unfold cm at hL;rw[hL] at hx;simp at hx
 | cons q r ih=>
  rw[zh] at hL;obtain⟨a,t,us,rfl,h1,h2,h3⟩:=hL;rcases zC.mp hx with rfl | hx
  ·rw[h1] at hH;cases hH
   have:=aT h2;have:=hb q zp;omega
  ·exact ih h3 hx fun q hq=>hb q (zm _ hq)
def FP:aC ["score","told"] ["score","told"] (ao yQ):=dy
def Gk {C:Addr} (F:Cf K C):cX P w base 1 T.A3 (FJ C):=by
 nomatch T.A3,FP
 obtain⟨a,S,o,v,pn,b,i,rfl,sc,iv,⟨nk,hl,hb⟩,kk⟩:=h;obtain⟨a1,rfl,h1⟩:=JX iv;have sl:=yB;obtain⟨ub,jm,ho,hub,hjm⟩:=sc.obj;have em:(S.holds.map fun x=>kS x.1)=(S.holds.map (·.1)).map kS:=by rw[zA];rfl
 have ll:(o.hs.map V.ref).length=(S.holds.map (·.1)).length:=by rw[za,za,lh sc.ho.2,za]
 dsimp only at h1;refine⟨_,(ag (aH (bB (o6 (jE hr) (bR (pv 1) ae) (bE (pv 0) rfl)))
  (aj (sL (jE hr) (bE (pv 0) rfl) (bR (pv 1) ae) (bg af) rfl))
  ax)
  (aj (bM (b7 yC yE yD bz (OL (jE hr) (bE (pv 0) rfl) (bR (pv 1) ae) (fun _ _=>rfl)) (ah (bj (ah (bR (pv 1) ae) (ah (bR (pv 1) ae) af))) af))))),?_⟩
 ac_rfl;exists a,C,o.dx,_,_,rfl,ho,F.cls,F.holds,rfl,?_;refine⟨o.ho,_,rfl,.inl ⟨_,kS pn,.inl sc.ho.1,rfl,rfl⟩,?_⟩;rw[em,rH pn ll]
 by_cases c1:pn∈S.holds.map (·.1)
 ·rw[ze c1]
  obtain⟨x,us,e1,e2,e3,e4⟩:=sc.o9 nk c1;exists a,C,o.dx,_,_,rfl,ho,F.cls,F.holds,rfl,?_;exists o.ho,_,rfl,.inl ⟨_,kS pn,.inl sc.ho.1,rfl,e1.symm⟩,?_;refine⟨.inl ⟨rfl,us,aG.of e3⟩,?_⟩;exists cx,?_;intros p2 H2 s2 h2;refine⟨x,us,_,rfl,rfl,s2 _ _ e3,?_,?_⟩
  ·have:=Gx sc.ho.2 e2 e3 hb
   omega
  ·obtain⟨x',us',f1,f2,f3,f4⟩:=(sc.mono s2).o9 nk c1
   have ex:x=x':=by rw[f1] at e1;cases e1;rfl
   subst ex;have eu:us=us':=by have:=s2 _ _ e3;rw[f3] at this;cases this;rfl
   subst eu;change kk _ o (f4 _ b i (cB h2 (aL cP (aL d9 cH)))) ((xh.of s2).trans (xh.upd (sX (by unfold Ow.lists;simp[e2])))) fun y hy=>.inl hy
 ·rw[zd c1]
  exists by show 0<=sizeLine;omega,?_
  intro p1 n1;have s1:au H (upd H p1 (.lst [])):=aR n1;have g1:upd H p1 (.lst []) p1=some (.lst []):=aA;generalize upd H p1 (.lst [])=H1 at s1 g1 ⊢;have sc1:=sc.mono s1;have h11:=s1 _ _ h1;have nl:p1∉o.lists:=fun z=>DV sc n1 (sX z);exists a,C,o.dx,_,_,rfl,s1 _ _ ho,F.cls,F.holds,rfl,?_;left;refine⟨o.ho,_,rfl,.inl ⟨_,kS pn,sc1.ho.1,rfl,?_,rfl⟩,?_⟩
  ·rw[List.length_zip,za];omega
  have sc2:=sc1.M7 g1 nl c1;have nt1:cT (H1 o.ho):=by rw[sc1.ho.1];exact fun _ z=>by cases z
  have h12:upd H1 o.ho (.dK (putK ((S.holds.map fun x=>kS x.1).zip (o.hs.map V.ref)) (kS pn) (.ref p1))) a1=some (.tup [V.str pn,V.int b,V.str i]):=by rw[aD (Sc.aZ h11 sc1.ho.1 (by simp[kindOf]))];exact h11
  have el:xh (own a o) H (upd H1 o.ho (.dK (putK ((S.holds.map fun x=>kS x.1).zip (o.hs.map V.ref)) (kS pn) (.ref p1)))):=(xh.of s1).trans (xh.upd (by unfold own;simp));generalize upd H1 o.ho (.dK (putK ((S.holds.map fun x=>kS x.1).zip (o.hs.map V.ref)) (kS pn) (.ref p1)))=H3 at sc2 h12 el ⊢;obtain⟨ub2,jm2,ho2,_,_⟩:=sc2.obj;have nk2:(({S with holds:=S.holds++[(pn,[])]}:cD).holds.map (·.1)).Nodup:=by
   show((S.holds++[(pn,[])]).map fun x:Str×List (Int×Str)=>x.1).Nodup;rw[zj,zR];exact⟨nk,by simp,fun x hx y hy e=>by simp at hy;subst hy;subst e;exact c1 hx⟩
  have c2:pn∈({S with holds:=S.holds++[(pn,[])]}:cD).holds.map (·.1):=by
   show pn∈(S.holds++[(pn,[])]).map fun x:Str×List (Int×Str)=>x.1;rw[zj];exact zH _ (zy.mpr rfl)
  obtain⟨x,us,e1,e2,e3,e4⟩:=sc2.o9 nk2 c2;have hb2:∀q∈S.holds++[((pn,[]):Str×List (Int×Str))],q.2.length<=1000000:=fun q hq=>by
   rcases zF.mp hq with z | z
   ·exact hb q z
   ·rw[zy.mp z];exact yf _
  exists a,C,_,_,_,rfl,ho2,F.cls,F.holds,rfl,?_;exists o.ho,_,rfl,.inl ⟨_,kS pn,.inl sc2.ho.1,rfl,e1.symm⟩,?_;refine⟨.inl ⟨rfl,us,aG.of e3⟩,?_⟩;exists cx,?_;intros p2 H4 s4 h4;refine⟨x,us,_,rfl,rfl,s4 _ _ e3,?_,?_⟩
  ·have:=Gx sc2.ho.2 e2 e3 hb2
   omega
  ·obtain⟨x',us',f1,f2,f3,f4⟩:=(sc2.mono s4).o9 nk2 c2
   have ex:x=x':=by rw[f1] at e1;cases e1;rfl
   subst ex;have eu:us=us':=by have:=s4 _ _ e3;rw[f3] at this;cases this;rfl
   subst eu;left;have ea:bI {S with holds:=S.holds++[(pn,[])]} (.holds pn b i)=bI S (.holds pn b i):=by
    show({S with holds:=fh (S.holds++[(pn,[])]) pn (b,i)}:cD)={S with holds:=fh S.holds pn (b,i)};rw[Ho c1]
   have sf:=f4 _ b i (cB h4 (aL cP (aL d9 cH)));rw[ea] at sf;have xin:x∈o.hs\/x=p1:=by
    have:x∈o.hs++[p1]:=e2;rw[zF,zy] at this;exact this
   refine kk _ _ sf (fun y u ny hy=>?_) fun y hy=>?_
   ·have hy4:=s4 _ _ (el y u ny hy)
    rw[aD]
    ·exact hy4
    ·intro z
     subst z;rcases xin with z | z
     ·exact ny (sX (by unfold Ow.lists;simp[z]))
     ·subst z;rw[n1] at hy;cases hy
   ·have:y∈own a o\/y=p1:=by
     unfold own at hy ⊢;simp only[zF,zC,zD,or_false] at hy ⊢;rcases hy with(hy | hy | hy) | hy
     ·exact .inl (.inl (.inl hy))
     ·exact .inl (.inl (.inr hy))
     ·exact .inr hy
     ·exact .inl (.inr hy)
    rcases this with z | z
    ·exact .inl z
    ·subst z;exact .inr n1
def vd (S:cD):Prop:=S.players.length<=1000000/\S.ak.length<=1000000/\S.aI.length<=1000000/\S.aM.length<=1000000/\S.aE.length<=1000000/\S.repeats.length<=1000000
inductive HX (C:Addr) (vs:List V) (H:Hp) (Q:VK) (E:XK):Prop
 | mk (a:Addr) (S:cD) (o:Ow) (v:V) (H0:Hp) (t:Told) (_:vs=[.ref a,.str (qC t),v]) (_:bQ C H0 a S o) (_:au H0 H) (_:gK H0 H v (some t)) (_:fault S t=none) (_:rC S) (_:vd S) (_:∀H' o',bQ C H' a (bI S t) o'->xh (own a o) H H'->(∀x∈own a o',x∈own a o\/H0 x=none)->Q .bH H')
def El {c:Prop} [Decidable c] {x:Str} {y:Option Str} (h:(if c then some x else y)=none):¬c/\y=none:=by
 by_cases e:c
 ·rw[if_pos e] at h;cases h
 ·rw[if_neg e] at h;exact⟨e,h⟩
theorem vL {H:Hp}:∀l:List Str,ay H (l.map Dt.str) (l.map V.str)
 | []=>cH
 | x::r=>aL d9 (vL r)
def Ie:aC ["score","sort","told"] ["score","sort","told"] (ao CD):=dy
def Iq {C:Addr} (F:Cf K C):cX P w base 2 T.EW (HX C):=by
 nomatch T.EW,Ie
 obtain⟨a,S,o,v,H0,t,rfl,sc0,s0,tv,fn,bZ,⟨z1,z2,z3,z4,z5,z6⟩,kk⟩:=h;have sl:=yB;have sc:=sc0.mono s0;obtain⟨ub,jm,ho,hub,hjm⟩:=sc.obj;have me:∀x∈own a o,x∈own a o\/H0 x=none:=fun x hx=>.inl hx;refine⟨_,(aj (aH (ptr dg (pv 1) aJ)
  (aj (bM (b7 yC yE yD bz (bE (pv 0) rfl) (ah (pv 2) af))))
  (aj (aH (ptr dg (pv 1) aJ)
   (aj (sL (jE hr) (bE (pv 0) rfl) (bR (pv 2) ae) (bj (ah (bR (pv 2) ae) (ah (bR (pv 2) ae) af))) rfl))
   (aj (aH (ptr dg (pv 1) aJ)
    (aj (sL (jE hr) (bE (pv 0) rfl) (bR (pv 2) ae) (bR (pv 2) ae) rfl))
    (aj (aH (ptr dg (pv 1) aJ)
     (aj (bM (b7 yC yE yD bz (bE (pv 0) rfl) (ah (pv 2) af))))
     (aj (aH (ptr dg (pv 1) aJ)
      (aj (jz (pv 0) (pv 2) rfl))
      (aj (aH (ptr dg (pv 1) aJ)
       (aj (bM (bJ (Gk T F) hr T.A3 (ah (pv 0) (ah (pv 2) af)))))
       (aj (aH (ptr dg (pv 1) aJ)
        (aj (sL (jE hr) (bE (pv 0) rfl) (bj (ah (bR (pv 2) ae) (ah (bR (pv 2) ae) af))) (bR (pv 2) ae) rfl))
        (aj (aH (ptr dg (pv 1) aJ)
         (aj (bM (b7 yC yE yD bz (bE (pv 0) rfl) (ah (pv 2) af))))
         (aj (jz (pv 0) (pv 2) rfl)))))))))))))))))),?_⟩
 ac_rfl;cases t with
 | bD n=>
  have e:v=.str n:=tv;subst e;exists a,C,o.dx,_,_,rfl,ho,F.cls,F.players,rfl,?_;refine⟨.inl ⟨rfl,_,aG.of sc.pl⟩,?_⟩;exists o.pl,_,_,rfl,rfl,sc.pl,by rw[za];omega,?_
  change kk _ o (sc.Ji n) (xh.upd (by unfold own;simp)) me
 | cM n t l=>
  obtain⟨a1,t1,l1,rfl,h1,it,il⟩:=Gz (x:=(n,t,l)) tv;have fr:=(El fn).1;exists cx,?_;intros p2 H2 s2 h2;have sc2:=sc.mono s2;have h12:=s2 _ _ h1;obtain⟨vs,hv,ilv⟩:=sc2.ins;exists a,C,o.dx,_,_,rfl,s2 _ _ ho,F.cls,F.ak,rfl,?_;left;refine⟨o.ins,_,rfl,.inl ⟨_,kS n,hv,rfl,?_,rfl⟩,?_⟩
  ·rw[List.length_zip,za];omega
  exact kk _ o (sc2.Ly hv ilv (cB h2 (aL (it.mono s2) (aL (il.mono s2) cH))) fr) ((xh.of s2).trans (xh.upd (by unfold own;simp))) me
 | cw n ps=>
  obtain⟨a1,q,rfl,h1,hq⟩:=FC (x:=(n,ps)) tv;have fr:=(El fn).1;obtain⟨vs,hv,ilv⟩:=sc.st;exists a,C,o.dx,_,_,rfl,ho,F.cls,F.aI,rfl,?_;left;refine⟨o.st,_,rfl,.inl ⟨_,kS n,hv,rfl,?_,rfl⟩,?_⟩
  ·rw[List.length_zip,za];omega
  exact kk _ o (sc.Lw hv ilv (by unfold Pd m8;exact cB hq (vL ps)) fr) (xh.upd (by unfold own;simp)) me
 | bar b=>
  obtain⟨vs,hv,ilv⟩:=sc.ba;have vl:=aT ilv;exists a,C,o.dx,_,_,rfl,ho,F.cls,F.aM,rfl,?_;refine⟨.inl ⟨rfl,_,aG.of hv⟩,?_⟩;exists o.ba,_,_,rfl,rfl,hv,nofun,?_;change kk _ o (sc.Pj hv ilv tv) (xh.upd (by unfold own;simp)) me
 | aF l=>
  exists a,C,o.dx,_,rfl,ho,F.cls,F.aF,(by show 9<1000;decide),?_;exact kk _ o (sc.Jh ho hjm tv) (xh.upd (by unfold own;simp)) me
 | holds p b i=>
  change⟨a,S,o,v,p,b,i,rfl,sc,tv,bZ,fun H' o' s' e' n'=>kk H' o' s' e' fun x hx=>(n' x hx).imp id fun z=>s0.back z⟩
 | aE b p its=>
  obtain⟨a1,q,us,rfl,h1,hq,ilq,nq⟩:=tv;have fr:=(El fn).1;have nl:q∉o.lists:=fun z=>DV sc0 nq (sX z);exists a,C,o.dx,_,_,rfl,ho,F.cls,F.aE,rfl,?_;exists cx,?_;intros p2 H2 s2 h2;have sc2:=sc.mono s2;refine⟨o.no,_,rfl,.inr ⟨_,kN (b,p),p2,sc2.no.1,rfl,h2,?_,rfl⟩,?_⟩
  ·rw[List.length_zip,za];omega
  refine kk _ _ (sc2.Lx (s2 _ _ hq) (ilq.mono s2) nl fr) ((xh.of s2).trans (xh.upd (by unfold own;simp))) fun x hx=>?_;have:x∈own a o\/x=q:=by
   unfold own at hx ⊢;simp only[zF,zC,zD,or_false] at hx ⊢;rcases hx with hx | hx | hx
   ·exact .inl (.inl hx)
   ·exact .inl (.inr hx)
   ·exact .inr hx
  rcases this with z | z
  ·exact .inl z
  ·subst z;exact .inr nq
 | rep r=>
  obtain⟨vs,hv,ilv⟩:=sc.re;have vl:=aT ilv;exists a,C,o.dx,_,_,rfl,ho,F.cls,F.repeats,rfl,?_;refine⟨.inl ⟨rfl,_,aG.of hv⟩,?_⟩;exists o.re,_,_,rfl,rfl,hv,nofun,?_;change kk _ o (sc.Pg hv ilv tv) (xh.upd (by unfold own;simp)) me
 | cj j=>
  exists a,C,o.dx,_,rfl,ho,F.cls,F.cj,(by show 9<1000;decide),?_;exact kk _ o (sc.N1 ho hub tv) (xh.upd (by unfold own;simp)) me
def gB {H:Hp} {a C dx p:Addr} {fs fs':List (Str×V)} {u:HO} (ha:H a=some (.ins C dx fs)) (np:H p=none) :
  upd (upd H p u) a (.ins C dx fs') a=some (.ins C dx fs')/\upd (upd H p u) a (.ins C dx fs') p=some u/\∀b v,H b=some v->b≠a->upd (upd H p u) a (.ins C dx fs') b=some v:=by
 have na:p≠a:=fun z=>by rw[z,ha] at np;cases np
 refine⟨aA,by rw[aD na,aA],fun b v hb ne=>?_⟩;rw[aD ne,aD (fun z=>by rw[z,np] at hb;cases hb)];exact hb
def CT {H:Hp} {a C dx:Addr} {fs':List (Str×V)}:upd H a (.ins C dx fs') a=some (.ins C dx fs')/\∀b v,H b=some v->b≠a->upd H a (.ins C dx fs') b=some v:=
 ⟨aA,fun b v hb ne=>by rw[aD ne];exact hb⟩
inductive Bw (C:Addr) (vs:List V) (H:Hp) (Q:VK) (E:XK):Prop
 | mk (a dx:Addr) (_:vs=[.ref a]) (_:H a=some (.ins C dx [])) (_:∀H' o,bQ C H' a {} o->(∀b u,H b=some u->b≠a->H' b=some u)->(∀x∈own a o,x=a\/H x=none)->Q .bH H')
def BF:aC ["self"] ["self"] (ao sA):=dy
def BQ {C:Addr} (F:Cf K C):dQ P w K mg base HE 1 T.mi T.tL ["self"] (Bw C):=by
 refine T.Bg.F.SY BF fun _ _ _ _ H vs Q E hr h=>?_
 ·obtain⟨a,dx,rfl,ha,kk⟩:=h
  have sl:=yB;refine⟨_,ag (jz (pv 0) (bg af) rfl) (ag (jz (pv 0) y7 rfl) (ag (jz (pv 0) y7 rfl) (ag (jz (pv 0) (bg af) rfl) (ag (jz (pv 0) aS rfl) (ag (jz (pv 0) y7 rfl) (ag (jz (pv 0) F5 rfl) (ag (jz (pv 0) (bg af) rfl) (aj (jz (pv 0) aS rfl))))))))),?_⟩;refine⟨by show 0<=sizeLine;omega,fun p1 n1=>?_⟩;refine⟨_,rfl,a,C,dx,[],rfl,(by rw[aD (fun z=>by rw[<-z,ha] at n1;cases n1)];exact ha),F.cls,F.players,(by show 0<1000;decide),?_⟩;obtain⟨a1,q1,k1⟩:=gB (u:=.lst []) (fs':=aV "players" (.ref p1) []) ha n1;generalize upd (upd H p1 (.lst [])) a (.ins C dx (aV "players" (.ref p1) []))=H1 at a1 q1 k1 ⊢;refine fun p2 n2=>⟨_,rfl,a,C,dx,_,rfl,(by rw[aD (fun z=>by rw[<-z,a1] at n2;cases n2)];exact a1),F.cls,F.ak,(by show 1<1000;decide),?_⟩
  obtain⟨a2,q2,k2⟩:=gB (u:=.dK []) (fs':=(aV "instruments" (.ref p2) (aV "players" (.ref p1) []))) a1 n2;generalize upd (upd H1 p2 (.dK [])) a (.ins C dx (aV "instruments" (.ref p2) (aV "players" (.ref p1) [])))=H2 at a2 q2 k2 ⊢;refine fun p3 n3=>⟨_,rfl,a,C,dx,_,rfl,(by rw[aD (fun z=>by rw[<-z,a2] at n3;cases n3)];exact a2),F.cls,F.aI,(by show 2<1000;decide),?_⟩
  obtain⟨a3,q3,k3⟩:=gB (u:=.dK []) (fs':=(aV "staffs" (.ref p3) (aV "instruments" (.ref p2) (aV "players" (.ref p1) [])))) a2 n3;generalize upd (upd H2 p3 (.dK [])) a (.ins C dx (aV "staffs" (.ref p3) (aV "instruments" (.ref p2) (aV "players" (.ref p1) []))))=H3 at a3 q3 k3 ⊢;refine⟨by show 0<=sizeLine;omega,fun p4 n4=>⟨_,rfl,a,C,dx,_,rfl,(by rw[aD (fun z=>by rw[<-z,a3] at n4;cases n4)];exact a3),F.cls,F.aM,(by show 3<1000;decide),?_⟩⟩;obtain⟨a4,q4,k4⟩:=gB (u:=.lst []) (fs':=(aV "bars" (.ref p4) (aV "staffs" (.ref p3) (aV "instruments" (.ref p2) (aV "players" (.ref p1) []))))) a3 n4;generalize upd (upd H3 p4 (.lst [])) a (.ins C dx (aV "bars" (.ref p4) (aV "staffs" (.ref p3) (aV "instruments" (.ref p2) (aV "players" (.ref p1) [])))))=H4 at a4 q4 k4 ⊢;refine⟨_,rfl,a,C,dx,_,rfl,a4,F.cls,F.aF,(by show 4<1000;decide),?_⟩;obtain⟨a5,k5⟩:=CT (H:=H4) (a:=a) (C:=C) (dx:=dx) (fs':=(aV "upbeat" .bH (aV "bars" (.ref p4) (aV "staffs" (.ref p3) (aV "instruments" (.ref p2) (aV "players" (.ref p1) []))))));generalize upd H4 a (.ins C dx (aV "upbeat" .bH (aV "bars" (.ref p4) (aV "staffs" (.ref p3) (aV "instruments" (.ref p2) (aV "players" (.ref p1) []))))))=H5 at a5 k5 ⊢;refine fun p6 n6=>⟨_,rfl,a,C,dx,_,rfl,(by rw[aD (fun z=>by rw[<-z,a5] at n6;cases n6)];exact a5),F.cls,F.holds,(by show 5<1000;decide),?_⟩
  obtain⟨a6,q6,k6⟩:=gB (u:=.dK []) (fs':=(aV "holds" (.ref p6) (aV "upbeat" .bH (aV "bars" (.ref p4) (aV "staffs" (.ref p3) (aV "instruments" (.ref p2) (aV "players" (.ref p1) []))))))) a5 n6;generalize upd (upd H5 p6 (.dK [])) a (.ins C dx (aV "holds" (.ref p6) (aV "upbeat" .bH (aV "bars" (.ref p4) (aV "staffs" (.ref p3) (aV "instruments" (.ref p2) (aV "players" (.ref p1) [])))))))=H6 at a6 q6 k6 ⊢;refine fun p7 n7=>⟨_,rfl,a,C,dx,_,rfl,(by rw[aD (fun z=>by rw[<-z,a6] at n7;cases n7)];exact a6),F.cls,F.aE,(by show 6<1000;decide),?_⟩
  obtain⟨a7,q7,k7⟩:=gB (u:=.dT []) (fs':=(aV "notes" (.ref p7) (aV "holds" (.ref p6) (aV "upbeat" .bH (aV "bars" (.ref p4) (aV "staffs" (.ref p3) (aV "instruments" (.ref p2) (aV "players" (.ref p1) [])))))))) a6 n7;generalize upd (upd H6 p7 (.dT [])) a (.ins C dx (aV "notes" (.ref p7) (aV "holds" (.ref p6) (aV "upbeat" .bH (aV "bars" (.ref p4) (aV "staffs" (.ref p3) (aV "instruments" (.ref p2) (aV "players" (.ref p1) []))))))))=H7 at a7 q7 k7 ⊢;refine⟨by show 0<=sizeLine;omega,fun p8 n8=>⟨_,rfl,a,C,dx,_,rfl,(by rw[aD (fun z=>by rw[<-z,a7] at n8;cases n8)];exact a7),F.cls,F.repeats,(by show 7<1000;decide),?_⟩⟩;obtain⟨a8,q8,k8⟩:=gB (u:=.lst []) (fs':=(aV "repeats" (.ref p8) (aV "notes" (.ref p7) (aV "holds" (.ref p6) (aV "upbeat" .bH (aV "bars" (.ref p4) (aV "staffs" (.ref p3) (aV "instruments" (.ref p2) (aV "players" (.ref p1) []))))))))) a7 n8;generalize upd (upd H7 p8 (.lst [])) a (.ins C dx (aV "repeats" (.ref p8) (aV "notes" (.ref p7) (aV "holds" (.ref p6) (aV "upbeat" .bH (aV "bars" (.ref p4) (aV "staffs" (.ref p3) (aV "instruments" (.ref p2) (aV "players" (.ref p1) [])))))))))=H8 at a8 q8 k8 ⊢;refine⟨_,rfl,a,C,dx,_,rfl,a8,F.cls,F.cj,(by show 8<1000;decide),?_⟩;obtain⟨a9,k9⟩:=CT (H:=H8) (a:=a) (C:=C) (dx:=dx) (fs':=(aV "jump" .bH (aV "repeats" (.ref p8) (aV "notes" (.ref p7) (aV "holds" (.ref p6) (aV "upbeat" .bH (aV "bars" (.ref p4) (aV "staffs" (.ref p3) (aV "instruments" (.ref p2) (aV "players" (.ref p1) []))))))))));generalize upd H8 a (.ins C dx (aV "jump" .bH (aV "repeats" (.ref p8) (aV "notes" (.ref p7) (aV "holds" (.ref p6) (aV "upbeat" .bH (aV "bars" (.ref p4) (aV "staffs" (.ref p3) (aV "instruments" (.ref p2) (aV "players" (.ref p1) []))))))))))=H9 at a9 k9 ⊢;have e1:p1≠a:=fun z=>by rw[z,ha] at n1;cases n1
  have g1:=k9 _ _ (k8 _ _ (k7 _ _ (k6 _ _ (k5 _ _ (k4 _ _ (k3 _ _ (k2 _ _ (q1) e1) e1) e1) e1) e1) e1) e1) e1;have e2:p2≠a:=fun z=>by rw[z,a1] at n2;cases n2
  have g2:=k9 _ _ (k8 _ _ (k7 _ _ (k6 _ _ (k5 _ _ (k4 _ _ (k3 _ _ (q2) e2) e2) e2) e2) e2) e2) e2;have e3:p3≠a:=fun z=>by rw[z,a2] at n3;cases n3
  have g3:=k9 _ _ (k8 _ _ (k7 _ _ (k6 _ _ (k5 _ _ (k4 _ _ (q3) e3) e3) e3) e3) e3) e3;have e4:p4≠a:=fun z=>by rw[z,a3] at n4;cases n4
  have g4:=k9 _ _ (k8 _ _ (k7 _ _ (k6 _ _ (k5 _ _ (q4) e4) e4) e4) e4) e4;have e6:p6≠a:=fun z=>by rw[z,a5] at n6;cases n6
  have g6:=k9 _ _ (k8 _ _ (k7 _ _ (q6) e6) e6) e6;have e7:p7≠a:=fun z=>by rw[z,a6] at n7;cases n7
  have g7:=k9 _ _ (k8 _ _ (q7) e7) e7;have e8:p8≠a:=fun z=>by rw[z,a7] at n8;cases n8
  have g8:=k9 _ _ (q8) e8;have kH:∀b v,H b=some v->b≠a->H9 b=some v:=fun b v hb ne=>k9 _ _ (k8 _ _ (k7 _ _ (k6 _ _ (k5 _ _ (k4 _ _ (k3 _ _ (k2 _ _ (k1 _ _ hb ne) ne) ne) ne) ne) ne) ne) ne) ne;have f1:H p1=none:=n1;have f2:H p2=none:=by
   cases q:H p2 with
   | none=>rfl
   | some v=>have z:=q;rw[show H1 p2=some v from k1 _ _ z e2] at n2;cases n2
  have f3:H p3=none:=by
   cases q:H p3 with
   | none=>rfl
   | some v=>have z:=q;rw[show H2 p3=some v from k2 _ _ (k1 _ _ z e3) e3] at n3;cases n3
  have f4:H p4=none:=by
   cases q:H p4 with
   | none=>rfl
   | some v=>have z:=q;rw[show H3 p4=some v from k3 _ _ (k2 _ _ (k1 _ _ z e4) e4) e4] at n4;cases n4
  have f6:H p6=none:=by
   cases q:H p6 with
   | none=>rfl
   | some v=>have z:=q;rw[show H5 p6=some v from k5 _ _ (k4 _ _ (k3 _ _ (k2 _ _ (k1 _ _ z e6) e6) e6) e6) e6] at n6;cases n6
  have f7:H p7=none:=by
   cases q:H p7 with
   | none=>rfl
   | some v=>have z:=q;rw[show H6 p7=some v from k6 _ _ (k5 _ _ (k4 _ _ (k3 _ _ (k2 _ _ (k1 _ _ z e7) e7) e7) e7) e7) e7] at n7;cases n7
  have f8:H p8=none:=by
   cases q:H p8 with
   | none=>rfl
   | some v=>have z:=q;rw[show H7 p8=some v from k7 _ _ (k6 _ _ (k5 _ _ (k4 _ _ (k3 _ _ (k2 _ _ (k1 _ _ z e8) e8) e8) e8) e8) e8) e8] at n8;cases n8
  have d14:p1≠p4:=fun z=>by have h:=k3 _ _ (k2 _ _ (q1) e1) e1;rw[z,n4] at h;cases h
  have d18:p1≠p8:=fun z=>by have h:=k7 _ _ (k6 _ _ (k5 _ _ (k4 _ _ (k3 _ _ (k2 _ _ (q1) e1) e1) e1) e1) e1) e1;rw[z,n8] at h;cases h
  have d48:p4≠p8:=fun z=>by have h:=k7 _ _ (k6 _ _ (k5 _ _ (q4) e4) e4) e4;rw[z,n8] at h;cases h
  have d23:p2≠p3:=fun z=>by have h:=q2;rw[z,n3] at h;cases h
  have d26:p2≠p6:=fun z=>by have h:=k5 _ _ (k4 _ _ (k3 _ _ (q2) e2) e2) e2;rw[z,n6] at h;cases h
  have d36:p3≠p6:=fun z=>by have h:=k5 _ _ (k4 _ _ (q3) e3) e3;rw[z,n6] at h;cases h
  refine kk H9 ⟨dx,p1,p2,p3,p4,p6,p7,p8,[],[]⟩ ⟨⟨.bH,.bH,a9,d4,d4⟩,g1,⟨[],g2,cH⟩,⟨[],g3,cH⟩,⟨[],g4,cH⟩,⟨g6,rfl⟩,⟨g7,rfl⟩,⟨[],g8,cH⟩,?_,?_⟩ kH fun x hx=>?_
  ·show [p1,p4,p8].Nodup
   simp[d14,d18,d48]
  ·show [p2,p3,p6].Nodup
   simp[d23,d26,d36]
  ·have hx':x∈[a,p1,p2,p3,p4,p6,p7,p8]:=by simpa[own] using hx
   simp only[zC,zD,or_false] at hx';rcases hx' with rfl | rfl | rfl | rfl | rfl | rfl | rfl | rfl
   ·exact .inl rfl
   ·exact .inr f1
   ·exact .inr f2
   ·exact .inr f3
   ·exact .inr f4
   ·exact .inr f6
   ·exact .inr f7
   ·exact .inr f8
inductive RT:List Str->List Told->Prop where
 | nil:RT [] []
 | blank {r:Str} {rs:List Str} {ts:List Told}:r.length<=1000000->words r=[]->RT rs ts->RT (r::rs) ts
 | row {r:Str} {t:Told} {rs:List Str} {ts:List Told}:r.length<=1000000->words r=wordsOf t->P0 t->(wordsOf t).length<=1000000->(∀y∈wordsOf t,y.length<=600)->RT rs ts->RT (r::rs) (t::ts)
def Runs:cD->List Told->cD->Prop
 | S,[],S'=>S=S'
 | S,t::r,S'=>fault S t=none/\Rt S t/\rC S/\vd S/\Runs (bI S t) r S'
def Ku (t:Told):∃ws,wordsOf t=qC t::ws:=by cases t <;> exact⟨_,rfl⟩
inductive Bp (C:Addr) (vs:List V) (H:Hp) (Q:VK) (E:XK):Prop
 | mk (t:Str) (ts:List Told) (S:cD) (_:vs=[.str t]) (_:t.length+2<=sizeLine) (_:RT (Txt.split t "\n") ts) (_:Runs {} ts S) (_:∀a o H',bQ C H' a S o->au H H'->(∀x∈own a o,H x=none)->Q (.ref a) H')
theorem Kp {H0 H H':Hp} {v:V} (s:au H H'):∀{t:Option Told},gK H0 H v t->gK H0 H' v t
 | none,h=>h
 | some (.bD _),h=>h
 | some (.cM _ _ _),h=>Is.mono s h
 | some (.cw _ _),h=>Is.mono s h
 | some (.bar _),h=>Is.mono s h
 | some (.aF _),h=>Is.mono s h
 | some (.holds _ _ _),h=>Is.mono s h
 | some (.aE _ _ _),⟨a,q,vs,h1,h2,h3,h4,h5⟩=>⟨a,q,vs,h1,s _ _ h2,s _ _ h3,h4.mono s,h5⟩
 | some (.rep _),h=>Is.mono s h
 | some (.cj _),h=>Is.mono s h
def dN:aC ["text","score","place","row","words","told","word"] ["text"] (ao rW):=dy
def BJ (B:Dk P w K T) (F:Cf K T.mf):cX P w base 8 T.qL (Bp T.mf):=by
 nomatch T.qL,dN
 obtain⟨t,ts,S,rfl,tl,rt,run,kk⟩:=h;have sl:=yB;refine⟨_,(ag (bT 1 dN.nd (MX T.Po (BQ T F) (hr.mono ∅) rfl T.Og T.Bg.b .nil JP))
  (ag (cA PassesOwn.never rfl (xi (by rfl) T.j9 (ah (b7 yF yJ yI jC (pv 0) (ah aJ af)) af)) (d6 (n:=2) rfl (aK (jA 2 dN.nd) (aK (jA 3 dN.nd) cZ)))
  (ag (bT 4 dN.nd (bJ (Gb T) hr T.words_of (ah (pv 3) af)))
   (aj (aH (ptr fi (eQ aB T.bu (ah (pv 4) af)) ae)
   (ag (bT 5 dN.nd (bJ (Ge T B) hr T.yY (ah (pv 4) af)))
    (ag (bT 6 dN.nd (bJ (Gi T B F) hr T.Ax (ah (pv 1) (ah (fL (pv 4) ae) (ah (pv 5) af)))))
    (ag (aH (bB (gN (pv 6)))
    (aj F2)
    ax)
    (aj (bM (bJ (Iq T F) hr T.EW (ah (pv 1) (ah (fL (pv 4) ae) (ah (pv 5) af)))))))))
   ax))))
  (aj (aq (pv 1))))),?_⟩
 ac_rfl;intro a dx na ndx ne;refine⟨a,dx,rfl,aA,fun H1 o sc1 k1 fr1=>⟨rfl,?_⟩⟩;have s1:au H H1:=fun b u hb=>k1 b u (by rw[aD (fun z=>by rw[z,na] at hb;cases hb),aD (fun z=>by rw[z,ndx] at hb;cases hb)];exact hb) (fun z=>by rw[z,na] at hb;cases hb);have f1:∀x∈own a o,H x=none:=fun x hx=>by
  rcases fr1 x hx with z | z
  ·rw[z];exact na
  ·cases q:H x with
   | none=>rfl
   | some u=>
    rw[aD (fun y=>by rw[y,na] at q;cases q),aD (fun y=>by rw[y,ndx] at q;cases q),q] at z;cases z
 exists tl,fun l nl=>?_;have s2:au H1 (upd H1 l (.lst ((Txt.split t "\n").map V.str))):=aR nl;have h2:upd H1 l (.lst ((Txt.split t "\n").map V.str)) l=some (.lst ((Txt.split t "\n").map V.str)):=aA;generalize upd H1 l (.lst ((Txt.split t "\n").map V.str))=H2 at s2 h2 ⊢;generalize hrows:Txt.split t "\n"= rows at rt h2;exists l,_,rfl,aG.of h2,?_;refine tF (K:=K) (a:=l) (xs:=rows.map V.str) (fun i σ H'=>∃ts' S' o',RT (rows.drop i) ts'/\Runs S' ts' S/\bQ T.mf H' a S' o'/\H' l=some (.lst (rows.map V.str))/\l∉own a o'/\au H H'/\(∀x∈own a o',H x=none)/\∃u2 u3 u4 u5 u6,σ=[some (.str t),some (.ref a),u2,u3,u4,u5,u6])
  ⟨ts,{},o,rt,run,sc1.mono s2,h2,DV sc1 nl,s1.trans s2,f1,none,none,none,none,none,rfl⟩ (fun i σ H' _ h=>by obtain⟨_,_,_,_,_,_,h,_⟩:=h;exact aG.of h) ?_ ?_
 ·intro i x σ H3 p H4 hx hh s34 hp4
  refine cY fun N kN0 kR0 _ _=>?_;obtain⟨ts',S',o',rt',run',sc3,hl3,nl3,s3,f3,u2,u3,u4,u5,u6,rfl⟩:=hh;rw[zJ] at hx;cases qr:rows[i]? with
  | none=>rw[qr] at hx;cases hx
  | some r=>
  rw[qr] at hx;simp only[Option.map_some,Option.some.injEq] at hx;subst hx;have ed:rows.drop i=r::rows.drop (i+1):=by
   have hi:=(zw.mp qr).1;rw[List.drop_eq_getElem_cons hi];have:=(zw.mp qr).2;rw[this]
  rw[ed] at rt';have s4:=s3.trans s34;have sc4:=sc3.mono s34;cases rt' with
  | blank rl rw0 rt''=>
   refine⟨p,_,rfl,dw.of hp4,rfl,?_⟩;refine⟨_,_,rfl,⟨_,_,rfl,⟨rfl,?_⟩⟩⟩;exists rl,fun p5 H5 s5 h5=>?_;rw[rw0] at h5;exists p5,_,rfl,.inl (aG.of h5),?_;left;have s05:=s4.trans s5;exact⟨ts',S',o',rt'',run',sc4.mono s5,s5 _ _ (s34 _ _ hl3),nl3,s05,f3,_,_,_,_,_,rfl⟩
  | row rl rw0 tok wl ws6 rt''=>
   rename_i t' ts'';obtain⟨fn,fit,hd,sz,run''⟩:=run';obtain⟨ws,ew⟩:=Ku t';refine⟨p,_,rfl,dw.of hp4,rfl,?_⟩;refine⟨_,_,rfl,⟨_,_,rfl,⟨rfl,?_⟩⟩⟩;exists rl,fun p5 H5 s5 h5=>?_;rw[rw0] at h5;have h5':=h5;rw[ew] at h5;have sc5:=sc4.mono s5;have hl5:=s5 _ _ (s34 _ _ hl3);exists p5,_,rfl,.inl (aG.of h5),?_;rw[za,zt];left;refine ck (ze nofun) ?_;left;have wl':ws.length<=999999:=by rw[ew,zt] at wl;omega
   refine⟨p5,qC t',ws,rfl,aG.of h5,wl',by rw[<-ew];exact ws6,fun v H6 s6 tv=>?_⟩;rw[<-ew,Ij tok] at tv;have sc6:=sc5.mono s6;exists p5,_,0,_,rfl,rfl,aG.of (s6 _ _ h5),bx (j:=0) rfl,?_;exists a,S',o',qC t',v,H5,some t',rfl,sc6,tv,fun t2 e2=>by cases e2;exact⟨rfl,fit⟩,fun H7 s7=>?_
   rw[show NF S' (some t')=fault S' t' from rfl,fn];exists p5,_,0,_,rfl,rfl,aG.of (s7 _ _ (s6 _ _ h5)),bx (j:=0) rfl,?_;exists a,S',o',v,H5,t',rfl,sc5,s6.trans s7,Kp s7 tv,fn,hd,sz,fun H8 o8 sc8 el8 fr8=>?_;have s07:=((s4.trans s5).trans s6).trans s7;left;refine⟨ts'',bI S' t',o8,rt'',run'',sc8,el8 _ _ nl3 (s7 _ _ (s6 _ _ hl5)),fun z=>?_,fun b u hb=>el8 _ _ (fun z=>by rw[f3 b z] at hb;cases hb) (s07 _ _ hb),fun x hx=>?_,_,_,_,_,_,rfl⟩
   ·rcases fr8 l z with y | y
    ·exact nl3 y
    ·rw[hl5] at y;cases y
   ·rcases fr8 x hx with y | y
    ·exact f3 x y
    ·exact(s4.trans s5).back y
 ·rintro σ H3 ⟨ts',S',o',rt',run',sc3,hl3,nl3,s3,f3,u2,u3,u4,u5,u6,rfl⟩
  rw[za,List.drop_length] at rt';cases rt';have es:S'=S:=run';subst es;change kk a o' H3 sc3 s3 f3
inductive vZ (C:Addr) (vs:List V) (H:Hp) (Q:VK) (E:XK):Prop
 | mk (a:Addr) (S:cD) (o:Ow) (n:Str) (_:vs=[.ref a,.str n]) (_:bQ C H a S o) (_:n∈S.players) (_:Q .bH H)
def wo:aC ["score","player"] ["score","player"] (ao oo):=dy
def wA {C:Addr} (F:Cf K C):cX P w base 1 T.md (vZ C):=by
 nomatch T.md,wo
 obtain⟨a,S,o,n,rfl,sc,hn,kk⟩:=h;obtain⟨ub,jm,ho,hub,hjm⟩:=sc.obj;refine⟨_,(aj (aH (iQ d7 (pv 1) (bE (pv 0) rfl) (by with_unfolding_all rfl))
  (aj F2)
  ax)),?_⟩
 ac_rfl;exists a,C,o.dx,_,_,rfl,ho,F.cls,F.players,rfl,?_;refine⟨o.pl,_,rfl,.inl (aG.of sc.pl),rfl,gD _,?_⟩;show∃k,V.bl (!Fi (.str n) (S.players.map V.str))=.bl k/\_;rw[jD,ze hn];change kk
inductive vf (C:Addr) (vs:List V) (H:Hp) (Q:VK) (E:XK):Prop
 | mk (a:Addr) (S:cD) (o:Ow) (n:Str) (b:Int) (_:vs=[.ref a,.str n,.int b]) (_:bQ C H a S o) (_:∀H',au H H'->Q (.bl (!decide ((b,n)∈S.aE.map (·.1)))) H')
def FN:aC ["score","player","bar"] ["score","player","bar"] (ao yM):=dy
def vG {C:Addr} (F:Cf K C):cX P w base 1 T.tq (vf C):=by
 nomatch T.tq,FN
 obtain⟨a,S,o,n,b,rfl,sc,kk⟩:=h;obtain⟨ub,jm,ho,hub,hjm⟩:=sc.obj;have nl:(o.ns.map V.ref).length=(S.aE.map (·.1)).length:=by rw[za,za,lh sc.no.2,za]
 have em:(S.aE.map fun x=>kN x.1)=(S.aE.map (·.1)).map kN:=by rw[zA];rfl
 refine⟨_,(aj (aq (oE (o6 (jE hr) (bj (ah (pv 2) (ah (pv 1) af))) (bE (pv 0) rfl))))),?_⟩;ac_rfl;exists cx,?_;intros p2 H2 s2 h2;exists a,C,o.dx,_,_,rfl,s2 _ _ ho,F.cls,F.aE,rfl,?_;refine⟨o.no,_,rfl,.inr ⟨_,kN (b,n),p2,.inl (s2 _ _ sc.no.1),rfl,h2,rfl⟩,?_⟩;rw[em,xB (b,n) nl];exact kk _ s2
inductive Br (C:Addr) (vs:List V) (H:Hp) (Q:VK) (E:XK):Prop
 | mk (a:Addr) (S:cD) (o:Ow) (b:Int) (_:vs=[.ref a,.int b]) (_:bQ C H a S o) (_:S.players.length<=1000) (_:∀D H',au H H'->H' D=some (.lst ((S.players.filter fun n=>decide ((b,n)∈S.aE.map (·.1))).map V.str))->Q (.ref D) H')
def BA:aC ["score","bar"] ["score","bar"] (ao si):=dy
def BM {C:Addr} (F:Cf K C):cX P w base 2 T.qQ (Br C):=by
 nomatch T.qQ,BA
 obtain⟨a,S,o,b,rfl,sc,pl,kk⟩:=h;have sl:=yB;obtain⟨ub,jm,ho,hub,hjm⟩:=sc.obj;refine⟨_,(aj (aq (pI (ts:=["player"]) (ys:=["score","bar"]) (js:=[0,1]) (g:=(bV 0)) (tc:=(Mg (tB (gn (vf C) [] E0 (bC (aX 1) (bC (aX 0) (bC (aX 2) eK))))))) (te:=(aX 0)) (bc (bE (pv 0) rfl)) (gy 0) (fZ (d5 (cz (bJ (vG T F) hr T.tq (ah (pv 1) (ah (pv 0) (ah (pv 2) af))))))) (pv 0)))),?_⟩;ac_rfl;exists a,C,o.dx,_,_,rfl,ho,F.cls,F.players,rfl,?_;exists⟨_,aG.of sc.pl⟩,?_;refine AR (rest:=[some (.ref a),some (.int b)]) (fun n=>decide ((b,n)∈S.aE.map (·.1))) nofun (aG.of sc.pl) ⟨none,rfl⟩ ?_ ?_
 ·intro n H1 R hn s1 hR
  exists a,S,o,n,b,rfl,sc.mono s1,fun H2 s2=>?_;refine⟨_,rfl,?_⟩;show R (!!_) H2;rw[Bool.not_not];exact hR _ s2
 ·intro D H1 s1 _ h1
  exact kk D H1 s1 h1
inductive DF (C:Addr) (vs:List V) (H:Hp) (Q:VK) (E:XK):Prop
 | mk (a q:Addr) (S:cD) (o:Ow) (bs:List Int) (_:vs=[.ref a,.ref q]) (_:bQ C H a S o) (_:H q=some (.lst (bs.map V.int))) (_:S.players.length<=1000) (_:∀v H',au H H'->Is H' (dO Ll (wV S bs.reverse)) v->Q v H')
def lL:aC ["score","silent","bar","others"] ["score","silent"] (ao vA):=dy
def Ec {C:Addr} (F:Cf K C):cX P w base 3 T.uV (DF C):=by
 nomatch T.uV,lL
 obtain⟨a,q,S,o,bs,rfl,sc,hq,pl,kk⟩:=h;refine⟨_,(ag (cA PassesOwn.never rfl (QI (by rfl) T.Iv (ah (pv 1) af)) (jA 2 lL.nd)
  (ag (bT 3 lL.nd (bJ (BM T F) hr T.qQ (ah (pv 0) (ah (pv 2) af))))
   (aj (aH (ptr fi (eQ aB T.bu (ah (pv 3) af)) ae)
   (aj (aq (bj (ah (pv 2) (ah (fL (pv 3) ae) af)))))
   ax))))
  (aj (aq aS))),?_⟩
 ac_rfl;exists q,_,rfl,aG.of hq,?_;refine O3 (K:=K) (a:=q) (xs:=bs.map V.int) (fun i σ H'=>au H H'/\wV S bs.reverse=wV S (bs.reverse.drop i)/\∃(w2 w3:Option V),σ=[some (.ref a),some (.ref q),w2,w3]) ⟨au.refl _,rfl,none,none,rfl⟩ (fun i σ H' _ h=>aG.of (h.1 _ _ hq)) ?_ ?_
 ·intro i x σ H1 hi hx hh
  refine cY fun N kN0 kR0 _ _=>?_;obtain⟨s1,cq,w2,w3,rfl⟩:=hh;rw[za] at hi hx;rw[zJ,<-List.getElem?_reverse hi] at hx;cases qr:bs.reverse[i]? with
  | none=>rw[qr] at hx;cases hx
  | some b=>
  rw[qr] at hx;simp only[Option.map_some,Option.some.injEq] at hx;subst hx;rw[Ep qr] at cq;exists a,S,o,b,rfl,sc.mono s1,pl,fun D H2 s2 h2=>?_;exists D,_,rfl,.inl (aG.of h2),?_;rw[za];generalize gl:S.players.filter _=l at h2;left;cases l with
  | nil=>
   rw[NQ gl] at cq;refine cE (zd (by simp)) ?_;change⟨s1.trans s2,cq,_,_,rfl⟩
  | cons y l=>
   rw[NR gl] at cq;rw[cq] at kk;refine ck (ze (by rw[zt];omega)) ?_;exists D,_,_,_,rfl,rfl,aG.of h2,bx (j:=0) rfl,?_;exists cx,?_;intros p3 H3 s3 h3;change kk _ _ ((s1.trans s2).trans s3) (Q7 h3)
 ·rintro σ H1 ⟨s1,cq,w2,w3,rfl⟩
  rw[za,<-List.length_reverse,List.drop_length] at cq;rw[cq] at kk;change kk _ _ s1 d4
inductive HV (C:Addr) (vs:List V) (H:Hp) (Q:VK) (E:XK):Prop
 | mk (a:Addr) (S:cD) (o:Ow) (n:Str) (q:Int) (_:vs=[.ref a,.str n,.int q]) (_:bQ C H a S o) (_:n∈S.players) (_:S.players.length<=1000) (_:S.aM.length<=1000) (_:∀D us xs H',au H H'->H' D=some (.lst us)->RL (Cp S n H') xs us->Q (.ref D) H')
def jk:aC ["score","player","quiet","found","silent","bar"] ["score","player","quiet"] (ao CB):=dy
def Io {C:Addr} (F:Cf K C):cX P w base 4 T.entries (HV C):=by
 nomatch T.entries,jk
 obtain⟨a,S,o,n,q,rfl,sc,hn,pl,bl,kk⟩:=h;have sl:=yB;obtain⟨ub,jm,ho,hub,hjm⟩:=sc.obj;obtain⟨bv,hbv,ilb⟩:=sc.ba;refine⟨_,(ag (bM (bJ (wA T F) hr T.md (ah (pv 0) (ah (pv 1) af))))
  (ag (bT 3 jk.nd (bg af))
  (ag (bT 4 jk.nd (bg af))
  (ag (cA PassesOwn.never rfl (cS (by rfl) T.dH (ah (eQ aB T.bu (ah (bE (pv 0) rfl) af)) af)) (jA 5 jk.nd)
  (aj (aH (cz (bJ (vG T F) hr T.tq (ah (pv 0) (ah (pv 1) (ah (pv 5) af)))))
   (aj (bM (b7 yC yE yD bz (pv 4) (ah (pv 5) af))))
   (ag (aH (ptr Ab (eQ aB T.bu (ah (pv 4) af)) (pv 2))
    (aj (bM (b7 yC yE yD bz (pv 3) (ah (bj (ah (pv 5) (ah (bJ (Ec T F) hr T.uV (ah (pv 0) (ah (pv 4) af))) af))) af))))
    ax)
    (aj (bT 4 jk.nd (bg af)))))))
  (aj (aq (pv 3))))))),?_⟩
 ac_rfl;exists a,S,o,n,rfl,sc,hn,?_;exists by show 0<=sizeLine;omega,?_
 intro D nD;have s1:au H (upd H D (.lst [])):=aR nD;have h1:upd H D (.lst []) D=some (.lst []):=aA;generalize upd H D (.lst [])=H1 at s1 h1 ⊢;exists by show 0<=sizeLine;omega,?_
 intro E2 nE;have s2:au H1 (upd H1 E2 (.lst [])):=aR nE;have h2:upd H1 E2 (.lst []) E2=some (.lst []):=aA;generalize upd H1 E2 (.lst [])=H2 at s2 h2 ⊢;have s02:=s1.trans s2;exists a,C,o.dx,_,_,rfl,s02 _ _ ho,F.cls,F.aM,rfl,?_;exists o.ba,bv,rfl,.inl (aG.of (s02 _ _ hbv)),?_;rw[aT ilb];exists by omega,nofun,?_
 rw[show((S.aM.length:Int)).toNat=S.aM.length from by omega];refine gC (fun i σ H'=>∃(us:List V) (xs:List Nat) (bs:List Int) (e:Addr) (w5:Option V),σ=[some (.ref a),some (.str n),some (.int q),some (.ref D),some (.ref e),w5]/\au H H'/\H' D=some (.lst us)/\H' e=some (.lst (bs.map V.int))/\H e=none/\D≠e/\bs.reverse=oA (JN S n) i/\us.length<=i/\RL (Cp S n H') xs us)
  ⟨[],[],[],E2,none,rfl,s02,s2 _ _ h1,h2,s1.back nE,(fun z=>by rw[<-z,h1] at nE;cases nE),rfl,zk _,rfl⟩ ?_ ?_
 ·intro i σ H3 hi hh
  refine cY fun N kN0 kR0 _ _=>?_;obtain⟨us,xs,bs,e,w5,rfl,s3,h3,he,ne,de,bl3,ul,rl3⟩:=hh;have rle:=DO (JN S n) i;have bsl:bs.length=(oA (JN S n) i).length:=by rw[<-bl3,List.length_reverse]
  exists a,S,o,n,_,rfl,sc.mono s3,fun H4 s4=>?_;have s04:=s3.trans s4;have h34:=s4 _ _ h3;have he4:=s4 _ _ he;rw[Int.zero_add];cases c1:decide (((i:Int),n)∈S.aE.map (·.1)) with
  | false=>
   exists .inl ⟨rfl,_,aG.of he4⟩,?_;exists e,_,_,rfl,rfl,he4,by rw[za];omega,?_
   change⟨us,xs,bs++[(i:Int)],e,_,rfl,bX ne s04,by rw[aD de];exact h34,by rw[aA,zj];rfl,ne,de,by rw[List.reverse_append,bl3,MA c1];rfl,nofun,rl3.imp fun x v z=>(z.mono s4).upd he4⟩
  | true=>
   exists e,_,rfl,.inl (aG.of he4),?_;left;refine join (fun σ H'=>∃(us:List V) (xs:List Nat) (w5:Option V),σ=[some (.ref a),some (.str n),some (.int q),some (.ref D),some (.ref e),w5]/\au H H'/\H' D=some (.lst us)/\us.length<=i+1/\RL (Cp S n H') xs us) ?_ ?_ ?_
   ·intro N hN c2
    exists .inl ⟨rfl,_,aG.of h34⟩,?_;exists a,e,S,o,bs,rfl,sc.mono s04,he4,pl,fun v H5 s5 iv=>?_;rw[bl3] at iv;exists cx,?_;intros p6 H6 s6 h6;have s46:=s5.trans s6;have h36:=s46 _ _ h34;refine⟨D,us,_,rfl,rfl,h36,nofun,?_⟩;change hN _ _ ⟨_,_,_,rfl,bX nD (s04.trans s46),aA,by rw[zg];show _+1<=_;omega,RL.snoc (Cp.upd h36 ⟨nofun,p6,v,rfl,h6,iv.mono s6⟩) (rl3.imp fun x v z=>((z.mono s4).mono s46).upd h36)⟩
   ·intro N hN c2
    change hN _ _ ⟨us,xs,_,rfl,s04,h34,nofun,rl3.imp fun x v z=>z.mono s4⟩
   ·rintro σ H5 ⟨us,xs,w5,rfl,s5,h5,ul5,rl5⟩
    exists by show 0<=sizeLine;omega,?_
    intro E6 nE6;have s6:au H5 (upd H5 E6 (.lst [])):=aR nE6;have h6:upd H5 E6 (.lst []) E6=some (.lst []):=aA;generalize upd H5 E6 (.lst [])=H6 at s6 h6 ⊢;change⟨us,xs,[],E6,_,rfl,s5.trans s6,s6 _ _ h5,h6,s5.back nE6,(fun z=>by rw[<-z,h5] at nE6;cases nE6),(Mz c1).symm,ul5,rl5.imp fun x v z=>z.mono s6⟩
 ·rintro σ H3 ⟨us,xs,bs,e,w5,rfl,s3,h3,he,ne,de,bl3,ul,rl3⟩
  change kk D us xs H3 s3 h3 rl3
theorem Runs.app:∀{a b:List Told} {S S1 S2:cD},Runs S a S1->Runs S1 b S2->Runs S (a++b) S2
 | [],_,_,_,_,h,k=>by
  have e:_=_:=h;subst e;exact k
 | _::_,_,_,_,_,⟨h1,h2,h3,h4,h5⟩,k=>⟨h1,h2,h3,h4,Runs.app h5 k⟩
theorem sC:∀{l:List Str} {S:cD},(S.players++l).Nodup->(S.players++l).length<=12->rC S->vd S->Runs S (l.map .bD) {S with players:=S.players++l}
 | [],S,_,_,_,_=>by
  show S=_;rw[zU]
 | n::r,S,nd,hl,hd,sz=>by
  have nd':=nd;rw[zR] at nd';rw[zg,zt] at hl;refine⟨?_,trivial,hd,sz,?_⟩
  ·unfold fault
   dsimp only;rw[if_neg (fun z=>nd'.2.2 n z n zp rfl),if_neg nofun]
  ·have ih:=sC (l:=r) (S:=bI S (.bD n)) (by show(S.players++[n]++r).Nodup;rw[zE];exact nd) (by show(S.players++[n]++r).length<=12;simp only[zg,zt,List.length_nil];omega) hd ⟨by show(S.players++[n]).length<=1000000;rw[zg];simp;omega,sz.2⟩
   have e:({bI S (.bD n) with players:=(bI S (.bD n)).players++r}:cD)={S with players:=S.players++n::r}:=by
    show({S with players:=S.players++[n]++r}:cD)=_;rw[zE];rfl
   rw[e] at ih;exact ih
theorem yS:∀{l:List (Str×(Int×Int)×(Int×Int))} {S:cD},((S.ak++l).map (·.1)).Nodup->(S.ak++l).length<=12->rC S->vd S->Runs S (l.map fun x=>.cM x.1 x.2.1 x.2.2) {S with ak:=S.ak++l}
 | [],S,_,_,_,_=>by
  show S=_;rw[zU]
 | n::r,S,nd,hl,hd,sz=>by
  have nd':=nd;rw[zj,zR] at nd';rw[zg,zt] at hl;refine⟨?_,trivial,hd,sz,?_⟩
  ·unfold fault
   dsimp only;rw[if_neg (fun z=>nd'.2.2 n.1 z n.1 (by rw[zh];exact zp) rfl),if_neg nofun]
  ·have ih:=yS (l:=r) (S:=bI S (.cM n.1 n.2.1 n.2.2)) (by show((S.ak++[n]++r).map _).Nodup;rw[zE];exact nd) (by show(S.ak++[n]++r).length<=12;simp only[zg,zt,List.length_nil];omega) hd ⟨sz.1,by show(S.ak++[n]).length<=1000000;rw[zg];simp;omega,sz.2.2⟩
   have e:({bI S (.cM n.1 n.2.1 n.2.2) with ak:=(bI S (.cM n.1 n.2.1 n.2.2)).ak++r}:cD)={S with ak:=S.ak++n::r}:=by
    show({S with ak:=S.ak++[n]++r}:cD)=_;rw[zE];rfl
   rw[e] at ih;exact ih
theorem CH:∀{l:List Sc.LU} {S:cD},(S.aM++l).length<=200->rC S->vd S->Runs S (l.map .bar) {S with aM:=S.aM++l}
 | [],S,_,_,_=>by
  show S=_;rw[zU]
 | n::r,S,hl,hd,sz=>by
  rw[zg,zt] at hl;refine⟨?_,trivial,hd,sz,?_⟩
  ·unfold fault
   dsimp only;rw[if_neg nofun]
  ·have ih:=CH (l:=r) (S:=bI S (.bar n)) (by show(S.aM++[n]++r).length<=200;simp only[zg,zt,List.length_nil];omega) hd ⟨sz.1,sz.2.1,sz.2.2.1,by show(S.aM++[n]).length<=1000000;rw[zg];simp;omega,sz.2.2.2.2⟩
   have e:({bI S (.bar n) with aM:=(bI S (.bar n)).aM++r}:cD)={S with aM:=S.aM++n::r}:=by
    show({S with aM:=S.aM++[n]++r}:cD)=_;rw[zE];rfl
   rw[e] at ih;exact ih
theorem yR:∀{l:List ((Int×Str)×List Item)} {S:cD},((S.aE++l).map (·.1)).Nodup->(S.aE++l).length<=1000000->P5 S->(∀x∈l,0<=x.1.1/\x.1.1<S.aM.length/\x.1.2∈S.players/\x.2.length<=40/\(∀it∈x.2,Oc it.2)/\km x.2=S.len x.1.1.toNat)->rC S->vd S->Runs S (l.map fun x=>.aE x.1.1 x.1.2 x.2) {S with aE:=S.aE++l}
 | [],S,_,_,_,_,_,_=>by
  show S=_;rw[zU]
 | n::r,S,nd,hl,lu,hx,hd,sz=>by
  have nd':=nd;rw[zj,zR] at nd';rw[zg,zt] at hl;obtain⟨b0,b1,pin,il,iok,isum⟩:=hx n zp;refine⟨?_,⟨b0,nofun,iok,lu⟩,hd,sz,?_⟩
  ·unfold fault
   dsimp only;rw[if_neg (fun z=>nd'.2.2 n.1 z n.1 (by rw[zh];exact zp) rfl),if_neg (fun z=>z pin),if_neg,if_neg (fun z=>z isum),if_neg nofun];intro z;apply z;unfold cD.has;simp[b1]
  ·have ih:=yR (l:=r) (S:=bI S (.aE n.1.1 n.1.2 n.2)) (by show((S.aE++[n]++r).map _).Nodup;rw[zE];exact nd) (by show(S.aE++[n]++r).length<=1000000;simp only[zg,zt,List.length_nil];omega) lu (fun x h=>hx x (zm _ h)) hd ⟨sz.1,sz.2.1,sz.2.2.1,sz.2.2.2.1,by show(S.aE++[n]).length<=1000000;rw[zg];simp;omega,sz.2.2.2.2.2⟩
   have e:({bI S (.aE n.1.1 n.1.2 n.2) with aE:=(bI S (.aE n.1.1 n.1.2 n.2)).aE++r}:cD)={S with aE:=S.aE++n::r}:=by
    show({S with aE:=S.aE++[n]++r}:cD)=_;rw[zE];rfl
   rw[e] at ih;exact ih
def FT {S:cD} {u:Int×Int} (hn:S.aF=none) (hb:S.aM.length≠0) (hs:u.1*(S.aQ 0).2<(S.aQ 0).1*u.2) (no:S.aE=[]) (zu:Bk 8999 u) (lu:P5 S) (hd:rC S) (sz:vd S):Runs S [.aF u] {S with aF:=some u}:=by
 refine⟨?_,⟨zu,lu,by rw[no];exact yf _⟩,hd,sz,rfl⟩;unfold fault;dsimp only;rw[if_neg (by rw[hn];simp),if_neg hb,if_neg (fun z=>z hs),if_neg (by rw[no];simp)]
theorem vD:∀{l:List (Str×List Str)} {S:cD},((S.aI++l).map (·.1)).Nodup->((S.aI++l).map (·.2)).flatten.Nodup->(∀x∈l,∀p∈x.2,p∈S.players)->(∀x∈l,x.2.length<=1000)->(S.aI++l).length<=1000000->rC S->vd S->Runs S (l.map fun x=>.cw x.1 x.2) {S with aI:=S.aI++l}
 | [],S,_,_,_,_,_,_,_=>by
  show S=_;rw[zU]
 | n::r,S,nd,fd,pin,pl,hl,hd,sz=>by
  have nd':=nd;have fd':=fd;rw[zj,zR] at nd';rw[zj,List.flatten_append,zh,z9,zR] at fd';rw[zg,zt] at hl;refine⟨?_,pl n zp,hd,sz,?_⟩
  ·unfold fault
   dsimp only;have pn:n.2.Nodup:=(zR.mp fd'.2.1).1;have p2:¬(S.aI.any fun q=>n.2.any fun p=>decide (p∈q.2))=true:=fun z=>by
    obtain⟨q,hq,z⟩:=yn.mp z;obtain⟨p,hp,z⟩:=yn.mp z;exact fd'.2.2 p (List.mem_flatten.mpr ⟨q.2,zO (f:=fun x:Str×List Str=>x.2) hq,yd z⟩) p (zI _ hp) rfl
   have p3:¬(n.2.any fun p=>!decide (p∈S.players))=true:=fun z=>by
    obtain⟨p,hp,z⟩:=yn.mp z;rw[ze (pin n zp p hp)] at z;cases z
   rw[if_neg (fun z=>nd'.2.2 n.1 z n.1 (by rw[zh];exact zp) rfl),if_neg (fun z=>z pn),if_neg p2,if_neg p3]
  ·have ih:=vD (l:=r) (S:=bI S (.cw n.1 n.2)) (by show((S.aI++[n]++r).map _).Nodup;rw[zE];exact nd) (by show((S.aI++[n]++r).map _).flatten.Nodup;rw[zE];exact fd) (fun x h=>pin x (zm _ h)) (fun x h=>pl x (zm _ h)) (by show(S.aI++[n]++r).length<=1000000;simp only[zg,zt,List.length_nil];omega) hd ⟨sz.1,sz.2.1,by show(S.aI++[n]).length<=1000000;rw[zg];simp;omega,sz.2.2.2⟩
   have e:({bI S (.cw n.1 n.2) with aI:=(bI S (.cw n.1 n.2)).aI++r}:cD)={S with aI:=S.aI++n::r}:=by
    show({S with aI:=S.aI++[n]++r}:cD)=_;rw[zE];rfl
   rw[e] at ih;exact ih
def Ng {base:List (Str×List (Int×Str))} {p:Str} (h:p∉base.map (·.1)):base.lookup p=none:=by
 induction base with
 | nil=>rfl
 | cons x r ih=>
  rw[zh,zC,not_or] at h;rw[yp,show(p == x.1)=false from by simp;exact h.1];exact ih h.2
def KU {base:List (Str×List (Int×Str))} {p:Str} {acc:List (Int×Str)} (h:p∉base.map (·.1)):(base++[(p,acc)]).lookup p=some acc:=by
 induction base with
 | nil=>rw[List.nil_append,yp,beq_self_eq_true]
 | cons x r ih=>
  rw[zh,zC,not_or] at h;rw[List.cons_append,yp,show(p == x.1)=false from by simp;exact h.1];exact ih h.2
def N0 {base:List (Str×List (Int×Str))} {p:Str} {acc:List (Int×Str)} {e:Int×Str} (h:p∉base.map (·.1)):fh (base++[(p,acc)]) p e=base++[(p,acc++[e])]:=by
 unfold fh;rw[if_pos (by rw[zj];exact zH _ (zy.mpr rfl)),zj];have er:(base.map fun q:Str×List (Int×Str)=>if q.1=p then(q.1,q.2++[e]) else q)=base:=by
  conv=>rhs;rw[<-List.map_id base]
  refine List.map_congr_left fun q hq=>?_;rw[if_neg (fun z=>h (by rw[<-z];exact zO (f:=fun x:Str×List (Int×Str)=>x.1) hq))];rfl
 rw[er];simp
def CW {S:cD} {p:Str} {acc:List (Int×Str)} {h:Int×Str} (hl:(S.holds.lookup p).getD []=acc) (asc:∀a∈acc,a.1<h.1) (al:acc.length<20) (hp:p∈S.players) (hb:h.1<S.aM.length) (hi:h.2∈S.ak.map (·.1)):fault S (.holds p h.1 h.2)=none:=by
 unfold fault;dsimp only;rw[hl];have c1:¬(match acc.getLast? with | some q=>decide (h.1<=q.1) | none=>false)=true:=by
  cases q:acc.getLast? with
  | none=>simp
  | some x=>
   have:=asc x (List.mem_of_getLast? q);simp;exact this
 rw[if_neg (by
  cases q:acc.getLast? with
  | none=>simp
  | some x=>
   have:=asc x (List.mem_of_getLast? q);simp;exact this),if_neg (fun z=>z hp),if_neg (fun z=>z hi),if_neg (fun z=>z (by unfold cD.has;simp[hb])),if_neg nofun]
theorem FU {p:Str} {base:List (Str×List (Int×Str))} (nb:p∉base.map (·.1)) (nd:(base.map (·.1)).Nodup) (bl:base.length<=999999) (bb:∀q∈base,q.2.length<=1000000):∀{row acc:List (Int×Str)} {S:cD},S.holds=base++[(p,acc)]->((acc++row).map (·.1)).Pairwise (·<·)->(acc++row).length<=20->p∈S.players->
  (∀h∈row,h.1<S.aM.length/\h.2∈S.ak.map (·.1))->vd S->Runs S (row.map fun h=>.holds p h.1 h.2) {S with holds:=base++[(p,acc++row)]}
 | [],acc,S,eS,_,_,_,_,_=>by
  show S=_;rw[zU,<-eS]
 | h::r,acc,S,eS,asc,al,hp,hx,sz=>by
  obtain⟨hb,hi⟩:=hx h zp;have asc':=asc;rw[zj,zT] at asc';rw[zg,zt] at al;have hd:rC S:=by
   refine⟨?_,?_,?_⟩
   ·rw[eS,zj,zR]
    exact⟨nd,by simp,fun x hx y hy e=>by simp at hy;subst hy;subst e;exact nb hx⟩
   ·rw[eS,zg];simp;omega
   ·intro q hq
    rw[eS] at hq;rcases zF.mp hq with z | z
    ·exact bb q z
    ·rw[zy.mp z];show acc.length<=1000000;omega
  refine⟨CW (acc:=acc) (by rw[eS,KU nb];rfl) (fun a ha=>asc'.2.2 a.1 (zO (f:=fun x:Int×Str=>x.1) ha) h.1 (by rw[zh];exact zp)) nofun hp hb hi,trivial,hd,sz,?_⟩;have ih:=FU nb nd bl bb (row:=r) (acc:=acc++[h]) (S:=bI S (.holds p h.1 h.2)) (by show fh S.holds p (h.1,h.2)=_;rw[eS,N0 nb]) (by rw[zE];exact asc) (by simp only[zg,zt,List.length_nil];omega) hp (fun x hx'=>hx x (zm _ hx')) sz;have e:({bI S (.holds p h.1 h.2) with holds:=base++[(p,acc++[h]++r)]}:cD)={S with holds:=base++[(p,acc++h::r)]}:=by
   show({S with holds:=base++[(p,acc++[h]++r)]}:cD)=_;rw[zE];rfl
  rw[e] at ih;exact ih
theorem yT:∀{l:List (Str×List (Int×Str))} {S:cD},((S.holds++l).map (·.1)).Nodup->(S.holds++l).length<=999999->(∀x∈l,x.2≠[]/\x.2.length<=20/\(x.2.map (·.1)).Pairwise (·<·)/\x.1∈S.players/\∀h∈x.2,h.1<S.aM.length/\h.2∈S.ak.map (·.1))->rC S->vd S->
  Runs S (l.map fun x=>x.2.map fun h=>Told.holds x.1 h.1 h.2).flatten {S with holds:=S.holds++l}
 | [],S,_,_,_,_,_=>by
  show S=_;rw[zU]
 | x::r,S,nd,hl,hx,hd,sz=>by
  obtain⟨ne,xl,asc,hp,hh⟩:=hx x zp;obtain⟨h,t,et⟩:=List.exists_cons_of_ne_nil ne;have nd':=nd;rw[zj,zR] at nd';have nb:x.1∉S.holds.map (·.1):=fun z=>nd'.2.2 x.1 z x.1 (by rw[zh];exact zp) rfl;rw[zg,zt] at hl;rw[zh,z9];refine Runs.app (S1:={S with holds:=S.holds++[x]}) ?_ ?_
  ·rw[et] at xl asc hh ⊢
   obtain⟨hb,hi⟩:=hh h zp;refine⟨CW (acc:=[]) (by rw[Ng nb];rfl) (by simp) (by simp) hp hb hi,trivial,hd,sz,?_⟩;have ea:bI S (.holds x.1 h.1 h.2)={S with holds:=S.holds++[(x.1,[h])]}:=by
    show({S with holds:=fh S.holds x.1 (h.1,h.2)}:cD)=_;unfold fh;rw[if_neg nb]
   rw[ea];have rr:=FU (p:=x.1) nb hd.1 nofun hd.2.2 (row:=t) (acc:=[h]) (S:={S with holds:=S.holds++[(x.1,[h])]}) rfl asc xl hp (fun y hy=>hh y (zm _ hy)) sz;have ex:x=(x.1,[h]++t):=by rw[List.singleton_append,<-et]
   have e2:({({S with holds:=S.holds++[(x.1,[h])]}:cD) with holds:=S.holds++[(x.1,[h]++t)]}:cD)={S with holds:=S.holds++[x]}:=by rw[<-ex]
   rw[e2] at rr;exact rr
  ·have ih:=yT (l:=r) (S:={S with holds:=S.holds++[x]}) (by show((S.holds++[x]++r).map _).Nodup;rw[zE];exact nd) (by show(S.holds++[x]++r).length<=999999;simp only[zg,zt,List.length_nil];omega) (fun y hy=>hx y (zm _ hy)) ?_ sz
   ·have e:({({S with holds:=S.holds++[x]}:cD) with holds:=S.holds++[x]++r}:cD)={S with holds:=S.holds++x::r}:=by rw[zE];rfl
    exact e▸ih
   ·refine⟨?_,?_,?_⟩
    ·show((S.holds++[x]).map _).Nodup
     have:=List.Nodup.sublist (List.Sublist.map (fun x:Str×List (Int×Str)=>x.1) (List.Sublist.append (List.Sublist.refl S.holds) (List.singleton_sublist.mpr zp))) nd;exact this
    ·show(S.holds++[x]).length<=1000000
     rw[zg];simp;omega
    ·intro q hq
     have hq':q∈S.holds++[x]:=hq;rcases zF.mp hq' with z | z
     ·exact hd.2.2 q z
     ·rw[zy.mp z];omega
def xx (n:Nat):List Rep->List Rep->Prop
 | _,[]=>True
 | rs,r::l=>(∀b∈[r.first,r.last]++r.ends.map (·.1),b<(n:Int))/\lO rs r=true/\(HR r.ends<64/\r.ends.length<=1000/\-1000000<=r.times/\r.times<=1000000)/\xx n (rs++[r]) l
def Nw {S:cD} {bs:List Int} (h:∀b∈bs,b<(S.aM.length:Int)):S.has bs=true:=yo.mpr fun b hb=>ze (h b hb)
theorem CG:∀{l:List Rep} {S:cD},S.cj=none->xx S.aM.length S.repeats l->(S.repeats++l).length<=20->rC S->vd S->Runs S (l.map .rep) {S with repeats:=S.repeats++l}
 | [],S,_,_,_,_,_=>by
  show S=_;rw[zU]
 | r::l,S,nj,⟨h1,h2,h3,h4⟩,hl,hd,sz=>by
  rw[zg,zt] at hl;refine⟨?_,h3,hd,sz,?_⟩
  ·unfold fault
   dsimp only;rw[if_neg (fun z=>z (Nw h1)),if_neg (by rw[nj];simp),if_neg (fun z=>z h2),if_neg nofun]
  ·have ih:=CG (l:=l) (S:=bI S (.rep r)) nj h4 (by show(S.repeats++[r]++l).length<=20;simp only[zg,zt,List.length_nil];omega) hd ⟨sz.1,sz.2.1,sz.2.2.1,sz.2.2.2.1,sz.2.2.2.2.1,by show(S.repeats++[r]).length<=1000000;rw[zg];simp;omega⟩
   have e:({bI S (.rep r) with repeats:=(bI S (.rep r)).repeats++l}:cD)={S with repeats:=S.repeats++r::l}:=by
    show({S with repeats:=S.repeats++[r]++l}:cD)=_;rw[zE];rfl
   rw[e] at ih;exact ih
def Kx {S:cD} {j:Jump} (nj:S.cj=none) (hb:∀b∈[j.xn,j.Bj,j.dz]++j.gH.toList,b<(S.aM.length:Int)) (hf:hX S.repeats j=true) (ro:Fb S) (hd:rC S) (sz:vd S):Runs S [.cj j] {S with cj:=some j}:=by
 refine⟨?_,ro,hd,sz,rfl⟩;unfold fault;dsimp only;rw[if_neg (by rw[nj];simp),if_neg (fun z=>z (Nw hb)),if_neg (fun z=>z hf)]
structure Uz (S:cD):Prop where
 pn:S.players.Nodup
 pl:S.players.length<=12
 UO:(S.ak.map (·.1)).Nodup
 il:S.ak.length<=12
 sn:(S.aI.map (·.1)).Nodup
 sf:(S.aI.map (·.2)).flatten.Nodup
 sp:∀x∈S.aI,∀p∈x.2,p∈S.players
 sl:∀x∈S.aI,x.2.length<=1000
 sc:S.aI.length<=1000000
 bl:S.aM.length<=200
 lu:P5 S
 up:∀u,S.aF=some u->S.aM.length≠0/\u.1*(S.aQ 0).2<(S.aQ 0).1*u.2/\Bk 8999 u
 hn:(S.holds.map (·.1)).Nodup
 hl:S.holds.length<=999999
 hx:∀x∈S.holds,x.2≠[]/\x.2.length<=20/\(x.2.map (·.1)).Pairwise (·<·)/\x.1∈S.players/\∀h∈x.2,h.1<S.aM.length/\h.2∈S.ak.map (·.1)
 nn:(S.aE.map (·.1)).Nodup
 nl:S.aE.length<=1000000
 nx:∀x∈S.aE,0<=x.1.1/\x.1.1<S.aM.length/\x.1.2∈S.players/\x.2.length<=40/\(∀it∈x.2,Oc it.2)/\km x.2=S.len x.1.1.toNat
 rf:xx S.aM.length [] S.repeats
 rl:S.repeats.length<=20
 ro:Fb S
 ju:∀j,S.cj=some j->(∀b∈[j.xn,j.Bj,j.dz]++j.gH.toList,b<(S.aM.length:Int))/\hX S.repeats j=true
def Mw {S:cD} (V:Uz S):Runs {} (eU S) S:=by
 have hd0:∀T:cD,T.holds=[]->rC T:=fun T e=>by
  refine⟨by rw[e];exact List.nodup_nil,by rw[e];exact yf _,fun q hq=>by rw[e] at hq;cases hq⟩
 have hdS:∀T:cD,T.holds=S.holds->rC T:=fun T e=>by
  refine⟨by rw[e];exact V.hn,by rw[e];have:=V.hl;omega,fun q hq=>?_⟩;rw[e] at hq;have:=(V.hx q hq).2.1;omega
 have b1:=V.pl;have b2:=V.il;have b3:=V.sc;have b4:=V.bl;have b5:=V.nl;have b6:=V.rl;have szP:∀T:cD,(T.players=[]\/T.players=S.players)->(T.ak=[]\/T.ak=S.ak)->(T.aI=[]\/T.aI=S.aI)->(T.aM=[]\/T.aM=S.aM)->(T.aE=[]\/T.aE=S.aE)->(T.repeats=[]\/T.repeats=S.repeats)->vd T:=fun T q1 q2 q3 q4 q5 q6=>by
  refine⟨?_,?_,?_,?_,?_,?_⟩
  ·rcases q1 with e | e <;> rw[e] <;> first | exact yf _ | omega
  ·rcases q2 with e | e <;> rw[e] <;> first | exact yf _ | omega
  ·rcases q3 with e | e <;> rw[e] <;> first | exact yf _ | omega
  ·rcases q4 with e | e <;> rw[e] <;> first | exact yf _ | omega
  ·rcases q5 with e | e <;> rw[e] <;> first | exact yf _ | omega
  ·rcases q6 with e | e <;> rw[e] <;> first | exact yf _ | omega
 have r1:=sC (l:=S.players) (S:={}) V.pn b1 (hd0 _ rfl) (szP _ (.inl rfl) (.inl rfl) (.inl rfl) (.inl rfl) (.inl rfl) (.inl rfl));have r2:=yS (l:=S.ak) (S:={players:=S.players}) V.UO b2 (hd0 _ rfl) (szP _ (.inr rfl) (.inl rfl) (.inl rfl) (.inl rfl) (.inl rfl) (.inl rfl));have r3:=vD (l:=S.aI) (S:={players:=S.players,ak:=S.ak}) V.sn V.sf V.sp V.sl b3 (hd0 _ rfl) (szP _ (.inr rfl) (.inr rfl) (.inl rfl) (.inl rfl) (.inl rfl) (.inl rfl));have r4:=CH (l:=S.aM) (S:={players:=S.players,ak:=S.ak,aI:=S.aI}) b4 (hd0 _ rfl) (szP _ (.inr rfl) (.inr rfl) (.inr rfl) (.inl rfl) (.inl rfl) (.inl rfl));have r5:Runs {players:=S.players,ak:=S.ak,aI:=S.aI,aM:=S.aM} (S.aF.toList.map .aF) {players:=S.players,ak:=S.ak,aI:=S.aI,aM:=S.aM,aF:=S.aF}:=by
  cases q:S.aF with
  | none=>exact rfl
  | some u=>
   obtain⟨u1,u2,u3⟩:=V.up u q;exact FT (S:={players:=S.players,ak:=S.ak,aI:=S.aI,aM:=S.aM}) rfl u1 u2 rfl u3 V.lu (hd0 _ rfl) (szP _ (.inr rfl) (.inr rfl) (.inr rfl) (.inr rfl) (.inl rfl) (.inl rfl))
 have r6:=yT (l:=S.holds) (S:={players:=S.players,ak:=S.ak,aI:=S.aI,aM:=S.aM,aF:=S.aF}) V.hn V.hl V.hx (hd0 _ rfl) (szP _ (.inr rfl) (.inr rfl) (.inr rfl) (.inr rfl) (.inl rfl) (.inl rfl));have r7:=yR (l:=S.aE) (S:={players:=S.players,ak:=S.ak,aI:=S.aI,aM:=S.aM,aF:=S.aF,holds:=S.holds}) V.nn b5 V.lu V.nx (hdS _ rfl) (szP _ (.inr rfl) (.inr rfl) (.inr rfl) (.inr rfl) (.inl rfl) (.inl rfl));have r8:=CG (l:=S.repeats) (S:={players:=S.players,ak:=S.ak,aI:=S.aI,aM:=S.aM,aF:=S.aF,holds:=S.holds,aE:=S.aE}) rfl V.rf b6 (hdS _ rfl) (szP _ (.inr rfl) (.inr rfl) (.inr rfl) (.inr rfl) (.inr rfl) (.inl rfl));have r9:Runs {players:=S.players,ak:=S.ak,aI:=S.aI,aM:=S.aM,aF:=S.aF,holds:=S.holds,aE:=S.aE,repeats:=S.repeats} (S.cj.toList.map .cj) S:=by
  obtain⟨s1,s2,s3,s4,s5,s6,s7,s8,s9⟩:=S;cases s9 with
  | none=>exact rfl
  | some j=>
   obtain⟨j1,j2⟩:=V.ju j rfl;exact Kx (S:={players:=s1,ak:=s2,aI:=s3,aM:=s4,aF:=s5,holds:=s6,aE:=s7,repeats:=s8}) rfl j1 j2 V.ro (hdS _ rfl) (szP _ (.inr rfl) (.inr rfl) (.inr rfl) (.inr rfl) (.inr rfl) (.inr rfl))
 exact Runs.app (Runs.app (Runs.app (Runs.app (Runs.app (Runs.app (Runs.app r1 r2) r3) r4) r5) r6) r7) (Runs.app r8 r9)
inductive wc (K:yA) (vs:List V) (H:Hp) (Q:VK) (E:XK):Prop
 | mk (a:Addr) (ns:List Int) (k:Int) (_:vs=[.ref a,.int k]) (_:aG K H a (ns.map V.int)) (_:0<=k) (_:ns.length<=1000) (_:∀c:Int,Q (.int c) H)
def wq:aC ["_law_script","_law_k"] ["_law_script","_law_k"] (ao oy):=dy
def bF:cX P w base 1 T.bP (wc K):=by
 nomatch T.bP,wq
 obtain⟨a,ns,k,rfl,hS,h0,hl,kk⟩:=h;refine⟨_,(ag (aH (ptr fw (pv 1) (eQ aB T.bu (ah (pv 0) af)))
  (aj (aq (fL (pv 0) (pv 1))))
  ax)
  (aj (aq ae))),?_⟩
 exists a,_,rfl,.inl hS,?_;left;refine wG (fun c1=>?_) (fun c1=>?_)
 ·have c2:=yd c1
  rw[za] at c2;change⟨a,_,_,_,rfl,rfl,hS,NX h0 c2,kk _⟩
 ·left
  exact kk _
inductive ug (vs:List V) (H:Hp) (Q:VK) (E:XK):Prop
 | mk (c m:Int) (_:vs=[.int c,.int m]) (_:0<=c) (_:c<1099511627776) (_:0<=m) (_:m<=12) (_:∀(ns:List Str) p H',ns.length=m.toNat->Bh ns->au H H'->H' p=some (.lst (ns.map V.str))->Q (.ref p) H')
def dj:aC ["_law_cell","_law_many","_law_letters","_law_first","_law_size","_law_place","_law_stem"] ["_law_cell","_law_many"] (ao mM):=dy
def fc:cX P w base 1 T.eJ ug:=by
 nomatch T.eJ,dj
 obtain⟨c,m,rfl,c0,c1,m0,m1,kk⟩:=h;have sl:=yB;refine⟨_,(ag (bT 2 dj.nd aJ)
  (ag (bT 3 dj.nd (ar aO (ar aP (pv 0) ae) ae))
  (ag (aH (PW.pt (dr (ptr dg (ar aO (pv 0) ae) ae) (cR (ptr fw (pv 1) ae))))
  (aj (aq (pI (ts:=["_law_k"]) (ys:=["_law_many","_law_letters","_law_first"]) (js:=[1,2,3]) (te:=(fH PK (fH OE (aX 2) (aX 3)) (fH (wt fun i j=>.int (i-j)) (aX 1) (aX 0)))) (cS (by rfl) T.dH (aa (pv 1) af)) (gy 0) bw (ar OR (y6 Ej (pv 2) (pv 3) (fun _ _=>rfl)) (ar iw (pv 1) (pv 0))))))
  ax)
  (ag (bT 4 dj.nd (ar aO (ar aP (pv 0) ae) ae))
  (ag (bT 5 dj.nd (ar aO (ar aP (pv 0) ae) (ar aW (pv 4) ae)))
  (ag (bT 6 dj.nd (b7 yF yH yG gQ aJ (aa (pI (ts:=["_law_k"]) (ys:=["_law_cell","_law_letters"]) (js:=[0,2]) (te:=(fH OE (fH (fun x y H Q=>∃i j,x=.str i/\y=.str j/\i.length+j.length<=sizeLine/\Q (.str (i++j)) H) (aX 2) (tC (.str "0123456789"))) (fH (rI (fun _ j=>0<j) fun i j=>.int (i%j)) (fH (wt fun i j=>.int (i+j)) (fH (rI Ry fun i j=>.int (i/j)) (aX 1) (tC (.int (16224)))) (fH (rI LM fun i j=>.int (i*j)) (tC (.int (7))) (aX 0))) (tC (.int (36)))))) (cS (by rfl) T.dH (aa (pv 4) af)) (gy 0) bw (y6 Ej (ar bS (pv 2) aJ) (ar aO (ar aW (ar aP (pv 1) ae) (ar dY ae (pv 0))) ae) (fun _ _=>rfl))) af)))
  (aj (aq (pI (ts:=["_law_k"]) (ys:=["_law_letters","_law_first","_law_place","_law_stem"]) (js:=[2,3,5,6]) (te:=(fH (fun x y H Q=>∃i j,x=.str i/\y=.str j/\i.length+j.length<=sizeLine/\Q (.str (i++j)) H) (fH (fun x y H Q=>∃i j,x=.str i/\y=.str j/\i.length+j.length<=sizeLine/\Q (.str (i++j)) H) (TK QD (aX 4) Dp (Me (aX 3))) (fH OE (aX 1) (fH (rI (fun _ j=>0<j) fun i j=>.int (i%j)) (fH (wt fun i j=>.int (i+j)) (aX 2) (fH (rI LM fun i j=>.int (i*j)) (tC (.int (5))) (aX 0))) (tC (.int (26)))))) (TK QD (aX 4) (Me (aX 3)) Dp))) (cS (by rfl) T.dH (aa (pv 1) af)) (gy 0) bw (ar bS (ar bS (dF HZ (pv 4) eO (eN (pv 3))) (y6 Ej (pv 1) (ar aO (ar aW (pv 2) (ar dY ae (pv 0))) ae) (fun _ _=>rfl))) (dF HZ (pv 4) (eN (pv 3)) eO))))))))))),?_⟩
 ac_rfl;left
 by_cases q:c%4=0
 ·refine ck (by show decide (V.int (c%4)=V.int 0)=true;rw[q];rfl) ?_
  left;refine ck (ze nofun) ?_;exists by omega,nofun,?_
  have f0:0<=c/4%26:=zv _ ∅;have f1:c/4%26<26:=zr _ ∅;refine ma (fun k=>.str (qK ⟨#[97+(c/4%26).toNat]⟩ (m.toNat-k))) (fun σ=>∃v,σ=[v,some (.int m),some (.str lets),some (.int (c/4%26))]) nofun ⟨none,rfl⟩ ?_ ?_
  ·rintro k σ H4 R hk s4 ⟨_,rfl⟩ r
   exists lets,_,_,rfl,rfl,(by show 26<=sizeLine;omega),JS f0 f1,?_;exists by omega,nofun,(by show 1<=1000;decide),?_
   refine r _ _ _ (au.refl _) ?_ ⟨_,rfl⟩;rw[show(m-(0+(k:Int))).toNat=m.toNat-k from by omega];exact d9
  ·intro D vs H4 s4 _ hD il
   have e:(List.range m.toNat).map (fun k=>Dt.str (qK ⟨#[97+(c/4%26).toNat]⟩ (m.toNat-k)))=((List.range m.toNat).map fun k=>qK ⟨#[97+(c/4%26).toNat]⟩ (m.toNat-k)).map Dt.str:=by rw[zA];rfl
   rw[e] at il;rw[dI il] at hD;exact kk _ D H4 (by rw[za,zQ]) (KQ nofun (Nk f0 f1)) s4 hD
 ·refine cE (by show decide (V.int (c%4)=V.int 0)=false;exact zd fun z=>q (V.int.inj z)) ?_
  have f0:0<=c/4%26:=zv _ ∅;have f1:c/4%26<26:=zr _ ∅;have z0:0<=c/104%12:=zv _ ∅;have z1:c/104%12<12:=zr _ ∅;have y0:0<=c/1248%(c/104%12+1):=zv _ nofun;have y1:c/1248%(c/104%12+1)<c/104%12+1:=zr _ nofun;have x0:0<=c/16224:=zV c0 ∅;have x1:c/16224<=c:=zW _ c0;exists by show 0<c/104%12+1;omega,?_
  exists by omega,nofun,?_
  refine ma (fun k=>.str ⟨#[Ou ((c/16224+7*(0+(k:Nat)))%36)]⟩) (fun σ=>∃v,σ=[v,some (.int c),some (.str lets)]) nofun ⟨none,rfl⟩ ?_ ?_
  ·rintro k σ H4 R hk s4 ⟨_,rfl⟩ r
   exists by show 26+10<=sizeLine;omega,?_
   left;have w0:0<=(c/16224+7*(0+(k:Int)))%36:=zv _ ∅;have w1:(c/16224+7*(0+(k:Int)))%36<36:=zr _ ∅;refine⟨lets ++"0123456789",_,_,rfl,rfl,by show 36<=sizeLine;omega,(Mt w0 w1).1,?_⟩;exact r _ _ _ (au.refl _) d9 ⟨_,rfl⟩
  ·intro D vs H4 s4 _ hD il
   have e:(List.range (c/104%12).toNat).map (fun k:Nat=>Dt.str ⟨#[Ou ((c/16224+7*(0+(k:Nat)))%36)]⟩)=(nM c (c/104%12).toNat).map Dt.str:=by unfold nM;rw[zA];rfl
   rw[e] at il;rw[dI il] at hD;refine⟨"",D,nM c (c/104%12).toNat,rfl,rfl,aG.of hD,by rw[Mn];omega,?_⟩;exists by omega,nofun,?_
   have sln:=Mp c (c/104%12).toNat;have ssg:=Mo (c:=c) (n:=(c/104%12).toNat);generalize hst:Str.join "" (nM c (c/104%12).toNat)=stem at sln ssg;obtain⟨pn,hpn⟩:∃n:Nat,c/1248%(c/104%12+1)=(n:Int):=⟨(c/1248%(c/104%12+1)).toNat,nofun⟩
   obtain⟨fn,hfn⟩:∃n:Nat,c/4%26=(n:Int):=⟨(c/4%26).toNat,nofun⟩
   have pb:pn<=stem.length:=nofun
   have l1:(Txt.slice stem none (some (pn:Int))).length<=11:=by
    rw[<-show _=(Txt.slice stem none (some (pn:Int))).length from Array.length_toList,FK stem pb,zP];omega
   have l2:(Txt.slice stem (some (pn:Int)) none).length<=11:=by
    rw[<-show _=(Txt.slice stem (some (pn:Int)) none).length from Array.length_toList,qD stem pb,List.length_drop,show stem.cps.toList.length=stem.length from Array.length_toList];omega
   refine ma (fun k=>.str (Txt.slice stem none (some (pn:Int))++⟨#[97+(fn+5*k)%26]⟩++Txt.slice stem (some (pn:Int)) none)) (fun σ=>∃v,σ=[v,some (.str lets),some (.int (fn:Int)),some (.int (pn:Int)),some (.str stem)]) nofun ⟨none,by rw[<-hpn,<-hfn];rfl⟩ ?_ ?_
   ·rintro k σ H5 R hk s5 ⟨_,rfl⟩ r
    exists by omega,?_
    left;have w0:0<=((fn:Int)+5*(0+(k:Int)))%26:=zv _ ∅;have w1:((fn:Int)+5*(0+(k:Int)))%26<26:=zr _ ∅;have we:(((fn:Int)+5*(0+(k:Int)))%26).toNat=(fn+5*k)%26:=nofun
    refine⟨lets,_,_,rfl,rfl,by show 26<=sizeLine;omega,JS w0 w1,?_⟩;rw[we];have l3:(⟨#[97+(fn+5*k)%26]⟩:Str).length=1:=rfl;refine⟨_,_,rfl,rfl,nofun,?_⟩;exists by omega,?_
    refine⟨_,_,rfl,rfl,by rw[len_app];omega,?_⟩;exact r _ _ _ (au.refl _) d9 ⟨_,rfl⟩
   ·intro D2 vs2 H5 s5 _ hD2 il2
    have e:(List.range m.toNat).map (fun k=>Dt.str (Txt.slice stem none (some (pn:Int))++⟨#[97+(fn+5*k)%26]⟩++Txt.slice stem (some (pn:Int)) none))=((List.range m.toNat).map fun k=>Txt.slice stem none (some (pn:Int))++⟨#[97+(fn+5*k)%26]⟩++Txt.slice stem (some (pn:Int)) none).map Dt.str:=by rw[zA];rfl
    rw[e] at il2;rw[dI il2] at hD2;exact kk _ D2 H5 (by rw[za,zQ]) (Iu nofun pb ssg nofun) (s4.trans s5) hD2
def ud:Sp:=fun vs H Q _=>∃(m:Int),vs=[.int m]/\0<=m/\∀q p H',N3 q->au H H'->H' p=some (mr q)->Q (.ref p) H'
def gx:aC ["_law_m","_law_f","_law_high"] ["_law_m"] (ao mJ):=dy
def uA:cX P w base 1 T.kL ud:=by
 nomatch T.kL,gx
 obtain⟨m,rfl,m0,kk⟩:=h;have a:=zv m (b:=41) ∅;have b:=zr m (b:=41) ∅;have c:=zv (m/41) (b:=14) ∅;have d:=zr (m/41) (b:=14) ∅;refine⟨_,(ag (bT 1 gx.nd (ar iw (ar aO (pv 0) ae) ae))
  (ag (bT 2 gx.nd (ar dY (ar iw (ar aO (ar aP (pv 0) ae) ae) ae) ae))
  (aj (aq (bj (aa (pv 1) (aa (ar aW (ar aO (ar dY ae (pv 1)) ae) (pv 2)) af))))))),?_⟩
 ac_rfl;exists cx,?_;intros p1 H1 s1 h1;change kk _ _ _ (KJ m) s1 h1
inductive uh (vs:List V) (H:Hp) (Q:VK) (E:XK):Prop
 | mk (m:Int) (x:Int×Int) (q:Addr) (_:vs=[.int m,.ref q]) (_:H q=some (mr x)) (_:0<=m) (_:m<1099511627776) (_:LJ x) (_:∀(its:List Item) p us H',Fe its x->au H H'->H p=none->H' p=some (.lst us)->ay H' (its.map eZ) us->Q (.ref p) H')
def dk:aC ["_law_m","_law_length","_law_many","_law_weights","_law_items","_law_j","_law_each"] ["_law_m","_law_length"] (ao mO):=dy
def uD:cX P w base 2 T.kP uh:=by
 nomatch T.kP,dk
 obtain⟨m,x,q,rfl,hq,m0,m1,xok,kk⟩:=h;have sl:=yB;have a:=zv m (b:=6) ∅;have b:=zr m (b:=6) ∅;obtain⟨n,hn⟩:∃n:Nat,1+m%6=(n:Int):=⟨(1+m%6).toNat,nofun⟩
 refine⟨_,(ag (bT 2 dk.nd (ar aW ae (ar aO (pv 0) ae)))
  (ag (M3 (i:=3) (ts:=["_law_j"]) (ys:=["_law_m"]) (js:=[0]) (te:=(fH (wt fun i j=>.int (i+j)) (tC (.int (1))) (fH (rI (fun _ j=>0<j) fun i j=>.int (i%j)) (fH (rI Ry fun i j=>.int (i/j)) (aX 1) (fH (wt fun i j=>.int (i+j)) (tC (.int (7))) (fH (rI LM fun i j=>.int (i*j)) (tC (.int (5))) (aX 0)))) (tC (.int (4)))))) (cS (by rfl) T.dH (aa (pv 2) af)) (gy 0) bw (ar aW ae (ar aO (ar aP (pv 1) (ar aW ae (ar dY ae (pv 0)))) ae)) dk.nd)
  (ag (bT 4 dk.nd (bg af))
  (ag (cA PassesOwn.never rfl (cS (by rfl) T.dH (aa (pv 2) af)) (jA 5 dk.nd)
  (ag (bT 6 dk.nd (bJ (f9 T) hr T.fP (aa (ar dY (bR (pv 1) ae) (fL (pv 3) (pv 5))) (aa (ar dY (bR (pv 1) ae) (eQ (Ln rfl) T.Sa (aa (pv 3) af))) af))))
   (aj (aH (PW.pt (dr (ptr j6 (pv 5) (ar aO (ar aP (pv 0) ae) (pv 2))) (cR (ptr dg (ar QR (ar QQ (ar aP (pv 0) ae) (pv 5)) ae) ae))))
   (aj (bM (b7 yC yE yD bz (pv 4) (aa (bj (aa aS (aa (pv 6) af))) af))))
   (aj (bM (b7 yC yE yD bz (pv 4) (aa (bj (aa (bJ (uA T) hr T.kL (aa (ar aP (pv 0) (ar aW ae (ar dY ae (pv 5)))) af)) (aa (pv 6) af))) af))))))))
  (aj (aq (pv 4))))))),?_⟩
 ac_rfl;exists by omega,nofun,?_
 rw[show(1+m%6).toNat=n from by omega];refine ma (fun j=>.int (1+m/(7+5*(0+(j:Nat)))%4)) (fun σ=>∃v,σ=[v,some (.int m)]) nofun ⟨none,rfl⟩ ?_ ?_
 ·rintro j σ H1 R hj s1 ⟨_,rfl⟩ r
  exists⟨nofun,nofun⟩,?_;change r _ _ _ (au.refl _) cP ⟨_,rfl⟩
 ·intro D0 vs0 H1 s1 _ hD0 il0
  have e:(List.range n).map (fun j:Nat=>Dt.int (1+m/(7+5*(0+(j:Nat)))%4))=(tV m n).map Dt.int:=by unfold tV;rw[zA];rfl
  rw[e] at il0;rw[fG il0] at hD0;exists by show 0<=sizeLine;omega,?_
  intro D nD;have s2:au H1 (upd H1 D (.lst [])):=aR nD;have h2:upd H1 D (.lst []) D=some (.lst []):=aA;generalize upd H1 D (.lst [])=H2 at s2 h2 ⊢;have nDH:H D=none:=s1.back nD;exists by omega,nofun,?_
  rw[show(1+m%6).toNat=n from by omega];obtain⟨xr,x1,x2,x3⟩:=id xok;obtain⟨_,xp,_⟩:=xr.pos;have wl:=Oe m n;have wb:=Ml (l:=tV m n) fun w hw=>HJ hw;have W0:0<(tV m n).sum:=nofun
  have W2:(tV m n).sum<=24:=nofun
  have j0a:0<=m/4%(n:Int):=zv _ nofun;have j0b:m/4%(n:Int)<n:=zr _ nofun;refine gC (fun i σ H'=>∃(its:List Item) (us:List V) (v5 v6:Option V),σ=[some (.int m),some (.ref q),some (.int (1+m%6)),some (.ref D0),some (.ref D),v5,v6]/\au H1 H'/\H' D=some (.lst us)/\ay H' (its.map eZ) us/\its.length=i/\(∀it∈its,LK it)/\
   km its=red (x.1*((tV m n).take i).sum) (x.2*(tV m n).sum)/\(m/4%(n:Int)<i->its.all (fun it=>it.1.isNone)=false)) ⟨[],[],none,none,rfl,s2,h2,cH,rfl,by simp,Mj xp W0,fun z=>by exfalso;simp at z;omega⟩ ?_ ?_
  ·intro i σ H3 hi hh
   refine cY fun N kN0 kR0 _ _=>?_;obtain⟨its,us,v5,v6,rfl,s3,h3,il3,il,iok,isum,ino⟩:=hh;have hq3:=s3 _ _ (s1 _ _ hq);have hD3:=s3 _ _ hD0;have hwi:(tV m n)[i]?=some ((tV m n)[i]'nofun):=zb nofun;obtain⟨w1,w2⟩:=HJ (zB hwi);generalize (tV m n)[i]'nofun=wi at hwi w1 w2;left;refine⟨D0,_,_,_,rfl,rfl,aG.of hD3,(by rw[Int.zero_add];exact bx (by rw[zJ,hwi];rfl)),?_⟩;exists .inl ⟨nofun,nofun⟩,?_;exists D0,_,rfl,aG.of hD3,fun w hw=>by have:=HJ hw;omega,nofun,?_
   exists .inl ⟨nofun,nofun⟩,?_;have lk:=Nh xok w1 w2 W0 W2;have b1:0<x.2*(tV m n).sum:=Int.mul_pos xp W0;have b2:x.2*(tV m n).sum<=160*24:=Int.mul_le_mul x3 W2 nofun ∅;have t0:0<=x.1*wi:=Int.mul_nonneg nofun nofun;refine⟨_,_,rfl,t0,b1,(dq (n:=12) nofun nofun).mono ∅,fun p6 H6 s6 h6=>?_⟩;exists by show 0<1+m%6;omega,?_
   left;have nD6:H6 D=some (.lst us):=s6 _ _ h3;have il6:=il3.mono s6;have e6:(tV m n).take (i+1)=(tV m n).take i++[wi]:=dC hwi;have ps:∀it:Item,it.2=red (x.1*wi) (x.2*(tV m n).sum)->km (its++[it])=red (x.1*((tV m n).take (i+1)).sum) (x.2*(tV m n).sum):=fun it e=>by
    rw[e6,List.sum_append];have:[wi].sum=wi:=by simp
    rw[this];exact Mi xp W0 isum e
   refine eI ((!decide (V.int (0+(i:Int))=V.int (m/4%(1+m%6))))&&decide (V.int (Builtin.bitAnd (m/16/2^(0+(i:Int)).toNat) 1)=V.int 1)) ?_ ?_ ?_
   ·intro c Z hz
    rw[c,Bool.true_and] at hz;exists by show 0<=0+(i:Int);omega,?_
    change hz
   ·intro c;rw[c,Bool.false_and]
   ·cases qv:((!decide (V.int (0+(i:Int))=V.int (m/4%(1+m%6))))&&decide (V.int (Builtin.bitAnd (m/16/2^(0+(i:Int)).toNat) 1)=V.int 1)) with
    | true=>
     have ne:(i:Int)≠m/4%(n:Int):=fun z=>by
      rw[Int.zero_add,z,hn] at qv;simp at qv
     exists .inl ⟨rfl,_,aG.of nD6⟩,?_;exists cx,?_;intros p7 H7 s7 h7;refine⟨D,us,_,rfl,rfl,s7 _ _ nD6,(by have:=aT il3;omega),?_⟩;left;have nt:cT (H7 D):=by rw[s7 _ _ nD6];exact fun _ z=>by cases z
     have it7:Is H7 (eZ (none,red (x.1*wi) (x.2*(tV m n).sum))) (.ref p7):=cB h7 (aL d4 (aL (iV (s7 _ _ h6)) cH));refine⟨its++[(none,red (x.1*wi) (x.2*(tV m n).sum))],_,_,_,rfl,bX nD ((s3.trans s6).trans s7),aA,?_,by rw[zg,il];rfl,fun it hit=>?_,ps _ rfl,fun z=>?_⟩
     ·rw[zj]
      exact cW (Is.upd nt it7) (ay.upd nt (il6.mono s7))
     ·rcases zF.mp hit with y | y
      ·exact iok it y
      ·rw[zy.mp y];exact⟨lk,fun q z=>by cases z⟩
     ·rw[List.all_append,ino nofun,Bool.false_and]
    | false=>
     exists .inl ⟨rfl,_,aG.of nD6⟩,?_;exists⟨nofun,nofun⟩,?_;exists zV m0 nofun,fun pq p8 H8 pok s8 h8=>?_;exists cx,?_;intros p7 H7 s7 h7;have s67:=s8.trans s7;refine⟨D,us,_,rfl,rfl,s67 _ _ nD6,by have:=aT il3;omega,?_⟩;left;have nt:cT (H7 D):=by rw[s67 _ _ nD6];exact fun _ z=>by cases z
     have it7:Is H7 (eZ (some pq,red (x.1*wi) (x.2*(tV m n).sum))) (.ref p7):=cB h7 (aL (iV (s7 _ _ h8)) (aL (iV (s67 _ _ h6)) cH));refine⟨its++[(some pq,red (x.1*wi) (x.2*(tV m n).sum))],_,_,_,rfl,bX nD ((s3.trans s6).trans s67),aA,?_,by rw[zg,il];rfl,fun it hit=>?_,ps _ rfl,fun z=>?_⟩
     ·rw[zj]
      exact cW (Is.upd nt it7) (ay.upd nt (il6.mono s67))
     ·rcases zF.mp hit with y | y
      ·exact iok it y
      ·rw[zy.mp y];exact⟨lk,fun q z=>by cases z;exact pok⟩
     ·rw[List.all_append];simp
  ·rintro σ H3 ⟨its,us,v5,v6,rfl,s3,h3,il3,il,iok,isum,ino⟩
   left;refine kk its D us H3 ⟨nofun,iok,?_,ino j0b⟩ (s1.trans s3) nDH h3 il3;rw[isum,show(tV m n).take n=tV m n from List.take_of_length_le nofun,Ks xr W0]
noncomputable def IB:List (Int×Int):=[(4,4),(3,4),(6,8),(2,2),(5,16),(7,8),(1,32),(12,1)]
def LN (b:Sc.LU):Prop:=b.aQ∈IB/\-7<=b.key/\b.key<=7/\(∀n∈b.marks,gm n)/\b.marks.length<=2
inductive wd (vs:List V) (H:Hp) (Q:VK) (E:XK):Prop
 | mk (c n:Int) (_:vs=[.int c,.int n]) (_:0<=n) (_:n<=200) (_:∀(bs:List Sc.LU) p us H',bs.length=n.toNat->(∀b∈bs,LN b)->au H H'->H p=none->H' p=some (.lst us)->ay H' (bs.map lB) us->Q (.ref p) H')
def bY:aC ["_law_cell","_law_many","_law_bars","_law_k","_law_m","_law_metre","_law_key","_law_marks"] ["_law_cell","_law_many"] (ao oz):=dy
def wD:cX P w base 2 T.mq wd:=by
 nomatch T.mq,bY
 obtain⟨c,n,rfl,n0,n1,kk⟩:=h;have sl:=yB;refine⟨_,(ag (bT 2 bY.nd (bg af))
  (ag (cA PassesOwn.never rfl (cS (by rfl) T.dH (aa (pv 1) af)) (jA 3 bY.nd)
  (zf (zc (zS (bT 4 bY.nd (bJ (bO T) hr T.cC (aa (pv 0) (aa (ar aW (pv 3) ae) af)))))
   (zc (T8 5 bY.nd (OK IB (ar aO (pv 4) ae) (fun _ _=>rfl)))
   (zc (zS (bT 6 bY.nd (ar iw (ar aO (ar aP (pv 4) ae) ae) ae)))
   (zc (zS (aH (PW.pt (dr (ptr fi (pv 3) ae) (cR (ptr fi (ar aO (ar aP (pv 4) ae) ae) ae))))
   (aj (bT 5 bY.nd (bR (fL (pv 2) (sN lF ae)) ae)))
   ax))
   (zc (zS (aH (PW.pt (dr (ptr fi (pv 3) ae) (cR (ptr fi (ar aO (ar aP (pv 4) ae) ae) ae))))
   (aj (bT 6 bY.nd (bR (fL (pv 2) (sN lF ae)) ae)))
   ax))
   (zc (zS (bT 7 bY.nd (ng cN T.gP (aa (bJ (fc T) hr T.eJ (aa (ar aP (pv 4) ae) (aa (fL (bg (aa ae (aa ae (aa ae (aa ae (aa ae (aa ae (aa ae af)))))))) (ar aO (ar aP (pv 4) ae) ae)) af))) af))))
   (zo (zS (bM (b7 yC yE yD bz (pv 2) (aa (bj (aa (pv 5) (aa (pv 6) (aa (pv 7) af)))) af)))))))))))))
  (aj (aq (pv 2))))),?_⟩
 ac_rfl;exists by show 0<=sizeLine;omega,?_
 intro D nD;have s2:au H (upd H D (.lst [])):=aR nD;have h2:upd H D (.lst []) D=some (.lst []):=aA;generalize upd H D (.lst [])=H2 at s2 h2 ⊢;exists by omega,nofun,?_
 refine gC (fun i σ H'=>∃(bs:List Sc.LU) (us:List V),Lo [some (.int c),some (.int n),some (.ref D)] 5 σ/\au H H'/\H' D=some (.lst us)/\ay H' (bs.map lB) us/\bs.length=i/\∀b∈bs,LN b)
  ⟨[],[],Lo.of rfl rfl,s2,h2,cH,rfl,by simp⟩ ?_ ?_
 ·intro i σ H3 hi hh
  refine cY fun N kN0 kR0 _ _=>?_;obtain⟨bs,us,⟨e,rfl⟩,s3,h3,il3,bl,bok⟩:=hh;exists c,_,rfl,nofun,nofun,?_;have m0:0<=mixed c (0+(i:Int)+20):=zv _ ∅;have m1:mixed c (0+(i:Int)+20)<2147483399:=zr _ ∅;generalize mixed c (0+(i:Int)+20)=m at m0 m1;have a0:0<=m%8:=zv _ ∅;have a1:m%8<8:=zr _ ∅;have b0:0<=m/8%15:=zv _ ∅;have b1:m/8%15<15:=zr _ ∅;left;intro D4 vs4 H4 s4 h4 il4;left;obtain⟨j,hj⟩:∃j:Nat,m%8=(j:Int):=⟨(m%8).toNat,nofun⟩
  have vl4:=aT il4;have jl:j<vs4.length:=by rw[vl4];show j<8;omega
  obtain⟨mx,hmx,imx⟩:=dZ (d:=dL) il4 (i:=j) (zb jl);generalize hmv:vs4[j]=mv at imx;have h3':=s4 _ _ h3;have il3':=il3.mono s4;refine⟨D4,vs4,m%8,mv,rfl,rfl,aG.of h4,(by rw[hj];exact bx (by rw[<-hmv];exact zb jl)),?_⟩;left;have lastB:0<(i:Int)->∃b a mt q,us[us.length-1]?=some (.ref a)/\H4 a=some (.tup [mt,.int b.key,.ref q])/\Is H4 (dL b.aQ) mt/\b∈bs:=fun ip=>by
   have ul:=aT il3';obtain⟨b,hb,ib⟩:=dZ il3' (i:=us.length-1) (zb nofun);obtain⟨a,mt,q,ea,ha,hm,_⟩:=xk ib;exact⟨b,a,mt,q,by rw[<-ea];exact zb nofun,ha,hm,zB hb⟩
  refine eI (decide (0<0+(i:Int))&&decide (0<m/120%4)) ?_ ?_ ?_
  ·intro c1 Z hz
   rw[c1,Bool.true_and] at hz;change hz
  ·intro c1;rw[c1,Bool.false_and]
  refine join (fun σ H'=>H'=H4/\∃mv x,σ=[some (.int c),some (.int n),some (.ref D),some (.int (0+(i:Int))),some (.int m),some mv,some (.int (m/8%15-7)),e 4]/\Is H4 (dL x) mv/\x∈IB) (fun N hN c1=>?_) (fun N hN c1=>?_) ?_
  ·have ip:0<(i:Int):=by simp at c1;omega
   obtain⟨b,a,mt,q,hl,ha,hm,hb⟩:=lastB ip;exists D,us,-1,_,rfl,rfl,aG.of h3',tN hl,?_;change hN _ _ ⟨rfl,mt,b.aQ,rfl,hm,(bok b hb).1⟩
  ·left
   exact hN _ _ ⟨rfl,mv,mx,rfl,imx,zB hmx⟩
  clear imx hmv;rintro σ5 H5 ⟨e5,mv,x,rfl,imv,hx⟩;rw[e5];clear e5 H5;left;refine eI (decide (0<0+(i:Int))&&decide (0<m/480%5)) ?_ ?_ ?_
  ·intro c1 Z hz
   rw[c1,Bool.true_and] at hz;change hz
  ·intro c1;rw[c1,Bool.false_and]
  refine join (fun σ H'=>H'=H4/\∃k:Int,σ=[some (.int c),some (.int n),some (.ref D),some (.int (0+(i:Int))),some (.int m),some mv,some (.int k),e 4]/\-7<=k/\k<=7) (fun N hN c1=>?_) (fun N hN c1=>?_) ?_
  ·have ip:0<(i:Int):=by simp at c1;omega
   obtain⟨b,a,mt,q,hl,ha,hm,hb⟩:=lastB ip;exists D,us,-1,_,rfl,rfl,aG.of h3',tN hl,?_;change hN _ _ ⟨rfl,b.key,rfl,(bok b hb).2.1,(bok b hb).2.2.1⟩
  ·left
   exact hN _ _ ⟨rfl,m/8%15-7,rfl,nofun,nofun⟩
  rintro σ5 H5 ⟨e5,k,rfl,k0,k1⟩;rw[e5];clear e5 H5;exists by show 7<=sizeLine;omega,?_
  intros p6 H6 s6 h6;have g0:0<=m/33600%7:=zv _ ∅;have g1:m/33600%7<7:=zr _ ∅;obtain⟨jj,hjj⟩:∃j:Nat,m/33600%7=(j:Int):=⟨(m/33600%7).toNat,nofun⟩
  obtain⟨z,hz,z0,z1⟩:∃z:Int,[V.int 0,V.int 0,V.int 0,V.int 0,V.int 0,V.int 1,V.int 2][jj]?=some (.int z)/\0<=z/\z<=2:=by
   have:jj<7:=nofun
   match jj,this with
   | 0,_=>exact⟨0,rfl,∅,∅⟩
   | 1,_=>exact⟨0,rfl,∅,∅⟩
   | 2,_=>exact⟨0,rfl,∅,∅⟩
   | 3,_=>exact⟨0,rfl,∅,∅⟩
   | 4,_=>exact⟨0,rfl,∅,∅⟩
   | 5,_=>exact⟨1,rfl,∅,∅⟩
   | 6,_=>exact⟨2,rfl,∅,∅⟩
  exists p6,_,m/33600%7,.int z,rfl,rfl,aG.of h6,(by rw[hjj];exact bx hz),?_;left;refine⟨_,z,rfl,zV m0 ∅,?_,z0,nofun,fun ns p7 H7 nl nok s7 h7=>?_⟩
  ·have:=zW (a:=m) 2400 m0;omega
  left;refine⟨p7,_,rfl,.inl ⟨aG.of h7,?_⟩⟩;intros p8 H8 s8 h8;have s48:=(s6.trans s7).trans s8;have h38:=s48 _ _ h3';exists .inl ⟨rfl,_,aG.of h38⟩,?_;exists nQ,?_;intros p9 H9 s9 h9;refine⟨D,us,_,rfl,rfl,s9 _ _ h38,(by have:=aT il3;omega),?_⟩;left;have s49:=s48.trans s9;have nt:cT (H9 D):=by rw[s9 _ _ h38];exact fun _ z=>by cases z
  have ib:Is H9 (lB ⟨x,k,ns⟩) (.ref p9):=cB h9 (aL (imv.mono s49) (aL cP (aL (cB (s9 _ _ h8) (Ap ns)) cH)));refine⟨bs++[⟨x,k,ns⟩],_,Lo.of rfl rfl,bX nD ((s3.trans s4).trans s49),aA,?_,by rw[zg,bl];rfl,fun b hb=>?_⟩
  ·rw[zj]
   exact cW (Is.upd nt ib) (ay.upd nt (il3'.mono s49))
  ·rcases zF.mp hb with y | y
   ·exact bok b y
   ·rw[zy.mp y]
    exact⟨hx,k0,k1,nok.1,by show ns.length<=2;omega⟩
 ·rintro σ H3 ⟨bs,us,⟨e,rfl⟩,s3,h3,il3,bl,bok⟩
  change kk bs D us H3 bl bok s3 nD h3 il3
inductive rN (vs:List V) (H:Hp) (Q:VK) (E:XK):Prop
 | mk (bl:Addr) (us:List V) (S:cD) (ub:V) (b:Nat) (_:vs=[.ref bl,ub,.int b]) (_:H bl=some (.lst us)) (_:ay H (S.aM.map lB) us) (_:Is H (dO dL S.aF) ub) (_:b<S.aM.length) (_:(∀x∈S.aM,LN x)) (_:∀p H',au H H'->H' p=some (mr (S.len b))->Q (.ref p) H')
def lW {x:Int×Int} (h:x∈IB):1<=x.1/\x.1<=12/\x.2∈Cb/\1<=x.2/\x.2<=32:=by
 unfold IB at h;simp only[zC,zD,or_false] at h;rcases h with rfl | rfl | rfl | rfl | rfl | rfl | rfl | rfl <;> decide
def rS:aC ["_law_bars","_law_upbeat","_law_bar"] ["_law_bars","_law_upbeat","_law_bar"] (ao kX):=dy
def sU:cX P w base 2 T.jK rN:=by
 nomatch T.jK,rS
 obtain⟨bl,us,S,ub,b,rfl,hbl,il,iu,hb,bok,kk⟩:=h;have ul:=aT il;obtain⟨x,hx,ix⟩:=dZ il (i:=b) (zb nofun);obtain⟨a1,mv,q,ev,h1,im,_⟩:=xk ix;obtain⟨m1,m2,m3,m4,m5⟩:=lW (bok x (zB hx)).1;have em:S.aQ b=red x.aQ.1 x.aQ.2:=by unfold cD.aQ;rw[hx]
 cases fk (o:=some x.aQ) im with
 | ref hm=>
 rename_i am;refine⟨_,(ag (aH (PW.pt (dr (ptr dg (pv 2) ae) (cR (bB (gN (pv 1))))))
  (aj (aq (pv 1)))
  ax)
  (aj (aq (bJ (f9 T) hr T.fP (aa (bR (bR (fL (pv 0) (pv 2)) ae) ae) (aa (bR (bR (fL (pv 0) (pv 2)) ae) ae) af)))))),?_⟩
 ac_rfl;left;have nz:∀H1,Is H1 (dO dL S.aF) ub->(!decide (ub=V.bH))=S.aF.isSome:=fun H1 z=>by
  cases q:S.aF with
  | none=>rw[q] at z;unfold dO Is at z;rw[z];rfl
  | some u=>
   rw[q] at z;cases fk (o:=some u) z with
   | ref hu=>rfl
 refine eI (decide (V.int (b:Int)=V.int 0)&&S.aF.isSome) ?_ ?_ ?_
 ·intro c Z hz
  rw[c,Bool.true_and,<-nz H iu] at hz;change hz
 ·intro c;rw[c,Bool.false_and]
 ·cases qv:(decide (V.int (b:Int)=V.int 0)&&S.aF.isSome) with
  | true=>
   rw[zN] at qv;have b0:b=0:=by have:=V.int.inj (yd qv.1);omega
   cases q:S.aF with
   | none=>rw[q] at qv;cases qv.2
   | some u=>
    rw[q] at iu;cases fk (o:=some u) iu with
    | ref hu=>
     left;refine kk _ _ (au.refl _) ?_;unfold cD.len;rw[q];simp only[b0,if_true];exact hu
  | false=>
   have el:S.len b=S.aQ b:=by
    unfold cD.len;cases q:S.aF with
    | none=>rfl
    | some u=>
     rw[q] at qv;have:b≠0:=fun z=>by rw[z] at qv;simp at qv
     simp only[if_neg this]
   rw[el,em] at kk;left;refine⟨bl,us,b,_,rfl,rfl,aG.of hbl,bx (zb nofun),?_⟩;rw[ev];left;refine⟨bl,us,b,_,rfl,rfl,aG.of hbl,bx (zb nofun),?_⟩;rw[ev];change⟨_,_,rfl,nofun,nofun,(dq (n:=10) nofun nofun).mono ∅,kk⟩
inductive ui (vs:List V) (H:Hp) (Q:VK) (E:XK):Prop
 | mk (c many:Int) (pp ip:Addr) (ps:List Str) (ins:List (Str×(Int×Int)×(Int×Int))) (iv:List V) (_:vs=[.int c,.ref pp,.ref ip,.int many]) (_:H pp=some (.lst (ps.map V.str))) (_:H ip=some (.lst iv)) (_:ay H (ins.map eL) iv) (_:ps.length<=100) (_:ins.length<=100) (_:many<=200) (_:∀(hs:List (Str×List (Int×Str))) D us H',List.Sublist (hs.map (·.1)) ps->(∀x∈hs,Kc (ins.map (·.1)) many x.2)->au H H'->H' D=some (.lst us)->RL (jN D H') hs us->Q (.ref D) H')
def KZ {H:Hp} {x:Str×(Int×Int)×(Int×Int)} {v:V} (h:Is H (eL x) v):∃a t l,v=.ref a/\H a=some (.tup [.str x.1,t,l]):=by
 unfold eL Is at h;obtain⟨a,vs,rfl,ha,hl⟩:=h;unfold ay at hl;obtain⟨v1,r1,rfl,h1,hl⟩:=hl;unfold ay at hl;obtain⟨v2,r2,rfl,h2,hl⟩:=hl;unfold ay at hl;obtain⟨v3,r3,rfl,h3,hl⟩:=hl;unfold ay at hl;subst hl;unfold Is at h1;subst h1;exact⟨a,v2,v3,rfl,ha⟩
def bG:aC ["_law_cell","_law_players","_law_instruments","_law_many","_law_holds","_law_k","_law_player","_law_row","_law_bar","_law_j","_law_m"] ["_law_cell","_law_players","_law_instruments","_law_many"] (ao mP):=dy
def uE:cX P w base 2 T.kQ ui:=by
 nomatch T.kQ,bG
 obtain⟨c,many,pp,ip,ps,ins,iv,rfl,hpp,hip,ili,pl,il0,my,kk⟩:=h;have sl:=yB;have ivl:=aT ili;refine⟨_,(ag (bT 4 bG.nd (bg af))
  (ag (cA PassesOwn.never rfl (xi (by rfl) T.j9 (aa (pv 1) af)) (d6 (n:=2) rfl (aK (jA 5 bG.nd) (aK (jA 6 bG.nd) cZ)))
  (ag (bT 7 bG.nd (bg af))
   (ag (bT 8 bG.nd ae)
   (ag (cA PassesOwn.never rfl (cS (by rfl) T.dH (aa ae af)) (jA 9 bG.nd)
   (ag (bT 10 bG.nd (bJ (bO T) hr T.cC (aa (pv 0) (aa (ar aW (ar aW (ar dY ae (pv 5)) (pv 9)) ae) af))))
    (ag (bT 8 bG.nd (ar aW (pv 8) (ar aO (pv 10) ae)))
    (ag (aH (PW.pt (dr (ptr fw (pv 8) (pv 3)) (dr (ptr fi (eQ aB T.bu (aa (pv 2) af)) ae) (cR (ptr fi (ar aO (ar aP (pv 10) ae) ae) ae)))))
    (aj (bM (b7 yC yE yD bz (pv 7) (aa (bj (aa (pv 8) (aa (bR (fL (pv 2) (ar aO (ar aP (pv 10) ae) (eQ aB T.bu (aa (pv 2) af)))) ae) af))) af))))
    ax)
    (aj (bT 8 bG.nd (ar aW (pv 8) ae)))))))
   (aj (aH (ptr (Aa hr.units) (pv 7) (bg af))
   (aj (bM (b7 yC yE yD bz (pv 4) (aa (bj (aa (pv 6) (aa (pv 7) af))) af))))
   ax))))))
  (aj (aq (pv 4))))),?_⟩
 ac_rfl;exists by show 0<=sizeLine;omega,?_
 intro D nD;have s2:au H (upd H D (.lst [])):=aR nD;have h2:upd H D (.lst []) D=some (.lst []):=aA;generalize upd H D (.lst [])=H2 at s2 h2 ⊢;exists pp,_,rfl,aG.of (s2 _ _ hpp),?_;refine tF (K:=K) (a:=pp) (xs:=ps.map V.str) (fun i σ H'=>∃(hs:List (Str×List (Int×Str))) (us:List V),Lo [some (.int c),some (.ref pp),some (.ref ip),some (.int many),some (.ref D)] 6 σ/\au H H'/\H' D=some (.lst us)/\RL (jN D H') hs us/\List.Sublist (hs.map (·.1)) (ps.take i)/\(∀x∈hs,Kc (ins.map (·.1)) many x.2)/\hs.length<=i)
  ⟨[],[],Lo.of rfl rfl,s2,h2,rfl,List.nil_sublist _,by simp,zk _⟩ (fun i σ H' _ h=>by obtain⟨_,_,_,z,_⟩:=h;exact aG.of (z _ _ hpp)) ?_ ?_
 ·intro i x σ H3 p H4 hx hh s34 hp4
  refine cY fun N kN0 kR0 _ _=>?_;obtain⟨hs,us,⟨e,rfl⟩,s3,h3,rl3,sub,rok,hl⟩:=hh;rw[zJ] at hx;cases qr:ps[i]? with
  | none=>rw[qr] at hx;cases hx
  | some pn=>
  rw[qr] at hx;simp only[Option.map_some,Option.some.injEq] at hx;subst hx;refine⟨p,_,rfl,dw.of hp4,rfl,?_⟩;refine⟨_,_,rfl,⟨_,_,rfl,⟨rfl,?_⟩⟩⟩;exists by show 0<=sizeLine;omega,?_
  intro R nR;have s5:au H4 (upd H4 R (.lst [])):=aR nR;have h5:upd H4 R (.lst []) R=some (.lst []):=aA;generalize upd H4 R (.lst [])=H5 at s5 h5 ⊢;exists by decide,(by decide),?_
  refine gC (fun j σ H'=>∃(row:List (Int×Str)) (ws:List V) (bar:Int) (v9 va:Option V),σ=[some (.int c),some (.ref pp),some (.ref ip),some (.int many),some (.ref D),some (.int (i:Int)),some (.str pn),some (.ref R),some (.int bar),v9,va]/\au H4 H'/\H' R=some (.lst ws)/\ay H' (row.map J5) ws/\0<=bar/\row.length<=j/\(row.map (·.1)).Pairwise (·<·)/\
   ∀h∈row,0<=h.1/\h.1<many/\h.2∈ins.map (·.1)/\h.1<bar) ⟨[],[],0,e 4,e 5,rfl,s5,h5,cH,∅,by simp,by simp,by simp⟩ ?_ ?_
  ·intro j σ H6 hj hh
   refine cY fun N kN1 kR1 _ _=>?_;obtain⟨row,ws,bar,v9,va,rfl,s6,h6,il6,b0,rl,asc,rin⟩:=hh;have s06:=(s3.trans s34).trans s6;left;have ib:i<ps.length:=(zw.mp qr).1;refine⟨c,_,rfl,nofun,nofun,?_⟩;have m0:0<=mixed c (7*(i:Int)+(0+(j:Int))+60):=zv _ ∅;have m1:mixed c (7*(i:Int)+(0+(j:Int))+60)<2147483399:=zr _ ∅;generalize mixed c (7*(i:Int)+(0+(j:Int))+60)=m at m0 m1;have a0:0<=m%5:=zv _ ∅;left;have hip6:=s06 _ _ hip;refine eI (decide (bar+m%5<many)&&(decide (0<(ins.length:Int))&&decide (0<m/5%3))) ?_ ?_ ?_
   ·intro c1 Z hz
    rw[c1,Bool.true_and] at hz;exists ip,iv,rfl,.inl (aG.of hip6),?_;rw[ivl];left;refine eI (decide (0<(ins.length:Int))&&decide (0<m/5%3)) ?_ ?_ hz
    ·intro c2 Z hz
     rw[c2,Bool.true_and] at hz;change hz
    ·intro c2;rw[c2,Bool.false_and]
   ·intro c1;rw[c1,Bool.false_and]
   refine join (fun σ H'=>∃(row:List (Int×Str)) (ws:List V),σ=[some (.int c),some (.ref pp),some (.ref ip),some (.int many),some (.ref D),some (.int (i:Int)),some (.str pn),some (.ref R),some (.int (bar+m%5)),some (.int (0+(j:Int))),some (.int m)]/\au H4 H'/\H' R=some (.lst ws)/\ay H' (row.map J5) ws/\row.length<=j+1/\(row.map (·.1)).Pairwise (·<·)/\
    ∀h∈row,0<=h.1/\h.1<many/\h.2∈ins.map (·.1)/\h.1<bar+m%5+1) (fun N hN c1=>?_) (fun N hN c1=>?_) ?_
   ·simp only[zN,decide_eq_true_eq] at c1
    obtain⟨c1,c2,c3⟩:=c1;have d0:0<=m/15%(ins.length:Int):=zv _ nofun;have d1:m/15%(ins.length:Int)<ins.length:=zr _ nofun;obtain⟨jj,hjj⟩:∃jj:Nat,m/15%(ins.length:Int)=(jj:Int):=⟨(m/15%(ins.length:Int)).toNat,nofun⟩
    obtain⟨nx,hnx,inx⟩:=dZ (d:=eL) (ili.mono s06) (i:=jj) (zb nofun);obtain⟨ai,ti,li,ea,hai⟩:=KZ inx;exists .inl ⟨rfl,_,aG.of h6⟩,?_;exists ip,iv,rfl,.inl (aG.of hip6),?_;rw[ivl];exists by show 0<(ins.length:Int);omega,?_
    refine⟨ip,iv,_,_,rfl,rfl,aG.of hip6,(by rw[hjj];exact bx (zb nofun)),?_⟩;rw[ea];exists cx,?_;intros p7 H7 s7 h7;refine⟨R,ws,_,rfl,rfl,s7 _ _ h6,(by have:=aT il6;omega),?_⟩;left;have nt:cT (H7 R):=by rw[s7 _ _ h6];exact fun _ z=>by cases z
    refine hN _ _ ⟨row++[(bar+m%5,nx.1)],_,rfl,bX nR (s6.trans s7),aA,?_,by rw[zg];simp;omega,?_,fun h hh=>?_⟩
    ·rw[zj]
     exact cW (Is.upd nt (cB h7 (aL cP (aL d9 cH)))) (ay.upd nt (il6.mono s7))
    ·rw[zj,zT]
     refine⟨asc,by simp,fun x hx y hy=>?_⟩;obtain⟨h',hh',rfl⟩:=zG.mp hx;have ey:y=bar+m%5:=by simpa using hy
     have:=(rin h' hh').2.2.2;omega
    ·rcases zF.mp hh with z | z
     ·have:=rin h z
      exact⟨this.1,this.2.1,this.2.2.1,nofun⟩
     ·rw[zy.mp z]
      exact⟨by show 0<=bar+m%5;omega,c1,zO (f:=fun x:Str×(Int×Int)×(Int×Int)=>x.1) (zB hnx),by show bar+m%5<bar+m%5+1;omega⟩
   ·left
    refine hN _ _ ⟨row,ws,rfl,s6,h6,il6,nofun,asc,fun h hh=>?_⟩;have:=rin h hh;exact⟨this.1,this.2.1,this.2.2.1,nofun⟩
   rintro σ7 H7 ⟨row,ws,rfl,s7,h7,il7,rl7,asc7,rin7⟩;change⟨row,ws,bar+m%5+1,_,_,rfl,s7,h7,il7,nofun,rl7,asc7,rin7⟩
  ·rintro σ H6 ⟨row,ws,bar,v9,va,rfl,s6,h6,il6,b0,rl,asc,rin⟩
   have s06:=(s3.trans s34).trans s6;have h36:=s6 _ _ (s34 _ _ h3);have rl6:RL (jN D H6) hs us:=rl3.imp fun x v z=>(z.mono s34).mono s6;have ne:R≠D:=fun z=>by rw[z,s34 _ _ h3] at nR;cases nR
   have ib:i<ps.length:=(zw.mp qr).1;have tk:ps.take (i+1)=ps.take i++[pn]:=dC qr;exists by show 0<=sizeLine;omega,?_
   intros p7 H7 s7 h7;refine⟨R,p7,ws,[],rfl,rfl,.inl ⟨aG.of (s7 _ _ h6),aG.of h7⟩,.inr (.inl rfl),?_⟩;have wr:=aT il6;have s07:=s06.trans s7
   by_cases e:ws=[]
   ·rw[ze e]
    left;refine⟨hs,us,Lo.of rfl rfl,s07,s7 _ _ h36,rl6.imp fun x v z=>z.mono s7,?_,rok,nofun⟩;rw[tk];exact sub.trans (List.sublist_append_left _ _)
   ·rw[zd e]
    have rne:row≠[]:=fun z=>e (by rw[z] at wr;exact yr.mp wr);exists .inl ⟨rfl,_,aG.of (s7 _ _ h36)⟩,?_;exists cx,?_;intros p8 H8 s8 h8;have s78:=s7.trans s8;have h38:=s78 _ _ h36;refine⟨D,us,_,rfl,rfl,h38,by have:=rl3.len;omega,?_⟩;left;refine⟨hs++[(pn,row)],_,Lo.of rfl rfl,bX nD (s06.trans s78),aA,?_,?_,fun x hx=>?_,by rw[zg];simp;omega⟩
    ·refine RL.snoc ?_ (rl6.imp fun x v z=>(z.mono s78).upd h38)
     exact jN.upd h38 ⟨p8,R,ws,rfl,h8,s78 _ _ h6,il6.mono s78,ne⟩
    ·rw[zj,tk]
     exact sub.append (List.Sublist.refl _)
    ·rcases zF.mp hx with z | z
     ·exact rok x z
     ·rw[zy.mp z]
      exact⟨rne,rl,asc,fun h hh=>⟨(rin h hh).1,(rin h hh).2.1,(rin h hh).2.2.1⟩⟩
 ·rintro σ H3 ⟨hs,us,⟨e,rfl⟩,s3,h3,rl3,sub,rok,hl⟩
  rw[za,zM] at sub;change kk hs D us H3 sub rok s3 h3 rl3
def Fd (S:cD) (ns:List ((Int×Str)×List Item)):Prop:=(ns.map (·.1)).Nodup/\∀x∈ns,0<=x.1.1/\x.1.1<S.aM.length/\x.1.2∈S.players/\Fe x.2 (S.len x.1.1.toNat)
inductive uf (vs:List V) (H:Hp) (Q:VK) (E:XK):Prop
 | mk (c:Int) (pp bl:Addr) (S:cD) (bv:List V) (ub:V) (_:vs=[.int c,.ref pp,.ref bl,ub]) (_:H pp=some (.lst (S.players.map V.str))) (_:H bl=some (.lst bv)) (_:ay H (S.aM.map lB) bv) (_:Is H (dO dL S.aF) ub) (_:S.players.length<=9) (_:S.players.Nodup) (_:S.aM.length<=200) (_:(∀x∈S.aM,LN x)) (_:(∀b:Nat,b<S.aM.length->LJ (S.len b))) (_:∀(ns:List ((Int×Str)×List Item)) D us H',Fd S ns->ns.length<=9*S.aM.length->au H H'->H' D=some (.lst us)->RL (iF D H') ns us->Q (.ref D) H')
def cg:aC ["_law_cell","_law_players","_law_bars","_law_upbeat","_law_notes","_law_bar","_law_k","_law_player","_law_m","_law_often","_law_run"] ["_law_cell","_law_players","_law_bars","_law_upbeat"] (ao mL):=dy
def uC:cX P w base 3 T.kO uf:=by
 nomatch T.kO,cg
 obtain⟨c,pp,bl,S,bv,ub,rfl,hpp,hbl,ilb,iub,pl,pnd,bl2,bok,lok,kk⟩:=h;have sl:=yB;have bvl:=aT ilb;refine⟨_,(ag (bT 4 cg.nd (bg af))
  (ag (cA PassesOwn.never rfl (cS (by rfl) T.dH (aa (eQ aB T.bu (aa (pv 2) af)) af)) (jA 5 cg.nd)
  (aj (cA PassesOwn.never rfl (xi (by rfl) T.j9 (aa (pv 1) af)) (d6 (n:=2) rfl (aK (jA 6 cg.nd) (aK (jA 7 cg.nd) cZ)))
   (ag (bT 8 cg.nd (bJ (bO T) hr T.cC (aa (pv 0) (aa (ar aW (ar aW (ar dY ae (pv 6)) (pv 5)) ae) af))))
    (ag (bT 9 cg.nd (ar aO (bJ (bO T) hr T.cC (aa (pv 0) (aa (ar aW (pv 6) ae) af))) ae))
    (ag (bT 10 cg.nd (ar aO (bJ (bO T) hr T.cC (aa (pv 0) (aa (ar aW (ar aW (ar dY ae (pv 6)) (ar aP (pv 5) ae)) ae) af))) ae))
    (aj (aH (PW.pt (dr (ptr iK (ar aO (pv 8) ae) (pv 9)) (cR (ptr fi (pv 10) ae))))
    (aj (bM (b7 yC yE yD bz (pv 4) (aa (bj (aa (pv 5) (aa (pv 7) (aa (bJ (uD T) hr T.kP (aa (ar aP (pv 8) ae) (aa (bJ (sU T) hr T.jK (aa (pv 2) (aa (pv 3) (aa (pv 5) af)))) af))) af)))) af))))
    ax))))))))
  (aj (aq (pv 4))))),?_⟩
 ac_rfl;exists by show 0<=sizeLine;omega,?_
 intro D nD;have s2:au H (upd H D (.lst [])):=aR nD;have h2:upd H D (.lst []) D=some (.lst []):=aA;generalize upd H D (.lst [])=H2 at s2 h2 ⊢;exists bl,bv,rfl,.inl (aG.of (s2 _ _ hbl)),?_;rw[bvl];exists by omega,nofun,?_
 rw[show((S.aM.length:Int)).toNat=S.aM.length from by omega];refine gC (fun i σ H'=>∃(ns:List ((Int×Str)×List Item)) (us:List V),Lo [some (.int c),some (.ref pp),some (.ref bl),some ub,some (.ref D)] 6 σ/\au H H'/\H' D=some (.lst us)/\RL (iF D H') ns us/\Fd S ns/\(∀x∈ns,x.1.1<i)/\ns.length<=9*i)
  ⟨[],[],Lo.of rfl rfl,s2,h2,rfl,⟨by simp,by simp⟩,by simp,by simp⟩ ?_ ?_
 ·intro i σ H3 hi hh
  refine cY fun N kN0 kR0 _ _=>?_;obtain⟨ns,us,⟨e,rfl⟩,s3,h3,rl3,nok,nlt,nl⟩:=hh;exists pp,_,rfl,aG.of (s3 _ _ hpp),?_;refine tF (K:=K) (a:=pp) (xs:=S.players.map V.str) (fun j σ H'=>∃(ns:List ((Int×Str)×List Item)) (us:List V),Lo [some (.int c),some (.ref pp),some (.ref bl),some ub,some (.ref D),some (.int (0+(i:Int)))] 5 σ/\au H H'/\H' D=some (.lst us)/\RL (iF D H') ns us/\Fd S ns/\(∀x∈ns,x.1.1<i\/(x.1.1=i/\x.1.2∈S.players.take j))/\ns.length<=9*i+j)
   ⟨ns,us,Lo.of rfl rfl,s3,h3,rl3,nok,fun x hx=>.inl (nlt x hx),nofun⟩ (fun i σ H' _ h=>by obtain⟨_,_,_,z,_⟩:=h;exact aG.of (z _ _ hpp)) ?_ ?_
  ·intro j x σ H4 p H5 hx hh s45 hp5
   refine cY fun N kN1 kR1 _ _=>?_;obtain⟨ns,us,⟨e,rfl⟩,s4,h4,rl4,nok,nlt,nl⟩:=hh;rw[zJ] at hx;cases qr:S.players[j]? with
   | none=>rw[qr] at hx;cases hx
   | some pn=>
   rw[qr] at hx;simp only[Option.map_some,Option.some.injEq] at hx;subst hx;have jb:j<S.players.length:=(zw.mp qr).1;have s05:=s4.trans s45;have h45:=s45 _ _ h4;have rl5:RL (iF D H5) ns us:=rl4.imp fun x v z=>z.mono s45;have tk:S.players.take (j+1)=S.players.take j++[pn]:=dC qr;refine⟨p,_,rfl,dw.of hp5,rfl,?_⟩;refine⟨_,_,rfl,⟨_,_,rfl,⟨rfl,?_⟩⟩⟩;exists c,_,rfl,nofun,nofun,?_;have m0:0<=mixed c (97*(j:Int)+(0+(i:Int))+100):=zv _ ∅;have m1:mixed c (97*(j:Int)+(0+(i:Int))+100)<2147483399:=zr _ ∅;generalize mixed c (97*(j:Int)+(0+(i:Int))+100)=m at m0 m1;exists c,_,rfl,nofun,nofun,?_;left;refine⟨c,_,rfl,?_,?_,?_⟩
   ·have:=zV (a:=0+(i:Int)) (b:=4) nofun ∅;omega
   ·have:=zW (a:=0+(i:Int)) 4 nofun;omega
   generalize mixed c (31*(j:Int)+(0+(i:Int))/4+400)=m3;generalize mixed c ((j:Int)+90)=m2;left;refine eI (decide (m%6<=m2%5)&&decide (0<m3%3)) ?_ ?_ ?_
   ·intro c1 Z hz
    rw[c1,Bool.true_and] at hz;change hz
   ·intro c1;rw[c1,Bool.false_and]
   cases qv:(decide (m%6<=m2%5)&&decide (0<m3%3)) with
   | true=>
    exists .inl ⟨rfl,_,aG.of h45⟩,?_;exists bl,bv,S,ub,i,(by simp),s05 _ _ hbl,ilb.mono s05,iub.mono s05,hi,bok,fun p6 H6 s6 h6=>?_;refine⟨_,_,p6,rfl,h6,zV m0 ∅,?_,lok i hi,fun its p7 ws H7 iok s7 n7 h7 il7=>?_⟩
    ·have:=zW (a:=m) 6 m0;omega
    have s57:=s6.trans s7;have ne:p7≠D:=fun z=>by rw[z,s6 _ _ h45] at n7;cases n7
    exists nQ,?_;intros p8 H8 s8 h8;have s58:=s57.trans s8;have h48:=s58 _ _ h45;refine⟨D,us,_,rfl,rfl,h48,by have:=rl4.len;omega,?_⟩;left;have fr:((0+(i:Int),pn):Int×Str)∉ns.map (·.1):=fun z=>by
     obtain⟨y,hy,ey⟩:=zG.mp z;rcases nlt y hy with q | ⟨_,q2⟩
     ·rw[ey] at q;dsimp only at q;omega
     ·rw[ey] at q2
      dsimp only at q2;have nd:=List.Nodup.sublist (List.take_sublist (j+1) S.players) pnd;rw[tk,zR] at nd;exact nd.2.2 pn q2 pn (zy.mpr rfl) rfl
    refine⟨ns++[((0+(i:Int),pn),its)],_,Lo.of rfl rfl,bX nD (s05.trans s58),aA,?_,⟨?_,fun x hx=>?_⟩,fun x hx=>?_,by rw[zg];simp;omega⟩
    ·refine RL.snoc ?_ (rl5.imp fun x v z=>(z.mono s58).upd h48)
     exact iF.upd h48 ⟨p8,p7,ws,rfl,h8,s8 _ _ h7,il7.mono s8,ne⟩
    ·rw[zj,zR]
     exact⟨nok.1,by simp,fun x hx y hy e=>by
      have:y=(0+(i:Int),pn):=by simpa using hy
      rw[<-e] at this;exact fr (this▸hx)⟩
    ·rcases zF.mp hx with z | z
     ·exact nok.2 x z
     ·rw[zy.mp z]
      refine⟨by show 0<=0+(i:Int);omega,by show 0+(i:Int)<S.aM.length;omega,zB qr,?_⟩;show Fe its (S.len (0+(i:Int)).toNat);rw[show(0+(i:Int)).toNat=i from by omega];exact iok
    ·rcases zF.mp hx with z | z
     ·rcases nlt x z with q | ⟨q1,q2⟩
      ·exact .inl q
      ·exact .inr ⟨q1,by rw[tk];exact zI _ q2⟩
     ·rw[zy.mp z]
      exact .inr ⟨by show 0+(i:Int)=i;omega,by rw[tk];exact zH _ (zy.mpr rfl)⟩
   | false=>
    left;refine⟨ns,us,Lo.of rfl rfl,s05,h45,rl5,nok,fun x hx=>?_,nofun⟩;rcases nlt x hx with z | ⟨z1,z2⟩
    ·exact .inl z
    ·exact .inr ⟨z1,by rw[tk];exact zI _ z2⟩
  ·rintro σ H4 ⟨ns,us,⟨e,rfl⟩,s4,h4,rl4,nok,nlt,nl⟩
   rw[za] at nlt nl;left;refine⟨ns,us,Lo.of rfl rfl,s4,h4,rl4,nok,fun x hx=>?_,nofun⟩;rcases nlt x hx with z | ⟨z1,z2⟩
   ·omega
   ·omega
 ·rintro σ H3 ⟨ns,us,⟨e,rfl⟩,s3,h3,rl3,nok,nlt,nl⟩
  change kk ns D us H3 nok nofun s3 h3 rl3
def SK (ins:List (Str×(Int×Int)×(Int×Int))):Prop:=ins.length<=3/\Bh (ins.map (·.1))/\∀x∈ins,N3 x.2.1/\-12<=x.2.1.1/\x.2.1.1<=12/\Lm.Rd x.2.2/\x.2.2.1<10000/\x.2.2.2<10000
def HQ (n:Int):N3 (n%25-12,7*(n%25-12)%12+12*(n/25%5-2))/\-12<=n%25-12/\n%25-12<=12:=by
 have a:=zv n (b:=25) ∅;have b:=zr n (b:=25) ∅;have c:=zv (n/25) (b:=5) ∅;have d:=zr (n/25) (b:=5) ∅;unfold N3;dsimp only;omega
def lJ:Sp:=fun vs H Q _=>∃(c:Int),vs=[.int c]/\∀(ins:List (Str×(Int×Int)×(Int×Int))) D us H',SK ins->au H H'->H' D=some (.lst us)->ay H' (ins.map eL) us->Q (.ref D) H'
def bf:aC ["_law_cell","_law_m","_law_instruments","_law_k","_law_name","_law_n","_law_df","_law_turn"] ["_law_cell"] (ao gr):=dy
def lV:cX P w base 2 T.fm lJ:=by
 nomatch T.fm,bf
 obtain⟨c,rfl,kk⟩:=h;have sl:=yB;refine⟨_,(ag (bT 1 bf.nd (bJ (bO T) hr T.cC (aa (pv 0) (aa ae af))))
  (ag (bT 2 bf.nd (bg af))
  (ag (cA PassesOwn.never rfl (xi (by rfl) T.j9 (aa (bJ (fc T) hr T.eJ (aa (ar aP (pv 1) ae) (aa (ar aO (pv 1) ae) af))) af)) (d6 (n:=2) rfl (aK (jA 3 bf.nd) (aK (jA 4 bf.nd) cZ)))
  (ag (bT 5 bf.nd (bJ (bO T) hr T.cC (aa (pv 0) (aa (ar aW (pv 3) ae) af))))
   (ag (bT 6 bf.nd (ar iw (ar aO (pv 5) ae) ae))
   (ag (bT 7 bf.nd (bj (aa (pv 6) (aa (ar aW (ar aO (ar dY ae (pv 6)) ae) (ar dY ae (ar iw (ar aO (ar aP (pv 5) ae) ae) ae))) af))))
   (aj (bM (b7 yC yE yD bz (pv 2) (aa (bj (aa (pv 4) (aa (pv 7) (aa (bJ (f9 T) hr T.fP (aa (ar aO (ar aP (pv 5) ae) ae) (aa (fL (bg (aa ae (aa ae (aa ae (aa ae (aa ae af)))))) (ar aO (ar aP (pv 5) ae) ae)) af))) af)))) af))))))))
  (aj (aq (pv 2)))))),?_⟩
 ac_rfl;exists c,8,rfl,nofun,nofun,?_;have m0:0<=mixed c 8:=zv _ ∅;have m1:mixed c 8<2147483399:=zr _ ∅;generalize mixed c 8=m at m0 m1;have a0:0<=m%4:=zv _ ∅;have a1:m%4<4:=zr _ ∅;exists by show 0<=sizeLine;omega,?_
 intro D nD;have s2:au H (upd H D (.lst [])):=aR nD;have h2:upd H D (.lst []) D=some (.lst []):=aA;generalize upd H D (.lst [])=H2 at s2 h2 ⊢;left;refine⟨_,_,rfl,zV m0 ∅,?_,a0,nofun,fun nms pn H3 nl nok s3 h3=>?_⟩
 ·have:=zW (a:=m) 4 m0;omega
 exists pn,_,rfl,aG.of h3,?_;have nl3:nms.length<=3:=nofun
 refine tF (K:=K) (a:=pn) (xs:=nms.map V.str) (fun i σ H'=>∃(ins:List (Str×(Int×Int)×(Int×Int))) (us:List V),Lo [some (.int c),some (.int m),some (.ref D)] 5 σ/\au H H'/\H' pn=some (.lst (nms.map V.str))/\H' D=some (.lst us)/\ay H' (ins.map eL) us/\ins.map (·.1)=nms.take i/\
  ∀x∈ins,N3 x.2.1/\-12<=x.2.1.1/\x.2.1.1<=12/\Lm.Rd x.2.2/\x.2.2.1<10000/\x.2.2.2<10000)
  ⟨[],[],Lo.of rfl rfl,s2.trans s3,h3,s3 _ _ h2,cH,rfl,by simp⟩ (fun i σ H' _ h=>by obtain⟨_,_,_,_,z,_⟩:=h;exact aG.of z) ?_ ?_
 ·intro i x σ H4 p H5 hx hh s45 hp5
  refine cY fun N kN0 kR0 _ _=>?_;obtain⟨ins,us,⟨e,rfl⟩,s4,hpn4,h4,il4,ek,iok⟩:=hh;rw[zJ] at hx;cases qr:nms[i]? with
  | none=>rw[qr] at hx;cases hx
  | some nm=>
  rw[qr] at hx;simp only[Option.map_some,Option.some.injEq] at hx;subst hx;have ib:i<nms.length:=(zw.mp qr).1;have h45:=s45 _ _ h4;have tk:nms.take (i+1)=nms.take i++[nm]:=dC qr;have nepn:pn≠D:=fun z=>by
   have q:=h3;rw[z,s3 _ _ h2] at q;have e:([]:List V)=nms.map V.str:=HO.lst.inj (yj q);have:nms.length=0:=by rw[<-za (f:=V.str),<-e];rfl
   omega
  refine⟨p,_,rfl,dw.of hp5,rfl,?_⟩;refine⟨_,_,rfl,⟨_,_,rfl,⟨rfl,?_⟩⟩⟩;exists c,_,rfl,nofun,nofun,?_;have n0:0<=mixed c ((i:Int)+530):=zv _ ∅;have n1:mixed c ((i:Int)+530)<2147483399:=zr _ ∅;generalize mixed c ((i:Int)+530)=n at n0 n1;exists cx,?_;intros p6 H6 s6 h6;have h46:=s6 _ _ h45;exists .inl ⟨rfl,_,aG.of h46⟩,?_;exists by show 5<=sizeLine;omega,?_
  intros p7 H7 s7 h7;have g0:0<=n/1125%5:=zv _ ∅;have g1:n/1125%5<5:=zr _ ∅;have t0:0<=n/125%9:=zv _ ∅;have t1:n/125%9<9:=zr _ ∅;obtain⟨jj,hjj⟩:∃j:Nat,n/1125%5=(j:Int):=⟨(n/1125%5).toNat,nofun⟩
  obtain⟨z,hz,z0,z1⟩:∃z:Int,[V.int 1,V.int 2,V.int 4,V.int 8,V.int 3][jj]?=some (.int z)/\0<z/\z<=8:=by
   have:jj<5:=nofun
   match jj,this with
   | 0,_=>exact⟨1,rfl,∅,∅⟩
   | 1,_=>exact⟨2,rfl,∅,∅⟩
   | 2,_=>exact⟨4,rfl,∅,∅⟩
   | 3,_=>exact⟨8,rfl,∅,∅⟩
   | 4,_=>exact⟨3,rfl,∅,∅⟩
  exists p7,_,n/1125%5,.int z,rfl,rfl,aG.of h7,(by rw[hjj];exact bx hz),?_;exists _,_,rfl,t0,z0,(dq (n:=10) nofun nofun).mono ∅,fun p8 H8 s8 h8=>?_;exists nQ,?_;intros p9 H9 s9 h9;have s59:=((s6.trans s7).trans s8).trans s9;have h49:=s59 _ _ h45;refine⟨D,us,_,rfl,rfl,h49,?_,?_⟩
  ·have e1:=aT il4
   have e2:ins.length=(nms.take i).length:=by rw[<-ek,za]
   rw[zP] at e2;omega
  left;have nt:cT (H9 D):=by rw[h49];exact fun _ z=>by cases z
  have rb:=lP (t:=n/125%9) z0;have rle:=yX (t:=n/125%9) (b:=z) t0;obtain⟨td1,td2,td3⟩:=HQ n;have ix:Is H9 (eL (nm,(n%25-12,7*(n%25-12)%12+12*(n/25%5-2)),red (n/125%9) z)) (.ref p9):=cB h9 (aL d9 (aL (iV (((s7.trans s8).trans s9) _ _ h6)) (aL (iV (s9 _ _ h8)) cH)));refine⟨ins++[(nm,(n%25-12,7*(n%25-12)%12+12*(n/25%5-2)),red (n/125%9) z)],_,Lo.of rfl rfl,bX nD ((s4.trans s45).trans s59),by rw[aD nepn];exact s59 _ _ (s45 _ _ hpn4),aA,?_,?_,fun x hx=>?_⟩
  ·rw[zj]
   exact cW (Is.upd nt ix) (ay.upd nt ((il4.mono s45).mono s59))
  ·rw[zj,ek,tk];rfl
  ·rcases zF.mp hx with y | y
   ·exact iok x y
   ·rw[zy.mp y]
    obtain⟨_,_,_,_,_,r5⟩:=rb;exact⟨td1,td2,td3,Lm.Rd.of t0 z0,by show(red (n/125%9) z).1<10000;omega,by show(red (n/125%9) z).2<10000;omega⟩
 ·rintro σ H4 ⟨ins,us,⟨e,rfl⟩,s4,hpn4,h4,il4,ek,iok⟩
  rw[za,zM] at ek;change kk ins D us H4 ⟨by rw[<-za (f:=fun x:Str×(Int×Int)×(Int×Int)=>x.1),ek];exact nl3,by rw[ek];exact nok,iok⟩ s4 h4 il4
inductive pF (vs:List V) (H:Hp) (Q:VK) (E:XK):Prop
 | mk (q:Addr) (x:Int×Int) (_:vs=[.ref q]) (_:H q=some (mr x)) (_:0<=x.1) (_:x.1<10000) (_:0<x.2) (_:x.2<10000) (_:Q (.str (iU x)) H)
def pH:aC ["_law_length"] ["_law_length"] (ao jw):=dy
def dU:cX P w base 1 T.dn pF:=by
 nomatch T.dn,pH
 obtain⟨q,x,rfl,hq,x1,x2,x3,x4,kk⟩:=h;have sl:=yB;have a:=bq (n:=x.1) nofun x2;have b:=bq (n:=x.2) nofun x4;have na:=bK (n:=x.1) nofun x2;have nb:=bK (n:=x.2) nofun x4;have l1:("/": Str).length=1:=rfl;refine⟨_,(ag (aH (ptr dg (bR (pv 0) ae) ae)
  (aj (aq (ng aU T.fj (aa (bR (pv 0) ae) af))))
  ax)
  (aj (aq (ar bS (ar bS (ng aU T.fj (aa (bR (pv 0) ae) af)) aJ) (ng aU T.fj (aa (bR (pv 0) ae) af)))))),?_⟩
 ac_rfl;left
 by_cases c:x.2=1
 ·refine ck (by rw[c];rfl) ?_
  exists na,?_;left;unfold iU at kk;rw[if_pos c] at kk;exact kk
 ·refine cE (zd fun z=>c (V.int.inj z)) ?_
  unfold iU at kk;rw[if_neg c] at kk;exists na,?_;exists by show(dec x.1).length+_<=_;omega,?_
  exists nb,?_;exists by show(dec x.1 ++"/").length+(dec x.2).length<=_;rw[len_app];omega,?_
  exact kk
inductive jQ (vs:List V) (H:Hp) (Q:VK) (E:XK):Prop
 | mk (v:V) (it:Item) (_:vs=[v]) (_:Is H (eZ it) v) (_:LK it) (_:Q (.str (qX it)) H)
def Ni {H:Hp} {it:Item} {v:V} (h:Is H (eZ it) v):∃a q b,v=.ref a/\H a=some (.tup [q,.ref b])/\Is H (dO dL it.1) q/\H b=some (mr it.2):=by
 unfold eZ Is at h;obtain⟨a,vs,rfl,ha,hl⟩:=h;unfold ay at hl;obtain⟨v1,r1,rfl,h1,hl⟩:=hl;unfold ay at hl;obtain⟨v2,r2,rfl,h2,hl⟩:=hl;unfold ay at hl;subst hl;cases fk (o:=some it.2) h2 with
 | ref hb=>exact⟨a,v1,_,rfl,ha,h1,hb⟩
def rT:aC ["_law_item"] ["_law_item"] (ao kY):=dy
def sV:cX P w base 2 T.jL jQ:=by
 nomatch T.jL,rT
 obtain⟨v,⟨o,x⟩,rfl,iv,iok,kk⟩:=h;have sl:=yB;obtain⟨a,q,b,rfl,ha,iq,hb⟩:=Ni iv;obtain⟨⟨hr',h1,h2,h3⟩,hq⟩:=id iok;obtain⟨_,p2,_⟩:=hr'.pos;have lx:=lg (x:=x) (by have:=h1;dsimp only at this;omega) h2 (by have:=p2;dsimp only at this;omega) h3;dsimp only at h1 h2 h3 p2 hq hb iq;refine⟨_,(ag (aH (bB (cG (bR (pv 0) ae)))
  (aj (aq (ar bS aJ (bJ (dU T) hr T.dn (aa (bR (pv 0) ae) af)))))
  ax)
  (aj (aq (ar bS (ar bS (ar bS (ar bS (ng aU T.fj (aa (bR (bR (pv 0) ae) ae) af)) aJ) (ng aU T.fj (aa (bR (bR (pv 0) ae) ae) af))) aJ) (bJ (dU T) hr T.dn (aa (bR (pv 0) ae) af)))))),?_⟩
 ac_rfl;left;cases o with
 | none=>
  unfold dO Is at iq;subst iq;exists b,x,rfl,hb,nofun,h2,p2,h3,?_;have l2:("r:": Str).length=2:=rfl;refine⟨_,_,rfl,rfl,nofun,?_⟩;exact kk
 | some pq=>
  obtain⟨q1,q2,q3,q4,_⟩:=hq pq rfl;have la:=bq (n:=pq.1) nofun nofun;have lb:=bq (n:=pq.2) nofun nofun;have na:=bK (n:=pq.1) nofun nofun;have nb:=bK (n:=pq.2) nofun nofun;cases fk (o:=some pq) iq with
  | ref hpq=>
   have l1:(":": Str).length=1:=rfl;exists na,?_;exists by show(dec pq.1).length+_<=_;omega,?_
   exists nb,?_;exists by show(dec pq.1 ++":").length+(dec pq.2).length<=_;rw[len_app];omega,?_
   exists by show(dec pq.1 ++":" ++ dec pq.2).length+_<=_;rw[len_app,len_app];omega,?_
   exists b,x,rfl,hb,nofun,h2,p2,h3,?_;refine⟨_,_,rfl,rfl,by show(dec pq.1 ++":" ++ dec pq.2 ++":").length+_<=_;rw[len_app,len_app,len_app];omega,?_⟩;exact kk
inductive iH (vs:List V) (H:Hp) (Q:VK) (E:XK):Prop
 | mk (v:V) (r:Rep) (_:vs=[v]) (_:Is H (jO r) v) (_:LH r) (_:∀H',au H H'->Q (.str (rowOf (.rep r))) H')
noncomputable def w4 (r:Rep):List Str:=["repeat",dec r.first,dec r.last,dec r.times]
def dR:aC ["_law_repeat","_law_words","_law_begin","_law_passes"] ["_law_repeat"] (ao jt):=dy
def pK:cX P w base 1 T.gJ iH:=by
 nomatch T.gJ,dR
 obtain⟨v,r,rfl,iv,⟨⟨f1,f2,f3,f4,f5⟩,el,pl⟩,kk⟩:=h;have sl:=yB;obtain⟨a,ep,rfl,ha,ie⟩:=fY iv;obtain⟨ep',evs,e0,hep,ile⟩:∃ep' evs,V.ref ep=.ref ep'/\H ep'=some (.tup evs)/\ay H (r.ends.map nu) evs:=by unfold Is at ie;exact ie
 cases e0;have evl:=aT ile;have n1:=bK (n:=r.first) (by have:=f1.1;omega) (by have:=f1.2;omega);have n2:=bK (n:=r.last) (by have:=f2.1;omega) (by have:=f2.2;omega);have n3:=bK (n:=r.times) nofun nofun;refine⟨_,(ag (bT 1 dR.nd (bg (aa aJ (aa (ng aU T.fj (aa (bR (pv 0) ae) af)) (aa (ng aU T.fj (aa (bR (pv 0) ae) af)) (aa (ng aU T.fj (aa (bR (pv 0) ae) af)) af))))))
  (ag (cA PassesOwn.never rfl (kA (bR (pv 0) ae)) (d6 (n:=2) rfl (aK (jA 2 dR.nd) (aK (jA 3 dR.nd) cZ)))
  (aj (bM (b7 yC yE yD bz (pv 1) (aa (ar bS (ar bS (ng aU T.fj (aa (pv 2) af)) aJ) (b7 yF yH yG gQ aJ (aa (pI (ts:=["_law_one"]) (ys:=[]) (js:=[]) (te:=(Kr R5 (bC (aX 0) eK))) (kA (pv 3)) (gy 0) bw (ng aU T.fj (aa (pv 0) af))) af))) af)))))
  (aj (aq (b7 yF yH yG gQ aJ (aa (pv 1) af)))))),?_⟩
 ac_rfl;exists n1,?_;exists n2,?_;exists n3,?_;exists by show 4<=sizeLine;omega,?_
 intro W nW;generalize hU:upd H W _=H2;have s2:au H H2:=by rw[<-hU];exact aR nW
 have h2:H2 W=some (.lst ((w4 r).map V.str)):=by rw[<-hU];exact aA
 clear hU;have ha2:=s2 _ _ ha;exists⟨_,dw.of (s2 _ _ hep)⟩,?_;refine JY (K:=K) (a:=ep) (xs:=evs) (fun i σ H'=>∃(v2 v3:Option V),σ=[some (.ref a),some (.ref W),v2,v3]/\au H H'/\H' W=some (.lst ((w4 r++(r.ends.take i).map pM).map V.str))) ⟨none,none,rfl,s2,by rw[List.take_zero,ym,zU];exact h2⟩ (fun i σ H' _ h=>by obtain⟨_,_,_,z,_⟩:=h;exact dw.of (z _ _ hep)) ?_ ?_
 ·intro i x σ H3 hx hh
  refine cY fun N kN0 kR0 _ _=>?_;obtain⟨v2,v3,rfl,s3,h3⟩:=hh;obtain⟨e,he,ie⟩:=dZ ile hx;obtain⟨b,q,rfl,hb,hq⟩:=uP ie;have eo:=f5 e (zB he);have pe:=pl e (zB he);have hb3:=s3 _ _ hb;have tk:r.ends.take (i+1)=r.ends.take i++[e]:=dC he;have ib:i<r.ends.length:=(zw.mp he).1;have nb:=bK (n:=e.1) (by have:=eo.1;omega) (by have:=eo.2.1;omega);have lb:=bq (n:=e.1) (by have:=eo.1;omega) (by have:=eo.2.1;omega);refine⟨b,_,rfl,dw.of hb3,rfl,?_⟩;refine⟨_,_,rfl,⟨_,_,rfl,⟨rfl,?_⟩⟩⟩;exists .inl ⟨rfl,_,aG.of h3⟩,?_;exists nb,?_;exists by show(dec e.1).length+(":": Str).length<=_;have:(":": Str).length=1:=rfl;omega,?_
  exists⟨_,dw.of (s3 _ _ hq)⟩,?_;refine gG (enc:=V.int) (ws:=e.2) (fun z=>.str (dec z)) (fun σ=>∃v,σ=[v]) nofun (s3 _ _ hq) ⟨none,rfl⟩ ?_ ?_
  ·rintro z σ H4 R hz s4 ⟨_,rfl⟩ rr
   have:=eo.2.2.2 z hz;exists bK nofun nofun,?_;exact rr _ _ _ (au.refl _) d9 ⟨_,rfl⟩
  ·intro D vs H4 s4 hD il
   have e1:e.2.map (fun z=>Dt.str (dec z))=(e.2.map dec).map Dt.str:=by rw[zA];rfl
   rw[e1] at il;rw[dI il] at hD;have l5:∀z∈e.2.map dec,z.length<=5:=fun z hz=>by
    obtain⟨p,hp,rfl⟩:=zG.mp hz;have:=eo.2.2.2 p hp;exact bq nofun nofun
   have l9:(e.2.map dec).length<=9:=by rw[za];exact pe
   have sb:=qy (sep:=",") l5;have jb:=Ao (sep:=",") l5;have mb:(e.2.map dec).length*(5+(",": Str).length)<=9*(5+1):=Nat.mul_le_mul l9 (zk _);refine⟨",",D,_,rfl,rfl,aG.of hD,zL sb (zL mb nofun),?_⟩;refine⟨_,_,rfl,rfl,?_,?_⟩
   ·show(dec e.1 ++":").length+(Str.join "," (e.2.map dec)).length<=sizeLine
    rw[len_app];have:(":": Str).length=1:=rfl;omega
   have h34:=s4 _ _ h3;have s04:=s3.trans s4;left;refine⟨W,_,_,rfl,rfl,h34,?_,?_⟩
   ·rw[za,zg,za,zP]
    show 4+_<_;omega
   exists _,_,rfl,bX nW s04,?_;have ew:(w4 r++(r.ends.take (i+1)).map pM).map V.str=(w4 r++(r.ends.take i).map pM).map V.str++[V.str (pM e)]:=by
    rw[tk,zj (f:=pM),<-zE,zj (f:=V.str)];rfl
   rw[aA,ew];rfl
 ·rintro σ H3 ⟨v2,v3,rfl,s3,h3⟩
  rw[evl,zM] at h3;left;have ll:∀z∈w4 r++r.ends.map pM,z.length<=60:=fun z hz=>by
   rcases zF.mp hz with y | y
   ·unfold w4 at y
    simp only[zC,zD,or_false] at y;rcases y with rfl | rfl | rfl | rfl
    ·decide
    ·have:=bq (n:=r.first) (by have:=f1.1;omega) (by have:=f1.2;omega);omega
    ·have:=bq (n:=r.last) (by have:=f2.1;omega) (by have:=f2.2;omega);omega
    ·have:=bq (n:=r.times) nofun nofun;omega
   ·obtain⟨e,he,rfl⟩:=zG.mp y
    exact GO (f5 e he) (pl e he)
  have sb:=qy (sep:=" ") ll;refine⟨" ",W,_,rfl,rfl,aG.of h3,?_,?_⟩
  ·have l4:(w4 r++r.ends.map pM).length<=13:=by rw[zg,za];show 4+_<=13;omega
   exact zL sb (zL (Nat.mul_le_mul l4 (zk _)) (by show 13*(60+1)<=sizeLine;omega))
  exact kk _ s3
def Uy {c:Bool} {T1 T2:VK->Prop} {Z:VK} {H:Hp} (v:V) (h1:c=true->∀Z:VK,Z v H->T1 Z) (h2:c=false->∀Z:VK,Z v H->T2 Z) (hz:Z v H):if c=true then T1 Z else T2 Z:=by
 cases c with
 | true=>rw[if_pos rfl];exact h1 rfl Z hz
 | false=>rw[if_neg (by simp)];exact h2 rfl Z hz
def SI (j:Jump):Prop:=P0 (.cj j)
noncomputable def Av (S:cD):List Told:=S.repeats.map .rep++S.cj.toList.map .cj
inductive rO (vs:List V) (H:Hp) (Q:VK) (E:XK):Prop
 | mk (p:Addr) (S:cD) (_:vs=[.ref p]) (_:tU H p S) (_:(∀r∈S.repeats,LH r)) (_:S.repeats.length<=1000) (_:(∀j,S.cj=some j->SI j)) (_:∀D H',au H H'->H D=none->H' D=some (.lst (((Av S).map rowOf).map V.str))->Q (.ref D) H')
def Nq {H:Hp} {j:Jump} {v:V} (h:Is H (jG j) v):∃a c,v=.ref a/\H a=some (.tup [.int j.xn,.int j.Bj,.int j.dz,c])/\Is H (dO .int j.gH) c:=by
 unfold jG Is at h;obtain⟨a,vs,rfl,ha,hl⟩:=h;unfold ay at hl;obtain⟨v1,r1,rfl,h1,hl⟩:=hl;unfold ay at hl;obtain⟨v2,r2,rfl,h2,hl⟩:=hl;unfold ay at hl;obtain⟨v3,r3,rfl,h3,hl⟩:=hl;unfold ay at hl;obtain⟨v4,r4,rfl,h4,hl⟩:=hl;unfold ay at hl;subst hl;unfold Is at h1 h2 h3;subst h1 h2 h3;exact⟨a,v4,rfl,ha,h4⟩
theorem hV {H:Hp} {α:Type} {d:α->Dt}:∀{xs:List α} {vs:List V},ay H (xs.map d) vs->∃ps:List (α×V),ps.map (·.1)=xs/\ps.map (·.2)=vs/\∀z∈ps,Is H (d z.1) z.2
 | [],_,h=>⟨[],rfl,by unfold ay at h;rw[h];rfl,by simp⟩
 | x::xs,_,h=>by
  rw[zh] at h;unfold ay at h;obtain⟨v,r,rfl,h1,h2⟩:=h;obtain⟨ps,e1,e2,e3⟩:=hV h2;refine⟨(x,v)::ps,by rw[zh,e1],by rw[zh,e2],fun z hz=>?_⟩;rcases zC.mp hz with rfl | hz
  ·exact h1
  ·exact e3 z hz
def fX:aC ["_law_s","_law_rows","_law_coda"] ["_law_s"] (ao kZ):=dy
def sW:cX P w base 2 T.jM rO:=by
 nomatch T.jM,fX
 obtain⟨p,S,rfl,la,rok,rl3,jok,kk⟩:=h;have sl:=yB;obtain⟨pl,il,sl',bl,hl,nl,rl,ub,jm,iv,sv,bv,hv,nv,rv,h1,h2,h3,h4,h5,h6,h7,h8,⟨h9,ilr⟩,hj⟩:=la.at';obtain⟨ps,e1,e2,e3⟩:=hV ilr;have pln:ps.length=S.repeats.length:=by rw[<-e1,za]
 refine⟨_,(ag (M3 (i:=1) (ts:=["_law_repeat"]) (ys:=[]) (js:=[]) (te:=(gn iH [] E0 (bC (aX 0) eK))) (bc (bR (pv 0) ae)) (gy 0) bw (bJ (pK T) hr T.gJ (aa (pv 0) af)) fX.nd)
  (ag (aH (bB (gN (bR (pv 0) ae)))
  (ag (bT 2 fX.nd (F4 (bB (cG (bR (bR (pv 0) ae) ae))) aJ (ng aU T.fj (aa (bR (bR (pv 0) ae) ae) af))))
   (aj (bM (b7 yC yE yD bz (pv 1) (aa (b7 yF yH yG gQ aJ (aa (bg (aa aJ (aa (ng aU T.fj (aa (bR (bR (pv 0) ae) ae) af)) (aa (ng aU T.fj (aa (bR (bR (pv 0) ae) ae) af)) (aa (ng aU T.fj (aa (bR (bR (pv 0) ae) ae) af)) (aa (pv 2) af)))))) af)) af)))))
  ax)
  (aj (aq (pv 1))))),?_⟩
 ac_rfl;exists⟨_,aG.of h9⟩,?_;refine eA (enc:=fun q:Rep×V=>q.2) (ws:=ps) (fun q=>.str (rowOf (.rep q.1))) (fun σ=>∃v,σ=[v]) nofun (by rw[e2];exact aG.of h9) ⟨none,rfl⟩ ?_ ?_
 ·rintro z σ H1 R hz s1 ⟨_,rfl⟩ rr
  have zin:z.1∈S.repeats:=by rw[<-e1];exact zO hz
  change⟨z.2,z.1,rfl,(e3 z hz).mono s1,rok _ zin,fun H2 s2=>rr _ _ _ s2 d9 ⟨_,rfl⟩⟩
 ·intro D vs H1 s1 nD hD ilD
  have ee:ps.map (fun q:Rep×V=>Dt.str (rowOf (.rep q.1)))=((S.repeats.map Told.rep).map rowOf).map Dt.str:=by rw[<-e1,zA,zA,zA];rfl
  rw[ee] at ilD;rw[dI ilD] at hD;have h11:=s1 _ _ h1;left;cases q:S.cj with
  | none=>
   rw[q] at hj;unfold dO Is at hj;subst hj;left;refine kk D H1 s1 nD ?_;unfold Av;rw[q,hD];simp
  | some j=>
   rw[q] at hj;obtain⟨ja,jc,rfl,hja,ijc⟩:=Nq hj;obtain⟨j1,j2,j3,j4⟩:=jok j q;have hja1:=s1 _ _ hja;have n1:=bK (n:=j.xn) (by have:=j1.1;omega) (by have:=j1.2;omega);have n2:=bK (n:=j.Bj) (by have:=j2.1;omega) (by have:=j2.2;omega);have n3:=bK (n:=j.dz) (by have:=j3.1;omega) (by have:=j3.2;omega);have cl:(ctxt j.gH).length<=5:=by
    unfold ctxt;cases qc:j.gH with
    | none=>decide
    | some m=>have:=j4 m qc;exact bq (by have:=this.1;omega) (by have:=this.2;omega)
   left;refine Uy (H:=H1) (.str (ctxt j.gH)) ?_ ?_ ?_
   ·intro c Z hz
    have e:jc=.bH:=yd c;cases qc:j.gH with
    | none=>rw[qc] at hz;change hz
    | some m=>rw[qc] at ijc;unfold dO Is at ijc;rw[ijc] at e;cases e
   ·intro c Z hz
    cases qc:j.gH with
    | none=>rw[qc] at ijc;unfold dO Is at ijc;rw[ijc] at c;simp at c
    | some m=>
     rw[qc] at ijc hz;unfold dO Is at ijc;subst ijc;change⟨bK (by have:=(j4 m qc).1;omega) (by have:=(j4 m qc).2;omega),hz⟩
   exists .inl ⟨rfl,_,aG.of hD⟩,?_;exists n1,?_;exists n2,?_;exists n3,?_;exists by show 5<=sizeLine;omega,?_
   intros p5 H5 s5 h5;have ll:∀z∈Sc.wordsOf (.cj j),z.length<=5:=fun z hz=>by
    simp only[Sc.wordsOf,zC,zD,or_false] at hz;rcases hz with rfl | rfl | rfl | rfl | rfl
    ·decide
    ·exact bq (by have:=j1.1;omega) (by have:=j1.2;omega)
    ·exact bq (by have:=j2.1;omega) (by have:=j2.2;omega)
    ·exact bq (by have:=j3.1;omega) (by have:=j3.2;omega)
    ·exact cl
   have sb:=qy (sep:=" ") ll;refine⟨" ",p5,Sc.wordsOf (.cj j),rfl,rfl,aG.of h5,zL sb (by show 5*(5+1)<=sizeLine;omega),?_⟩;exists D,_,_,rfl,rfl,s5 _ _ hD,by rw[za,za,za];omega,?_
   left;refine kk D _ (bX nD (s1.trans s5)) nD ?_;unfold Av;rw[aA,q,zj,zj];rfl
def OX {H:Hp} {x:Str×(Int×Int)×(Int×Int)} {v:V} (h:Is H (eL x) v):∃a t l,v=.ref a/\H a=some (.tup [.str x.1,t,l])/\Is H (dL x.2.1) t/\Is H (dL x.2.2) l:=by
 unfold eL Is at h;obtain⟨a,vs,rfl,ha,hl⟩:=h;unfold ay at hl;obtain⟨v1,r1,rfl,h1,hl⟩:=hl;unfold ay at hl;obtain⟨v2,r2,rfl,h2,hl⟩:=hl;unfold ay at hl;obtain⟨v3,r3,rfl,h3,hl⟩:=hl;unfold ay at hl;subst hl;unfold Is at h1;subst h1;exact⟨a,v2,v3,rfl,ha,h2,h3⟩
def KS {H:Hp} {x:Str×List Str} {v:V} (h:Is H (gF x) v):∃a q,v=.ref a/\H a=some (.tup [.str x.1,.ref q])/\H q=some (.tup (x.2.map V.str)):=by
 unfold gF Is at h;obtain⟨a,vs,rfl,ha,hl⟩:=h;unfold ay at hl;obtain⟨v1,r1,rfl,h1,hl⟩:=hl;unfold ay at hl;obtain⟨v2,r2,rfl,h2,hl⟩:=hl;unfold ay at hl;subst hl;unfold Is at h1;subst h1;unfold m8 Is at h2;obtain⟨q,us,rfl,hq,hl⟩:=h2;rw[dI hl] at hq;exact⟨a,q,rfl,ha,hq⟩
def QX {H:Hp} {x:Int×Str} {v:V} (h:Is H (J5 x) v):∃a,v=.ref a/\H a=some (.tup [.int x.1,.str x.2]):=by
 unfold J5 Is at h;obtain⟨a,vs,rfl,ha,hl⟩:=h;unfold ay at hl;obtain⟨v1,r1,rfl,h1,hl⟩:=hl;unfold ay at hl;obtain⟨v2,r2,rfl,h2,hl⟩:=hl;unfold ay at hl;subst hl;unfold Is at h1 h2;subst h1 h2;exact⟨a,rfl,ha⟩
def TD (t:Told):Prop:=P0 t/\(Sc.wordsOf t).length<=100/\∀w∈Sc.wordsOf t,w.length<=100
def xE {t:Told} (h:TD t):((Sc.wordsOf t).map (fun z:Str=>z.length+(" ": Str).length)).sum<=sizeLine:=by
 have sl:=yB;have a:=qy (sep:=" ") h.2.2;have b:(Sc.wordsOf t).length*(100+(" ": Str).length)<=100*(100+(" ": Str).length):=Nat.mul_le_mul h.2.1 (zk _);exact zL a (zL b (by show 100*(100+1)<=sizeLine;omega))
def Ik (n:Str):("player ": Str)++n=rowOf (.bD n):=rfl
noncomputable def rws (ts:List Told):List V:=(ts.map rowOf).map V.str
def lN (a b:List Told):rws (a++b)=rws a++rws b:=by unfold rws;rw[zj,zj]
def lM (a:List Told):(rws a).length=a.length:=by unfold rws;rw[za,za]
inductive qA (vs:List V) (H:Hp) (Q:VK) (E:XK):Prop
 | mk (p:Addr) (S:cD) (_:vs=[.ref p]) (_:tU H p S) (_:(∀t∈eU S,TD t)) (_:(eU S).length<=1000000) (_:(∀r∈S.repeats,LH r)) (_:S.repeats.length<=1000) (_:∀D H',au H H'->H D=none->H' D=some (.lst (rws (eU S)))->Q (.ref D) H')
def aN:aC ["_law_s","_law_rows","_law_name","_law_turn","_law_time","_law_metre","_law_key","_law_marks","_law_player","_law_row","_law_bar","_law_items"] ["_law_s"] (ao jU):=dy
def qV:cX P w base 3 T.iD qA:=by
 nomatch T.iD,aN
 obtain⟨p,S,rfl,la,tok,tl,rok,rln3,kk⟩:=h;have sl:=yB;obtain⟨pl,il,st,bl,hl,nl,rl,ub,jm,iv,sv,bv,hv,nv,rv,h1,h2,⟨h3,ili⟩,⟨h4,ils⟩,⟨h5,ilb⟩,h6,⟨h7,rlh⟩,⟨h8,rln⟩,_,_⟩:=la.at';have mem:∀a b c:List Told,eU S=a++b++c->∀t∈b,TD t:=fun a b c e t ht=>tok t (by rw[e];simp[ht]);have tlen:∀a b:List Told,eU S=a++b->a.length<=1000000:=fun a b e=>by rw[e,zg] at tl;omega
 obtain⟨fl,fli,fls,flb,fln⟩:S.players.length<=1000000/\S.players.length+S.ak.length<=1000000/\S.players.length+S.ak.length+S.aI.length<=1000000/\S.players.length+S.ak.length+S.aI.length+S.aM.length<=1000000/\S.aE.length<=1000000:=by
  unfold eU at tl;simp only[zg,za] at tl;omega
 refine⟨_,(ag (M3 (i:=1) (ts:=["_law_name"]) (ys:=[]) (js:=[]) (te:=(fH (fun x y H Q=>∃i j,x=.str i/\y=.str j/\i.length+j.length<=sizeLine/\Q (.str (i++j)) H) (tC (.str "player ")) (aX 0))) (bc (bR (pv 0) ae)) (gy 0) bw (ar bS aJ (pv 0)) aN.nd)
  (ag (cA PassesOwn.never rfl (bc (bR (pv 0) ae)) (d6 (n:=3) rfl (aK (jA 2 aN.nd) (aK (jA 3 aN.nd) (aK (jA 4 aN.nd) cZ))))
  (aj (bM (b7 yC yE yD bz (pv 1) (aa (b7 yF yH yG gQ aJ (aa (bg (aa aJ (aa (pv 2) (aa (ng aU T.fj (aa (bR (pv 3) ae) af)) (aa (ng aU T.fj (aa (bR (pv 3) ae) af)) (aa (bJ (dU T) hr T.dn (aa (pv 4) af)) af)))))) af)) af)))))
  (ag (bT 1 aN.nd (ar gO (pv 1) (pI (ts:=["_law_name","_law_players"]) (ys:=[]) (js:=[]) (g:=(GC K 2 (gb (bV 0) (gb (bV 1) GD)))) (te:=(SX K "str" (rJoin K) (tC (.str " ")) (bC (fH (PL K) (Fy (bC (tC (.str "staff")) (bC (aX 0) eK))) (Kr (R6 K) (bC (aX 1) eK))) eK))) (bc (bR (pv 0) ae)) (d6 (n:=2) rfl (aK (gy 0) (aK (gy 1) cZ))) bw (b7 yF yH yG gQ aJ (aa (ar gO (bg (aa aJ (aa (pv 0) af))) (ng iX T.uG (aa (pv 1) af))) af)))))
  (ag (cA PassesOwn.never rfl (bc (bR (pv 0) ae)) (d6 (n:=3) rfl (aK (jA 5 aN.nd) (aK (jA 6 aN.nd) (aK (jA 7 aN.nd) cZ))))
  (aj (bM (b7 yC yE yD bz (pv 1) (aa (b7 yF yH yG gQ aJ (aa (ar gO (bg (aa aJ (aa (ar bS (ar bS (ng aU T.fj (aa (bR (pv 5) ae) af)) aJ) (ng aU T.fj (aa (bR (pv 5) ae) af))) (aa (ng aU T.fj (aa (pv 6) af)) af)))) (ng iX T.uG (aa (pv 7) af))) af)) af)))))
  (ag (aH (bB (gN (bR (pv 0) ae)))
  (aj (bM (b7 yC yE yD bz (pv 1) (aa (ar bS aJ (bJ (dU T) hr T.dn (aa (bR (pv 0) ae) af))) af))))
  ax)
  (ag (cA PassesOwn.never rfl (bc (bR (pv 0) ae)) (d6 (n:=2) rfl (aK (jA 8 aN.nd) (aK (jA 9 aN.nd) cZ)))
  (aj (bT 1 aN.nd (ar gO (pv 1) (pI (ts:=["_law_bar","_law_name"]) (ys:=["_law_player"]) (js:=[8]) (g:=(GC K 2 (gb (bV 0) (gb (bV 1) GD)))) (te:=(SX K "str" (rJoin K) (tC (.str " ")) (bC (Fy (bC (tC (.str "holds")) (bC (aX 2) (bC (Kr R5 (bC (aX 0) eK)) (bC (aX 1) eK))))) eK))) (bc (pv 9)) (d6 (n:=2) rfl (aK (gy 0) (aK (gy 1) cZ))) bw (b7 yF yH yG gQ aJ (aa (bg (aa aJ (aa (pv 2) (aa (ng aU T.fj (aa (pv 0) af)) (aa (pv 1) af))))) af)))))))
  (ag (cA PassesOwn.never rfl (bc (bR (pv 0) ae)) (d6 (n:=3) rfl (aK (jA 10 aN.nd) (aK (jA 8 aN.nd) (aK (jA 11 aN.nd) cZ))))
  (aj (bM (b7 yC yE yD bz (pv 1) (aa (b7 yF yH yG gQ aJ (aa (ar gO (bg (aa aJ (aa (ng aU T.fj (aa (pv 10) af)) (aa (pv 8) af)))) (pI (ts:=["_law_item"]) (ys:=[]) (js:=[]) (te:=(gn jQ [] E0 (bC (aX 0) eK))) (bc (pv 11)) (gy 0) bw (bJ (sV T) hr T.jL (aa (pv 0) af)))) af)) af)))))
  (aj (aq (ar gO (pv 1) (bJ (sW T) hr T.jM (aa (pv 0) af)))))))))))),?_⟩
 ac_rfl;exists⟨_,aG.of h2⟩,?_;refine eA (enc:=V.str) (ws:=S.players) (fun n=>.str (rowOf (.bD n))) (fun σ=>∃v,σ=[v]) nofun (aG.of h2) ⟨none,rfl⟩ ?_ ?_
 ·rintro z σ H1 R hz s1 ⟨_,rfl⟩ rr
  have tz:TD (.bD z):=tok _ (by unfold eU;simp[hz]);left;refine⟨?_,?_⟩
  ·have l7:("player ": Str).length=7:=rfl
   have:=tz.2.2 z (by simp[Sc.wordsOf]);omega
  exact rr _ _ _ (au.refl _) (by rw[Ik];exact d9) ⟨_,rfl⟩
 ·intro D vs H1 s1 nD hD ilD
  have ee:S.players.map (fun n=>Dt.str (rowOf (.bD n)))=((S.players.map Told.bD).map rowOf).map Dt.str:=by rw[zA,zA];rfl
  rw[ee] at ilD;rw[dI ilD] at hD;have h11:=s1 _ _ h1;exists⟨_,aG.of (s1 _ _ h3)⟩,?_;refine dJ (K:=K) (a:=il) (xs:=iv) (fun i σ H'=>Lo [some (.ref p),some (.ref D)] 10 σ/\au H H'/\H' D=some (.lst (rws (S.players.map .bD++(S.ak.take i).map fun x=>.cM x.1 x.2.1 x.2.2)))) ⟨Lo.of rfl rfl,s1,by rw[List.take_zero,ym,zU];exact hD⟩ (fun i σ H' _ h=>by obtain⟨_,z,_⟩:=h;exact aG.of (z _ _ h3)) ?_ ?_
  ·intro i x σ H2 hx hh
   refine cY fun N kN0 kR0 _ _=>?_;obtain⟨⟨e,rfl⟩,s2,hD2⟩:=hh;obtain⟨n,hn,ix⟩:=dZ (d:=eL) ili hx;obtain⟨a1,t1,l1,rfl,ha1,it,iL⟩:=OX ix;cases fk (o:=some n.2.1) it with
   | ref ht=>
   cases fk (o:=some n.2.2) iL with
   | ref hL=>
   have tn:TD (.cM n.1 n.2.1 n.2.2):=tok _ (by unfold eU;simp only[zF,zG];exact .inl (.inl (.inl (.inl (.inl (.inl (.inr ⟨n,zB hn,rfl⟩)))))));refine⟨a1,_,rfl,dw.of (s2 _ _ ha1),rfl,?_⟩;refine⟨_,_,rfl,⟨_,_,rfl,⟨_,_,rfl,⟨rfl,?_⟩⟩⟩⟩;rename_i bt bL;have ht2:=s2 _ _ ht;have hL2:=s2 _ _ hL;obtain⟨t1,t2,t3,t4,t5,t6,t7⟩:=tn.1;obtain⟨c1,c2,c3,c4,_⟩:=t2;obtain⟨r1,r2,_⟩:=t5.pos;exists .inl ⟨rfl,_,aG.of hD2⟩,?_;exists bK nofun nofun,?_;exists bK nofun nofun,?_;exists _,n.2.2,rfl,hL2,r1,t6,r2,t7,?_;exists by show 5<=sizeLine;omega,?_
   intros p5 H5 s5 h5;refine⟨" ",p5,Sc.wordsOf (.cM n.1 n.2.1 n.2.2),rfl,rfl,aG.of h5,xE tn,?_⟩;left;refine⟨D,_,_,rfl,rfl,s5 _ _ hD2,?_,?_⟩
   ·rw[lM,zg,za,za,zP];omega
   exists Lo.of rfl rfl,bX nD (s2.trans s5),?_;rw[aA,dC hn,zj,<-zE];exact congrArg (fun l=>some (HO.lst l)) (lN _ [Told.cM n.1 n.2.1 n.2.2]).symm
  ·rintro σ H2 ⟨⟨e,rfl⟩,s2,hD2⟩
   rw[aT ili,zM] at hD2;have h12:=s2 _ _ h1;obtain⟨ps,e1,e2,e3⟩:=hV ils;have pln:ps.length=S.aI.length:=by rw[<-e1,za]
   exists⟨_,aG.of (s2 _ _ h4)⟩,?_;refine eA (enc:=fun q:(Str×List Str)×V=>q.2) (ws:=ps) (fun q=>.str (rowOf (.cw q.1.1 q.1.2))) (fun σ=>∃v u,σ=[v,u]) nofun (by rw[e2];exact aG.of (s2 _ _ h4)) ⟨none,none,rfl⟩ ?_ ?_
   ·rintro z σ H3 R hz s3 ⟨_,_,rfl⟩ rr
    have zin:z.1∈S.aI:=by rw[<-e1];exact zO hz
    have tz:TD (.cw z.1.1 z.1.2):=tok _ (by unfold eU;simp only[zF,zG];exact .inl (.inl (.inl (.inl (.inl (.inr ⟨z.1,zin,rfl⟩))))));obtain⟨a3,q3,ea,ha3,hq3⟩:=KS (e3 z hz);have s03:=s2.trans s3;rw[ea];refine⟨a3,_,rfl,dw.of (s03 _ _ ha3),rfl,?_⟩;refine⟨_,_,rfl,⟨_,_,rfl,⟨rfl,?_⟩⟩⟩;exists by show 2<=sizeLine;omega,?_
    intros p5 H5 s5 h5;exists q3,_,rfl,.inr (dw.of (s5 _ _ (s03 _ _ hq3))),?_;intros p6 H6 s6 h6;have zl:z.1.2.length<=98:=by have:=tz.2.1;simp only[Sc.wordsOf,zt] at this;omega
    refine⟨p5,p6,_,_,rfl,rfl,aG.of (s6 _ _ h5),aG.of h6,by rw[za];show 2+_<=_;omega,?_⟩;intros p7 H7 s7 h7;refine⟨" ",p7,Sc.wordsOf (.cw z.1.1 z.1.2),rfl,rfl,aG.of h7,xE tz,?_⟩;exact rr _ _ _ ((s5.trans s6).trans s7) d9 ⟨_,_,rfl⟩
   ·intro D3 vs3 H3 s3 nD3 hD3 il3
    have ee3:ps.map (fun q:(Str×List Str)×V=>Dt.str (rowOf (.cw q.1.1 q.1.2)))=((S.aI.map fun x=>Told.cw x.1 x.2).map rowOf).map Dt.str:=by rw[<-e1,zA,zA,zA];rfl
    rw[ee3] at il3;rw[dI il3] at hD3;refine⟨D,D3,_,_,rfl,rfl,aG.of (s3 _ _ hD2),aG.of hD3,?_,?_⟩
    ·rw[lM,zg,za,za,za,za,za];omega
    intro D4 n4;generalize hU:upd H3 D4 _=H4;have s4:au H3 H4:=by rw[<-hU];exact aR n4
    have hD4:H4 D4=some (.lst (rws (S.players.map .bD++(S.ak.map fun x=>.cM x.1 x.2.1 x.2.2)++S.aI.map fun x=>.cw x.1 x.2))):=by
     rw[<-hU,aA];exact congrArg (fun l=>some (HO.lst l)) (lN _ _).symm
    clear hU;have nD4:H D4=none:=(s2.trans s3).back n4;have s04:=(s2.trans s3).trans s4;clear hD2 hD3 il3 hD ilD nD nD3;have h14:=s04 _ _ h1;exists⟨_,aG.of (s04 _ _ h5)⟩,?_;refine dJ (K:=K) (a:=bl) (xs:=bv) (fun i σ H'=>Lo [some (.ref p),some (.ref D4)] 10 σ/\au H H'/\H' D4=some (.lst (rws (S.players.map .bD++(S.ak.map fun x=>.cM x.1 x.2.1 x.2.2)++(S.aI.map fun x=>.cw x.1 x.2)++(S.aM.take i).map .bar)))) ⟨⟨e,rfl⟩,s04,by rw[List.take_zero,ym,zU];exact hD4⟩ (fun i σ H' _ h=>by obtain⟨_,z,_⟩:=h;exact aG.of (z _ _ h5)) ?_ ?_
    ·intro i x σ H5 hx hh
     refine cY fun N kN1 kR1 _ _=>?_;obtain⟨⟨e,rfl⟩,s5,hD5⟩:=hh;obtain⟨b,hb,ib⟩:=dZ (d:=lB) ilb hx;obtain⟨a1,mv,q1,rfl,ha1,im,hq1⟩:=xk ib;cases fk (o:=some b.aQ) im with
     | ref hm=>
     rename_i am;have tb:TD (.bar b):=tok _ (by unfold eU;simp only[zF,zG];exact .inl (.inl (.inl (.inl (.inr ⟨b,zB hb,rfl⟩)))));have hm5:=s5 _ _ hm;refine⟨a1,_,rfl,dw.of (s5 _ _ ha1),rfl,?_⟩;refine⟨_,_,rfl,⟨_,_,rfl,⟨_,_,rfl,⟨rfl,?_⟩⟩⟩⟩;obtain⟨t1,t2,t3,t4,t5,t6⟩:=tb.1;have bb:0<=b.aQ.2/\b.aQ.2<1000:=by unfold Cb at t3;simp at t3;omega
     have la1:=bq (n:=b.aQ.1) nofun nofun;have la2:=bq (n:=b.aQ.2) nofun nofun;have l1:("/": Str).length=1:=rfl;exists .inl ⟨rfl,_,aG.of hD5⟩,?_;exists bK nofun nofun,?_;exists by show(dec b.aQ.1).length+_<=_;omega,?_
     exists bK nofun nofun,?_;exists by show(dec b.aQ.1 ++"/").length+(dec b.aQ.2).length<=_;rw[len_app];omega,?_
     exists bK nofun nofun,?_;exists by show 3<=sizeLine;omega,?_
     intros p6 H6 s6 h6;exists q1,_,rfl,.inr (dw.of (s6 _ _ (s5 _ _ hq1))),?_;intros p7 H7 s7 h7;have ml:b.marks.length<=97:=by have:=tb.2.1;simp only[Sc.wordsOf,zt] at this;omega
     refine⟨p6,p7,_,_,rfl,rfl,aG.of (s7 _ _ h6),aG.of h7,by rw[za];show 3+_<=_;omega,?_⟩;intros p8 H8 s8 h8;refine⟨" ",p8,Sc.wordsOf (.bar b),rfl,rfl,aG.of h8,xE tb,?_⟩;have s58:=(s6.trans s7).trans s8;left;refine⟨D4,_,_,rfl,rfl,s58 _ _ hD5,?_,?_⟩
     ·rw[lM];simp only[zg,za,zP];omega
     exists Lo.of rfl rfl,bX nD4 (s5.trans s58),?_;rw[aA,dC hb,zj,<-zE];exact congrArg (fun l=>some (HO.lst l)) (lN _ [Told.bar b]).symm
    ·rintro σ H5 ⟨⟨e,rfl⟩,s5,hD5⟩
     rw[aT ilb,zM] at hD5;obtain⟨B,hB⟩:∃B,B=S.players.map Told.bD++(S.ak.map fun x=>Told.cM x.1 x.2.1 x.2.2)++(S.aI.map fun x=>Told.cw x.1 x.2)++S.aM.map Told.bar:=⟨_,rfl⟩
     have tB:eU S=B++S.aF.toList.map .aF++(S.holds.map fun x=>x.2.map fun h=>Told.holds x.1 h.1 h.2).flatten++(S.aE.map fun x=>.aE x.1.1 x.1.2 x.2)++Av S:=by rw[hB];rfl
     rw[<-hB] at hD5;have h15:=s5 _ _ h1;left;refine join (fun σ H'=>Lo [some (.ref p),some (.ref D4)] 10 σ/\au H H'/\H' D4=some (.lst (rws (B++S.aF.toList.map .aF)))) (fun N hN c1=>?_) (fun N hN c1=>?_) ?_
     ·cases qu:S.aF with
      | none=>
       rw[qu] at h6;unfold dO Is at h6;rw[h6] at c1;simp at c1
      | some u=>
       rw[qu] at h6;cases fk (o:=some u) h6 with
       | ref hu=>
       have tu:TD (.aF u):=tok _ (by rw[tB,qu];simp);obtain⟨u1,u2,u3,u4⟩:=tu.1;obtain⟨_,r2,_⟩:=u1.pos;have lu:=lg (x:=u) nofun u3 nofun u4;have bl5:B.length<=1000000:=tlen B _ (by rw[tB,zE,zE,zE]);exists .inl ⟨rfl,_,aG.of hD5⟩,?_;exists _,u,rfl,s5 _ _ hu,nofun,u3,r2,u4,?_;have l7:("upbeat ": Str).length=7:=rfl;refine⟨_,_,rfl,rfl,nofun,?_⟩;exists D4,_,_,rfl,rfl,hD5,by rw[lM];omega,?_
       left;refine hN _ _ ⟨Lo.of rfl rfl,bX nD4 s5,?_⟩;rw[aA,qu];exact congrArg (fun l=>some (HO.lst l)) (lN B [Told.aF u]).symm
     ·have qu:S.aF=none:=by
       cases qu:S.aF with
       | none=>rfl
       | some u=>
        rw[qu] at h6;cases fk (o:=some u) h6 with
        | ref hu=>simp at c1
      left;refine hN _ _ ⟨Lo.of rfl rfl,s5,?_⟩;rw[qu];show H5 D4=some (.lst (rws (B++[])));rw[zU];exact hD5
     rintro σ6 H6 ⟨⟨e,rfl⟩,s6,hD6⟩;have h16:=s6 _ _ h1;exists⟨_,aG.of (s6 _ _ h7)⟩,?_;refine dJ (K:=K) (a:=hl) (xs:=hv) (fun i σ H'=>∃(D:Addr),Lo [some (.ref p),some (.ref D)] 10 σ/\au H H'/\H D=none/\H' D=some (.lst (rws (B++S.aF.toList.map .aF++((S.holds.take i).map fun x=>x.2.map fun h=>Told.holds x.1 h.1 h.2).flatten)))) ⟨D4,⟨e,rfl⟩,s6,nD4,by rw[List.take_zero,ym,List.flatten_nil,zU];exact hD6⟩ (fun i σ H' _ h=>by obtain⟨_,_,z,_⟩:=h;exact aG.of (z _ _ h7)) ?_ ?_
     ·intro i x σ H7 hx hh
      refine cY fun N kN2 kR2 _ _=>?_;obtain⟨D7,⟨e,rfl⟩,s7,nD7,hD7⟩:=hh;obtain⟨y,hy,a7,r7,us7,rfl,ha7,hr7,il7,_⟩:=rlh.at hx;obtain⟨qs,f1,f2,f3⟩:=hV il7;have ty:∀h∈y.2,TD (.holds y.1 h.1 h.2):=fun h hh=>tok _ (by
       rw[tB];refine zI _ (zI _ (zH _ ?_));exact List.mem_flatten.mpr ⟨_,zO (zB hy),zO hh⟩)
      have tke:((S.holds.take (i+1)).map fun x=>x.2.map fun h=>Told.holds x.1 h.1 h.2).flatten=((S.holds.take i).map fun x=>x.2.map fun h=>Told.holds x.1 h.1 h.2).flatten++y.2.map fun h=>Told.holds y.1 h.1 h.2:=by
       rw[dC hy,zj,List.flatten_append];simp
      have lenB:(B++S.aF.toList.map Told.aF++((S.holds.take (i+1)).map fun x=>x.2.map fun h=>Told.holds x.1 h.1 h.2).flatten).length<=1000000:=by
       refine tlen _ (((S.holds.drop (i+1)).map fun x=>x.2.map fun h=>Told.holds x.1 h.1 h.2).flatten++(S.aE.map fun x=>.aE x.1.1 x.1.2 x.2)++Av S) ?_;rw[tB]
       conv=>lhs;rw[<-zY (i+1) S.holds,zj,List.flatten_append]
       simp only[zE]
      rw[tke] at lenB;simp only[zg,za] at lenB;refine⟨a7,_,rfl,dw.of (s7 _ _ ha7),rfl,?_⟩;refine⟨_,_,rfl,⟨_,_,rfl,⟨rfl,?_⟩⟩⟩;exists⟨_,aG.of (s7 _ _ hr7)⟩,?_;have ql:qs.length=y.2.length:=by rw[<-f1,za]
      refine eA (enc:=fun q:(Int×Str)×V=>q.2) (ws:=qs) (fun q=>.str (rowOf (.holds y.1 q.1.1 q.1.2))) (fun σ=>∃v u,σ=[v,u,some (.str y.1)]) nofun (by rw[f2];exact aG.of (s7 _ _ hr7)) ⟨none,none,rfl⟩ ?_ ?_
      ·rintro z σ H8 R hz s8 ⟨_,_,rfl⟩ rr
       have zin:z.1∈y.2:=by rw[<-f1];exact zO hz
       have tz:=ty z.1 zin;obtain⟨a8,ea,ha8⟩:=QX (f3 z hz);have s08:=s7.trans s8;obtain⟨b1,b2⟩:=tz.1.2.1;rw[ea];refine⟨a8,_,rfl,dw.of (s08 _ _ ha8),rfl,?_⟩;refine⟨_,_,rfl,⟨_,_,rfl,⟨rfl,?_⟩⟩⟩;exists bK nofun nofun,?_;exists by show 4<=sizeLine;omega,?_
       intros p9 H9 s9 h9;refine⟨" ",p9,Sc.wordsOf (.holds y.1 z.1.1 z.1.2),rfl,rfl,aG.of h9,xE tz,?_⟩;exact rr _ _ _ s9 d9 ⟨_,_,rfl⟩
      ·intro D8 vs8 H8 s8 _ hD8 il8
       have ee8:qs.map (fun q:(Int×Str)×V=>Dt.str (rowOf (.holds y.1 q.1.1 q.1.2)))=((y.2.map fun h=>Told.holds y.1 h.1 h.2).map rowOf).map Dt.str:=by rw[<-f1,zA,zA,zA];rfl
       rw[ee8] at il8;rw[dI il8] at hD8;refine⟨D7,D8,_,_,rfl,rfl,aG.of (s8 _ _ hD7),aG.of hD8,?_,?_⟩
       ·rw[lM];simp only[zg,za];omega
       intro D9 n9;generalize hU:upd H8 D9 _=H9;have s9:au H8 H9:=by rw[<-hU];exact aR n9
       exists D9,Lo.of rfl rfl,(s7.trans s8).trans s9,(s7.trans s8).back n9,?_;rw[<-hU,aA,tke,<-zE];exact congrArg (fun l=>some (HO.lst l)) (lN _ _).symm
     ·rintro σ H7 ⟨D7,⟨e,rfl⟩,s7,nD7,hD7⟩
      rw[rlh.len,zM] at hD7;obtain⟨B2,hB2⟩:∃B2,B2=B++S.aF.toList.map Told.aF++(S.holds.map fun x=>x.2.map fun h=>Told.holds x.1 h.1 h.2).flatten:=⟨_,rfl⟩
      rw[<-hB2] at hD7 tB;have h17:=s7 _ _ h1;exists⟨_,aG.of (s7 _ _ h8)⟩,?_;refine dJ (K:=K) (a:=nl) (xs:=nv) (fun i σ H'=>Lo [some (.ref p),some (.ref D7)] 10 σ/\au H H'/\H' D7=some (.lst (rws (B2++(S.aE.take i).map fun x=>.aE x.1.1 x.1.2 x.2)))) ⟨⟨e,rfl⟩,s7,by rw[List.take_zero,ym,zU];exact hD7⟩ (fun i σ H' _ h=>by obtain⟨_,z,_⟩:=h;exact aG.of (z _ _ h8)) ?_ ?_
      ·intro i x σ H8 hx hh
       refine cY fun N kN3 kR3 _ _=>?_;obtain⟨⟨e,rfl⟩,s8,hD8⟩:=hh;obtain⟨y,hy,a7,r7,us7,rfl,ha7,hr7,il7,_⟩:=rln.at hx;obtain⟨qs,f1,f2,f3⟩:=hV il7;have tz:TD (.aE y.1.1 y.1.2 y.2):=tok _ (by rw[tB];simp only[zF,zG];exact .inl (.inr ⟨y,zB hy,rfl⟩));obtain⟨⟨b1,b2⟩,b3,b4,_⟩:=tz.1;have yl:y.2.length<=97:=by have:=tz.2.1;simp only[Sc.wordsOf,zt,za] at this;omega
       have ql:qs.length=y.2.length:=by rw[<-f1,za]
       have ib:i<S.aE.length:=(zw.mp hy).1;have lenB:B2.length+S.aE.length<=1000000:=by
        have:=tlen (B2++S.aE.map fun x=>.aE x.1.1 x.1.2 x.2) (Av S) tB
        simpa[zg,za] using this
       refine⟨a7,_,rfl,dw.of (s8 _ _ ha7),rfl,?_⟩;refine⟨_,_,rfl,⟨_,_,rfl,⟨_,_,rfl,⟨rfl,?_⟩⟩⟩⟩;exists .inl ⟨rfl,_,aG.of hD8⟩,?_;exists bK nofun nofun,?_;exists by show 3<=sizeLine;omega,?_
       intros p9 H9 s9 h9;have s09:=s8.trans s9;exists⟨_,aG.of (s09 _ _ hr7)⟩,?_;refine eA (enc:=fun q:Item×V=>q.2) (ws:=qs) (fun q=>.str (qX q.1)) (fun σ=>∃v,σ=[v]) nofun (by rw[f2];exact aG.of (s09 _ _ hr7)) ⟨none,rfl⟩ ?_ ?_
       ·rintro z σ Ha R hz sa ⟨_,rfl⟩ rr
        have zin:z.1∈y.2:=by rw[<-f1];exact zO hz
        change⟨z.2,z.1,rfl,((f3 z hz).mono s09).mono sa,b4 _ zin,rr _ _ _ (au.refl _) d9 ⟨_,rfl⟩⟩
       ·intro Da vsa Ha sa _ hDa ila
        have eea:qs.map (fun q:Item×V=>Dt.str (qX q.1))=(y.2.map qX).map Dt.str:=by rw[<-f1,zA,zA];rfl
        rw[eea] at ila;rw[dI ila] at hDa;refine⟨p9,Da,_,_,rfl,rfl,aG.of (sa _ _ h9),aG.of hDa,by rw[za,za];show 3+_<=_;omega,?_⟩;intros pb Hb sb hb;refine⟨" ",pb,Sc.wordsOf (.aE y.1.1 y.1.2 y.2),rfl,rfl,aG.of hb,xE tz,?_⟩;have s8b:=(s9.trans sa).trans sb;left;refine⟨D7,_,_,rfl,rfl,s8b _ _ hD8,?_,?_⟩
        ·rw[lM];simp only[zg,za,zP];omega
        exists Lo.of rfl rfl,bX nD7 (s8.trans s8b),?_;rw[aA,dC hy,zj,<-zE];exact congrArg (fun l=>some (HO.lst l)) (lN _ [Told.aE y.1.1 y.1.2 y.2]).symm
      ·rintro σ H8 ⟨⟨e,rfl⟩,s8,hD8⟩
       rw[rln.len,zM] at hD8;exists p,S,rfl,la.mono s8,rok,rln3,fun j hj=>(tok (.cj j) (by rw[tB];unfold Av;rw[hj];simp)).1,fun D9 H9 s9 _ h9=>?_;refine⟨D7,D9,_,_,rfl,rfl,aG.of (s9 _ _ hD8),aG.of h9,?_,?_⟩
       ·have:=tl
        rw[tB] at this;simp only[zg,za] at this;rw[lM];simp only[zg,za];omega
       intro Dx nx;generalize hU:upd H9 Dx _=Hx;have sx:au H9 Hx:=by rw[<-hU];exact aR nx
       refine kk Dx Hx ((s8.trans s9).trans sx) ((s8.trans s9).back nx) ?_;rw[<-hU,aA,tB];exact congrArg (fun l=>some (HO.lst l)) (lN _ _).symm
def Mb {t:Told} (h:TD t):(rowOf t).length<=10100:=by
 have a:=Ao (sep:=" ") h.2.2;have b:(Sc.wordsOf t).length*(100+(" ": Str).length)<=100*(100+(" ": Str).length):=Nat.mul_le_mul h.2.1 (zk _);exact zL a (zL b (by show 100*(100+1)<=10100;decide))
inductive qz (vs:List V) (H:Hp) (Q:VK) (E:XK):Prop
 | mk (p:Addr) (S:cD) (_:vs=[.ref p]) (_:tU H p S) (_:(∀t∈eU S,TD t)) (_:(eU S).length<=1000) (_:(∀r∈S.repeats,LH r)) (_:S.repeats.length<=1000) (_:∀H',au H H'->Q (.str (Str.join "\n" ((eU S).map rowOf))) H')
def Fv {ts:List Told} (h:∀t∈ts,TD t) (hl:ts.length<=1000):((ts.map rowOf).map (fun z:Str=>z.length+("\n": Str).length)).sum<=1000*10101:=by
 have a:=qy (sep:="\n") (k:=10100) (zs:=ts.map rowOf) fun z hz=>by
  obtain⟨t,ht,rfl⟩:=zG.mp hz;exact Mb (h t ht)
 rw[za] at a;have b:ts.length*(10100+("\n": Str).length)<=1000*(10100+("\n": Str).length):=Nat.mul_le_mul hl (zk _);exact zL a (zL b (by show 1000*(10100+1)<=1000*10101;decide))
def qG:aC ["_law_s"] ["_law_s"] (ao jT):=dy
def qU:cX P w base 4 T.iC qz:=by
 nomatch T.iC,qG
 obtain⟨p,S,rfl,la,tok,tl,rok,rl,kk⟩:=h;have sl:=yB;refine⟨_,(aj (aq (b7 yF yH yG gQ aJ (aa (bJ (qV T) hr T.iD (aa (pv 0) af)) af)))),?_⟩;ac_rfl;exists p,S,rfl,la,tok,nofun,rok,rl,fun D H1 s1 _ h1=>?_;refine⟨"\n",D,(eU S).map rowOf,rfl,rfl,aG.of h1,zL (Fv tok tl) nofun,?_⟩;exact kk _ s1
theorem JK:∀{ts:List Told},(∀t∈ts,TD t)->RT (ts.map rowOf) ts
 | [],_=>.nil
 | t::r,h=>by
  have ht:=h t zp;exact .row (zL (Mb ht) ∅) (Kz ht.1) ht.1 (zL ht.2.1 ∅) (fun y hy=>zL (ht.2.2 y hy) ∅) (JK fun x hx=>h x (zm _ hx))
def Oy {ts:List Told} (ne:ts≠[]) (h:∀t∈ts,TD t):RT (Txt.split (Str.join "\n" (ts.map rowOf)) "\n") ts:=by
 rw[show Txt.split (Str.join "\n" (ts.map rowOf)) "\n"= ts.map rowOf from gw (c:=10) (by simpa using ne) fun z hz=>by
  obtain⟨t,ht,rfl⟩:=zG.mp hz;exact MC (h t ht).1]
 exact JK h
def text_len {ts:List Told} (h:∀t∈ts,TD t) (hl:ts.length<=1000):(Str.join "\n" (ts.map rowOf)).length+2<=sizeLine:=by
 have sl:=yB;have a:=join_le "\n" (ts.map rowOf);have b:=Fv h hl;omega
def E9 (ps:List Str) (sts:List (Str×List Str)):Prop:=sts.length<=2/\Bh (sts.map (·.1))/\(sts.map (·.2)).flatten.Nodup/\∀x∈sts,x.2≠[]/\x.2.length<=ps.length/\∀p∈x.2,p∈ps
inductive rM (vs:List V) (H:Hp) (Q:VK) (E:XK):Prop
 | mk (c:Int) (pp:Addr) (ps:List Str) (_:vs=[.int c,.ref pp]) (_:H pp=some (.lst (ps.map V.str))) (_:ps.Nodup) (_:ps.length<=12) (_:∀(sts:List (Str×List Str)) D us H',E9 ps sts->au H H'->H' D=some (.lst us)->ay H' (sts.map gF) us->Q (.ref D) H')
theorem xy {H:Hp}:∀{nms:List Str} {rows:List (List Str)} {rv us:List V},nms.length=rows.length->RL (fun o v=>∃r,v=V.ref r/\H r=some (.tup (o.map V.str))) rows rv->Pairs H (nms.map V.str) rv us nms.length->ay H ((nms.zip rows).map gF) us
 | [],[],_,us,_,_,p=>by
  have:us=[]:=yr.mp p.1;rw[this];exact cH
 | n::ns,o::ot,_,us,hl,⟨v,rv,rfl,⟨r,ev,hr⟩,rl⟩,p=>by
  subst ev;cases us with
  | nil=>have:=p.1;simp at this
  | cons u us=>
   obtain⟨q,e1,e2⟩:=p.2 0 (.str n) (.ref r) (by simp) rfl rfl;simp at e1;subst e1;refine aL (cB e2 (aL d9 (aL (cB hr (Ap o)) cH))) (xy (by simpa using hl) rl ⟨by have:=p.1;simpa using this,fun j x y hj hx hy=>?_⟩);obtain⟨q',f1,f2⟩:=p.2 (j+1) x y (by simp;omega) (by simpa using hx) (by simpa using hy);exact⟨q',by simpa using f1,f2⟩
 | [],_::_,_,_,hl,_,_=>by simp at hl
 | _::_,[],_,_,hl,_,_=>by simp at hl
theorem Jy {α β:Type}:∀{a:List α} {b:List β},a.length=b.length->(a.zip b).map (·.1)=a
 | [],[],_=>rfl
 | x::xs,y::ys,h=>by rw[List.zip_cons_cons,zh,Jy (by simpa using h)]
 | [],_::_,h=>by simp at h
 | _::_,[],h=>by simp at h
theorem Dh {α β:Type}:∀{a:List α} {b:List β},a.length=b.length->(a.zip b).map (·.2)=b
 | [],[],_=>rfl
 | x::xs,y::ys,h=>by rw[List.zip_cons_cons,zh,Dh (by simpa using h)]
 | [],_::_,h=>by simp at h
 | _::_,[],h=>by simp at h
noncomputable def two (o1 o2:List Str):List (List Str):=(if o1=[] then [] else [o1])++(if o2=[] then [] else [o2])
noncomputable def Bl (o1 o2:List Str) (r1 r2:Addr):List V:=(if o1=[] then [] else [.ref r1])++(if o2=[] then [] else [.ref r2])
noncomputable def TJ (o1 o2:List Str) (r1 r2:Addr):Nat->List V
 | 0=>[]
 | 1=>if o1=[] then [] else [.ref r1]
 | _=>Bl o1 o2 r1 r2
def L6 (o1 o2:List Str):(two o1 o2).flatten=o1++o2:=by
 unfold two
 by_cases h1:o1=[] <;> by_cases h2:o2=[] <;> simp[h1,h2]
def Qf {o1 o2 o:List Str} (h:o∈two o1 o2):o≠[]/\(o=o1\/o=o2):=by
 unfold two at h;rcases zF.mp h with h | h
 ·by_cases h1:o1=[]
  ·rw[if_pos h1] at h;cases h
  ·rw[if_neg h1] at h;rw[zy.mp h];exact⟨h1,.inl rfl⟩
 ·by_cases h1:o2=[]
  ·rw[if_pos h1] at h;cases h
  ·rw[if_neg h1] at h;rw[zy.mp h];exact⟨h1,.inr rfl⟩
def Qe {H:Hp} {o1 o2:List Str} {r1 r2:Addr} (h1:H r1=some (.tup (o1.map V.str))) (h2:H r2=some (.tup (o2.map V.str))):RL (fun o v=>∃r,v=V.ref r/\H r=some (.tup (o.map V.str))) (two o1 o2) (Bl o1 o2 r1 r2):=by
 unfold two Bl
 by_cases e1:o1=[] <;> by_cases e2:o2=[]
 ·rw[if_pos e1,if_pos e2,if_pos e1,if_pos e2];exact rfl
 ·rw[if_pos e1,if_neg e2,if_pos e1,if_neg e2];exact⟨_,_,rfl,⟨_,rfl,h2⟩,rfl⟩
 ·rw[if_neg e1,if_pos e2,if_neg e1,if_pos e2];exact⟨_,_,rfl,⟨_,rfl,h1⟩,rfl⟩
 ·rw[if_neg e1,if_neg e2,if_neg e1,if_neg e2];exact⟨_,_,rfl,⟨_,rfl,h1⟩,_,_,rfl,⟨_,rfl,h2⟩,rfl⟩
def JD (o1 o2:List Str):(two o1 o2).length<=2:=by
 unfold two
 by_cases h1:o1=[] <;> by_cases h2:o2=[] <;> simp[h1,h2]
def Kt {ps o1 o2:List Str} {nms:List Str} (pn:ps.Nodup) (hs:(o1++o2).Nodup) (hi:∀p∈o1++o2,p∈ps) (hl:(o1++o2).length<=ps.length) (nl:nms.length=(two o1 o2).length) (nok:Bh nms):E9 ps (nms.zip (two o1 o2)):=by
 refine⟨?_,by rw[Jy nl];exact nok,by rw[Dh nl,L6];exact hs,fun x hx=>?_⟩
 ·rw[List.length_zip,nl,Nat.min_self];exact JD o1 o2
 ·have hm:x.2∈two o1 o2:=by
   have:=zO (f:=fun y:Str×List Str=>y.2) hx;rw[Dh nl] at this;exact this
  obtain⟨ne,e⟩:=Qf hm;rw[zg] at hl;rcases e with e | e <;> rw[e]
  ·exact⟨e▸ne,nofun,fun p hp=>hi p (zI _ hp)⟩
  ·exact⟨e▸ne,nofun,fun p hp=>hi p (zH _ hp)⟩
def cy:aC ["_law_cell","_law_players","_law_m","_law_order","_law_alone","_law_cut","_law_rows"] ["_law_cell","_law_players"] (ao kW):=dy
def sT:cX P w base 2 T.jJ rM:=by
 nomatch T.jJ,cy
 obtain⟨c,pp,ps,rfl,hpp,pn,pl,kk⟩:=h;have sl:=yB;refine⟨_,(ag (bT 2 cy.nd (bJ (bO T) hr T.cC (aa (pv 0) (aa ae af))))
  (ag (aH (ptr dg (ar aO (pv 2) ae) ae)
  (aj (aq (bg af)))
  ax)
  (ag (bT 3 cy.nd (ng iX T.uG (aa (pv 1) af)))
  (ag (aH (ptr dg (ar aO (ar aP (pv 2) ae) ae) ae)
  (aj (bM (QN yC PySem.F.slot_list_reverse PySem.F.type_list_reverse Iw (pv 3))))
  ax)
  (ag (bT 4 cy.nd (ar aO (ar aP (pv 2) ae) (ar aW (eQ aB T.bu (aa (pv 3) af)) ae)))
  (ag (bT 3 cy.nd (ar gO (dF gL (pv 3) eO (eN (pv 4))) (dF gL (pv 3) (eN (ar aW (pv 4) ae)) eO)))
  (ag (bT 5 cy.nd (ar aO (ar aP (pv 2) ae) (ar aW (eQ aB T.bu (aa (pv 3) af)) ae)))
  (ag (M3 (i:=6) (ts:=["_law_row"]) (ys:=[]) (js:=[]) (g:=(bV 0)) (tc:=(nJ (fH (QE K) (aX 0) (Dn eK)))) (te:=(aX 0)) (bc (bg (aa (ng cN T.gP (aa (dF gL (pv 3) eO (eN (pv 5))) af)) (aa (ng cN T.gP (aa (dF gL (pv 3) (eN (pv 5)) eO) af)) af)))) (gy 0) (fZ (ptr (Aa hr.units) (pv 0) (bj af))) (pv 0) cy.nd)
  (aj (aq (MY rfl (by rfl) T.uG (by rfl) T.M9 (aa (bJ (fc T) hr T.eJ (aa (ar aP (pv 2) ae) (aa (eQ aB T.bu (aa (pv 6) af)) af))) (aa (pv 6) af))))))))))))),?_⟩
 ac_rfl;exists c,9,rfl,nofun,nofun,?_;have m0:0<=mixed c 9:=zv _ ∅;have m1:mixed c 9<2147483399:=zr _ ∅;generalize mixed c 9=m at m0 m1;left
 by_cases c0:m%4=0
 ·refine ck (ze (congrArg V.int c0)) ?_
  exists by show 0<=sizeLine;omega,fun D nD=>?_
  exact kk [] D [] _ ⟨∅,⟨by simp,by simp⟩,by simp,by simp⟩ (aR nD) aA cH
 refine cE (zd fun z=>c0 (V.int.inj z)) ?_;exists pp,_,rfl,.inl (aG.of hpp),fun D nD=>?_;have s1:au H (upd H D (.lst (ps.map V.str))):=aR nD;have h1:upd H D (.lst (ps.map V.str)) D=some (.lst (ps.map V.str)):=aA;generalize upd H D (.lst (ps.map V.str))=H1 at s1 h1 ⊢;left;refine join (fun σ H'=>∃od:List Str,σ=[some (.int c),some (.ref pp),some (.int m),some (.ref D),none,none,none]/\au H H'/\H' D=some (.lst (od.map V.str))/\od.Perm ps) (fun N hN c1=>?_) (fun N hN c1=>?_) ?_
 ·left
  refine⟨.inl ⟨rfl,_,aG.of h1⟩,D,_,rfl,rfl,h1,?_⟩;change hN _ _ ⟨ps.reverse,rfl,bX nD s1,by rw[aA,List.map_reverse],ps.reverse_perm⟩
 ·left
  exact hN _ _ ⟨ps,rfl,s1,h1,List.Perm.refl _⟩
 clear s1 h1 H1;rintro σ1 H1 ⟨od,rfl,s1,h1,pm⟩;have ol:=pm.length_eq;exists D,_,rfl,.inl (aG.of h1),?_;rw[za];exists by show 0<(od.length:Int)+2;omega,?_
 have a0:0<=m/5%((od.length:Int)+2):=zv _ nofun;obtain⟨al,hal⟩:∃j:Nat,m/5%((od.length:Int)+2)=(j:Int):=⟨(m/5%((od.length:Int)+2)).toNat,nofun⟩
 exists D,_,rfl,aG.of h1,fun p2 n2=>?_;generalize hU2:upd H1 p2 _=H2;have s2:au H1 H2:=au.kB hU2 n2;have h2:H2 p2=some (.lst ((od.take al).map V.str)):=(kI hU2).trans (congrArg (fun z=>some (HO.lst z)) (by show kG (od.map V.str) none (some (m/5%((od.length:Int)+2)))=_;rw[hal,EI,List.map_take]));clear hU2;exists D,_,rfl,aG.of (s2 _ _ h1),fun p3 n3=>?_;generalize hU3:upd H2 p3 _=H3;have s3:au H2 H3:=au.kB hU3 n3;have h3:H3 p3=some (.lst ((od.drop (al+1)).map V.str)):=(kI hU3).trans (congrArg (fun z=>some (HO.lst z)) (by
  show kG (od.map V.str) (some (m/5%((od.length:Int)+2)+1)) none=_;rw[hal,show((al:Int)+1)=((al+1:Nat):Int) by omega,fN,List.map_drop]))
 clear hU3;left;refine⟨p2,p3,_,_,rfl,rfl,aG.of (s3 _ _ h2),aG.of h3,?_,fun p4 n4=>?_⟩
 ·rw[za,za,zP,List.length_drop];omega
 generalize hU4:upd H3 p4 _=H4;have s4:au H3 H4:=au.kB hU4 n4;obtain⟨o0,eo0⟩:∃o0:List Str,o0=od.take al++od.drop (al+1):=⟨_,rfl⟩
 have h4:H4 p4=some (.lst (o0.map V.str)):=(kI hU4).trans (by rw[eo0,zj]);clear hU4;have sub:o0.Sublist od:=by
  rw[eo0]
  conv=>rhs;rw[<-zY al od]
  exact List.Sublist.append (List.Sublist.refl _) (by rw[List.drop_add_one_eq_tail_drop];exact List.tail_sublist _)
 have o0n:o0.Nodup:=sub.nodup (pm.nodup_iff.mpr pn);have o0l:o0.length<=ps.length:=by have:=sub.length_le;omega
 have o0i:∀p∈o0,p∈ps:=fun p hp=>pm.mem_iff.mp (sub.subset hp);have s04:=s1.trans (s2.trans (s3.trans s4));clear s1 s2 s3 s4 h1 h2 h3 sub eo0 hal a0 n2 n3 n4 ol pm;exists p4,_,rfl,.inl (aG.of h4),?_;rw[za];exists by show 0<(o0.length:Int)+1;omega,?_
 have a0:0<=m/8%((o0.length:Int)+1):=zv _ nofun;obtain⟨al,hal⟩:∃j:Nat,m/8%((o0.length:Int)+1)=(j:Int):=⟨(m/8%((o0.length:Int)+1)).toNat,nofun⟩
 exists p4,_,rfl,aG.of h4,fun p5 n5=>?_;generalize hU5:upd H4 p5 _=H5;have s5:au H4 H5:=au.kB hU5 n5;have h5:H5 p5=some (.lst ((o0.take al).map V.str)):=(kI hU5).trans (congrArg (fun z=>some (HO.lst z)) (by show kG (o0.map V.str) none (some (m/8%((o0.length:Int)+1)))=_;rw[hal,EI,List.map_take]));clear hU5;left;refine⟨p5,_,rfl,.inl ⟨aG.of h5,?_⟩⟩;intros p6 H6 s6 h6;exists p4,_,rfl,aG.of (s6 _ _ (s5 _ _ h4)),fun p7 n7=>?_;generalize hU7:upd H6 p7 _=H7;have s7:au H6 H7:=au.kB hU7 n7;have h7:H7 p7=some (.lst ((o0.drop al).map V.str)):=(kI hU7).trans (congrArg (fun z=>some (HO.lst z)) (by show kG (o0.map V.str) (some (m/8%((o0.length:Int)+1))) none=_;rw[hal,fN,List.map_drop]));clear hU7;left;refine⟨p7,_,rfl,.inl ⟨aG.of h7,?_⟩⟩;intros p8 H8 s8 h8;exists by show 2<=sizeLine;omega,?_
 intros p9 H9 s9 h9;exists⟨_,aG.of h9⟩,?_;have s49:=s5.trans (s6.trans (s7.trans (s8.trans s9)));have h69:H9 p6=some (.tup ((o0.take al).map V.str)):=s9 _ _ (s8 _ _ (s7 _ _ h6));have h89:H9 p8=some (.tup ((o0.drop al).map V.str)):=s9 _ _ h8;have fl:(o0.take al++o0.drop al)=o0:=zY al o0;generalize o0.take al=o1 at h69 fl;generalize o0.drop al=o2 at h89 fl;have s09:=s04.trans s49;clear s04 s49 s5 s6 s7 s8 s9 h5 h6 h7 h8;have tst:∀(o:List Str) (r:Addr) (H':Hp) (R:Bool->Hp->Prop),H' r=some (.tup (o.map V.str))->(∀H'',au H' H''->R (!decide (o=[])) H'')->nJ (fH (QE K) (aX 0) (Dn eK)) [some (.ref r)] H' R:=fun o r H' R hr hR=>by
  exists by show 0<=sizeLine;omega,?_
  intros pa Ha sa ha;refine⟨r,pa,_,_,rfl,rfl,.inr ⟨dw.of (sa _ _ hr),dw.of ha⟩,.inr (.inl rfl),?_⟩;have e:decide (o.map V.str=[])=decide (o=[]):=by simp
  rw[e];exact⟨_,rfl,hR _ sa⟩
 refine oP 2 (TJ o1 o2 p6 p8) (fun i σ H'=>(∃v,σ=[v])/\au H9 H') ?_ nofun rfl ⟨⟨_,rfl⟩,au.refl _⟩ ?_ ?_ ?_ ?_
 ·intro i hi
  match i,hi with
  | 0,_=>exact zk _
  | 1,_=>show(if o1=[] then([]:List V) else [.ref p6]).length<=1;by_cases e:o1=[] <;> simp[e]
  | 2,_=>show(Bl o1 o2 p6 p8).length<=2;unfold Bl;by_cases e:o1=[] <;> by_cases e2:o2=[] <;> simp[e,e2]
 ·rintro i σ H' hi ⟨_,sm⟩
  exact CY (aG.of (sm _ _ h9)) hi
 ·rintro σ H' ⟨_,sm⟩
  exact⟨_,aG.of (sm _ _ h9),zk _⟩
 ·rintro i x σ H' H'' hi ⟨⟨v,rfl⟩,sm⟩ ⟨rfl,hy⟩
  have hx:=hy _ (aG.of (sm _ _ h9))
  match i,hi with
  | 0,_=>
   have ex:V.ref p6=x:=yj hx;subst ex;refine tst o1 p6 _ _ (sm _ _ h69) fun H3 s3=>?_
   by_cases e:o1=[]
   ·rw[ze e]
    exact HF.skip nofun (by show(if o1=[] then([]:List V) else [.ref p6])=[];rw[if_pos e]) ⟨⟨_,rfl⟩,sm.trans s3⟩
   ·rw[zd e]
    change HF.push nofun (by show(if o1=[] then([]:List V) else [.ref p6])=[]++[.ref p6];rw[if_neg e];rfl) ⟨⟨_,rfl⟩,sm.trans s3⟩
  | 1,_=>
   have ex:V.ref p8=x:=yj hx;subst ex;refine tst o2 p8 _ _ (sm _ _ h89) fun H3 s3=>?_
   by_cases e:o2=[]
   ·rw[ze e]
    exact HF.skip nofun (by show Bl o1 o2 p6 p8=(if o1=[] then([]:List V) else [.ref p6]);unfold Bl;rw[if_pos e,zU]) ⟨⟨_,rfl⟩,sm.trans s3⟩
   ·rw[zd e]
    change HF.push nofun (by show Bl o1 o2 p6 p8=(if o1=[] then([]:List V) else [.ref p6])++[.ref p8];unfold Bl;rw[if_neg e]) ⟨⟨_,rfl⟩,sm.trans s3⟩
 ·rintro σ H' ⟨_,sm⟩ D5 n5'
  generalize hU:upd H' D5 _=H5;have s5:au H9 H5:=sm.trans (au.kB hU n5');have hD5:H5 D5=some (.lst (Bl o1 o2 p6 p8)):=kI hU;clear hU;have rl5:=Qe (s5 _ _ h69) (s5 _ _ h89);have tl:=rl5.len;have t2:=JD o1 o2;exists D5,_,rfl,.inl (aG.of hD5),?_;rw[tl];left;refine⟨_,_,rfl,zV m0 ∅,?_,nofun,nofun,fun nms pn2 H6 nl nok s6 h6=>?_⟩
  ·have:=zW (a:=m) 80 m0;omega
  left;have nl':nms.length=(two o1 o2).length:=by rw[nl];omega
  refine⟨false,false,pn2,D5,_,_,rfl,aG.of h6,aG.of (s6 _ _ hD5),by rw[za,tl];exact nl',fun l H7 us s7 n7 h7 pr=>?_⟩;rw[za] at pr;refine kk (nms.zip (two o1 o2)) l us H7 (Kt pn (by rw[fl];exact o0n) (by rw[fl];exact o0i) (by rw[fl];exact o0l) nl' nok) (((s09.trans s5).trans s6).trans s7) h7 (xy nl' ?_ pr);exact rl5.imp fun o v ⟨r,e1,e2⟩=>⟨r,e1,s7 _ _ (s6 _ _ e2)⟩
inductive wa (vs:List V) (H:Hp) (Q:VK) (E:XK):Prop
 | mk (m first last times:Int) (_:vs=[.int m,.int first,.int last,.int times]) (_:0<=m) (_:m<1099511627776) (_:0<=first) (_:first<=last) (_:last<=200) (_:2<=times) (_:times<=9) (_:∀(es:List Sc.End) v H',Kf first last times es->au H H'->Is H' (.tup (es.map nu)) v->Q v H')
def Jx (first last:Int) (bs:List Int):Prop:=bs≠[]/\bs.Pairwise (·<·)/\∀b∈bs,first<=b/\b<=last
def NW {first last:Int} {bs:List Int} (h:Jx first last bs):∃b,(bs.map V.int)[(bs.map V.int).length-1]?=some (.int b)/\first<=b/\b<=last/\∀x∈bs,x<=b:=by
 obtain⟨ne,asc,hin⟩:=h;have e:=List.dropLast_concat_getLast ne;have hm:=List.getLast_mem ne;refine⟨bs.getLast ne,?_,(hin _ hm).1,(hin _ hm).2,fun x hx=>?_⟩
 ·rw[za,zJ,List.getLast_eq_getElem,zb (by have:=yq.mpr ne;omega)];rfl
 ·rw[<-e] at hx asc
  rw[zT] at asc;rcases zF.mp hx with z | z
  ·exact Int.le_of_lt (asc.2.2 x z _ (zy.mpr rfl))
  ·rw[zy.mp z];exact Int.le_refl _
def NV {first last b c:Int} {bs:List Int} (h:Jx first last bs) (hb:∀x∈bs,x<=b) (h1:first<=b) (h2:b<c) (h3:c<=last):Jx first last (bs++[c]):=by
 obtain⟨ne,asc,hin⟩:=h;refine⟨by simp,?_,fun x hx=>?_⟩
 ·rw[zT]
  refine⟨asc,by simp,fun x hx y hy=>?_⟩;have ey:y=c:=by simpa using hy
  have:=hb x hx;omega
 ·rcases zF.mp hx with z | z
  ·exact hin x z
  ·have ey:x=c:=by simpa using z
   omega
noncomputable def nc (m:Int) (n k:Nat):Nat:=if k<n then(k+(m/90).toNat)%n else(m/((k:Int)+7)%(n:Int)).toNat
def eC:aC ["_law_m","_law_first","_law_last","_law_times","_law_begins","_law_passes","_law_k","_law_spot"] ["_law_m","_law_first","_law_last","_law_times"] (ao ox):=dy
def wC:cX P w base 1 T.mn wa:=by
 nomatch T.mn,eC
 obtain⟨m,first,last,times,rfl,m0,m1,f0,fl,l1,t0,t1,kk⟩:=h;have sl:=yB;refine⟨_,(ag (aH (PW.pt (eE (ptr dg (pv 2) (pv 1)) (dP (ptr dg (ar aO (pv 0) ae) ae))))
  (aj (aq (bj af)))
  ax)
  (ag (bT 4 eC.nd (bg (aa (ar aW (pv 1) (ar aO (ar aP (pv 0) ae) (ar aW (ar iw (pv 2) (pv 1)) ae))) af)))
  (ag (sJ PassesOwn.never (PW.pt (dr (ptr fw (eQ aB T.bu (aa (pv 4) af)) (pv 3)) (dr (ptr fw (fL (pv 4) (sN lF ae)) (pv 2)) (cR (ptr fi (ar aO (ar aP (pv 0) (ar aW (ar dY ae (eQ aB T.bu (aa (pv 4) af))) ae)) ae) ae)))))
  (aj (bM (b7 yC yE yD bz (pv 4) (aa (eQ (Lq rfl) T.Sd (aa (pv 2) (aa (ar aW (ar aW (fL (pv 4) (sN lF ae)) ae) (ar aO (ar aP (pv 0) (ar aW (eQ aB T.bu (aa (pv 4) af)) ae)) ae)) af))) af)))))
  (ag (M3 (i:=5) (ts:=["_law_begin"]) (ys:=[]) (js:=[]) (te:=(Fy eK)) (bc (pv 4)) (gy 0) bw (bg af) eC.nd)
  (ag (cA PassesOwn.never rfl (cS (by rfl) T.dH (aa (pv 3) af)) (jA 6 eC.nd)
  (ag (bT 7 eC.nd (F4 (ptr fw (pv 6) (eQ aB T.bu (aa (pv 4) af))) (ar aO (ar aW (pv 6) (ar aP (pv 0) ae)) (eQ aB T.bu (aa (pv 4) af))) (ar aO (ar aP (pv 0) (ar aW (pv 6) ae)) (eQ aB T.bu (aa (pv 4) af)))))
   (aj (bM (b7 yC yE yD bz (fL (pv 5) (pv 7)) (aa (ar aW (pv 6) ae) af))))))
  (aj (aq (ng cN T.gP (aa (pI (ts:=["_law_begin","_law_some"]) (ys:=[]) (js:=[]) (g:=(GC K 2 (gb (bV 0) (gb (bV 1) GD)))) (te:=(Dn (bC (aX 0) (bC (Kr (QF K) (bC (aX 1) eK)) eK)))) (MU (by rfl) T.M9 (aa (pv 4) (aa (pv 5) af))) (d6 (n:=2) rfl (aK (gy 0) (aK (gy 1) cZ))) bw (bj (aa (pv 0) (aa (ng cN T.gP (aa (pv 1) af)) af)))) af))))))))),?_⟩
 ac_rfl;left;have none_:∀(Hq:Hp),au H Hq->(∀p,Hq p=none->Q (.ref p) (upd Hq p (.tup []))):=fun Hq sq p n=>kk [] (.ref p) _ K9 (sq.trans (aR n)) (cB aA cH);refine JQ (decide (V.int last=V.int first)||decide (V.int (m%3)=V.int 0)) ?_ ?_ ?_
 ·intro c1 Z hz
  rw[c1,Bool.false_or] at hz;change hz
 ·intro c1;rw[c1,Bool.true_or]
 cases qv:(decide (V.int last=V.int first)||decide (V.int (m%3)=V.int 0)) with
 | true=>
  change⟨by show 0<=sizeLine;omega,none_ H (au.refl _)⟩
 | false=>
 exists by show 0<last-first+1;omega,?_
 have a0:0<=m/3%(last-first+1):=zv _ nofun;have a1:m/3%(last-first+1)<last-first+1:=zr _ nofun;exists by show 1<=sizeLine;omega,fun B nB=>?_
 generalize hU1:upd H B _=H1;have s1:au H H1:=au.kB hU1 nB;have h1:H1 B=some (.lst ([first+m/3%(last-first+1)].map V.int)):=kI hU1;have b1:Jx first last [first+m/3%(last-first+1)]:=by
  refine⟨by simp,by simp,fun b hb=>?_⟩;have:b=first+m/3%(last-first+1):=by simpa using hb
  omega
 clear hU1;left;refine Cr (fun n σ H'=>∃bs:List Int,n=9-bs.length/\σ=[some (.int m),some (.int first),some (.int last),some (.int times),some (.ref B),none,none,none]/\au H H'/\H' B=some (.lst (bs.map V.int))/\Jx first last bs/\(bs.length:Int)<=times)
  (fun σ H'=>∃bs:List Int,σ=[some (.int m),some (.int first),some (.int last),some (.int times),some (.ref B),none,none,none]/\au H H'/\H' B=some (.lst (bs.map V.int))/\Jx first last bs/\(bs.length:Int)<=times)
  ⟨_,_,rfl,rfl,s1,h1,b1,by show(1:Int)<=times;omega⟩ ?_ ?_
 ·rintro n σ H2 ⟨bs,rfl,rfl,s2,h2,b2,bl⟩ N hN
  obtain⟨lb,hlb,lb0,lb1,lbx⟩:=NW b2;have out:=hN _ _ ⟨bs,rfl,s2,h2,b2,bl⟩;exists B,_,rfl,.inl (aG.of h2),?_;rw[za];left;have q0:0<=m/(7*(bs.length:Int)+5)%4:=zv _ ∅;refine eI (decide ((bs.length:Int)<times)&&(decide (lb<last)&&decide (0<m/(7*(bs.length:Int)+5)%4))) ?_ ?_ ?_
  ·intro c1 Z hz
   rw[c1,Bool.true_and] at hz;exists B,_,-1,_,rfl,rfl,aG.of h2,tN hlb,?_;left;refine eI (decide (lb<last)&&decide (0<m/(7*(bs.length:Int)+5)%4)) ?_ ?_ hz
   ·intro c2 Z hz
    rw[c2,Bool.true_and] at hz;exists B,_,rfl,.inl (aG.of h2),?_;rw[za];exists⟨by show 0<7*(bs.length:Int)+5;omega,by show 7*(bs.length:Int)+5<1073741824;omega⟩,?_;change hz
   ·intro c2;rw[c2,Bool.false_and]
  ·intro c1;rw[c1,Bool.false_and]
  cases qw:(decide ((bs.length:Int)<times)&&(decide (lb<last)&&decide (0<m/(7*(bs.length:Int)+5)%4))) with
  | false=>exact cE rfl out
  | true=>
   simp only[zN,decide_eq_true_eq] at qw;obtain⟨c1,c2,c3⟩:=qw;refine ck rfl ⟨fun σ H'=>∃bs':List Int,bs'.length=bs.length+1/\σ=[some (.int m),some (.int first),some (.int last),some (.int times),some (.ref B),none,none,none]/\au H H'/\H' B=some (.lst (bs'.map V.int))/\Jx first last bs'/\(bs'.length:Int)<=times,?_,?_⟩
   ·rintro σ' H' ⟨bs',e1,e2,e3,e4,e5,e6⟩
    exact⟨9-bs'.length,nofun,bs',rfl,e2,e3,e4,e5,e6⟩
   exists .inl ⟨rfl,_,aG.of h2⟩,?_;exists B,_,-1,_,rfl,rfl,aG.of h2,tN hlb,?_;exists B,_,rfl,.inl (aG.of h2),?_;rw[za];exists⟨by show 0<(bs.length:Int)+11;omega,by show(bs.length:Int)+11<1073741824;omega⟩,?_;left;have r0:0<=m/((bs.length:Int)+11)%3:=zv _ ∅;refine⟨_,_,rfl,?_⟩;exists B,_,_,rfl,rfl,h2,by rw[za];omega,?_
   left;refine⟨bs++[if lb+1+m/((bs.length:Int)+11)%3<last then lb+1+m/((bs.length:Int)+11)%3 else last],by rw[zg];rfl,rfl,bX nB s2,by rw[aA,zj];rfl,NV b2 lbx lb0 ?_ ?_,by rw[zg];show((bs.length+1:Nat):Int)<=times;omega⟩
   ·split <;> omega
   ·split <;> omega
 ·clear s1 h1 b1
  rintro σ1 H1 ⟨bs,rfl,s1,h1,b1,bl⟩;have bp:0<bs.length:=yq.mpr b1.1;exists⟨_,aG.of h1⟩,?_;refine EJ (by rw[za];omega) (aG.of h1) ⟨none,rfl⟩ fun D qs H2 s2 nD h2 nd nDq ql hq=>?_;rw[za] at ql;exists by omega,nofun,?_
  have neB:∀q∈qs,q≠B:=fun q hq' e=>by
   have:=(hq q hq').1;rw[e,h1] at this;cases this
  have tn:((times.toNat:Nat):Int)=times:=nofun
  refine gC (fun k σ H'=>∃(v6 v7:Option V),σ=[some (.int m),some (.int first),some (.int last),some (.int times),some (.ref B),some (.ref D),v6,v7]/\au H H'/\H' B=some (.lst (bs.map V.int))/\H' D=some (.lst (qs.map V.ref))/\∀(i:Nat) (q:Addr),qs[i]?=some q->H' q=some (.lst ((cO (nc m bs.length) k i).map V.int)))
   ⟨none,none,rfl,s1.trans s2,s2 _ _ h1,h2,fun i q e=>(hq q (zB e)).2⟩ ?_ ?_
  ·intro k σ H3 hk hh
   refine cY fun N kN0 kR0 _ _=>?_;obtain⟨v6,v7,rfl,s3,hB3,hD3,hq3⟩:=hh;left;have m90:0<=m/90:=zV m0 ∅;have sl0:nc m bs.length k<bs.length:=by
    unfold nc;split
    ·exact Nat.mod_lt _ bp
    ·have:=zr (m/((k:Int)+7)) (b:=(bs.length:Int)) nofun
     have:=zv (m/((k:Int)+7)) (b:=(bs.length:Int)) nofun;omega
   refine⟨B,_,rfl,.inl (aG.of hB3),?_⟩;rw[za];left;refine Uy (H:=H3) (.int ((nc m bs.length k:Nat):Int)) ?_ ?_ ?_
   ·intro c1 Z hz
    have c1':k<bs.length:=by have:=yd c1;omega
    have e:((nc m bs.length k:Nat):Int)=(0+(k:Int)+m/90)%(bs.length:Int):=by
     unfold nc;rw[if_pos c1',Int.natCast_emod,Int.natCast_add,Int.toNat_of_nonneg m90,Int.zero_add]
    rw[e] at hz;exists B,_,rfl,.inl (aG.of hB3),?_;rw[za];change⟨by show 0<(bs.length:Int);omega,hz⟩
   ·intro c1 Z hz
    have c1':¬k<bs.length:=by have:=of_decide_eq_false c1;omega
    have e:((nc m bs.length k:Nat):Int)=m/(0+(k:Int)+7)%(bs.length:Int):=by
     unfold nc;rw[if_neg c1',Int.zero_add,Int.toNat_of_nonneg (zv _ nofun)]
    rw[e] at hz;exists⟨by show 0<0+(k:Int)+7;omega,by show 0+(k:Int)+7<1073741824;omega⟩,?_;exists B,_,rfl,.inl (aG.of hB3),?_;rw[za];change⟨by show 0<(bs.length:Int);omega,hz⟩
   left;have qe:qs[nc m bs.length k]?=some (qs[nc m bs.length k]'nofun):=zb nofun;generalize qs[nc m bs.length k]'nofun=q at qe;have qm:=zB qe;refine⟨D,_,_,.ref q,rfl,rfl,aG.of hD3,bx (by rw[zJ,qe];rfl),?_⟩;have hq3':=hq3 _ _ qe;refine⟨.inl ⟨rfl,_,aG.of hq3'⟩,?_⟩;exists q,_,_,rfl,rfl,hq3',by rw[za];have:=y8 (sp:=nc m bs.length) (i:=nc m bs.length k) (k:=k);omega,?_
   exists _,_,rfl,bX (s1.back (hq q qm).1) s3,by rw[aD (neB q qm).symm];exact hB3,by rw[aD (fun z=>nDq (by rw[z];exact qm))];exact hD3,fun i q' e=>?_
   by_cases ei:i=nc m bs.length k
   ·have:q'=q:=by rw[ei,qe] at e;exact(yj e).symm
    rw[this,aA,cO,if_pos ei,zj,Int.zero_add,ei];rfl
   ·have nq:q'≠q:=fun z=>by
     rw[z] at e;exact ei (Gr nd e qe)
    rw[aD nq,cO,if_neg ei];exact hq3 i q' e
  ·rintro σ H3 ⟨v6,v7,rfl,s3,hB3,hD3,hq3⟩
   left;have eb:=uw V.int 0 bs;have eq:=uw V.ref 0 qs;rw[ql] at eq;refine⟨false,false,B,D,_,_,rfl,aG.of hB3,aG.of hD3,?_⟩;refine Jb (ws:=List.range bs.length) (e1:=fun i=>.int (bs.getD i 0)) (e2:=fun i=>.ref (qs.getD i 0)) (fun i=>nu (bs.getD i 0,cO (nc m bs.length) times.toNat i)) (fun σ=>∃v w,σ=[v,w]) (by rw[zQ];omega) (by rw[eb];exact aG.of hB3) (by rw[eq];exact aG.of hD3) ⟨none,none,rfl⟩ ?_ ?_
   ·rintro i σ H4 p R hi s4 hp ⟨v,w',rfl⟩ rr
    have il:=List.mem_range.mp hi;have qe:qs[i]?=some (qs.getD i 0):=by rw[List.getD_eq_getElem?_getD,zb nofun];rfl
    have h5:=s4 _ _ (hq3 i _ qe);refine⟨p,_,rfl,dw.of hp,rfl,?_⟩;refine⟨_,_,rfl,⟨_,_,rfl,⟨rfl,?_⟩⟩⟩;left;refine⟨_,_,rfl,.inl ⟨aG.of h5,?_⟩⟩;intros p6 H6 s6 h6;exists cx,?_;intros p7 H7 s7 h7;exact rr _ _ _ (s6.trans s7) (cB h7 (aL cP (aL (cB (s7 _ _ h6) tw) cH))) ⟨_,_,rfl⟩
   ·intro D5 vs5 H5 s5 _ h5 il5
    rw[La] at il5;left;refine⟨D5,_,rfl,.inl ⟨aG.of h5,?_⟩⟩;intros p6 H6 s6 h6;refine kk _ _ _ ?_ ((s3.trans s5).trans s6) (cB h6 (il5.mono s6));have:=IP (first:=first) (last:=last) (t:=times.toNat) (bs:=bs) (sp:=nc m bs.length) nofun b1.1 b1.2.1 b1.2.2 ?_ ?_ nofun
    ·rw[tn] at this;exact this
    ·intro j hj
     unfold nc;split
     ·exact Nat.mod_lt _ bp
     ·have:=zr (m/((j:Int)+7)) (b:=(bs.length:Int)) nofun
      have:=zv (m/((j:Int)+7)) (b:=(bs.length:Int)) nofun;omega
    ·intro i hi
     obtain⟨j,hj,ej⟩:=Om (c:=(m/90).toNat) hi;exact⟨j,nofun,by unfold nc;rw[if_pos hj];exact ej⟩
def Fc (many:Int) (r:Rep):Prop:=0<=r.first/\r.first<=r.last/\r.last<many/\2<=r.times/\r.times<=9/\Kf r.first r.last r.times r.ends
def De (many:Int) (rs:List Rep):Prop:=rs.length<=4/\(∀r∈rs,Fc many r)/\rs.Pairwise fun a b=>a.last<b.first
inductive qB (vs:List V) (H:Hp) (Q:VK) (E:XK):Prop
 | mk (c many:Int) (_:vs=[.int c,.int many]) (_:many<=200) (_:∀(rs:List Rep) D us H',De many rs->au H H'->H' D=some (.lst us)->ay H' (rs.map jO) us->Q (.ref D) H')
def bA:aC ["_law_cell","_law_many","_law_repeats","_law_bar","_law_k","_law_m","_law_first","_law_last","_law_times"] ["_law_cell","_law_many"] (ao jV):=dy
def qW:cX P w base 2 T.iE qB:=by
 nomatch T.iE,bA
 obtain⟨c,many,rfl,my,kk⟩:=h;have sl:=yB;refine⟨_,(ag (bT 2 bA.nd (bg af))
  (ag (bT 3 bA.nd ae)
  (ag (cA PassesOwn.never rfl (cS (by rfl) T.dH (aa ae af)) (jA 4 bA.nd)
  (ag (bT 5 bA.nd (bJ (bO T) hr T.cC (aa (pv 0) (aa (ar aW (pv 4) ae) af))))
   (ag (bT 6 bA.nd (ar aW (pv 3) (ar aO (pv 5) ae)))
   (ag (bT 7 bA.nd (ar aW (pv 6) (ar aO (ar aP (pv 5) ae) ae)))
   (aj (aH (PW.pt (dr (ptr fw (pv 7) (pv 1)) (cR (ptr fi (ar aO (ar aP (pv 5) ae) ae) ae))))
   (ag (bT 8 bA.nd (ar aW ae (ar aO (ar aP (pv 5) ae) (fL (bg (aa ae (aa ae (aa ae af)))) (ar aO (ar aP (pv 5) ae) ae)))))
    (ag (bM (b7 yC yE yD bz (pv 2) (aa (bj (aa (pv 6) (aa (pv 7) (aa (pv 8) (aa (bJ (wC T) hr T.mn (aa (ar aP (pv 5) ae) (aa (pv 6) (aa (pv 7) (aa (pv 8) af))))) af))))) af)))
    (aj (bT 3 bA.nd (ar aW (pv 7) ae)))))
   ax))))))
  (aj (aq (pv 2)))))),?_⟩
 ac_rfl;exists by show 0<=sizeLine;omega,?_
 intro D nD;have s2:au H (upd H D (.lst [])):=aR nD;have h2:upd H D (.lst []) D=some (.lst []):=aA;generalize upd H D (.lst [])=H2 at s2 h2 ⊢;exists by decide,(by decide),?_
 refine gC (fun i σ H'=>∃(rs:List Rep) (us:List V) (bar:Int),Lo [some (.int c),some (.int many),some (.ref D),some (.int bar)] 5 σ/\au H H'/\H' D=some (.lst us)/\ay H' (rs.map jO) us/\rs.length<=i/\0<=bar/\(∀r∈rs,Fc many r/\r.last<bar)/\rs.Pairwise fun a b=>a.last<b.first)
  ⟨[],[],0,Lo.of rfl rfl,s2,h2,cH,zk _,∅,by simp,by simp⟩ ?_ ?_
 ·intro i σ H3 hi hh
  refine cY fun N kN0 kR0 _ _=>?_;obtain⟨rs,us,bar,⟨e,rfl⟩,s3,h3,il3,rl,b0,rok,asc⟩:=hh;exists c,_,rfl,nofun,nofun,?_;have m0:0<=mixed c (0+(i:Int)+500):=zv _ ∅;have m1:mixed c (0+(i:Int)+500)<2147483399:=zr _ ∅;generalize mixed c (0+(i:Int)+500)=m at m0 m1;have a0:0<=m%4:=zv _ ∅;have e0:0<=m/4%8:=zv _ ∅;left;refine eI (decide (bar+m%4+m/4%8<many)&&decide (0<m/32%4)) ?_ ?_ ?_
  ·intro c1 Z hz
   rw[c1,Bool.true_and] at hz;change hz
  ·intro c1;rw[c1,Bool.false_and]
  cases qw:(decide (bar+m%4+m/4%8<many)&&decide (0<m/32%4)) with
  | false=>
   change⟨rs,us,bar,Lo.of rfl rfl,s3,h3,il3,nofun,b0,rok,asc⟩
  | true=>
   simp only[zN,decide_eq_true_eq] at qw;obtain⟨c1,c2⟩:=qw;exists by show 3<=sizeLine;omega,?_
   intros p4 H4 s4 h4;have g0:0<=m/1024%3:=zv _ ∅;have g1:m/1024%3<3:=zr _ ∅;obtain⟨jj,hjj⟩:∃j:Nat,m/1024%3=(j:Int):=⟨(m/1024%3).toNat,nofun⟩
   obtain⟨z,hz,z0,z1⟩:∃z:Int,[V.int 2,V.int 3,V.int 8][jj]?=some (.int z)/\2<=z/\z<=8:=by
    have:jj<3:=nofun
    match jj,this with
    | 0,_=>exact⟨2,rfl,∅,∅⟩
    | 1,_=>exact⟨3,rfl,∅,∅⟩
    | 2,_=>exact⟨8,rfl,∅,∅⟩
   exists p4,_,m/1024%3,.int z,rfl,rfl,aG.of h4,(by rw[hjj];exact bx hz),?_;exists by show 0<z;omega,?_
   have t0:0<=m/128%z:=zv _ nofun;have t1:m/128%z<z:=zr _ nofun;exists .inl ⟨rfl,_,aG.of (s4 _ _ h3)⟩,?_;left;refine⟨_,_,_,_,rfl,zV m0 ∅,?_,nofun,nofun,nofun,nofun,nofun,fun es v H5 eok s5 h5=>?_⟩
   ·have:=zW (a:=m) 7 m0;omega
   exists by show 4<=sizeLine;omega,?_
   intros p6 H6 s6 h6;have s36:=s4.trans (s5.trans s6);have h36:=s36 _ _ h3;refine⟨D,us,_,rfl,rfl,h36,by have:=aT il3;omega,?_⟩;have nt:cT (H6 D):=by rw[h36];exact fun _ z=>by cases z
   have ix:Is H6 (jO ⟨bar+m%4,bar+m%4+m/4%8,2+m/128%z,es⟩) (.ref p6):=cB h6 (aL cP (aL cP (aL cP (aL (h5.mono s6) cH))));left;refine⟨rs++[⟨bar+m%4,bar+m%4+m/4%8,2+m/128%z,es⟩],_,_,Lo.of rfl rfl,bX nD (s3.trans s36),aA,?_,by rw[zg];show rs.length+1<=i+1;omega,nofun,fun r hr=>?_,?_⟩
   ·rw[zj]
    exact cW (Is.upd nt ix) (ay.upd nt (il3.mono s36))
   ·rcases zF.mp hr with y | y
    ·have:=rok r y
     exact⟨this.1,nofun⟩
    ·rw[zy.mp y]
     exact⟨⟨by show 0<=bar+m%4;omega,by show bar+m%4<=bar+m%4+m/4%8;omega,c1,by show 2<=2+m/128%z;omega,by show 2+m/128%z<=9;omega,eok⟩,by show bar+m%4+m/4%8<bar+m%4+m/4%8+1;omega⟩
   ·rw[zT]
    refine⟨asc,by simp,fun a ha b hb=>?_⟩;have eb:b=⟨bar+m%4,bar+m%4+m/4%8,2+m/128%z,es⟩:=by simpa using hb
    rw[eb];have:=(rok a ha).2;show a.last<bar+m%4;omega
 ·rintro σ H3 ⟨rs,us,bar,⟨e,rfl⟩,s3,h3,il3,rl,b0,rok,asc⟩
  change kk rs D us H3 ⟨rl,fun r hr=>(rok r hr).1,asc⟩ s3 h3 il3
def P1 (H:Hp) (p:Addr) (rs:List Rep):Prop:=rs.length<=1000/\(∀r∈rs,r.ends.length<=1000)/\∃rv,H p=some (.lst rv)/\ay H (rs.map jO) rv
theorem P1.mono {H H':Hp} (s:au H H') {p:Addr} {rs:List Rep} (h:P1 H p rs):P1 H' p rs:=by
 obtain⟨h1,h2,rv,h3,h4⟩:=h;exact⟨h1,h2,rv,s _ _ h3,h4.mono s⟩
inductive ig (vs:List V) (H:Hp) (Q:VK) (E:XK):Prop
 | mk (p:Addr) (rs:List Rep) (b:Int) (_:vs=[.ref p,.int b]) (_:P1 H p rs) (_:∀H',au H H'->Q (.bl (kb rs b)) H')
inductive kr (vs:List V) (H:Hp) (Q:VK) (E:XK):Prop
 | mk (p:Addr) (rs:List Rep) (b:Int) (_:vs=[.ref p,.int b]) (_:P1 H p rs) (_:∀H',au H H'->Q (.bl (eY rs b)) H')
def BE:aC ["_law_repeats","_law_bar"] ["_law_repeats","_law_bar"] (ao su):=dy
def qp:cX P w base 1 T.mm kr:=by
 nomatch T.mm,BE
 obtain⟨p,rs,b,rfl,⟨rl,el,rv,hp,il⟩,kk⟩:=h;have sl:=yB;obtain⟨ps,e1,e2,e3⟩:=hV il;have pln:ps.length=rs.length:=by rw[<-e1,za]
 refine⟨_,(aj (aq (eQ (gI rfl) T.Al (aa (pI (ts:=["_law_first","_law_last","_law_times","_law_ends"]) (ys:=["_law_bar"]) (js:=[1]) (g:=(GC K 4 (gb (bV 0) (gb (bV 1) (gb (bV 2) (gb (bV 3) GD)))))) (te:=(xM (wt fun i j=>.bl (decide (i<j))) (wt fun i j=>.bl (decide (i<=j))) (aX 0) (aX 4) (aX 1))) (bc (pv 0)) (d6 (n:=4) rfl (aK (gy 0) (aK (gy 1) (aK (gy 2) (aK (gy 3) cZ))))) bw (F7 fw iK (pv 0) (pv 4) (pv 1))) af)))),?_⟩;ac_rfl;exists⟨_,aG.of hp⟩,?_;refine eA (enc:=fun q:Rep×V=>q.2) (ws:=ps) (fun q=>.bl (decide (q.1.first<b)&&decide (b<=q.1.last))) (fun σ=>∃v1 v2 v3 v4,σ=[v1,v2,v3,v4,some (.int b)]) nofun (by rw[e2];exact aG.of hp) ⟨_,_,_,_,rfl⟩ ?_ ?_
 ·rintro z σ H1 R hz s1 ⟨v1,v2,v3,v4,rfl⟩ rr
  obtain⟨a,e,ev,ha,_⟩:=fY ((e3 z hz).mono s1);rw[ev];refine⟨a,_,rfl,dw.of ha,rfl,?_⟩;refine⟨_,_,rfl,⟨_,_,rfl,⟨_,_,rfl,⟨_,_,rfl,⟨rfl,?_⟩⟩⟩⟩⟩;left
  by_cases c:z.1.first<b
  ·refine ck (ze c) ?_
   change rr _ _ _ (au.refl _) (by rw[ze c,Bool.true_and];unfold Is;rfl) ⟨_,_,_,_,rfl⟩
  ·refine cE (zd c) ?_
   exact rr _ _ _ (au.refl _) (by rw[zd c,Bool.false_and];unfold Is;rfl) ⟨_,_,_,_,rfl⟩
 ·intro D vs H1 s1 nD hD ilD
  have ee:ps.map (fun q:Rep×V=>Dt.bl (decide (q.1.first<b)&&decide (b<=q.1.last)))=(rs.map fun r=>decide (r.first<b)&&decide (b<=r.last)).map Dt.bl:=by rw[<-e1,zA,zA];rfl
  rw[ee] at ilD;rw[kC ilD] at hD;exists D,_,rfl,aG.of hD,?_;have:=kk _ s1;unfold eY at this;rw[List.any_map];exact this
def dA:aC ["_law_repeats","_law_bar","_law_first","_law_last","_law_times","_law_ends","_law_mine"] ["_law_repeats","_law_bar"] (ao oq):=dy
def mX:cX P w base 1 T.i7 ig:=by
 nomatch T.i7,dA
 obtain⟨p,rs,b,rfl,⟨rl,el,rv,hp,il⟩,kk⟩:=h;have sl:=yB;have rvl:=aT il;refine⟨_,(ag (cA PassesOwn.never rfl (bc (pv 0)) (d6 (n:=4) rfl (aK (jA 2 dA.nd) (aK (jA 3 dA.nd) (aK (jA 4 dA.nd) (aK (jA 5 dA.nd) cZ)))))
  (aj (aH (MO iK iK (pv 2) (pv 1) (pv 3))
   (ag (M3 (i:=6) (ts:=["_law_begin","_law_passes"]) (ys:=["_law_bar"]) (js:=[1]) (g:=(GC K 2 (gb (bV 0) (gb (bV 1) GD)))) (tc:=(nJ (fH (wt fun i j=>.bl (decide (i<=j))) (aX 0) (aX 2)))) (te:=(aX 1)) (kA (pv 5)) (d6 (n:=2) rfl (aK (gy 0) (aK (gy 1) cZ))) (fZ (ptr iK (pv 0) (pv 2))) (pv 1) dA.nd)
    (aj (aq (MW (dG (Ac hr.units) (pv 6) (bg af) (gz _)) (oC (dG o7 (pv 4) (fL (pv 6) (sN lF ae)) (by with_unfolding_all rfl)))))))
   ax)))
  (aj (aq oF))),?_⟩
 ac_rfl;exists⟨_,aG.of hp⟩,?_;refine dJ (K:=K) (a:=p) (xs:=rv) (fun i σ H'=>H'=H/\(∀r∈rs.take i,Fj r b=false)/\∃(v2 v3 v4 v5 v6:Option V),σ=[some (.ref p),some (.int b),v2,v3,v4,v5,v6]) ⟨rfl,by simp,none,none,none,none,none,rfl⟩ (fun i σ H' _ h=>by rw[h.1];exact aG.of hp) ?_ ?_
 ·rintro i x σ H1 hx ⟨rfl,no,v2,v3,v4,v5,v6,rfl⟩
  obtain⟨r,hr',ir⟩:=dZ il hx;obtain⟨a,ep,rfl,ha,ie⟩:=fY ir;have rin:=zB hr';have nxt:Fj r b=false->∀y∈rs.take (i+1),Fj y b=false:=fun e y hy=>by
   rw[dC hr'] at hy;rcases zF.mp hy with z | z
   ·exact no y z
   ·rw[zy.mp z];exact e
  refine⟨a,_,rfl,dw.of ha,rfl,?_⟩;refine⟨_,_,rfl,⟨_,_,rfl,⟨_,_,rfl,⟨_,_,rfl,⟨rfl,?_⟩⟩⟩⟩⟩;left
  by_cases c1:r.first<=b
  ·refine ck (ze c1) ?_
   left
   by_cases c2:b<=r.last
   ·refine ck (ze c2) ?_
    left;obtain⟨ep',evs,e0,hep,ile⟩:∃ep' evs,V.ref ep=.ref ep'/\H1 ep'=some (.tup evs)/\ay H1 (r.ends.map nu) evs:=by unfold Is at ie;exact ie
    cases e0;obtain⟨ps,e1,e2,e3⟩:=hV ile;have pln:ps.length=r.ends.length:=by rw[<-e1,za]
    have elr:=el r rin;refine⟨⟨_,dw.of hep⟩,?_⟩;have hro:dS rs b=some r:=Aw hr' (by rw[ze c1,ze c2];rfl) fun y hy=>no y hy;refine rg (ws:=ps) (enc:=fun q:Sc.End×V=>q.2) (fun q=>decide (q.1.1<=b)) (fun q=>vO q.1.2) (fun σ=>∃v w',σ=[v,w',some (.int b)]) nofun ⟨_,_,rfl⟩ (fun i H hi sm=>IH (jd sm hep) (by rw[<-e2,za];exact hi)) (fun H sm=>⟨_,jd sm hep,by rw[<-e2,za];exact zk _⟩) ?_ ?_ ?_
    ·rintro i x H H2 hi sm ⟨rfl,hy⟩
     have hx':=hy _ (jd sm hep);rw[<-e2,zJ,zb hi] at hx';cases hx';exact⟨rfl,rfl⟩
    ·rintro z σ H2 R N hz s2 ⟨v,w',rfl⟩ rr nn
     obtain⟨a2,q2,ev,ha2,hq2⟩:=uP ((e3 z hz).mono s2);rw[ev];refine⟨a2,_,rfl,dw.of ha2,rfl,?_⟩;refine⟨_,_,rfl,⟨_,_,rfl,⟨rfl,?_⟩⟩⟩;left
     by_cases c3:z.1.1<=b
     ·refine ck (ze c3) ?_
      change rr (ze c3) _ _ _ (au.refl _) (cB hq2 tw) ⟨_,_,rfl⟩
     ·refine cE (zd c3) ?_
      exact nn (zd c3) _ _ (au.refl _) ⟨_,_,rfl⟩
    ·intro D vs H2 s2 nD hD ilD
     have ee:(ps.filter fun q:Sc.End×V=>decide (q.1.1<=b)).map (fun q=>vO q.1.2)=((r.ends.filter fun e=>decide (e.1<=b)).map (·.2)).map vO:=by
      rw[<-e1,List.filter_map,zA,zA];rfl
     rw[ee] at ilD;have vl:=aT ilD;rw[za] at vl;exists by show 0<=sizeLine;omega,?_
     intros p3 H3 s3 h3;refine⟨D,p3,_,_,rfl,rfl,.inl ⟨aG.of (s3 _ _ hD),aG.of h3⟩,.inr (.inl rfl),?_⟩;have hlp:kb rs b=(match (r.ends.filter fun e=>decide (e.1<=b)).getLast? with | none=>true | some e=>decide (r.times∈e.2)):=by unfold kb;rw[hro];try rfl
     rw[hlp] at kk;clear hlp ee;generalize (r.ends.filter fun e=>decide (e.1<=b))=fs at kk ilD vl;have s13:=s2.trans s3
     by_cases e:vs=[]
     ·refine⟨_,rfl,ck (ze e) ?_⟩
      have:fs=[]:=by
       rw[e] at vl;exact yr.mp vl.symm
      rw[this] at kk;exact kk _ s13
     ·refine⟨_,rfl,cE (zd e) ?_⟩
      have vp:0<vs.length:=yq.mpr e;obtain⟨ps5,hps5,i5⟩:=dZ ilD (i:=vs.length-1) (zb nofun);rw[zJ] at hps5;cases qf:fs[vs.length-1]? with
      | none=>rw[qf] at hps5;cases hps5
      | some en=>
       rw[qf] at hps5;have e5:en.2=ps5:=yj hps5;subst e5;have gl:fs.getLast?=some en:=by rw[List.getLast?_eq_getElem?,<-vl];exact qf
       rw[gl] at kk;unfold vO Is at i5;obtain⟨a5,us5,ev5,ha5,il5⟩:=i5;rw[fG il5] at ha5;left;refine⟨D,vs,-1,_,rfl,rfl,aG.of (s3 _ _ hD),tN (zb nofun),?_⟩;rw[ev5];refine⟨a5,_,rfl,.inr (dw.of (s3 _ _ ha5)),rfl,by rw[List.all_map];exact yo.mpr fun x _=>rfl,?_⟩;show Q (.bl (Fi (.int r.times) (en.2.map V.int))) _;rw[xq];exact kk _ s13
   ·refine cE (zd c2) ?_
    change⟨nxt (by unfold Fj;rw[zd c2,Bool.and_false]),_,_,_,_,_,rfl⟩
  ·refine cE (zd c1) ?_
   change⟨nxt (by unfold Fj;rw[zd c1,Bool.false_and]),_,_,_,_,_,rfl⟩
 ·rintro σ H1 ⟨rfl,no,v2,v3,v4,v5,v6,rfl⟩
  left;have e:kb rs b=true:=by
   unfold kb;rw[show dS rs b=none from List.find?_eq_none.mpr fun y hy=>by
    have:=no y (by rw[rvl,zM];exact hy);unfold Fj at this;rw[this];simp]
  rw[e] at kk;exact kk _ (au.refl _)
def De.apart {many:Int} {rs:List Rep} (h:De many rs):Apart rs:=by
 refine⟨fun r hr=>?_,h.2.2⟩;obtain⟨h1,h2,h3,h4,h5,e1,e2,e3,e4,e5⟩:=h.2.1 r hr;exact⟨h2,e5,fun e he=>⟨(e3 e he).1,(e3 e he).2.1⟩⟩
inductive v8 (vs:List V) (H:Hp) (Q:VK) (E:XK):Prop
 | mk (c many:Int) (p:Addr) (rs:List Rep) (_:vs=[.int c,.int many,.ref p]) (_:P1 H p rs) (_:De many rs) (_:1<=many) (_:many<=200) (_:∀(jo:Option Jump) v H',(∀j,jo=some j->Pp many rs j)->au H H'->Is H' (dO jG jo) v->Q v H')
def J9 {l:List Int} {j:Nat} (h:j<l.length):∃x,(l.map V.int)[j]?=some (.int x)/\x∈l:=⟨l[j],by rw[zJ,zb h];rfl,yk h⟩
def IA {m:Int} {l:List Int} (h:l≠[]):∃x,Dd (l.map V.int) (m%(l.length:Int))=some (.int x)/\x∈l:=by
 have hp:0<l.length:=yq.mpr h;have a0:=zv m (b:=(l.length:Int)) nofun;have a1:=zr m (b:=(l.length:Int)) nofun;obtain⟨j,hj⟩:∃j:Nat,m%(l.length:Int)=(j:Int):=⟨(m%(l.length:Int)).toNat,nofun⟩
 obtain⟨x,e1,e2⟩:=J9 (l:=l) (j:=j) nofun;exact⟨x,by rw[hj];exact bx e1,e2⟩
def Hn (l:List Int):(l.map V.int).all mZ=true:=by rw[List.all_map];exact yo.mpr fun _ _=>rfl
def bN:aC ["_law_cell","_law_many","_law_repeats","_law_m","_law_lasts","_law_inside","_law_ats","_law_at","_law_tos","_law_to","_law_untils","_law_codas"] ["_law_cell","_law_many","_law_repeats"] (ao ou):=dy
def wB:cX P w base 2 T.mj v8:=by
 nomatch T.mj,bN
 obtain⟨c,many,p,rs,rfl,rsl,rd,mn1,mn2,kk⟩:=h;have sl:=yB;have ap:=rd.apart;obtain⟨rl,el,rv,hp,il⟩:=id rsl;obtain⟨ps,e1,e2,e3⟩:=hV il;have pln:ps.length=rs.length:=by rw[<-e1,za]
 refine⟨_,(ag (bT 3 bN.nd (bJ (bO T) hr T.cC (aa (pv 0) (aa ae af))))
  (ag (bT 4 bN.nd (pI (ts:=["_law_first","_law_last","_law_times","_law_ends"]) (ys:=[]) (js:=[]) (g:=(GC K 4 (gb (bV 0) (gb (bV 1) (gb (bV 2) (gb (bV 3) GD)))))) (te:=(aX 1)) (bc (pv 2)) (d6 (n:=4) rfl (aK (gy 0) (aK (gy 1) (aK (gy 2) (aK (gy 3) cZ))))) bw (pv 1)))
  (ag (bT 5 bN.nd (pI (ts:=["_law_bar"]) (ys:=["_law_repeats"]) (js:=[2]) (g:=(bV 0)) (tc:=(tB (Kr (T7 K) (bC (nK [none,some 0] (JW K (aX 1)) (bV 0) vU (xM (wt fun i j=>.bl (decide (i<=j))) (wt fun i j=>.bl (decide (i<=j))) (fH (qP K) (aX 0) (tC (.int (0)))) (aX 1) (fH (qP K) (aX 0) (tC (.int (1)))))) eK)))) (te:=(aX 0)) (cS (by rfl) T.dH (aa (pv 1) af)) (gy 0) (fZ (cz (eQ (gI rfl) T.Al (aa (pI (ts:=["_law_one"]) (ys:=["_law_bar"]) (js:=[0]) (te:=(xM (wt fun i j=>.bl (decide (i<=j))) (wt fun i j=>.bl (decide (i<=j))) (fH (qP K) (aX 0) (tC (.int (0)))) (aX 1) (fH (qP K) (aX 0) (tC (.int (1)))))) (bc (pv 1)) (gy 0) bw (F7 iK iK (bR (pv 0) ae) (pv 1) (bR (pv 0) ae))) af)))) (pv 0)))
  (ag (M3 (i:=6) (ts:=["_law_bar"]) (ys:=["_law_lasts","_law_inside"]) (js:=[4,5]) (g:=(bV 0)) (tc:=(TM (nJ (fH (RA K false) (aX 0) (aX 1))) (nJ (fH (RA K true) (aX 0) (aX 2))))) (te:=(aX 0)) (cS (by rfl) T.dH (aa (pv 1) af)) (gy 0) (fZ (PW.pt (eE (iQ o7 (pv 0) (pv 1) (by with_unfolding_all rfl)) (dP (iQ d7 (pv 0) (pv 2) (by with_unfolding_all rfl)))))) (pv 0) bN.nd)
  (ag (aH (PW.pt (eE (ptr dg (ar aO (ar aP (pv 3) ae) ae) ae) (dP (ptr (Ac hr.units) (pv 6) (bg af)))))
  (aj (aq aS))
  ax)
  (ag (bT 7 bN.nd (fL (pv 6) (ar aO (ar aP (pv 3) ae) (eQ aB T.bu (aa (pv 6) af)))))
  (ag (M3 (i:=8) (ts:=["_law_bar"]) (ys:=["_law_repeats"]) (js:=[2]) (g:=(bV 0)) (tc:=(Mg (tB (gn kr [] E0 (bC (aX 1) (bC (aX 0) eK)))))) (te:=(aX 0)) (cS (by rfl) T.dH (aa (ar aW (pv 7) ae) af)) (gy 0) (fZ (d5 (cz (bJ (qp T) hr T.mm (aa (pv 1) (aa (pv 0) af)))))) (pv 0) bN.nd)
  (ag (bT 9 bN.nd (fL (pv 8) (ar aO (ar aP (pv 3) ae) (eQ aB T.bu (aa (pv 8) af)))))
  (ag (M3 (i:=10) (ts:=["_law_bar"]) (ys:=["_law_repeats"]) (js:=[2]) (g:=(bV 0)) (tc:=(tB (gn ig [] E0 (bC (aX 1) (bC (aX 0) eK))))) (te:=(aX 0)) (CI (by rfl) T.dH (aa (pv 9) (aa (ar aW (pv 7) ae) af))) (gy 0) (fZ (cz (bJ (mX T) hr T.i7 (aa (pv 1) (aa (pv 0) af))))) (pv 0) bN.nd)
  (ag (M3 (i:=11) (ts:=["_law_bar"]) (ys:=["_law_repeats"]) (js:=[2]) (g:=(bV 0)) (tc:=(Qv (Mg (tB (gn kr [] E0 (bC (aX 1) (bC (aX 0) eK))))) (tB (gn ig [] E0 (bC (aX 1) (bC (aX 0) eK)))))) (te:=(aX 0)) (CI (by rfl) T.dH (aa (ar aW (pv 7) ae) (aa (pv 1) af))) (gy 0) (fZ (PW.pt (dr (d5 (cz (bJ (qp T) hr T.mm (aa (pv 1) (aa (pv 0) af))))) (cR (cz (bJ (mX T) hr T.i7 (aa (pv 1) (aa (pv 0) af)))))))) (pv 0) bN.nd)
  (ag (aH (ptr (Ac hr.units) (pv 10) (bg af))
  (aj (aq aS))
  ax)
  (aj (aq (bj (aa (pv 7) (aa (pv 9) (aa (fL (pv 10) (ar aO (ar aP (pv 3) ae) (eQ aB T.bu (aa (pv 10) af)))) (aa (fL (ar gO (bg (aa aS af)) (pv 11)) (ar aO (ar aP (pv 3) ae) (ar aW ae (eQ aB T.bu (aa (pv 11) af))))) af)))))))))))))))))),?_⟩
 ac_rfl;exists c,520,rfl,nofun,nofun,?_;have m0:0<=mixed c 520:=zv _ ∅;generalize mixed c 520=m at m0;exists⟨_,aG.of hp⟩,?_;refine eA (enc:=fun q:Rep×V=>q.2) (ws:=ps) (fun q=>.int q.1.last) (fun σ=>∃v1 v2 v3 v4,σ=[v1,v2,v3,v4]) nofun (by rw[e2];exact aG.of hp) ⟨_,_,_,_,rfl⟩ ?_ ?_
 ·rintro z σ H1 R hz s1 ⟨v1,v2,v3,v4,rfl⟩ rr
  obtain⟨a,e,ev,ha,_⟩:=fY ((e3 z hz).mono s1);rw[ev];refine⟨a,_,rfl,dw.of ha,rfl,?_⟩;refine⟨_,_,rfl,⟨_,_,rfl,⟨_,_,rfl,⟨_,_,rfl,⟨rfl,?_⟩⟩⟩⟩⟩;change rr _ _ _ (au.refl _) cP ⟨_,_,_,_,rfl⟩
 intro D4 vs4 H4 s4 _ hD4 il4;have ee:ps.map (fun q:Rep×V=>Dt.int q.1.last)=(rs.map (·.last)).map Dt.int:=by rw[<-e1,zA,zA];rfl
 rw[ee] at il4;rw[fG il4] at hD4;clear ee il4;exists by omega,nofun,?_
 have mt:((many.toNat:Nat):Int)=many:=nofun
 refine jH (rest:=[some (.ref p)]) (fun b=>rs.any fun r=>Fj r b) nofun ⟨none,rfl⟩ ?_ ?_
 ·intro i H5 R i0 i1 s5 hR
  have s05:=s4.trans s5;exists⟨_,aG.of (s05 _ _ hp)⟩,?_;refine eA (enc:=fun q:Rep×V=>q.2) (ws:=ps) (fun q=>.bl (Fj q.1 i)) (fun σ=>∃v1,σ=[v1,some (.int i)]) nofun (by rw[e2];exact aG.of (s05 _ _ hp)) ⟨_,rfl⟩ ?_ ?_
  ·rintro z σ H6 R hz s6 ⟨v1,rfl⟩ rr
   obtain⟨a,e,ev,ha,_⟩:=fY ((e3 z hz).mono (s05.trans s6));rw[ev];left
   by_cases c1:z.1.first<=i
   ·refine ck (ze c1) ?_
    change rr _ _ _ (au.refl _) (by unfold Fj;rw[ze c1,Bool.true_and];unfold Is;rfl) ⟨_,rfl⟩
   ·refine cE (zd c1) ?_
    exact rr _ _ _ (au.refl _) (by unfold Fj;rw[zd c1,Bool.false_and];unfold Is;rfl) ⟨_,rfl⟩
  ·intro D vs H6 s6 nD hD ilD
   have ee:ps.map (fun q:Rep×V=>Dt.bl (Fj q.1 i))=(rs.map fun r=>Fj r i).map Dt.bl:=by rw[<-e1,zA,zA];rfl
   rw[ee] at ilD;rw[kC ilD] at hD;exists D,_,rfl,aG.of hD,?_;rw[List.any_map];exact⟨_,rfl,hR _ s6⟩
 intro D5 H5 s5 _ hD5;have hD45:=s5 _ _ hD4;generalize hins:m6 (fun b=>rs.any fun r=>Fj r b) 0 many.toNat=ins at hD5;exists by omega,nofun,?_
 refine jH (rest:=[some (.ref D4),some (.ref D5)]) (fun b=>decide (b∈rs.map (·.last))||!decide (b∈ins)) nofun ⟨none,rfl⟩ ?_ ?_
 ·intro i H6 R i0 i1 s6 hR
  exists D4,_,rfl,.inl (aG.of (s6 _ _ hD45)),rfl,Hn _,?_;show∃k,V.bl (Fi (.int i) ((rs.map (·.last)).map V.int))=.bl k/\_;rw[xq];refine⟨_,rfl,?_⟩;refine JQ (decide (i∈rs.map (·.last))||!decide (i∈ins)) ?_ ?_ (hR _ (au.refl _))
  ·intro c1 Z hz
   rw[c1,Bool.false_or] at hz;exists D5,_,rfl,.inl (aG.of (s6 _ _ hD5)),rfl,Hn _,?_;show∃k,V.bl (!Fi (.int i) (ins.map V.int))=.bl k/\_;rw[xq];exact⟨_,rfl,hz⟩
  ·intro c1;rw[c1,Bool.true_or]
 intro D6 H6 s6 _ hD6;have s06:=(s4.trans s5).trans s6;generalize hats:m6 (fun b=>decide (b∈rs.map (·.last))||!decide (b∈ins)) 0 many.toNat=ats at hD6;left;have out:∀H',au H H'->Q .bH H':=fun H' s'=>kk none .bH H' (fun j z=>by cases z) s' (by unfold dO Is;rfl)
 by_cases c0:m/7%3=0
 ·refine ck (ze (congrArg V.int c0)) ?_
  change out _ s06
 refine cE (zd fun z=>c0 (V.int.inj z)) ?_;exists by show 0<=sizeLine;omega,?_
 intros p7 H7 s7 h7;refine⟨D6,p7,_,_,rfl,rfl,.inl ⟨aG.of (s7 _ _ hD6),aG.of h7⟩,.inr (.inl rfl),?_⟩
 by_cases cn:ats=[]
 ·rw[cn]
  change out _ (s06.trans s7)
 have hn:decide (ats.map V.int=[])=false:=zd (by simpa using cn);rw[hn];have s07:=s06.trans s7;have hD67:=s7 _ _ hD6;left;obtain⟨at_,hat,atin⟩:=IA (m:=m/3) cn;have anp:0<ats.length:=yq.mpr cn;refine⟨D6,_,rfl,.inl (aG.of hD67),?_⟩;rw[za];exists by show 0<(ats.length:Int);omega,?_
 refine⟨D6,_,_,_,rfl,rfl,aG.of hD67,hat,?_⟩;rw[<-hats] at atin;obtain⟨a0,a1,a2⟩:=pw atin;have a1':at_<many:=nofun
 have aleave:(∃r∈rs,r.last=at_)\/(rs.any fun r=>Fj r at_)=false:=by
  rw[Bool.or_eq_true,decide_eq_true_eq] at a2;rcases a2 with z | z
  ·obtain⟨r,hr1,hr2⟩:=zG.mp z
   exact .inl ⟨r,hr1,hr2⟩
  ·right
   cases q:rs.any fun r=>Fj r at_ with
   | false=>rfl
   | true=>
    have:at_∈ins:=by rw[<-hins];exact GL a0 nofun q
    rw[ze this] at z;cases z
 clear hats atin hat;exists by show -2^62<=at_+1;omega,(by show at_+1<2^62;omega),?_
 have pt:∀H',au H7 H'->P1 H' p rs:=fun H' s'=>(rsl.mono s07).mono s';refine jH (rest:=[some (.ref p)]) (fun b=>!eY rs b) (by show(at_+1).toNat<=sizeLine;omega) ⟨none,rfl⟩ ?_ ?_
 ·intro i H8 R i0 i1 s8 hR
  change⟨p,rs,i,rfl,pt _ s8,fun H' s'=>⟨_,rfl,hR _ s'⟩⟩
 intro D8 H8 s8 _ hD8;generalize htos:m6 (fun b=>!eY rs b) 0 (at_+1).toNat=tos at hD8;have tn:tos≠[]:=by
  rw[<-htos];refine List.ne_nil_of_mem (GL (x:=0) nofun nofun ?_);have:eY rs 0=false:=by
   unfold eY;rw[List.any_eq_false];intro r hr';have:=(rd.2.1 r hr').1;rw[zd (show¬r.first<0 by omega)];simp
  rw[this];rfl
 obtain⟨to_,hto,toin⟩:=IA (m:=m/50) tn;have tnp:0<tos.length:=yq.mpr tn;exists D8,_,rfl,.inl (aG.of hD8),?_;rw[za];exists by show 0<(tos.length:Int);omega,?_
 refine⟨D8,_,_,_,rfl,rfl,aG.of hD8,hto,?_⟩;rw[<-htos] at toin;obtain⟨b0,b1,b2⟩:=pw toin;have b2':eY rs to_=false:=by cases q:eY rs to_ with
  | false=>rfl
  | true=>rw[q] at b2;cases b2
 clear htos toin hto tnp tn;exists _,_,rfl,⟨nofun,nofun,(by show -2^62<=at_+1;omega),by show at_+1<2^62;omega⟩,?_;refine jH (rest:=[some (.ref p)]) (fun b=>kb rs b) (by show(at_+1-to_).toNat<=sizeLine;omega) ⟨none,rfl⟩ ?_ ?_
 ·intro i H9 R i0 i1 s9 hR
  change⟨p,rs,i,rfl,pt _ (s8.trans s9),fun H' s'=>⟨_,rfl,hR _ s'⟩⟩
 intro D9 H9 s9 _ hD9;generalize hunt:m6 (fun b=>kb rs b) to_ (at_+1-to_).toNat=unt at hD9;exists _,_,rfl,⟨by show -2^62<=at_+1;omega,(by show at_+1<2^62;omega),nofun,nofun⟩,?_;refine jH (rest:=[some (.ref p)]) (fun b=>!eY rs b&&kb rs b) (by show(many-(at_+1)).toNat<=sizeLine;omega) ⟨none,rfl⟩ ?_ ?_
 ·intro i Ha R i0 i1 sa hR
  left;refine⟨p,rs,i,rfl,pt _ ((s8.trans s9).trans sa),fun H' s'=>⟨_,rfl,?_⟩⟩;cases q:eY rs i with
  | true=>
   rw[q] at hR;exact cE rfl (hR _ s')
  | false=>
   rw[q] at hR;refine ck rfl ?_;change⟨p,rs,i,rfl,(pt _ ((s8.trans s9).trans sa)).mono s',fun H'' s''=>⟨_,rfl,hR _ (s'.trans s'')⟩⟩
 intro Da Ha sa _ hDa;generalize hcod:m6 (fun b=>!eY rs b&&kb rs b) (at_+1) (many-(at_+1)).toNat=cod at hDa;have cl:cod.length<=200:=by
  have:=K8 (f:=fun b=>!eY rs b&&kb rs b) (lo:=at_+1) (n:=(many-(at_+1)).toNat);rw[hcod] at this;omega
 have s0a:=((s07.trans s8).trans s9).trans sa;exists by show 0<=sizeLine;omega,?_
 intros pb Hb sb hb;have hD9b:=sb _ _ (sa _ _ hD9);refine⟨D9,pb,_,_,rfl,rfl,.inl ⟨aG.of hD9b,aG.of hb⟩,.inr (.inl rfl),?_⟩
 by_cases un:unt=[]
 ·rw[un]
  change out _ (s0a.trans sb)
 have hn2:decide (unt.map V.int=[])=false:=zd (by simpa using un);rw[hn2];obtain⟨u_,hu,uin⟩:=IA (m:=m/500) un;have unp:0<unt.length:=yq.mpr un;rw[<-hunt] at uin;obtain⟨u0,u1,u2⟩:=pw uin;exists D9,_,rfl,.inl (aG.of hD9b),?_;rw[za];exists by show 0<(unt.length:Int);omega,?_
 refine⟨D9,_,_,_,rfl,rfl,aG.of hD9b,hu,?_⟩;exists by show 1<=sizeLine;omega,?_
 intros pc Hc sc hc;have hDac:=sc _ _ (sb _ _ hDa);exists pc,Da,_,_,rfl,rfl,aG.of hc,aG.of hDac,by rw[za];show 1+cod.length<=sizeLine;omega,?_
 intros pd Hd sd hd;exists Da,_,rfl,.inl (aG.of (sd _ _ hDac)),?_;rw[za];exists by show 0<1+(cod.length:Int);omega,?_
 have k0:0<=m/7%(1+(cod.length:Int)):=zv _ nofun;have k1:m/7%(1+(cod.length:Int))<1+(cod.length:Int):=zr _ nofun;obtain⟨kj,hkj⟩:∃j:Nat,m/7%(1+(cod.length:Int))=(j:Int):=⟨(m/7%(1+(cod.length:Int))).toNat,nofun⟩
 obtain⟨co,cv,hcv,icv,cok⟩:∃(co:Option Int) (cv:V),(V.bH::cod.map V.int)[kj]?=some cv/\(∀H',Is H' (dO Dt.int co) cv)/\∀x,co=some x->x∈cod:=by
  cases kj with
  | zero=>exact⟨none,.bH,rfl,fun H'=>by unfold dO Is;rfl,fun x z=>by cases z⟩
  | succ k=>
   obtain⟨x,f1,f2⟩:=J9 (l:=cod) (j:=k) nofun;exact⟨some x,.int x,by simpa using f1,fun H'=>by unfold dO Is;rfl,fun y z=>by cases z;exact f2⟩
 refine⟨pd,_,_,_,rfl,rfl,aG.of hd,(by rw[hkj];exact bx hcv),?_⟩;exists by show 4<=sizeLine;omega,?_
 intros pe He se he;refine kk (some ⟨at_,to_,u_,co⟩) _ _ (fun j z=>?_) ((((s0a.trans sb).trans sc).trans sd).trans se) (cB he (aL cP (aL cP (aL cP (aL (icv _) cH)))));cases z;refine Q4 ap a0 a1' aleave b0 nofun b2' u0 nofun u2 fun x hx=>?_;have xin:=cok x hx;rw[<-hcod] at xin;obtain⟨x0,x1,x2⟩:=pw xin;rw[zN] at x2;refine⟨nofun,nofun,?_,x2.2⟩;cases q:eY rs x with
 | false=>rfl
 | true=>rw[q] at x2;cases x2.1
def L4:∀x∈IB,∀z∈([2,3,5]:List Int),(red x.1 (x.2*z)).1*(red x.1 x.2).2<(red x.1 x.2).1*(red x.1 (x.2*z)).2:=by decide +kernel
structure Ff (most:Int) (S:cD):Prop where
 R7:1<=S.players.length
 pl:S.players.length<=9
 pn:Bh S.players
 ins:SK S.ak
 st:E9 S.players S.aI
 b1:1<=S.aM.length
 bl:(S.aM.length:Int)<=most
 bd:∀b∈S.aM,LN b
 up:∀u,S.aF=some u->∃x z,S.aM[0]?=some x/\z∈([2,3,5]:List Int)/\u=red x.aQ.1 (x.aQ.2*z)
 hs:List.Sublist (S.holds.map (·.1)) S.players
 hr:∀x∈S.holds,Kc (S.ak.map (·.1)) S.aM.length x.2
 no:Fd S S.aE
 nl:S.aE.length<=9*S.aM.length
 rp:De S.aM.length S.repeats
 ju:∀j,S.cj=some j->Pp S.aM.length S.repeats j
def GR {aM:List Sc.LU} {upb:Option (Int×Int)} {S:cD} (eb:S.aM=aM) (eu:S.aF=upb) (bd:∀b∈aM,LN b) (up:∀u,upb=some u->∃x z,aM[0]?=some x/\z∈([2,3,5]:List Int)/\u=red x.aQ.1 (x.aQ.2*z)) (b:Nat) (hb:b<aM.length):LJ (S.len b):=by
 have hm:LJ (S.aQ b):=by
  unfold cD.aQ;rw[eb,zb hb];obtain⟨m1,m2,m3,m4,m5⟩:=lW (bd _ (yk hb)).1;exact IE nofun nofun nofun nofun
 unfold cD.len;rw[eu];cases q:upb with
 | none=>exact hm
 | some u=>
  dsimp only;split
  ·obtain⟨x,z,e1,e2,e3⟩:=up u q
   obtain⟨m1,m2,m3,m4,m5⟩:=lW (bd _ (zB e1)).1;rw[e3];have z1:2<=z/\z<=5:=by
    simp only[zC,zD,or_false] at e2;omega
   have p1:0<x.aQ.2*z:=Int.mul_pos nofun nofun;have p2:x.aQ.2*z<=32*5:=Int.mul_le_mul m5 z1.2 nofun ∅;exact IE nofun nofun p1 nofun
  ·exact hm
inductive uc (K:yA) (vs:List V) (H:Hp) (Q:VK) (E:XK):Prop
 | mk (a:Addr) (ns:List Int) (most:Int) (_:vs=[.ref a,.int most]) (_:aG K H a (ns.map V.int)) (_:ns.length<=1000) (_:2<=most) (_:most<=24) (_:∀S p H',Ff most S->au H H'->tU H' p S->Q (.ref p) H')
def aY:aC ["_law_script","_law_most","_law_m","_law_players","_law_instruments","_law_many","_law_bars","_law_upbeat","_law_holds","_law_notes","_law_repeats","_law_jump","_law_staffs"] ["_law_script","_law_most"] (ao mI):=dy
def uz:cX P w base 4 T.kK (uc K):=by
 nomatch T.kK,aY
 obtain⟨a,ns,most,rfl,hS,nl,mo1,mo2,kk⟩:=h;have sl:=yB;refine⟨_,(ag (bT 2 aY.nd (bJ (bO T) hr T.cC (aa (bJ (bF T) hr T.bP (aa (pv 0) (aa ae af))) (aa ae af))))
  (ag (bT 3 aY.nd (bJ (fc T) hr T.eJ (aa (ar aP (pv 2) ae) (aa (ar aW (ar aW ae (ar aO (pv 2) ae)) (ar dY ae (ng Ls T.Na (aa (dG dg (ar aO (ar aP (pv 2) ae) ae) ae (gz _)) af)))) af))))
  (ag (bT 4 aY.nd (bJ (lV T) hr T.fm (aa (bJ (bF T) hr T.bP (aa (pv 0) (aa ae af))) af)))
  (ag (bT 5 aY.nd (ar aW ae (ar aO (bJ (bO T) hr T.cC (aa (bJ (bF T) hr T.bP (aa (pv 0) (aa ae af))) (aa ae af))) (ar aP (pv 1) (ar aW ae (ar aP (eQ aB T.bu (aa (pv 3) af)) ae))))))
  (ag (bT 6 aY.nd (bJ (wD T) hr T.mq (aa (bJ (bF T) hr T.bP (aa (pv 0) (aa ae af))) (aa (pv 5) af))))
  (ag (bT 7 aY.nd aS)
  (ag (aH (ptr dg (ar aO (ar aP (pv 2) ae) ae) ae)
  (aj (bT 7 aY.nd (bJ (f9 T) hr T.fP (aa (bR (bR (fL (pv 6) ae) ae) ae) (aa (ar dY (bR (bR (fL (pv 6) ae) ae) ae) (fL (bg (aa ae (aa ae (aa ae af)))) (ar aO (ar aP (pv 2) ae) ae))) af)))))
  ax)
  (ag (bT 8 aY.nd (bJ (uE T) hr T.kQ (aa (bJ (bF T) hr T.bP (aa (pv 0) (aa ae af))) (aa (pv 3) (aa (pv 4) (aa (pv 5) af))))))
  (ag (bT 9 aY.nd (bJ (uC T) hr T.kO (aa (bJ (bF T) hr T.bP (aa (pv 0) (aa ae af))) (aa (pv 3) (aa (pv 6) (aa (pv 7) af))))))
  (ag (bT 10 aY.nd (bJ (qW T) hr T.iE (aa (bJ (bF T) hr T.bP (aa (pv 0) (aa ae af))) (aa (pv 5) af))))
  (ag (bT 11 aY.nd (bJ (wB T) hr T.mj (aa (bJ (bF T) hr T.bP (aa (pv 0) (aa ae af))) (aa (pv 5) (aa (pv 10) af)))))
  (ag (bT 12 aY.nd (bJ (sT T) hr T.jJ (aa (bJ (bF T) hr T.bP (aa (pv 0) (aa ae af))) (aa (pv 3) af))))
  (aj (aq (bj (aa (pv 3) (aa (pv 4) (aa (pv 12) (aa (pv 6) (aa (pv 7) (aa (pv 8) (aa (pv 9) (aa (pv 10) (aa (pv 11) af)))))))))))))))))))))))),?_⟩
 ac_rfl;exists a,ns,0,rfl,hS,(by decide),nl,fun c0=>?_;exists c0,1,rfl,(by decide),(by decide),?_;have m0:0<=mixed c0 1:=zv _ ∅;have m1:mixed c0 1<2147483399:=zr _ ∅;generalize mixed c0 1=m at m0 m1;have a0:0<=m%4:=zv _ ∅;have a1:m%4<4:=zr _ ∅;left;have k5:0<=(if decide (m/300%4=0)=true then 1 else 0:Int)/\(if decide (m/300%4=0)=true then 1 else 0:Int)<=1:=by split <;> decide
 generalize (if decide (m/300%4=0)=true then 1 else 0:Int)=k at k5;refine⟨_,_,rfl,zV m0 ∅,?_,nofun,nofun,fun ps pp H1 pl pok s1 hpp=>?_⟩
 ·have:=zW (a:=m) 4 m0;omega
 have R7:1<=ps.length/\ps.length<=9:=nofun
 exists a,ns,1,rfl,s1.seq hS,(by decide),nl,fun c1=>?_;left;intro ins ip iv H2 iok s2 hip ili;exists a,ns,2,rfl,(s1.trans s2).seq hS,(by decide),nl,fun c2=>?_;exists c2,2,rfl,(by decide),(by decide),?_;have n0:0<=mixed c2 2:=zv _ ∅;generalize mixed c2 2=n at n0;exists pp,_,rfl,.inl (aG.of (s2 _ _ hpp)),?_;rw[za];exists⟨nofun,nofun⟩,?_;obtain⟨q,gq,q1,q2⟩:∃q,most/(1+(ps.length:Int)/5)=q/\1<=q/\q<=most:=by
  rcases(by omega:(ps.length:Int)/5=0\/(ps.length:Int)/5=1) with e | e
  ·rw[e];exact⟨_,rfl,by show 1<=most/1;omega,by show most/1<=most;omega⟩
  ·rw[e];exact⟨_,rfl,by show 1<=most/2;omega,by show most/2<=most;omega⟩
 show rI _ _ _ (.int (most/(1+(ps.length:Int)/5))) _ _;rw[gq];exists by show 0<q;omega,?_
 have d0:0<=n%q:=zv _ nofun;have d1:n%q<q:=zr _ nofun;exists a,ns,2,rfl,(s1.trans s2).seq hS,(by decide),nl,fun c3=>?_;exists c3,_,rfl,nofun,nofun,fun aM bp bv H3 bl bok s3 nb hbp ilb=>?_;have bl2:((aM.length:Nat):Int)=1+n%q:=nofun
 have bvl:=aT ilb;have s03:=(s1.trans s2).trans s3;have x0:aM[0]?=some (aM[0]'nofun):=zb nofun;generalize aM[0]'nofun=x at x0;obtain⟨y,hy,iy⟩:=dZ ilb (i:=0) (zb nofun);have ey:y=x:=by rw[x0] at hy;exact(yj hy).symm
 subst ey;obtain⟨ab,mv,qb,ev,hab,imv,_⟩:=xk iy;have xin:y.aQ∈IB:=(bok y (zB x0)).1;obtain⟨e1,e2,e3,e4,e5⟩:=lW xin;have av:bv[0]?=some (.ref ab):=by rw[<-ev];exact zb nofun
 cases fk (o:=some y.aQ) imv with
 | ref hmv=>
 rename_i am;left;refine join (fun σ H'=>au H3 H'/\∃(upb:Option (Int×Int)) (uv:V),σ=[some (.ref a),some (.int most),some (.int m),some (.ref pp),some (.ref ip),some (.int (1+n%q)),some (.ref bp),some uv,none,none,none,none,none]/\Is H' (dO dL upb) uv/\∀u,upb=some u->∃x z,aM[0]?=some x/\z∈([2,3,5]:List Int)/\u=red x.aQ.1 (x.aQ.2*z)) (fun N hN cc=>?_) (fun N hN cc=>?_) ?_
 ·left
  refine⟨bp,bv,0,_,rfl,rfl,aG.of hbp,bx av,?_⟩;exists bp,bv,0,_,rfl,rfl,aG.of hbp,bx av,?_;exists by show 3<=sizeLine;omega,?_
  intros p4 H4 s4 h4;have g0:0<=m/64%3:=zv _ ∅;have g1:m/64%3<3:=zr _ ∅;obtain⟨jj,hjj⟩:∃j:Nat,m/64%3=(j:Int):=⟨(m/64%3).toNat,nofun⟩
  obtain⟨z,hz,zi⟩:∃z:Int,[V.int 2,V.int 3,V.int 5][jj]?=some (.int z)/\z∈([2,3,5]:List Int):=by
   have:jj<3:=nofun
   match jj,this with
   | 0,_=>exact⟨2,rfl,∅⟩
   | 1,_=>exact⟨3,rfl,∅⟩
   | 2,_=>exact⟨5,rfl,∅⟩
  have z1:2<=z/\z<=5:=by
   simp only[zC,zD,or_false] at zi;omega
  exists p4,_,m/64%3,.int z,rfl,rfl,aG.of h4,(by rw[hjj];exact bx hz),?_;exists .inl ⟨nofun,nofun⟩,?_;have p1:0<y.aQ.2*z:=Int.mul_pos nofun nofun;have p2:y.aQ.2*z<=32*5:=Int.mul_le_mul e5 z1.2 nofun ∅;refine⟨_,_,rfl,nofun,p1,(dq (n:=10) nofun nofun).mono ∅,fun p5 H5 s5 h5=>?_⟩;change hN _ _ ⟨s4.trans s5,some (red y.aQ.1 (y.aQ.2*z)),.ref p5,rfl,iV h5,fun u q=>by cases q;exact⟨y,z,x0,zi,rfl⟩⟩
 ·left
  exact hN _ _ ⟨au.refl _,none,.bH,rfl,by unfold dO Is;rfl,fun u z=>by cases z⟩
 rintro σ4 H4 ⟨s4,upb,uv,rfl,iuv,uok⟩;have s04:=s03.trans s4;exists a,ns,1,rfl,s04.seq hS,(by decide),nl,fun c5=>?_;left;have s14:=(s2.trans s3).trans s4;have s24:=s3.trans s4;refine⟨c5,_,pp,ip,ps,ins,iv,rfl,s14 _ _ hpp,s24 _ _ hip,ili.mono s24,nofun,by have:=iok.1;omega,nofun,fun hs hp hv H5 hsub hrow s5 hhp rlh=>?_⟩;have s05:=s04.trans s5;exists a,ns,3,rfl,s05.seq hS,(by decide),nl,fun c6=>?_;left;have s15:=s14.trans s5;have s25:=s24.trans s5;have s35:=s4.trans s5;refine⟨c6,pp,bp,{players:=ps,aM:=aM,aF:=upb},bv,uv,rfl,s15 _ _ hpp,s35 _ _ hbp,ilb.mono s35,iuv.mono s5,by show ps.length<=9;omega,pok.2,by show aM.length<=200;omega,bok,GR rfl rfl bok uok,fun nts np nv H6 nok nlen s6 hnp rln=>?_⟩;have s06:=s05.trans s6;exists a,ns,4,rfl,s06.seq hS,(by decide),nl,fun c7=>?_;exists c7,_,rfl,nofun,fun rs rp rv H7 rok s7 hrp ilr=>?_;have s07:=s06.trans s7;exists a,ns,4,rfl,s07.seq hS,(by decide),nl,fun c8=>?_;left;have rsl:P1 H7 rp rs:=⟨by have:=rok.1;omega,fun r hr'=>by have:=(rok.2.1 r hr').2.2.2.2.2.2.1;omega,rv,hrp,ilr⟩
 refine⟨c8,_,rp,rs,rfl,rsl,rok,nofun,nofun,fun jo jv H8 jok s8 ij=>?_⟩;have s08:=s07.trans s8;exists a,ns,0,rfl,s08.seq hS,(by decide),nl,fun c9=>?_;left;have s18:=((s15.trans s6).trans s7).trans s8;refine⟨c9,pp,ps,rfl,s18 _ _ hpp,pok.2,nofun,fun sts sp sv H9 stok s9 hsp ils=>?_⟩;exists by show 9<=sizeLine;omega,?_
 intros pa Ha sa ha;have s9a:=sa;have s8a:=s9.trans sa;have s7a:=s8.trans s8a;have s6a:=s7.trans s7a;have s5a:=s6.trans s6a;have s4a:=s5.trans s5a;have s3a:=s4.trans s4a;have s2a:=s3.trans s3a;have s1a:=s2.trans s2a;refine kk ⟨ps,ins,sts,aM,upb,hs,nts,rs,jo⟩ pa Ha ?_ (s08.trans s8a) ?_
 ·exact⟨R7.1,R7.2,pok,iok,stok,by show 1<=aM.length;omega,by show(aM.length:Int)<=most;omega,bok,uok,hsub,fun x hx=>by show Kc (ins.map (·.1)) aM.length x.2;rw[bl2];exact hrow x hx,nok,nlen,by show De aM.length rs;rw[bl2];exact rok,fun j hj=>by show Pp aM.length rs j;rw[bl2];exact jok j hj⟩
 ·exact⟨pp,ip,sp,bp,hp,np,rp,uv,jv,iv,sv,bv,hv,nv,rv,ha,s1a _ _ hpp,⟨s2a _ _ hip,ili.mono s2a⟩,⟨s9a _ _ hsp,ils.mono s9a⟩,⟨s3a _ _ hbp,ilb.mono s3a⟩,iuv.mono s4a,⟨s5a _ _ hhp,rlh.imp fun x v z=>z.mono s5a⟩,⟨s6a _ _ hnp,rln.imp fun x v z=>z.mono s6a⟩,⟨s7a _ _ hrp,ilr.mono s7a⟩,ij.mono s8a⟩
def oI {n:Str} (h:gm n):n.length<=12:=by
 unfold gm cL at h;split at h
 ·cases h
 ·split at h
  ·cases h
  ·omega
def GY {n:Int} (h:NB n):(dec n).length<=5:=bq (by have:=h.1;omega) (by have:=h.2;omega)
theorem Fu:∀es:List Sc.End,HR es=((es.map (·.2)).flatten).length
 | []=>rfl
 | e::r=>by rw[zh,z9,zg,<-Fu r];rfl
theorem FW {n:Nat} (hn:n<=999):∀{l rs:List Rep},(rs++l).Pairwise (fun a b=>a.last<b.first)->(∀r∈l,Fc n r)->xx n rs l
 | [],_,_,_=>trivial
 | r::l,rs,asc,ok=>by
  obtain⟨h1,h2,h3,h4,h5,e1,e2,e3,e4,e5⟩:=ok r zp;refine⟨fun b hb=>?_,?_,⟨by rw[Fu];omega,nofun,nofun,nofun⟩,FW hn (by rw[zE];exact asc) fun x hx=>ok x (zm _ hx)⟩
  ·rcases zF.mp hb with z | z
   ·simp only[zC,zD,or_false] at z
    rcases z with z | z <;> omega
   ·obtain⟨e,he,rfl⟩:=zG.mp z
    have:=(e3 e he).2.1;omega
  ·have fin:(decide (r.first<=r.last)&&gd r)=true:=by rw[ze h2];exact e1
   unfold lO;cases q:rs.getLast? with
   | none=>exact fin
   | some p=>
    have:=(zT.mp asc).2.2 p (List.mem_of_getLast? q) r zp;dsimp only;rw[if_neg nofun];exact fin
def O8 {most:Int} {S:cD} (hm:most<=24) (D:Ff most S):Uz S:=by
 have bl:=D.bl;have b1:=D.b1;have pl:=D.pl;obtain⟨i1,i2,i3⟩:=D.ins;obtain⟨t1,t2,t3,t4⟩:=D.st;have nl:=D.nl;obtain⟨r1,r2,r3⟩:=D.rp;have hl:=D.hs.length_le;rw[za] at hl;refine⟨D.pn.2,nofun,i2.2,nofun,t2.2,t3,fun x hx=>(t4 x hx).2.2,fun x hx=>by have:=(t4 x hx).2.1;omega,nofun,nofun,fun b hb=>?_,fun u hu=>?_,D.hs.nodup D.pn.2,nofun,fun x hx=>?_,D.no.1,nofun,fun x hx=>?_,FW nofun (by rw[List.nil_append];exact r3) r2,nofun,fun r hr=>?_,fun j hj=>?_⟩
 ·obtain⟨m1,m2,m3,m4,m5⟩:=lW (D.bd b hb).1
  exact⟨nofun,nofun,nofun,nofun⟩
 ·obtain⟨x,z,e1,e2,e3⟩:=D.up u hu
  have xin:=(D.bd x (zB e1)).1;obtain⟨m1,m2,m3,m4,m5⟩:=lW xin;refine⟨nofun,?_,?_⟩
  ·unfold cD.aQ
   rw[e1,e3];exact L4 x.aQ xin z e2
  ·have z1:2<=z/\z<=5:=by
    simp only[zC,zD,or_false] at e2;omega
   have p1:0<x.aQ.2*z:=Int.mul_pos nofun nofun;have p2:x.aQ.2*z<=32*5:=Int.mul_le_mul m5 z1.2 nofun ∅;obtain⟨q1,q2,q3,q4⟩:=IE (t:=x.aQ.1) (b:=x.aQ.2*z) nofun nofun p1 nofun;obtain⟨_,q5,_⟩:=q1.pos;rw[e3];exact⟨(dq (n:=10) nofun nofun).mono ∅,(dq (n:=10) nofun nofun).mono ∅⟩
 ·obtain⟨h1,h2,h3,h4⟩:=D.hr x hx
  exact⟨h1,nofun,h3,D.hs.subset (zO (f:=fun y:Str×List (Int×Str)=>y.1) hx),fun h hh=>⟨(h4 h hh).2.1,(h4 h hh).2.2⟩⟩
 ·obtain⟨h1,h2,h3,h4,h5,h6,h7⟩:=D.no.2 x hx
  exact⟨h1,h2,h3,h4,fun it hit=>(h5 it hit).1,h6⟩
 ·have:=(r2 r hr).2.2.2.2.2.2.1
  omega
 ·obtain⟨j1,j2,j3,j4,j5⟩:=D.ju j hj
  refine⟨fun b hb=>?_,j1⟩;rcases zF.mp hb with z | z
  ·simp only[zC,zD,or_false] at z
   rcases z with z | z | z <;> omega
  ·cases q:j.gH with
   | none=>rw[q] at z;cases z
   | some c=>
    rw[q] at z;have:b=c:=by simpa using z
    have:=(j5 c q).2;omega
def C3 {many:Int} {r:Rep} (hm:many<=200) (h:Fc many r):LH r:=by
 obtain⟨h1,h2,h3,h4,h5,e1,e2,e3,e4,e5⟩:=h;exact⟨⟨⟨h1,nofun⟩,⟨nofun,nofun⟩,h4,h5,fun e he=>⟨by have:=(e3 e he).1;omega,by have:=(e3 e he).2.1;omega,(e3 e he).2.2.1,(e3 e he).2.2.2.2⟩⟩,e2,fun e he=>(e3 e he).2.2.2.1⟩
def NK {most:Int} {S:cD} (hm:most<=24) (D:Ff most S):∀t∈eU S,TD t:=by
 have bl:=D.bl;have b1:=D.b1;have pl:=D.pl;obtain⟨i1,i2,i3⟩:=D.ins;obtain⟨t1,t2,t3,t4⟩:=D.st;obtain⟨r1,r2,r3⟩:=D.rp;have pnm:∀p∈S.players,gm p:=D.pn.1;have inm:∀p∈S.ak.map (·.1),gm p:=i2.1;intro t ht;unfold eU at ht;simp only[zF] at ht;rcases ht with((((((ht | ht) | ht) | ht) | ht) | ht) | ht) | (ht | ht)
 ·obtain⟨n,hn,rfl⟩:=zG.mp ht
  refine⟨pnm n hn,by show 2<=100;decide,fun w hw=>?_⟩;simp only[Sc.wordsOf,zC,zD,or_false] at hw;rcases hw with rfl | rfl
  ·decide
  ·have:=oI (pnm _ hn);omega
 ·obtain⟨x,hx,rfl⟩:=zG.mp ht
  obtain⟨q1,q2,q3,q4,q5,q6⟩:=i3 x hx;have nx:=inm x.1 (zO (f:=fun y:Str×(Int×Int)×(Int×Int)=>y.1) hx);obtain⟨p1,p2,_⟩:=q4.pos;refine⟨⟨nx,q1,q2,q3,q4,q5,q6⟩,by show 5<=100;decide,fun w hw=>?_⟩;simp only[Sc.wordsOf,zC,zD,or_false] at hw;obtain⟨o1,o2,o3,o4,_⟩:=q1;rcases hw with rfl | rfl | rfl | rfl | rfl
  ·decide
  ·have:=oI nx;omega
  ·have:=bq (n:=x.2.1.1) nofun nofun;omega
  ·have:=bq (n:=x.2.1.2) nofun nofun;omega
  ·have:=lg (x:=x.2.2) nofun q5 nofun q6;omega
 ·obtain⟨x,hx,rfl⟩:=zG.mp ht
  obtain⟨q1,q2,q3⟩:=t4 x hx;have nx:=t2.1 x.1 (zO (f:=fun y:Str×List Str=>y.1) hx);refine⟨⟨nx,q1,fun p hp=>pnm p (q3 p hp)⟩,by show x.2.length+1+1<=100;omega,fun w hw=>?_⟩;simp only[Sc.wordsOf,zC] at hw;rcases hw with rfl | rfl | hw
  ·decide
  ·have:=oI nx;omega
  ·have:=oI (pnm w (q3 w hw));omega
 ·obtain⟨b,hb,rfl⟩:=zG.mp ht
  obtain⟨q1,q2,q3,q4,q5⟩:=D.bd b hb;obtain⟨m1,m2,m3,m4,m5⟩:=lW q1;refine⟨⟨m1,nofun,m3,q2,q3,q4⟩,by show b.marks.length+1+1+1<=100;omega,fun w hw=>?_⟩;simp only[Sc.wordsOf,zC] at hw;rcases hw with rfl | rfl | rfl | hw
  ·decide
  ·have l1:=bq (n:=b.aQ.1) nofun nofun
   have l2:=bq (n:=b.aQ.2) nofun nofun;rw[len_app,len_app];have:("/": Str).length=1:=rfl;omega
  ·have:=bq (n:=b.key) nofun nofun;omega
  ·have:=oI (q4 w hw);omega
 ·obtain⟨u,hu,rfl⟩:=zG.mp ht
  have hu':S.aF=some u:=by
   cases q:S.aF with
   | none=>rw[q] at hu;cases hu
   | some v=>
    rw[q] at hu;have:u=v:=by simpa using hu
    rw[this]
  have ln:=GR (S:=S) rfl rfl D.bd D.up 0 nofun;have el:S.len 0=u:=by unfold cD.len;rw[hu'];rfl
  rw[el] at ln;obtain⟨l1,l2,l3,l4⟩:=ln;obtain⟨p1,p2,_⟩:=l1.pos;refine⟨⟨l1,l2,nofun,nofun⟩,by show 2<=100;decide,fun w hw=>?_⟩;simp only[Sc.wordsOf,zC,zD,or_false] at hw;rcases hw with rfl | rfl
  ·decide
  ·have:=lg (x:=u) nofun nofun nofun nofun;omega
 ·obtain⟨l,hl,ht⟩:=List.mem_flatten.mp ht
  obtain⟨x,hx,rfl⟩:=zG.mp hl;obtain⟨h,hh,rfl⟩:=zG.mp ht;obtain⟨h1,h2,h3,h4⟩:=D.hr x hx;have np:=pnm x.1 (D.hs.subset (zO (f:=fun y:Str×List (Int×Str)=>y.1) hx));have nb:NB h.1:=⟨(h4 h hh).1,by have:=(h4 h hh).2.1;omega⟩
  have ni:=inm h.2 (h4 h hh).2.2;refine⟨⟨np,nb,ni⟩,by show 4<=100;decide,fun w hw=>?_⟩;simp only[Sc.wordsOf,zC,zD,or_false] at hw;rcases hw with rfl | rfl | rfl | rfl
  ·decide
  ·have:=oI np;omega
  ·have:=GY nb;omega
  ·have:=oI ni;omega
 ·obtain⟨x,hx,rfl⟩:=zG.mp ht
  obtain⟨h1,h2,h3,h4,h5,h6,h7⟩:=D.no.2 x hx;have nb:NB x.1.1:=⟨h1,nofun⟩
  refine⟨⟨nb,pnm _ h3,h5,h7⟩,by show(x.2.map qX).length+1+1+1<=100;rw[za];omega,fun w hw=>?_⟩;simp only[Sc.wordsOf,zC] at hw;rcases hw with rfl | rfl | rfl | hw
  ·decide
  ·have:=GY nb;omega
  ·have:=oI (pnm _ h3);omega
  ·obtain⟨it,hit,rfl⟩:=zG.mp hw
   have:=K1 (h5 it hit);omega
 ·obtain⟨r,hr,rfl⟩:=zG.mp ht
  obtain⟨⟨q1,q2,q3,q4,q5⟩,q6,q7⟩:=C3 nofun (r2 r hr);refine⟨⟨q1,q2,q3,q4,q5⟩,by show(r.ends.map pM).length+1+1+1+1<=100;rw[za];omega,fun w hw=>?_⟩;simp only[Sc.wordsOf,zC] at hw;rcases hw with rfl | rfl | rfl | rfl | hw
  ·decide
  ·have:=GY q1;omega
  ·have:=GY q2;omega
  ·have:=bq (n:=r.times) nofun nofun;omega
  ·obtain⟨e,he,rfl⟩:=zG.mp hw
   have:=GO (q5 e he) (q7 e he);omega
 ·obtain⟨j,hj,rfl⟩:=zG.mp ht
  have hj':S.cj=some j:=by
   cases q:S.cj with
   | none=>rw[q] at hj;cases hj
   | some v=>
    rw[q] at hj;have:j=v:=by simpa using hj
    rw[this]
  obtain⟨j1,j2,j3,j4,j5⟩:=D.ju j hj';have n1:NB j.xn:=⟨j2.1,nofun⟩
  have n2:NB j.Bj:=⟨j3.1,nofun⟩
  have n3:NB j.dz:=⟨j4.1,nofun⟩
  have n4:∀c,j.gH=some c->NB c:=fun c hc=>⟨(j5 c hc).1,by have:=(j5 c hc).2;omega⟩
  refine⟨⟨n1,n2,n3,n4⟩,by show 5<=100;decide,fun w hw=>?_⟩;simp only[Sc.wordsOf,zC,zD,or_false] at hw;rcases hw with rfl | rfl | rfl | rfl | rfl
  ·decide
  ·have:=GY n1;omega
  ·have:=GY n2;omega
  ·have:=GY n3;omega
  ·unfold ctxt
   cases q:j.gH with
   | none=>decide
   | some c=>have:=GY (n4 c q);dsimp only;omega
theorem JZ {α:Type} {k:Nat}:∀{l:List (List α)},(∀x∈l,x.length<=k)->l.flatten.length<=k*l.length
 | [],_=>by simp
 | x::r,h=>by
  have ih:=JZ (l:=r) fun y hy=>h y (zm _ hy);have:=h x zp;rw[z9,zg,zt,Nat.mul_succ];omega
def Lc {most:Int} {S:cD} (hm:most<=24) (D:Ff most S):(eU S).length<=1000/\eU S≠[]:=by
 have bl:=D.bl;have b1:=D.b1;have pl:=D.pl;have R7:=D.R7;have i1:=D.ins.1;have t1:=D.st.1;have r1:=D.rp.1;have nl:=D.nl;have hl:=D.hs.length_le;rw[za] at hl;have f:=JZ (k:=4) (l:=S.holds.map fun x=>x.2.map fun h=>Told.holds x.1 h.1 h.2) fun y hy=>by
  obtain⟨x,hx,rfl⟩:=zG.mp hy;rw[za];exact(D.hr x hx).2.1
 rw[za] at f;have u:S.aF.toList.length<=1:=by cases S.aF <;> simp
 have j:S.cj.toList.length<=1:=by cases S.cj <;> simp
 refine⟨?_,fun z=>?_⟩
 ·unfold eU
  simp only[zg,za];omega
 ·have:=congrArg List.length z
  unfold eU at this;simp only[zg,za,List.length_nil] at this;omega
def Pn (H:Hp) (d:Addr) (ks:List (Int×Str)):Prop:=∃kvs:List (List Key×V),H d=some (.dT kvs)/\kvs.length<=ks.length/\∀k,(dB kvs (kN k)).isSome=decide (k∈ks)
def Pn.mono {H H':Hp} (s:au H H') {d:Addr} {ks:List (Int×Str)} (h:Pn H d ks):Pn H' d ks:=by
 obtain⟨kvs,h1,h2⟩:=h;exact⟨kvs,s _ _ h1,h2⟩
def Sh {k n:Int×Str} (e:k≠n):kN k≠kN n:=fun z=>e (by
 unfold kN at z;simp at z;exact Prod.ext z.1 z.2)
def Pn.put {H:Hp} {d:Addr} {ks:List (Int×Str)} {kvs:List (List Key×V)} (n:Int×Str) (v:V) (h2:kvs.length<=ks.length) (h3:∀k,(dB kvs (kN k)).isSome=decide (k∈ks)):Pn (L2.upd H d (.dT (putK kvs (kN n) v))) d (ks++[n]):=by
 refine⟨_,aA,?_,fun k=>?_⟩
 ·have:=oM kvs (kN n) v
  rw[zg];show _<=ks.length+1;omega
 ·rw[L3]
  by_cases e:k=n
  ·subst e;simp
  ·rw[if_neg (Sh e),h3];simp[e]
inductive ue (vs:List V) (H:Hp) (Q:VK) (E:XK):Prop
 | mk (p:Addr) (S:cD) (_:vs=[.ref p]) (_:tU H p S) (_:S.aE.length<=1000000) (_:∀d H',au H H'->Pn H' d (S.aE.map (·.1))->Q (.ref d) H')
def dW:aC ["_law_s","_law_notes","_law_bar","_law_player","_law_items"] ["_law_s"] (ao mK):=dy
def uB:cX P w base 1 T.kM ue:=by
 nomatch T.kM,dW
 obtain⟨p,S,rfl,la,nl6,kk⟩:=h;have sl:=yB;obtain⟨pl,il,st,bl,hl,nl,rl,ub,jm,iv,sv,bv,hv,nv,rv,h1,h2,_,_,_,_,_,⟨h8,rln⟩,_,_⟩:=la.at';refine⟨_,(ag (bT 1 dW.nd F5)
  (ag (cA PassesOwn.never rfl (bc (bR (pv 0) ae)) (d6 (n:=3) rfl (aK (jA 2 dW.nd) (aK (jA 3 dW.nd) (aK (jA 4 dW.nd) cZ))))
  (aj (sL (jE hr) (pv 1) (bj (aa (pv 2) (aa (pv 3) af))) (pv 4) rfl)))
  (aj (aq (pv 1))))),?_⟩
 ac_rfl;left;intro d nd;have s1:au H (upd H d (.dT [])):=aR nd;have hd:upd H d (.dT []) d=some (.dT []):=aA;generalize upd H d (.dT [])=H1 at s1 hd ⊢;have h11:=s1 _ _ h1;exists⟨_,aG.of (s1 _ _ h8)⟩,?_;refine dJ (K:=K) (a:=nl) (xs:=nv) (fun i σ H'=>au H H'/\Pn H' d ((S.aE.take i).map (·.1))/\∃(w2 w3 w4:Option V),σ=[some (.ref p),some (.ref d),w2,w3,w4]) ⟨s1,⟨[],hd,zk _,fun k=>by simp[dB]⟩,none,none,none,rfl⟩ (fun i σ H' _ h=>aG.of (h.1 _ _ h8)) ?_ ?_
 ·intro i x σ H2 hx hh
  refine cY fun N kN0 kR0 _ _=>?_;obtain⟨s2,⟨kvs,hk,kl,kh⟩,w2,w3,w4,rfl⟩:=hh;obtain⟨y,hy,a,q,us,rfl,ha,hq,_,_⟩:=rln.at hx;have hi:=(zw.mp hy).1;have kl2:=kl;rw[za,zP] at kl2;refine⟨a,_,rfl,dw.of (s2 _ _ ha),rfl,?_⟩;refine⟨_,_,rfl,⟨_,_,rfl,⟨_,_,rfl,⟨rfl,?_⟩⟩⟩⟩;exists cx,?_;intros p3 H3 s3 h3;refine⟨d,_,rfl,.inr ⟨_,kN y.1,p3,s3 _ _ hk,rfl,h3,nofun,rfl⟩,?_⟩;left;rw[dC hy,zj];exact⟨bX nd (s2.trans s3),Pn.put y.1 _ kl kh,_,_,_,rfl⟩
 ·rintro σ H2 ⟨s2,nt,w2,w3,w4,rfl⟩
  rw[rln.len,zM] at nt;change kk _ _ s2 nt
def Bu:Sp:=fun vs H Q _=>∃(i:Int),vs=[.int i]/\Q (.bl true) H
def BC:aC ["_law_found"] ["_law_found"] (ao so):=dy
def BP:cX P w base 1 T.rB Bu:=by
 nomatch T.rB,BC
 obtain⟨i,rfl,kk⟩:=h;refine⟨_,(aj (aq (qR (DT .int (by decide +kernel) (pv 0) T.iS T.Na) (oC (QL (DT .bl (by decide +kernel) (pv 0) T.iS T.QV)))))),?_⟩;ac_rfl;change kk
inductive xQ (K:yA) (vs:List V) (H:Hp) (Q:VK) (E:XK):Prop
 | mk (a:Addr) (ns:List Int) (_:vs=[.ref a]) (_:aG K H a (ns.map V.int)) (_:ns.length<=1000) (_:∀(qs:List Int) D H',au H H'->H' D=some (.lst (qs.map V.int))->Q (.ref D) H')
def xY:aC ["_law_script"] ["_law_script"] (ao qk):=dy
def Ak:cX P w base 2 T.oS (xQ K):=by
 nomatch T.oS,xY
 obtain⟨a,ns,rfl,hS,nl,kk⟩:=h;have sl:=yB;refine⟨_,(aj (aq (bg (aa ae (aa ae (aa (ar aW ae (ar aO (bJ (bF T) hr T.bP (aa (pv 0) (aa ae af))) ae)) (aa (ar aW ae (ar aO (bJ (bF T) hr T.bP (aa (pv 0) (aa ae af))) ae)) af))))))),?_⟩;ac_rfl;exists a,ns,_,rfl,hS,(by decide),nl,fun c=>?_;exists a,ns,_,rfl,hS,(by decide),nl,fun c'=>?_;exists by show 4<=sizeLine;omega,?_
 intros p1 H1 s1 h1;exact kk [1,2,1+c%5,1+c'%25] p1 H1 s1 h1
inductive uj (vs:List V) (H:Hp) (Q:VK) (E:XK):Prop
 | mk (p d:Addr) (S:cD) (n:Str) (b:Nat) (c:V) (_:vs=[.ref p,.ref d,.str n,.int b,c]) (_:tU H p S) (_:Pn H d (S.aE.map (·.1))) (_:b<=1000) (_:S.players.length<=1000) (_:Is H (dO Ll (wV S (oA (JN S n) b))) c) (_:∀H',au H H'->Q (.bl true) H')
def dm:aC ["_law_s","_law_notes","_law_player","_law_bar","_law_cue","_law_ahead","_law_at","_law_others"] ["_law_s","_law_notes","_law_player","_law_bar","_law_cue"] (ao mQ):=dy
def uF:cX P w base 2 T.kR uj:=by
 nomatch T.kR,dm
 obtain⟨p,d,S,n,b,c,rfl,la,⟨kvs,hk,kl,kh⟩,b9,pl9,ic,kk⟩:=h;have sl:=yB;obtain⟨pl,il,st,bl,hl,nl,rl,ub,jm,iv,sv,bv,hv,nv,rv,h1,h2,_⟩:=la.at';refine⟨_,(ag (bT 5 dm.nd (bg af))
  (ag (bT 6 dm.nd (ar iw (pv 3) ae))
  (ag (sJ PassesOwn.never (PW.pt (dr (ptr Ab (pv 6) ae) (cR (bB (o6 (jE hr) (bj (aa (pv 6) (aa (pv 2) af))) (pv 1))))))
  (ag (bM (b7 yC yE yD bz (pv 5) (aa (pv 6) af)))
   (aj (bT 6 dm.nd (ar iw (pv 6) ae)))))
  (ag (cA PassesOwn.never rfl (bc (pv 5)) (jA 6 dm.nd)
  (ag (M3 (i:=7) (ts:=["_law_one"]) (ys:=["_law_notes","_law_at"]) (js:=[1,6]) (g:=(bV 0)) (tc:=(tB (RW (Dn (bC (aX 2) (bC (aX 0) eK))) (aX 1)))) (te:=(aX 0)) (bc (bR (pv 0) ae)) (gy 0) (fZ (bB (DU (jE hr) (bj (aa (pv 2) (aa (pv 0) af))) (pv 1)))) (pv 0) dm.nd)
   (aj (aH (ptr (Aa hr.units) (pv 7) (bg af))
   (ag (aH (PW.pt (eE (d5 (cz (DT .tup (by decide +kernel) (pv 4) T.iS T.gP))) (eE (ptr j6 (eQ aB T.bu (aa (pv 4) af)) ae) (eE (d5 (cz (bJ (BP T) hr T.rB (aa (bR (pv 4) ae) af)))) (dP (d5 (cz (DT .str (by decide +kernel) (bR (pv 4) ae) T.iS T.fj))))))))
    (aj (aq oF))
    ax)
    (aj (aq (dG (Ac hr.units) (pv 4) (bj (aa (pv 6) (aa (fL (pv 7) ae) af))) (gz _)))))
   ax))))
  (aj (aq (oE (cG (pv 4))))))))),?_⟩
 ac_rfl;exists by show 0<=sizeLine;omega,?_
 intro D nD;have s1:au H (upd H D (.lst [])):=aR nD;have hD:upd H D (.lst []) D=some (.lst []):=aA;generalize upd H D (.lst [])=H1 at s1 hD ⊢;left;refine Cr (fun m σ H'=>∃(e:Nat) (xs:List Int) (w7:Option V),m=b-e/\e<=b/\σ=[some (.ref p),some (.ref d),some (.str n),some (.int b),some c,some (.ref D),some (.int ((b:Int)-1-e)),w7]/\au H H'/\H' D=some (.lst (xs.map V.int))/\xs++oA (JN S n) (b-e)=oA (JN S n) b/\xs.length<=e)
  (fun σ H'=>∃w6 w7,σ=[some (.ref p),some (.ref d),some (.str n),some (.int b),some c,some (.ref D),w6,w7]/\au H H'/\H' D=some (.lst ((oA (JN S n) b).map V.int)))
  ⟨b,0,[],none,rfl,yf _,(by rw[show(b:Int)-1-(0:Nat)=(b:Int)-1 from by omega];rfl),s1,hD,rfl,zk _⟩ ?_ ?_
 ·rintro m σ H2 ⟨e,xs,w7,rfl,eb,rfl,s2,h3,hx,xl⟩ N hN
  left
  by_cases c1:e<b
  ·refine ck (ze nofun) ?_
   obtain⟨k,ek⟩:∃k:Nat,b-e=k+1:=⟨b-e-1,nofun⟩
   have ek2:(b:Int)-1-e=k:=nofun
   rw[ek] at hx;rw[ek2];exists cx,?_;intros p3 H3 s3 h33;exists d,_,rfl,.inr ⟨_,kN ((k:Int),n),p3,.inl ((s2.trans s3) _ _ hk),rfl,h33,rfl⟩,?_;rw[kh];refine⟨_,rfl,?_⟩;cases c2:decide ((((k:Int),n):Int×Str)∈S.aE.map (·.1)) with
   | false=>
    rw[MA c2] at hx;have h3':=s3 _ _ h3;refine ck rfl ?_;refine⟨fun σ H'=>∃w7,σ=[some (.ref p),some (.ref d),some (.str n),some (.int b),some c,some (.ref D),some (.int ((k:Int)-1)),w7]/\au H H'/\H' D=some (.lst ((xs++[(k:Int)]).map V.int)),?_,?_⟩
    ·rintro σ' H' ⟨w7,rfl,s',h'⟩
     refine⟨b-(e+1),nofun,e+1,xs++[(k:Int)],w7,rfl,nofun,(by rw[show(b:Int)-1-((e+1:Nat):Int)=(k:Int)-1 from by omega]),s',h',?_,by rw[zg];show _+1<=_;omega⟩;rw[show b-(e+1)=k from by omega,zE];exact hx
    ·left
     refine⟨.inl ⟨rfl,_,aG.of h3'⟩,?_⟩;exists D,_,_,rfl,rfl,h3',by rw[za];omega,?_
     change⟨bX nD (s2.trans s3),by rw[aA,zj];rfl⟩
   | true=>
    rw[Mz c2,zU] at hx;subst hx;refine cE rfl ?_;exact hN _ _ ⟨_,_,rfl,s2.trans s3,s3 _ _ h3⟩
  ·refine cE (zd nofun) ?_
   rw[show b-e=0 from by omega,oA,zU] at hx;subst hx;refine cE rfl ?_;exact hN _ _ ⟨_,_,rfl,s2,h3⟩
 ·rintro σ H2 ⟨w6,w7,rfl,s2,h3⟩
  have rle:=DO (JN S n) b;generalize oA (JN S n) b=rs at h3 ic rle;exists⟨_,aG.of h3⟩,?_;refine dJ (K:=K) (a:=D) (xs:=rs.map V.int) (fun i σ H'=>au H2 H'/\wV S rs=wV S (rs.drop i)/\∃(w6 w7:Option V),σ=[some (.ref p),some (.ref d),some (.str n),some (.int b),some c,some (.ref D),w6,w7]) ⟨au.refl _,rfl,w6,w7,rfl⟩ (fun i σ H' _ h=>aG.of (h.1 _ _ h3)) ?_ ?_
  ·intro i x σ H4 hx hh
   refine cY fun N kN0 kR0 _ _=>?_;obtain⟨s4,cq,w6,w7,rfl⟩:=hh;rw[zJ] at hx;cases qr:rs[i]? with
   | none=>rw[qr] at hx;cases hx
   | some k=>
   rw[qr] at hx;simp only[Option.map_some,Option.some.injEq] at hx;subst hx;rw[Ep qr] at cq;have s04:=s2.trans s4;have h14:=s04 _ _ h1;exists⟨_,aG.of (s04 _ _ h2)⟩,?_;refine AR (rest:=[some (.ref d),some (.int k)]) (fun m=>JN S m k) nofun (aG.of (s04 _ _ h2)) ⟨none,rfl⟩ ?_ ?_
   ·intro m H5 R hm s5 hR
    exists cx,?_;intros p6 H6 s6 h6;exists d,_,rfl,.inr ⟨_,kN (k,m),p6,.inl (((s04.trans s5).trans s6) _ _ hk),rfl,h6,rfl⟩,?_;rw[kh];exact⟨_,rfl,hR _ s6⟩
   intro D5 H5 s5 _ h5;generalize gl:S.players.filter _=l at h5;exists by show 0<=sizeLine;omega,?_
   intros p6 H6 s6 h6;have s46:=(s4.trans s5).trans s6;have h56:=s6 _ _ h5;refine⟨D5,p6,_,_,rfl,rfl,.inl ⟨aG.of h56,aG.of h6⟩,.inr (.inl rfl),?_⟩;cases l with
   | nil=>
    rw[NQ gl] at cq;change⟨s46,cq,_,_,rfl⟩
   | cons y l=>
    rw[cq,NR gl] at ic;obtain⟨ac,rfl,hc⟩:=Rn ic;have hc6:=(s2.trans s46) _ _ hc;have hn:decide ((y::l).map V.str=[])=false:=zd (by simp);rw[hn];exists ac,_,rfl,.inr (dw.of hc6),?_;exists D5,_,_,_,rfl,rfl,aG.of h56,bx (j:=0) rfl,?_;exists cx,?_;intros p7 H7 s7 h7;refine⟨ac,p7,_,_,rfl,rfl,.inr ⟨dw.of (s7 _ _ hc6),dw.of h7⟩,.inr (.inr ⟨rfl,rfl⟩),?_⟩;rw[ze rfl];change kk _ ((s2.trans s46).trans s7)
  ·rintro σ H4 ⟨s4,cq,w6,w7,rfl⟩
   rw[za,List.drop_length] at cq;rw[cq] at ic;unfold dO Is at ic;subst ic;change kk _ (s2.trans s4)
inductive Mr (K:yA) (vs:List V) (H:Hp) (Q:VK) (E:XK):Prop
 | mk (a:Addr) (ns:List Int) (_:vs=[.ref a]) (_:aG K H a (ns.map V.int)) (_:ns.length<=63) (_:∀H':Hp,Q (.bl true) H')
def nX:aC ["_law_script","_law_s","_law_score","_law_notes","_law_player","_law_quiet","_law_bar","_law_cue"] ["_law_script"] (ao PD):=dy
def QT (B:Dk P w K T) (F:Cf K T.mf):cX P w base 9 T.Ua (Mr K):=by
 nomatch T.Ua,nX
 obtain⟨a,ns,rfl,hS,nl,kk⟩:=h;have sl:=yB;refine⟨_,(ag (bT 1 nX.nd (bJ (uz T) hr T.kK (aa (pv 0) (aa ae af))))
  (ag (bT 2 nX.nd (bJ (BJ T B F) hr T.qL (aa (bJ (qU T) hr T.iC (aa (pv 1) af)) af)))
  (ag (bT 3 nX.nd (bJ (uB T) hr T.kM (aa (pv 1) af)))
  (ag (cA PassesOwn.never rfl (bc (bR (pv 1) ae)) (jA 4 nX.nd)
  (aj (cA PassesOwn.never rfl (bc (bJ (Ak T) hr T.oS (aa (pv 0) af))) (jA 5 nX.nd)
   (aj (cA PassesOwn.never rfl (bc (bJ (Io T F) hr T.entries (aa (pv 2) (aa (pv 4) (aa (pv 5) af))))) (d6 (n:=2) rfl (aK (jA 6 nX.nd) (aK (jA 7 nX.nd) cZ)))
    (aj (aH (d5 (cz (bJ (uF T) hr T.kR (aa (pv 1) (aa (pv 3) (aa (pv 4) (aa (pv 6) (aa (pv 7) af))))))))
     (aj (aq oF))
     ax)))))))
  (aj (aq oF)))))),?_⟩
 ac_rfl;exists a,ns,24,rfl,hS,nofun,(by decide),(by decide),fun S p H1 D s1 la=>?_;have vok:=O8 ∅ D;have td:=NK ∅ D;obtain⟨tl,tne⟩:=Lc ∅ D;have rok:∀r∈S.repeats,LH r:=fun r hr'=>C3 (by have:=D.bl;omega) (D.rp.2.1 r hr');have b24:=D.bl;have p9:=D.pl;have n9:=D.nl;exists p,S,rfl,la,td,tl,rok,(by have:=D.rp.1;omega),fun H2 s2=>?_;exists _,eU S,S,rfl,text_len td tl,Oy tne td,Mw vok,fun sa o H3 sc s3 ow=>?_;have la3:=(la.mono s2).mono s3;have hS3:=((s1.trans s2).trans s3).seq hS;exists p,S,rfl,la3,nofun,fun d H4 s4 nt=>?_;have la4:=la3.mono s4;obtain⟨pl,il,st,bl,hl,nl',rl,ub,jm,iv,sv,bv,hv,nv,rv,h1,h2,_⟩:=la4.at';exists⟨_,aG.of h2⟩,?_;refine dJ (K:=K) (a:=pl) (xs:=S.players.map V.str) (fun i σ H'=>au H4 H'/\∃(w4 w5 w6 w7:Option V),σ=[some (.ref a),some (.ref p),some (.ref sa),some (.ref d),w4,w5,w6,w7]) ⟨au.refl _,none,none,none,none,rfl⟩ (fun i σ H' _ h=>aG.of (h.1 _ _ h2)) ?_ ?_
 ·rintro i x σ H5 hx ⟨s5,w4,w5,w6,w7,rfl⟩
  rw[zJ] at hx;cases qr:S.players[i]? with
  | none=>rw[qr] at hx;cases hx
  | some pn=>
  rw[qr] at hx;simp only[Option.map_some,Option.some.injEq] at hx;subst hx;have pin:=zB qr;exists a,ns,rfl,(s4.trans s5).seq hS3,nofun,fun qs Dq H6 s6 hq=>?_;exists⟨_,aG.of hq⟩,?_;refine dJ (K:=K) (a:=Dq) (xs:=qs.map V.int) (fun i σ H'=>au H6 H'/\∃(w5 w6 w7:Option V),σ=[some (.ref a),some (.ref p),some (.ref sa),some (.ref d),some (.str pn),w5,w6,w7]) ⟨au.refl _,w5,w6,w7,rfl⟩ (fun i σ H' _ h=>aG.of (h.1 _ _ hq)) ?_ ?_
  ·rintro j x σ H7 hx ⟨s7,w5,w6,w7,rfl⟩
   rw[zJ] at hx;cases qr:qs[j]? with
   | none=>rw[qr] at hx;cases hx
   | some q=>
   rw[qr] at hx;simp only[Option.map_some,Option.some.injEq] at hx;subst hx;have s47:=(s5.trans s6).trans s7;exists sa,S,o,pn,q,rfl,(sc.mono s4).mono s47,pin,nofun,nofun,fun D8 us xs H8 s8 h8 rl8=>?_;exists⟨_,aG.of h8⟩,?_;refine dJ (K:=K) (a:=D8) (xs:=us) (fun i σ H'=>au H8 H'/\∃(w6 w7:Option V),σ=[some (.ref a),some (.ref p),some (.ref sa),some (.ref d),some (.str pn),some (.int q),w6,w7]) ⟨au.refl _,w6,w7,rfl⟩ (fun i σ H' _ h=>aG.of (h.1 _ _ h8)) ?_ ?_
   ·rintro k x σ H9 hx ⟨s9,w6,w7,rfl⟩
    obtain⟨b,hb,b9,ab,cb,rfl,hab,icb⟩:=rl8.at hx;have s49:=(s47.trans s8).trans s9;refine⟨ab,_,rfl,dw.of (s9 _ _ hab),rfl,?_⟩;refine⟨_,_,rfl,⟨_,_,rfl,⟨rfl,?_⟩⟩⟩;exists p,d,S,pn,b,cb,rfl,la4.mono s49,nt.mono s49,b9,nofun,icb.mono s9,fun Ha sa'=>?_;change⟨s9.trans sa',_,_,rfl⟩
   ·rintro σ H9 ⟨s9,w6,w7,rfl⟩
    change⟨(s7.trans s8).trans s9,_,_,_,rfl⟩
  ·rintro σ H7 ⟨s7,w5,w6,w7,rfl⟩
   change⟨(s5.trans s6).trans s7,_,_,_,_,rfl⟩
 ·rintro σ H5 ⟨s5,w4,w5,w6,w7,rfl⟩
  change kk _
end
def l1 {α:Type} {n:Nat} {P:List α->Prop} {us:List α} (h:us.length=n+1) (k:∀u r,r.length=n->P (u::r)):P us:=match us,h with
 | u::r,h=>k u r (Nat.succ.inj h)
def l0 {α:Type} {P:List α->Prop} {us:List α} (h:us.length=0) (k:P []):P us:=match us,h with
 | [],_=>k
def m7 {K:yA} {h:Heap} {mg:Str->Option Value} {x:Str} {st:Stmt} {f:Addr} {od an:Option Addr} {sl:Array (Option Value)} {oc kV dc pm cd ct:Value} {p0:Str} (X:K.In h) (G:h.Ns mainGlobals mg) (a:PySem.W.nsIn K mainGlobals x=some (some (.ref f))<|>qn_) (l:K.lookup f=some ⟨oc,od,.func (PySem.W.fnOf x x (cI st) (bW st) (ao st) .none kV dc pm an cd ct),sl⟩<|>qn_) (c:PySem.W.codeIn K cd x=true<|>qn_) (k:PySem.W.keepIn K (.ref f)=true<|>qn_)
  (hb:(∀(kV dc pm:Value) (an:Option Addr) (cd ct u0:Value),bindArgs (PySem.W.fnOf x x (cI st) (bW st) (ao st) .none kV dc pm an cd ct) ⟨[u0],[]⟩=pure [(p0,u0)])<|>qo_) :
  Df K mg x st f (PySem.W.fnOf x x (cI st) (bW st) (ao st) .none kV dc pm an cd ct) [p0]:=
 ⟨iB l c k,PySem.W.mg_of X G a,(iB l c k).binds (ps:=[p0]) fun kV dc pm an cd ct us hl=>by
  apply l1 hl;intro u0 r h;apply l0 h;exact hb kV dc pm an cd ct u0⟩
def lz {K:yA} {h:Heap} {mg:Str->Option Value} {x:Str} {st:Stmt} {f:Addr} {od an:Option Addr} {sl:Array (Option Value)} {oc kV dc pm cd ct:Value} {p0 p1:Str} (X:K.In h) (G:h.Ns mainGlobals mg) (a:PySem.W.nsIn K mainGlobals x=some (some (.ref f))<|>qn_) (l:K.lookup f=some ⟨oc,od,.func (PySem.W.fnOf x x (cI st) (bW st) (ao st) .none kV dc pm an cd ct),sl⟩<|>qn_) (c:PySem.W.codeIn K cd x=true<|>qn_) (k:PySem.W.keepIn K (.ref f)=true<|>qn_)
  (hb:(∀(kV dc pm:Value) (an:Option Addr) (cd ct u0 u1:Value),bindArgs (PySem.W.fnOf x x (cI st) (bW st) (ao st) .none kV dc pm an cd ct) ⟨[u0,u1],[]⟩=pure [(p0,u0),(p1,u1)])<|>qo_) :
  Df K mg x st f (PySem.W.fnOf x x (cI st) (bW st) (ao st) .none kV dc pm an cd ct) [p0,p1]:=
 ⟨iB l c k,PySem.W.mg_of X G a,(iB l c k).binds (ps:=[p0,p1]) fun kV dc pm an cd ct us hl=>by
  apply l1 hl;intro u0 r h;apply l1 h;intro u1 r h;apply l0 h;exact hb kV dc pm an cd ct u0 u1⟩
def PZ {K:yA} {h:Heap} {mg:Str->Option Value} {x:Str} {st:Stmt} {f:Addr} {od an:Option Addr} {sl:Array (Option Value)} {oc kV dc pm cd ct:Value} {p0 p1 p2:Str} (X:K.In h) (G:h.Ns mainGlobals mg) (a:PySem.W.nsIn K mainGlobals x=some (some (.ref f))<|>qn_) (l:K.lookup f=some ⟨oc,od,.func (PySem.W.fnOf x x (cI st) (bW st) (ao st) .none kV dc pm an cd ct),sl⟩<|>qn_) (c:PySem.W.codeIn K cd x=true<|>qn_) (k:PySem.W.keepIn K (.ref f)=true<|>qn_)
  (hb:(∀(kV dc pm:Value) (an:Option Addr) (cd ct u0 u1 u2:Value),bindArgs (PySem.W.fnOf x x (cI st) (bW st) (ao st) .none kV dc pm an cd ct) ⟨[u0,u1,u2],[]⟩=pure [(p0,u0),(p1,u1),(p2,u2)])<|>qo_) :
  Df K mg x st f (PySem.W.fnOf x x (cI st) (bW st) (ao st) .none kV dc pm an cd ct) [p0,p1,p2]:=
 ⟨iB l c k,PySem.W.mg_of X G a,(iB l c k).binds (ps:=[p0,p1,p2]) fun kV dc pm an cd ct us hl=>by
  apply l1 hl;intro u0 r h;apply l1 h;intro u1 r h;apply l1 h;intro u2 r h;apply l0 h;exact hb kV dc pm an cd ct u0 u1 u2⟩
def Uo {K:yA} {h:Heap} {mg:Str->Option Value} {x:Str} {st:Stmt} {f:Addr} {od an:Option Addr} {sl:Array (Option Value)} {oc kV dc pm cd ct:Value} {p0 p1 p2 p3:Str} (X:K.In h) (G:h.Ns mainGlobals mg) (a:PySem.W.nsIn K mainGlobals x=some (some (.ref f))<|>qn_) (l:K.lookup f=some ⟨oc,od,.func (PySem.W.fnOf x x (cI st) (bW st) (ao st) .none kV dc pm an cd ct),sl⟩<|>qn_) (c:PySem.W.codeIn K cd x=true<|>qn_) (k:PySem.W.keepIn K (.ref f)=true<|>qn_)
  (hb:(∀(kV dc pm:Value) (an:Option Addr) (cd ct u0 u1 u2 u3:Value),bindArgs (PySem.W.fnOf x x (cI st) (bW st) (ao st) .none kV dc pm an cd ct) ⟨[u0,u1,u2,u3],[]⟩=pure [(p0,u0),(p1,u1),(p2,u2),(p3,u3)])<|>qo_) :
  Df K mg x st f (PySem.W.fnOf x x (cI st) (bW st) (ao st) .none kV dc pm an cd ct) [p0,p1,p2,p3]:=
 ⟨iB l c k,PySem.W.mg_of X G a,(iB l c k).binds (ps:=[p0,p1,p2,p3]) fun kV dc pm an cd ct us hl=>by
  apply l1 hl;intro u0 r h;apply l1 h;intro u1 r h;apply l1 h;intro u2 r h;apply l1 h;intro u3 r h;apply l0 h;exact hb kV dc pm an cd ct u0 u1 u2 u3⟩
def UR {K:yA} {h:Heap} {mg:Str->Option Value} {x:Str} {st:Stmt} {f:Addr} {od an:Option Addr} {sl:Array (Option Value)} {oc kV dc pm cd ct:Value} {p0 p1 p2 p3 p4:Str} (X:K.In h) (G:h.Ns mainGlobals mg) (a:PySem.W.nsIn K mainGlobals x=some (some (.ref f))<|>qn_) (l:K.lookup f=some ⟨oc,od,.func (PySem.W.fnOf x x (cI st) (bW st) (ao st) .none kV dc pm an cd ct),sl⟩<|>qn_) (c:PySem.W.codeIn K cd x=true<|>qn_) (k:PySem.W.keepIn K (.ref f)=true<|>qn_)
  (hb:(∀(kV dc pm:Value) (an:Option Addr) (cd ct u0 u1 u2 u3 u4:Value),bindArgs (PySem.W.fnOf x x (cI st) (bW st) (ao st) .none kV dc pm an cd ct) ⟨[u0,u1,u2,u3,u4],[]⟩=pure [(p0,u0),(p1,u1),(p2,u2),(p3,u3),(p4,u4)])<|>qo_) :
  Df K mg x st f (PySem.W.fnOf x x (cI st) (bW st) (ao st) .none kV dc pm an cd ct) [p0,p1,p2,p3,p4]:=
 ⟨iB l c k,PySem.W.mg_of X G a,(iB l c k).binds (ps:=[p0,p1,p2,p3,p4]) fun kV dc pm an cd ct us hl=>by
  apply l1 hl;intro u0 r h;apply l1 h;intro u1 r h;apply l1 h;intro u2 r h;apply l1 h;intro u3 r h;apply l1 h;intro u4 r h;apply l0 h;exact hb kV dc pm an cd ct u0 u1 u2 u3 u4⟩
def walk {l:PySem.W.OpenLaw} {q:Program} {loose:List Str} {XP:(Str->Option Value)->Heap->Prop} {YP:World->Heap->Prop} {d:DefRec} {K:Params->yA} (hn:l.most=some 63) (hdf:d.params.defaults=[]) (hdn:d.name ="law")
  (hY:∀(w:World) (h:Heap),YP w h->(K w.params).In h)
  (F:∀(w:World) (mg:Str->Option Value) (h:Heap),(K w.params).In h->h.Ns mainGlobals mg->
   ∃T:Txt (K w.params) mg,Dk l.prog w (K w.params) T/\∀(s:Shared) (v:Value),BindsTo s T.NO ⟨[v],[]⟩ [("_law_script",v)]) :
  PySem.W.WalkO q loose XP YP l.row.toRowW d [] (fun f vs=>PySem.call f vs):=
 L2.Of (n:=63) (k:=9) (x:="_law_script") (CX:=fun _=>HE) (sp:=fun w=>Mr (K w.params)) hn ∅ hdf ⟨rfl,∅,∅⟩ hY
  (fun w mg fa h kx hns hm=>by
   obtain⟨T,B,hb⟩:=F w mg h kx hns;rw[hdn] at hm;have e:=hm.symm.trans T.Ua.g;cases e;exact⟨T.NO,hb,fun base _ _=>QT T B T.cf⟩) (fun _ _ a ns hl _ hS=>⟨a,ns,rfl,hS,hl,fun _=>rfl⟩) fun _ _ _ _ _ z=>z
def Ux {P:Program} {w:World} {K:yA} {a:Addr} {n:Nat} {t0 t1 t2 t3 t4 t5 t6 t7 t8:Tok} {f0 f1 f2 f3 f4 f5 f6 f7 f8:Addr} {s0 s1 s2 s3 s4 s5 s6 s7 s8:Str} (r:K.lookup a=some {cls:=.type "dict",data:=.dict #[⟨PyData.keyHash w.params s0,.str s0 t0,.ref f0⟩,⟨PyData.keyHash w.params s1,.str s1 t1,.ref f1⟩,⟨PyData.keyHash w.params s2,.str s2 t2,.ref f2⟩,⟨PyData.keyHash w.params s3,.str s3 t3,.ref f3⟩,⟨PyData.keyHash w.params s4,.str s4 t4,.ref f4⟩,⟨PyData.keyHash w.params s5,.str s5 t5,.ref f5⟩,⟨PyData.keyHash w.params s6,.str s6 t6,.ref f6⟩,⟨PyData.keyHash w.params s7,.str s7 t7,.ref f7⟩,⟨PyData.keyHash w.params s8,.str s8 t8,.ref f8⟩] n}) (y:(a == sysModules)=false) (nd:List.Nodup [s0,s1,s2,s3,s4,s5,s6,s7,s8]) :
  KD P w K a [(s0,.ref f0),(s1,.ref f1),(s2,.ref f2),(s3,.ref f3),(s4,.ref f4),(s5,.ref f5),(s6,.ref f6),(s7,.ref f7),(s8,.ref f8)]:=Sg (l:=[(s0,t0,f0),(s1,t1,f1),(s2,t2,f2),(s3,t3,f3),(s4,t4,f4),(s5,t5,f5),(s6,t6,f6),(s7,t7,f7),(s8,t8,f8)]) r y nd
def UN {K:yA} {a:Addr} {rd:Option Addr} {rs:Array (Option Value)} {rn:Nat} {t0 t1 t2 t3 t4 t5:Tok} {x0 x1 x2 x3 x4 x5:Int} (r:K.lookup a=some ⟨.type "tuple",rd,.seq #[.int x0 t0,.int x1 t1,.int x2 t2,.int x3 t3,.int x4 t4,.int x5 t5] rn,rs⟩) (H:Hp):dw K H a [.int x0,.int x1,.int x2,.int x3,.int x4,.int x5]:=
 .inr ⟨_,_,_,r,rfl,rfl,by show 6<=sizeLine;decide,.cons ⟨_,rfl⟩ (.cons ⟨_,rfl⟩ (.cons ⟨_,rfl⟩ (.cons ⟨_,rfl⟩ (.cons ⟨_,rfl⟩ (.cons ⟨_,rfl⟩ (.nil))))))⟩
def UQ {K:yA} {x y:Str} {st:Stmt} {f:Addr} {od an:Option Addr} {sl:Array (Option Value)} {oc kV dc pm cd ct:Value} {p:Str} (l:K.lookup f=some ⟨oc,od,.func (PySem.W.fnOf x y (cI st) (bW st) (ao st) .none kV dc pm an cd ct),sl⟩<|>qn_) (c:PySem.W.codeIn K cd y=true<|>qn_) (k:PySem.W.keepIn K (.ref f)=true<|>qn_)
  (hb:(∀(kV dc pm:Value) (an:Option Addr) (cd ct u:Value),bindArgs (PySem.W.fnOf x y (cI st) (bW st) (ao st) .none kV dc pm an cd ct) ⟨[u],[]⟩=pure [(p,u)])<|>qo_):UG K x y st f (PySem.W.fnOf x y (cI st) (bW st) (ao st) .none kV dc pm an cd ct) [p]:=
 ⟨iB l c k,(iB l c k).binds (ps:=[p]) fun kV dc pm an cd ct us hl=>match us,hl with | [u],_=>hb kV dc pm an cd ct u⟩
def OU {K:yA} {C:Addr} {f:Str} (e:PySem.W.findIn K (.ref C) f=some none<|>qn_):e9 K C f:=e
def xj {K:yA} {h:Heap} {mg:Str->Option Value} {x:Str} {v:Value} (X:K.In h) (G:h.Ns mainGlobals mg) (e:PySem.W.nsIn K mainGlobals x=some (some v)<|>qn_):mg x=some v:=PySem.W.mg_of X G e
def Fh {K:yA} {h:Heap} {mg:Str->Option Value} {x:Str} (X:K.In h) (G:h.Ns mainGlobals mg) (e:PySem.W.nsIn K mainGlobals x=some none<|>qn_):mg x=none:=PySem.W.mg_none_of X G e
end K22
set_option genInjectivity false in
structure PySem.W.Fast:Prop where
 (tw6222419713764210655 tw8392644191299956325 tw6917381622203575502 tw17169154976344663918 tw11660015589038570246 tw15469045453409655450 tw2244955062201745184 tw7328076697107544199 tw8895582053000438269 tw17083755399722792642 tw7569690214301275618 tw4935244215006036192 tw7343261485295985041 tw9343913137520742697 tw15557040891510467809 tw5520015728076343866 tw15664471560657759121 tw11825400664980983375 tw4708319947126070535 tw6750784897975423497 tw15061415988129717445 tw13909895266834742068 tw4193235893193042077 tw2092366122768563488 tw553358861305760656 tw3414188966790327689 tw8452400242904048601 tw8151534730501186042 tw5900081370495814395 tw18168337349648517865 tw4331614742772531908 tw16142489075115788981 tw7026448590908907904 tw5581315265650154364 tw10199068017595225981 tw17060704035192092748 tw13625168035232459510 tw2550982874586710871 tw11140300548496303678 tw1154610441569387391 tw11795950120101055389 tw15073221538410019272 tw16403485630290442500 tw7890946622149194735 tw11440730530321015256 tw10956243699728717885 tw10905625930511208743 tw699885019372505640 tw9500169762123311703 tw10042496045228801687 tw13890260082036521526 tw3938828653454891693 tw11502384436534568143 tw6157284392139901947 tw10078663220347946522 tw7798954127149883758 tw7931786774827006703 tw662326240152201202 tw4917160900623606923 tw4116761449672522916 tw8773400143448616198 tw16013643738970040474 tw7848842230603486127 tw1092433277251609864 tw4044414165201349656 tw5292944623998234134 tw6785612223330665367 tw10209335974807910094 tw1863493889361060315 tw3783278987611695972 tw16633360639309028950 tw874815086993333683 tw6279702615962629067 tw4448017764523900893 tw12584122067623813657 tw3430322878924737568 tw609213448877933151 tw13167148931458634171 tw1412890621405086672 tw4645260257209671495 tw7026851950453077345 tw8731162302005877620 tw7257638026642440880 tw11115091830499750107 tw6736418671537073764 tw18066774147199310880 tw11368242894153755275 tw4620463094618846126 tw9393682773561681094 tw5437804729833513100 tw2775870517959876390 tw7443649427939235094 tw11011520563055353119 tw8480551830820630369 tw12820684867579202030 tw15028921414286786173 tw4994091222796565074 tw2371422107489348838 tw15896455184540379042 tw13634874352445510972 tw10512890348724915792 tw14768272533099775317 tw12856564266172959949 tw12807287342246383378 tw10187994614396781901 tw4743351633265978451 tw6978974986272717263 tw15947695912085420314 tw10496658927449753633 tw18043383842148758213 tw5819775631171968177 tw17715350562168418404 tw3525917755572603363 tw15677620186193449588 tw7803169568973019815 tw17862685782714065175 tw6488743052839044956 tw13161625260910332909 tw17793145620982132472 tw8138368861574449865 tw2004245501030594510 tw17923417374829891025 tw17089514707247076083 tw7431609025371332338 tw13032056059476341641 tw15895251796978822184 tw6392514099984885026 tw9407421123642995386 tw17418893298833061586 tw15324345883026726134 tw12664969235184597284 tw12411554656896910130 tw3383202963566955582 tw13231364618099524479 tw7997775063084181423 tw16782838794374853310 tw6748536668237806967 tw2975260720504948409 tw9678682725846806978 tw12285327162388376152 tw10533510190886818417 tw17241357099848682531 tw1369940519679554781 tw12064381912759810880 tw18433255307928614889 tw5513021848440321687 tw15315085596738319800 tw18410595665689686201 tw4420647787297503182 tw8495150707772868693 tw15549982186280443594 tw2040325928848591555 tw4155960107286182939 tw3680439399769115717 tw3298440264946207552 tw5421404536411130449 tw17321414464447807450 tw1057929746479325776 tw11263081747078126943 tw3899147228361787852 tw17701332384635173705 tw17344746333185204575 tw17648991261910399598 tw735960033784441167 tw18173575760918554502 tw17812208146930569324 tw9998821458313097083 tw3955025880381040151 tw9720727002863211509 tw13956950039689678472 tw12019248131257761085 tw1666854208826782121 tw8902617409167265772 tw11591116052354757141 tw15946897667011109794 tw9933774478676862660 tw14632371101717189137 tw10394656033018970446 tw8111095037511602149 tw2535380002504612951 tw11145199414298269543 tw5343736101562179533 tw1251509740239677245 tw6352810899120751227 tw16819833491360189293 tw14675353870260050472 tw2739294964113764266 tw13018139823482691033 tw10958104504672184194 tw2820581060013519049 tw3771525788582805379 tw18101802570512985838 tw13035199221979176994 tw16077818085123066903 tw5166630446910038329 tw9649573271196313542 tw14612411935102766597 tw12015498342186888162 tw5912697449840913436 tw842424598902703751 tw17323338052537699283 tw3968900619993392419 tw8871826997594838270 tw2498843639348663734 tw12472018833836201953 tw11773858018288818813 tw8147051903991386766 tw12440447973698104985 tw5779300906842421453 tw3029998904763998712 tw9652838065723983017 tw9585030905711188624 tw14630759107449023624 tw14539686740241806137 tw15395453252336402169 tw2918766538065003540 tw13503661154953592550 tw5687727167504920916 tw1717614267455607282 tw9140637897460388880 tw11020163364625044013 tw4844665628979004947 tw2114916344799916948 tw10709825393460336277 tw5312072281885980094 tw15329298959392711393 tw7096187295988584877 tw8662478910404776985 tw11792639654837611862 tw15922843051501994681 tw1074544505371944958 tw9690909264505340272 tw6983152000502532274 tw5727886865623877421 tw2418203360401623998 tw5732727443786325401 tw2581841377502604088 tw11506776096869728964 tw14928669681968686906 tw17601515499076521616 tw13421865728244755148 tw7855159170869371604 tw3474905658839488360 tw8611236558957169574 tw7347423869098929515 tw11492728627862030630 tw4775112317093221854 tw13574999906665891126 tw12530734305131705304 tw16507449724821176634 tw7541275682334556565 tw16742982865916577595 tw8756022172233052235 tw2171106323512944507 tw3190175017349489976 tw8605191645434785891 tw18441326897218111312 tw4098721736763654588 tw7966593313756025150 tw5925034609696217276 tw13375125488907711992 tw261194207380353224 tw2645174599238093480 tw13325117968256181390 tw10953312053237947264 tw122635402030903990 tw14762383810044640680 tw7760585108370964030 tw6739618521187609834 tw1431166255879253072 tw8053592729656143269 tw11392650210626978781 tw14882003609713228626 tw1215525564493752621 tw786426013387388157 tw15920190134941906311 tw10651271243738159243 tw17703835732298866754 tw13589892308305961024 tw9707979835644980309 tw8919444352281507992 tw4427970503755304139 tw14409781178636130418 tw14380418140607127213 tw1114783664774900444 tw14279770096095732501 tw1332719417213111812 tw13057889087601043814 tw3005043082701516540 tw15149937461723491507 tw135368514349830862 tw8296368673722307118 tw729343104873164843 tw7728365810601637746 tw753667699286156359 tw9827829079498276661 tw9774866445974026196 tw13741009028341089734 tw2156888993397255141 tw18355015957648297241 tw10206576595884379143 tw5569845596161749874 tw18366150150230043823 tw976689510951904671 tw6491552767795312422 tw14384498481877532063 tw322819733109779538 tw12029304819995503944 tw4102467011875008982 tw3776177038517756558 tw8760853746380139228 tw8084600457383491120 tw12257619818597013098 tw7840427257124952515 tw11600310540949570858 tw11485726578256215585 tw4598788761830777588 tw2231227081671630154 tw10784107272729548407 tw15913007551691579683 tw9973491239812169899 tw993745527513205445 tw9827300184509168113 tw9106162568450996855 tw9001635733139563829 tw8981962795373979181 tw8556941004851802658 tw8519047207904892513 tw8095238725885075751 tw7972398053253242501 tw7321410908404101676 tw7036920928731371522 tw7008288723652205680 tw6907969598355419562 tw6857258770978908918 tw5698728729057824449 tw5183573025467927965 tw5064114928593526878 tw4564247147205331375 tw444255803109985451 tw4259272382953583628 tw3550080464491875204 tw34830450251758928 tw2890571689297284671 tw2865088195101851734 tw2188660765758217422 tw212718504697308286 tw17537695832958369786 tw17274102409709865256 tw1721431628205662380 tw16861089383118119624 tw16848231512959123132 tw15694872901520335396 tw15691570580922537939 tw1563900689146687489 tw15200218835051067549 tw15130053679818207462 tw15074779178069755839 tw1488597534573175000 tw14044381358384346439 tw13625114978448094226 tw13316670149765804490 tw13204700353088819992 tw12985342378139024131 tw1255972300740953407 tw12444384335914355279 tw12349034302036097562 tw12340063168329967258 tw12320497077107218190 tw11667387431609586340 tw11634470062239908005 tw10753509125199223217 tw10747863582103289227 tw10470742649648912449 tw9649508810114913117 tw9547094249497706025 tw5886108109103672425 tw17108082191193835964 tw8555647964991736559 tw2933933307364629028 tw772988556768350245 tw474331946719938105 tw14636648575341805923 tw11974582055250210738 tw4418422544101695278 tw8200260456563380556 tw4895787668884291153 tw2651069919618888118 tw12134587375685258056 tw9323214169205447725 tw7390067305578766659 tw2045027192622806233 tw17294390321917559321 tw1727392906087727460 tw16076536796866008659 tw13658621155120693716 tw10999605052565361353 tw1225970557492153266 tw6221524595424468491 tw17731843655135863406 tw9135073726493625188 tw9282982882670463296 tw9067992861299624042 tw3563352226595167813 tw15967568644584002866 tw14434895368665884252 tw11125390119488673129 tw346816781639859972 tw1616773522587461681 tw8865221155281941402 tw9377214911763242027 tw6341230065753084005 tw4351615935979975992 tw15159053567589508943 tw479652964023483493 tw9975906805858399230 tw9514347635923658641 tw10555591634037584245 tw7129925109326357017 tw3634788989187677567 tw9629332017508952708 tw877833669024694185 tw16652500591715786453 tw8610837949782935331 tw7626904163247685145 tw3264217770006250960 tw3033991357771212963 tw13143013533457008949 tw11386178400320988272 tw2618940914859215103 tw15534597756764964781 tw1407993272198535912 tw1957708166410956560 tw13451333469272774263 tw455095426853185924 tw3070900706136489445 tw13827883964838719336 tw1107246958916177058 tw11655143289963972498 tw16900036366946504693 tw14553900840102662093 tw10751831179997378035 tw8489895552741596441 tw6706275640902695217 tw16120365216650021897 tw11575517376772630039 tw10903152162557764165 tw12932310801664994403 tw13766053355265780840 tw11092201463818574676 tw9801709881759435045 tw9673337147233574532 tw9590292706174159897 tw9324412697670257427 tw8947296891368259878 tw8602923092806271242 tw8481875001888055350 tw7185507716901438863 tw5590638731815019272 tw2147283115628502361 tw18028426927451451510 tw16896586441050232862 tw13632245984427330636 tw13277506389877330387 tw10128408866270350949 tw914257232855379375 tw834004630386599102 tw7977835979441741079 tw7486785581778146193 tw733843797963388334 tw6218559454797557509 tw4672860162681250585 tw3489517915928262820 tw2748353225228420272 tw2676085237475281584 tw18151241545007039264 tw18080279966238318297 tw15905086081519384275 tw15694301157347303477 tw1511280254675079426 tw14212620079997730281 tw12971708245627478910 tw11468716912609786165 tw11019324776555479336 tw10930720653840165800 tw10804237607512065143 tw9928626937856077473 tw9819916133830924807 tw9713462260762550515 tw9663092927802535626 tw9493033312946433887 tw9346968025600819456 tw9315891986316592755 tw9200351498362306516 tw9091499905959113932 tw8896327875491872596 tw8692071058640447405 tw8387569031604288773 tw8173467340112055317 tw7835927301759657601 tw7744299818023927673 tw7363666015566155590 tw7320153928719286462 tw7317348623841141104 tw7089002796033306337 tw6953659924249486576 tw6822160075247421669 tw6717452589906602563 tw6715440483324140590 tw6631582117070568872 tw6552879969046999294 tw6534548822972340291 tw612094162392276164 tw5628382333191498754 tw5441890437049727167 tw5365801320134985360 tw5360579472072279434 tw535897696042088834 tw5193604306029957471 tw5188117552570015955 tw518620895089345285 tw5169966728027565216 tw5032791024041992355 tw4976283791916681361 tw4700976046004826151 tw4406930233224073205 tw436631079954515455 tw4157491223469363256 tw4079712424151074935 tw3811083781462694048 tw364556653194966654 tw3613039836327325166 tw3443117907275894209 tw3413511072144468379 tw320290939814172947 tw3085412018961625011 tw3061649901000781021 tw2890565147982107193 tw2819051099654030522 tw2748457989156257124 tw2732956497635750843 tw2522850131554415537 tw2500655913924231698 tw2455887981597833240 tw2451966651734882171 tw2399857644541312862 tw2003714639562481328 tw1899171504806960868 tw1871810149964084795 tw18373892514248859035 tw18143453634534165221 tw17996390130263891038 tw17679702322066072067 tw17595916304721068774 tw17515462157689820628 tw17430080820687633769 tw17275550053372566656 tw17240577190531596863 tw1722052872926671624 tw17187157686667874547 tw1705033680846707223 tw16983642382155285041 tw16246863504127338546 tw16154909329264775815 tw15947168280021824565 tw15855552201498103804 tw15743949358676328665:True)
open PySem PySem.W PyProof.Rows L2 Sc K22
set_option maxRecDepth 100000 in
set_option maxHeartbeats 0 in
theorem PySem.Challenge.cw_partsmith_k27_cues_holds : PySem.Challenge.rw_partsmith_k27_cues.Holds := by
  w_on; o_law; k_head; (case hw => w_witness2)
  k_fill
  refine K22.walk (l := PySem.Challenge.rw_partsmith_k27_cues) rfl rfl rfl (fun w h Y => PySem.W.kIn_of Y) ?F
  case F =>
    intro w mg h X G
    exact ⟨⟨_, _, _, _, _, _, _, _, _, _, _, _, _, _, _, _, _, _, _, _, _, _, _, _, _, _, _, _, _, _, _, _, _, _, _, _, _, _, _, _, _, _, _, _, _, _, _, _, _, _, _, _, _, _, _, _, _, _, _, _, _, _, _, _, _, _, _, _, _, _, _, _, _, _, _, _, _, _, _, _, _, _, _, _, _, _, _, _, _, _, _, _, _, _, _, _, _, _, _, _, _, _, _, _, _, _, _, _, _, _, _, _, _, _, _, _, _, _, _, _, _, _, _, _, _, _, _, _, _, _, _, _, _, _, _, _, _, _, _, _, _, _, _, _, _, _, _, _, _, _, _, _, _, _, _, _, _, _, _, _, _, _, _, _, _, _, _, _, _, _, _, _, _, _, _, _, _, _, _, _, _, _, _, _, _, _, _, _, _, _, _, _, _, _, _, _, _, _, _, _, _, _, _, _, _, _, _, _, lz X G, lz X G, lz X G, lz X G, lz X G, lz X G, m7 X G, lz X G, m7 X G, m7 X G, m7 X G, m7 X G, m7 X G, m7 X G, PZ X G, m7 X G, lz X G, m7 X G, m7 X G, m7 X G, m7 X G, m7 X G, m7 X G, m7 X G, m7 X G, m7 X G, m7 X G, m7 X G, m7 X G, m7 X G, m7 X G, m7 X G, m7 X G, lz X G, lz X G, lz X G, lz X G, lz X G, PZ X G, lz X G, lz X G, lz X G, m7 X G, lz X G, lz X G, lz X G, lz X G, lz X G, lz X G, lz X G, lz X G, lz X G, lz X G, PZ X G, lz X G, PZ X G, m7 X G, lz X G, PZ X G, lz X G, lz X G, PZ X G, lz X G, lz X G, lz X G, lz X G, m7 X G, lz X G, lz X G, PZ X G, Uo X G, Uo X G, Uo X G, lz X G, lz X G, lz X G, PZ X G, m7 X G, lz X G, lz X G, m7 X G, m7 X G, m7 X G, m7 X G, m7 X G, m7 X G, m7 X G, m7 X G, m7 X G, UR X G, m7 X G, xj X G, ⟨by k_is, by k_is, by k_is, by k_is⟩, UQ, xj X G, xj X G, xj X G, xj X G, xj X G, xj X G, xj X G, xj X G, xj X G, xj X G, xj X G, xj X G, UN (by k_is), xj X G, xj X G, xj X G, xj X G, xj X G, xj X G, xj X G, xj X G, xj X G, xj X G, Fh X G, Fh X G, Fh X G, Fh X G, Fh X G, Fh X G, Fh X G, Fh X G, Fh X G, Fh X G, Fh X G, Fh X G, Fh X G, Fh X G, Fh X G, Fh X G, Fh X G, Fh X G, by k_is, by k_exc, xj X G, ⟨⟨by k_is, by k_is, by k_is, by k_is⟩, OU, OU, OU, OU, OU, OU, OU, OU, OU⟩⟩, ⟨Ux (by k_is) (by rfl) (show List.Nodup [("player" : Str), ("instrument" : Str), ("staff" : Str), ("bar" : Str), ("upbeat" : Str), ("holds" : Str), ("notes" : Str), ("repeat" : Str), ("jump" : Str)] by decide +kernel), Ux (by k_is) (by rfl) (show List.Nodup [("player" : Str), ("instrument" : Str), ("staff" : Str), ("bar" : Str), ("upbeat" : Str), ("holds" : Str), ("notes" : Str), ("repeat" : Str), ("jump" : Str)] by decide +kernel)⟩, fun s v => .of_eq rfl⟩
