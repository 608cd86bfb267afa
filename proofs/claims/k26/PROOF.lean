import PyProof.Rows.All
import KE.KNestM
import Wide.FinOn
import PyProof.EqAt
import PyProof.EqKinds
import PyProof.TupleCall
import PyProof.ZipIter
import PyProof.WalksMore
import PyProof.CompFree
import PyProof.NeKinds
import KE.KRevIter
import PyProof.Rows.Range3
import KE.KIntText
import OpenK.KOwn
import PyProof.NsDelKeeps
import KE.KIsAll
import PyProof.CompMap
import PyProof.Cells
import PyProof.ConsumeWalk
import PyProof.SumWalk
import PyProof.Rows.SortShell
import PyProof.MeetsStr
import PyProof.StrOps2
import PyProof.DictWalks
import PyProof.Rows.SetFrom
import PyProof.SetRoads
import PyProof.ListRange
import PyProof.ListNew
import PySem.Challenge.RW_partsmith_k26_entries
local macro_rules|`(tactic|omega)=>`(tactic|lia)
local macro_rules|`(nofun)=>`(by omega)
local macro_rules|`(∅)=>`(by decide)
local macro_rules|`(↑$s)=>`(($s).heap.objs.size)
local macro_rules|`($a <|> $b)=>`(autoParam $a $b)
set_option compiler.extract_closed false
set_option Elab.async false
set_option linter.all false
set_option maxRecDepth 100000
set_option maxHeartbeats 8000000
def qa_1(h:True:=by first | exact .inl rfl | exact .inr rfl | assumption):=h
def qa_:=qa_1._auto_1
def qb_1(h:True:=by decide):=h
def qb_:=qb_1._auto_1
def qc_1(h:True:=by first | exact GH _ (by decide) (by decide) | rfl):=h
def qc_:=qc_1._auto_1
def qd_1(h:True:=by intro _;rfl):=h
def qd_:=qd_1._auto_1
def qe_1(h:True:=by rfl):=h
def qe_:=qe_1._auto_1
def qf_1(h:True:=by with_unfolding_all rfl):=h
def qf_:=qf_1._auto_1
def qg_1(h:True:=by first | exact Or.inl rfl | exact Or.inr (Or.inl rfl) | exact Or.inr (Or.inr rfl)):=h
def qg_:=qg_1._auto_1
def qh_1(h:True:=by repeat constructor):=h
def qh_:=qh_1._auto_1
def qi_1(h:True:=by first | exact Or.inl rfl | exact Or.inr rfl):=h
def qi_:=qi_1._auto_1
def qj_1(h:True:=by exact fun _ _=>rfl):=h
def qj_:=qj_1._auto_1
def qk_1(h:True:=by intro vs H Q E h;first | (obtain⟨_,rfl,_⟩:=h;rfl) | (cases h;subst_vars;rfl)):=h
def qk_:=qk_1._auto_1
def ql_1(h:True:=by decide +kernel):=h
def ql_:=ql_1._auto_1
def qm_1(h:True:=by repeat' (first | exact trivial | exact .inl rfl | exact rfl | constructor)):=h
def qm_:=qm_1._auto_1
def qn_1(h:True:=by k_is):=h
def qn_:=qn_1._auto_1
def qo_1(h:True:=by intros;rfl):=h
def qo_:=qo_1._auto_1
def za:=@List.length_map
def zb:=@List.getElem?_eq_getElem
def zd:=@decide_eq_false
def ze:=@decide_eq_true
def zg:=@List.length_append
def zh:=@List.map_cons
def zj:=@List.map_append
def zk:=@Nat.le_refl
def zm:=@List.mem_cons_of_mem
def zp:=@List.mem_cons_self
def zr:=@Int.emod_lt_of_pos
def zt:=@List.length_cons
def zv:=@Int.emod_nonneg
def zw:=@List.getElem?_eq_some_iff
def zy:=@List.mem_singleton
def zA:=@List.map_map
def zB:=@List.mem_of_getElem?
def zC:=@List.mem_cons
def zD:=@List.not_mem_nil
def zE:=@List.append_assoc
def zF:=@List.mem_append
def zG:=@List.mem_map
def zH:=@List.mem_append_right
def zI:=@List.mem_append_left
def zJ:=@List.getElem?_map
def zK:=@Bool.false_ne_true
def zL:=@Nat.le_trans
def zM:=@List.take_length
def zN:=@Bool.and_eq_true
def zO:=@List.mem_map_of_mem
def zP:=@List.length_take
def zQ:=@List.length_range
def zR:=@List.nodup_append
def zT:=@List.pairwise_append
def zU:=@List.append_nil
def zV:=@Int.ediv_nonneg
def zW:=@Int.ediv_le_self
def zX:=@List.foldl_append
def zY:=@List.take_append_drop
def zZ:=@List.getElem?_append_right
def z9:=@List.flatten_cons
def ya:=@List.size_toArray
def yb:=@Nat.lt_of_lt_of_le
def yc:=@List.nodup_cons
def yd:=@of_decide_eq_true
def ye:=@Nat.lt_irrefl
def yf:=@Nat.zero_le
def yg:=@Nat.le_of_lt
def yh:=@Nat.ne_of_gt
def yi:=@Nat.ne_of_lt
def yj:=@Option.some.inj
def yk:=@List.getElem_mem
def ym:=@List.map_nil
def yn:=@List.any_eq_true
def yo:=@List.all_eq_true
def yp:=@List.lookup_cons
def yq:=@List.length_pos_iff
def yr:=@List.length_eq_zero_iff
def yt:=@PySem.wpAny_bind
def yu:=@PySem.Heap.get?_push_of_some
def yv:=@PySem.wpAny_pure
def yw:=@PySem.Heap.get?_push_size
def yx:=@PySem.Heap.lt_size
def yy:=@PySem.Heap.get?_update_other
def yz:=@PySem.Heap.get?_update_self
abbrev yA:=PySem.W.Frag
def yB:=@PySem.sizeLine_eq
def yC:=@PySem.F.plainAttrs_list
def yD:=@PySem.F.type_list_append
def yE:=@PySem.F.slot_list_append
def yF:=@PySem.F.plainAttrs_str
def yG:=@PySem.F.type_str_join
def yH:=@PySem.F.slot_str_join
def yI:=@PySem.F.type_str_split
def yJ:=@PySem.F.slot_str_split
def yK:=@Int.eq_ofNat_of_zero_le
def yL:=@PyProof.Rows.callWith_type1
namespace L2
open PySem PySem.Spec PyProof.Rows
abbrev Key:=Sum Int Str
def CY:Key->Value->Bool
 | .inl k,v=>Value.isInt k v
 | .inr x,v=>Value.isStrOf x v
def Ue (w:World):Key->Int
 | .inl k=>hashInt k
 | .inr x=>hashStr w x
def dk:∀{k:Key} {v:Value},CY k v=true->(∃i t,k=Sum.inl i/\v=Value.int i t)\/(∃x t,k=Sum.inr x/\v=Value.str x t)
 | .inl i,v,h=>by
  obtain⟨t,e⟩:=Value.isInt_shape (k:=i) (v:=v) h;exact .inl ⟨i,t,rfl,e⟩
 | .inr x,v,h=>by
  obtain⟨t,e⟩:=Value.isStrOf_shape (x:=x) (v:=v) h;exact .inr ⟨x,t,rfl,e⟩
def La (i:Int) (t:Tok):CY (.inl i) (.int i t)=true:=by simp[CY,Value.isInt]
def pw (x:Str) (t:Tok):CY (.inr x) (.str x t)=true:=by simp[CY,Value.isStrOf]
def Q8 (a b:Int):decide ((Sum.inl a:Key)=Sum.inl b)=(a == b):=by
 by_cases e:a=b
 ·subst e;simp
 ·have h:¬(Sum.inl a:Key)=Sum.inl b:=fun q=>e (Sum.inl.inj q)
  rw[zd h];exact(beq_eq_false_iff_ne.mpr e).symm
def Q5 (a b:Str):decide ((Sum.inr a:Key)=Sum.inr b)=decide (a=b):=by
 by_cases e:a=b
 ·subst e;simp
 ·have h:¬(Sum.inr a:Key)=Sum.inr b:=fun q=>e (Sum.inr.inj q)
  rw[zd h,zd e]
def Q7 (a:Int) (b:Str):decide ((Sum.inl a:Key)=Sum.inr b)=false:=zd (fun q=>nomatch q)
def Q6 (a:Str) (b:Int):decide ((Sum.inr a:Key)=Sum.inl b)=false:=zd (fun q=>nomatch q)
def dh (prog:Program) (w:World):PySem.KeyKind prog w Key where
 is:=CY
 hash:=Ue w
 inj:=fun v a b ha hb=>by
  rcases dk ha with⟨i,t,rfl,rfl⟩ | ⟨x,t,rfl,rfl⟩
  ·rcases dk hb with⟨j,u,rfl,e⟩ | ⟨y,u,rfl,e⟩
   ·injection e with e1 _;rw[e1]
   ·exact nomatch e
  ·rcases dk hb with⟨j,u,rfl,e⟩ | ⟨y,u,rfl,e⟩
   ·exact nomatch e
   ·injection e with e1 _;rw[e1]
 byValue:=fun k v h=>by
  rcases dk h with⟨i,t,rfl,rfl⟩ | ⟨x,t,rfl,rfl⟩ <;> rfl
 pyHash:=fun hv h=>by
  rcases dk hv with⟨i,t,rfl,rfl⟩ | ⟨x,t,rfl,rfl⟩
  ·exact wpAny_pyHash_int h
  ·exact wpAny_pyHash_str h
 eqBool:=fun hu hv h=>by
  rcases dk hu with⟨i,t,rfl,rfl⟩ | ⟨x,t,rfl,rfl⟩
  ·rcases dk hv with⟨j,u,rfl,rfl⟩ | ⟨y,u,rfl,rfl⟩
   ·rw[Q8] at h;exact wpAny_eqBool_int h
   ·rw[Q7] at h;exact SeqAt.EqAt.int_str i t y u _ _ _ _ h
  ·rcases dk hv with⟨j,u,rfl,rfl⟩ | ⟨y,u,rfl,rfl⟩
   ·rw[Q6] at h;exact SeqAt.EqAt.str_int x t j u _ _ _ _ h
   ·rw[Q5] at h;exact wpAny_eqBool_str h
 «strs»:=fun k x t v h=>by
  rcases dk h with⟨i,u,rfl,e⟩ | ⟨y,u,rfl,e⟩
  ·exact nomatch e
  ·injection e with e1 _
   subst e1;cases v <;> rfl
def GJ (prog:Program) (w:World) (i:Int) (t:Tok):(dh prog w).is (.inl i) (.int i t)=true:=La i t
def vO (prog:Program) (w:World) (x:Str) (t:Tok):(dh prog w).is (.inr x) (.str x t)=true:=pw x t
end L2
namespace L2
open PySem PySem.Spec PyProof.Rows
inductive V where
 | bI | bl (b:Bool) | int (i:Int) | str (x:Str) | Kj (b:Array UInt8) | Pa (b:UInt64) | ref (a:Addr) | ty (n:String)
 deriving DecidableEq
def RelV:V->Value->Prop
 | .bI,u=>u=Value.none
 | .bl b,u=>u=Value.bool b
 | .int i,u=>∃t,u=Value.int i t
 | .str x,u=>∃t,u=Value.str x t
 | .Kj b,u=>∃t,u=Value.bytes b t
 | .Pa b,u=>∃t,u=Value.float b t
 | .ref a,u=>u=Value.ref a
 | .ty n,u=>u=Value.type n
abbrev Vals:List V->List Value->Prop:=Paired RelV
theorem Vals.length (r:Vals xs us):xs.length=us.length:=Paired.length r
theorem Vals.get:∀{xs:List V} {us:List Value} {i:Nat} {x:V},Vals xs us->xs[i]?=some x->∃u,us[i]?=some u/\RelV x u
 | _,_,_,_,.nil,e=>by simp at e
 | _,_,0,_,.cons r _,e=>by simp at e;subst e;exact⟨_,rfl,r⟩
 | _,_,i+1,x,.cons _ t,e=>by
  obtain⟨u,h1,h2⟩:=Vals.get (i:=i) (x:=x) t (by simpa using e);exact⟨u,by simpa using h1,h2⟩
theorem Vals.append:∀{xs ys:List V} {us ws:List Value},Vals xs us->Vals ys ws->Vals (xs++ys) (us++ws)
 | _,_,_,_,.nil,s=>s
 | _,_,_,_,.cons r t,s=>.cons r (Vals.append t s)
theorem Vals.take:∀{xs:List V} {us:List Value} (n:Nat),Vals xs us->Vals (xs.take n) (us.take n)
 | _,_,0,_=>.nil
 | _,_,_+1,.nil=>.nil
 | _,_,n+1,.cons r t=>.cons r (Vals.take n t)
theorem Vals.drop:∀{xs:List V} {us:List Value} (n:Nat),Vals xs us->Vals (xs.drop n) (us.drop n)
 | _,_,0,r=>r
 | _,_,_+1,.nil=>.nil
 | _,_,n+1,.cons _ t=>Vals.drop n t
def mE:Option V->Option Value->Prop
 | some v,some u=>RelV v u
 | none,none=>True
 | _,_=>False
def KV:List (κ×V)->List (κ×Value)->Prop:=Paired fun(p:κ×V) (q:κ×Value)=>p.1=q.1/\RelV p.2 q.2
def kV:Key->V
 | .inl i=>.int i
 | .inr x=>.str x
inductive HO where
 | lst (xs:List V)
 | tup (xs:List V)
 | dK (kvs:List (Key×V)) | dT (kvs:List (List Key×V))
 | set (S:Int->Bool) (n:Nat)
 | ins (C dx:Addr) (fs:List (Str×V))
 | own (x:Addr)
 | xd (fs:List (Str×V))
 | met (f x:Addr)
 | KR (lo hi:Int)
 | nK (o:Obj) (u:HO)
 | Ml (ps:Array Value)
 | ext (φ:Heap->Prop)
abbrev Hp:=Addr->Option HO
def upd (H:Hp) (a:Addr) (o:HO):Hp:=fun b=>if b=a then some o else H b
def ay:upd H a o a=some o:=by unfold upd;rw[if_pos rfl]
def aE (h:b≠a):upd H a o b=H b:=by unfold upd;rw[if_neg h]
def bc {H:Hp} {a b:Addr} {o u:HO} (h:H a=some o) (h':H b=some u) (d:o≠u):a≠b:=by
 intro e;subst e;rw[h] at h';exact d (yj h')
def bu {H:Hp} {a b:Addr} {o:HO} (h:H a=some o) (h':H b=none):a≠b:=by
 intro e;subst e;rw[h] at h';cases h'
section
variable (P:Program) (w:World)
def cC (H:Hp) (h:Heap) (a:Addr):HO->Prop
 | .lst xs=>xs.length<=sizeLine/\∃(its:List Value) (n:Nat),Vals xs its/\h.get? a=some {cls:=.type "list",data:=.seq its.toArray n}
 | .tup xs=>xs.length<=sizeLine/\∃its:List Value,Vals xs its/\IsTup h a its.toArray
 | .dK kvs=>kvs.length<=sizeLine/\(a == sysModules)=false/\∃vs,KV kvs vs/\h.DictOf (dh P w) a vs
 | .dT kvs=>kvs.length<=sizeLine/\(a == sysModules)=false/\∃xs:List (List Key×Addr×Value),
   Paired (fun(p:List Key×V) (q:List Key×Addr×Value)=>p.1=q.1/\H q.2.1=some (.tup (p.1.map kV))/\RelV p.2 q.2.2) kvs xs/\
   ∃o es ep,h.get? a=some o/\o.ExactDict/\o.data=.dict es ep/\es.toList=xs.map (entryOfKey (tupleKind (dh P w)))/\(xs.map (·.1)).Nodup
 | .set S n=>h.SetOf (intKind P w) a S n
 | .ins C dx fs=>H dx=some (.own a)/\fs.length<=1000/\dx≠a/\h.get? a=some (PySem.W.instObj C dx)/\
   ∃mA,h.Ns1 dx mA/\(∀f,mE (fs.lookup f) (mA f))/\PySem.Within mA (fs.map (·.1))
 | .own _=>∃o,h.get? a=some o
 | .xd fs=>∃mA,h.Ns1 a mA/\∀f,mE (fs.lookup f) (mA f)
 | .KR lo hi=>∃t u v,h.get? a=some {cls:=.type "range",data:=.fields #[.int lo t,.int hi u,.int 1 v]}
 | .nK o u=>h.get? a=some o/\cC H h a u
 | .Ml ps=>h.get? a=some {cls:=.none,data:=.fields ps}
 | .met f x=>h.get? a=some (PySem.W.methodObj (.ref f) (.ref x))
 | .ext φ=>φ h/\(∃o,h.get? a=some o)/\∀h1 h2:Heap,φ h1->(∀o,h1.get? a=some o->h2.get? a=some o)->φ h2
def rJ (H:Hp) (h:Heap):Prop:=∀a o,H a=some o->cC P w H h a o
end
section
variable {P:Program} {w:World} {H H':Hp} {h h':Heap} {a:Addr} {o:HO}
theorem cC.lt (x:cC P w H h a o):a<h.objs.size:=by
 cases o with
 | lst xs=>obtain⟨_,_,_,_,e⟩:=x;exact yx e
 | tup xs=>obtain⟨_,_,_,p⟩:=x;exact p.lt
 | dK kvs=>obtain⟨_,_,_,_,o,_,_,e,_⟩:=x;exact yx e
 | dT kvs=>obtain⟨_,_,_,_,o,_,_,e,_⟩:=x;exact yx e
 | set S n=>obtain⟨o,_,_,_,e,_⟩:=x;exact yx e
 | ins C dx fs=>obtain⟨_,_,_,e,_⟩:=x;exact yx e
 | own y=>obtain⟨_,e⟩:=x;exact yx e
 | xd fs=>obtain⟨_,⟨_,_,_,e,_⟩,_⟩:=x;exact yx e
 | KR lo hi=>obtain⟨_,_,_,e⟩:=x;exact yx e
 | nK ob u=>obtain⟨e,_⟩:=x;exact yx e
 | Ml ps=>exact yx (show h.get? a=some _ from x)
 | met f y=>exact yx (show h.get? a=some _ from x)
 | ext φ=>obtain⟨_,⟨_,e⟩,_⟩:=x;exact yx e
theorem Paired.Q1:∀{l₁:List α} {l₂:List β},Paired F l₁ l₂->(∀a b,F a b->G a b)->Paired G l₁ l₂
 | _,_,.nil,_=>.nil
 | _,_,.cons r t,f=>.cons (f _ _ r) (Paired.Q1 t f)
def cC.lJ (x:cC P w H h a o) (k:∀b u,(b=a\/H b=some (.own a))->h.get? b=some u->h'.get? b=some u)
  (ho:∀b,H b=some (.own a)->H' b=some (.own a)) (ht:∀b xs,H b=some (.tup xs)->H' b=some (.tup xs)):cC P w H' h' a o:=by
 induction o with
 | lst xs=>obtain⟨z,its,n,r,e⟩:=x;exact⟨z,its,n,r,k _ _ (.inl rfl) e⟩
 | tup xs=>obtain⟨z,its,r,ob,e,c⟩:=x;exact⟨z,its,r,ob,k _ _ (.inl rfl) e,c⟩
 | dK kvs=>obtain⟨z,y,vs,r,ob,es,ep,e,c⟩:=x;exact⟨z,y,vs,r,ob,es,ep,k _ _ (.inl rfl) e,c⟩
 | dT kvs=>
  obtain⟨z,y,xs,r,ob,es,ep,e,c⟩:=x;exact⟨z,y,xs,Paired.Q1 r fun p q z=>⟨z.1,ht _ _ z.2.1,z.2.2⟩,ob,es,ep,k _ _ (.inl rfl) e,c⟩
 | set S n=>obtain⟨ob,es,ep,t,e,c⟩:=x;exact⟨ob,es,ep,t,k _ _ (.inl rfl) e,c⟩
 | ins C dx fs=>
  obtain⟨d,z,ne,e,mA,⟨od,es,ep,e2,c⟩,r⟩:=x;exact⟨ho _ d,z,ne,k _ _ (.inl rfl) e,mA,⟨od,es,ep,k _ _ (.inr d) e2,c⟩,r⟩
 | own y=>obtain⟨ob,e⟩:=x;exact⟨ob,k _ _ (.inl rfl) e⟩
 | xd fs=>obtain⟨mA,⟨od,es,ep,e,c⟩,r⟩:=x;exact⟨mA,⟨od,es,ep,k _ _ (.inl rfl) e,c⟩,r⟩
 | KR lo hi=>obtain⟨t,u,v,e⟩:=x;exact⟨t,u,v,k _ _ (.inl rfl) e⟩
 | nK ob u ih=>obtain⟨e,q⟩:=x;exact⟨k _ _ (.inl rfl) e,ih q⟩
 | Ml ps=>
  have e:h.get? a=some {cls:=.none,data:=.fields ps}:=x;show h'.get? a=some {cls:=.none,data:=.fields ps};exact k a _ (.inl rfl) e
 | met f y=>
  have e:h.get? a=some (PySem.W.methodObj (.ref f) (.ref y)):=x;show h'.get? a=some (PySem.W.methodObj (.ref f) (.ref y));exact k a _ (.inl rfl) e
 | ext φ=>obtain⟨p,⟨o,e⟩,st⟩:=x;exact⟨st _ _ p fun o q=>k _ _ (.inl rfl) q,⟨o,k _ _ (.inl rfl) e⟩,st⟩
theorem rJ.lt (x:rJ P w H h) (e:H a=some o):a<h.objs.size:=(x a o e).lt
def rJ.fresh (x:rJ P w H h) (e:h.objs.size<=a):H a=none:=by
 cases q:H a with
 | none=>rfl
 | some u=>exact absurd (yb (x.lt q) e) (ye _)
def rJ.kept (x:rJ P w H h) (k:∀b u,h.get? b=some u->h'.get? b=some u):rJ P w H h':=fun a o e=>
 (x a o e).lJ (fun b u _ q=>k b u q) (fun _ q=>q) fun _ _ q=>q
def rJ.laid (x:rJ P w H h) (k:∀b u,h.get? b=some u->h'.get? b=some u) (hp:h.objs.size<=a) (new:cC P w (upd H a o) h' a o):rJ P w (upd H a o) h':=fun b u e=>by
 have hn:=x.fresh hp
 by_cases hb:b=a
 ·subst hb;rw[ay] at e;cases e;exact new
 ·rw[aE hb] at e
  exact(x b u e).lJ (fun c v _ q=>k c v q) (fun c q=>by rw[aE (bu q hn)];exact q) fun c xs q=>by rw[aE (bu q hn)];exact q
end
def Rd (H:Hp) (a:Addr) (u:HO):Prop:=H a=some u\/∃o,H a=some (.nK o u)
def Rd.ok (r:Rd H a u) (x:rJ P w H h):cC P w H h a u:=by
 rcases r with r | ⟨o,r⟩
 ·exact x a u r
 ·obtain⟨_,q⟩:=x a _ r
  exact q
def SN:Option HO->Prop
 | some (.lst _)=>True
 | some (.dK _)=>True
 | some (.dT _)=>True
 | some (.set _ _)=>True
 | some (.ins _ _ _)=>True
 | some (.ext _)=>True
 | _=>False
section
variable {P:Program} {w:World} {H:Hp} {h h':Heap} {x e:Addr} {o':HO}
def rJ.write (ok:rJ P w H h) (mu:SN (H x)) (he:e=x\/H e=some (.own x)) (k:∀b u,b≠e->h.get? b=some u->h'.get? b=some u) (heo:∃u,h'.get? e=some u)
  (new:cC P w (upd H x o') h' x o'):rJ P w (upd H x o') h':=fun b u q=>by
 have nown:∀c y,H c=some (.own y)->c≠x:=fun c y r z=>by subst z;rw[r] at mu;exact mu
 have ntup:∀c xs,H c=some (.tup xs)->c≠x:=fun c xs r z=>by subst z;rw[r] at mu;exact mu
 by_cases hb:b=x
 ·subst hb;rw[ay] at q;cases q;exact new
 ·rw[aE hb] at q
  by_cases hbe:b=e
  ·have q':H b=some (.own x):=by
    rcases he with z | z
    ·exact absurd (hbe.trans z) hb
    ·rw[hbe];exact z
   rw[q] at q';cases q';obtain⟨v,hv⟩:=heo;exact⟨v,by rw[hbe];exact hv⟩
  ·refine(ok b u q).lJ (fun c v hc r=>k c v ?_ r) (fun c r=>by rw[aE (nown c b r)];exact r) fun c xs r=>by rw[aE (ntup c xs r)];exact r
   rcases hc with rfl | hc
   ·exact hbe
   ·rintro rfl
    rcases he with z | z
    ·exact nown c b hc z
    ·rw[hc] at z;cases z;exact hb rfl
end
structure Un (fs ex:List Addr) (H H':Hp) (h h':Heap):Prop where
 keep:∀b o,h.get? b=some o->H b=none->b∉fs->b∉ex->h'.get? b=some o
 slot:∀b o,h.get? b=some o->H b=none->b∈fs->b∉ex->∃sl,h'.get? b=some {o with slots:=sl}
 free:∀b o,h.get? b=some o->H b=none->b∉ex->H' b=none
 there:∀b o,h.get? b=some o->b∉ex->∃o',h'.get? b=some o'
 pF:∀b xs,H b=some (.tup xs)->H' b=some (.tup xs)
 nF:∀b o u,H b=some (.nK o u)->H' b=some (.nK o u)
 pG:∀b ps,H b=some (.Ml ps)->∃more,H' b=some (.Ml (ps++more))
section
variable {fs fs' ex ex':List Addr} {H H1 H2:Hp} {h h1 h2 h':Heap} {a x e:Addr} {o:HO}
def Un.any (u:Un fs ex H H1 h h1) (q:h.get? b=some ob) (n:H b=none) (hx:b∉ex):∃sl,h1.get? b=some {ob with slots:=sl}:=by
 by_cases hb:b∈fs
 ·exact u.slot b ob q n hb hx
 ·exact⟨ob.slots,u.keep b ob q n hb hx⟩
def Un.kept (k:∀b u,h.get? b=some u->h'.get? b=some u):Un fs ex H H h h':=
 ⟨fun b ob q _ _ _=>k b ob q,fun b ob q _ _ _=>⟨ob.slots,k b ob q⟩,fun _ _ _ n _=>n,fun b ob q _=>⟨ob,k b ob q⟩,fun _ _ q=>q,fun _ _ _ q=>q,fun _ ps q=>⟨#[],by rw[q];simp⟩⟩
def Un.refl:Un fs ex H H h h:=Un.kept fun _ _ q=>q
def Un.laid (k:∀b u,h.get? b=some u->h'.get? b=some u) (hp:h.objs.size<=a) (hn:H a=none):Un fs ex H (upd H a o) h h' where
 keep:=fun b u q _ _ _=>k b u q
 slot:=fun b u q _ _ _=>⟨u.slots,k b u q⟩
 free:=fun b u q n _=>by rw[aE (yi (yb (yx q) hp))];exact n
 there:=fun b u q _=>⟨u,k b u q⟩
 pF:=fun b xs q=>by rw[aE (bu q hn)];exact q
 nF:=fun b u xs q=>by rw[aE (bu q hn)];exact q
 pG:=fun b ps q=>⟨#[],by rw[aE (bu q hn),q];simp⟩
def Un.write (mu:SN (H x)) (he:e=x\/H e=some (.own x)) (k:∀b u,b≠e->h.get? b=some u->h'.get? b=some u) (heo:∃u,h'.get? e=some u):Un fs ex H (upd H x o) h h':=by
 have hx:∀b,H b=none->b≠x:=fun b n z=>by subst z;rw[n] at mu;exact mu
 have hb:∀b,H b=none->b≠e:=fun b n z=>by
  subst z;rcases he with r | r
  ·exact hx b n r
  ·rw[n] at r;cases r
 have hm:∀b u,H b=some u->¬SN (some u)->b≠x:=fun b u q nm z=>by subst z;rw[q] at mu;exact nm mu
 refine⟨fun b u q n _ _=>k b u (hb b n) q,fun b u q n _ _=>⟨u.slots,k b u (hb b n) q⟩,fun b u q n _=>by rw[aE (hx b n)];exact n,fun b u q _=>?_,
  fun b xs q=>by rw[aE (hm b _ q fun z=>z)];exact q,fun b u xs q=>by rw[aE (hm b _ q fun z=>z)];exact q,fun b ps q=>⟨#[],by rw[aE (hm b _ q fun z=>z),q];simp⟩⟩
 by_cases hbe:b=e
 ·subst hbe;exact heo
 ·exact⟨u,k b u hbe q⟩
end
def S6 (h:Heap) (H:Hp):List Addr:=(List.range h.objs.size).filter fun a=>(H a).isSome
def EA (h:Heap) (H:Hp):Heap:=PySem.W.hideAll h (S6 h H)
def Lf (h:Heap) (H:Hp):(EA h H).objs.size=h.objs.size:=PySem.W.hideAll_size _ _
def Nz (e:h.get? b=some o) (n:H b=none):(EA h H).get? b=some o:=
 PySem.W.hideAll_get _ e fun hm=>by
  have q:(H b).isSome=true:=(List.mem_filter.mp hm).2;rw[n] at q;simp at q
def OZ (e:(EA h H).get? b=some o):h.get? b=some o/\H b=none:=by
 have e':h.get? b=some o:=PySem.W.of_hideAll (S6 h H) e;refine⟨e',?_⟩;cases q:H b with
 | none=>rfl
 | some x=>
  have hm:b∈S6 h H:=List.mem_filter.mpr ⟨List.mem_range.mpr (yx e'),by simp[q]⟩;have z:(EA h H).get? b=none:=PySem.W.hideAll_none (S6 h H) hm;rw[z] at e;cases e
end L2
namespace L2
open PySem PySem.Spec PyProof.Rows
structure Mod (K:yA) (mg:Str->Option Value) (base:Heap):Prop where
 Q4:K.In base
 glob:base.Ns mainGlobals mg
 blt:∃mb,base.Ns builtinsNs mb/\∀x:Str,x≠ "__name__"->mb x=bootBuiltins x
 nolimit:base.NoLimit
set_option genInjectivity false in
structure Cx where
 prog:Program
 w:World
 K:yA
 mg:Str->Option Value
 base:Heap
 A:Around
 N:List Str
 s₀:Shared
 H₀:Hp
 env:Env
 outer:List Env
 stack:List Env
 ex:List Addr
 fn:Str->Bool
 calm:Bool
 pn:List (Addr×Obj)
 xe:Value->Shared->Prop
def qy (l:List Env):List Addr:=l.filterMap (·.frame)
abbrev Cx.fs (X:Cx):List Addr:=qy X.outer
def Rv (sc:Scope) (x:Str):Prop:=sc.names.lookup x=some .local\/sc.names.lookup x=some .cell\/sc.names.lookup x=some .free
def Loc (sc:Scope) (x:Str):Prop:=sc.names.lookup x=some .local\/sc.names.lookup x=some .cell
def Look (env:Env) (h:Heap) (m:Str->Option Value) (x:Str) (u:Value):Prop:=
 (env.kindOf x=some .local/\m x=some u)\/((env.kindOf x=some .cell\/env.kindOf x=some .free)/\∃c,env.cells.lookup x=some c/\h.IsCell c (some u))
structure Cx.Ok (X:Cx):Prop where
 mod:Mod X.K X.mg X.base
 kind:X.env.scope.kind=.function
 glob:X.env.globals=mainGlobals
 blt:X.env.builtins=builtinsNs
 above:X.s₀.heap.objs.size<=X.env.locals
 inj:∀x y c,X.env.cells.lookup x=some c->X.env.cells.lookup y=some c->x=y
 has:∀x,(X.env.kindOf x=some .cell\/X.env.kindOf x=some .free)->∃c,X.env.cells.lookup x=some c
 Rr:∀x c,X.fn x=true->X.env.cells.lookup x=some c->X.s₀.heap.objs.size<=c
 hd:X.calm=true->X.A.handled=none
 frames:X.A.frames=some X.stack
 RC:X.stack=X.outer\/(X.stack=X.env::X.outer/\X.env.frame=some X.env.locals)
 Tc:∀b∈X.ex,b≠X.env.locals/\∀x c,X.env.cells.lookup x=some c->c≠b
 bs:∀b o,X.base.get? b=some o->X.s₀.heap.get? b=some o/\X.H₀ b=none
 LY:X.base.objs.size<=X.s₀.heap.objs.size
 wN:∀b o,X.base.get? b=some o->b∉X.ex
 IZ:∀b∈X.ex,b∉X.fs
 pN:X.s₀.heap.FunFrames X.base X.outer
 GR:∀b∈X.fs,X.H₀ b=none
structure Inv (X:Cx) (pins:List (Addr×Obj)) (σ:List (Option V)) (H:Hp) (s:Shared):Prop where
 ok:X.Ok
 os:s.os=X.s₀.os
 bare:AllBare s.gens
 base:Un X.fs X.ex X.H₀ H X.s₀.heap s.heap
 loc:∃m,s.heap.Ns X.env.locals m/\∀(i:Nat) (x:Str) (v:V),X.N[i]?=some x->σ[i]?=some (some v)->Rv X.env.scope x->∃u,RelV v u/\Look X.env s.heap m x u
 cell:∀x c,X.env.cells.lookup x=some c->∃v,s.heap.IsCell c v
 free:H X.env.locals=none
 kf:∀x c,X.env.cells.lookup x=some c->H c=none
 pin:∀p∈X.pn++pins,s.heap.get? p.1=some p.2/\H p.1=none/\p.1≠X.env.locals/\p.1∉X.fs/\∀v,p.2.data≠.cell v
 cb:rJ X.prog X.w H s.heap
 len:σ.length=X.N.length
section
variable {X:Cx} {pins:List (Addr×Obj)} {σ:List (Option V)} {H H':Hp} {s:Shared} {h':Heap}
def Cx.Ok.Uc (ok:X.Ok) (e:X.base.get? b=some o):b∉X.fs:=fun hb=>by
 have:=(ok.pN.mem hb).1;rw[e] at this;cases this
theorem Inv.bs (I:Inv X pins σ H s):∀b o,X.base.get? b=some o->s.heap.get? b=some o/\H b=none:=fun b o e=>
 ⟨I.base.keep b o (I.ok.bs b o e).1 (I.ok.bs b o e).2 (I.ok.Uc e) (I.ok.wN b o e),I.base.free b o (I.ok.bs b o e).1 (I.ok.bs b o e).2 (I.ok.wN b o e)⟩
def Inv.bk (I:Inv X pins σ H s):∀b o,X.base.get? b=some o->s.heap.get? b=some o:=fun b o e=>(I.bs b o e).1
theorem Inv.mod (I:Inv X pins σ H s):Mod X.K X.mg X.base:=I.ok.mod
def Inv.tE (I:Inv X pins σ H s):X.K.In s.heap:=I.ok.mod.Q4.keeps I.bk
theorem Inv.lt (I:Inv X pins σ H s):X.env.locals<↑s:=let ⟨_,hn,_⟩:=I.loc;hn.lt
def Inv.sz (I:Inv X pins σ H s):X.s₀.heap.objs.size<=↑s:=zL I.ok.above (yg I.lt)
def Inv.Sf (I:Inv X pins σ H s) (h:↑s<=a):a∉X.fs:=fun hb=>by
 obtain⟨_,o,ho,_⟩:=I.ok.pN.mem hb;exact absurd (yb (yx ho) (zL I.sz h)) (ye _)
def Inv.Od (I:Inv X pins σ H s):∀x c,X.env.cells.lookup x=some c->c≠X.env.locals:=fun x c e z=>by
 obtain⟨v,o,ho,hd⟩:=I.cell x c e;obtain⟨m,⟨o',es,ep,ho',hd',_⟩,_⟩:=I.loc;rw[z,ho'] at ho;cases ho;rw[hd'] at hd;cases hd
theorem Inv.pN (I:Inv X pins σ H s):s.heap.FunFrames X.base X.outer:=by
 have all:∀(l:List Env),(∀b∈qy l,b∈X.fs)->X.s₀.heap.FunFrames X.base l->s.heap.FunFrames X.base l:=by
  intro l
  induction l with
  | nil=>intro _ _;trivial
  | cons env r ih=>
   intro hs hl;obtain⟨hk,⟨L,o,hf,hn,ho,hd⟩,hr⟩:=hl;have hL:L∈X.fs:=hs L (by unfold qy;rw[List.filterMap_cons,hf];exact zp);obtain⟨sl,e⟩:=I.base.slot L o ho (I.ok.GR L hL) hL fun z=>I.ok.IZ L z hL;exact⟨hk,⟨L,_,hf,hn,e,hd⟩,ih (fun b hb=>hs b (by unfold qy;rw[List.filterMap_cons,hf];exact zm _ hb)) hr⟩
 exact all X.outer (fun _ hb=>hb) I.ok.pN
theorem Inv.stack (I:Inv X pins σ H s):s.heap.FunFrames X.base X.stack:=by
 rcases I.ok.RC with e | ⟨e,hf⟩
 ·rw[e];exact I.pN
 ·rw[e]
  obtain⟨m,hn,_⟩:=I.loc;refine .cons (by rw[I.ok.kind];decide) hf hn ?_ I.pN;exact Heap.get?_none_of_le (zL I.ok.LY I.ok.above)
def Inv.DG (I:Inv X pins σ H s):∀b∈qy X.stack,b∈X.env.locals::X.fs:=fun b hb=>by
 rcases I.ok.RC with e | ⟨e,hf⟩
 ·rw[e] at hb;exact zm _ hb
 ·rw[e] at hb
  unfold qy at hb;rw[List.filterMap_cons,hf] at hb;exact hb
def Inv.rO (I:Inv X pins σ H s):∀b∈qy X.stack,H b=none:=fun b hb=>by
 rcases zC.mp (I.DG b hb) with e | hb
 ·rw[e];exact I.free
 ·obtain⟨_,o,ho,_⟩:=I.ok.pN.mem hb
  exact I.base.free b o ho (I.ok.GR b hb) fun z=>I.ok.IZ b z hb
def Inv.step {g':Array GenState} {t':Nat} {d':Drawn} {ch:List Addr} (I:Inv X pins σ H s)
  (hch:∀b∈ch,(b∈X.ex\/X.s₀.heap.objs.size<=b)/\b≠X.env.locals/\(∀x c,X.env.cells.lookup x=some c->c≠b)/\∀p∈X.pn++pins,p.1≠b)
  (keep:∀b o,b≠X.env.locals->b∉X.fs->b∉ch->s.heap.get? b=some o->H b=none->h'.get? b=some o)
  (slot:∀b o,b≠X.env.locals->b∈X.fs->b∉ch->s.heap.get? b=some o->H b=none->∃sl,h'.get? b=some {o with slots:=sl}) (free:∀b o,b∉ch->s.heap.get? b=some o->H b=none->H' b=none)
  (there:∀b o,b∉ch->s.heap.get? b=some o->∃o',h'.get? b=some o')
  (pF:∀b xs,H b=some (.tup xs)->H' b=some (.tup xs)) (nF:∀b o u,H b=some (.nK o u)->H' b=some (.nK o u)) (pG:∀b ps,H b=some (.Ml ps)->∃more,H' b=some (.Ml (ps++more)))
  (ns:∀m,s.heap.Ns X.env.locals m->h'.Ns X.env.locals m) (cb:rJ X.prog X.w H' h') (hg:AllBare g') :
  Inv X pins σ H' {s with heap:=h',gens:=g',drawn:=d',toks:=t'}:=by
 have neL:∀b o,X.s₀.heap.get? b=some o->b≠X.env.locals:=fun b o e=>yi (yb (yx e) I.ok.above);have neC:∀b o,X.s₀.heap.get? b=some o->b∉X.ex->b∉ch:=fun b o e hx hb=>by
  rcases(hch b hb).1 with z | z
  ·exact hx z
  ·exact absurd (yb (yx e) z) (ye _)
 have cellK:∀x c,X.env.cells.lookup x=some c->∀v,s.heap.IsCell c v->h'.IsCell c v:=fun x c e v ⟨o,ho,hd⟩=>by
  have nch:c∉ch:=fun z=>(hch c z).2.2.1 x c e rfl
  by_cases hc:c∈X.fs
  ·obtain⟨sl,q⟩:=slot c o (I.Od x c e) hc nch ho (I.kf x c e)
   exact⟨_,q,hd⟩
  ·exact⟨o,keep c o (I.Od x c e) hc nch ho (I.kf x c e),hd⟩
 refine⟨I.ok,I.os,hg,⟨fun b o e n hb hx=>?_,fun b o e n hb hx=>?_,fun b o e n hx=>?_,fun b o e hx=>?_,fun b xs e=>pF b xs (I.base.pF b xs e),fun b o xs e=>nF b o xs (I.base.nF b o xs e),fun b ps e=>?_⟩,?_,fun x c e=>?_,?_,fun x c e=>?_,fun p hp=>?_,cb,I.len⟩
 ·exact keep b o (neL b o e) hb (neC b o e hx) (I.base.keep b o e n hb hx) (I.base.free b o e n hx)
 ·obtain⟨sl,e1⟩:=I.base.slot b o e n hb hx
  obtain⟨sl',e2⟩:=slot b _ (neL b o e) hb (neC b o e hx) e1 (I.base.free b o e n hx);exact⟨sl',e2⟩
 ·obtain⟨o',e1⟩:=I.base.there b o e hx
  exact free b o' (neC b o e hx) e1 (I.base.free b o e n hx)
 ·obtain⟨o',e1⟩:=I.base.there b o e hx
  exact there b o' (neC b o e hx) e1
 ·obtain⟨m1,e1⟩:=I.base.pG b ps e
  obtain⟨m2,e2⟩:=pG b _ e1;exact⟨m1++m2,by rw[e2,Array.append_assoc]⟩
 ·obtain⟨m,hn,hl⟩:=I.loc
  refine⟨m,ns m hn,fun i x v e1 e2 e3=>?_⟩;obtain⟨u,r,l⟩:=hl i x v e1 e2 e3;refine⟨u,r,?_⟩;rcases l with l | ⟨k,c,e,z⟩
  ·exact .inl l
  ·exact .inr ⟨k,c,e,cellK x c e _ z⟩
 ·obtain⟨v,z⟩:=I.cell x c e
  exact⟨v,cellK x c e v z⟩
 ·obtain⟨m,⟨o,_,_,ho,_⟩,_⟩:=I.loc
  exact free _ o (fun z=>(hch _ z).2.1 rfl) ho I.free
 ·obtain⟨v,o,ho,hd⟩:=I.cell x c e
  exact free c o (fun z=>(hch c z).2.2.1 x c e rfl) ho (I.kf x c e)
 ·obtain⟨e,n,ne,nf,d⟩:=I.pin p hp
  have nch:p.1∉ch:=fun z=>(hch p.1 z).2.2.2 p hp rfl;exact⟨keep p.1 p.2 ne nf nch e n,free p.1 p.2 nch e n,ne,nf,d⟩
def Inv.un {t':Nat} (I:Inv X pins σ H s) (u:Un X.fs [] H H' s.heap h') (cb:rJ X.prog X.w H' h'):Inv X pins σ H' {s with heap:=h',toks:=t'}:=by
 obtain⟨m,⟨o,es,ep,ho,r⟩,_⟩:=id I.loc;obtain⟨sl,hL⟩:=u.any ho I.free (by simp);exact I.step (g':=s.gens) (d':=s.drawn) (ch:=[]) (fun _ z=>nomatch z) (fun b o _ hb _ e n=>u.keep b o e n hb (by simp)) (fun b o _ hb _ e n=>u.slot b o e n hb (by simp)) (fun b o _ e n=>u.free b o e n (by simp)) (fun b o _ e=>u.there b o e (by simp)) u.pF u.nF u.pG (fun m' hm=>by
  obtain⟨o',es',ep',ho',r'⟩:=hm;rw[ho] at ho';cases ho';exact⟨_,es',ep',hL,r'⟩) cb I.bare
def Inv.call {g':Array GenState} {t':Nat} {d':Drawn} {ch:List Addr} (I:Inv X pins σ H s) (u:Un (qy X.stack) ch H H' s.heap h') (cb:rJ X.prog X.w H' h') (hg:AllBare g')
  (hch:∀b∈ch,(b∈X.ex\/X.s₀.heap.objs.size<=b)/\b≠X.env.locals/\(∀x c,X.env.cells.lookup x=some c->c≠b)/\∀p∈X.pn++pins,p.1≠b) :
  Inv X pins σ H' {s with heap:=h',gens:=g',drawn:=d',toks:=t'}:=by
 obtain⟨m,⟨o,es,ep,ho,r⟩,_⟩:=id I.loc;obtain⟨sl,hL⟩:=u.any ho I.free fun z=>(hch _ z).2.1 rfl;exact I.step (ch:=ch) hch (fun b o hL hb hc e n=>u.keep b o e n (fun z=>(zC.mp (I.DG b z)).elim hL hb) hc) (fun b o _ _ hc e n=>u.any e n hc) (fun b o hc e n=>u.free b o e n hc) (fun b o hc e=>u.there b o e hc) u.pF u.nF u.pG (fun m' hm=>by
  obtain⟨o',es',ep',ho',r'⟩:=hm;rw[ho] at ho';cases ho';exact⟨_,es',ep',hL,r'⟩) cb hg
def Inv.turned {t':Nat} {it:Addr} (I:Inv X pins σ H s) (k:∀b o,b≠it->s.heap.get? b=some o->h'.get? b=some o) (hn:H it=none) (hL:it≠X.env.locals)
  (h1:it∈X.ex\/X.s₀.heap.objs.size<=it) (h2:∀x c,X.env.cells.lookup x=some c->c≠it) (h3:∀p∈X.pn++pins,p.1≠it):Inv X pins σ H {s with heap:=h',toks:=t'}:=by
 have nit:∀b u,H b=some u->b≠it:=fun b u e z=>by rw[z,hn] at e;cases e
 refine I.step (g':=s.gens) (d':=s.drawn) (ch:=[it]) (fun b hb=>?_) (fun b o _ _ hc e _=>k b o (fun z=>hc (by simp[z])) e) (fun b o _ _ hc e _=>⟨o.slots,k b o (fun z=>hc (by simp[z])) e⟩) (fun _ _ _ _ n=>n)
  (fun b o hc e=>⟨o,k b o (fun z=>hc (by simp[z])) e⟩) (fun _ _ e=>e) (fun _ _ _ e=>e) (fun b ps e=>⟨#[],by rw[e];simp⟩) (fun m hm=>?_) (fun b u e=>?_) I.bare
 ·have e:b=it:=by simpa using hb
  subst e;exact⟨h1,hL,h2,h3⟩
 ·obtain⟨o,es,ep,ho,r⟩:=hm
  exact⟨o,es,ep,k _ o (Ne.symm hL) ho,r⟩
 ·refine(I.cb b u e).lJ (fun c v hc q=>k c v ?_ q) (fun _ q=>q) fun _ _ q=>q
  rcases hc with z | z
  ·rw[z];exact nit b u e
  ·exact nit c _ z
def Inv.tok (I:Inv X pins σ H s) (t:Nat):Inv X pins σ H {s with toks:=t}:=I.un (h':=s.heap) (t':=t) Un.refl I.cb
theorem Inv.kept (I:Inv X pins σ H s) (k:∀b u,s.heap.get? b=some u->h'.get? b=some u):Inv X pins σ H {s with heap:=h',toks:=t'}:=I.un (Un.kept k) (I.cb.kept k)
theorem Inv.laid (I:Inv X pins σ H s) (k:∀b u,s.heap.get? b=some u->h'.get? b=some u) (hp:↑s<=a) (new:cC X.prog X.w (upd H a o) h' a o) :
  Inv X pins σ (upd H a o) {s with heap:=h',toks:=t'}:=I.un (Un.laid k hp (I.cb.fresh hp)) (I.cb.laid k hp new)
theorem Inv.write (I:Inv X pins σ H s) (mu:SN (H x)) (he:e=x\/H e=some (.own x)) (k:∀b u,b≠e->s.heap.get? b=some u->h'.get? b=some u) (heo:∃u,h'.get? e=some u)
  (new:cC X.prog X.w (upd H x o) h' x o):Inv X pins σ (upd H x o) {s with heap:=h',toks:=t'}:=I.un (Un.write mu he k heo) (I.cb.write mu he k heo new)
def Inv.o7 (I:Inv X pins σ H s) (h:∀p∈pins',s.heap.get? p.1=some p.2/\H p.1=none/\p.1≠X.env.locals/\p.1∉X.fs/\∀v,p.2.data≠.cell v):Inv X pins' σ H s:=
 ⟨I.ok,I.os,I.bare,I.base,I.loc,I.cell,I.free,I.kf,fun p hp=>(zF.mp hp).elim (fun z=>I.pin p (zI _ z)) (h p),I.cb,I.len⟩
def GF {N:List Str} (hN:N.Nodup) {i j:Nat} {x:Str} (a:N[i]?=some x) (b:N[j]?=some x):i=j:=by
 obtain⟨h1,e1⟩:=zw.mp a;obtain⟨h2,e2⟩:=zw.mp b;exact(List.getElem_inj hN).mp (e1.trans e2.symm)
def CG {M:Model} {A:Around} {E:Value->Shared->Prop} {i:Nat} {x:Str} {v:V} {u:Value} {Q:Unit->Shared->Prop} (I:Inv X pins σ H s) (hN:X.N.Nodup) (hi:X.N[i]?=some x) (hx:Loc X.env.scope x) (r:RelV v u)
  (h:∀s',Inv X pins (σ.set i (some v)) H s'->(∃a,Heap.SameBut a s.heap s'.heap/\(a=X.env.locals\/X.env.cells.lookup x=some a))->Q () s') (hf:X.fn x=true\/X.env.scope.names.lookup x=some .local<|>qa_):wpAny M A (storeName X.env x u) Q E s:=by
 obtain⟨m,hn,hl⟩:=id I.loc;have hcls:(X.env.scope.kind == .class||(X.env.scope.kind == .module&&X.env.locals != X.env.globals))=false:=by rw[I.ok.kind];rfl
 have hiσ:i<σ.length:=by rw[I.len];exact(zw.mp hi).1
 have Od:=I.Od;have tracked:∀{a:Addr} {h':Heap},(∃o,s.heap.get? a=some o/\H a=none)->Heap.SameBut a s.heap h'->rJ X.prog X.w H h':=fun {a h'} ha hs b ob e=>by
  obtain⟨_,_,hfree⟩:=ha;refine(I.cb b ob e).lJ (fun c w' hc q=>(hs.2 c ?_).trans q) (fun _ q=>q) fun _ _ q=>q;rintro rfl;rcases hc with rfl | hc
  ·rw[hfree] at e;cases e
  ·rw[hfree] at hc;cases hc
 rcases hx with hk | hk
 ·refine wpAny_storeName_local hk hn (fun h' hn' hs=>?_) hcls
  obtain⟨oL,_,_,hoL,_⟩:=id hn;refine h _ ⟨I.ok,I.os,I.bare,⟨fun b o e n hb hx=>?_,fun b o e n hb hx=>?_,I.base.free,fun b o e hx=>?_,I.base.pF,I.base.nF,I.base.pG⟩,⟨_,hn',fun j y v' e1 e2 e3=>?_⟩,fun y c e=>?_,I.free,I.kf,fun p hp=>?_,tracked ⟨oL,hoL,I.free⟩ hs,by simpa using I.len⟩ ⟨_,hs,.inl rfl⟩
  ·exact(hs.2 b (yi (yb (yx e) I.ok.above))).trans (I.base.keep b o e n hb hx)
  ·obtain⟨sl,e1⟩:=I.base.slot b o e n hb hx
   exact⟨sl,(hs.2 b (yi (yb (yx e) I.ok.above))).trans e1⟩
  ·obtain⟨o',e1⟩:=I.base.there b o e hx
   exact⟨o',(hs.2 b (yi (yb (yx e) I.ok.above))).trans e1⟩
  ·by_cases hj:j=i
   ·subst hj
    rw[hi] at e1;cases e1;rw[List.getElem?_set_self hiσ] at e2;cases e2;exact⟨u,r,.inl ⟨hk,by simp⟩⟩
   ·rw[List.getElem?_set_ne (Ne.symm hj)] at e2
    obtain⟨u',r',q⟩:=hl j y v' e1 e2 e3;refine⟨u',r',?_⟩;rcases q with⟨k,e⟩ | ⟨k,c,e,z⟩
    ·refine .inl ⟨k,?_⟩
     have:y≠x:=fun e=>hj (GF hN e1 (e▸hi));simp[this,e]
    ·exact .inr ⟨k,c,e,z.sameBut hs (Od y c e)⟩
  ·obtain⟨w',z⟩:=I.cell y c e
   exact⟨w',z.sameBut hs (Od y c e)⟩
  ·obtain⟨e,n,ne,nf,d⟩:=I.pin p hp
   exact⟨(hs.2 p.1 ne).trans e,n,ne,nf,d⟩
 ·have hfn:X.fn x=true:=by
   rcases hf with z | z
   ·exact z
   ·rw[z] at hk;cases hk
  obtain⟨c,hc⟩:=I.ok.has x (.inl hk);obtain⟨w',z⟩:=I.cell x c hc;refine wpAny_storeName_cell I.ok.kind hk hc z (fun h' hc' hs=>?_);obtain⟨oc,hoc,hocd⟩:=id z;refine h {s with heap:=h'} ⟨I.ok,I.os,I.bare,⟨fun b o e n hb hx=>?_,fun b o e n hb hx=>?_,I.base.free,fun b o e hx=>?_,I.base.pF,I.base.nF,I.base.pG⟩,⟨m,hn.sameBut hs (Ne.symm (Od x c hc)),fun j y v' e1 e2 e3=>?_⟩,fun y c' e=>?_,I.free,I.kf,fun p hp=>?_,tracked ⟨oc,hoc,I.kf x c hc⟩ hs,by simpa using I.len⟩ ⟨c,hs,.inr hc⟩
  ·exact(hs.2 b (yi (yb (yx e) (I.ok.Rr x c hfn hc)))).trans (I.base.keep b o e n hb hx)
  ·obtain⟨sl,e1⟩:=I.base.slot b o e n hb hx
   exact⟨sl,(hs.2 b (yi (yb (yx e) (I.ok.Rr x c hfn hc)))).trans e1⟩
  ·obtain⟨o',e1⟩:=I.base.there b o e hx
   exact⟨o',(hs.2 b (yi (yb (yx e) (I.ok.Rr x c hfn hc)))).trans e1⟩
  ·by_cases hj:j=i
   ·subst hj
    rw[hi] at e1;cases e1;rw[List.getElem?_set_self hiσ] at e2;cases e2;exact⟨u,r,.inr ⟨.inl hk,c,hc,hc'⟩⟩
   ·rw[List.getElem?_set_ne (Ne.symm hj)] at e2
    obtain⟨u',r',q⟩:=hl j y v' e1 e2 e3;refine⟨u',r',?_⟩;rcases q with q | ⟨k,c',e,z'⟩
    ·exact .inl q
    ·refine .inr ⟨k,c',e,z'.sameBut hs ?_⟩
     rintro rfl;exact hj (GF hN e1 (I.ok.inj _ _ _ e hc▸hi))
  ·by_cases hcc:c'=c
   ·subst hcc;exact⟨_,hc'⟩
   ·obtain⟨w2,z2⟩:=I.cell y c' e
    exact⟨w2,z2.sameBut hs hcc⟩
  ·obtain⟨e,n,ne,nf,d⟩:=I.pin p hp
   refine⟨(hs.2 p.1 ?_).trans e,n,ne,nf,d⟩;intro q;rw[q,hoc] at e;have q':oc=p.2:=yj e;exact d w' (by rw[<-q'];exact hocd)
def nQ (I:Inv X pins σ H s) (hN:X.N.Nodup) (hi:X.N[i]?=some x) (hx:Loc X.env.scope x) (r:RelV v u)
  (h:∀s',Inv X pins (σ.set i (some v)) H s'->Q () s') (hf:X.fn x=true\/X.env.scope.names.lookup x=some .local<|>qa_):wpAny M A (storeName X.env x u) Q E s:=
 CG I hN hi hx r (fun s' I' _=>h s' I') hf
def Inv.NV (I:Inv X pins σ H s) (ho:s'.os=s.os) (u:Un (qy X.stack) ch H H' s.heap s'.heap) (cb:rJ X.prog X.w H' s'.heap) (hg:AllBare s'.gens)
  (hch:∀b∈ch,(b∈X.ex\/X.s₀.heap.objs.size<=b)/\b≠X.env.locals/\(∀x c,X.env.cells.lookup x=some c->c≠b)/\∀p∈X.pn++pins,p.1≠b):Inv X pins σ H' s':=by
 obtain⟨h',g',d',t',o'⟩:=s';have e:o'=s.os:=ho;subst e;exact I.call (g':=g') (t':=t') (d':=d') u cb hg hch
end
abbrev XK:=Value->Option Addr->Hp->Prop
abbrev St:=List (Option V)
abbrev VK:=V->Hp->Prop
abbrev TE:=St->Hp->VK->Prop
abbrev TT:=St->Hp->(Bool->Hp->Prop)->Prop
abbrev TA:=St->Hp->(List V->Hp->Prop)->Prop
structure Ends where
 nx:St->Hp->Prop
 rt:VK
 bk:St->Hp->Prop:=fun _ _=>False
 ct:St->Hp->Prop:=fun _ _=>False
abbrev TS:=Ends->St->Hp->Prop
def EP (X:Cx) (pins:List (Addr×Obj)) (σ:St) (Q:VK) (u:Value) (s':Shared):Prop:=∃v H',Inv X pins σ H' s'/\RelV v u/\Q v H'
def TP (X:Cx) (pins:List (Addr×Obj)) (σ:St) (Q:Bool->Hp->Prop) (b:Bool) (s':Shared):Prop:=∃H',Inv X pins σ H' s'/\Q b H'
def AP (X:Cx) (pins:List (Addr×Obj)) (σ:St) (Q:List V->Hp->Prop) (us:List Value) (s':Shared):Prop:=∃vs H',Inv X pins σ H' s'/\Vals vs us/\Q vs H'
def SP (X:Cx) (pins:List (Addr×Obj)) (D:Ends) (f:Flow) (s':Shared):Prop:=
 match f with
 | .next=>∃σ' H',Inv X pins σ' H' s'/\D.nx σ' H'
 | .brk=>∃σ' H',Inv X pins σ' H' s'/\D.bk σ' H'
 | .cont=>∃σ' H',Inv X pins σ' H' s'/\D.ct σ' H'
 | .ret u=>∃v σ' H',Inv X pins σ' H' s'/\RelV v u/\D.rt v H'
def PE (X:Cx) (e:Expr) (t:TE):Prop:=
 ∀(pins:List (Addr×Obj)) (s:Shared) (σ:St) (H:Hp) (Q:VK),Inv X pins σ H s->t σ H Q->wpAny (model X.prog X.w) X.A (eval e X.env) (EP X pins σ Q) X.xe s
def PT (X:Cx) (e:Expr) (t:TT):Prop:=
 ∀(pins:List (Addr×Obj)) (s:Shared) (σ:St) (H:Hp) (Q:Bool->Hp->Prop),Inv X pins σ H s->t σ H Q->wpAny (model X.prog X.w) X.A (isTrue e X.env (eval e X.env)) (TP X pins σ Q) X.xe s
def PW (X:Cx) (e:Expr) (t:TT):Prop:=
 ∀(whole:Sem Value) (pins:List (Addr×Obj)) (s:Shared) (σ:St) (H:Hp) (Q:Bool->Hp->Prop),Inv X pins σ H s->t σ H Q->wpAny (model X.prog X.w) X.A (isTrue e X.env whole) (TP X pins σ Q) X.xe s
def PW.pt (h:PW X e t):PT X e t:=h _
def PA (X:Cx) (es:List Expr) (t:TA):Prop:=
 ∀(pos:Pos) (pins:List (Addr×Obj)) (s:Shared) (σ:St) (H:Hp) (Q:List V->Hp->Prop),Inv X pins σ H s->t σ H Q->wpAny (model X.prog X.w) X.A (spliced (backTo pos (starEach es X.env))) (AP X pins σ Q) X.xe s
def PS (X:Cx) (st:Stmt) (t:TS):Prop:=
 ∀(pins:List (Addr×Obj)) (s:Shared) (σ:St) (H:Hp) (D:Ends),Inv X pins σ H s->t D σ H->wpAny (model X.prog X.w) X.A (exec st X.env) (SP X pins D) X.xe s
def Dv (X:Cx) (st:List Stmt) (t:TS):Prop:=
 ∀(pins:List (Addr×Obj)) (s:Shared) (σ:St) (H:Hp) (D:Ends),Inv X pins σ H s->t D σ H->wpAny (model X.prog X.w) X.A (execs st X.env) (SP X pins D) X.xe s
def cU (h:wpAny M A t Q E s) (hQ:∀a s,Q a s->Q' a s):wpAny M A t Q' E s:=wpAny_mono h hQ fun _ _ x=>x
end L2
namespace L2
open PySem PySem.Spec PyProof.Rows
section
variable {X:Cx}
def aV (i:Nat):TE:=fun σ H Q=>∃v,σ[i]?=some (some v)/\Q v H
def tC (v:V):TE:=fun _ H Q=>Q v H
def QO (hN:X.N[i]?=some x) (hv:Rv X.env.scope x) (hd:(x == ("__debug__": Str))=false<|>qb_) (hcd:(x == ("__classdict__": Str))=false<|>qb_):PE X (.Name x pos) (aV i):=by
 intro pins s σ H Q I h;obtain⟨v,e,h⟩:=h;obtain⟨m,hn,hl⟩:=I.loc;obtain⟨u,r,l⟩:=hl i x v hN e hv;have fin:EP X pins σ Q u s:=⟨v,H,I,r,h⟩
 rcases l with⟨hk,hm⟩ | ⟨hk,c,hc,hcell⟩
 ·exact wpAny_Name (wpAny_loadName_local I.ok.kind hk hn hm fin) hd
 ·rcases hk with hk | hk
  ·exact wpAny_Name (wpAny_loadName_cell I.ok.kind hk hc hcell fin) hd
  ·exact wpAny_Name (wpAny_loadName_free I.ok.kind hk hc hcell fin hcd) hd
def ae:PE X (.Constant (.int i) j pos) (tC (.int i)):=fun _ _ _ H _ I h=>wpAny_Constant_int ⟨.int i,H,I.tok _,⟨_,rfl⟩,h⟩
def mW:PE X (.Constant (.bool b) j pos) (tC (.bl b)):=fun _ _ _ H _ I h=>Constant_bool ⟨.bl b,H,I,rfl,h⟩
def aQ:PE X (.Constant .none j pos) (tC .bI):=fun _ _ _ H _ I h=>Constant_none ⟨.bI,H,I,rfl,h⟩
def aK:PE X (.Constant (.str x) j pos) (tC (.str x)):=fun _ _ _ H _ I h=>Calls.Constant_str ⟨.str x,H,I.tok _,⟨_,rfl⟩,h⟩
def Gl (X:Cx) (x:Str):Prop:=X.env.kindOf x=some .globalImplicit
def kb (I:Inv X pins σ H s) (hg:Gl X x) (hm:X.mg x=some u) (h:Q u s)
  (hd:(x == ("__debug__": Str))=false<|>qb_):wpAny (model X.prog X.w) X.A (eval (.Name x pos) X.env) Q E s:=
 Calls.Name_function_global I.ok.kind hg (Calls.loadGlobal_global (by rw[I.ok.glob];exact I.mod.glob.keeps I.bk) hm h) hd
def iz (I:Inv X pins σ H s) (hg:Gl X x) (hm:X.mg x=none) (hv:bootBuiltins x=some u) (h:Q u s)
  (hn:x≠ "__name__"<|>qb_) (hd:(x == ("__debug__": Str))=false<|>qb_):wpAny (model X.prog X.w) X.A (eval (.Name x pos) X.env) Q E s:=by
 obtain⟨mb,h1,h2⟩:=I.mod.blt;exact Calls.Name_function_global I.ok.kind hg (Calls.loadGlobal_builtin (by rw[I.ok.glob];exact I.mod.glob.keeps I.bk) hm (by rw[I.ok.blt];exact h1.keeps I.bk) ((h2 x hn).trans hv) h) hd
def bY (hg:Gl X x) (hm:X.mg x=some u) (r:RelV v u) (hd:(x == ("__debug__": Str))=false<|>qb_):PE X (.Name x pos) (tC v):=
 fun _ _ _ H _ I h=>kb I hg hm ⟨v,H,I,r,h⟩ hd
def OT (hg:Gl X x) (hm:X.mg x=none) (hv:bootBuiltins x=some u) (r:RelV v u) (hn:x≠ "__name__"<|>qb_) (hd:(x == ("__debug__": Str))=false<|>qb_):PE X (.Name x pos) (tC v):=
 fun _ _ _ H _ I h=>iz I hg hm hv ⟨v,H,I,r,h⟩ hn hd
variable {a b:Expr} {ta tb:TE} {pos:Pos}
def PC (X:Cx) (op:CmpOp) (a b:Expr) (t:TE):Prop:=
 ∀(pins:List (Addr×Obj)) (s:Shared) (σ:St) (H:Hp) (Q:VK),Inv X pins σ H s->t σ H Q->
  wpAny (model X.prog X.w) X.A (eval a X.env) (fun v s₁=>wpAny (model X.prog X.w) X.A (eval b X.env) (fun u s₂=>wpAny (model X.prog X.w) X.A (compareOp op v u) (EP X pins σ Q) X.xe s₂) X.xe s₁) X.xe s
def GH (b:Expr) (h:op≠.In) (h2:op≠.NotIn):behindInMarks op b=false:=by
 have e1:(op == CmpOp.In)=false:=by cases op <;> first | rfl | exact absurd rfl h
 have e2:(op == CmpOp.NotIn)=false:=by cases op <;> first | rfl | exact absurd rfl h2
 cases b <;> simp[behindInMarks,e1,e2]
def Mq (ta:TE):TE:=fun σ H Q=>ta σ H fun x H1=>Q (.bl (decide (x=.bI))) H1
def Mo (ta:TE):TE:=fun σ H Q=>ta σ H fun x H1=>Q (.bl (!decide (x=.bI))) H1
def RelV.GD (r:RelV x v):(v == Value.none)=decide (x=.bI):=by
 cases x with
 | bI=>cases r;rfl
 | bl _=>cases r;rfl
 | int _=>obtain⟨t,rfl⟩:=r;rfl
 | str _=>obtain⟨t,rfl⟩:=r;rfl
 | Kj _=>obtain⟨t,rfl⟩:=r;rfl
 | Pa _=>obtain⟨t,rfl⟩:=r;rfl
 | ref _=>cases r;rfl
 | ty _=>cases r;rfl
def cI (ha:PE X a ta):PC X .Is a (.Constant .none j pos') (Mq ta):=by
 intro pins s σ H Q I h;refine cU (ha pins s σ H _ I h) fun v s1 zz=>?_;obtain⟨x,H1,I1,r1,q1⟩:=zz;exact Constant_none (is_none_gen ⟨.bl _,H1,I1,by rw[r1.GD];rfl,q1⟩)
def gN (ha:PE X a ta):PC X .IsNot a (.Constant .none j pos') (Mo ta):=by
 intro pins s σ H Q I h;refine cU (ha pins s σ H _ I h) fun v s1 zz=>?_;obtain⟨x,H1,I1,r1,q1⟩:=zz;exact Constant_none (isnot_none_gen ⟨.bl _,H1,I1,by rw[r1.GD];rfl,q1⟩)
def tB (t:TE):TT:=fun σ H Q=>t σ H fun x H1=>∃c,x=.bl c/\Q c H1
def qU (h:PC X op a b t) (h1:behindInMarks op b=false<|>qc_):PE X (.Compare a [op] [b] pos) t:=fun pins s σ H Q I hw=>wpAny_Compare1 (h pins s σ H Q I hw) h1
def bB (h:PC X op a b t) (h1:behindInMarks op b=false<|>qc_):PT X (.Compare a [op] [b] pos) (tB t):=by
 intro pins s σ H Q I hw;refine wpAny_isTrue_Compare1 (cU (h pins s σ H _ I hw) fun v s1 h1=>cU h1 fun u s2 h2=>cU h2 fun c s3 ⟨x,H1,I1,r1,q1⟩=>?_) h1;obtain⟨d,rfl,q⟩:=q1;cases r1;exact wpAny_truthy_bool ⟨H1,I1,q⟩
def cD (h:PE X e t) (he:(∀whole,isTrue e X.env whole=(do let v <-whole;standAt e.pos;holding [v] (truthy v)))<|>qd_):PT X e (tB t):=by
 intro pins s σ H Q I hw;refine isTrue_plain (cU (h pins s σ H _ I hw) fun v s1 ⟨x,H1,I1,r1,q1⟩=>?_) (he _);obtain⟨d,rfl,q⟩:=q1;cases r1;exact wpAny_truthy_bool ⟨H1,I1,q⟩
variable {tA tB':TT} {rest:List Expr}
def QA (t u:TT):TT:=fun σ H Q=>t σ H fun c H1=>if c=true then u σ H1 Q else Q false H1
def TX (t u:TT):TT:=fun σ H Q=>t σ H fun c H1=>if c=true then Q true H1 else u σ H1 Q
def Mp (t:TT):TT:=fun σ H Q=>t σ H fun c H1=>Q (!c) H1
def cO (ha:PT X a tA):PW X (.BoolOp .And [a] pos) tA:=by
 intro wh pins s σ H Q I h;refine isTrue_and (cU (ha pins s σ H Q I h) fun c s1 e=>?_);cases c with
 | true=>exact isTrue_and_nil e
 | false=>exact e
def dC (ha:PT X a tA):PW X (.BoolOp .Or [a] pos) tA:=by
 intro wh pins s σ H Q I h;refine isTrue_or (cU (ha pins s σ H Q I h) fun c s1 e=>?_);cases c with
 | false=>exact isTrue_or_nil e
 | true=>exact e
def cZ (ha:PT X a tA) (hb:PW X (.BoolOp .And (b::rest) pos) tB'):PW X (.BoolOp .And (a::b::rest) pos) (QA tA tB'):=by
 intro wh pins s σ H Q I h;refine isTrue_and (cU (ha pins s σ H _ I h) fun c s1 ⟨H1,I1,q1⟩=>?_);cases c with
 | true=>exact hb wh pins s1 σ H1 Q I1 q1
 | false=>exact⟨H1,I1,q1⟩
def eO (ha:PT X a tA) (hb:PW X (.BoolOp .Or (b::rest) pos) tB'):PW X (.BoolOp .Or (a::b::rest) pos) (TX tA tB'):=by
 intro wh pins s σ H Q I h;refine isTrue_or (cU (ha pins s σ H _ I h) fun c s1 ⟨H1,I1,q1⟩=>?_);cases c with
 | true=>exact⟨H1,I1,q1⟩
 | false=>exact hb wh pins s1 σ H1 Q I1 q1
def eJ (ha:PT X a tA):PT X (.UnaryOp .Not a pos) (Mp tA):=by
 intro pins s σ H Q I h;exact isTrue_not (ha pins s σ H (fun c H1=>Q (!c) H1) I h)
def Mr (ta tb:TE):TE:=fun σ H Q=>ta σ H fun x H1=>∃c,x=.bl c/\if c=true then tb σ H1 Q else Q (.bl false) H1
def RW (ta tb:TE):TE:=fun σ H Q=>ta σ H fun x H1=>∃c,x=.bl c/\if c=true then Q (.bl true) H1 else tb σ H1 Q
def PF (ta:TE):TE:=fun σ H Q=>ta σ H fun x H1=>∃c,x=.bl c/\Q (.bl (!c)) H1
def lX (h:PE X a t):PE X (.BoolOp op [a] pos) t:=fun pins s σ H Q I hw=>BoolOp_one (h pins s σ H Q I hw)
def oH (ha:PE X a ta) (hb:PE X (.BoolOp .And (b::rest) pos) tb):PE X (.BoolOp .And (a::b::rest) pos) (Mr ta tb):=by
 intro pins s σ H Q I h;refine BoolOp_and (cU (ha pins s σ H _ I h) fun v s1 zz=>?_);obtain⟨x,H1,I1,r1,q1⟩:=zz;obtain⟨c,rfl,q1⟩:=q1;cases r1;refine wpAny_truthy_bool ?_;cases c with
 | true=>exact hb pins s1 σ H1 Q I1 q1
 | false=>exact⟨.bl false,H1,I1,rfl,q1⟩
def M4 (ha:PE X a ta) (hb:PE X (.BoolOp .Or (b::rest) pos) tb):PE X (.BoolOp .Or (a::b::rest) pos) (RW ta tb):=by
 intro pins s σ H Q I h;refine BoolOp_or (cU (ha pins s σ H _ I h) fun v s1 zz=>?_);obtain⟨x,H1,I1,r1,q1⟩:=zz;obtain⟨c,rfl,q1⟩:=q1;cases r1;refine wpAny_truthy_bool ?_;cases c with
 | false=>exact hb pins s1 σ H1 Q I1 q1
 | true=>exact⟨.bl true,H1,I1,rfl,q1⟩
def QQ (ha:PE X a ta):PE X (.UnaryOp .Not a pos) (PF ta):=by
 intro pins s σ H Q I h;refine UnaryOp_ (cU (ha pins s σ H _ I h) fun v s1 zz=>?_);obtain⟨x,H1,I1,r1,q1⟩:=zz;obtain⟨c,rfl,q1⟩:=q1;cases r1;exact not_of (wpAny_truthy_bool ⟨.bl (!c),H1,I1,rfl,q1⟩)
def Uy (t:TT) (ta tb:TE):TE:=fun σ H Q=>t σ H fun c H1=>if c=true then ta σ H1 Q else tb σ H1 Q
def Gi (hc:PT X c tA) (ha:PE X a ta) (hb:PE X b tb):PE X (.IfExp c a b pos) (Uy tA ta tb):=by
 intro pins s σ H Q I h;refine wpAny_IfExp (cU (hc pins s σ H _ I h) fun d s1 ⟨H1,I1,q1⟩=>?_);cases d with
 | true=>exact ha pins s1 σ H1 Q I1 q1
 | false=>exact hb pins s1 σ H1 Q I1 q1
end
end L2
namespace L2
open PySem PySem.Spec PyProof.Rows
def aH (K:yA) (H:Hp) (a:Addr) (xs:List V):Prop:=
 Rd H a (.lst xs)\/
  ∃(o:Obj) (its:Array Value) (n:Nat),K.lookup a=some o/\o.cls=.type "list"/\o.dict=none/\o.data=.seq its n/\its.size<=sizeLine/\Vals xs its.toList
def dA (K:yA) (H:Hp) (a:Addr) (xs:List V):Prop:=
 Rd H a (.tup xs)\/
  ∃(o:Obj) (its:Array Value) (n:Nat),K.lookup a=some o/\o.cls=.type "tuple"/\o.data=.seq its n/\its.size<=sizeLine/\Vals xs its.toList
def Ut:Value->Option V
 | .none=>some .bI
 | .bool b=>some (.bl b)
 | .int i _=>some (.int i)
 | .str x _=>some (.str x)
 | .bytes b _=>some (.Kj b)
 | .float b _=>some (.Pa b)
 | .ref a=>some (.ref a)
 | .type n=>some (.ty n)
 | _=>none
def RelV.abs (r:RelV x u):Ut u=some x:=by
 cases x with
 | bI=>cases r;rfl
 | bl _=>cases r;rfl
 | int _=>obtain⟨t,rfl⟩:=r;rfl
 | str _=>obtain⟨t,rfl⟩:=r;rfl
 | Kj _=>obtain⟨t,rfl⟩:=r;rfl
 | Pa _=>obtain⟨t,rfl⟩:=r;rfl
 | ref _=>cases r;rfl
 | ty _=>cases r;rfl
def RelV.inj (r:RelV x u) (q:RelV y u):x=y:=yj (r.abs.symm.trans q.abs)
theorem Vals.inj:∀{xs ys:List V} {us:List Value},Vals xs us->Vals ys us->xs=ys
 | _,_,_,.nil,.nil=>rfl
 | _,_,_,.cons r t,.cons r' t'=>by rw[r.inj r',Vals.inj t t']
section
variable {X:Cx} {pins:List (Addr×Obj)} {σ:St} {H:Hp} {s:Shared} {a:Addr} {xs ys:List V}
def aH.of {K:yA} (h:H a=some (.lst xs)):aH K H a xs:=.inl (.inl h)
def dA.of {K:yA} (h:H a=some (.tup xs)):dA K H a xs:=.inl (.inl h)
def Inv.list (I:Inv X pins σ H s) (h:aH X.K H a xs):∃its:List Value,Vals xs its/\PlainL s.heap a its.toArray/\xs.length<=sizeLine:=by
 rcases h with h | ⟨o,its,n,hk,hc,hd,hs,hz,r⟩
 ·obtain⟨z,its,n,r,e⟩:=h.ok I.cb
  exact⟨its,r,⟨_,n,e,rfl,rfl,rfl⟩,z⟩
 ·refine⟨its.toList,r,⟨o,n,I.tE a o hk,hc,hd,by simpa using hs⟩,?_⟩
  have e:=r.length;simp only[Array.length_toList] at e;omega
def Inv.tuple (I:Inv X pins σ H s) (h:dA X.K H a xs):∃its:List Value,Vals xs its/\IsTup s.heap a its.toArray/\xs.length<=sizeLine:=by
 rcases h with h | ⟨o,its,n,hk,hc,hs,hz,r⟩
 ·obtain⟨z,its,r,p⟩:=h.ok I.cb
  exact⟨its,r,p,z⟩
 ·refine⟨its.toList,r,⟨o,I.tE a o hk,hc,n,by simpa using hs⟩,?_⟩
  have e:=r.length;simp only[Array.length_toList] at e;omega
def Inv.tD (I:Inv X pins σ H s) (h:aH X.K H a xs) (h':aH X.K H a ys):xs=ys:=by
 obtain⟨its,r,⟨o,n,e,_,_,d⟩,_⟩:=I.list h;obtain⟨its',r',⟨o',n',e',_,_,d'⟩,_⟩:=I.list h';rw[e] at e';cases e';rw[d] at d';injection d' with d1 _;have:its=its':=by simpa using congrArg Array.toList d1
 subst this;exact r.inj r'
def Inv.CF (I:Inv X pins σ H s) (h:dA X.K H a xs) (h':dA X.K H a ys):xs=ys:=by
 obtain⟨its,r,⟨o,e,_,n,d⟩,_⟩:=I.tuple h;obtain⟨its',r',⟨o',e',_,n',d'⟩,_⟩:=I.tuple h';rw[e] at e';cases e';rw[d] at d';injection d' with d1 _;have:its=its':=by simpa using congrArg Array.toList d1
 subst this;exact r.inj r'
end
abbrev Cx.rL (X:Cx) (E:Value->Shared->Prop):Cx:={X with xe:=E}
abbrev Cx.IG (X:Cx):Cx:=X.rL fun _ _=>False
theorem Cx.Ok.rL {X:Cx} (ok:X.Ok) (E:Value->Shared->Prop):(X.rL E).Ok:=
 ⟨ok.mod,ok.kind,ok.glob,ok.blt,ok.above,ok.inj,ok.has,ok.Rr,ok.hd,ok.frames,ok.RC,ok.Tc,ok.bs,ok.LY,ok.wN,ok.IZ,ok.pN,ok.GR⟩
def Cx.Ok.hZ {X:Cx} {E:Value->Shared->Prop} (ok:(X.rL E).Ok):X.Ok:=
 ⟨ok.mod,ok.kind,ok.glob,ok.blt,ok.above,ok.inj,ok.has,ok.Rr,ok.hd,ok.frames,ok.RC,ok.Tc,ok.bs,ok.LY,ok.wN,ok.IZ,ok.pN,ok.GR⟩
section
variable {X:Cx} {pins:List (Addr×Obj)} {σ:St} {H:Hp} {s:Shared} {E:Value->Shared->Prop}
theorem Inv.rL (I:Inv X pins σ H s) (E:Value->Shared->Prop):Inv (X.rL E) pins σ H s:=⟨I.ok.rL E,I.os,I.bare,I.base,I.loc,I.cell,I.free,I.kf,I.pin,I.cb,I.len⟩
theorem Inv.hZ (I:Inv (X.rL E) pins σ H s):Inv X pins σ H s:=⟨I.ok.hZ,I.os,I.bare,I.base,I.loc,I.cell,I.free,I.kf,I.pin,I.cb,I.len⟩
theorem SP.hZ (h:SP (X.rL E) pins D f s'):SP X pins D f s':=by
 cases f with
 | next=>obtain⟨σ',H',I,q⟩:=h;exact⟨σ',H',I.hZ,q⟩
 | brk=>obtain⟨σ',H',I,q⟩:=h;exact⟨σ',H',I.hZ,q⟩
 | cont=>obtain⟨σ',H',I,q⟩:=h;exact⟨σ',H',I.hZ,q⟩
 | ret u=>obtain⟨v,σ',H',I,r,q⟩:=h;exact⟨v,σ',H',I.hZ,r,q⟩
theorem Dv.IG {st:List Stmt} {t:TS} (h:Dv X.IG st t):Dv X st t:=fun pins s σ H D I hw=>
 wpAny_mono (h pins s σ H D (I.rL _) hw) (fun _ _ q=>q.hZ) fun _ _ z=>False.elim z
end
section
variable {X:Cx} {st:Stmt} {rest:List Stmt} {t u:TS} {e:Expr} {te:TE} {pos:Pos}
def PH:TS:=fun D σ H=>D.nx σ H
def Qo (t u:TS):TS:=fun D σ H=>t {D with nx:=u D} σ H
def ax:Dv X [] PH:=fun _ _ σ H _ I h=>wpAny_execs_nil ⟨σ,H,I,h⟩
def ag (h1:PS X st t) (h2:Dv X rest u):Dv X (st::rest) (Qo t u):=by
 intro pins s σ H D I h;refine wpAny_execs_cons (cU (h1 pins s σ H {D with nx:=u D} I h) fun f s1 q=>?_);cases f with
 | next=>
  obtain⟨σ',H',I',q⟩:=q;exact h2 pins s1 σ' H' D I' q
 | ret v=>exact q
 | brk=>exact q
 | cont=>exact q
def aj (h1:PS X st t):Dv X [st] t:=by
 intro pins s σ H D I h;refine wpAny_execs_cons (cU (h1 pins s σ H D I h) fun f s1 q=>?_);cases f with
 | next=>exact wpAny_execs_nil q
 | ret v=>exact q
 | brk=>exact q
 | cont=>exact q
def Inv.quiet (I:Inv X pins σ H s):interactive X.env=false:=by simp[interactive,I.ok.kind]
def PJ (te:TE):TS:=fun D σ H=>te σ H fun _ H1=>D.nx σ H1
def bK (he:PE X e te) (hs:swapsWith e none pos.line X.env=pure false<|>qe_):PS X (.Expr e pos) (PJ te):=by
 intro pins s σ H D I h;exact wpAny_Expr_any (cU (he pins s σ H _ I h) fun v s1 ⟨x,H1,I1,r1,q1⟩=>⟨σ,H1,I1,q1⟩) I.quiet hs
def Qp (te:TE):TS:=fun D σ H=>te σ H D.rt
def aq (he:PE X e te):PS X (.Return (some e) pos) (Qp te):=by
 intro pins s σ H D I h;exact wpAny_Return_some (cU (he pins s σ H _ I h) fun v s1 ⟨x,H1,I1,r1,q1⟩=>⟨x,σ,H1,I1,r1,q1⟩)
def Oq (c:TT) (t u:TS):TS:=fun D σ H=>c σ H fun b H1=>if b=true then t D σ H1 else u D σ H1
def aI (hc:PT X c tc) (ha:Dv X a t) (hb:Dv X b u):PS X (.If c a b pos) (Oq tc t u):=by
 intro pins s σ H D I h;refine wpAny_If (cU (hc pins s σ H _ I h) fun d s1 ⟨H1,I1,q1⟩=>?_);cases d with
 | true=>exact ha pins s1 σ H1 D I1 q1
 | false=>exact hb pins s1 σ H1 D I1 q1
def Qr:TS:=fun _ _ _=>False
def Gg:PS X st Qr:=fun _ _ _ _ _ _ h=>h.elim
end
abbrev TG:=V->St->Hp->(St->Hp->Prop)->Prop
abbrev SK:=List V->St->Hp->(St->Hp->Prop)->Prop
def PG (X:Cx) (target:Expr) (t:TG):Prop:=
 ∀(pins:List (Addr×Obj)) (s:Shared) (σ:St) (H:Hp) (v:V) (u:Value) (Q:St->Hp->Prop),Inv X pins σ H s->RelV v u->t v σ H Q->
  wpAny (model X.prog X.w) X.A (assign target X.env u) (fun _ s'=>∃σ' H',Inv X pins σ' H' s'/\Q σ' H') X.xe s
def Tf (X:Cx) (ts:List Expr) (t:SK):Prop:=
 ∀(pins:List (Addr×Obj)) (s:Shared) (σ:St) (H:Hp) (vs:List V) (us:List Value) (Q:St->Hp->Prop),Inv X pins σ H s->Vals vs us->t vs σ H Q->
  wpAny (model X.prog X.w) X.A (assignInOrder ((assignEach ts X.env).map (·.2)) us) (fun _ s'=>∃σ' H',Inv X pins σ' H' s'/\Q σ' H') X.xe s
section
variable {X:Cx} {pos:Pos}
def bO (i:Nat):TG:=fun v σ H Q=>Q (σ.set i (some v)) H
def J0 (hN:X.N.Nodup) (hi:X.N[i]?=some x) (hx:Loc X.env.scope x) (hf:X.fn x=true\/X.env.scope.names.lookup x=some .local<|>qa_):PG X (.Name x pos) (bO i):=by
 intro pins s σ H v u Q I r h;exact wpAny_assign_Name (nQ I hN hi hx r (fun s' I'=>⟨_,H,I',h⟩) hf)
def EC:SK:=fun vs σ H Q=>vs=[]/\Q σ H
def fH (t:TG) (u:SK):SK:=fun vs σ H Q=>∃v r,vs=v::r/\t v σ H fun σ' H'=>u r σ' H' Q
def df:Tf X [] EC:=by
 intro pins s σ H vs us Q I r h;obtain⟨e,h⟩:=h;subst e;cases r;exact assignInOrder_nil ⟨σ,H,I,h⟩
def aL (h1:PG X e t) (h2:Tf X es u)
  (hs:(assignEach (e::es) X.env).map (·.2)=assign e X.env::(assignEach es X.env).map (·.2)<|>qe_):Tf X (e::es) (fH t u):=by
 intro pins s σ H vs us Q I r h;obtain⟨v,vr,e1,h⟩:=h;subst e1;cases r with
 | cons r rr=>
  rw[hs];refine assignInOrder_cons (cU (h1 pins s σ H _ _ _ I r h) fun _ s1 ⟨σ1,H1,I1,q1⟩=>?_);exact h2 pins s1 σ1 H1 _ _ Q I1 rr q1
def EB (K:yA) (n:Nat) (t:SK):TG:=fun v σ H Q=>∃a xs,v=.ref a/\dA K H a xs/\xs.length=n/\t xs σ H Q
def d4 (hc:X.calm=true) (h:Tf X es t)
  (hn:(assignEach es X.env).length=n<|>qe_) (hst:(assignEach es X.env).findIdx? (·.1)=none<|>qe_):PG X (.Tuple es k pos) (EB X.K n t):=by
 intro pins s σ H v u Q I r hw;obtain⟨a,xs,e1,hq,hl,hw⟩:=hw;subst e1;cases r;obtain⟨its,rv,ht,hz⟩:=I.tuple hq;refine assign_Tuple_tuple (I.ok.hd hc) ht (by simp[hn,<-hl,rv.length]) hst fun h' hx=>?_;have I1:Inv X pins σ H {s with heap:=h'}:=I.kept (t':=s.toks) fun b o e=>hx b o (yi (yx e)) e;exact h pins _ σ H xs _ Q I1 (by simpa using rv) hw
def FO (te:TE) (g:TG):TS:=fun D σ H=>te σ H fun x H1=>g x σ H1 D.nx
def MW (hN:X.N.Nodup) (hi:X.N[i]?=some x) (hx:Loc X.env.scope x) (he:PE X e te) (hs:swapsWith e (some (.Name x pos')) pos.line X.env=pure false<|>qe_) (hf:X.fn x=true\/X.env.scope.names.lookup x=some .local<|>qa_) :
  PS X (.Assign [.Name x pos'] e pos) (FO te (bO i)):=by
 intro pins s σ H D I h;refine wpAny_Assign_Name (cU (he pins s σ H _ I h) fun v s1 ⟨y,H1,I1,r1,q1⟩=>?_) hs;exact nQ I1 hN hi hx r1 (fun s2 I2=>⟨_,H1,I2,q1⟩) hf
def TV (i j:Nat) (ta:TA):TS:=fun D σ H=>ta σ H fun vs H1=>∃v w,vs=[v,w]/\D.nx ((σ.set i (some v)).set j (some w)) H1
def MX (hc:X.calm=true) (hN:X.N.Nodup) (hi:X.N[i]?=some x) (hj:X.N[j]?=some y) (hij:i≠j)
  (hx:X.env.scope.names.lookup x=some .local) (hy:X.env.scope.names.lookup y=some .local) (ha:PA X [a,b] ta)
  (hw:swappedStores [.Tuple [.Name x px,.Name y py] kt pt] (.Tuple [a,b] k2 pt2) X.env=pure (some [x,y]))
  (hs:swapsWithSole [.Tuple [.Name x px,.Name y py] kt pt] (.Tuple [a,b] k2 pt2) pos.line X.env=pure false<|>qe_) :
  PS X (.Assign [.Tuple [.Name x px,.Name y py] kt pt] (.Tuple [a,b] k2 pt2) pos) (TV i j ta):=by
 intro pins s σ H D I h;rw[exec_Assign_arm];refine yt (wpAny_standAt ?_);rw[hs];refine yt (yv ?_);rw[if_neg ∅];refine yt (Tuple_ (cU (ha _ pins s σ H _ I h) fun us s1 zz=>?_));obtain⟨vs,H1,I1,r1,q1⟩:=zz;obtain⟨v,w,e1,q1⟩:=q1;subst e1;obtain⟨u1,u2,rfl,rv,rw'⟩:∃u1 u2,us=[u1,u2]/\RelV v u1/\RelV w u2:=by
  cases r1 with
  | cons p q=>
   cases q with
   | cons p' q'=>
    cases q';exact⟨_,_,rfl,p,p'⟩
 refine wpAny_newObj_type ?_ (by show 2<=sizeLine;decide);have I2:Inv X pins σ H1 {s1 with heap:=s1.heap.push {cls:=.type "tuple",data:=.seq [u1,u2].toArray}}:=I1.kept (t':=s1.toks) fun b o e=>yu _ e;rw[hw];refine yt (yv ?_);show wpAny (model X.prog X.w) X.A (do rule "assign.swapped-stores";let items <-unpackItems (.ref ↑s1) 2 none;assignInOrder [fun v=>bindName X.env y v,fun v=>bindName X.env x v] items.reverse;pure Flow.next) _ _ _;refine yt (wpAny_rule (yt (unpackItems_tuple (items:=#[u1,u2]) (I.ok.hd hc) (IsTup.new s1.heap _) fun h' hx'=>?_)));have I3:=I2.kept (h':=h') (t':=s1.toks) fun b o e=>hx' b o (yi (yx e)) e;show wpAny _ _ (assignInOrder [fun v=>bindName X.env y v,fun v=>bindName X.env x v] [u2,u1] >>= fun _=>pure Flow.next) _ _ _;refine yt (assignInOrder_cons (wpAny_bindName (nQ I3 hN hj (.inl hy) rw' (fun s2 I4=>?_) (.inr hy))));refine assignInOrder_cons (wpAny_bindName (nQ I4 hN hi (.inl hx) rv (fun s3 I5=>assignInOrder_nil (yv ?_)) (.inr hx)));rw[List.set_comm _ _ (Ne.symm hij)] at I5;exact⟨_,H1,I5,q1⟩
end
section
variable {X:Cx} {pos:Pos}
def Mm (c:TT) (tb:TS):TS:=fun D σ H=>∃W:Nat->St->Hp->Prop,(∃m,W m σ H)/\∀m σ H,W m σ H->
 c σ H fun b H1=>if b=true then∃N:St->Hp->Prop,(∀σ' H',N σ' H'->∃m',m'<m/\W m' σ' H')/\tb {D with nx:=N,ct:=N,bk:=D.nx} σ H1 else D.nx σ H1
def sQ (hp:PassesOwn (model X.prog X.w) X.A X.env X.xe) (hc:PT X c tc) (hb:Dv X body tb):PS X (.While c body [] pos) (Mm tc tb):=by
 intro pins s σ H D I h;obtain⟨W,⟨m0,w0⟩,turn⟩:=h;refine wpAny_While (codeAny_whileLoop (fun n s'=>∃σ' H',Inv X pins σ' H' s'/\W n σ' H') ?_ m0 ⟨σ,H,I,w0⟩);rintro n s1 ⟨σ1,H1,I1,w1⟩;refine wpAny_passesOwn hp (cU (hc pins s1 σ1 H1 _ I1 (turn n σ1 H1 w1)) fun b s2 ⟨H2,I2,q2⟩=>?_);cases b with
 | true=>
  obtain⟨N,hN,q2⟩:=q2;rw[if_pos rfl];refine wpAny_passesOwn hp (cU (hb pins s2 σ1 H2 _ I2 q2) fun f s3 q3=>?_);cases f with
  | next=>
   obtain⟨σ3,H3,I3,n3⟩:=q3;obtain⟨m',hm,w3⟩:=hN σ3 H3 n3;exact⟨m',hm,σ3,H3,I3,w3⟩
  | cont=>
   obtain⟨σ3,H3,I3,n3⟩:=q3;obtain⟨m',hm,w3⟩:=hN σ3 H3 n3;exact⟨m',hm,σ3,H3,I3,w3⟩
  | brk=>exact q3
  | ret v=>exact q3
 | false=>
  rw[if_neg zK];exact wpAny_execs_nil ⟨σ1,H2,I2,q2⟩
end
structure It where
 go:Nat->Hp->Prop
 JL:Nat->Hp->V->Hp->Prop
 stop:Nat->Hp->Prop
def rK (X:Cx) (pins:List (Addr×Obj)) (H:Hp) (b:Addr):Prop:=
 H b=none/\b≠X.env.locals/\b∉X.fs/\(b∈X.ex\/X.s₀.heap.objs.size<=b)/\(∀x c,X.env.cells.lookup x=some c->c≠b)/\∀p∈X.pn++pins,p.1≠b
def Inv.uS (I:Inv X pins σ H s) (hb:↑s<=b) (hn:H' b=none):rK X pins H' b:=by
 refine⟨hn,yh (yb I.lt hb),I.Sf hb,.inr (zL I.sz hb),fun x c e z=>?_,fun p hp z=>?_⟩
 ·obtain⟨v,q⟩:=I.cell x c e
  exact absurd (yb q.lt (by rw[z];exact hb)) (ye _)
 ·exact absurd (yb (yx (I.pin p hp).1) (by rw[z];exact hb)) (ye _)
structure Turn (P:Program) (w:World) (K:yA) (tg:Expr) (J:It) (fp:List Addr) (it:Addr) (tn:Nat->Heap->Prop):Prop where
 mem:it∈fp
 obj:∀i h,tn i h->∀b∈fp,∃o,h.get? b=some o/\∀v,o.data≠.cell v
 keep:∀i h h',tn i h->(∀b∈fp,∀o,h.get? b=some o->h'.get? b=some o)->tn i h'
 item:∀(X:Cx),X.prog=P->X.w=w->X.K=K->X.calm=true->∀(i:Nat) (pins:List (Addr×Obj)) (s:Shared) (σ:St) (H:Hp) (E:Value->Shared->Prop),Inv X pins σ H s->(∀b∈fp,rK X pins H b)->tn i s.heap->J.go i H->
  wpAny (model P w) X.A (pyNext (.ref it)) (fun r s1=>∃u,r=some u/\
   wpAny (model P w) X.A (letOwnedTupleGo tg (.ref it) u) (fun _ s2=>∃x H',Inv X pins σ H' s2/\RelV x u/\J.JL i H x H'/\tn (i+1) s2.heap/\∀b∈fp,H' b=none) E s1) E s
 done:∀(X:Cx),X.prog=P->X.w=w->X.K=K->X.calm=true->∀(i:Nat) (pins:List (Addr×Obj)) (s:Shared) (σ:St) (H:Hp) (E:Value->Shared->Prop),Inv X pins σ H s->(∀b∈fp,rK X pins H b)->tn i s.heap->J.stop i H->
  wpAny (model P w) X.A (pyNext (.ref it)) (fun r s1=>r=none/\Inv X pins σ H s1) E s
 self:∀(A:Around) (i:Nat) (s:Shared) (Q:Value->Shared->Prop) (E:Value->Shared->Prop),tn i s.heap->Q (.ref it) s->wpAny (model P w) A (pyIter (.ref it)) Q E s
abbrev TI:=St->Hp->(It->Hp->Prop)->Prop
def UE (X:Cx) (pins:List (Addr×Obj)) (σ:St) (tg:Expr) (R:It->Hp->Prop) (itv:Value) (s2:Shared):Prop:=
 ∃(it:Addr) (fp:List Addr) (tn:Nat->Heap->Prop) (J:It) (H':Hp),itv=.ref it/\Inv X pins σ H' s2/\Turn X.prog X.w X.K tg J fp it tn/\tn 0 s2.heap/\(∀b∈fp,rK X pins H' b)/\R J H'
def PI (X:Cx) (tg iter:Expr) (wi:TI):Prop:=
 ∀(pins:List (Addr×Obj)) (s:Shared) (σ:St) (H:Hp) (R:It->Hp->Prop),Inv X pins σ H s->wi σ H R->
  wpAny (model X.prog X.w) X.A (eval iter X.env) (fun v s1=>wpAny (model X.prog X.w) X.A (pyIter v) (UE X pins σ tg R) X.xe s1) X.xe s
def AD (ho:s.heap.get? it=some o) (hc:o.cls=.type n) (hd:o.data=.fields vs)
    (hn:["enumerate","zip","dict_itemiterator","dict_reverseitemiterator","odict_iterator","itertools.zip_longest","itertools.pairwise"].contains n=false) (hQ:Q () s):wpAny M A (letOwnedTupleGo tg (.ref it) u) Q E s:=by
  unfold letOwnedTupleGo;cases tg <;> first
    | exact yv hQ
    | (cases u <;> first
        | exact yv hQ
        | (refine yt (wpAny_load ho ?_)
           rw[hc,hd];show wpAny M A (if(["enumerate","zip","dict_itemiterator","dict_reverseitemiterator","odict_iterator","itertools.zip_longest","itertools.pairwise"].contains n&&vs[0]? == some (rawInt _))=true then _ else _) Q E s;rw[if_neg (by intro h;rw[hn,Bool.false_and] at h;cases h)];exact yv hQ))
def LR (K:yA) (a:Addr):It:=
 ⟨fun i H=>∃xs x,aH K H a xs/\xs[i]?=some x,fun i H x H'=>H'=H/\∀xs,aH K H a xs->xs[i]?=some x,fun i H=>∃xs,aH K H a xs/\xs.length<=i⟩
def Qb (K:yA) (a:Addr):It:=
 ⟨fun i H=>∃xs x,dA K H a xs/\xs[i]?=some x,fun i H x H'=>H'=H/\∀xs,dA K H a xs->xs[i]?=some x,fun i H=>∃xs,dA K H a xs/\xs.length<=i⟩
def N7 (lo:Int) (n:Nat):It:=⟨fun i _=>i<n,fun i H x H'=>H'=H/\x=.int (lo+i),fun i _=>n<=i⟩
def Kx {P:Program} {w:World} {K:yA} {tg:Expr} (a it:Addr):Turn P w K tg (LR K a) [it] it (fun i h=>h.IsListIter it a i) where
 mem:=by simp
 obj:=fun i h st b hb=>by
  have e:b=it:=by simpa using hb
  subst e;obtain⟨o,e,c,d⟩:=st;exact⟨o,e,fun v z=>by rw[d] at z;cases z⟩
 keep:=fun i h h' st k=>st.at fun o e=>k it (by simp) o e
 item:=by
  intro X hP hw hK hc i pins s σ H E I hf st hg;subst hP hw hK;obtain⟨xs,x,hq,hx⟩:=hg;obtain⟨its,rv,p,hz⟩:=I.list hq;obtain⟨u,hu,ru⟩:=rv.get hx;obtain⟨f0,f1,f2,f3,f4,f5⟩:=hf it (by simp);refine wpAny_pyNext_list_item st p.isList (x:=u) (by simpa using hu) fun h' st' sb=>?_;have I1:Inv X pins σ H {s with heap:=h'}:=I.turned (t':=s.toks) (fun b o hb e=>(sb.2 b hb).trans e) f0 f1 f3 f4 f5;obtain⟨o,e,c,d⟩:=id st';exact⟨u,rfl,AD (s:={s with heap:=h'}) e c d ∅ ⟨x,H,I1,ru,⟨rfl,fun ys hy=>by rw[I.tD hy hq];exact hx⟩,st',fun b hb=>(hf b hb).1⟩⟩
 done:=by
  intro X hP hw hK hc i pins s σ H E I hf st hg;subst hP hw hK;obtain⟨xs,hq,hx⟩:=hg;obtain⟨its,rv,p,hz⟩:=I.list hq;obtain⟨f0,f1,f2,f3,f4,f5⟩:=hf it (by simp);have hl:=rv.length;exact wpAny_pyNext_list_end (I.ok.hd hc) st p.isList (by simp;omega) fun h' eb=>⟨rfl,I.turned (t':=s.toks) (fun b o hb e=>eb b o hb e) f0 f1 f3 f4 f5⟩
 self:=fun _ _ _ _ _ st h=>wpAny_pyIter_listiter st h
def Ic {P:Program} {w:World} {K:yA} {tg:Expr} (a it:Addr):Turn P w K tg (Qb K a) [it] it (fun i h=>h.IsTupleIter it a i) where
 mem:=by simp
 obj:=fun i h st b hb=>by
  have e:b=it:=by simpa using hb
  subst e;obtain⟨o,e,c,d⟩:=st;exact⟨o,e,fun v z=>by rw[d] at z;cases z⟩
 keep:=fun i h h' st k=>st.at fun o e=>k it (by simp) o e
 item:=by
  intro X hP hw hK hc i pins s σ H E I hf st hg;subst hP hw hK;obtain⟨xs,x,hq,hx⟩:=hg;obtain⟨its,rv,p,hz⟩:=I.tuple hq;obtain⟨u,hu,ru⟩:=rv.get hx;obtain⟨f0,f1,f2,f3,f4,f5⟩:=hf it (by simp);refine wpAny_pyNext_tuple_item st (show s.heap.IsTuple a its.toArray from p) (x:=u) (by simpa using hu) fun h' st' sb=>?_;have I1:Inv X pins σ H {s with heap:=h'}:=I.turned (t':=s.toks) (fun b o hb e=>(sb.2 b hb).trans e) f0 f1 f3 f4 f5;obtain⟨o,e,c,d⟩:=id st';exact⟨u,rfl,AD (s:={s with heap:=h'}) e c d ∅ ⟨x,H,I1,ru,⟨rfl,fun ys hy=>by rw[I.CF hy hq];exact hx⟩,st',fun b hb=>(hf b hb).1⟩⟩
 done:=by
  intro X hP hw hK hc i pins s σ H E I hf st hg;subst hP hw hK;obtain⟨xs,hq,hx⟩:=hg;obtain⟨its,rv,p,hz⟩:=I.tuple hq;obtain⟨f0,f1,f2,f3,f4,f5⟩:=hf it (by simp);have hl:=rv.length;exact wpAny_pyNext_tuple_end (I.ok.hd hc) st (show s.heap.IsTuple a its.toArray from p) (by simp;omega) fun h' eb=>⟨rfl,I.turned (t':=s.toks) (fun b o hb e=>eb b o hb e) f0 f1 f3 f4 f5⟩
 self:=fun _ _ _ _ _ st h=>wpAny_pyIter_tupleiter st h
def Ie {P:Program} {w:World} {K:yA} {tg:Expr} (it:Addr) (lo:Int) (n:Nat):Turn P w K tg (N7 lo n) [it] it (fun i h=>IsRangeIter h it (lo+(i:Nat)*1) ((n:Int)-(i:Nat)) 1) where
 mem:=by simp
 obj:=fun i h st b hb=>by
  have e:b=it:=by simpa using hb
  subst e;exact⟨_,st,fun v z=>by
   have z':Data.fields _=Data.cell v:=z;cases z'⟩
 keep:=fun i h h' st k=>k it (by simp) _ st
 item:=by
  intro X hP hw hK hc i pins s σ H E I hf st hg;subst hP hw hK;obtain⟨f0,f1,f2,f3,f4,f5⟩:=hf it (by simp);have W:=Walks.range (prog:=X.prog) (w:=X.w) (I.ok.hd hc) it lo 1 n;refine W.item i s _ _ hg st fun v h' tk hv st' kk=>?_;obtain⟨t,rfl⟩:=hv;have I1:Inv X pins σ H {s with heap:=h',toks:=tk}:=I.turned (fun b o hb e=>kk b o (by simpa using hb) e) f0 f1 f3 f4 f5;refine⟨_,rfl,AD (s:={s with heap:=h',toks:=tk}) (n:="range_iterator") st' rfl rfl ∅ ⟨.int (lo+i),H,I1,⟨t,?_⟩,⟨rfl,rfl⟩,st',fun b hb=>(hf b hb).1⟩⟩;rw[Int.mul_one]
 done:=by
  intro X hP hw hK hc i pins s σ H E I hf st hg;subst hP hw hK;obtain⟨f0,f1,f2,f3,f4,f5⟩:=hf it (by simp);exact wpAny_pyNext_range_end (I.ok.hd hc) st (by have:n<=i:=hg;omega) fun h' eb=>⟨rfl,I.turned (t':=s.toks) (fun b o hb e=>eb b o hb e) f0 f1 f3 f4 f5⟩
 self:=fun _ _ _ _ _ st h=>wpAny_pyIter_rangeiter st h
end L2
namespace L2
open PySem PySem.Spec PyProof.Rows
section
variable {X:Cx} {tg:Expr}
def J7 (K:yA) (tl:TE):TI:=fun σ H R=>tl σ H fun x H1=>∃a,x=.ref a/\(∃xs,aH K H1 a xs)/\R (LR K a) H1
def Ui (K:yA) (tl:TE):TI:=fun σ H R=>tl σ H fun x H1=>∃a,x=.ref a/\(∃xs,dA K H1 a xs)/\R (Qb K a) H1
def aZ {l:Expr} {tl:TE} (hl:PE X l tl):PI X tg l (J7 X.K tl):=by
 intro pins s σ H R I h;refine cU (hl pins s σ H _ I h) fun v s1 zz=>?_;obtain⟨x,H1,I1,r1,q1⟩:=zz;obtain⟨a,e,⟨xs,hq⟩,q⟩:=q1;subst e;cases r1;obtain⟨its,rv,p,hz⟩:=I1.list hq;refine wpAny_pyIter_list p.isList ?_;refine⟨↑s1,[↑s1],_,_,H1,rfl,I1.kept (t':=s1.toks) fun b o e=>yu _ e,Kx a _,⟨_,yw _ rfl,rfl,rfl⟩,fun b hb=>?_,q⟩;have e:b=↑s1:=by simpa using hb
 subst e;exact I1.uS (zk _) (I1.cb.fresh (zk _))
def kB {l:Expr} {tl:TE} (hl:PE X l tl):PI X tg l (Ui X.K tl):=by
 intro pins s σ H R I h;refine cU (hl pins s σ H _ I h) fun v s1 zz=>?_;obtain⟨x,H1,I1,r1,q1⟩:=zz;obtain⟨a,e,⟨xs,hq⟩,q⟩:=q1;subst e;cases r1;obtain⟨its,rv,p,hz⟩:=I1.tuple hq;refine wpAny_pyIter_tuple (show s1.heap.IsTuple a its.toArray from p) ?_;refine⟨↑s1,[↑s1],_,_,H1,rfl,I1.kept (t':=s1.toks) fun b o e=>yu _ e,Ic a _,⟨_,yw _ rfl,rfl,rfl⟩,fun b hb=>?_,q⟩;have e:b=↑s1:=by simpa using hb
 subst e;exact I1.uS (zk _) (I1.cb.fresh (zk _))
def Gb {pins:List (Addr×Obj)} {σ:St} {H:Hp} {s:Shared} {R:It->Hp->Prop} {E:Value->Shared->Prop} {lo hi:Int} {t u v:Tok} {tk:Nat} (I:Inv X pins σ H s) (h1:-(2^62)<=lo) (h2:lo<2^62) (h3:-(2^62)<=hi) (h4:hi<2^62)
  (q:R (N7 lo (hi-lo).toNat) H):wpAny (model X.prog X.w) X.A (pyIter (.ref ↑s)) (UE X pins σ tg R) E {s with heap:=s.heap.push {cls:=.type "range",data:=.fields #[.int lo t,.int hi u,.int 1 v]},toks:=tk}:=by
 refine wpAny_pyIter_range (IsRange.new ..) (small_one h1 h2 h3 h4) ?_;have I1:Inv X pins σ H {s with heap:=s.heap.push {cls:=.type "range",data:=.fields #[.int lo t,.int hi u,.int 1 v]},toks:=tk}:=I.kept fun b o e=>yu _ e;refine⟨(s.heap.push {cls:=.type "range",data:=.fields #[.int lo t,.int hi u,.int 1 v]}).objs.size,[(s.heap.push {cls:=.type "range",data:=.fields #[.int lo t,.int hi u,.int 1 v]}).objs.size],_,_,H,rfl,
  I1.kept (t':=tk) fun b o e=>yu _ e,Ie _ lo (hi-lo).toNat,?_,fun b hb=>?_,q⟩
 ·have e1:lo+((0:Nat):Int)*1=lo:=by simp
  have e2:(((hi-lo).toNat:Nat):Int)-((0:Nat):Int)=Builtin.Range.rangeSize lo hi 1:=by rw[rangeSize_one];split <;> omega
  show IsRangeIter _ _ (lo+((0:Nat):Int)*1) ((((hi-lo).toNat:Nat):Int)-((0:Nat):Int)) 1;rw[e1,e2];exact yw _ rfl
 ·have e:b=(s.heap.push {cls:=.type "range",data:=.fields #[.int lo t,.int hi u,.int 1 v]}).objs.size:=by simpa using hb
  subst e;exact I1.uS (zk _) (I1.cb.fresh (zk _))
def Ny (ta:TA):TI:=fun σ H R=>ta σ H fun vs H1=>∃j:Int,vs=[.int j]/\-(2^62)<=j/\j<2^62/\R (N7 0 j.toNat) H1
def Su (ta:TA):TI:=fun σ H R=>ta σ H fun vs H1=>∃i j:Int,vs=[.int i,.int j]/\(-(2^62)<=i/\i<2^62/\-(2^62)<=j/\j<2^62)/\R (N7 i (j-i).toNat) H1
def cH {a:Expr} {ta:TA} {p pos:Pos} (hg:Gl X "range") (hm:X.mg "range"= none) (ha:PA X [a] ta) (hs:starEach [a] X.env=[(false,eval a X.env)]<|>qe_):PI X tg (.Call (.Name "range" p) [a] [] pos) (Ny ta):=by
 intro pins s σ H R I h;refine Call_ (iz I hg hm boot_range (yL (cU (ha pos pins s σ H _ I h) fun us s1 ⟨vs,H1,I1,r1,q1⟩=>?_) hs rfl));obtain⟨j,e,q1,q2,q⟩:=q1;subst e;cases r1 with
 | cons r rr=>
  cases rr;obtain⟨t,rfl⟩:=r;exact call_range_1 (Gb I1 nofun nofun q1 q2 (by simpa using q))
def uF (hg:Gl X "range") (hm:X.mg "range"= none) (ha:PA X [a,b] ta) (hs:starEach [a,b] X.env=[(false,eval a X.env),(false,eval b X.env)]<|>qe_) (hs2:starEach [b] X.env=[(false,eval b X.env)]<|>qe_) :
  PI X tg (.Call (.Name "range" p) [a,b] [] pos) (Su ta):=by
 intro pins s σ H R I h;refine Call_ (iz I hg hm boot_range (yL (cU (ha pos pins s σ H _ I h) fun us s1 ⟨vs,H1,I1,r1,q1⟩=>?_) (by rw[hs,hs2]) (by rw[hs2];rfl)));obtain⟨i,j,e,⟨q1,q2,q3,q4⟩,q⟩:=q1;subst e;cases r1 with
 | cons r rr=>
  cases rr with
  | cons r' rr=>
   cases rr;obtain⟨t,rfl⟩:=r;obtain⟨t',rfl⟩:=r';exact call_range_2 (Gb I1 q1 q2 q3 q4 q)
def Qu (wi:TI) (g:TG) (tb:TS):TS:=fun D σ H=>wi σ H fun J H1=>∃W:Nat->Nat->St->Hp->Prop,(∃m,W 0 m σ H1)/\∀i m σ H,W i m σ H->
 (J.stop i H/\D.nx σ H)\/(J.go i H/\∃N:St->Hp->Prop,(∀σ' H',N σ' H'->∃m',m'<m/\W (i+1) m' σ' H')/\∀x H',J.JL i H x H'->g x σ H' fun σ2 H2=>tb {D with nx:=N,ct:=N,bk:=D.nx} σ2 H2)
def uE (fp:List Addr) (h:Heap):List (Addr×Obj):=fp.filterMap fun b=>(h.get? b).map fun o=>(b,o)
def gB (hb:b∈fp) (e:h.get? b=some o):(b,o)∈uE fp h:=List.mem_filterMap.mpr ⟨b,hb,by rw[e];rfl⟩
def K2 (hp:p∈uE fp h):p.1∈fp/\h.get? p.1=some p.2:=by
 obtain⟨b,hb,e⟩:=List.mem_filterMap.mp hp;cases q:h.get? b with
 | none=>rw[q] at e;cases e
 | some o=>
  rw[q] at e;have e':(b,o)=p:=yj e;subst e';exact⟨hb,q⟩
def Inv.pinned (I:Inv X pins σ H s) (hf:∀b∈fp,rK X pins H b) (ho:∀b∈fp,∃o,s.heap.get? b=some o/\∀v,o.data≠.cell v):Inv X (pins++uE fp s.heap) σ H s:=
 I.o7 fun p hp=>(zF.mp hp).elim (fun z=>I.pin p (zH _ z)) fun z=>by
  obtain⟨hb,e⟩:=K2 z;obtain⟨f0,f1,f2,_⟩:=hf p.1 hb;obtain⟨o,e',d⟩:=ho p.1 hb;rw[e] at e';cases e';exact⟨e,f0,f1,f2,d⟩
def Inv.xK (I:Inv X (pins++pl) σ H s):Inv X pins σ H s:=I.o7 fun p hp=>I.pin p (zH _ (zI _ hp))
def cy (hp:PassesOwn (model X.prog X.w) X.A X.env X.xe) (hc:X.calm=true) (hi:PI X tg iter wi) (hg:PG X tg g) (hb:Dv X body tb)
  (hs:(∀x,foldedSetIterable iter X.env x=pure x)<|>qd_):PS X (.For tg iter body [] pos) (Qu wi g tb):=by
 intro pins s σ H D I h;refine wpAny_For (cU (hi pins s σ H _ I h) fun v s1 h1=>cU h1 fun itv s2 h2=>?_) hs;obtain⟨it,fp,tn,J,H2,e,I2,T,st2,f2,W,⟨m0,w0⟩,turn⟩:=h2;subst e;have stat:∀{H':Hp},(∀b∈fp,H' b=none)->∀b∈fp,rK X pins H' b:=fun hn b hb=>⟨hn b hb,(f2 b hb).2⟩
 refine codeAny_forLoop_any (fun n s'=>∃i σ' H',Inv X pins σ' H' s'/\tn i s'.heap/\(∀b∈fp,H' b=none)/\W i n σ' H') ?_ m0 ⟨0,σ,H2,I2,st2,fun b hb=>(f2 b hb).1,w0⟩;rintro n s3 ⟨i,σ3,H3,I3,st3,fr3,w3⟩;rcases turn i n σ3 H3 w3 with⟨stop,qn⟩ | ⟨go,N,hN,step⟩
 ·refine wpAny_passesOwn hp (cU (T.done X rfl rfl rfl hc i pins s3 σ3 H3 X.xe I3 (stat fr3) st3 stop) fun r s4 ⟨hr,I4⟩=>?_)
  subst hr;exact wpAny_execs_nil ⟨σ3,H3,I4,qn⟩
 ·refine wpAny_passesOwn hp (cU (T.item X rfl rfl rfl hc i pins s3 σ3 H3 X.xe I3 (stat fr3) st3 go) fun r s4 ⟨u,hr,h4⟩=>?_)
  subst hr;refine wpAny_passesOwn hp (cU h4 fun _ s5 zz=>?_);obtain⟨x,H5,I5,r5,y5,st5,fr5⟩:=zz;have I5':=I5.pinned (stat fr5) (T.obj _ _ st5);refine wpAny_passesOwn hp (cU (hg _ s5 σ3 H5 x u _ I5' r5 (step x H5 y5)) fun _ s6 ⟨σ6,H6,I6,q6⟩=>?_);refine wpAny_passesOwn hp (cU (hb _ s6 σ6 H6 _ I6 q6) fun f s7 q7=>?_);have again:∀{σ7:St} {H7:Hp},Inv X (pins++uE fp s5.heap) σ7 H7 s7->N σ7 H7->∃m,m<n/\∃i σ' H',Inv X pins σ' H' s7/\tn i s7.heap/\(∀b∈fp,H' b=none)/\W i m σ' H':=fun {σ7 H7} I7 n7=>by
   obtain⟨m',hm,w7⟩:=hN σ7 H7 n7;refine⟨m',hm,i+1,σ7,H7,I7.xK,T.keep _ _ _ st5 fun b hb o e=>(I7.pin (b,o) (zH _ (zH _ (gB hb e)))).1,fun b hb=>?_,w7⟩;obtain⟨o,e,d⟩:=T.obj _ _ st5 b hb;exact(I7.pin (b,o) (zH _ (zH _ (gB hb e)))).2.1
  cases f with
  | next=>obtain⟨σ7,H7,I7,n7⟩:=q7;exact again I7 n7
  | cont=>obtain⟨σ7,H7,I7,n7⟩:=q7;exact again I7 n7
  | brk=>obtain⟨σ7,H7,I7,q7⟩:=q7;exact⟨σ7,H7,I7.xK,q7⟩
  | ret v=>obtain⟨x7,σ7,H7,I7,r7,q7⟩:=q7;exact⟨x7,σ7,H7,I7.xK,r7,q7⟩
end
def eD {K:yA} {a:Addr} {xs:List V} {g:TG} {tb:TS} {D:Ends} {σ:St} {H:Hp} (Pv:Nat->St->Hp->Prop) (h0:Pv 0 σ H) (hl:∀i σ H,i<=xs.length->Pv i σ H->aH K H a xs)
  (hs:∀i x σ H,xs[i]?=some x->Pv i σ H->g x σ H fun σ2 H2=>tb {D with nx:=Pv (i+1),ct:=Pv (i+1),bk:=D.nx} σ2 H2) (hd:∀σ H,Pv xs.length σ H->D.nx σ H) :
  ∃W:Nat->Nat->St->Hp->Prop,(∃m,W 0 m σ H)/\∀i m σ H,W i m σ H->
   ((LR K a).stop i H/\D.nx σ H)\/((LR K a).go i H/\∃N:St->Hp->Prop,(∀σ' H',N σ' H'->∃m',m'<m/\W (i+1) m' σ' H')/\∀x H',(LR K a).JL i H x H'->g x σ H' fun σ2 H2=>tb {D with nx:=N,ct:=N,bk:=D.nx} σ2 H2):=by
 refine⟨fun i m σ H=>m=xs.length-i/\i<=xs.length/\Pv i σ H,⟨xs.length,by simp,yf _,h0⟩,?_⟩;rintro i m σ H ⟨rfl,hi,p⟩;have q:=hl i σ H hi p
 by_cases hlt:i<xs.length
 ·refine .inr ⟨⟨xs,xs[i],q,by simp[hlt]⟩,Pv (i+1),fun σ' H' p'=>⟨xs.length-(i+1),nofun,rfl,hlt,p'⟩,fun x H' y=>?_⟩
  obtain⟨e,y⟩:=y;subst e;exact hs i x σ _ (y xs q) p
 ·have e:i=xs.length:=nofun
  subst e;exact .inl ⟨⟨xs,q,zk _⟩,hd σ H p⟩
def J9 {K:yA} {a:Addr} {xs:List V} {g:TG} {tb:TS} {D:Ends} {σ:St} {H:Hp} (Pv:Nat->St->Hp->Prop) (h0:Pv 0 σ H) (hl:∀i σ H,i<=xs.length->Pv i σ H->dA K H a xs)
  (hs:∀i x σ H,xs[i]?=some x->Pv i σ H->g x σ H fun σ2 H2=>tb {D with nx:=Pv (i+1),ct:=Pv (i+1),bk:=D.nx} σ2 H2) (hd:∀σ H,Pv xs.length σ H->D.nx σ H) :
  ∃W:Nat->Nat->St->Hp->Prop,(∃m,W 0 m σ H)/\∀i m σ H,W i m σ H->
   ((Qb K a).stop i H/\D.nx σ H)\/((Qb K a).go i H/\∃N:St->Hp->Prop,(∀σ' H',N σ' H'->∃m',m'<m/\W (i+1) m' σ' H')/\∀x H',(Qb K a).JL i H x H'->g x σ H' fun σ2 H2=>tb {D with nx:=N,ct:=N,bk:=D.nx} σ2 H2):=by
 refine⟨fun i m σ H=>m=xs.length-i/\i<=xs.length/\Pv i σ H,⟨xs.length,by simp,yf _,h0⟩,?_⟩;rintro i m σ H ⟨rfl,hi,p⟩;have q:=hl i σ H hi p
 by_cases hlt:i<xs.length
 ·refine .inr ⟨⟨xs,xs[i],q,by simp[hlt]⟩,Pv (i+1),fun σ' H' p'=>⟨xs.length-(i+1),nofun,rfl,hlt,p'⟩,fun x H' y=>?_⟩
  obtain⟨e,y⟩:=y;subst e;exact hs i x σ _ (y xs q) p
 ·have e:i=xs.length:=nofun
  subst e;exact .inl ⟨⟨xs,q,zk _⟩,hd σ H p⟩
def fj {lo:Int} {n:Nat} {g:TG} {tb:TS} {D:Ends} {σ:St} {H:Hp} (Pv:Nat->St->Hp->Prop) (h0:Pv 0 σ H)
  (hs:∀i σ H,i<n->Pv i σ H->g (.int (lo+i)) σ H fun σ2 H2=>tb {D with nx:=Pv (i+1),ct:=Pv (i+1),bk:=D.nx} σ2 H2) (hd:∀σ H,Pv n σ H->D.nx σ H) :
  ∃W:Nat->Nat->St->Hp->Prop,(∃m,W 0 m σ H)/\∀i m σ H,W i m σ H->
   ((N7 lo n).stop i H/\D.nx σ H)\/((N7 lo n).go i H/\∃N:St->Hp->Prop,(∀σ' H',N σ' H'->∃m',m'<m/\W (i+1) m' σ' H')/\∀x H',(N7 lo n).JL i H x H'->g x σ H' fun σ2 H2=>tb {D with nx:=N,ct:=N,bk:=D.nx} σ2 H2):=by
 refine⟨fun i m σ H=>m=n-i/\i<=n/\Pv i σ H,⟨n,by simp,yf _,h0⟩,?_⟩;rintro i m σ H ⟨rfl,hi,p⟩
 by_cases hlt:i<n
 ·refine .inr ⟨hlt,Pv (i+1),fun σ' H' p'=>⟨n-(i+1),nofun,rfl,hlt,p'⟩,fun x H' y=>?_⟩
  obtain⟨e,y⟩:=y;subst e y;exact hs i σ _ hlt p
 ·have e:i=n:=nofun
  subst e;exact .inl ⟨zk _,hd σ H p⟩
end L2
namespace L2
open PySem PySem.Spec PyProof.Rows
abbrev R2:=V->V->Hp->VK->Prop
def pE (X:Cx) (f:Value->Value->Sem Value) (r:R2):Prop:=
 ∀(pins:List (Addr×Obj)) (s:Shared) (σ:St) (H:Hp) (x y:V) (v u:Value) (Q:VK),Inv X pins σ H s->RelV x v->RelV y u->r x y H Q->
  wpAny (model X.prog X.w) X.A (f v u) (EP X pins σ Q) X.xe s
def Uu (X:Cx) (f:Value->Sem Value) (r:V->Hp->VK->Prop):Prop:=
 ∀(pins:List (Addr×Obj)) (s:Shared) (σ:St) (H:Hp) (x:V) (v:Value) (Q:VK),Inv X pins σ H s->RelV x v->r x H Q->
  wpAny (model X.prog X.w) X.A (f v) (EP X pins σ Q) X.xe s
def fT (X:Cx) (f:Value) (r:List V->Hp->VK->Prop):Prop:=
 ∀(pins:List (Addr×Obj)) (s:Shared) (σ:St) (H:Hp) (xs:List V) (us:List Value) (Q:VK),Inv X pins σ H s->Vals xs us->r xs H Q->
  wpAny (model X.prog X.w) X.A (call f us) (EP X pins σ Q) X.xe s
def fu (r:R2) (ta tb:TE):TE:=fun σ H Q=>ta σ H fun x H1=>tb σ H1 fun y H2=>r x y H2 Q
def UO (r:V->Hp->VK->Prop) (ta:TE):TE:=fun σ H Q=>ta σ H fun x H1=>r x H1 Q
def rI (C:Int->Int->Prop) (g:Int->Int->V):R2:=fun x y H Q=>∃i j,x=.int i/\y=.int j/\C i j/\Q (g i j) H
def wC (g:Int->Int->V):R2:=fun x y H Q=>∃i j,x=.int i/\y=.int j/\Q (g i j) H
def rU (g:Int->V):V->Hp->VK->Prop:=fun x H Q=>∃i,x=.int i/\Q (g i) H
section
variable {X:Cx} {a b c:Expr} {ta tb tc:TE} {pos:Pos}
def Rt (ha:PE X a ta) (hb:PE X b tb) {pins:List (Addr×Obj)} {s:Shared} {σ:St} {H:Hp} {R:V->V->Hp->Prop} (I:Inv X pins σ H s)
  (h:ta σ H fun x H1=>tb σ H1 fun y H2=>R x y H2) {Q:Value->Shared->Prop} {f:Value->Value->Sem Value}
  (hf:∀v u s2 x y H2,Inv X pins σ H2 s2->RelV x v->RelV y u->R x y H2->wpAny (model X.prog X.w) X.A (f v u) Q X.xe s2) :
  wpAny (model X.prog X.w) X.A (eval a X.env) (fun v s₁=>wpAny (model X.prog X.w) X.A (eval b X.env) (fun u s₂=>wpAny (model X.prog X.w) X.A (f v u) Q X.xe s₂) X.xe s₁) X.xe s:=by
 refine cU (ha pins s σ H _ I h) fun v s1 zz=>?_;obtain⟨x,H1,I1,r1,q1⟩:=zz;refine cU (hb pins s1 σ H1 _ I1 q1) fun u s2 zz=>?_;obtain⟨y,H2,I2,r2,q2⟩:=zz;exact hf v u s2 x y H2 I2 r1 r2 q2
def ar {op:Operator} {r:R2} (ho:pE X (binaryOp op) r) (ha:PE X a ta) (hb:PE X b tb):PE X (.BinOp a op b pos) (fu r ta tb):=by
 intro pins s σ H Q I h;exact wpAny_BinOp (Rt ha hb I h fun v u s2 x y H2 I2 rx ry q=>ho pins s2 σ H2 x y v u Q I2 rx ry q)
def sT (ho:Uu X (unaryOp op) r) (ha:PE X a ta):PE X (.UnaryOp op a pos) (UO r ta):=by
 intro pins s σ H Q I h;exact UnaryOp_ (cU (ha pins s σ H _ I h) fun v s1 ⟨x,H1,I1,r1,q1⟩=>ho pins s1 σ H1 x v Q I1 r1 q1)
def RE {f:Value->Value->Sem Value} {C:Int->Int->Prop} {g:Int->Int->Int}
  (rule:∀(i j:Int) (t u:Tok) (s:Shared) (Q:Value->Shared->Prop) (E:Value->Shared->Prop),C i j->Q (.int (g i j) s.toks) {s with toks:=s.toks+1}->wpAny (model X.prog X.w) X.A (f (.int i t) (.int j u)) Q E s) :
  pE X f (rI C fun i j=>.int (g i j)):=by
 intro pins s σ H x y v u Q I rx ry h;obtain⟨i,j,rfl,rfl,hc,q⟩:=h;obtain⟨t,rfl⟩:=rx;obtain⟨t',rfl⟩:=ry;exact rule i j t t' s _ _ hc ⟨.int (g i j),H,I.tok _,⟨_,rfl⟩,q⟩
def QX {f:Value->Value->Sem Value} {g:Int->Int->Int}
  (rule:∀(i j:Int) (t u:Tok) (s:Shared) (Q:Value->Shared->Prop) (E:Value->Shared->Prop),Q (.int (g i j) s.toks) {s with toks:=s.toks+1}->wpAny (model X.prog X.w) X.A (f (.int i t) (.int j u)) Q E s) :
  pE X f (wC fun i j=>.int (g i j)):=by
 intro pins s σ H x y v u Q I rx ry h;obtain⟨i,j,rfl,rfl,q⟩:=h;obtain⟨t,rfl⟩:=rx;obtain⟨t',rfl⟩:=ry;exact rule i j t t' s _ _ ⟨.int (g i j),H,I.tok _,⟨_,rfl⟩,q⟩
def OY {f:Value->Value->Sem Value} {g:Int->Int->Bool}
  (rule:∀(i j:Int) (t u:Tok) (s:Shared) (Q:Value->Shared->Prop) (E:Value->Shared->Prop),Q (.bool (g i j)) s->wpAny (model X.prog X.w) X.A (f (.int i t) (.int j u)) Q E s) :
  pE X f (wC fun i j=>.bl (g i j)):=by
 intro pins s σ H x y v u Q I rx ry h;obtain⟨i,j,rfl,rfl,q⟩:=h;obtain⟨t,rfl⟩:=rx;obtain⟨t',rfl⟩:=ry;exact rule i j t t' s _ _ ⟨.bl (g i j),H,I,rfl,q⟩
def RB (i j:Int):Prop:=0<j/\j<1073741824
def LV (i j:Int):Prop:=(-(2^64)<i/\i<2^64)\/(-(2^64)<j/\j<2^64)
def LV.ok (h:LV i j):IntMulOk i j:=by
 rcases h with⟨h1,h2⟩ | ⟨h1,h2⟩
 ·exact .of_left (intBits_le_64 h1 h2)
 ·exact .of_right (intBits_le_64 h1 h2)
def Ib (k:Nat):(0:Int)<=2^k:=by
 rw[two_pow_cast];exact Int.natCast_nonneg _
def aY:pE X (binaryOp .Add) (wC fun i j=>.int (i+j)):=QX fun _ _ _ _ _ _ _ q=>add_int q
def gA:pE X (binaryOp .Sub) (wC fun i j=>.int (i-j)):=QX fun _ _ _ _ _ _ _ q=>sub_int q
def d6:pE X (binaryOp .Mult) (rI LV fun i j=>.int (i*j)):=RE fun _ _ _ _ _ _ _ hc q=>mul_int q hc.ok
def aU:pE X (binaryOp .FloorDiv) (rI RB fun i j=>.int (i/j)):=RE fun i j _ _ _ _ _ hc q=>by
 have h1:(0:Int)<j:=hc.1;have h2:j<1073741824:=hc.2;exact floordiv_int nofun (by rw[Int.fdiv_eq_ediv_of_nonneg i nofun];exact q) (.inl (PyProof.noPylong_small nofun))
def aP:pE X (binaryOp .Mod) (rI (fun _ j=>0<j) fun i j=>.int (i%j)):=RE fun i j _ _ _ _ _ hc q=>by
 have h1:(0:Int)<j:=hc;exact mod_int' nofun (by rw[Int.fmod_eq_emod_of_nonneg i nofun];exact q)
def QV:pE X (binaryOp .RShift) (rI (fun _ j=>0<=j) fun i j=>.int (i/2^j.toNat)):=RE fun i j _ _ _ _ _ hc q=>
 rshift_int hc (by rw[Int.fdiv_eq_ediv_of_nonneg i (Ib _)];exact q)
def QW:pE X (binaryOp .BitAnd) (wC fun i j=>.int (Builtin.bitAnd i j)):=QX fun _ _ _ _ _ _ _ q=>and_int q
def UN {f:Value->Sem Value} {g:Int->Int}
  (rule:∀(i:Int) (t:Tok) (s:Shared) (Q:Value->Shared->Prop) (E:Value->Shared->Prop),Q (.int (g i) s.toks) {s with toks:=s.toks+1}->wpAny (model X.prog X.w) X.A (f (.int i t)) Q E s) :
  Uu X f (rU fun i=>.int (g i)):=by
 intro pins s σ H x v Q I rx h;obtain⟨i,rfl,q⟩:=h;obtain⟨t,rfl⟩:=rx;exact rule i t s _ _ ⟨.int (g i),H,I.tok _,⟨_,rfl⟩,q⟩
def lH:Uu X (unaryOp .USub) (rU fun i=>.int (-i)):=UN fun _ _ _ _ _ q=>neg_int q
end
def OC:V->V->Bool
 | .bI,.bI=>true | .bI,.int _=>true | .int _,.bI=>true | .bI,.bl _=>true | .bl _,.bI=>true | .bI,.str _=>true | .str _,.bI=>true
 | .int _,.int _=>true | .bl _,.bl _=>true | .str _,.str _=>true | .Kj _,.Kj _=>true
 | .int _,.str _=>true | .str _,.int _=>true | .bl _,.str _=>true | .str _,.bl _=>true
 | _,_=>false
def S9:R2:=fun x y H Q=>OC x y=true/\Q (.bl (decide (x=y))) H
def T8:R2:=fun x y H Q=>OC x y=true/\Q (.bl (!decide (x=y))) H
def EH:decide (V.int i=V.int j)=(i == j):=by
 rw[Bool.eq_iff_iff];simp
def NR:decide (V.bl i=V.bl j)=(i == j):=by
 rw[Bool.eq_iff_iff];simp
def EF:decide (V.str i=V.str j)=(i == j):=by
 rw[Bool.eq_iff_iff];simp
def Kd:decide (V.Kj i=V.Kj j)=(i.toList == j.toList):=by
 rw[Bool.eq_iff_iff];cases i;cases j;simp
section
variable {X:Cx} {a b c:Expr} {ta tb tc:TE} {pos:Pos}
def cg (I:Inv X pins σ H s) (q:Q (.bl k) H) (e:k=k'):EP X pins σ Q (.bool k') s:=by
 subst e;exact⟨.bl k,H,I,rfl,q⟩
def dj:pE X (compareOp .Eq) S9:=by
 intro pins s σ H x y v u Q I rx ry h;obtain⟨hs,q⟩:=h;cases x with
 | bI=>
  cases rx;cases y with
  | bI=>cases ry;exact PySem.EqNone.eq_none_none (cg I q (by simp))
  | bl j=>cases ry;exact PySem.EqNone.eq_none_bool (cg I q (by simp))
  | int j=>obtain⟨t',rfl⟩:=ry;exact PySem.EqNone.eq_none_int (cg I q (by simp))
  | str j=>obtain⟨t',rfl⟩:=ry;exact PySem.EqNone.eq_none_str (cg I q (by simp))
  | _=>exact absurd (show false=true from hs) zK
 | bl i=>
  cases rx;cases y with
  | bI=>cases ry;exact PySem.EqNone.eq_bool_none (cg I q (by simp))
  | bl j=>cases ry;exact eq_bool (cg I q NR)
  | str j=>obtain⟨t',rfl⟩:=ry;exact PySem.EqMixed.eq_bool_str (cg I q (by simp))
  | _=>exact absurd (show false=true from hs) zK
 | int i=>
  obtain⟨t,rfl⟩:=rx;cases y with
  | bI=>cases ry;exact PySem.EqNone.eq_int_none (cg I q (by simp))
  | int j=>obtain⟨t',rfl⟩:=ry;exact eq_int (cg I q EH)
  | str j=>obtain⟨t',rfl⟩:=ry;exact PySem.EqMixed.eq_int_str (cg I q (by simp))
  | _=>exact absurd (show false=true from hs) zK
 | str i=>
  obtain⟨t,rfl⟩:=rx;cases y with
  | bI=>cases ry;exact PySem.EqNone.eq_str_none (cg I q (by simp))
  | bl j=>cases ry;exact PySem.EqMixed.eq_str_bool (cg I q (by simp))
  | int j=>obtain⟨t',rfl⟩:=ry;exact PySem.EqMixed.eq_str_int (cg I q (by simp))
  | str j=>obtain⟨t',rfl⟩:=ry;exact eq_str (cg I q EF)
  | _=>exact absurd (show false=true from hs) zK
 | Kj i=>
  obtain⟨t,rfl⟩:=rx;cases y with
  | Kj j=>obtain⟨t',rfl⟩:=ry;exact PySem.W.eq_bytes (cg I q Kd)
  | _=>exact absurd (show false=true from hs) zK
 | _=>cases y <;> exact absurd (show false=true from hs) zK
def lg:pE X (compareOp .NotEq) T8:=by
 intro pins s σ H x y v u Q I rx ry h;obtain⟨hs,q⟩:=h;cases x with
 | bI=>
  cases rx;cases y with
  | bI=>cases ry;exact PySem.EqNone.ne_none_none (cg I q (by simp))
  | bl j=>cases ry;exact PySem.EqNone.ne_none_bool (cg I q (by simp))
  | int j=>obtain⟨t',rfl⟩:=ry;exact PySem.EqNone.ne_none_int (cg I q (by simp))
  | str j=>obtain⟨t',rfl⟩:=ry;exact PySem.EqNone.ne_none_str (cg I q (by simp))
  | _=>exact absurd (show false=true from hs) zK
 | bl i=>
  cases rx;cases y with
  | bI=>cases ry;exact PySem.EqNone.ne_bool_none (cg I q (by simp))
  | bl j=>cases ry;exact ne_bool (cg I q (congrArg not NR))
  | str j=>obtain⟨t',rfl⟩:=ry;exact PySem.EqMixed.ne_bool_str (cg I q (by simp))
  | _=>exact absurd (show false=true from hs) zK
 | int i=>
  obtain⟨t,rfl⟩:=rx;cases y with
  | bI=>cases ry;exact PySem.EqNone.ne_int_none (cg I q (by simp))
  | int j=>obtain⟨t',rfl⟩:=ry;exact ne_int (cg I q (congrArg not EH))
  | str j=>obtain⟨t',rfl⟩:=ry;exact PySem.EqMixed.ne_int_str (cg I q (by simp))
  | _=>exact absurd (show false=true from hs) zK
 | str i=>
  obtain⟨t,rfl⟩:=rx;cases y with
  | bI=>cases ry;exact PySem.EqNone.ne_str_none (cg I q (by simp))
  | bl j=>cases ry;exact PySem.EqMixed.ne_str_bool (cg I q (by simp))
  | int j=>obtain⟨t',rfl⟩:=ry;exact PySem.EqMixed.ne_str_int (cg I q (by simp))
  | str j=>obtain⟨t',rfl⟩:=ry;exact ne_str (cg I q (congrArg not EF))
  | _=>exact absurd (show false=true from hs) zK
 | Kj i=>
  obtain⟨t,rfl⟩:=rx;cases y with
  | Kj j=>obtain⟨t',rfl⟩:=ry;exact PySem.W.ne_bytes (cg I q (congrArg not Kd))
  | _=>exact absurd (show false=true from hs) zK
 | _=>cases y <;> exact absurd (show false=true from hs) zK
def fo:pE X (compareOp .Lt) (wC fun i j=>.bl (decide (i<j))):=OY fun _ _ _ _ _ _ _ q=>lt_int q
def iI:pE X (compareOp .LtE) (wC fun i j=>.bl (decide (i<=j))):=OY fun _ _ _ _ _ _ _ q=>le_int q
def fq:pE X (compareOp .Gt) (wC fun i j=>.bl (decide (j<i))):=OY fun _ _ _ _ _ _ _ q=>gt_int q
def Aj:pE X (compareOp .GtE) (wC fun i j=>.bl (decide (j<=i))):=OY fun _ _ _ _ _ _ _ q=>ge_int q
def CT:pE X (compareOp .In) (fun x y H Q=>∃i j,x=.str i/\y=.str j/\Q (.bl (!(Builtin.Str.occurrences j i 0 j.length 1).isEmpty)) H):=by
 intro pins s σ H x y v u Q I rx ry h;obtain⟨i,j,rfl,rfl,q⟩:=h;obtain⟨t,rfl⟩:=rx;obtain⟨t',rfl⟩:=ry;exact in_str (cg I q rfl)
def iw (b:Expr) (h:op≠.In<|>qb_) (h2:op≠.NotIn<|>qb_):behindInMarks op b=false:=by
 have e1:(op == CmpOp.In)=false:=by cases op <;> first | rfl | exact absurd rfl h
 have e2:(op == CmpOp.NotIn)=false:=by cases op <;> first | rfl | exact absurd rfl h2
 cases b <;> simp[behindInMarks,e1,e2]
def dS (ho:pE X (compareOp op) r) (ha:PE X a ta) (hb:PE X b tb) (hm:behindInMarks op b=false):PE X (.Compare a [op] [b] pos) (fu r ta tb):=by
 intro pins s σ H Q I h;exact wpAny_Compare1 (Rt ha hb I h fun v u s2 x y H2 I2 rx ry q=>ho pins s2 σ H2 x y v u Q I2 rx ry q) hm
def nO (t:TE):TT:=fun σ H Q=>t σ H fun x H'=>∃k,x=.bl k/\Q k H'
def iR (ho:pE X (compareOp op) r) (ha:PE X a ta) (hb:PE X b tb) (hm:behindInMarks op b=false):PT X (.Compare a [op] [b] pos) (nO (fu r ta tb)):=by
 intro pins s σ H Q I h;refine wpAny_isTrue_Compare1 (cU (ha pins s σ H _ I h) fun v s1 ⟨x,H1,I1,r1,q1⟩=>cU (hb pins s1 σ H1 _ I1 q1) fun u s2 ⟨y,H2,I2,r2,q2⟩=>
  cU (ho pins s2 σ H2 x y v u _ I2 r1 r2 q2) fun c s3 ⟨z,H3,I3,r3,k,e,q3⟩=>?_) hm
 subst e;cases r3;exact wpAny_truthy_bool ⟨H3,I3,q3⟩
def xU (r r':R2) (ta tb tc:TE):TE:=fun σ H Q=>ta σ H fun x H1=>tb σ H1 fun y H2=>r x y H2 fun z H3=>∃k,z=.bl k/\
 (if k=true then tc σ H3 fun w' H4=>r' y w' H4 Q else Q (.bl false) H3)
def Gm (ho:pE X (compareOp op) r) (ho':pE X (compareOp op') r') (ha:PE X a ta) (hb:PE X b tb) (hc:PE X c tc)
  (hm:lastMarks [op,op'] [b,c]=false<|>qf_):PE X (.Compare a [op,op'] [b,c] pos) (xU r r' ta tb tc):=by
 intro pins s σ H Q I h;refine Compare_chain (cU (ha pins s σ H _ I h) fun v s1 ⟨x,H1,I1,r1,q1⟩=>chain_link (cU (hb pins s1 σ H1 _ I1 q1) fun u s2 ⟨y,H2,I2,r2,q2⟩=>
  cU (ho pins s2 σ H2 x y v u _ I2 r1 r2 q2) fun d s3 ⟨z,H3,I3,r3,k,e,q3⟩=>?_)) hm
 subst e;cases r3;refine wpAny_truthy_bool ?_;cases k with
 | false=>exact ite_ff ⟨.bl false,H3,I3,rfl,q3⟩
 | true=>exact ite_tt (chain_last (cU (hc pins s3 σ H3 _ I3 q3) fun w' s4 ⟨z',H4,I4,r4,q4⟩=>ho' pins s4 σ H4 y z' u w' Q I4 r2 r4 q4))
def MV (ho:pE X (compareOp op) r) (ho':pE X (compareOp op') r') (ha:PE X a ta) (hb:PE X b tb) (hc:PE X c tc)
  (hm:lastMarks [op,op'] [b,c]=false<|>qf_):PT X (.Compare a [op,op'] [b,c] pos) (nO (xU r r' ta tb tc)):=by
 intro pins s σ H Q I h;refine isTrue_chain (cU (ha pins s σ H _ I h) fun v s1 ⟨x,H1,I1,r1,q1⟩=>test_link (cU (hb pins s1 σ H1 _ I1 q1) fun u s2 ⟨y,H2,I2,r2,q2⟩=>
  cU (ho pins s2 σ H2 x y v u _ I2 r1 r2 q2) fun d s3 ⟨z,H3,I3,r3,k,e,q3⟩=>?_)) hm
 subst e;cases r3;refine wpAny_truthy_bool ?_;cases k with
 | false=>
  obtain⟨k',e',q'⟩:=q3;cases e';exact ite_ff ⟨H3,I3,q'⟩
 | true=>
  refine ite_tt (test_last (cU (hc pins s3 σ H3 _ I3 q3) fun w' s4 ⟨z',H4,I4,r4,q4⟩=>cU (ho' pins s4 σ H4 y z' u w' _ I4 r2 r4 q4) fun d' s5 zz=>?_));obtain⟨z2,H5,I5,r5,k2,e2,q5⟩:=zz;subst e2;cases r5;exact wpAny_truthy_bool ⟨H5,I5,q5⟩
def Aw:(sizeLine:Nat)<2^63:=by rw[yB];decide
def bX:pE X (binaryOp .Add) (fun x y H Q=>∃i j,x=.str i/\y=.str j/\i.length+j.length<=sizeLine/\Q (.str (i++j)) H):=by
 intro pins s σ H x y v u Q I rx ry h;obtain⟨i,j,rfl,rfl,hz,q⟩:=h;obtain⟨t,rfl⟩:=rx;obtain⟨t',rfl⟩:=ry;exact add_str (fun t' tk=>⟨.str (i++j),H,I.tok _,⟨_,rfl⟩,q⟩) hz
def vals1 (r:Vals [x] us):∃u,us=[u]/\RelV x u:=by
 cases r with
 | cons r1 r2=>cases r2;exact⟨_,rfl,r1⟩
def vals2 (r:Vals [x,y] us):∃u w',us=[u,w']/\RelV x u/\RelV y w':=by
 cases r with
 | cons r1 r2=>
  cases r2 with
  | cons r3 r4=>cases r4;exact⟨_,_,rfl,r1,r3⟩
def Hy:fT X (.builtin "abs") (fun xs H Q=>∃i,xs=[.int i]/\Q (.int (if i<0 then -i else i)) H):=by
 intro pins s σ H xs us Q I r h;obtain⟨i,rfl,q⟩:=h;obtain⟨u,rfl,t,rfl⟩:=vals1 r;exact call_abs_int fun u tk=>⟨.int (if i<0 then -i else i),H,I.tok _,⟨_,rfl⟩,q⟩
def Lz (hc:X.calm=true):fT X (.builtin "min") (fun xs H Q=>∃i j,xs=[.int i,.int j]/\Q (.int (if j<i then j else i)) H):=by
 intro pins s σ H xs us Q I r h;obtain⟨i,j,rfl,q⟩:=h;obtain⟨u,w',rfl,⟨t,rfl⟩,⟨t',rfl⟩⟩:=vals2 r;refine min_two_ints (I.ok.hd hc) fun h' tk k=>⟨_,H,I.kept k,?_,q⟩
 by_cases hj:j<i
 ·rw[if_pos hj,if_pos hj];exact⟨_,rfl⟩
 ·rw[if_neg hj,if_neg hj];exact⟨_,rfl⟩
def aW:fT X (.type "str") (fun xs H Q=>∃i,xs=[.int i]/\i.natAbs.log2<1920/\Q (.str (toString i)) H):=by
 intro pins s σ H xs us Q I r h;obtain⟨i,rfl,hz,q⟩:=h;obtain⟨u,rfl,t,rfl⟩:=vals1 r;exact PySem.P.str_of_int hz ⟨.str _,H,I.tok _,⟨_,rfl⟩,q⟩
end
end L2
namespace L2
open PySem PySem.Spec PyProof.Rows
structure LP (h:Heap) (x dx C:Addr) (mA:Str->Option Value):Prop where
 obj:h.get? x=some (PySem.W.instObj C dx)
 ns:h.Ns1 dx mA
 ne:dx≠x
def K7 {h:Heap} {dx:Addr} {mA:Str->Option Value} (n:h.Ns1 dx mA):∃od,h.get? dx=some od/\∀name,PySem.W.lookIn name od=some (mA name):=by
 obtain⟨o,es,ep,ho,hd,hk,_,hm⟩:=n;refine⟨o,ho,fun name=>?_⟩;have e:=hm name;unfold nsFind findBy at e;rw[<-Array.find?_toList] at e;unfold PySem.W.lookIn;rw[hd];dsimp only;split
 ·rename_i y q
  rw[q] at e;exact congrArg some e
 ·rename_i q
  rw[q] at e;have a:es.toList.any (·.refKey)=false:=by
   rw[List.any_eq_false];intro y hy;obtain⟨z,t,hkey⟩:=hk y (Array.mem_toList_iff.mp hy);simp[DictEntry.refKey,hkey]
  have a':¬es.toList.any (·.refKey)=true:=by rw[a];exact zK
  rw[if_neg a'];exact congrArg some e
def LP.look (I:LP h x dx C mA):∃od,PySem.W.InstAt h x (PySem.W.instObj C dx) C (some od)/\∀name,PySem.W.lookIn name od=some (mA name):=
 let ⟨od,ho,hl⟩:=K7 I.ns
 ⟨od,⟨I.obj,rfl,rfl,ho⟩,hl⟩
section
variable {prog:Program} {w:World} {A:Around} {E:Value->Shared->Prop} {s:Shared} {K:yA} {x dx C f:Addr} {mA:Str->Option Value} {name:Str} {v:Value}
def get_map (X:K.In s.heap) (I:LP s.heap x dx C mA) (hg:PySem.W.plainGet K C name=true) (hh:PySem.W.hasDictIn K C=true)
  (ha:PySem.W.findIn K (.ref C) name=some none) (hv:mA name=some v) (hv':PySem.W.handedIn v=true) (h:Q v {s with toks:=s.toks+1}) :
  wpAny (model prog w) A (getAttr (.ref x) name expr) Q E s:=by
 obtain⟨od,J,hl⟩:=I.look;exact PySem.W.get_value X J (PySem.W.plainGet_of hg).1 (PySem.W.findObj_own hh ha rfl (by rw[hl,hv])) hv' h
def OB (X:K.In s.heap) (I:LP s.heap x dx C mA)
  (hs:PySem.W.findIn K (.ref C) "__setattr__"= some (some (.builtin "object.__setattr__"))) (hp:PySem.W.plainOver K C=true) (ht:PySem.W.takerIn K C name=some none) (hh:PySem.W.hasDictIn K C=true)
  (hw:PySem.Within mA ns) (hsz:ns.length<=sizeLine)
  (h:∀h',LP h' x dx C (fun y=>if y=name then some v else mA y)->Heap.SameBut dx s.heap h'->Q () {s with heap:=h',toks:=s.toks+2}) :
  wpAny (model prog w) A (setAttr (.ref x) name v) Q E s:=by
 obtain⟨od,J,hl⟩:=I.look;refine PySem.W.set_plain X J hs (PySem.W.osa_open (s:={s with toks:=s.toks+1}) (r:=none) X J hp ht fun b=>?_);obtain⟨cd,hc,hd'⟩:=PySem.W.any_some hh;have hx:s.heap.get? x=some ⟨.ref C,some dx,.plain,#[]⟩:=I.obj;refine yt (yv (yt (yt (wpAny_loadPart hx (yt (PySem.W.Looks.here (s:={s with toks:=s.toks+1}) (PySem.W.looks_clsIn X hc) ?_))))));rw[hd'];refine yv (a:=some dx) (yt (yv (yt ?_)));refine wpAny_nsSet1 (s:={s with toks:=s.toks+1}) I.ns fun h' hn2 hs2=>?_;obtain⟨oD,esD,epD,hoD,hdD,hcD⟩:=hn2.count (PySem.Within.cons name v hw);refine yt (wpAny_lookBehind hoD (by rw[hdD];exact pastItsLine_dict (zL hcD (by rw[zt];omega))) ?_);exact yv (h _ ⟨(hs2.2 _ (Ne.symm I.ne)).trans I.obj,hn2,I.ne⟩ hs2)
def Nj (X:K.In s.heap) (hm:PySem.W.makesIn K C=true)
  (hi:PySem.W.findIn K (.ref C) "__init__"= some (some (.ref f))) (hf:PySem.W.typeIn K (.ref f)=some (.type "function"))
  (h:codeAny (model prog w) (A.under (.builtin "type.__call__" ⟨.ref C::vs,kw⟩)) (.call (.ref f) ⟨.ref (↑s+1)::vs,kw⟩) (PySem.W.InitBack (↑s+1) R)
   {s with heap:=(s.heap.push PySem.W.emptyDict).push (PySem.W.instObj C ↑s)}) :
  codeAny (model prog w) A (.call (.ref C) ⟨vs,kw⟩) R s:=by
 obtain⟨hh,g,d,t,os⟩:=s;exact PySem.W.make_core (PySem.W.makes_of X hm) (PySem.W.looks_findIn X hi) (fun self=>PySem.W.bind_fn X self hf) (.inl rfl) h
end
def aX (f:Str) (v:V):List (Str×V)->List (Str×V)
 | []=>[(f,v)]
 | (g,x)::r=>if g=f then(g,v)::r else(g,x)::aX f v r
theorem vQ (f g:Str) (v:V):∀fs:List (Str×V),(aX f v fs).lookup g=if g=f then some v else fs.lookup g
 | []=>by
  show List.lookup g [(f,v)]=_
  by_cases h:g=f
  ·have hb:(g == f)=true:=beq_iff_eq.mpr h
   simp only[List.lookup,hb,if_pos h]
  ·have hb:(g == f)=false:=beq_eq_false_iff_ne.mpr h
   simp only[List.lookup,hb,if_neg h]
 | (k,x)::r=>by
  have ih:=vQ f g v r;rw[show aX f v ((k,x)::r)=(if k=f then(k,v)::r else(k,x)::aX f v r) from rfl]
  by_cases hk:k=f
  ·rw[if_pos hk]
   by_cases h:g=k
   ·have hb:(g == k)=true:=beq_iff_eq.mpr h
    simp only[List.lookup,hb,if_pos (h.trans hk)]
   ·have hb:(g == k)=false:=beq_eq_false_iff_ne.mpr h
    simp only[List.lookup,hb,if_neg (fun e:g=f=>h (e.trans hk.symm))]
  ·rw[if_neg hk]
   by_cases h:g=k
   ·have hb:(g == k)=true:=beq_iff_eq.mpr h
    simp only[List.lookup,hb,if_neg (fun e:g=f=>hk (h.symm.trans e))]
   ·have hb:(g == k)=false:=beq_eq_false_iff_ne.mpr h
    simp only[List.lookup,hb];exact ih
theorem uP (f:Str) (v:V):∀fs:List (Str×V),f∈(aX f v fs).map (·.1)/\∀g,g∈fs.map (·.1)->g∈(aX f v fs).map (·.1)
 | []=>⟨by simp[aX],fun g h=>by simp at h⟩
 | (k,x)::r=>by
  obtain⟨i1,i2⟩:=uP f v r;rw[show aX f v ((k,x)::r)=(if k=f then(k,v)::r else(k,x)::aX f v r) from rfl]
  by_cases hk:k=f
  ·rw[if_pos hk]
   subst hk;exact⟨by simp,fun g h=>by simpa using h⟩
  ·rw[if_neg hk]
   refine⟨?_,fun g h=>?_⟩
   ·rw[zh]
    exact zm _ i1
   ·rw[zh] at h ⊢
    rcases zC.mp h with e | e
    ·exact zC.mpr (.inl e)
    ·exact zm _ (i2 g e)
theorem vR (f:Str) (v:V):∀fs:List (Str×V),(aX f v fs).length<=fs.length+1
 | []=>by simp[aX]
 | (k,x)::r=>by
  have ih:=vR f v r;rw[show aX f v ((k,x)::r)=(if k=f then(k,v)::r else(k,x)::aX f v r) from rfl]
  by_cases hk:k=f
  ·rw[if_pos hk,zt,zt];omega
  ·rw[if_neg hk,zt,zt];omega
def mE.some_of (r:mE (some v) o):∃u,o=some u/\RelV v u:=by
 cases o with
 | none=>exact(show False from r).elim
 | some u=>exact⟨u,rfl,r⟩
def Lg (r:RelV v u):PySem.W.handedIn u=true:=by
 cases v with
 | bI=>cases(show u=Value.none from r);rfl
 | bl b=>cases(show u=Value.bool b from r);rfl
 | int i=>obtain⟨t,e⟩:=(show∃t,u=Value.int i t from r);cases e;rfl
 | str x=>obtain⟨t,e⟩:=(show∃t,u=Value.str x t from r);cases e;rfl
 | Kj b=>obtain⟨t,e⟩:=(show∃t,u=Value.bytes b t from r);cases e;rfl
 | Pa b=>obtain⟨t,e⟩:=(show∃t,u=Value.float b t from r);cases e;rfl
 | ref a=>cases(show u=Value.ref a from r);rfl
 | ty n=>cases(show u=Value.type n from r);rfl
section
variable {P:Program} {w:World} {H H':Hp} {h h':Heap} {a C dx:Addr} {fs fs':List (Str×V)}
def Ey (cb:rJ P w H h) (e:H a=some (.ins C dx fs)):∃mA,LP h a dx C mA/\(∀f,mE (fs.lookup f) (mA f))/\PySem.Within mA (fs.map (·.1))/\fs.length<=1000/\H dx=some (.own a):=by
 obtain⟨d,z,ne,ob,mA,n,r,q⟩:=(show cC P w H h a (.ins C dx fs) from cb a _ e)
 exact⟨mA,⟨ob,n,ne⟩,r,q,z,d⟩
end
structure PD (K:yA) (C:Addr):Prop where
 pg:PySem.W.plainGet K C Str.empty=true
 hd:PySem.W.hasDictIn K C=true
 po:PySem.W.plainOver K C=true
 sa:PySem.W.findIn K (.ref C) "__setattr__"= some (some (.builtin "object.__setattr__"))
def PD.get {K:yA} {C:Addr} (c:PD K C) (f:Str):PySem.W.plainGet K C f=true:=c.pg
def fc (K:yA) (C:Addr) (f:Str):Prop:=PySem.W.findIn K (.ref C) f=some none
def fc.RS {K:yA} {C:Addr} {f:Str} (n:fc K C f):PySem.W.takerIn K C f=some none:=by
 unfold PySem.W.takerIn;rw[show PySem.W.findIn K (.ref C) f=some none from n];rfl
section
variable {X:Cx} {pins:List (Addr×Obj)} {σ:St} {H:Hp} {s:Shared} {a C dx:Addr} {fs:List (Str×V)} {f:Str} {v:V} {A:Around} {E:Value->Shared->Prop}
def IX (I:Inv X pins σ H s) (e:H a=some (.ins C dx fs)) (c:PD X.K C) (n:fc X.K C f) (l:fs.lookup f=some v)
  (h:∀u s',Inv X pins σ H s'->RelV v u->Q u s'):wpAny (model X.prog X.w) A (getAttr (.ref a) f b) Q E s:=by
 obtain⟨mA,O,r,_,_,_⟩:=Ey I.cb e;obtain⟨u,hu,ru⟩:=mE.some_of (v:=v) (o:=mA f) (by rw[<-l];exact r f);exact get_map I.tE O (c.get f) c.hd n hu (Lg ru) (h u _ (I.tok _) ru)
def Iq (I:Inv X pins σ H s) (e:H a=some (.ins C dx fs)) (c:PD X.K C) (n:fc X.K C f) (hl:fs.length<1000) (ry:RelV y u)
  (h:∀s',Inv X pins σ (upd H a (.ins C dx (aX f y fs))) s'->Q () s'):wpAny (model X.prog X.w) A (setAttr (.ref a) f u) Q E s:=by
 obtain⟨mA,O,r,wi,_,ho⟩:=Ey I.cb e;have hz:(fs.map (·.1)).length<=sizeLine:=by rw[za,yB];omega
 refine OB I.tE O c.sa c.po n.RS c.hd wi hz fun h' O' sb=>h _ ?_;have hd:∃o,h'.get? dx=some o:=let ⟨o,_,_,e',_⟩:=O'.ns;⟨o,e'⟩;refine I.write (x:=a) (e:=dx) (by rw[e];exact True.intro) (.inr ho) (fun b q hb z=>(sb.2 b hb).trans z) hd ?_;refine⟨by rw[aE O.ne];exact ho,?_,O.ne,O'.obj,_,O'.ns,fun g=>?_,fun g hg=>?_⟩
 ·have:=vR f y fs;omega
 ·show mE ((aX f y fs).lookup g) (if g=f then some u else mA g)
  rw[vQ]
  by_cases q:g=f
  ·rw[if_pos q,if_pos q];exact ry
  ·rw[if_neg q,if_neg q];exact r g
 ·by_cases q:g=f
  ·rw[q];exact(uP f y fs).1
  ·refine(uP f y fs).2 g (wi g fun z=>hg ?_)
   show(if g=f then some u else mA g)=none;rw[if_neg q];exact z
def Inv.made (I:Inv X pins σ H s):Inv X pins σ (upd (upd H ↑s (.own (↑s+1))) (↑s+1) (.ins C ↑s []))
  {s with heap:=(s.heap.push PySem.W.emptyDict).push (PySem.W.instObj C ↑s)}:=by
 have e1:(s.heap.push PySem.W.emptyDict).get? ↑s=some PySem.W.emptyDict:=yw s.heap rfl;have e2:((s.heap.push PySem.W.emptyDict).push (PySem.W.instObj C ↑s)).get? (↑s+1)=some (PySem.W.instObj C ↑s):=by
  have:=yw (s.heap.push PySem.W.emptyDict) (o:=PySem.W.instObj C ↑s) rfl
  rwa [Heap.size_push] at this
 have e3:(s.heap.push PySem.W.emptyDict).Ns ↑s (fun _=>none):=⟨PySem.W.emptyDict,#[],_,e1,rfl,(fun e he=>absurd he (by simp)),fun _=>rfl⟩
 have I1:=I.laid (a:=↑s) (o:=.own (↑s+1)) (h':=s.heap.push PySem.W.emptyDict) (t':=s.toks) (fun b u q=>yu _ q) (zk _) ⟨_,e1⟩;refine I1.laid (a:=↑s+1) (o:=.ins C ↑s []) (t':=s.toks) (fun b u q=>yu _ q) (Nat.le_of_eq (Heap.size_push _ _)) ?_;have ne:↑s≠↑s+1:=yi (Nat.lt_succ_self _);refine⟨by rw[aE ne,ay],yf _,ne,e2,fun _=>none,(Heap.Ns1.of_empty e3).at fun o q=>yu _ q,fun _=>True.intro,fun y hy=>absurd rfl hy⟩
def Pp (hb:attributeBase e f env (eval e env)=eval e env)
  (h:wpAny (model prog w) A (eval e env) (fun o s₁=>wpAny (model prog w) A (getAttr o f true) Q E s₁) E s):wpAny (model prog w) A (eval (.Attribute e f pos) env) Q E s:=
 Attribute_any_ h (by rw[arm_eval_Attribute,hb])
end
def Ot (K:yA) (ta:TE) (f:Str):TE:=fun σ H Q=>ta σ H fun x H1=>∃a C dx fs v,x=.ref a/\H1 a=some (.ins C dx fs)/\PD K C/\fc K C f/\fs.lookup f=some v/\Q v H1
def T6 (K:yA) (ta tv:TE) (f:Str):TS:=fun D σ H=>tv σ H fun y H1=>ta σ H1 fun x H2=>∃a C dx fs,x=.ref a/\H2 a=some (.ins C dx fs)/\PD K C/\fc K C f/\fs.length<1000/\
 D.nx σ (upd H2 a (.ins C dx (aX f y fs)))
section
variable {X:Cx} {o e value:Expr} {f:Str} {pos pos' tpos:Pos} {ta tv:TE}
def bF (he:PE X e ta) (hb:attributeBase e f X.env (eval e X.env)=eval e X.env):PE X (.Attribute e f pos) (Ot X.K ta f):=by
 intro pins s σ H Q I h;refine Pp hb (cU (he pins s σ H _ I h) fun u s1 zz=>?_);obtain⟨x,H1,I1,rx,a,C,dx,fs,v,ex,ea,c,n,l,q⟩:=zz;subst ex;obtain rfl:u=Value.ref a:=rx;exact IX I1 ea c n l fun u' s2 I2 ru=>⟨v,H1,I2,ru,q⟩
def jB (ha:PE X o ta) (hv:PE X value tv) (hs:swapsWith value (some (.Attribute o f pos')) pos.line X.env=pure false):PS X (.Assign [.Attribute o f pos'] value pos) (T6 X.K ta tv f):=by
 intro pins s σ H D I h;refine plainObj_wpAny_Assign_Attribute (cU (hv pins s σ H _ I h) fun u s1 ⟨y,H1,I1,ry,q⟩=>cU (ha pins s1 σ H1 _ I1 q) fun ov s2 ⟨x,H2,I2,rx,a,C,dx,fs,ex,ea,c,n,l,q2⟩=>?_) hs;subst ex;obtain rfl:ov=Value.ref a:=rx;exact Iq I2 ea c n l ry fun s3 I3=>⟨σ,_,I3,q2⟩
end
section
variable {X:Cx} {pins:List (Addr×Obj)} {σ:St} {H:Hp} {s:Shared} {A:Around} {E:Value->Shared->Prop} {Q:Value->Shared->Prop} {c:Value} {b:Bool}
inductive vj (K:yA) (H:Hp):V->Value->Prop where
 | bI:vj K H .bI (.type "NoneType")
 | bl (x:Bool):vj K H (.bl x) (.type "bool")
 | int (i:Int):vj K H (.int i) (.type "int")
 | str (x:Str):vj K H (.str x) (.type "str")
 | Pa (x:UInt64):vj K H (.Pa x) (.type "float")
 | lst {a:Addr} {xs:List V} (e:H a=some (.lst xs)):vj K H (.ref a) (.type "list")
 | nK {a:Addr} {o:Obj} {xs:List V} (e:H a=some (.nK o (.lst xs))):vj K H (.ref a) (.type "list")
 | tup {a:Addr} {xs:List V} (e:H a=some (.tup xs)):vj K H (.ref a) (.type "tuple")
 | dK {a:Addr} {kvs:List (Key×V)} (e:H a=some (.dK kvs)):vj K H (.ref a) (.type "dict")
 | dT {a:Addr} {kvs:List (List Key×V)} (e:H a=some (.dT kvs)):vj K H (.ref a) (.type "dict")
 | ins {a C dx:Addr} {fs:List (Str×V)} (e:H a=some (.ins C dx fs)) (cl:PD K C) (ha:PySem.W.findIn K (.ref C) "__class__"= some (some (.builtin "object.__class__")))
   (hn:PySem.W.specialIn K (.builtin "object.__class__") "__get__"= some (some (.builtin "getset_descriptor.__get__"))) (htk:PySem.W.takesIn K (.builtin "object.__class__")=some true)
   (hm:PySem.W.mroIn K C (.type "object")=some true):vj K H (.ref a) (.ref C)
def Lc (I:Inv X pins σ H s) (rx:RelV x u) (ty:vj X.K H x t) (e:PySem.W.kitOne X.K t c=some b) (h:∀tk,Q (.bool b) {s with toks:=tk}) :
  wpAny (model X.prog X.w) A (call (.builtin "isinstance") [u,c]) Q E s:=by
 cases ty with
 | bI=>cases(show u=Value.none from rx);exact PySem.W.kia_one PySem.W.kitx_none I.tE True.intro e (fun z=>nomatch z) h
 | bl y=>cases(show u=Value.bool y from rx);exact PySem.W.kia_one PySem.W.kitx_bool I.tE True.intro e (fun z=>nomatch z) h
 | int i=>obtain⟨t,q⟩:=(show∃t,u=Value.int i t from rx);cases q;exact PySem.W.kia_one PySem.W.kitx_int I.tE True.intro e (fun z=>nomatch z) h
 | str y=>obtain⟨t,q⟩:=(show∃t,u=Value.str y t from rx);cases q;exact PySem.W.kia_one PySem.W.kitx_str I.tE True.intro e (fun z=>nomatch z) h
 | Pa y=>obtain⟨t,q⟩:=(show∃t,u=Value.float y t from rx);cases q;exact PySem.W.kia_one PySem.W.kitx_float I.tE True.intro e (fun z=>nomatch z) h
 | @lst a xs ea=>
  cases(show u=Value.ref a from rx);obtain⟨_,_,n,_,h1⟩:=(show cC X.prog X.w H s.heap a (.lst xs) from I.cb a _ ea)
  exact PySem.W.kia_one PySem.W.kitx_list I.tE ⟨_,h1,rfl⟩ e (fun z=>nomatch z) h
 | @nK a ob xs ea=>
  cases(show u=Value.ref a from rx);obtain⟨_,_,_,n,_,h1⟩:=(show cC X.prog X.w H s.heap a (.nK ob (.lst xs)) from I.cb a _ ea)
  exact PySem.W.kia_one PySem.W.kitx_list I.tE ⟨_,h1,rfl⟩ e (fun z=>nomatch z) h
 | @tup a xs ea=>
  cases(show u=Value.ref a from rx);obtain⟨_,_,_,p⟩:=(show cC X.prog X.w H s.heap a (.tup xs) from I.cb a _ ea)
  obtain⟨o,h1,h2,_⟩:=p;exact PySem.W.kia_one PySem.W.kitx_tuple I.tE ⟨o,h1,h2⟩ e (fun z=>nomatch z) h
 | @dK a kvs ea=>
  cases(show u=Value.ref a from rx);obtain⟨_,_,vs,_,p⟩:=(show cC X.prog X.w H s.heap a (.dK kvs) from I.cb a _ ea)
  obtain⟨o,es,ep,h1,h2,_⟩:=p;exact PySem.W.kia_one PySem.W.kitx_dict I.tE ⟨o,h1,h2.1⟩ e (fun z=>nomatch z) h
 | @dT a kvs ea=>
  cases(show u=Value.ref a from rx);obtain⟨_,_,xs,_,o,es,ep,h1,h2,_⟩:=(show cC X.prog X.w H s.heap a (.dT kvs) from I.cb a _ ea)
  exact PySem.W.kia_one PySem.W.kitx_dict I.tE ⟨o,h1,h2.1⟩ e (fun z=>nomatch z) h
 | @ins a C dx fs ea cl ha hn htk hm=>
  cases(show u=Value.ref a from rx);obtain⟨mA,O,_⟩:=Ey I.cb ea;obtain⟨od,J,_⟩:=O.look;exact PySem.W.kia_one (PySem.W.kitx_own (cl.get _) cl.hd ha hn htk hm) I.tE J e (fun z=>nomatch z) h
end
end L2
namespace L2
open PySem PySem.Spec PyProof.Rows
structure fV (k:Nat) (A:Around):Prop where
 hd:A.handled=none
 dp:A.depth+3*k+5<recursionLimit
 un:A.units+16*k+200<cLine
def fV.mono (r:fV k A) (h:j<=k):fV j A:=⟨r.hd,by have:=r.dp;omega,by have:=r.un;omega⟩
theorem fV.deeper (r:fV (k+1) A) (env:Env):fV k (A.deeper env):=
 ⟨r.hd,by have:=r.dp;show A.depth+1+3*k+5<_;omega,by have:=r.un;show A.units+3+16*k+200<_;omega⟩
def IS {A:Around} {C:Addr} {us:List Value} {kw:List (Str×Value)}:(A.under (.builtin "type.__call__" ⟨.ref C::us,kw⟩)).depth=A.depth+1:=by
 first | rfl | simp[Around.under,Code.weight,Code.isCreation,Code.isGuard,Code.isCaller,Code.frames,Code.isFrame,guardIds]
def IQ {A:Around} {C:Addr} {us:List Value} {kw:List (Str×Value)}:(A.under (.builtin "type.__call__" ⟨.ref C::us,kw⟩)).units=A.units+1:=by
 first | rfl | simp[Around.under,Code.cUnits,Code.frames,Code.isFrame]
def fV.make (r:fV (k+1) A) (C:Addr) (us:List Value) (kw:List (Str×Value)):fV k (A.under (.builtin "type.__call__" ⟨.ref C::us,kw⟩)):=
 ⟨r.hd,by have:=r.dp;rw[IS];omega,by have:=r.un;rw[IQ];omega⟩
theorem fV.depth (r:fV k A):A.depth<recursionLimit:=by have:=r.dp;omega
theorem fV.units (r:fV k A):A.units+64<cLine:=by have:=r.un;omega
def dZ:TA:=fun _ H Q=>Q [] H
def bC (ta:TE) (tr:TA):TA:=fun σ H Q=>ta σ H fun x H1=>tr σ H1 fun xs H2=>Q (x::xs) H2
section
variable {X:Cx} {e:Expr} {es:List Expr} {te:TE} {t:TA} {pos:Pos}
def af:PA X [] dZ:=fun _ _ _ _ H Q I h=>Calls.spliced_nil ⟨[],H,I,.nil,h⟩
def ah (ha:PE X e te) (hr:PA X es t) (hs:starEach (e::es) X.env=(false,eval e X.env)::starEach es X.env<|>qe_):PA X (e::es) (bC te t):=by
 intro pos pins s σ H Q I h;rw[hs];show wpAny _ _ (spliced ((false,eval e X.env)::backTo pos (starEach es X.env))) _ _ s;refine Calls.spliced_cons (cU (ha pins s σ H _ I h) fun u s1 zz=>?_);obtain⟨x,H1,I1,r1,q1⟩:=zz;exact cU (hr pos pins s1 σ H1 _ I1 q1) fun us s2 ⟨xs,H2,I2,r2,q2⟩=>⟨x::xs,H2,I2,.cons r1 r2,q2⟩
def DD (t:TA):TE:=fun σ H Q=>t σ H fun xs H1=>xs.length<=sizeLine/\∀p,H1 p=none->Q (.ref p) (upd H1 p (.tup xs))
def FN (t:TA):TE:=fun σ H Q=>t σ H fun xs H1=>xs.length<=sizeLine/\∀p,H1 p=none->Q (.ref p) (upd H1 p (.lst xs))
def bj {x1} (h:PA X es t):PE X (.Tuple es x1 pos) (DD t):=by
 intro pins s σ H Q I hq;refine wpAny_Tuple_spliced (cU (h pos pins s σ H _ I hq) fun us s1 ⟨xs,H1,I1,r,z,q⟩=>⟨by rw[<-r.length];exact z,?_⟩);have hf:H1 ↑s1=none:=I1.cb.fresh (zk _);refine⟨.ref ↑s1,upd H1 ↑s1 (.tup xs),I1.laid (t':=s1.toks) (fun b u e=>yu _ e) (zk _) ?_,rfl,q _ hf⟩;exact⟨z,us,r,⟨_,yw _ rfl,rfl,_,rfl⟩⟩
def bq (h:PA X es t):PE X (.List es pos) (FN t):=by
 intro pins s σ H Q I hq;refine wpAny_List_spliced (cU (h pos pins s σ H _ I hq) fun us s1 ⟨xs,H1,I1,r,z,q⟩=>⟨by rw[<-r.length];exact z,?_⟩);have hf:H1 ↑s1=none:=I1.cb.fresh (zk _);refine⟨.ref ↑s1,upd H1 ↑s1 (.lst xs),I1.laid (t':=s1.toks) (fun b u e=>yu _ e) (zk _) ?_,rfl,q _ hf⟩;exact⟨z,us,0,r,yw _ rfl⟩
end
abbrev Sp:=List V->Hp->VK->XK->Prop
abbrev JI:=List Env->Hp->Shared->XK->Value->Shared->Prop
structure HR (P:Program) (w:World) (K:yA) (mg:Str->Option Value) (base:Heap) (A:Around) (outer:List Env) (s:Shared) (H:Hp):Prop where
 frames:A.frames=some outer
 mod:Mod K mg base
 bs:∀b o,base.get? b=some o->s.heap.get? b=some o/\H b=none
 LY:base.objs.size<=↑s
 pN:s.heap.FunFrames base outer
 GR:∀b∈qy outer,H b=none
 cb:rJ P w H s.heap
 bare:AllBare s.gens
def CE (outer:List Env) (P:Program) (w:World) (H:Hp) (s:Shared) (Q:VK) (u:Value) (s':Shared):Prop:=
 ∃v H',s'.os=s.os/\AllBare s'.gens/\Un (qy outer) [] H H' s.heap s'.heap/\rJ P w H' s'.heap/\RelV v u/\Q v H'
def CR (CX:JI) (outer:List Env) (P:Program) (w:World) (H:Hp) (s:Shared) (Q:VK) (E:XK) (r:Result) (s':Shared):Prop:=
 match r with
 | .ok (.ret u)=>CE outer P w H s Q u s'
 | .ok _=>False
 | .error e=>CX outer H s E e s'
structure dP (P:Program) (w:World) (K:yA) (mg:Str->Option Value) (base:Heap) (CX:JI) (k:Nat) (f:Addr) (fd:FuncData) (ps:List Str) (sp:Sp):Prop where
 len:∀vs H Q E,sp vs H Q E->vs.length=ps.length
 run:∀(A:Around) (outer:List Env) (s:Shared) (H:Hp) (args:Args) (us:List Value) (vs:List V) (Q:VK) (E:XK),fV k A->HR P w K mg base A outer s H->BindsTo s fd args (ps.zip us)->Vals vs us->sp vs H Q E->
  codeAny (model P w) A (.call (.ref f) args) (CR CX outer P w H s Q E) s
theorem dP.mono {P:Program} {w:World} {K:yA} {mg:Str->Option Value} {base:Heap} {CX:JI} {j k:Nat} {f:Addr} {fd:FuncData} {ps:List Str} {sp:Sp} (F:dP P w K mg base CX j f fd ps sp) (h:j<=k) :
  dP P w K mg base CX k f fd ps sp:=⟨F.len,fun A outer s H args us vs Q E hr=>F.run A outer s H args us vs Q E (hr.mono h)⟩
def HR.make {P:Program} {w:World} {K:yA} {mg:Str->Option Value} {base:Heap} {A:Around} {outer:List Env} {s:Shared} {H:Hp} (e:HR P w K mg base A outer s H) (C:Addr) (us:List Value) (kw:List (Str×Value)) :
  HR P w K mg base (A.under (.builtin "type.__call__" ⟨.ref C::us,kw⟩)) outer s H:=⟨by first | exact e.frames | (simpa[Around.under,Code.envs,Code.isFrame,pushEnvs] using e.frames),e.mod,e.bs,e.LY,e.pN,e.GR,e.cb,e.bare⟩
section
variable {X:Cx} {pins:List (Addr×Obj)} {σ:St} {H:Hp} {s s':Shared}
def Inv.Pd (I:Inv X pins σ H s):HR X.prog X.w X.K X.mg X.base X.A X.stack s H:=
 ⟨I.ok.frames,I.ok.mod,I.bs,zL I.ok.LY I.sz,I.stack,I.rO,I.cb,I.bare⟩
def Inv.after (I:Inv X pins σ H s) (h:CE X.stack X.prog X.w H s Q u s'):EP X pins σ Q u s':=by
 obtain⟨v,H',os,bare,un,cb,r,q⟩:=h;obtain⟨hh,g,d,t,os'⟩:=s';obtain rfl:os'=s.os:=os;exact⟨v,H',I.call (h':=hh) (g':=g) (d':=d) (t':=t) (ch:=[]) un cb bare (fun b z=>absurd z (by simp)),r,q⟩
end
def fX (sp:Sp) (dvs:List V) (E:XK) (t:TA):TE:=fun σ H Q=>t σ H fun vs H1=>sp (vs++dvs) H1 Q E
def RX (C:Addr) (sp:Sp) (dvs:List V) (E:XK) (t:TA):TE:=fun σ H Q=>t σ H fun vs H1=>∀x dx,H1 x=none->H1 dx=none->dx≠x->
 sp (.ref x::(vs++dvs)) (upd (upd H1 dx (.own x)) x (.ins C dx [])) (fun v H2=>v=.bI/\Q (.ref x) H2) E
def Binds (K:yA) (fd:FuncData) (ps:List Str) (ds:List Value):Prop:=
 ∀(s:Shared) (us:List Value),K.In s.heap->(us++ds).length=ps.length->BindsTo s fd ⟨us,[]⟩ (ps.zip (us++ds))
def Binds.all {K:yA} {fd:FuncData} {ps:List Str} (h:∀us:List Value,us.length=ps.length->bindArgs fd ⟨us,[]⟩=pure (ps.zip us)):Binds K fd ps []:=fun s us _ hl=>by
 rw[zU] at hl ⊢;exact .of_eq (h us hl)
def Passes (CX:JI) (X:Cx) (E:XK):Prop:=∀(pins:List (Addr×Obj)) (σ:St) (H:Hp) (s:Shared) (e:Value) (s':Shared),Inv X pins σ H s->CX X.stack H s E e s'->X.xe e s'
section
variable {X:Cx} {CX:JI} {k:Nat} {f C:Addr} {fd:FuncData} {ps:List Str} {sp:Sp} {dvs:List V} {ds:List Value} {E:XK} {x m:Str} {p pos apos:Pos} {e o:Expr} {es:List Expr} {ta:TE} {t:TA}
def MH (F:dP X.prog X.w X.K X.mg X.base CX k f fd ps sp) (hr:fV k X.A) (hb:Binds X.K fd ps ds) (hd:Vals dvs ds) (hx:Passes CX X E)
  (I:Inv X pins σ H s) (r:Vals vs us) (h:sp (vs++dvs) H Q E):wpAny (model X.prog X.w) X.A (call (.ref f) us) (EP X pins σ Q) X.xe s:=by
 have r2:Vals (vs++dvs) (us++ds):=r.append hd;have hl:(us++ds).length=ps.length:=by rw[<-r2.length];exact F.len _ _ _ _ h
 refine wpAny_call (codeAny_mono (F.run X.A X.stack s H ⟨us,[]⟩ (us++ds) (vs++dvs) Q E hr I.Pd (hb s us I.tE hl) r2 h) fun r s' hq=>?_);cases r with
 | error e=>exact hx pins σ H s e s' I hq
 | ok fl=>
  cases fl with
  | ret u=>exact I.after hq
  | next=>exact False.elim hq
  | brk=>exact False.elim hq
  | cont=>exact False.elim hq
def OS (F:dP X.prog X.w X.K X.mg X.base CX k f fd ps sp) (hr:fV k X.A) (hg:Gl X x) (hm:X.mg x=some (.ref f)) (hk:PySem.W.keepIn X.K (.ref f)=true) (hb:Binds X.K fd ps ds) (hd:Vals dvs ds) (hx:Passes CX X E)
  (ha:PA X (e::es) t) (hdb:(x == ("__debug__": Str))=false<|>qb_) (he:starEach (e::es) X.env=(false,eval e X.env)::starEach es X.env<|>qe_) (hpl:(backTo pos (starEach es X.env)).any (·.1)=false<|>qe_) :
  PE X (.Call (.Name x p) (e::es) [] pos) (fX sp dvs E t):=by
 intro pins s σ H Q I h;refine wpAny_Call_Name_kw (kb I hg hm ?_ hdb);refine PySem.W.callWith_K (h₀:=X.base) I.ok.mod.Q4 hk (cU (ha pos pins s σ H _ I h) fun us s1 ⟨vs,H1,I1,r,q⟩=>⟨I1.tE,?_⟩) he hpl;exact MH F hr hb hd hx I1 r q
structure Mk (K:yA) (C f:Addr):Prop where
 makes:PySem.W.makesIn K C=true
 init:PySem.W.findIn K (.ref C) "__init__"= some (some (.ref f))
 fn:PySem.W.isFn K (.ref f)=true
 kp:PySem.W.keepIn K (.ref C)=true
def MG (M:Mk X.K C f) (F:dP X.prog X.w X.K X.mg X.base CX k f fd ps sp) (hr:fV (k+1) X.A) (hb:Binds X.K fd ps ds) (hd:Vals dvs ds)
  (hx:Passes CX X E) (I:Inv X pins σ H s) (r:Vals vs us)
  (h:∀x dx,H x=none->H dx=none->dx≠x->sp (.ref x::(vs++dvs)) (upd (upd H dx (.own x)) x (.ins C dx [])) (fun v H2=>v=.bI/\Q (.ref x) H2) E) :
  wpAny (model X.prog X.w) X.A (call (.ref C) us) (EP X pins σ Q) X.xe s:=by
 have hq:=h (↑s+1) ↑s (I.cb.fresh (Nat.le_succ _)) (I.cb.fresh (zk _)) (yi (Nat.lt_succ_self _));have I2:=Inv.made (C:=C) I;have r2:Vals (V.ref (↑s+1)::(vs++dvs)) (Value.ref (↑s+1)::(us++ds)):=.cons rfl (r.append hd);have hl:(Value.ref (↑s+1)::us++ds).length=ps.length:=by
  have e:=r2.length;rw[F.len _ _ _ _ hq] at e;exact e.symm
 refine wpAny_call (Nj (f:=f) I.tE M.makes M.init (beq_iff_eq.mp M.fn) (codeAny_mono (F.run _ X.stack _ _ ⟨Value.ref (↑s+1)::us,[]⟩ (Value.ref (↑s+1)::(us++ds)) _ _ E (hr.make C us [])
  (I2.Pd.make C us []) (hb _ (Value.ref (↑s+1)::us) I2.tE hl) r2 hq) fun r s' hq'=>?_))
 cases r with
 | error e=>exact hx pins σ _ _ e s' I2 hq'
 | ok fl=>
  cases fl with
  | ret u=>
   obtain⟨v,H',I3,rv,ev,q3⟩:=I2.after hq';subst ev;exact⟨rv,⟨V.ref (↑s+1),H',I3,rfl,q3⟩⟩
  | next=>exact False.elim hq'
  | brk=>exact False.elim hq'
  | cont=>exact False.elim hq'
def M5 (M:Mk X.K C f) (F:dP X.prog X.w X.K X.mg X.base CX k f fd ps sp) (hr:fV (k+1) X.A) (hg:Gl X x) (hm:X.mg x=some (.ref C)) (hb:Binds X.K fd ps ds) (hd:Vals dvs ds) (hx:Passes CX X E)
  (hdb:(x == ("__debug__": Str))=false<|>qb_):PE X (.Call (.Name x p) [] [] pos) (RX C sp dvs E dZ):=by
 intro pins s σ H Q I h;refine wpAny_Call_Name_kw (kb I hg hm ?_ hdb);exact PySem.W.callWith_K0 I.tE M.kp (MG (us:=[]) M F hr hb hd hx I .nil h)
end
section
variable {X:Cx} {CX:JI} {k:Nat} {f C:Addr} {fd:FuncData} {ps ks:List Str} {sp:Sp} {E:XK} {x m:Str} {p pos apos kpos:Pos} {e o:Expr} {es:List Expr} {kws:List Keyword} {te ta:TE} {t tk:TA} {nm:Option Str}
variable {g:List Value->List Value->List Value} {gV:List V->List V->List V}
end
structure aD (N P:List Str) (sc:Scope):Prop where
 kind:sc.kind=.function
 co:sc.isCoroutine=false
 gen:sc.isGenerator=false
 nd:N.Nodup
 pre:N.take P.length=P
 par:∀x∈P,sc.names.lookup x=some .local\/sc.names.lookup x=some .cell
 QZ:∀y∈sc.names,y.2≠.free
theorem Dm {kindOf:Str->Option NameKind} {x:Str}:∀{binds:List (Str×Value)} {m:Str->Option Value},(∀v,(x,v)∉binds)->bindL kindOf binds m x=m x
 | [],_,_=>rfl
 | (n,v)::r,m,h=>by
  unfold bindL;rw[Dm fun w hw=>h w (zm _ hw)];split
  ·have:x≠n:=by rintro rfl;exact h v zp
   simp[this]
  ·rfl
theorem Dp {kindOf:Str->Option NameKind} {x:Str}:∀{binds:List (Str×Value)} {m:Str->Option Value},(∀v,(x,v)∉binds)->bindC kindOf binds m x=m x
 | [],_,_=>rfl
 | (n,v)::r,m,h=>by
  unfold bindC;rw[Dp fun w hw=>h w (zm _ hw)];split
  ·rfl
  ·have:x≠n:=by rintro rfl;exact h v zp
   simp[this]
theorem Dn {kindOf:Str->Option NameKind} {x:Str} {v:Value}:∀{P:List Str} {vs:List Value} {i:Nat} {m:Str->Option Value},P.Nodup->P[i]?=some x->vs[i]?=some v->kindOf x=some .local->
  bindL kindOf (P.zip vs) m x=some v
 | [],_,_,_,_,h,_,_=>by simp at h
 | _::_,[],_,_,_,_,h,_=>by simp at h
 | p::P,w::vs,0,m,nd,h1,h2,hk=>by
  simp at h1 h2;subst h1;subst h2;show bindL kindOf ((p,w)::P.zip vs) m p=_;unfold bindL;rw[Dm fun v hv=>(yc.mp nd).1 (List.of_mem_zip hv).1,if_pos hk];simp
 | p::P,w::vs,i+1,m,nd,h1,h2,hk=>by
  show bindL kindOf ((p,w)::P.zip vs) m x=_;unfold bindL;exact Dn (i:=i) (yc.mp nd).2 (by simpa using h1) (by simpa using h2) hk
theorem Dr {kindOf:Str->Option NameKind} {x:Str} {v:Value}:∀{P:List Str} {vs:List Value} {i:Nat} {m:Str->Option Value},P.Nodup->P[i]?=some x->vs[i]?=some v->kindOf x≠some .local->
  bindC kindOf (P.zip vs) m x=some v
 | [],_,_,_,_,h,_,_=>by simp at h
 | _::_,[],_,_,_,_,h,_=>by simp at h
 | p::P,w::vs,0,m,nd,h1,h2,hk=>by
  simp at h1 h2;subst h1;subst h2;show bindC kindOf ((p,w)::P.zip vs) m p=_;unfold bindC;rw[Dp fun v hv=>(yc.mp nd).1 (List.of_mem_zip hv).1,if_neg hk];simp
 | p::P,w::vs,i+1,m,nd,h1,h2,hk=>by
  show bindC kindOf ((p,w)::P.zip vs) m x=_;unfold bindC;exact Dr (i:=i) (yc.mp nd).2 (by simpa using h1) (by simpa using h2) hk
def start (N:List Str) (vs:List V):St:=vs.map some++List.replicate (N.length-vs.length) none
def kG (CX:JI) (P:Program) (w:World) (K:yA) (mg:Str->Option Value) (base:Heap) (N:List Str) (qual:Str) (scope:Scope) (f:Addr) (cd:Value) (A:Around) (outer:List Env) (s:Shared) (H:Hp) (E:XK):Cx where
 prog:=P
 w:=w
 K:=K
 mg:=mg
 base:=base
 A:=A.deeper (envOfC qual scope ↑s f cd)
 N:=N
 s₀:=s
 H₀:=H
 env:=envOfC qual scope ↑s f cd
 outer:=outer
 stack:=envOfC qual scope ↑s f cd::outer
 ex:=[]
 calm:=true
 fn:=fun _=>true
 pn:=[]
 xe:=fun e s'=>wpAny (model P w) (A.deeper (envOfC qual scope ↑s f cd)) (leaving (envOfC qual scope ↑s f cd) e) (fun _ s''=>CX outer H s E e s'') (fun e' s''=>CX outer H s E e' s'') s'
def Hw {sc:Scope} {n:Nat} {x:Str} (h:sc.names.lookup x=some .cell):∃c,(cellsFrom n sc.names []).lookup x=some c:=by
 have q:=PySem.W.cellsFrom_some sc.names n [] (.inl h);exact Option.isSome_iff_exists.mp q
def Ld {CX:JI} {P:Program} {w:World} {K:yA} {mg:Str->Option Value} {base:Heap} {N ps:List Str} {qual:Str} {scope:Scope} {f:Addr} {cd:Value} {A:Around} {outer:List Env} {s s1:Shared} {H:Hp} {E:XK} {us:List Value} {vs:List V}
  (S:aD N ps scope) (hd:A.handled=none) (e0:HR P w K mg base A outer s H) (hl:vs.length=ps.length) (r:Vals vs us)
  (x:InCallC s ↑s (bindL (envOfC qual scope ↑s f cd).kindOf (ps.zip us) fun _=>none) (cellsFrom (↑s+1) scope.names []) (bindC (envOfC qual scope ↑s f cd).kindOf (ps.zip us) fun _=>none) s1) :
  Inv (kG CX P w K mg base N qual scope f cd A outer s H E) [] (start N vs) H s1:=by
 have hpl:ps.length<=N.length:=by have:=congrArg List.length S.pre;rw[zP] at this;omega
 obtain⟨h1,tk,rfl,hk⟩:=x.done;have noA:∀b:Addr,b∉(kG CX P w K mg base N qual scope f cd A outer s H E).ex:=fun b z=>absurd (show b∈([]:List Addr) from z) (by simp);refine⟨⟨e0.mod,S.kind,rfl,rfl,zk _,fun y z c h1 h2=>?_,fun y hy=>?_,fun y c _ h=>?_,fun _=>hd,Around.frames_deeper e0.frames,.inr ⟨rfl,rfl⟩,fun b z=>absurd z (noA b),e0.bs,e0.LY,fun b _ _=>noA b,fun b z=>absurd z (noA b),e0.pN,e0.GR⟩,
  rfl,e0.bare,Un.kept hk,⟨_,x.toInCall.ns,fun i y v h1 h2 h3=>?_⟩,fun y c h=>⟨_,x.cell y c h⟩,e0.cb.fresh (zk _),fun y c h=>?_,fun p hp=>absurd (show p∈([]:List (Addr×Obj)) from hp) (by simp),e0.cb.kept hk,?_⟩
 ·exact name_of_addr x.apart (PySem.mem_of_lookup h1) (PySem.mem_of_lookup h2)
 ·have hy:scope.names.lookup y=some .cell\/scope.names.lookup y=some .free:=hy
  rcases hy with hy | hy
  ·exact Hw hy
  ·exact absurd rfl (S.QZ _ (PySem.mem_of_lookup hy))
 ·exact yg (x.above y c (PySem.mem_of_lookup h))
 ·have hi:i<vs.length:=by
   unfold start at h2
   by_cases hi:i<vs.length
   ·exact hi
   ·rw[zZ (by simpa using hi)] at h2
    rw[List.getElem?_replicate] at h2;split at h2 <;> cases h2
  have ha:vs[i]?=some v:=by
   unfold start at h2;rw[List.getElem?_append_left (by simpa using hi),zJ] at h2;cases e:vs[i]? with
   | none=>rw[e] at h2;cases h2
   | some a=>rw[e] at h2;cases h2;rfl
  obtain⟨u,hu,rv⟩:=r.get ha;have hp:ps[i]?=some y:=by
   rw[<-S.pre,List.getElem?_take_of_lt nofun];exact h1
  have ndP:ps.Nodup:=by rw[<-S.pre];exact S.nd.sublist (List.take_sublist _ _)
  refine⟨u,rv,?_⟩;rcases S.par y (zB hp) with k | k
  ·exact .inl ⟨k,Dn ndP hp hu k⟩
  ·obtain⟨c,e⟩:=Hw (n:=↑s+1) k
   refine .inr ⟨.inl k,c,e,?_⟩;have q:=x.cell y c e;rw[Dr ndP hp hu (by show scope.names.lookup y≠_;rw[k];decide)] at q;exact q
 ·exact e0.cb.fresh (yg (x.above y c (PySem.mem_of_lookup h)))
 ·unfold start
  show _=N.length;rw[zg,za,List.length_replicate];omega
def P5 {CX:JI} {P:Program} {w:World} {K:yA} {mg:Str->Option Value} {base:Heap} {k:Nat} {f:Addr} {name qual:Str} {params:Arguments} {body:List Stmt} {scope:Scope} {dV kV doc pm cdv ct oc:Value} {an od:Option Addr}
  {osl:Array (Option Value)} {N ps:List Str} {sp:Sp} (lk:K.lookup f=some ⟨oc,od,.func (PySem.W.fnOf name qual params body scope dV kV doc pm an cdv ct),osl⟩) (hcd:PySem.W.codeIn K cdv qual=true) (S:aD N ps scope)
  (len:∀vs H Q E,sp vs H Q E->vs.length=ps.length)
  (hbody:∀(A:Around) (outer:List Env) (s:Shared) (H:Hp) (vs:List V) (Q:VK) (E:XK),fV k (A.deeper (envOfC qual scope ↑s f cdv))->sp vs H Q E->
   ∃t,Dv (kG CX P w K mg base N qual scope f cdv A outer s H E) body t/\t {nx:=fun _ H'=>Q .bI H',rt:=Q} (start N vs) H) :
  dP P w K mg base CX (k+1) f (PySem.W.fnOf name qual params body scope dV kV doc pm an cdv ct) ps sp:=by
 refine⟨len,fun A outer s H args us vs Q E hr e0 hb r hsp=>?_⟩;have hl:=len _ _ _ _ hsp;have KX:K.In s.heap:=e0.mod.Q4.keeps fun b o e=>(e0.bs b o e).1;have lim:s.heap.NoLimit:=e0.mod.nolimit.keeps fun b o e=>(e0.bs b o e).1;have hkind:∀y∈ps.zip us,scope.names.lookup y.1=some .local\/(scope.names.lookup y.1=some .cell/\((cellsFrom (↑s+1) scope.names []).lookup y.1).isSome=true):=fun⟨n,v⟩ hy=>by
  rcases S.par n (List.of_mem_zip hy).1 with q | q
  ·exact .inl q
  ·exact .inr ⟨q,PySem.W.cellsFrom_some _ _ _ (.inl q)⟩
 refine codeAny_call_function hr.depth (KX _ _ lk) rfl S.co S.gen rfl (PySem.W.codeRec_of KX hcd) (hb _ _ _ _ ?_);refine wpAny_newFunctionEnv_cells S.kind hkind fun env he s1 x=>?_;subst he;refine⟨lim.keeps x.toInCall.keep,codeAny_func ?_⟩;obtain⟨t,ht,hq⟩:=hbody A outer s H vs Q E (hr.deeper _) hsp;have I:Inv (kG CX P w K mg base N qual scope f cdv A outer s H E) [] (start N vs) H s1:=Ld S hr.hd e0 hl r x;refine wpAny_mono (ht [] s1 (start N vs) H _ I hq) (fun fl s' hs=>?_) fun e s' hs=>hs;have fin:∀{σ':St} {H':Hp} {v:V} {u:Value},Inv (kG CX P w K mg base N qual scope f cdv A outer s H E) [] σ' H' s'->RelV v u->Q v H'->CE outer P w H s Q u s':=
  fun {σ' H' v u} J rv q=>⟨v,H',J.os,J.bare,J.base,J.cb,rv,q⟩
 cases fl with
 | ret u=>
  obtain⟨v,σ',H',J,rv,q⟩:=hs;exact fin J rv q
 | next=>
  obtain⟨σ',H',J,q⟩:=hs;exact fin (v:=V.bI) (u:=Value.none) J rfl q
 | brk=>
  obtain⟨_,_,_,q⟩:=hs;exact False.elim q
 | cont=>
  obtain⟨_,_,_,q⟩:=hs;exact False.elim q
end L2
namespace L2
open PySem PySem.Spec PyProof.Rows
section
variable {X:Cx} {x:Str} {p pos:Pos} {e:Expr} {es:List Expr} {t:TA} {id T:String} {r:List V->Hp->VK->Prop}
def JQ (r:List V->Hp->VK->Prop) (t:TA):TE:=fun σ H Q=>t σ H fun vs H1=>r vs H1 Q
def Gp (hc:fT X (.builtin id) r) (hg:Gl X x) (hm:X.mg x=none) (hv:bootBuiltins x=some (.builtin id)) (ha:PA X (e::es) t) (hn:x≠ "__name__"<|>qb_) (hdb:(x == ("__debug__": Str))=false<|>qb_)
  (he:starEach (e::es) X.env=(false,eval e X.env)::starEach es X.env<|>qe_) (hpl:(backTo pos (starEach es X.env)).any (·.1)=false<|>qe_):PE X (.Call (.Name x p) (e::es) [] pos) (JQ r t):=by
 intro pins s σ H Q I h;refine wpAny_Call_Name_kw (iz I hg hm hv ?_ hn hdb);exact PyProof.Rows.callWith_builtin1 (cU (ha pos pins s σ H _ I h) fun us s1 ⟨vs,H1,I1,r1,q1⟩=>hc pins s1 σ H1 vs us Q I1 r1 q1) he hpl
def K1 (hc:fT X (.type T) r) (hg:Gl X x) (hm:X.mg x=none) (hv:bootBuiltins x=some (.type T)) (ha:PA X (e::es) t) (hn:x≠ "__name__"<|>qb_) (hdb:(x == ("__debug__": Str))=false<|>qb_)
  (he:starEach (e::es) X.env=(false,eval e X.env)::starEach es X.env<|>qe_) (hpl:(backTo pos (starEach es X.env)).any (·.1)=false<|>qe_):PE X (.Call (.Name x p) (e::es) [] pos) (JQ r t):=by
 intro pins s σ H Q I h;refine wpAny_Call_Name_kw (iz I hg hm hv ?_ hn hdb);exact yL (cU (ha pos pins s σ H _ I h) fun us s1 ⟨vs,H1,I1,r1,q1⟩=>hc pins s1 σ H1 vs us Q I1 r1 q1) he hpl
end
end L2
namespace HT
open PySem PyProof.Rows
section
open PySem.SeqAt
open PySem.AutoSeq1 (wpAny_loadPart')
open PySem.MeetsSeq PySem.MeetsSeq2 PySem.MeetsSeq3
end
section
variable {prog:Program} {w:World} {A:Around} {E:Value->Shared->Prop} {s:Shared}
def fC (n d:Nat):Option Int->Nat
 | none=>d
 | some v=>if v<0 then(v+(n:Int)).toNat else min v.toNat n
def F5 (n d:Nat):fC n d none=d:=rfl
def QE (n d:Nat) (hd:d<=n) (o:Option Int):fC n d o<=n:=by
 cases o with
 | none=>exact hd
 | some v=>
  show(if v<0 then(v+(n:Int)).toNat else min v.toNat n)<=n
  by_cases hv:v<0
  ·rw[if_pos hv];omega
  ·rw[if_neg hv];exact Nat.min_le_right _ _
def Ki (v:Int) (n d:Nat):(if v<0 then max (v+(n:Int)) 0 else min v (n:Int))=((fC n d (some v):Nat):Int):=by
 show(if v<0 then max (v+(n:Int)) 0 else min v (n:Int))=(((if v<0 then(v+(n:Int)).toNat else min v.toNat n):Nat):Int)
 by_cases hv:v<0
 ·simp only[if_pos hv];omega
 ·simp only[if_neg hv];omega
def Js (lo hi:Option Int) (n:Nat):Builtin.Slice.sliceAdjust lo hi 1 (n:Int)=(((fC n 0 lo:Nat):Int),((fC n n hi:Nat):Int)):=by
 have h1:¬((1:Int)<0):=nofun
 unfold Builtin.Slice.sliceAdjust;simp only[h1,if_false];refine Prod.ext ?_ ?_
 ·cases lo with
  | none=>rfl
  | some v=>exact Ki v n 0
 ·cases hi with
  | none=>rfl
  | some v=>exact Ki v n n
def IC (i j:Nat):Builtin.Slice.slicePlaces (i:Int) (j:Int) 1=j-i:=by
 unfold Builtin.Slice.slicePlaces;have h1:(1:Int)>0:=nofun
 simp only[h1,if_true,Int.ediv_one];split <;> omega
def x6 (p:IsPart v o) (h:Q o s):wpAny (model prog w) A (Builtin.Slice.slicePartIndex v) Q E s:=by
 cases p with
 | none=>exact slicePart_none h
 | int i t=>exact slicePart_int h
def kT {sl:Addr} {vl vu:Value} {lo hi:Option Int} {n:Nat} {Q:Int×Int×Nat->Shared->Prop} (hs:s.heap.IsSliceOf sl vl vu .none) (pl:IsPart vl lo) (pu:IsPart vu hi)
  (h:Q (((fC n 0 lo:Nat):Int),1,fC n n hi-fC n 0 lo) s):wpAny (model prog w) A (Builtin.Slice.sliceApplied (.ref sl) (pure (n:Int))) Q E s:=by
 obtain⟨os,hos,hcs,hds⟩:=id hs;unfold Builtin.Slice.sliceApplied Builtin.Slice.sliceFields;refine yt (yt (wpAny_field hos hds (x:=vl) rfl (yt (wpAny_field hos hds (x:=vu) rfl (yt (wpAny_field hos hds (x:=.none) rfl (yv ?_)))))));refine yt (slicePart_none ?_);show wpAny _ _ (if((1:Int) == 0)=true then _ else _) _ _ s;rw[if_neg ∅];refine yt (x6 pl (yt (x6 pu (yt (yv ?_)))));show wpAny _ _ (match Builtin.Slice.sliceAdjust lo hi 1 (n:Int) with | (lo,hi)=>pure (lo,(1:Int),Builtin.Slice.slicePlaces lo hi 1)) _ _ s;rw[Js lo hi n];show wpAny _ _ (pure (((fC n 0 lo:Nat):Int),(1:Int),Builtin.Slice.slicePlaces ((fC n 0 lo:Nat):Int) ((fC n n hi:Nat):Int) 1)) _ _ s;rw[IC];exact yv h
def M0 (xs:Array Value) (i k:Nat):((List.range k).filterMap fun(m:Nat)=>xs[((i:Int)+(m:Int)*1).toNat]?).toArray=((xs.toList.drop i).take k).toArray:=by
 have e:(fun(m:Nat)=>xs[((i:Int)+(m:Int)*1).toNat]?)=fun m=>xs[i+m]?:=by
  funext m
  have:((i:Int)+(m:Int)*1).toNat=i+m:=nofun
  rw[this]
 rw[e];have:=pick_run xs i k;rw[List.filterMap_map] at this;have e2:((fun x=>xs[x]?)∘fun x=>i+x)=fun m=>xs[i+m]?:=rfl;rw[e2] at this;rw[this]
def tK {t sl:Addr} {items:Array Value} {vl vu:Value} {lo hi:Option Int} {Q:Value->Shared->Prop} (ht:IsTup s.heap t items) (hs:s.heap.IsSliceOf sl vl vu .none) (pl:IsPart vl lo) (pu:IsPart vu hi)
  (hw:¬(fC items.size 0 lo=0/\fC items.size items.size hi=items.size))
  (h:Q (.ref ↑s) {s with heap:=s.heap.push {cls:=.type "tuple",data:=.seq ((items.toList.drop (fC items.size 0 lo)).take (fC items.size items.size hi-fC items.size 0 lo)).toArray}})
  (hsz:items.size<=sizeLine):wpAny (model prog w) A (getItem (.ref t) (.ref sl)) Q E s:=by
 have htake:sizeOk (.seq ((items.toList.drop (fC items.size 0 lo)).take (fC items.size items.size hi-fC items.size 0 lo)).toArray):=by
  show((items.toList.drop (fC items.size 0 lo)).take (fC items.size items.size hi-fC items.size 0 lo)).toArray.size<=sizeLine;rw[ya,zP,List.length_drop,Array.length_toList];omega
 have hj:fC items.size items.size hi<=items.size:=QE _ _ (zk _) hi;obtain⟨os,hos,hcs,hds⟩:=id hs;have hTs:s.TypeIs (.ref sl) "slice":=⟨os,hos,hcs⟩
 unfold getItem
 try with_reducible refine wpAny_holding ?_
 first | refine yt (yv ?_) | skip
 refine yt (wpAny_sequenceKey ht.typeIs ∅ ?_);refine yt (wpAny_callSpecial?_slot (name:=Str.ofString "__getitem__") ht.typeIs PyProof.Rows.slot_tuple_getitem
  (wpAny_call_entry PyProof.Rows.slot_tuple_getitem ht.typeIs entry_tuple_getitem ?_ (args_tuple_getitem _ _)))
 show wpAny _ _ (Builtin.Tuple.tupleItemsOf (.ref t) >>= _) _ _ s;refine yt (tupleItemsOf_ ht ?_);refine yt (wpAny_typeOf hTs ?_);rw[if_pos ∅];refine yt (kT hs pl pu ?_);have hno:¬((((fC items.size 0 lo:Nat):Int) == 0&&(1:Int) == 1&&(fC items.size items.size hi-fC items.size 0 lo) == items.size)=true):=by
  intro q;rw[zN,zN] at q;have q1:((fC items.size 0 lo:Nat):Int)=0:=eq_of_beq q.1.1;have q2:fC items.size items.size hi-fC items.size 0 lo=items.size:=eq_of_beq q.2;exact hw ⟨nofun,nofun⟩
 show wpAny _ _ (if(((fC items.size 0 lo:Nat):Int) == 0&&(1:Int) == 1&&(fC items.size items.size hi-fC items.size 0 lo) == items.size)=true then _ else _) _ _ s;rw[if_neg hno,M0]
 first
  | exact yt (m:=Builtin.Tuple.tupleExact _) (wpAny_newObj_type (yv ⟨_,rfl,yv h⟩) htake)
  | exact yt (m:=Builtin.Tuple.tupleExact _) (wpAny_newObj_type (yt (yv (yv ⟨_,rfl,yv h⟩))) htake)
  | exact yt (yt (m:=Builtin.Tuple.tupleExact _) (wpAny_newObj_type (yv (yv ⟨_,rfl,yv h⟩)) htake))
  | exact yt (yt (m:=Builtin.Tuple.tupleExact _) (wpAny_newObj_type (yv ⟨_,rfl,yv h⟩) htake))
end
end HT
namespace L2
open PySem PySem.Spec PyProof.Rows
abbrev TO:=St->Hp->(Option Int->Hp->Prop)->Prop
def PO (X:Cx) (e:Option Expr) (t:TO):Prop:=
 ∀(pins:List (Addr×Obj)) (s:Shared) (σ:St) (H:Hp) (Q:Option Int->Hp->Prop),Inv X pins σ H s->t σ H Q->
  wpAny (model X.prog X.w) X.A (evalPart e X.env) (fun u s'=>∃o H',Inv X pins σ H' s'/\IsPart u o/\Q o H') X.xe s
def DE:TO:=fun _ H Q=>Q none H
def Mn (t:TE):TO:=fun σ H Q=>t σ H fun x H1=>∃i,x=.int i/\Q (some i) H1
def intsAre_of:∀{us:List Value},Vals (ns.map V.int) us->IntsAre us ns:=by
 induction ns with
 | nil=>intro us r;rw[ym] at r;cases r;exact .nil
 | cons n ns ih=>
  intro us r;rw[zh] at r;cases r with
  | cons r1 r2=>
   obtain⟨t,e⟩:=r1;subst e;exact .cons n t (ih r2)
section
variable {X:Cx} {e:Expr} {te:TE} {lo hi:Option Expr} {tl th:TO} {pos p2:Pos}
def eQ:PO X none DE:=by
 intro pins s σ H Q I h;rw[evalPart_none];exact yv ⟨none,H,I,.none,h⟩
def eP (h:PE X e te):PO X (some e) (Mn te):=by
 intro pins s σ H Q I hw;rw[evalPart_some];refine cU (h pins s σ H _ I hw) fun u s1 zz=>?_;obtain⟨x,H1,I1,r1,q1⟩:=zz;obtain⟨i,rfl,q⟩:=q1;obtain⟨t,rfl⟩:=r1;exact⟨some i,H1,I1,.int i t,q⟩
def N5 (X:Cx) (r:V->Option Int->Option Int->Hp->VK->Prop):Prop:=
 ∀(pins:List (Addr×Obj)) (s:Shared) (σ:St) (H:Hp) (x:V) (v vl vu:Value) (lo hi:Option Int) (sl:Addr) (Q:VK),Inv X pins σ H s->RelV x v->s.heap.IsSliceOf sl vl vu .none->IsPart vl lo->IsPart vu hi->r x lo hi H Q->
  ∃T id,typeLookup (.type T) "__getitem__"= pure (some (.builtin id))/\s.TypeIs v T/\wpAny (model X.prog X.w) X.A (getItem v (.ref sl)) (EP X pins σ Q) X.xe s
def N5.or (h:N5 X r) (h':N5 X r'):N5 X (fun x lo hi H Q=>r x lo hi H Q\/r' x lo hi H Q):=by
 intro pins s σ H x v vl vu lo hi sl Q I rx hs pl pu q;rcases q with q | q
 ·exact h pins s σ H x v vl vu lo hi sl Q I rx hs pl pu q
 ·exact h' pins s σ H x v vl vu lo hi sl Q I rx hs pl pu q
def TU (r:V->Option Int->Option Int->Hp->VK->Prop) (te:TE) (tl th:TO):TE:=fun σ H Q=>te σ H fun x H1=>tl σ H1 fun l H2=>th σ H2 fun u H3=>r x l u H3 Q
def dJ (hr:N5 X r) (he:PE X e te) (hl:PO X lo tl) (hu:PO X hi th):PE X (.Subscript e (.Slice lo hi none p2) pos) (TU r te tl th):=by
 intro pins s σ H Q I h;refine Subscript_ (cU (he pins s σ H _ I h) fun v s1 zz=>?_);obtain⟨x,H1,I1,r1,q1⟩:=zz;refine wpAny_Slice (cU (hl pins s1 σ H1 _ I1 q1) fun vl s2 ⟨l,H2,I2,pl,q2⟩=>cU (hu pins s2 σ H2 _ I2 q2) fun vu s3 zz=>?_);obtain⟨u,H3,I3,pu,q3⟩:=zz;rw[evalPart_none];refine yv ?_;have I4:Inv X pins σ H3 {s3 with heap:=s3.heap.push {cls:=.type "slice",data:=.fields #[vl,vu,.none]}}:=I3.kept (t':=s3.toks) fun b ob q=>yu _ q;obtain⟨T,id,hT,ht,hg⟩:=hr pins {s3 with heap:=s3.heap.push {cls:=.type "slice",data:=.fields #[vl,vu,.none]}} σ H3 x v vl vu l u ↑s3 Q I4 r1 (Heap.IsSliceOf.new ..) pl pu q3;show wpAny (model X.prog X.w) X.A (subscriptTail e (.Slice lo hi none p2) v (.ref ↑s3)) (EP X pins σ Q) X.xe {s3 with heap:=s3.heap.push {cls:=.type "slice",data:=.fields #[vl,vu,.none]}};exact tail_any (ops:=[.ref ↑s3,v]) ht hT hg (by with_unfolding_all rfl)
def kI (xs:List V) (lo hi:Option Int):List V:=(xs.drop (HT.fC xs.length 0 lo)).take (HT.fC xs.length xs.length hi-HT.fC xs.length 0 lo)
def vX (xs:List V) (lo hi:Option Int):(kI xs lo hi).length<=xs.length:=by
 unfold kI;rw[zP,List.length_drop];omega
def R8 (K:yA):V->Option Int->Option Int->Hp->VK->Prop:=fun x lo hi H Q=>∃a xs,x=.ref a/\dA K H a xs/\
 ¬(HT.fC xs.length 0 lo=0/\HT.fC xs.length xs.length hi=xs.length)/\∀p,H p=none->Q (.ref p) (upd H p (.tup (kI xs lo hi)))
def QC:N5 X (R8 X.K):=by
 intro pins s σ H x v vl vu lo hi sl Q I rx hs pl pu h;obtain⟨a,xs,rfl,hx,hw,q⟩:=h;cases rx;obtain⟨its,r,ht,hz⟩:=I.tuple hx;have hlen:its.toArray.size=xs.length:=by rw[ya];exact r.length.symm
 refine⟨"tuple",_,PyProof.Rows.slot_tuple_getitem.lookup,ht.typeIs,?_⟩;refine HT.tK ht hs pl pu (by rw[hlen];exact hw) ?_ (by rw[hlen];exact hz);rw[hlen];refine⟨.ref ↑s,_,I.laid (t':=s.toks) (o:=.tup (kI xs lo hi)) (fun b ob q=>yu _ q) (zk _) ?_,rfl,q _ (I.cb.fresh (zk _))⟩;exact⟨zL (vX xs lo hi) hz,_,(r.drop (HT.fC xs.length 0 lo)).take (HT.fC xs.length xs.length hi-HT.fC xs.length 0 lo),IsTup.new _ _⟩
end
end L2
namespace L2
open PySem PySem.Spec PyProof.Rows
def P0 (n:Nat) (i:Int):Option Nat:=if 0<=i then(if i<n then some i.toNat else none) else if -(n:Int)<=i then some (i+n).toNat else none
def Ds (xs:List α) (i:Int):Option α:=(P0 xs.length i).bind fun j=>xs[j]?
def O6 (h:P0 n i=some j):seqIndex? i n=some j/\j<n/\-(n:Int)<=i/\i<n:=by
 unfold P0 at h
 by_cases h0:0<=i
 ·rw[if_pos h0] at h
  by_cases h1:i<n
  ·rw[if_pos h1] at h
   have e:i.toNat=j:=yj h;exact⟨by rw[seqIndex_of h0 h1,e],nofun,nofun,h1⟩
  ·rw[if_neg h1] at h;cases h
 ·rw[if_neg h0] at h
  by_cases h1:-(n:Int)<=i
  ·rw[if_pos h1] at h
   have e:(i+n).toNat=j:=yj h;exact⟨by rw[seqIndex_neg nofun h1,e],nofun,h1,nofun⟩
  ·rw[if_neg h1] at h;cases h
def E9 (h:Ds xs i=some v):∃j,seqIndex? i xs.length=some j/\xs[j]?=some v/\j<xs.length/\-(xs.length:Int)<=i/\i<xs.length:=by
 unfold Ds at h;cases e:P0 xs.length i with
 | none=>rw[e] at h;cases h
 | some j=>
  rw[e] at h;obtain⟨h1,h2,h3,h4⟩:=O6 e;exact⟨j,h1,h,h2,h3,h4⟩
def bx {α:Type} {xs:List α} {j:Nat} {v:α} (h:xs[j]?=some v):Ds xs (j:Int)=some v:=by
 have hj:j<xs.length:=(zw.mp h).1;have e:P0 xs.length (j:Int)=some j:=by
  unfold P0;rw[if_pos nofun,if_pos nofun];simp
 unfold Ds;rw[e];exact h
def Bb (xs:List α) (v:α):Ds (xs++[v]) (-1)=some v:=by
 have hl:(xs++[v]).length=xs.length+1:=by simp
 have e:P0 (xs++[v]).length (-1)=some xs.length:=by
  unfold P0;rw[hl,if_neg ∅,if_pos nofun]
  congr 1
  omega
 unfold Ds;rw[e];show(xs++[v])[xs.length]?=some v;simp
def tZ (b:Expr):Prop:=∀o i,subscripted b false o i=operate [o,i] (getItem o i)
def Th (X:Cx) (r:R2):Prop:=
 ∀(value slice:Expr) (pins:List (Addr×Obj)) (s:Shared) (σ:St) (H:Hp) (x y:V) (v u:Value) (Q:VK),Inv X pins σ H s->RelV x v->RelV y u->r x y H Q->
  subscripted slice false v u=operate [v,u] (getItem v u)->wpAny (model X.prog X.w) X.A (subscriptTail value slice v u) (EP X pins σ Q) X.xe s
def UG (X:Cx) (id:String) (r:V->List V->Hp->VK->Prop):Prop:=
 ∀(pins:List (Addr×Obj)) (s:Shared) (σ:St) (H:Hp) (x:V) (xs:List V) (v:Value) (us:List Value) (Q:VK),Inv X pins σ H s->RelV x v->Vals xs us->r x xs H Q->
  wpAny (model X.prog X.w) X.A (call (.builtin id) (v::us)) (EP X pins σ Q) X.xe s
section
variable {X:Cx} {a b:Expr} {ta tb:TE} {pos:Pos}
def Ae (hr:Th X r) (ha:PE X a ta) (hb:PE X b tb) (hs:tZ b):PE X (.Subscript a b pos) (fu r ta tb):=by
 intro pins s σ H Q I h;exact Subscript_ (Rt ha hb I h fun v u s2 x y H2 I2 rx ry q=>hr a b pins s2 σ H2 x y v u Q I2 rx ry q (hs _ _))
def OK (K:yA):R2:=fun x y H Q=>∃p xs i v,x=.ref p/\y=.int i/\aH K H p xs/\Ds xs i=some v/\Q v H
def lU (K:yA):R2:=fun x y H Q=>∃p xs i v,x=.ref p/\y=.int i/\dA K H p xs/\Ds xs i=some v/\Q v H
def OJ:R2:=fun x y H Q=>∃z i c,x=.str z/\y=.int i/\z.length<=sizeLine/\Ds z.cps.toList i=some c/\Q (.str ⟨#[c]⟩) H
def J6:Th X (OK X.K):=by
 intro value slice pins s σ H x y v u Q I rx ry h hs;obtain⟨p,xs,i,z,rfl,rfl,hq,he,q⟩:=h;cases rx;obtain⟨t,rfl⟩:=ry;obtain⟨its,r,pl,hz⟩:=I.list hq;obtain⟨j,h1,h2,h3,h4,h5⟩:=E9 he;obtain⟨w,ew,rw'⟩:=r.get h2;have hl:=r.length;have hn:=Aw;have fin:EP X pins σ Q w s:=⟨z,H,I,rw',q⟩
 by_cases h0:0<=i
 ·have hj:i.toNat=j:=by
   rw[seqIndex_of h0 h5] at h1;exact yj h1
  exact item_listR pl.isList h0 nofun (by rw[hj];simpa using ew) fin hs
 ·have hj:(i+(its.toArray.size:Int)).toNat=j:=by
   rw[seqIndex_neg nofun h4] at h1;rw[ya,<-hl];exact yj h1
  exact subscriptTail_builtinR (x:=w) pl.isList.typeIs slot_list_getitem.lookup
   (wpAny_getItem_list_neg (Q:=fun r s'=>r=w/\EP X pins σ Q r s') pl.isList nofun (by rw[ya] <;> omega) nofun (by rw[hj];simpa using ew) ⟨rfl,fin⟩) hs
def Ra:Th X (lU X.K):=by
 intro value slice pins s σ H x y v u Q I rx ry h hs;obtain⟨p,xs,i,z,rfl,rfl,hq,he,q⟩:=h;cases rx;obtain⟨t,rfl⟩:=ry;obtain⟨its,r,pl,hz⟩:=I.tuple hq;obtain⟨j,h1,h2,h3,h4,h5⟩:=E9 he;obtain⟨w,ew,rw'⟩:=r.get h2;have hl:=r.length;have hn:=Aw;have fin:EP X pins σ Q w s:=⟨z,H,I,rw',q⟩
 exact subscriptTail_builtinR (x:=w) pl.typeIs slot_tuple_getitem.lookup
  (getItem_tuple (j:=j) (Q:=fun r s'=>r=w/\EP X pins σ Q r s') pl nofun nofun (by rw[ya,<-hl];exact h1) (by simpa using ew) ⟨rfl,fin⟩) hs
def Ex:Th X OJ:=by
 intro value slice pins s σ H x y v u Q I rx ry h hs;obtain⟨z,i,c,rfl,rfl,hz,he,q⟩:=h;obtain⟨t,rfl⟩:=rx;obtain⟨t',rfl⟩:=ry;obtain⟨j,h1,h2,h3,h4,h5⟩:=E9 he;have hl:z.cps.toList.length=z.length:=by simp[Str.length]
 rw[hl] at h1 h4 h5;have hn:=Aw;exact tail_any (typeIs_str s z t) slot_str_getitem.lookup (getItem_str (c:=c) (by
  have e1:decide (i < -(2^63:Int))=false:=zd nofun;have e2:decide (i≥2^63)=false:=zd nofun;rw[e1,e2,Bool.or_false]) (by rw[h1];simpa using h2) ⟨.str ⟨#[c]⟩,H,I.tok _,⟨_,rfl⟩,q⟩) hs
def DS (lo hi:Option Int) (n:Nat):(sliceBounds lo hi none n).1=((HT.fC n 0 lo:Nat):Int)/\(sliceBounds lo hi none n).2.1=((HT.fC n n hi:Nat):Int)/\(sliceBounds lo hi none n).2.2=1:=by
 refine⟨?_,?_,rfl⟩
 ·cases lo with
  | none=>simp[sliceBounds,HT.fC]
  | some i=>
   simp only[sliceBounds,HT.fC,Option.getD_none,show(1:Int)>0 by decide,if_true]
   by_cases h:i<0
   ·simp only[h,if_true] <;> omega
   ·simp only[h,if_false] <;> omega
 ·cases hi with
  | none=>simp[sliceBounds,HT.fC]
  | some i=>
   simp only[sliceBounds,HT.fC,Option.getD_none,show(1:Int)>0 by decide,if_true]
   by_cases h:i<0
   ·simp only[h,if_true] <;> omega
   ·simp only[h,if_false] <;> omega
def BH (its:List Value) (lo hi:Option Int):slicePick its.toArray lo hi none=((its.drop (HT.fC its.length 0 lo)).take (HT.fC its.length its.length hi-HT.fC its.length 0 lo)).toArray:=by
 obtain⟨h1,h2,h3⟩:=DS lo hi its.toArray.size;unfold slicePick;rw[h1,h2,h3];simp only[sliceRange_one,pick_run,ya] <;> rfl
def T7 (K:yA):V->Option Int->Option Int->Hp->VK->Prop:=fun x lo hi H Q=>∃a xs,x=.ref a/\aH K H a xs/\∀p,H p=none->Q (.ref p) (upd H p (.lst (kI xs lo hi)))
def gL:N5 X (T7 X.K):=by
 intro pins s σ H x v vl vu lo hi sl Q I rx hs pl pu h;obtain⟨a,xs,rfl,hx,q⟩:=h;cases rx;obtain⟨its,r,ht,hz⟩:=I.list hx;have hlen:=r.length;refine⟨"list",_,slot_list_getitem.lookup,ht.isList.typeIs,?_⟩;refine wpAny_getItem_list_slice ht.isList hs pl pu .none (by simp) ?_ (by rw[ya] <;> omega);rw[BH,<-hlen];refine⟨.ref ↑s,_,I.laid (t':=s.toks) (o:=.lst (kI xs lo hi)) (fun b ob q=>yu _ q) (zk _) ?_,rfl,q _ (I.cb.fresh (zk _))⟩;exact⟨zL (vX xs lo hi) hz,_,0,(r.drop (HT.fC xs.length 0 lo)).take (HT.fC xs.length xs.length hi-HT.fC xs.length 0 lo),yw _ rfl⟩
def nc:V->Bool
 | .bI=>true
 | .bl _=>true
 | .int _=>true
 | .str _=>true
 | _=>false
def I0:V->V->Bool
 | .bI,.bI=>true
 | .bl a,.bl b=>a == b
 | .bl a,.int b=>(if a then 1 else 0) == b
 | .int a,.bl b=>a == (if b then 1 else 0)
 | .int a,.int b=>a == b
 | .str a,.str b=>a == b
 | _,_=>false
def NM (ry:RelV y u) (rx:RelV x v) (fy:nc y=true) (fx:nc x=true):SeqAt.EqAt A s u v (I0 y x):=by
 cases y with
 | bI=>
  cases ry;cases x with
  | bI=>cases rx;exact SeqAt.EqAt.same _
  | bl b=>cases rx;exact SeqAt.EqAt.none_bool b
  | int b=>obtain⟨t,rfl⟩:=rx;exact SeqAt.EqAt.none_int b t
  | str b=>obtain⟨t,rfl⟩:=rx;exact SeqAt.EqAt.none_str b t
  | _=>exact absurd (show false=true from fx) zK
 | bl a=>
  cases ry;cases x with
  | bI=>cases rx;exact SeqAt.EqAt.bool_none a
  | bl b=>cases rx;exact SeqAt.EqAt.bool_bool a b
  | int b=>obtain⟨t,rfl⟩:=rx;exact SeqAt.EqAt.bool_int a b t
  | str b=>obtain⟨t,rfl⟩:=rx;exact SeqAt.EqAt.bool_str a b t
  | _=>exact absurd (show false=true from fx) zK
 | int a=>
  obtain⟨t',rfl⟩:=ry;cases x with
  | bI=>cases rx;exact SeqAt.EqAt.int_none a t'
  | bl b=>cases rx;exact SeqAt.EqAt.int_bool a t' b
  | int b=>obtain⟨t,rfl⟩:=rx;exact SeqAt.EqAt.int_int a t' b t
  | str b=>obtain⟨t,rfl⟩:=rx;exact SeqAt.EqAt.int_str a t' b t
  | _=>exact absurd (show false=true from fx) zK
 | str a=>
  obtain⟨t',rfl⟩:=ry;cases x with
  | bI=>cases rx;exact SeqAt.EqAt.str_none a t'
  | bl b=>cases rx;exact SeqAt.EqAt.str_bool a t' b
  | int b=>obtain⟨t,rfl⟩:=rx;exact SeqAt.EqAt.str_int a t' b t
  | str b=>obtain⟨t,rfl⟩:=rx;exact SeqAt.EqAt.str_str a t' b t
  | _=>exact absurd (show false=true from fx) zK
 | _=>exact absurd (show false=true from fy) zK
def I9 (x:V) (u:Value):Bool:=match u with
 | .none=>I0 .bI x
 | .bool b=>I0 (.bl b) x
 | .int i _=>I0 (.int i) x
 | .str z _=>I0 (.str z) x
 | _=>false
def NL (r:RelV y u) (f:nc y=true):I9 x u=I0 y x:=by
 cases y with
 | bI=>cases r;rfl
 | bl b=>cases r;rfl
 | int i=>obtain⟨t,rfl⟩:=r;rfl
 | str z=>obtain⟨t,rfl⟩:=r;rfl
 | _=>exact absurd (show false=true from f) zK
theorem tU:∀{xs:List V} {us:List Value},Vals xs us->xs.all nc=true->us.any (I9 x)=xs.any fun y=>I0 y x
 | _,_,.nil,_=>rfl
 | y::xs,u::us,.cons r t,f=>by
  rw[List.all_cons,zN] at f;rw[List.any_cons,List.any_cons,NL r f.1,tU t f.2]
theorem oN (rx:RelV x v) (fx:nc x=true):∀{xs:List V} {us:List Value},Vals xs us->xs.all nc=true->∀u∈us,SeqAt.EqAt A s u v (I9 x u)
 | _,_,.nil,_=>fun u hu=>by cases hu
 | y::xs,u::us,.cons r t,f=>fun u' hu=>by
  rw[List.all_cons,zN] at f;rcases zC.mp hu with rfl | hu
  ·rw[NL r f.1];exact NM r rx f.1 fx
  ·exact oN rx fx t f.2 u' hu
def Fx (x:V) (xs:List V):Bool:=xs.any fun y=>I0 y x
def RD (K:yA) (neg:Bool):R2:=fun x y H Q=>∃p xs,y=.ref p/\(aH K H p xs\/dA K H p xs)/\nc x=true/\xs.all nc=true/\Q (.bl (if neg then !Fx x xs else Fx x xs)) H
def pf:pE X (compareOp .In) (RD X.K false):=by
 intro pins s σ H x y v u Q I rx ry h;obtain⟨p,xs,rfl,hq,fx,fs,q⟩:=h;cases ry;rcases hq with hq | hq
 ·obtain⟨its,r,pl,hz⟩:=I.list hq
  refine SeqAt.in_listAt (I9 x) pl.isList (fun w hw=>oN rx fx r fs w (by simpa using hw)) ⟨.bl _,H,I,rfl,?_⟩;rw[show its.toArray.any (I9 x)=its.any (I9 x) by simp,tU r fs];exact q
 ·obtain⟨its,r,pl,hz⟩:=I.tuple hq
  refine SeqAt.in_tupleAt (I9 x) pl (fun w hw=>oN rx fx r fs w (by simpa using hw)) ⟨.bl _,H,I,rfl,?_⟩;rw[show its.toArray.any (I9 x)=its.any (I9 x) by simp,tU r fs];exact q
def d5:pE X (compareOp .NotIn) (RD X.K true):=by
 intro pins s σ H x y v u Q I rx ry h;obtain⟨p,xs,rfl,hq,fx,fs,q⟩:=h;cases ry;rcases hq with hq | hq
 ·obtain⟨its,r,pl,hz⟩:=I.list hq
  refine SeqAt.notIn_listAt (I9 x) pl.isList (fun w hw=>oN rx fx r fs w (by simpa using hw)) ⟨.bl _,H,I,rfl,?_⟩;rw[show its.toArray.any (I9 x)=its.any (I9 x) by simp,tU r fs];exact q
 ·obtain⟨its,r,pl,hz⟩:=I.tuple hq
  refine SeqAt.notIn_tupleAt (I9 x) pl (fun w hw=>oN rx fx r fs w (by simpa using hw)) ⟨.bl _,H,I,rfl,?_⟩;rw[show its.toArray.any (I9 x)=its.any (I9 x) by simp,tU r fs];exact q
def aC:fT X (.builtin "len") (fun xs H Q=>∃p ys,xs=[.ref p]/\(aH X.K H p ys\/dA X.K H p ys)/\Q (.int ys.length) H):=by
 intro pins s σ H xs us Q I r h;obtain⟨p,ys,rfl,hq,q⟩:=h;obtain⟨u,rfl,rx⟩:=vals1 r;cases rx;have hn:=Aw;rcases hq with hq | hq
 ·obtain⟨its,r',pl,hz⟩:=I.list hq
  have hlen:=r'.length;exact Calls.call_len_list pl.isList (by simp only[ya] <;> omega) ⟨.int ys.length,H,I.tok _,⟨s.toks+1,by rw[ya,hlen]⟩,q⟩
 ·obtain⟨its,r',pl,hz⟩:=I.tuple hq
  have hlen:=r'.length;exact len_tuple pl (by simp only[ya] <;> omega) ⟨.int ys.length,H,I.tok _,⟨s.toks+1,by rw[ya,hlen]⟩,q⟩
def gm:fT X (.builtin "len") (fun xs H Q=>∃z,xs=[.str z]/\z.length<=sizeLine/\Q (.int z.length) H):=by
 intro pins s σ H xs us Q I r h;obtain⟨z,rfl,hz,q⟩:=h;obtain⟨u,rfl,t,rfl⟩:=vals1 r;have hn:=Aw;exact len_str nofun ⟨.int z.length,H,I.tok _,⟨_,rfl⟩,q⟩
def iY:fT X (.type "list") (fun xs H Q=>∃p ys,xs=[.ref p]/\(aH X.K H p ys\/dA X.K H p ys)/\∀l,H l=none->Q (.ref l) (upd H l (.lst ys))):=by
 intro pins s σ H xs us Q I r h;obtain⟨p,ys,rfl,hq,q⟩:=h;obtain⟨u,rfl,rx⟩:=vals1 r;cases rx;have fin:∀(its:List Value),Vals ys its->ys.length<=sizeLine->∀(h':Heap) (c':Nat),(∀b o',s.heap.get? b=some o'->h'.get? b=some o')->
   h'.get? ↑s=some {cls:=.type "list",dict:=none,data:=.seq its.toArray c',slots:=#[]}->EP X pins σ Q (.ref ↑s) {s with heap:=h'}:=fun its r' hz h' c' kp e=>
  ⟨.ref ↑s,_,I.laid (t':=s.toks) kp (zk _) (show cC X.prog X.w _ h' _ (.lst ys) from⟨hz,its,c',r',e⟩),rfl,q _ (I.cb.fresh (zk _))⟩
 rcases hq with hq | hq
 ·obtain⟨its,r',pl,hz⟩:=I.list hq
  have hlen:=r'.length;obtain⟨o,ho,hc,n,hd⟩:=pl.isList;exact call_list_seq p (.inl rfl) ho hc hd (fun h' c' kp e=>fin its r' hz h' c' kp e) (by simp only[ya] <;> omega)
 ·obtain⟨its,r',pl,hz⟩:=I.tuple hq
  have hlen:=r'.length;obtain⟨o,ho,hc,n,hd⟩:=pl;exact call_list_seq p (.inr rfl) ho hc hd (fun h' c' kp e=>fin its r' hz h' c' kp e) (by simp only[ya] <;> omega)
def cP:fT X (.type "tuple") (fun xs H Q=>∃p ys,xs=[.ref p]/\((aH X.K H p ys/\∀l,H l=none->Q (.ref l) (upd H l (.tup ys)))\/(dA X.K H p ys/\Q (.ref p) H))):=by
 intro pins s σ H xs us Q I r h;obtain⟨p,ys,rfl,h⟩:=h;obtain⟨u,rfl,rx⟩:=vals1 r;cases rx;rcases h with⟨hq,q⟩ | ⟨hq,q⟩
 ·obtain⟨its,r',pl,hz⟩:=I.list hq
  have hlen:=r'.length;refine call_tuple_list pl.isList (fun h' kp=>?_) (by simp only[ya] <;> omega);have I1:Inv X pins σ H {s with heap:=h'}:=I.kept (t':=s.toks) kp;have I2:Inv X pins σ (upd H h'.objs.size (.tup ys)) {s with heap:=h'.push {cls:=.type "tuple",data:=.seq its.toArray}}:=
   I1.laid (t':=s.toks) (fun b o e=>yu _ e) (zk _) (show cC X.prog X.w _ _ _ (.tup ys) from⟨hz,its,r',IsTup.new _ _⟩)
  exact⟨.ref h'.objs.size,_,I2,rfl,q _ (I1.cb.fresh (zk _))⟩
 ·obtain⟨its,r',pl,hz⟩:=I.tuple hq
  exact call_tuple_same pl ⟨.ref p,H,I,rfl,q⟩
def S5 (K:yA) (T:String) (x:V) (H:Hp):Prop:=match x with
 | .str _=>T ="str"
 | .int _=>T ="int"
 | .ref p=>(T ="list"/\∃xs,aH K H p xs)\/(T ="tuple"/\∃o,K.lookup p=some o/\o.cls=.type "tuple"/\o.dict=none)\/
   (T ="dict"/\((∃kvs,H p=some (.dK kvs))\/∃kvs,H p=some (.dT kvs)))\/(T ="set"/\∃S n,H p=some (.set S n))
 | _=>False
def Md (I:Inv X pins σ H s) (r:RelV x v) (ty:S5 X.K T x H) :
  s.TypeIs v T/\∀a,v=.ref a->∃ob,s.heap.get? a=some ob/\ob.dict=none:=by
 cases x with
 | str z=>
  obtain⟨t,rfl⟩:=r;cases(show T ="str" from ty);exact⟨typeIs_str s z t,fun _ e=>nomatch e⟩
 | int i=>
  obtain⟨t,rfl⟩:=r;cases(show T ="int" from ty);exact⟨typeIs_int s i t,fun _ e=>nomatch e⟩
 | ref p=>
  cases r;rcases ty with⟨rfl,xs,hq⟩ | ⟨rfl,o,hk,hc,hd⟩ | ⟨rfl,hk⟩ | ⟨rfl,S,n,hk⟩
  ·obtain⟨its,_,pl,_⟩:=I.list hq
   refine⟨pl.isList.typeIs,fun a e=>?_⟩;cases e;obtain⟨o,n,e,c,hd,_⟩:=pl;exact⟨o,e,hd⟩
  ·refine⟨⟨o,I.tE p o hk,hc⟩,fun a e=>?_⟩
   cases e;exact⟨o,I.tE _ o hk,hd⟩
  ·have z:∃o,s.heap.get? p=some o/\o.ExactDict:=by
    rcases hk with⟨kvs,hk⟩ | ⟨kvs,hk⟩
    ·obtain⟨_,_,_,_,o,_,_,e,ex,_⟩:=I.cb p _ hk
     exact⟨o,e,ex⟩
    ·obtain⟨_,_,_,_,o,_,_,e,ex,_⟩:=I.cb p _ hk
     exact⟨o,e,ex⟩
   obtain⟨o,e,ex⟩:=z;refine⟨⟨o,e,ex.1⟩,fun a e2=>?_⟩;cases e2;exact⟨o,e,ex.2.1⟩
  ·obtain⟨o,_,_,_,e,ex,_⟩:=I.cb p _ hk
   refine⟨⟨o,e,ex.1⟩,fun a e2=>?_⟩;cases e2;exact⟨o,e,ex.2.1⟩
 | _=>exact False.elim ty
def TY (K:yA) (T:String) (r:V->List V->Hp->VK->Prop) (to:TE):TE:=fun σ H Q=>to σ H fun x H1=>S5 K T x H1/\r x [] H1 Q
def S8 (K:yA) (T:String) (r:V->List V->Hp->VK->Prop) (to:TE) (t:TA):TE:=fun σ H Q=>to σ H fun x H1=>S5 K T x H1/\t σ H1 fun xs H2=>r x xs H2 Q
variable {o e:Expr} {es:List Expr} {to:TE} {t:TA} {name:Str} {apos cpos:Pos} {T id:String} {r:V->List V->Hp->VK->Prop}
def QS (pa:PlainAttrs T) (slot:Slot T name id) (hty:typeOf (.builtin id)=pure (.type "method_descriptor")) (hm:UG X id r) (ho:PE X o to)
  (hbase:attributeBase o name X.env (eval o X.env)=eval o X.env<|>qe_) (hline:(apos.endLine == cpos.line)=true<|>qe_):PE X (.Call (.Attribute o name apos) [] [] cpos) (TY X.K T r to):=by
 intro pins s σ H Q I h;refine wpAny_Call_method0_late hbase hline (cU (ho pins s σ H _ I h) fun v s1 zz=>?_);obtain⟨x,H1,I1,r1,ty,q1⟩:=zz;obtain⟨h1,h2⟩:=Md I1 r1 ty;exact⟨T,id,pa,slot,hty,h1,h2,Calls.callWith_builtin rfl (PySem.evalArgs_none (hm pins s1 σ H1 x [] v [] Q I1 r1 .nil q1))⟩
def b7 (pa:PlainAttrs T) (slot:Slot T name id) (hty:typeOf (.builtin id)=pure (.type "method_descriptor")) (hm:UG X id r) (ho:PE X o to) (ha:PA X (e::es) t)
  (hbase:attributeBase o name X.env (eval o X.env)=eval o X.env<|>qe_)
  (hfew:((backTo cpos (starEach (e::es) X.env)).all (fun x=>!x.1)&&(backToKw cpos (keywordEach [] X.env)).all (fun x=>x.1.isSome)
   &&decide ((e::es).length+([]:List Keyword).length+(if([]:List Keyword).isEmpty then 0 else 1)<30))=true<|>qe_)
  (hline:(apos.endLine == cpos.line)=true<|>qe_) (hs:starEach (e::es) X.env=(false,eval e X.env)::starEach es X.env<|>qe_) (hplain:(backTo cpos (starEach es X.env)).any (·.1)=false<|>qe_) :
  PE X (.Call (.Attribute o name apos) (e::es) [] cpos) (S8 X.K T r to t):=by
 intro pins s σ H Q I h;refine wpAny_Call_method_late hbase hfew hline rfl (cU (ho pins s σ H _ I h) fun v s1 zz=>?_);obtain⟨x,H1,I1,r1,ty,q1⟩:=zz;obtain⟨h1,h2⟩:=Md I1 r1 ty;refine⟨T,id,pa,slot,hty,h1,h2,?_⟩;have hA:=ha cpos pins s1 σ H1 _ I1 q1;rw[hs] at hA ⊢;refine Calls.callWith_builtin (by show(false||(backTo cpos (starEach es X.env)).any (·.1))=false;rw[hplain] <;> rfl) (Calls.evalArgs_plain ?_);exact cU hA fun us s2 ⟨vs,H2,I2,r2,q2⟩=>hm pins s2 σ H2 x vs v us Q I2 r1 r2 q2
end
end L2
namespace L2
open PySem PySem.Spec PyProof.Rows
def P9 (X:Cx) (id:String) (r:V->List V->Hp->VK->Prop):Prop:=
 ∀(pins:List (Addr×Obj)) (s:Shared) (σ:St) (H:Hp) (x:V) (xs:List V) (v:Value) (us:List Value) (Q:VK),Inv X pins σ H s->RelV x v->Vals xs us->r x xs H Q->
  wpAny (model X.prog X.w) X.A (call (.builtin id) (v::us)) (EP X pins σ Q) X.xe s
theorem Vals.one:∀{x:V} {us:List Value},Vals [x] us->∃u,us=[u]/\RelV x u
 | _,_,.cons r .nil=>⟨_,rfl,r⟩
theorem Vals.zero:∀{us:List Value},Vals [] us->us=[]
 | _,.nil=>rfl
theorem Vals.reverse (h:Vals xs us):Vals xs.reverse us.reverse:=by
 induction h with
 | nil=>exact .nil
 | cons r t ih=>rw[List.reverse_cons,List.reverse_cons];exact Vals.append ih (.cons r .nil)
section
variable {X:Cx} {pins:List (Addr×Obj)} {σ:St} {H:Hp} {s:Shared} {l b:Addr} {xs ys zs:List V}
def Inv.O2 {its its':List Value} {n:Nat} {f:Array Value->Array Value} {t':Nat} (I:Inv X pins σ H s) (hH:H l=some (.lst xs))
  (e:s.heap.get? l=some {cls:=.type "list",data:=.seq its.toArray n}) (hf:f its.toArray=its'.toArray) (hv:Vals ys its') (hz:ys.length<=sizeLine) :
  Inv X pins σ (upd H l (.lst ys)) {s with heap:=s.heap.update l (Obj.mapSeq f),toks:=t'}:=by
 have q:=PySem.IsL.update e f;rw[hf] at q;refine I.write (x:=l) (e:=l) (by rw[hH];exact trivial) (.inl rfl) (fun b' u hb hu=>(yy s.heap (Obj.mapSeq f) (Ne.symm hb)).trans hu) ⟨_,q⟩ ?_;exact⟨hz,its',_,hv,q⟩
def Inv.Sj (I:Inv X pins σ H s) (hv:Vals ys its) (hz:ys.length<=sizeLine) :
  Inv X pins σ (upd H ↑s (.lst ys)) {s with heap:=s.heap.push {cls:=.type "list",data:=.seq its.toArray},toks:=t'}:=
 I.laid (fun _ _ q=>yu _ q) (zk _) ⟨hz,its,0,hv,yw _ rfl⟩
theorem Inv.fresh (I:Inv X pins σ H s):H ↑s=none:=I.cb.fresh (zk _)
def Inv.Nk (I:Inv X pins σ H s) (hH:H l=some (.lst xs)):xs.length<=sizeLine/\∃(its:List Value) (n:Nat),Vals xs its/\xs.length=its.length/\s.heap.get? l=some {cls:=.type "list",data:=.seq its.toArray n}:=by
 obtain⟨z,its,n,r,e⟩:=I.cb l _ hH;exact⟨z,its,n,r,r.length,e⟩
def GC (h:n<=sizeLine):Builtin.List.listTooLong n=false:=by
 unfold Builtin.List.listTooLong;exact zd nofun
end
section
variable {X:Cx}
def OL:V->List V->Hp->VK->Prop:=fun x vs H Q=>∃l xs y,x=.ref l/\vs=[y]/\H l=some (.lst xs)/\xs.length<sizeLine/\Q .bI (upd H l (.lst (xs++[y])))
def bw:P9 X "list.append" OL:=by
 intro pins s σ H x vs v us Q I rx rv h;obtain⟨l,xs,y,rfl,rfl,hH,hz,q⟩:=h;cases rx;obtain⟨u,rfl,ru⟩:=rv.one;obtain⟨z,its,n,r,hl,e⟩:=I.Nk hH;refine call_meets F.slot_list_append ⟨_,e,rfl⟩ F.entry_list_append (F.args_list_append_2 _ _) (PySem.list_append l its.toArray n u (by rw[ya];omega)) ⟨e,?_⟩;refine⟨.bI,_,I.O2 (its':=its++[u]) hH e (by simp) (r.append (.cons ru .nil)) ?_,rfl,q⟩;rw[zg,List.length_singleton];omega
def JZ:V->List V->Hp->VK->Prop:=fun x vs H Q=>∃l b xs zs,x=.ref l/\vs=[.ref b]/\H l=some (.lst xs)/\H b=some (.lst zs)/\xs.length+zs.length<=sizeLine/\Q .bI (upd H l (.lst (xs++zs)))
def K4:P9 X "list.extend" JZ:=by
 intro pins s σ H x vs v us Q I rx rv h;obtain⟨l,b,xs,zs,rfl,rfl,hH,hB,hz,q⟩:=h;cases rx;obtain⟨u,rfl,ru⟩:=rv.one;cases ru;obtain⟨z,its,n,r,hl,e⟩:=I.Nk hH;obtain⟨z2,its2,n2,r2,hl2,e2⟩:=I.Nk hB;have hsz:its.toArray.size+its2.toArray.size<=sizeLine:=by rw[ya,ya];omega
 have hlong:¬(!its.toArray.isEmpty&&Builtin.List.listTooLong (its.toArray.size+its2.toArray.size))=true:=by
  rw[GC hsz,Bool.and_false];exact zK
 refine call_meets F.slot_list_extend ⟨_,e,rfl⟩ F.entry_list_extend (F.args_list_extend_2 _ _)
  (AutoSeq1.list_extend_list_list_0 l its.toArray n b its2.toArray n2 hlong (by rw[ya];omega) nofun) ⟨e,e2,?_⟩
 refine⟨.bI,_,I.O2 (its':=its++its2) hH e (by simp) (r.append r2) ?_,rfl,q⟩;rw[zg];omega
def MS:V->List V->Hp->VK->Prop:=fun x vs H Q=>∃l xs,x=.ref l/\vs=[]/\H l=some (.lst xs)/\Q .bI (upd H l (.lst xs.reverse))
def IJ:P9 X "list.reverse" MS:=by
 intro pins s σ H x vs v us Q I rx rv h;obtain⟨l,xs,rfl,rfl,hH,q⟩:=h;cases rx;have hus:=rv.zero;subst hus;obtain⟨z,its,n,r,hl,e⟩:=I.Nk hH;refine call_meets F.slot_list_reverse ⟨_,e,rfl⟩ F.entry_list_reverse (F.args_list_reverse_1 _) (AutoSeq1.list_reverse_list_0 l its.toArray n (by rw[ya];omega)) ⟨e,?_⟩;refine⟨.bI,_,I.O2 (its':=its.reverse) hH e (by simp) r.reverse ?_,rfl,q⟩;rw[List.length_reverse];omega
end
section
variable {prog:Program} {w:World} {A:Around} {E:Value->Shared->Prop} {s:Shared}
end
section
variable {X:Cx}
end
end L2
namespace UK
open PySem PySem.W PySem.Calls PyProof.Rows
def wQ:∀(ns:List Int) (vs:List Value),WellAll P h vs (ns.map WData.int)->IntsAre vs ns:=by
 intro ns
 induction ns with
 | nil=>
  intro vs w;rw[ym] at w;cases w;exact .nil
 | cons n ns ih=>
  intro vs w;rw[zh] at w;cases w with
  | cons a b=>
   cases a;exact .cons _ _ (ih _ b)
def KL {l:OpenLaw} {n:Nat} (hn:l.most=some n) {P:Params} {h:Heap} {args:List WData} {vals:List Value}
  (hpre:l.row.toRowW.claim.pre args=true) (hwl:WellAll P h vals args) :
  ∃a vs ns,vals=[Value.ref a]/\args=[WData.list (ns.map WData.int)]/\h.get? a=some {cls:=.type "list",data:=.seq vs.toArray}/\IntsAre vs ns/\ns.length<=n:=by
 have hsh:WShape.hasAll [] args [.list .int]=true:=(pre_splitW hpre).1;have hc:l.pre.holds [] {args:=args}=true:=(pre_splitW hpre).2;obtain⟨d,r,rfl,h1,h2⟩:=hasAllW_cons hsh;obtain rfl:=hasAllW_nil h2;obtain⟨xs,rfl,h3⟩:=hasW_list h1;obtain⟨ns,rfl⟩:=items_int h3;have hlen:ns.length<=n:=by
  unfold OpenLaw.pre at hc;have h4:(WTm.not (.lt (.lit (.int (n:Int))) (.len (.arg 0)))).holds [] {args:=[.list (ns.map .int)]}=true:=by
   have h4:=(holds_andW hc).1;rw[hn] at h4;exact h4
  have h5:=condW_of h4 (w_not (w_lt w_lit (w_len_list (w_arg rfl))));rw[za] at h5;refine Nat.le_of_not_lt fun q=>?_;have q':(n:Int)<((ns.length:Nat):Int):=nofun
  first
   | (rw[ze q'] at h5;exact absurd h5 ∅)
   | (simp at h5;omega)
 cases hwl with
 | cons w1 w2=>
  cases w2;cases w1 with
  | list ho hall=>exact⟨_,_,ns,rfl,rfl,ho,wQ ns _ hall,hlen⟩
def KW (l:OpenLaw) (args:List WData):l.row.toRowW.claim.post args (.bool true) args=true:=
 postW_of (r:=l.row.toRowW) (X:=(true == true))
  (show WShape.has [] (.bool true) .bool=true by first | rfl | decide | simp[WShape.has,WShape.arms,WShape.armsAll])
  (show(WTm.eq .res (.lit (.bool true))).value [] {args:=args,res:=some (.bool true),after:=args}=some (.bool (true == true)) from w_eq_bool (w_res rfl) w_lit) rfl
def HB {l:OpenLaw} {n:Nat} {q:Program} {loose:List Str} {XP:(Str->Option Value)->Heap->Prop} {YP:World->Heap->Prop} {d:DefRec}
  (hn:l.most=some n) (hdf:d.params.defaults=[])
  (call:∀(w:World) (s₀ s₁:Shared) (mg mb:Str->Option Value) (fa:Addr) (o:Obj) (pm cd doc:Value) (a:Addr) (vs:List Value) (ns:List Int),
   Ground q loose [] XP w s₀ mg mb s₁.heap->YP w s₁.heap->
   s₁.heap.get? fa=some o->o.data=.func (docDef d.name d.params d.body d.scope pm cd doc)->s₁.heap.CodeRec cd d.name->mg d.name=some (.ref fa)->
   s₁.heap.get? a=some {cls:=.type "list",data:=.seq vs.toArray}->IntsAre vs ns->ns.length<=n->s₁.gens=#[]->
   codeAny (model l.prog w) callerA (.call (.ref fa) ⟨[.ref a],[]⟩) (fun r s'=>r=.ok (.ret (.bool true))/\OldK s₁.heap s'.heap/\s'.os=s₁.os/\AllBare s'.gens) s₁) :
  WalkO q loose XP YP l.row.toRowW d [] (fun f vs=>PySem.call f vs):=by
 intro w s₀ s₁ mg mb G Y fa o pm cd doc dV kV ho hd hcd hD hmg hg args vals as hpre hlay hrd hwl hlo;obtain rfl:dV=.none:=Dflts.none hD hdf;obtain rfl:kV=.none:=Dflts.noKw hD;obtain⟨a,vs,ns,rfl,rfl,hobj,hints,hlen⟩:=KL hn hpre hwl;refine enter_call (codeAny_mono (call w s₀ s₁ mg mb fa o pm cd doc a vs ns G Y ho (fd_plain hd) hcd hmg hobj hints hlen hg) fun r s' hq=>?_);obtain⟨rfl,h2,h3,h4⟩:=hq;exact⟨.inl ⟨.bool true,.bool true,[],rfl,fun _=>rfl,.bool true,KW l _,fun _=>⟨List.Pairwise.nil,fun _ hm=>(nomatch hm)⟩⟩,h2,h3,h4⟩
section
variable {prog:Program} {w:World} {A:Around} {E:Value->Shared->Prop} {s:Shared} {K:Frag}
end
end UK
namespace L2
open PySem PySem.Spec PyProof.Rows
theorem CC:∀{vs:List Value} {ns:List Int},IntsAre vs ns->Vals (ns.map V.int) vs
 | _,_,.nil=>.nil
 | _,_,.cons n t h=>.cons ⟨t,rfl⟩ (CC h)
def Rx (H:Hp):Prop:=∀b,H b=none\/∃o xs,H b=some (.nK o (.lst xs))
def Nu {P:Program} {w:World} {K:yA} {mg mb:Str->Option Value} {CX:JI} {k:Nat} {fa a:Addr} {fd:FuncData} {x:Str} {sp:Sp} {s₁:Shared} {vs:List Value} {ns:List Int}
  (KX:K.In s₁.heap) (hns:s₁.heap.Ns mainGlobals mg) (hb:s₁.heap.Ns builtinsNs mb) (hbb:∀x:Str,x≠ "__name__"->mb x=bootBuiltins x) (hlim:s₁.heap.NoLimit) (hg:s₁.gens=#[])
  (ha:s₁.heap.get? a=some {cls:=.type "list",data:=.seq vs.toArray}) (hi:IntsAre vs ns) (hl:ns.length<=sizeLine) (hr:fV k callerA)
  (F:∀base:Heap,K.In base->base.Ns mainGlobals mg->dP P w K mg base CX k fa fd [x] sp) (hbind:∀(s:Shared) (u:Value),BindsTo s fd ⟨[u],[]⟩ [(x,u)])
  (hsp:∀H:Hp,Rx H->aH K H a (ns.map V.int)->sp [.ref a] H (fun v _=>v=.bl true) fun _ _ _=>False)
  (hCX:∀H e s',CX [] H s₁ (fun _ _ _=>False) e s'->False) :
  codeAny (model P w) callerA (.call (.ref fa) ⟨[.ref a],[]⟩) (fun r s'=>r=.ok (.ret (.bool true))/\OldK s₁.heap s'.heap/\s'.os=s₁.os/\AllBare s'.gens) s₁:=by
 have rv:=CC hi;have lenV:=hi.length;have core:∀H:Hp,Rx H->aH K H a (ns.map V.int)->rJ P w H s₁.heap->(∀b,H b≠none->b=a)->(H a≠none->K.lookup a=none)->
   codeAny (model P w) callerA (.call (.ref fa) ⟨[.ref a],[]⟩) (fun r s'=>r=.ok (.ret (.bool true))/\OldK s₁.heap s'.heap/\s'.os=s₁.os/\AllBare s'.gens) s₁:=by
  intro H hO hS cb hA hK;have base_of:∀{b:Addr} {o:Obj},s₁.heap.get? b=some o->H b=none->(EA s₁.heap H).get? b=some o:=fun e n=>Nz e n;have noA:∀{b:Addr} {o:Obj} {es:Array DictEntry} {ep:Nat},s₁.heap.get? b=some o->o.data=.dict es ep->H b=none:=fun {b o es ep} e d=>by
   cases q:H b with
   | none=>rfl
   | some u=>
    have e':b=a:=hA b (by rw[q];simp);subst e';rw[ha] at e;cases e;have d':Data.seq vs.toArray _=Data.dict es ep:=d;cases d'
  have nsK:∀{b:Addr} {m:Str->Option Value},s₁.heap.Ns b m->(EA s₁.heap H).Ns b m:=fun {b m} ⟨o,es,ep,e,d,r⟩=>⟨o,es,ep,base_of e (noA e d),d,r⟩
  have hKb:K.In (EA s₁.heap H):=fun b o e=>base_of (KX b o e) (by
   cases q:H b with
   | none=>rfl
   | some u=>
    have e':b=a:=hA b (by rw[q];simp);subst e';rw[hK (by rw[q];simp)] at e;cases e)
  have hM:Mod K mg (EA s₁.heap H):=⟨hKb,nsK hns,⟨mb,nsK hb,hbb⟩,let ⟨mc,h1,h2⟩:=hlim;⟨mc,nsK h1,h2⟩⟩
  have e0:HR P w K mg (EA s₁.heap H) callerA [] s₁ H:=⟨rfl,hM,fun b o e=>OZ e,Nat.le_of_eq (Lf _ _),trivial,fun b hb=>absurd (show b∈([]:List Addr) from hb) (by simp),cb,.of_eq hg⟩
  refine codeAny_mono ((F _ hKb (nsK hns)).run callerA [] s₁ H ⟨[.ref a],[]⟩ [.ref a] [.ref a] _ _ hr e0 (hbind s₁ (.ref a)) (.cons rfl .nil) (hsp H hO hS)) fun r s' h=>?_;cases r with
  | error e=>exact(hCX H e s' h).elim
  | ok fl=>
   cases fl with
   | next=>exact False.elim h
   | brk=>exact False.elim h
   | cont=>exact False.elim h
   | ret u=>
    obtain⟨v,H',os,bare,un,hok',r',q⟩:=h;have q':v=.bl true:=q;subst q';obtain rfl:u=Value.bool true:=r';refine⟨rfl,OldK.of_keep fun b o e=>?_,os,bare⟩;cases q:H b with
    | none=>exact un.keep b o e q (by intro z;exact absurd (show b∈([]:List Addr) from z) (by simp)) (by simp)
    | some u=>
     rcases hO b with z | ⟨ob,xs,z⟩
     ·rw[q] at z;cases z
     ·have z2:=un.nF b ob _ z
      obtain⟨e1,_⟩:=cb b _ z;obtain⟨e2,_⟩:=hok' b _ z2;rw[e] at e1;cases e1;exact e2
 cases hk:K.lookup a with
 | some o=>
  have e:=KX a o hk;rw[ha] at e;cases e;refine core (fun _=>none) (fun _=>.inl rfl) (.inr ⟨_,vs.toArray,_,hk,rfl,rfl,rfl,by rw[ya,lenV];exact hl,by simpa using rv⟩) (fun b u z=>by have z':(none:Option HO)=some u:=z;cases z') (fun b z=>absurd rfl z) fun z=>absurd rfl z
 | none=>
  refine core (fun b=>if b=a then some (.nK {cls:=.type "list",data:=.seq vs.toArray} (.lst (ns.map V.int))) else none) (fun b=>?_) (.inl (.inr ⟨{cls:=.type "list",data:=.seq vs.toArray},if_pos rfl⟩)) (fun b u z=>?_) (fun b z=>?_) fun _=>hk
  ·by_cases hb:b=a
   ·exact .inr ⟨_,_,if_pos hb⟩
   ·exact .inl (if_neg hb)
  ·by_cases hb:b=a
   ·have z':=(if_pos hb).symm.trans z
    cases z';subst hb;exact⟨ha,by rw[za];exact hl,vs,_,rv,ha⟩
   ·have z':=(if_neg hb).symm.trans z
    cases z'
  ·by_cases hb:b=a
   ·exact hb
   ·exact absurd (if_neg hb) z
end L2
namespace L2
open PySem PySem.Spec PyProof.Rows
def Oj {l:PySem.W.OpenLaw} {n k:Nat} {q:Program} {loose:List Str} {XP:(Str->Option Value)->Heap->Prop} {YP:World->Heap->Prop} {d:DefRec} {K:Params->yA} {CX:World->JI} {sp:World->Sp} {x:Str}
  (hn:l.most=some n) (hn2:n<=sizeLine) (hdf:d.params.defaults=[]) (hr:fV k callerA)
  (hY:∀(w:World) (h:Heap),YP w h->(K w.params).In h)
  (F:∀(w:World) (mg:Str->Option Value) (fa:Addr) (h:Heap),(K w.params).In h->h.Ns mainGlobals mg->mg d.name=some (.ref fa)->
   ∃fd:FuncData,(∀(s:Shared) (u:Value),BindsTo s fd ⟨[u],[]⟩ [(x,u)])/\
    ∀base:Heap,(K w.params).In base->base.Ns mainGlobals mg->dP l.prog w (K w.params) mg base (CX w) k fa fd [x] (sp w))
  (hsp:∀(w:World) (H:Hp) (a:Addr) (ns:List Int),ns.length<=n->Rx H->aH (K w.params) H a (ns.map V.int)->sp w [.ref a] H (fun v _=>v=.bl true) fun _ _ _=>False)
  (hCX:∀(w:World) (H:Hp) (s:Shared) (e:Value) (s':Shared),CX w [] H s (fun _ _ _=>False) e s'->False) :
  PySem.W.WalkO q loose XP YP l.row.toRowW d [] (fun f vs=>PySem.call f vs):=by
 refine UK.HB hn hdf fun w s₀ s₁ mg mb fa o pm cd doc a vs ns G Y ho hd hcd hmg hobj hints hlen hg=>?_;have KX:=hY w _ Y;obtain⟨fd,hb,hF⟩:=F w mg fa _ KX G.T.g hmg;exact Nu KX G.T.g G.T.b G.T.builtins G.T.nolimit hg hobj hints (zL hlen hn2) hr hF hb (fun H hO hS=>hsp w H a ns hlen hO hS) fun H e s'=>hCX w H s₁ e s'
end L2
namespace L2
open PySem PySem.Spec PyProof.Rows
def inClass (s:Stmt) (j:Nat):Stmt:=match s with
 | .ClassDef _ _ _ body _ _ _ _ _ _ _=>body.getD j (.Pass ⟨0,0,0,0⟩)
 | _=>.Pass ⟨0,0,0,0⟩
def di (s:Stmt):Arguments:=match s with
 | .FunctionDef _ a _ _ _ _ _ _ _ _=>a
 | _=>{posonlyargs:=[],args:=[],vararg:=none,kwonlyargs:=[],kw_defaults:=[],kwarg:=none,defaults:=[]}
def cz (s:Stmt):List Stmt:=match s with
 | .FunctionDef _ _ b _ _ _ _ _ _ _=>b
 | _=>[]
def ao (s:Stmt):Scope:=match s with
 | .FunctionDef _ _ _ _ _ _ sc _ _ _=>sc
 | _=>{kind:=.function,names:=[],isGenerator:=false,isCoroutine:=false}
abbrev HU:JI:=fun _ _ _ _ _ _=>False
abbrev E0:XK:=fun _ _ _=>False
def J1:Passes HU X E0:=fun _ _ _ _ _ _ _ h=>h.elim
structure N9 (K:yA) (x qual:Str) (st:Stmt) (f:Addr) (fd:FuncData):Prop where
 ex:∃(oc:Value) (od:Option Addr) (kV doc pm:Value) (an:Option Addr) (cdv ct:Value) (osl:Array (Option Value)),
  fd=PySem.W.fnOf x qual (di st) (cz st) (ao st) .none kV doc pm an cdv ct/\K.lookup f=some ⟨oc,od,.func fd,osl⟩/\PySem.W.codeIn K cdv qual=true
 kp:PySem.W.keepIn K (.ref f)=true
section
variable {P:Program} {w:World} {K:yA} {mg:Str->Option Value} {base:Heap}
def N9.ok {x qual:Str} {st:Stmt} {f:Addr} {fd:FuncData} {N ps:List Str} {k:Nat} {sp:Sp} (F:N9 K x qual st f fd) (S:aD N ps (ao st)) (len:∀vs H Q E,sp vs H Q E->vs.length=ps.length)
  (hbody:∀(cdv:Value) (A:Around) (outer:List Env) (s:Shared) (H:Hp) (vs:List V) (Q:VK) (E:XK),fV k (A.deeper (envOfC qual (ao st) ↑s f cdv))->sp vs H Q E->
   ∃t,Dv (kG HU P w K mg base N qual (ao st) f cdv A outer s H E).IG (cz st) t/\t {nx:=fun _ H'=>Q .bI H',rt:=Q} (start N vs) H):dP P w K mg base HU (k+1) f fd ps sp:=by
 obtain⟨oc,od,kV,doc,pm,an,cdv,ct,osl,rfl,lk,hcd⟩:=F.ex;refine P5 lk hcd S len fun A outer s H vs Q E hr hsp=>?_;obtain⟨t,h,q⟩:=hbody cdv A outer s H vs Q E hr hsp;exact⟨t,h.IG,q⟩
def N9.binds {x qual:Str} {st:Stmt} {f:Addr} {fd:FuncData} {ps:List Str} (F:N9 K x qual st f fd)
  (h:∀(kV doc pm:Value) (an:Option Addr) (cdv ct:Value) (us:List Value),us.length=ps.length->bindArgs (PySem.W.fnOf x qual (di st) (cz st) (ao st) .none kV doc pm an cdv ct) ⟨us,[]⟩=pure (ps.zip us)):Binds K fd ps []:=by
 obtain⟨oc,od,kV,doc,pm,an,cdv,ct,osl,rfl,lk,hcd⟩:=F.ex;exact .all (h kV doc pm an cdv ct)
def kE {x qual:Str} {st:Stmt} {f:Addr} {oc:Value} {od an:Option Addr} {osl:Array (Option Value)} {kV doc pm cdv ct:Value} (l:K.lookup f=some ⟨oc,od,.func (PySem.W.fnOf x qual (di st) (cz st) (ao st) .none kV doc pm an cdv ct),osl⟩)
  (c:PySem.W.codeIn K cdv qual=true) (k:PySem.W.keepIn K (.ref f)=true):N9 K x qual st f (PySem.W.fnOf x qual (di st) (cz st) (ao st) .none kV doc pm an cdv ct):=⟨⟨oc,od,kV,doc,pm,an,cdv,ct,osl,rfl,l,c⟩,k⟩
end
def iK (hr:fV k A):A.units+1<cLine:=Nat.lt_of_le_of_lt (Nat.add_le_add_left (by decide:1<=64) _) hr.units
section
variable {X:Cx}
def pv (i:Nat) (hN:X.N[i]?=some x<|>qe_) (hv:Rv X.env.scope x<|>qg_) (hd:(x == ("__debug__": Str))=false<|>qb_)
  (hcd:(x == ("__classdict__": Str))=false<|>qb_):PE X (.Name x pos) (aV i):=QO hN hv hd hcd
end
def Sn {A B:Prop} (h:B):if false=true then A else B:=by
 rw[if_neg zK];exact h
def Ug {A B:Prop} (h:A):if true=true then A else B:=by
 rw[if_pos rfl];exact h
def wO {c A B:Prop} [Decidable c] (h1:c->A) (h2:¬c->B):if c then A else B:=by
 by_cases h:c
 ·rw[if_pos h]
  exact h1 h
 ·rw[if_neg h]
  exact h2 h
def P1 {c A B:Prop} [Decidable c] (hc:c) (h:B):if(!decide c)=true then A else B:=by
 rw[ze hc];exact Sn h
def au (H H':Hp):Prop:=∀b o,H b=some o->H' b=some o
def au.refl (H:Hp):au H H:=fun _ _ h=>h
def au.trans (a:au H H1) (b:au H1 H2):au H H2:=fun c o h=>b c o (a c o h)
def au.seq {K:yA} {H H':Hp} {a:Addr} {xs:List V} (e:au H H') (h:aH K H a xs):aH K H' a xs:=by
 rcases h with(h | ⟨o,h⟩) | h
 ·exact .inl (.inl (e _ _ h))
 ·exact .inl (.inr ⟨o,e _ _ h⟩)
 ·exact .inr h
end L2
namespace Lm
def red (t b:Int):Int×Int:=(t/(Int.gcd t b:Int),b/(Int.gcd t b:Int))
def xC {t b:Int} (hb:0<b):0<(Int.gcd t b:Int):=by
 have:0<Int.gcd t b:=Int.gcd_pos_of_ne_zero_right t nofun;omega
def sL {t b k:Int} (hk:0<k) (hb:0<b):red (k*t) (k*b)=red t b:=by
 have g0:=xC (t:=t) hb;have e:(Int.gcd (k*t) (k*b):Int)=k*(Int.gcd t b:Int):=by
  rw[Int.gcd_mul_left];simp only[Int.natCast_mul];rw[Int.natAbs_of_nonneg nofun]
 unfold red;rw[e,Int.mul_ediv_mul_of_pos _ _ hk,Int.mul_ediv_mul_of_pos _ _ hk]
def lR {t b:Int} (hb:0<b):∃g,0<g/\t=g*(red t b).1/\b=g*(red t b).2/\0<(red t b).2/\(red t b).2<=b:=by
 have g0:=xC (t:=t) hb;have d1:(Int.gcd t b:Int) ∣ t:=Int.gcd_dvd_left ..;have d2:(Int.gcd t b:Int) ∣ b:=Int.gcd_dvd_right ..;have e1:(Int.gcd t b:Int)*(t/(Int.gcd t b:Int))=t:=Int.mul_ediv_cancel' d1;have e2:(Int.gcd t b:Int)*(b/(Int.gcd t b:Int))=b:=Int.mul_ediv_cancel' d2;refine⟨_,g0,e1.symm,e2.symm,?_,?_⟩
 ·exact Int.ediv_pos_of_pos_of_dvd hb nofun d2
 ·exact zW _ nofun
def y8 {t b:Int} (ht:0<=t):0<=(red t b).1:=zV ht (Int.natCast_nonneg _)
def y9 {t b:Int} (ht:0<=t):(red t b).1<=t:=zW _ ht
def OG {t b:Int} (hb:0<b):red (red t b).1 (red t b).2=red t b:=by
 obtain⟨g,g0,e1,e2,p,_⟩:=lR (t:=t) hb;have h:=sL (t:=(red t b).1) (b:=(red t b).2) g0 p;rw[<-e1,<-e2] at h;exact h.symm
def add (x y:Int×Int):Int×Int:=red (x.1*y.2+y.1*x.2) (x.2*y.2)
def Pr {t b s c:Int} (hb:0<b) (hc:0<c):add (red t b) (red s c)=red (t*c+s*b) (b*c):=by
 obtain⟨g,g0,e1,e2,p,_⟩:=lR (t:=t) hb;obtain⟨k,k0,f1,f2,q,_⟩:=lR (t:=s) hc;unfold add;generalize hx:red t b=x at *;generalize hy:red s c=y at *;have h:=sL (t:=x.1*y.2+y.1*x.2) (b:=x.2*y.2) (Int.mul_pos g0 k0) (Int.mul_pos p q);rw[<-h]
 congr 1
 ·rw[e1,e2,f1,f2,Int.mul_add]
  congr 1 <;> simp only[Int.mul_assoc,Int.mul_left_comm,Int.mul_comm]
 ·rw[e2,f2];simp only[Int.mul_assoc,Int.mul_left_comm,Int.mul_comm]
end Lm
namespace Lm
def Rd (x:Int×Int):Prop:=∃t b,0<=t/\0<b/\x=red t b
def Rd.of {t b:Int} (ht:0<=t) (hb:0<b):Rd (red t b):=⟨t,b,ht,hb,rfl⟩
def Rd.pos {x:Int×Int} (h:Rd x):0<=x.1/\0<x.2/\red x.1 x.2=x:=by
 obtain⟨t,b,ht,hb,rfl⟩:=h;obtain⟨g,g0,e1,e2,p,_⟩:=lR (t:=t) hb;exact⟨y8 ht,p,OG hb⟩
def Rd.zero:Rd (0,1):=⟨0,1,∅,∅,∅⟩
theorem Rd.add {x y:Int×Int} (h:Rd x) (k:Rd y):Rd (add x y):=by
 obtain⟨a,b,_⟩:=h.pos;obtain⟨c,d,_⟩:=k.pos;refine⟨_,_,?_,Int.mul_pos b d,rfl⟩;exact Int.add_nonneg (Int.mul_nonneg a nofun) (Int.mul_nonneg c nofun)
def GQ {x y:Int} (hx:0<=x) (hy:0<y):Int.gcd y (x%y)=Int.gcd x y:=by
 have e:(x%y).natAbs=x.natAbs%y.natAbs:=by
  obtain⟨a,rfl⟩:=yK hx;obtain⟨b,rfl⟩:=yK (Int.le_of_lt hy);rfl
 show Nat.gcd y.natAbs (x%y).natAbs=Nat.gcd x.natAbs y.natAbs;rw[e,Nat.gcd_comm x.natAbs,Nat.gcd_rec y.natAbs x.natAbs,Nat.gcd_comm]
def ND {t b:Int} (hb:0<b):(Int.gcd t b:Int)<=b:=by
 have h:Int.gcd t b<=b.natAbs:=Nat.gcd_le_right _ nofun;omega
end Lm
namespace Lm
end Lm
namespace Lm
theorem Kh {c:Nat}:∀{p q A B:List Nat},c∉p->c∉q->p++c::A=q++c::B->p=q/\A=B
 | [],[],A,B,_,_,h=>⟨rfl,by simpa using h⟩
 | [],y::q,A,B,_,hq,h=>by
  simp at h;exact absurd (by rw[h.1];exact zp) hq
 | x::p,[],A,B,hp,_,h=>by
  simp at h;exact absurd (by rw[<-h.1];exact zp) hp
 | x::p,y::q,A,B,hp,hq,h=>by
  simp only[List.cons_append,List.cons.injEq] at h;obtain⟨e,h⟩:=h;obtain⟨e1,e2⟩:=Kh (fun z=>hp (zm _ z)) (fun z=>hq (zm _ z)) h;exact⟨by rw[e,e1],e2⟩
def NA:∀(n:Nat),0<n->∃c r,Nat.toDigits 10 n=c::r/\c≠'0':=by
 intro n
 induction n using Nat.strongRecOn with
 | _ n ih=>
  intro hn
  by_cases h:n<10
  ·rw[Nat.toDigits_of_lt_base h]
   refine⟨_,[],rfl,?_⟩;exact(by decide:∀n<10,0<n->Nat.digitChar n≠'0') n h hn
  ·have hd:n%10<10:=Nat.mod_lt _ ∅
   obtain⟨c,r,e,hc⟩:=ih (n/10) nofun nofun;have t:=Nat.toDigits_append_toDigits (b:=10) (n:=n/10) (d:=n%10) ∅ nofun hd;rw[Nat.div_add_mod,e] at t;exact⟨c,r++Nat.toDigits 10 (n%10),by rw[<-t];rfl,hc⟩
def Q3 {n k:Nat} (hk:0<k):n<10^k->(Nat.toDigits 10 n).length<=k:=by
 intro h
 induction k generalizing n with
 | zero=>omega
 | succ k ih=>
  by_cases h10:n<10
  ·rw[Nat.toDigits_of_lt_base h10];simp
  ·have hd:n%10<10:=Nat.mod_lt _ ∅
   have hk0:0<k:=by
    rcases Nat.eq_zero_or_pos k with rfl | z
    ·simp at h;omega
    ·exact z
   have:=ih hk0 (n:=n/10) (by rw[Nat.div_lt_iff_lt_mul ∅];rw[Nat.pow_succ] at h;exact h);have t:=Nat.toDigits_append_toDigits (b:=10) (n:=n/10) (d:=n%10) ∅ nofun hd;rw[Nat.div_add_mod] at t;rw[<-t,zg,Nat.toDigits_of_lt_base hd];simp;omega
end Lm
namespace L2
open PySem
def fB (t:Bool) (h:Heap) (a:Addr) (items:Array Value):Prop:=match t with
 | true=>h.IsTuple a items
 | false=>h.IsList a items
def dy (t:Bool) (h:Heap) (it a:Addr) (k:Nat):Prop:=match t with
 | true=>h.IsTupleIter it a k
 | false=>h.IsListIter it a k
def tG (t:Bool) (a:Addr):Obj:=match t with
 | true=>{cls:=.type "tuple_iterator",data:=.fields #[.ref a,.int 0 0]}
 | false=>{cls:=.type "list_iterator",data:=.fields #[.ref a,.int 0 0]}
theorem fB.at {t:Bool} {h h':Heap} {a:Addr} {items:Array Value} (x:fB t h a items) (e:∀o,h.get? a=some o->h'.get? a=some o):fB t h' a items:=by
 cases t
 ·exact Heap.IsList.at x e
 ·obtain⟨o,ho,r⟩:=x;exact⟨o,e o ho,r⟩
theorem dy.at {t:Bool} {h h':Heap} {it a:Addr} {k:Nat} (x:dy t h it a k) (e:∀o,h.get? it=some o->h'.get? it=some o):dy t h' it a k:=by
 cases t
 ·exact Heap.IsListIter.at x e
 ·exact Heap.IsTupleIter.at x e
def fB.but {t:Bool} {h h':Heap} {a b:Addr} {items:Array Value} (x:fB t h a items) (hs:Heap.SameBut b h h') (n:a≠b):fB t h' a items:=x.at fun o e=>hs.extBut a o n e
def dy.but {t:Bool} {h h':Heap} {it a b:Addr} {k:Nat} (x:dy t h it a k) (hs:Heap.SameBut b h h') (n:it≠b):dy t h' it a k:=x.at fun o e=>hs.extBut it o n e
theorem dy.get {t:Bool} {h:Heap} {it a:Addr} {k:Nat} (x:dy t h it a k):∃o,h.get? it=some o/\∀v,o.data≠.cell v:=by
 cases t
 ·obtain⟨o,e,_,d⟩:=x;exact⟨o,e,fun v z=>by rw[d] at z;cases z⟩
 ·obtain⟨o,e,_,d⟩:=x;exact⟨o,e,fun v z=>by rw[d] at z;cases z⟩
def dy.new (t:Bool) (h:Heap) (a:Addr):dy t (h.push (tG t a)) h.objs.size a 0:=by
 cases t
 ·exact⟨_,yw _ rfl,rfl,rfl⟩
 ·exact⟨_,yw _ rfl,rfl,rfl⟩
section
variable {prog:Program} {w:World} {A:Around} {E:Value->Shared->Prop} {s:Shared}
def JU {t:Bool} {a:Addr} {items:Array Value} {Q:Value->Shared->Prop} (hl:fB t s.heap a items) (hQ:Q (.ref ↑s) {s with heap:=s.heap.push (tG t a)}) :
  wpAny (model prog w) A (pyIter (.ref a)) Q E s:=by
 cases t
 ·exact wpAny_pyIter_list hl hQ
 ·exact wpAny_pyIter_tuple hl hQ
def rP {t:Bool} {it a:Addr} {i:Nat} {items:Array Value} {x:Value} {Q:Value->Shared->Prop} (hit:dy t s.heap it a i) (hl:fB t s.heap a items) (hx:items[i]?=some x)
  (hQ:∀h',dy t h' it a (i+1)->Heap.SameBut it s.heap h'->Q x {s with heap:=h'}):wpAny (model prog w) A (Builtin.SmallTypes.nextOf (.ref it)) Q E s:=by
 cases t
 ·exact wpAny_nextOf_list_item hit hl hx hQ
 ·have hit':s.heap.IsTupleIter it a i:=hit
  obtain⟨o,ho,hc,hd⟩:=id hit';obtain⟨ol,hol,_,nl,hdl⟩:=(show s.heap.IsTuple a items from hl)
  unfold Builtin.SmallTypes.nextOf;refine yt (wpAny_callSpecial?_slot (name:=Str.ofString "__next__") hit'.typeIs F.slot_tuple_iterator_next (wpAny_call_entry F.slot_tuple_iterator_next hit'.typeIs F.entry_tuple_iterator_next ?_ (F.args_tuple_iterator_next_1 _)));show wpAny _ _ (field (.ref it) 0 >>= _) _ _ s;refine yt (wpAny_field ho hd (x:=.ref a) rfl ?_);show wpAny _ _ (if(Value.ref a == Value.none)=true then _ else _) _ _ s;rw[if_neg (show¬((Value.ref a == Value.none)=true) from zK)];show wpAny _ _ (field (.ref it) 1 >>= _) _ _ s;refine yt (wpAny_field ho hd (x:=.int i 0) rfl ?_);show wpAny _ _ (seqItems? (.ref a) >>= _) _ _ s;refine yt (wpAny_seqItems hol hdl ?_);simp only[Int.toNat_natCast,hx];refine yt (wpAny_setField ho hd (by simp) (yv ⟨x,rfl,yv (hQ _ ?_ (Heap.SameBut.update ..))⟩));exact⟨_,yz _ ho (Obj.isFreed_of_fields (Obj.data_mapFields hd _)),(Obj.cls_mapFields ..).trans hc,by rw[Obj.data_mapFields hd];simp[rawInt]⟩
def DI {t:Bool} {it a:Addr} {i:Nat} {items:Array Value} {Q:Value->Shared->Prop} (hh:A.handled=none) (hit:dy t s.heap it a i) (hl:fB t s.heap a items) (hx:items[i]?=none)
  (hE:∀h' e,Heap.ExtBut it s.heap h'->(∃o,h'.get? e=some o/\o.cls=.type "StopIteration")->E (.ref e) {s with heap:=h'}):wpAny (model prog w) A (Builtin.SmallTypes.nextOf (.ref it)) Q E s:=by
 cases t
 ·exact wpAny_nextOf_list_end hh hit hl hx hE
 ·have hit':s.heap.IsTupleIter it a i:=hit
  obtain⟨o,ho,hc,hd⟩:=id hit';obtain⟨ol,hol,_,nl,hdl⟩:=(show s.heap.IsTuple a items from hl)
  unfold Builtin.SmallTypes.nextOf;refine yt (wpAny_callSpecial?_slot (name:=Str.ofString "__next__") hit'.typeIs F.slot_tuple_iterator_next (wpAny_call_entry F.slot_tuple_iterator_next hit'.typeIs F.entry_tuple_iterator_next ?_ (F.args_tuple_iterator_next_1 _)));show wpAny _ _ (field (.ref it) 0 >>= _) _ _ s;refine yt (wpAny_field ho hd (x:=.ref a) rfl ?_);show wpAny _ _ (if(Value.ref a == Value.none)=true then _ else _) _ _ s;rw[if_neg (show¬((Value.ref a == Value.none)=true) from zK)];show wpAny _ _ (field (.ref it) 1 >>= _) _ _ s;refine yt (wpAny_field ho hd (x:=.int i 0) rfl ?_);show wpAny _ _ (seqItems? (.ref a) >>= _) _ _ s;refine yt (wpAny_seqItems hol hdl ?_);simp only[Int.toNat_natCast,hx];refine yt (wpAny_rule (yt (wpAny_setField ho hd (by simp) ?_)));show wpAny _ _ (newExc (.type "StopIteration") [] >>= _) _ _ _;refine yt ?_;simp only[newExc,newTuple];refine yt (wpAny_newObj_type ?_ (by size_fits));refine yt (m:=firstArgMember _ _) (wpAny_of_eq (a:=Value.none) (by first | rfl | (simp only[firstArgMember];rfl)) (wpAny_newObj_type ?_ (by size_fits)));simp only[raiseNew];refine yt (wpAny_handled ?_)
  first | rw[show A.in1.handled=none from hh] | rw[hh]
  exact yt (yv (wpAny_throw (hE _ _ (((Heap.SameBut.update ..).extBut.push _).push _) ⟨_,yw _ rfl,rfl⟩)))
structure LM (z TI TO i1 i2:Addr):Prop where
 a1:TI≠z
 a2:TO≠z
 a3:i1≠z
 a4:i2≠z
 a5:TI≠TO
 a6:TI≠i1
 a7:TI≠i2
 a8:TO≠i1
 a9:TO≠i2
 b1:i1≠i2
structure Bt (l z TO i1 i2:Addr):Prop where
 a1:l≠z
 a2:l≠TO
 a3:l≠i1
 a4:l≠i2
def tY (z TO i1 i2:Addr) (h h':Heap):Prop:=∀c o,c≠z->c≠TO->c≠i1->c≠i2->h.get? c=some o->h'.get? c=some o
structure Oe (t1 t2:Bool) (h:Heap) (z TI TO i1 i2 l1 l2:Addr) (k:Nat) (f0:Value):Prop where
 z:IsZip h z TI TO f0
 ti:IsPair h TI (.ref i1) (.ref i2)
 to:∃a b,IsPair h TO a b
 i1:dy t1 h i1 l1 k
 i2:dy t2 h i2 l2 k
def L6 {t1 t2:Bool} {z TI TO i1 i2 l1 l2:Addr} {k:Nat} {xs ys:Array Value} {x y:Value} {Q:Value->Shared->Prop} (D:LM z TI TO i1 i2) (L1:Bt l1 z TO i1 i2) (L2:Bt l2 z TO i1 i2)
  (S:Oe t1 t2 s.heap z TI TO i1 i2 l1 l2 k .none) (hl1:fB t1 s.heap l1 xs) (hl2:fB t2 s.heap l2 ys) (hx:xs[k]?=some x) (hy:ys[k]?=some y)
  (hQ:∀h',Oe t1 t2 h' z TI TO i1 i2 l1 l2 (k+1) (rawInt ↑s)->IsPair h' ↑s x y->tY z TO i1 i2 s.heap h'->Q (.ref ↑s) {s with heap:=h'}) :
  wpAny (model prog w) A (Builtin.«zip.__next__» ⟨[.ref z],[]⟩) (fun fin s'=>∃v,fin=.done (.ret v)/\Q v s') E s:=by
 obtain⟨hz,hTI,⟨a,b,hTO⟩,h1,h2⟩:=S;show wpAny _ _ (field (.ref z) 2 >>= _) _ _ _;refine yt (wpAny_field hz rfl (x:=.bool false) rfl ?_);show wpAny _ _ (field (.ref z) 3 >>= _) _ _ _;refine yt (wpAny_field hz rfl (x:=.ref TI) rfl (yt (wpAny_seqItems hTI rfl ?_)));show wpAny _ _ (Builtin.SmallTypes.ownedTupleIsFree (.ref z) >>= _) _ _ _;refine yt ?_;unfold Builtin.SmallTypes.ownedTupleIsFree;refine yt (wpAny_field hz rfl (x:=.none) rfl (yv ?_));simp only[if_true];refine yt (wpAny_rule (yt (wpAny_field hz rfl (x:=.ref TO) rfl (yt (wpAny_setField_rec hz (by simp) fun g1 z1 q1=>?_)))));replace z1:IsZip g1 z TI TO .ellipsis:=z1;refine yt ?_;simp only[List.zipIdx_cons,List.zipIdx_nil,List.forIn_cons,List.forIn_nil];refine yt (yt (wpAny_onRaise ?_));show wpAny _ _ (Builtin.SmallTypes.nextOf (.ref i1) >>= _) _ _ _;refine yt (rP (h1.but q1 D.a3) (hl1.but q1 L1.a1) hx fun g2 p2 q2=>yv ?_);have o2:IsPair g2 TO a b:=q2.extBut _ _ D.a8 (q1.extBut _ _ D.a2 hTO);refine yt (wpAny_seqItems o2 rfl (yt (wpAny_updateSeq_pair o2 fun g3 o3 q3=>yt (wpAny_letGo (yv (yt (yt (wpAny_onRaise ?_))))))));replace o3:IsPair g3 TO x b:=o3;show wpAny _ _ (Builtin.SmallTypes.nextOf (.ref i2) >>= _) _ _ _;refine yt (rP (((h2.but q1 D.a4).but q2 D.b1.symm).but q3 D.a9.symm) (((hl2.but q1 L2.a1).but q2 L2.a3).but q3 L2.a2) hy fun g4 p4 q4=>yv ?_);have o4:IsPair g4 TO x b:=q4.extBut _ _ D.a9 o3;refine yt (wpAny_seqItems o4 rfl (yt (wpAny_updateSeq_pair o4 fun g5 o5 q5=>yt (wpAny_letGo (yv (yv ?_))))));replace o5:IsPair g5 TO x y:=o5;refine yt (wpAny_seqItems o5 rfl (yt (wpAny_newTuple ?_)));have sz:g5.objs.size=↑s:=by rw[q5.1,q4.1,q3.1,q2.1,q1.1]
 have z5:IsZip g5 z TI TO .ellipsis:=q5.extBut _ _ D.a2.symm (q4.extBut _ _ D.a4.symm (q3.extBut _ _ D.a2.symm (q2.extBut _ _ D.a3.symm z1)));have k5:tY z TO i1 i2 s.heap g5:=fun c o c1 c2 c3 c4 e=>q5.extBut _ _ c2 (q4.extBut _ _ c4 (q3.extBut _ _ c2 (q2.extBut _ _ c3 (q1.extBut _ _ c1 e))));have r1:dy t1 g5 i1 l1 (k+1):=((p2.but q3 D.a8.symm).but q4 D.b1).but q5 D.a8.symm;have r2:dy t2 g5 i2 l2 (k+1):=p4.but q5 D.a9.symm;have zl:z<g5.objs.size:=yx z5;show wpAny _ _ (Builtin.SmallTypes.ownedTupleHandOut (.ref z) (.ref g5.objs.size) >>= _) _ _ _;refine yt ?_;unfold Builtin.SmallTypes.ownedTupleHandOut;have z6:IsZip (g5.push {cls:=.type "tuple",data:=.seq #[x,y]}) z TI TO .ellipsis:=yu _ z5;refine yt (wpAny_setField_rec z6 (by simp) fun g7 z7 q7=>?_);replace z7:IsZip g7 z TI TO (rawInt g5.objs.size):=z7;refine wpAny_setField_rec z7 (by simp) fun g8 z8 q8=>?_;replace z8:IsZip g8 z TI TO (rawInt g5.objs.size):=z8;have up:∀c o,c≠z->g5.get? c=some o->g8.get? c=some o:=fun c o c1 e=>q8.extBut _ _ c1 (q7.extBut _ _ c1 (yu _ e));have t8:IsPair g8 g5.objs.size x y:=q8.extBut _ _ (yh zl) (q7.extBut _ _ (yh zl) (yw _ rfl));rw[sz] at z8 t8;refine yv ⟨_,rfl,?_⟩;show Q (.ref g5.objs.size) _;rw[sz];exact hQ g8 ⟨z8,up _ _ D.a1 (k5 _ _ D.a1 D.a5 D.a6 D.a7 hTI),⟨_,_,up _ _ D.a2 o5⟩,r1.at fun o e=>up _ o D.a3 e,r2.at fun o e=>up _ o D.a4 e⟩ t8 fun c o c1 c2 c3 c4 e=>up c o c1 (k5 c o c1 c2 c3 c4 e)
def L5 {t1 t2:Bool} {z TI TO i1 i2 l1 l2:Addr} {k:Nat} {xs ys:Array Value} {Q:Fin->Shared->Prop} (hh:A.handled=none) (D:LM z TI TO i1 i2) (L1:Bt l1 z TO i1 i2) (L2:Bt l2 z TO i1 i2)
  (S:Oe t1 t2 s.heap z TI TO i1 i2 l1 l2 k .none) (hl1:fB t1 s.heap l1 xs) (hl2:fB t2 s.heap l2 ys) (hend:xs[k]?=none\/ys[k]?=none)
  (hE:∀h' e,tY z TO i1 i2 s.heap h'->(∃o,h'.get? e=some o/\o.cls=.type "StopIteration")->E (.ref e) {s with heap:=h'}) :
  wpAny (model prog w) A (Builtin.«zip.__next__» ⟨[.ref z],[]⟩) Q E s:=by
 obtain⟨hz,hTI,⟨a,b,hTO⟩,h1,h2⟩:=S;show wpAny _ _ (field (.ref z) 2 >>= _) _ _ _;refine yt (wpAny_field hz rfl (x:=.bool false) rfl ?_);show wpAny _ _ (field (.ref z) 3 >>= _) _ _ _;refine yt (wpAny_field hz rfl (x:=.ref TI) rfl (yt (wpAny_seqItems hTI rfl ?_)));show wpAny _ _ (Builtin.SmallTypes.ownedTupleIsFree (.ref z) >>= _) _ _ _;refine yt ?_;unfold Builtin.SmallTypes.ownedTupleIsFree;refine yt (wpAny_field hz rfl (x:=.none) rfl (yv ?_));simp only[if_true];refine yt (wpAny_rule (yt (wpAny_field hz rfl (x:=.ref TO) rfl (yt (wpAny_setField_rec hz (by simp) fun g1 z1 q1=>?_)))));replace z1:IsZip g1 z TI TO .ellipsis:=z1;refine yt ?_;simp only[List.zipIdx_cons,List.zipIdx_nil,List.forIn_cons,List.forIn_nil];refine yt (yt (wpAny_onRaise ?_));show wpAny _ _ (Builtin.SmallTypes.nextOf (.ref i1) >>= _) _ _ _;cases hx:xs[k]? with
 | none=>
  refine yt (DI hh (h1.but q1 D.a3) (hl1.but q1 L1.a1) hx fun g2 e q2 he=>?_);obtain⟨oe,hoe,hce⟩:=he;have z2:IsZip g2 z TI TO .ellipsis:=q2 _ _ D.a3.symm z1;have hez:e≠z:=fun x=>by subst x;rw[z2] at hoe;cases hoe;simp at hce
  exact wpAny_setField_rec z2 (by simp) fun g3 _ q3=>hE g3 e (fun c o c1 _ c3 _ x=>q3.extBut _ _ c1 (q2 _ _ c3 (q1.extBut _ _ c1 x))) ⟨oe,q3.extBut _ _ hez hoe,hce⟩
 | some x=>
  have hy:ys[k]?=none:=by rcases hend with h | h;rw[hx] at h;cases h;exact h
  refine yt (rP (h1.but q1 D.a3) (hl1.but q1 L1.a1) hx fun g2 p2 q2=>yv ?_);have o2:IsPair g2 TO a b:=q2.extBut _ _ D.a8 (q1.extBut _ _ D.a2 hTO);refine yt (wpAny_seqItems o2 rfl (yt (wpAny_updateSeq_pair o2 fun g3 o3 q3=>yt (wpAny_letGo (yv (yt (yt (wpAny_onRaise ?_))))))));show wpAny _ _ (Builtin.SmallTypes.nextOf (.ref i2) >>= _) _ _ _;refine yt (DI hh (((h2.but q1 D.a4).but q2 D.b1.symm).but q3 D.a9.symm) (((hl2.but q1 L2.a1).but q2 L2.a3).but q3 L2.a2) hy fun g4 e q4 he=>?_);obtain⟨oe,hoe,hce⟩:=he;have z4:IsZip g4 z TI TO .ellipsis:=q4 _ _ D.a4.symm (q3.extBut _ _ D.a2.symm (q2.extBut _ _ D.a3.symm z1));have hez:e≠z:=fun x=>by subst x;rw[z4] at hoe;cases hoe;simp at hce
  exact wpAny_setField_rec z4 (by simp) fun g5 _ q5=>hE g5 e (fun c o c1 c2 c3 c4 x=>q5.extBut _ _ c1 (q4 _ _ c4 (q3.extBut _ _ c2 (q2.extBut _ _ c3 (q1.extBut _ _ c1 x))))) ⟨oe,q5.extBut _ _ hez hoe,hce⟩
def FE {t1 t2:Bool} {z TI TO i1 i2 l1 l2:Addr} {k:Nat} {xs ys:Array Value} {x y:Value} {Q:Option Value->Shared->Prop} (D:LM z TI TO i1 i2) (L1:Bt l1 z TO i1 i2) (L2:Bt l2 z TO i1 i2)
  (S:Oe t1 t2 s.heap z TI TO i1 i2 l1 l2 k .none) (hl1:fB t1 s.heap l1 xs) (hl2:fB t2 s.heap l2 ys) (hx:xs[k]?=some x) (hy:ys[k]?=some y)
  (hQ:∀h',Oe t1 t2 h' z TI TO i1 i2 l1 l2 (k+1) (rawInt ↑s)->IsPair h' ↑s x y->tY z TO i1 i2 s.heap h'->Q (some (.ref ↑s)) {s with heap:=h'}) :
  wpAny (model prog w) A (pyNext (.ref z)) Q E s:=by
 have hT:s.TypeIs (.ref z) "zip":=⟨_,S.z,rfl⟩
 unfold pyNext;exact yt (wpAny_attempt (wpAny_callSpecial?_slot (name:=Str.ofString "__next__") hT F.slot_zip_next (wpAny_call_entry F.slot_zip_next hT F.entry_zip_next (L6 D L1 L2 S hl1 hl2 hx hy fun h' a1 a2 a3=>yv (hQ h' a1 a2 a3)) (F.args_zip_next_1 _))))
def FC {t1 t2:Bool} {z TI TO i1 i2 l1 l2:Addr} {k:Nat} {xs ys:Array Value} {Q:Option Value->Shared->Prop} (hh:A.handled=none) (D:LM z TI TO i1 i2) (L1:Bt l1 z TO i1 i2) (L2:Bt l2 z TO i1 i2)
  (S:Oe t1 t2 s.heap z TI TO i1 i2 l1 l2 k .none) (hl1:fB t1 s.heap l1 xs) (hl2:fB t2 s.heap l2 ys) (hend:xs[k]?=none\/ys[k]?=none)
  (hQ:∀h',tY z TO i1 i2 s.heap h'->Q none {s with heap:=h'}):wpAny (model prog w) A (pyNext (.ref z)) Q E s:=by
 have hT:s.TypeIs (.ref z) "zip":=⟨_,S.z,rfl⟩
 unfold pyNext;refine yt (wpAny_attempt (wpAny_callSpecial?_slot (name:=Str.ofString "__next__") hT F.slot_zip_next (wpAny_call_entry F.slot_zip_next hT F.entry_zip_next (L5 hh D L1 L2 S hl1 hl2 hend fun h' e hk he=>?_) (F.args_zip_next_1 _))));obtain⟨o,ho,hc⟩:=he;exact yt (wpAny_isInstance (T:="StopIteration") (b:=true) ⟨o,ho,hc⟩ isSubtype_stop (yv (hQ _ hk)))
end
abbrev SY (t1:Bool) (h:Heap) (l1:Addr):Heap:=h.push (tG t1 l1)
abbrev RG (t1 t2:Bool) (h:Heap) (l1 l2:Addr):Heap:=(SY t1 h l1).push (tG t2 l2)
abbrev SX (t1 t2:Bool) (h:Heap) (l1 l2:Addr):Heap:=(RG t1 t2 h l1 l2).push {cls:=.type "tuple",data:=.seq #[.ref h.objs.size,.ref (SY t1 h l1).objs.size]}
abbrev SW (t1 t2:Bool) (h:Heap) (l1 l2:Addr):Heap:=(SX t1 t2 h l1 l2).push {cls:=.type "tuple",data:=.seq #[.none,.none]}
abbrev Qc (t1 t2:Bool) (h:Heap) (l1 l2:Addr):Heap:=(SW t1 t2 h l1 l2).push {cls:=.type "zip",data:=.fields #[.none,.bool false,.bool false,.ref (RG t1 t2 h l1 l2).objs.size,.ref (SX t1 t2 h l1 l2).objs.size]}
def L8 (t1 t2:Bool) (l1 l2:Addr) (xs ys:Array Value) :
  Meets (Builtin.«zip.__new__» ⟨[.type "zip",.ref l1,.ref l2],[]⟩) (fun _ R s=>fB t1 s.heap l1 xs/\fB t2 s.heap l2 ys/\R (.ok (.ret (.ref (SW t1 t2 s.heap l1 l2).objs.size))) {s with heap:=Qc t1 t2 s.heap l1 l2}):=
 .of_wp fun prog w A R s h=>by
  obtain⟨hp,g,d,tk,os⟩:=s;obtain⟨a1,a2,h⟩:=h;have hsub:=sub_zip;have b1:fB t1 (Shared.heap ⟨hp,g,d,tk,os⟩) l1 xs:=a1;have b2:fB t2 (Shared.heap ⟨hp.push (tG t1 l1),g,d,tk,os⟩) l2 ys:=a2.at fun o e=>yu _ e;wp_walk using JU b1,JU b2;exact⟨_,rfl,h⟩
def FF {prog:Program} {w:World} {A:Around} {E:Value->Shared->Prop} {s:Shared} {t1 t2:Bool} {l1 l2:Addr} {xs ys:Array Value} {Q:Value->Shared->Prop} (hl1:fB t1 s.heap l1 xs) (hl2:fB t2 s.heap l2 ys)
  (h:∀h',Oe t1 t2 h' (↑s+4) (↑s+2) (↑s+3) ↑s (↑s+1) l1 l2 0 .none->(∀c o,s.heap.get? c=some o->h'.get? c=some o)->Q (.ref (↑s+4)) {s with heap:=h'}) :
  wpAny (model prog w) A (call (.type "zip") [.ref l1,.ref l2]) Q E s:=by
 refine callType_new F.called_zip ∅ (F.typeCall_zip_2 _ _) (F.newCall_zip_2 _ _) (fun obj=>F.args_object_init_3 obj _ _) F.entry_zip_new (L8 t1 t2 l1 l2 xs ys) ⟨hl1,hl2,?_⟩;have z1:(SY t1 s.heap l1).objs.size=↑s+1:=Heap.size_push ..;have z2:(RG t1 t2 s.heap l1 l2).objs.size=↑s+2:=by rw[Heap.size_push,z1]
 have z3:(SX t1 t2 s.heap l1 l2).objs.size=↑s+3:=by rw[Heap.size_push,z2]
 have z4:(SW t1 t2 s.heap l1 l2).objs.size=↑s+4:=by rw[Heap.size_push,z3]
 have up:∀c o,(RG t1 t2 s.heap l1 l2).get? c=some o->(Qc t1 t2 s.heap l1 l2).get? c=some o:=fun c o e=>yu _ (yu _ (yu _ e));have g5:(Qc t1 t2 s.heap l1 l2).get? (SW t1 t2 s.heap l1 l2).objs.size=some _:=yw _ rfl;have g4:(Qc t1 t2 s.heap l1 l2).get? (SX t1 t2 s.heap l1 l2).objs.size=some _:=yu _ (yw _ rfl);have g3:(Qc t1 t2 s.heap l1 l2).get? (RG t1 t2 s.heap l1 l2).objs.size=some _:=yu _ (yu _ (yw _ rfl));have g2:dy t2 (Qc t1 t2 s.heap l1 l2) (SY t1 s.heap l1).objs.size l2 0:=(dy.new t2 _ l2).at (up _);have g1:dy t1 (Qc t1 t2 s.heap l1 l2) ↑s l1 0:=((dy.new t1 _ l1).at fun o e=>yu _ e).at (up _);show _/\_;rw[z2,z3,z4] at g5;rw[z1,z2] at g3;rw[z3] at g4;rw[z1] at g2;rw[z4];exact⟨⟨_,g5,rfl⟩,h _ ⟨g5,g3,⟨_,_,g4⟩,g1,g2⟩ fun c o x=>up c o (yu _ (yu _ x))⟩
end L2
namespace L2
open PySem PySem.Spec PyProof.Rows
def aS (h:H p=none):au H (upd H p o):=fun b u e=>by rw[aE (bu e h)];exact e
def laid {H:Hp} {o:HO} {Q:VK} (k:∀p H',au H H'->H' p=some o->Q (.ref p) H'):∀p,H p=none->Q (.ref p) (upd H p o):=fun p hp=>k p _ (aS hp) ay
def au.tup {K:yA} {H H':Hp} {a:Addr} {xs:List V} (e:au H H') (h:dA K H a xs):dA K H' a xs:=by
 rcases h with(h | ⟨o,h⟩) | h
 ·exact .inl (.inl (e _ _ h))
 ·exact .inl (.inr ⟨o,e _ _ h⟩)
 ·exact .inr h
section
variable {X:Cx} {pins:List (Addr×Obj)} {σ:St} {H:Hp} {s:Shared} {h':Heap}
def Inv.xM {T:Addr} {o:HO} {ch:List Addr} {t':Nat} (I:Inv X pins σ H s) (hf:∀b∈ch,rK X pins H b) (hT:↑s<=T) (k:∀b u,b∉ch->s.heap.get? b=some u->h'.get? b=some u)
  (new:cC X.prog X.w (upd H T o) h' T o):Inv X pins σ (upd H T o) {s with heap:=h',toks:=t'}:=by
 have hn:H T=none:=I.cb.fresh hT;have neT:∀b u,s.heap.get? b=some u->b≠T:=fun b u e=>yi (yb (yx e) hT);have nch:∀b u,H b=some u->b∉ch:=fun b u e hb=>by rw[(hf b hb).1] at e;cases e
 refine I.step (g':=s.gens) (d':=s.drawn) (ch:=ch) (fun b hb=>?_) (fun b u _ _ hc e _=>k b u hc e) (fun b u _ _ hc e _=>⟨u.slots,k b u hc e⟩) (fun b u hc e n=>by rw[aE (neT b u e)];exact n) (fun b u hc e=>⟨u,k b u hc e⟩)
  (fun b xs e=>by rw[aE (bu e hn)];exact e) (fun b ob u e=>by rw[aE (bu e hn)];exact e) (fun b ps e=>⟨#[],by rw[aE (bu e hn),e];simp⟩) (fun m hm=>?_) (fun b u e=>?_) I.bare
 ·obtain⟨f0,f1,f2,f3,f4,f5⟩:=hf b hb
  exact⟨f3,f1,f4,f5⟩
 ·obtain⟨ob,es,ep,ho,r⟩:=hm
  exact⟨ob,es,ep,k _ _ (fun z=>(hf _ z).2.1 rfl) ho,r⟩
 ·by_cases hb:b=T
  ·subst hb;rw[ay] at e;cases e;exact new
  ·rw[aE hb] at e
   refine(I.cb b u e).lJ (fun c v hc q=>k c v ?_ q) (fun c q=>by rw[aE (bu q hn)];exact q) fun c xs q=>by rw[aE (bu q hn)];exact q
   rcases hc with z | z
   ·rw[z];exact nch b u e
   ·exact nch c _ z
def Inv.turns {ch:List Addr} {t':Nat} (I:Inv X pins σ H s) (hf:∀b∈ch,rK X pins H b) (k:∀b u,b∉ch->s.heap.get? b=some u->h'.get? b=some u):Inv X pins σ H {s with heap:=h',toks:=t'}:=by
 have nch:∀b u,H b=some u->b∉ch:=fun b u e hb=>by rw[(hf b hb).1] at e;cases e
 refine I.step (g':=s.gens) (d':=s.drawn) (ch:=ch) (fun b hb=>?_) (fun b u _ _ hc e _=>k b u hc e) (fun b u _ _ hc e _=>⟨u.slots,k b u hc e⟩) (fun b u hc e n=>n) (fun b u hc e=>⟨u,k b u hc e⟩)
  (fun b xs e=>e) (fun b ob u e=>e) (fun b ps e=>⟨#[],by rw[e];simp⟩) (fun m hm=>?_) (fun b u e=>?_) I.bare
 ·obtain⟨f0,f1,f2,f3,f4,f5⟩:=hf b hb
  exact⟨f3,f1,f4,f5⟩
 ·obtain⟨ob,es,ep,ho,r⟩:=hm
  exact⟨ob,es,ep,k _ _ (fun z=>(hf _ z).2.1 rfl) ho,r⟩
 ·refine(I.cb b u e).lJ (fun c v hc q=>k c v ?_ q) (fun c q=>q) fun c xs q=>q
  rcases hc with z | z
  ·rw[z];exact nch b u e
  ·exact nch c _ z
def E7:bootBuiltins "enumerate"= some (.type "enumerate"):=by decide +kernel
def NX:bootBuiltins "zip"= some (.type "zip"):=by decide +kernel
def Rz (K:yA) (a:Addr):It:=
 ⟨fun i H=>∃xs x,aH K H a xs/\xs[i]?=some x,fun i H x H'=>∃p v,H p=none/\x=.ref p/\H'=upd H p (.tup [.int (i:Int),v])/\∀xs,aH K H a xs->xs[i]?=some v,fun i H=>∃xs,aH K H a xs/\xs.length<=i⟩
def Kz {P:Program} {w:World} {K:yA} {es:List Expr} {kt:Nat} {tp:Pos} (a it e:Addr) (hne:e≠it) :
  Turn P w K (.Tuple es kt tp) (Rz K a) [e,it] e (fun i h=>(∃old,IsEnum h e it (i:Int) old)/\h.IsListIter it a i) where
 mem:=by simp
 obj:=fun i h st b hb=>by
  obtain⟨⟨old,he⟩,o,e1,c,d⟩:=st;rcases zC.mp hb with z | z
  ·subst z;exact⟨_,he,fun v z=>by cases z⟩
  ·have z':b=it:=by simpa using z
   subst z';exact⟨o,e1,fun v z=>by rw[d] at z;cases z⟩
 keep:=fun i h h' st k=>⟨let ⟨old,he⟩:=st.1;⟨old,k e (by simp) _ he⟩,st.2.at fun o e=>k it (by simp) o e⟩
 item:=by
  intro X hP hw hK hc i pins s σ H E I hf st hg;subst hP hw hK;obtain⟨xs,x,hq,hx⟩:=hg;obtain⟨its,rv,p,hz⟩:=I.list hq;obtain⟨u,hu,ru⟩:=rv.get hx;obtain⟨⟨old,he⟩,hit⟩:=st;refine wpAny_pyNext_enum_item he hit p.isList (x:=u) (by simpa using hu) hne fun g1 ho hit1 hT hsz hk=>?_;refine⟨_,rfl,wpAny_letOwnedTupleGo_enum (s:={s with heap:=g1,toks:=s.toks+1}) ho fun g2 he2 hs2=>?_⟩;have hel:e<↑s:=yx he;have gT:g2.get? ↑s=some {cls:=.type "tuple",data:=.seq #[.int i s.toks,u]}:=hs2.extBut _ _ (yh hel) hT;have I1:Inv X pins σ (upd H ↑s (.tup [.int (i:Int),x])) {s with heap:=g2,toks:=s.toks+1}:=
   I.xM hf (zk _) (fun b ob hb q=>hs2.extBut _ _ (fun z=>hb (by simp[z])) (hk b ob (fun z=>hb (by simp[z])) (fun z=>hb (by simp[z])) q))
    ⟨by show 2<=sizeLine;decide,[.int i s.toks,u],.cons ⟨_,rfl⟩ (.cons ru .nil),⟨_,gT,rfl,_,rfl⟩⟩
  refine⟨.ref ↑s,_,I1,rfl,⟨_,x,I.cb.fresh (zk _),rfl,rfl,fun ys hy=>by rw[I.tD hy hq];exact hx⟩,⟨⟨_,by simpa using he2⟩,hit1.at fun o q=>hs2.extBut _ _ hne.symm q⟩,fun b hb=>?_⟩;have hb':=(hf b hb).1;obtain⟨o,ho',_⟩:∃o,s.heap.get? b=some o/\True:=by
   rcases zC.mp hb with z | z
   ·subst z;exact⟨_,he,trivial⟩
   ·have z':b=it:=by simpa using z
    subst z';obtain⟨o,e1,_⟩:=hit;exact⟨o,e1,trivial⟩
  rw[aE (yi (yx ho'))];exact hb'
 done:=by
  intro X hP hw hK hc i pins s σ H E I hf st hg;subst hP hw hK;obtain⟨xs,hq,hx⟩:=hg;obtain⟨its,rv,p,hz⟩:=I.list hq;obtain⟨⟨old,he⟩,hit⟩:=st;have hl:=rv.length;exact wpAny_pyNext_enum_end (I.ok.hd hc) he hit p.isList (by simp;omega) fun g1 eb=>⟨rfl,I.turns (t':=s.toks) hf fun b o hb q=>eb b o (fun z=>hb (by simp[z])) q⟩
 self:=fun _ _ _ _ _ st h=>let ⟨_,he⟩:=st.1;wpAny_pyIter_enum he h
def P2 (K:yA) (ta:TA):TI:=fun σ H R=>ta σ H fun vs H1=>∃a xs,vs=[.ref a]/\aH K H1 a xs/\R (Rz K a) H1
def xt {a:Expr} {ta:TA} {es:List Expr} {kt:Nat} {tp p pos:Pos} (hg:Gl X "enumerate") (hm:X.mg "enumerate"= none) (ha:PA X [a] ta) (hs:starEach [a] X.env=[(false,eval a X.env)]<|>qe_) :
  PI X (.Tuple es kt tp) (.Call (.Name "enumerate" p) [a] [] pos) (P2 X.K ta):=by
 intro pins s σ H R I h;refine Call_ (iz I hg hm E7 (yL (cU (ha pos pins s σ H _ I h) fun us s1 ⟨vs,H1,I1,r1,q1⟩=>?_) hs rfl));obtain⟨l,xs,e,hq,q⟩:=q1;subst e;cases r1 with
 | cons r rr=>
  cases rr;cases r;obtain⟨its,rv,pl,hz⟩:=I1.list hq;refine call_enumerate_list pl.isList fun g he hit hsz hk=>?_;refine wpAny_pyIter_enum (s:={s1 with heap:=g}) he ?_;have I2:Inv X pins σ H1 {s1 with heap:=g}:=I1.kept (t':=s1.toks) hk;refine⟨↑s1+1,[↑s1+1,↑s1],_,Rz X.K l,H1,rfl,I2,Kz l ↑s1 (↑s1+1) (yh (Nat.lt_succ_self _)),⟨⟨_,by simpa using he⟩,hit⟩,fun b hb=>?_,q⟩;have hb':↑s1<=b:=by
   rcases zC.mp hb with z | z
   ·subst z;exact Nat.le_succ _
   ·have z':b=↑s1:=by simpa using z
    subst z';exact zk _
  exact I1.uS hb' (I1.cb.fresh hb')
def Cw (t:Bool) (K:yA) (H:Hp) (a:Addr) (xs:List V):Prop:=match t with
 | true=>dA K H a xs
 | false=>aH K H a xs
def Inv.sq (I:Inv X pins σ H s) (h:Cw t X.K H a xs):∃its:List Value,Vals xs its/\fB t s.heap a its.toArray/\xs.length<=sizeLine:=by
 cases t
 ·obtain⟨its,r,p,z⟩:=I.list h;exact⟨its,r,p.isList,z⟩
 ·obtain⟨its,r,p,z⟩:=I.tuple h;exact⟨its,r,p,z⟩
def Inv.Mz (I:Inv X pins σ H s) (h:Cw t X.K H a xs) (h':Cw t X.K H a ys):xs=ys:=by
 cases t
 ·exact I.tD h h'
 ·exact I.CF h h'
def fB.lt (x:fB t h a items):a<h.objs.size:=by
 cases t
 ·obtain⟨o,e,_⟩:=x;exact yx e
 ·obtain⟨o,e,_⟩:=x;exact yx e
def Ti (t1 t2:Bool) (K:yA) (a b:Addr):It:=
  ⟨fun i H=>∃xs ys x y,Cw t1 K H a xs/\Cw t2 K H b ys/\xs[i]?=some x/\ys[i]?=some y,
   fun i H x H'=>∃p u v,H p=none/\x=.ref p/\H'=upd H p (.tup [u,v])/\(∀xs,Cw t1 K H a xs->xs[i]?=some u)/\∀ys,Cw t2 K H b ys->ys[i]?=some v,
   fun i H=>∃xs ys,Cw t1 K H a xs/\Cw t2 K H b ys/\(xs.length<=i\/ys.length<=i)⟩
def Mf {P:Program} {w:World} {K:yA} {es:List Expr} {kt:Nat} {tp:Pos} (t1 t2:Bool) (a b z TI TO i1 i2:Addr) (D:LM z TI TO i1 i2) (L1:Bt a z TO i1 i2) (L2:Bt b z TO i1 i2) :
  Turn P w K (.Tuple es kt tp) (Ti t1 t2 K a b) [z,TI,TO,i1,i2] z (fun i h=>Oe t1 t2 h z TI TO i1 i2 a b i .none) where
 mem:=by simp
 obj:=fun i h st c hc=>by
  obtain⟨hz,hi,⟨_,_,ho⟩,h1,h2⟩:=st;simp only[zC,zD,or_false] at hc;rcases hc with e | e | e | e | e
  ·subst e;exact⟨_,hz,fun v q=>by cases q⟩
  ·subst e;exact⟨_,hi,fun v q=>by cases q⟩
  ·subst e;exact⟨_,ho,fun v q=>by cases q⟩
  ·subst e;exact h1.get
  ·subst e;exact h2.get
 keep:=fun i h h' st k=>⟨k z (by simp) _ st.z,k TI (by simp) _ st.ti,let ⟨x,y,e⟩:=st.to;⟨x,y,k TO (by simp) _ e⟩,st.i1.at fun o e=>k i1 (by simp) o e,st.i2.at fun o e=>k i2 (by simp) o e⟩
 item:=by
  intro X hP hw hK hc i pins s σ H E I hf st hg;subst hP hw hK;obtain⟨xs,ys,x,y,hq,hq',hx,hy⟩:=hg;obtain⟨its,rv,p,hz⟩:=I.sq hq;obtain⟨jts,rw',p',hz'⟩:=I.sq hq';obtain⟨u,hu,ru⟩:=rv.get hx;obtain⟨u',hu',ru'⟩:=rw'.get hy;refine FE D L1 L2 st p p' (x:=u) (y:=u') (by simpa using hu) (by simpa using hu') fun g1 S1 hT hk=>?_;refine⟨_,rfl,wpAny_letOwnedTupleGo_zip (s:={s with heap:=g1}) S1.z fun g2 z2 hs2=>?_⟩;have zl:z<↑s:=yx st.z;have gT:g2.get? ↑s=some {cls:=.type "tuple",data:=.seq #[u,u']}:=hs2.extBut _ _ (yh zl) hT;have I1:Inv X pins σ (upd H ↑s (.tup [x,y])) {s with heap:=g2}:=
   I.xM (t':=s.toks) hf (zk _) (fun c ob hb q=>hs2.extBut _ _ (fun e=>hb (by simp[e])) (hk c ob (fun e=>hb (by simp[e])) (fun e=>hb (by simp[e])) (fun e=>hb (by simp[e])) (fun e=>hb (by simp[e])) q))
    ⟨by show 2<=sizeLine;decide,[u,u'],.cons ru (.cons ru' .nil),⟨_,gT,rfl,_,rfl⟩⟩
  refine⟨.ref ↑s,_,I1,rfl,⟨_,x,y,I.cb.fresh (zk _),rfl,rfl,fun zs h=>by rw[I.Mz h hq];exact hx,fun zs h=>by rw[I.Mz h hq'];exact hy⟩,⟨z2,hs2.extBut _ _ D.a1 S1.ti,let ⟨x,y,e⟩:=S1.to;⟨x,y,hs2.extBut _ _ D.a2 e⟩,S1.i1.but hs2 D.a3,S1.i2.but hs2 D.a4⟩,fun c hc=>?_⟩;have hb':=(hf c hc).1;obtain⟨o,ho',_⟩:∃o,s.heap.get? c=some o/\True:=by
   obtain⟨hz,hi,⟨_,_,ho⟩,⟨q1,e1,_⟩,⟨q2,e2,_⟩⟩:_/\_/\_/\_/\_:=⟨st.z,st.ti,st.to,st.i1.get,st.i2.get⟩
   simp only[zC,zD,or_false] at hc;rcases hc with e | e | e | e | e
   ·subst e;exact⟨_,hz,trivial⟩
   ·subst e;exact⟨_,hi,trivial⟩
   ·subst e;exact⟨_,ho,trivial⟩
   ·subst e;exact⟨_,e1,trivial⟩
   ·subst e;exact⟨_,e2,trivial⟩
  rw[aE (yi (yx ho'))];exact hb'
 done:=by
  intro X hP hw hK hc i pins s σ H E I hf st hg;subst hP hw hK;obtain⟨xs,ys,hq,hq',hx⟩:=hg;obtain⟨its,rv,p,hz⟩:=I.sq hq;obtain⟨jts,rw',p',hz'⟩:=I.sq hq';have hl:=rv.length;have hl':=rw'.length;refine FC (I.ok.hd hc) D L1 L2 st p p' ?_ fun g1 eb=>⟨rfl,I.turns (t':=s.toks) hf fun c o hb q=>eb c o (fun e=>hb (by simp[e])) (fun e=>hb (by simp[e])) (fun e=>hb (by simp[e])) (fun e=>hb (by simp[e])) q⟩
  rcases hx with h | h
  ·exact .inl (by simp;omega)
  ·exact .inr (by simp;omega)
 self:=fun _ _ _ _ _ st h=>wpAny_pyIter_zip st.z h
def Uh (K:yA) (ta:TA):TI:=fun σ H R=>ta σ H fun vs H1=>∃t1 t2 a b xs ys,vs=[.ref a,.ref b]/\Cw t1 K H1 a xs/\Cw t2 K H1 b ys/\R (Ti t1 t2 K a b) H1
def M1 {a b:Expr} {ta:TA} {es:List Expr} {kt:Nat} {tp p pos:Pos} (hg:Gl X "zip") (hm:X.mg "zip"= none) (ha:PA X [a,b] ta)
  (hs:starEach [a,b] X.env=[(false,eval a X.env),(false,eval b X.env)]<|>qe_) (hs2:starEach [b] X.env=[(false,eval b X.env)]<|>qe_) :
  PI X (.Tuple es kt tp) (.Call (.Name "zip" p) [a,b] [] pos) (Uh X.K ta):=by
 intro pins s σ H R I h;refine Call_ (iz I hg hm NX (yL (cU (ha pos pins s σ H _ I h) fun us s1 ⟨vs,H1,I1,r1,q1⟩=>?_) (by rw[hs,hs2]) (by rw[hs2];rfl)));obtain⟨t1,t2,a,b,xs,ys,e,hq,hq',q⟩:=q1;subst e;cases r1 with
 | cons r rr=>
  cases rr with
  | cons r' rr=>
   cases rr;cases r;cases r';obtain⟨its,rv,pl,hz⟩:=I1.sq hq;obtain⟨jts,rv',pl',hz'⟩:=I1.sq hq';have la:=pl.lt;have lb:=pl'.lt;refine FF pl pl' fun g S hk=>?_;refine wpAny_pyIter_zip (s:={s1 with heap:=g}) S.z ?_;have I2:Inv X pins σ H1 {s1 with heap:=g}:=I1.kept (t':=s1.toks) hk;have D:LM (↑s1+4) (↑s1+2) (↑s1+3) ↑s1 (↑s1+1):=by
    constructor <;> (show _≠(_:Nat)) <;> omega
   have L:∀c,c<↑s1->Bt c (↑s1+4) (↑s1+3) ↑s1 (↑s1+1):=fun c hc=>by
    constructor <;> (show _≠(_:Nat)) <;> omega
   refine⟨↑s1+4,[_,_,_,_,_],_,Ti t1 t2 X.K a b,H1,rfl,I2,Mf t1 t2 a b _ _ _ _ _ D (L a la) (L b lb),S,fun c hc=>?_,q⟩;have hb':↑s1<=c:=by
    simp only[zC,zD,or_false] at hc;rcases hc with e | e | e | e | e <;> (subst e;first | exact Nat.le_add_right _ _ | exact zk _)
   exact I1.uS hb' (I1.cb.fresh hb')
def Ec (bs:List Bool):((List.range bs.length).all fun i=>(bs[i]?).getD true)=bs.all id:=by
 rw[Bool.eq_iff_iff,yo,yo];constructor
 ·intro h b hb
  obtain⟨i,hi,e⟩:=List.mem_iff_getElem.mp hb;have:=h i (List.mem_range.mpr hi);rw[zb hi,e] at this;exact this
 ·intro h i hi
  have hi':=List.mem_range.mp hi;rw[zb hi'];exact h _ (yk hi')
def jg (hc:X.calm=true):fT X (.builtin "all") (fun xs H Q=>∃(a:Addr) (bs:List Bool),xs=[.ref a]/\aH X.K H a (bs.map V.bl)/\Q (.bl (bs.all id)) H):=by
 intro pins s σ H xs us Q I r h;obtain⟨a,bs,e,hq,q⟩:=h;subst e;cases r with
 | cons r rr=>
  cases rr;cases r;obtain⟨its,rv,p,hz⟩:=I.list hq;have hlt:a<↑s:=by obtain⟨o,n,e,_⟩:=p;exact yx e
  have hlen:bs.length=its.length:=by have:=rv.length;rw[za] at this;exact this
  refine call_all_walk (wpAny_pyIter_list p.isList ?_);refine⟨↑s,[↑s,a],[↑s],its.toArray.size,_,_,fun i=>(bs[i]?).getD true,rfl,Walks.list (A:=X.A.in1) (I.ok.hd hc) _ a (yi hlt) its.toArray,
   ⟨⟨_,yw _ rfl,rfl,rfl⟩,p.isList.push _⟩,fun i v s' Q' E' hP hQ=>?_,fun h' tk hk=>?_⟩
  ·have hP':its[i]?=some v:=by simpa using hP
   have hi:i<bs.length:=by rw[hlen];exact(zw.mp hP').1
   have hm:(bs.map V.bl)[i]?=some (.bl bs[i]):=by rw[zJ,zb hi];rfl
   obtain⟨u,hu,ru⟩:=rv.get hm;rw[hP'] at hu;cases hu;cases ru;dsimp only at hQ;rw[zb hi] at hQ;exact wpAny_truthy_bool hQ
  ·have e:((List.range its.toArray.size).all fun i=>(bs[i]?).getD true)=bs.all id:=by rw[ya,<-hlen];exact Ec bs
   rw[e];exact⟨.bl _,H,I.kept fun b o x=>hk b o (fun hm=>by rw[zy.mp hm] at x;exact ye _ (yx x)) (yu _ x),rfl,q⟩
end
section
variable {X:Cx} {pos:Pos}
end
inductive Ty where
 | bI | bl | int | str | tup | lst | SH
def Ty.name:Ty->String
 | .bI=> "NoneType" | .bl=> "bool" | .int=> "int" | .str=> "str" | .tup=> "tuple" | .lst=> "list" | .SH=> "dict"
def tag (H:Hp):V->Option Ty
 | .bI=>some .bI
 | .bl _=>some .bl
 | .int _=>some .int
 | .str _=>some .str
 | .ref a=>match H a with
  | some (.tup _)=>some .tup
  | some (.lst _)=>some .lst
  | some (.nK _ (.lst _))=>some .lst
  | some (.dK _)=>some .SH
  | some (.dT _)=>some .SH
  | _=>none
 | _=>none
def Om {H:Hp} {a:Addr} {xs:List V} (h:H a=some (.tup xs)):tag H (.ref a)=some .tup:=by simp only[tag,h]
def Oo {H:Hp} {a:Addr} {xs:List V} (h:H a=some (.lst xs)):tag H (.ref a)=some .lst:=by simp only[tag,h]
def Qn {K:yA} {H:Hp} {x:V} {n:Ty} (h:tag H x=some n):vj K H x (.type n.name):=by
 cases x with
 | bI=>cases h;exact .bI
 | bl b=>cases h;exact .bl b
 | int i=>cases h;exact .int i
 | str y=>cases h;exact .str y
 | Kj _=>cases h
 | Pa _=>cases h
 | ty _=>cases h
 | ref a=>
  simp only[tag] at h;split at h
  ·cases h;exact .tup ‹_›
  ·cases h;exact .lst ‹_›
  ·cases h;exact .nK ‹_›
  ·cases h;exact .dK ‹_›
  ·cases h;exact .dT ‹_›
  ·cases h
def Ty.sub:Ty->Ty->Bool
 | .bl,.bl=>true | .int,.int=>true | .str,.str=>true | .tup,.tup=>true | .lst,.lst=>true | .SH,.SH=>true | .bI,.bI=>true
 | .bl,.int=>true
 | _,_=>false
def O5 (K:yA) (a b:Ty):PySem.W.kitOne K (.type a.name) (.type b.name)=some (a.sub b):=by
 cases a <;> cases b <;> first | rfl | decide +kernel | kernel_rfl
def RY (c:Ty) (ta:TE):TE:=fun σ H Q=>ta σ H fun x H1=>∃n,tag H1 x=some n/\Q (.bl (n.sub c)) H1
section
variable {X:Cx}
def Ee (c:Ty) (hx:bootBuiltins x=some (.type c.name)) (ha:PE X a ta) (hm:X.mg "isinstance"= none) (hm2:X.mg x=none)
  (hg:Gl X "isinstance"<|>qe_) (hg2:Gl X x<|>qe_) (hn:x≠ "__name__"<|>qb_) (hd:(x == ("__debug__": Str))=false<|>qb_)
  (hs:starEach [a,.Name x p2] X.env=(false,eval a X.env)::starEach [.Name x p2] X.env<|>qe_) (hs2:starEach [.Name x p2] X.env=[(false,eval (.Name x p2) X.env)]<|>qe_) :
  PE X (.Call (.Name "isinstance" p1) [a,.Name x p2] [] pos) (RY c ta):=by
 have hc:fT X (.builtin "isinstance") (fun xs H Q=>∃v n,xs=[v,.ty c.name]/\tag H v=some n/\Q (.bl (n.sub c)) H):=by
  intro pins s σ H xs us Q I r h;obtain⟨v,n,e,ht,q⟩:=h;subst e;cases r with
  | cons r rr=>
   cases rr with
   | cons r' rr=>
    cases rr;cases r';exact Lc I r (Qn ht) (O5 _ _ _) fun tk=>⟨.bl _,H,I.tok tk,rfl,q⟩
 have hb:PE X (.Name x p2) (tC (.ty c.name)):=OT (u:=.type c.name) hg2 hm2 hx rfl hn hd;have ht:=Gp (p:=p1) (pos:=pos) hc hg hm (by decide +kernel) (ah ha (ah hb af hs2) hs) (he:=hs) (hpl:=by rw[hs2];rfl);intro pins s σ H Q I h;have mono:ta σ H (fun x H1=>∃n,tag H1 x=some n/\Q (.bl (n.sub c)) H1)->JQ (fun xs H Q=>∃v n,xs=[v,.ty c.name]/\tag H v=some n/\Q (.bl (n.sub c)) H) (bC ta (bC (tC (.ty c.name)) dZ)) σ H Q:=fun z=>by
  show ta σ H fun x H1=>∃v n,[x,V.ty c.name]=[v,.ty c.name]/\tag H1 v=some n/\Q (.bl (n.sub c)) H1;have e:(fun x H1=>∃n,tag H1 x=some n/\Q (.bl (n.sub c)) H1)=(fun(x:V) (H1:Hp)=>∃v n,[x,V.ty c.name]=[v,V.ty c.name]/\tag H1 v=some n/\Q (.bl (n.sub c)) H1):=by
   funext x H1
   apply propext;constructor
   ·rintro⟨n,h1,h2⟩;exact⟨x,n,rfl,h1,h2⟩
   ·rintro⟨v,n,e,h1,h2⟩;cases e;exact⟨n,h1,h2⟩
  rw[<-e];exact z
 exact ht pins s σ H Q I (mono h)
end
inductive Dt where
 | bI | bl (b:Bool) | int (i:Int) | str (x:Str) | tup (l:List Dt)
mutual
def Is (H:Hp):Dt->V->Prop
 | .bI,v=>v=.bI
 | .bl b,v=>v=.bl b
 | .int i,v=>v=.int i
 | .str x,v=>v=.str x
 | .tup l,v=>∃a vs,v=.ref a/\H a=some (.tup vs)/\aB H l vs
def aB (H:Hp):List Dt->List V->Prop
 | [],vs=>vs=[]
 | d::l,vs=>∃v r,vs=v::r/\Is H d v/\aB H l r
end
mutual
theorem Is.mono (s:au H H'):∀{d:Dt} {v:V},Is H d v->Is H' d v
 | .bI,_,h=>by unfold Is at h ⊢;exact h
 | .bl _,_,h=>by unfold Is at h ⊢;exact h
 | .int _,_,h=>by unfold Is at h ⊢;exact h
 | .str _,_,h=>by unfold Is at h ⊢;exact h
 | .tup l,_,h=>by
  unfold Is at h ⊢;obtain⟨a,vs,e,ha,hl⟩:=h;exact⟨a,vs,e,s _ _ ha,aB.mono s hl⟩
theorem aB.mono (s:au H H'):∀{l:List Dt} {vs:List V},aB H l vs->aB H' l vs
 | [],_,h=>by unfold aB at h ⊢;exact h
 | d::l,_,h=>by
  unfold aB at h ⊢;obtain⟨v,r,e,hv,hr⟩:=h;exact⟨v,r,e,Is.mono s hv,aB.mono s hr⟩
end
theorem aB.len:∀{l:List Dt} {vs:List V},aB H l vs->vs.length=l.length
 | [],_,h=>by unfold aB at h;rw[h];rfl
 | d::l,_,h=>by
  unfold aB at h;obtain⟨v,r,e,_,hr⟩:=h;rw[e,zt,zt,aB.len hr]
theorem aB.get:∀{l:List Dt} {vs:List V} {i:Nat} {v:V},aB H l vs->vs[i]?=some v->∃d,l[i]?=some d/\Is H d v
 | [],_,i,v,h,e=>by unfold aB at h;rw[h] at e;simp at e
 | d::l,_,i,v,h,e=>by
  unfold aB at h;obtain⟨u,r,e1,hv,hr⟩:=h;subst e1;cases i with
  | zero=>simp at e;subst e;exact⟨d,rfl,hv⟩
  | succ i=>
   obtain⟨d',h1,h2⟩:=aB.get (i:=i) hr (by simpa using e);exact⟨d',by simpa using h1,h2⟩
def au.kC (e:upd H p o=H') (h:H p=none):au H H':=e▸aS h
def kJ (e:upd H p o=H'):H' p=some o:=e▸ay
def b9 {c:Bool} {A B:Prop} (h:c=true) (q:A):if c=true then A else B:=by rw[if_pos h];exact q
def cq {c:Bool} {A B:Prop} (h:c=false) (q:B):if c=true then A else B:=by rw[if_neg (by rw[h];decide)];exact q
def bZ:[a,b].length<=sizeLine:=by show 2<=sizeLine;decide
def nY:[a,b,c].length<=sizeLine:=by show 3<=sizeLine;decide
def iW (h:H p=some (.tup [.int a,.int b])):Is H (.tup [.int a,.int b]) (.ref p):=by
 unfold Is;exact⟨p,_,rfl,h,by simp only[aB,Is];exact⟨_,_,rfl,rfl,_,_,rfl,rfl,rfl⟩⟩
def tL {K:yA} {a:Addr} {xs:List V} {g:TG} {tb:TS} {D:Ends} {σ:St} {H:Hp} (Pv:Nat->St->Hp->Prop) (h0:Pv 0 σ H) (hl:∀i σ H,i<=xs.length->Pv i σ H->aH K H a xs)
  (hs:∀i x σ H p H',xs[i]?=some x->Pv i σ H->au H H'->H' p=some (.tup [.int (i:Int),x])->g (.ref p) σ H' fun σ2 H2=>tb {D with nx:=Pv (i+1),ct:=Pv (i+1),bk:=D.nx} σ2 H2) (hd:∀σ H,Pv xs.length σ H->D.nx σ H) :
  ∃W:Nat->Nat->St->Hp->Prop,(∃m,W 0 m σ H)/\∀i m σ H,W i m σ H->
   ((Rz K a).stop i H/\D.nx σ H)\/((Rz K a).go i H/\∃N:St->Hp->Prop,(∀σ' H',N σ' H'->∃m',m'<m/\W (i+1) m' σ' H')/\∀x H',(Rz K a).JL i H x H'->g x σ H' fun σ2 H2=>tb {D with nx:=N,ct:=N,bk:=D.nx} σ2 H2):=by
 refine⟨fun i m σ H=>m=xs.length-i/\i<=xs.length/\Pv i σ H,⟨xs.length,by simp,yf _,h0⟩,?_⟩;rintro i m σ H ⟨rfl,hi,p⟩;have q:=hl i σ H hi p
 by_cases hlt:i<xs.length
 ·refine .inr ⟨⟨xs,xs[i],q,by simp[hlt]⟩,Pv (i+1),fun σ' H' p'=>⟨xs.length-(i+1),nofun,rfl,hlt,p'⟩,fun x H' y=>?_⟩
  obtain⟨pp,v,hp,e1,e2,y⟩:=y;subst e1 e2;exact hs i v σ H pp _ (y xs q) p (aS hp) ay
 ·have e:i=xs.length:=nofun
  subst e;exact .inl ⟨⟨xs,q,zk _⟩,hd σ H p⟩
section
variable {X:Cx} {pos:Pos}
def Inv.Sk (I2:Inv X pins σ2 H2 s2) (hC:↑s2<=C) (I:Inv X pins σ H s) (hn:H C=none) (hs:Heap.SameBut C s.heap h'):Inv X pins σ H {s with heap:=h'}:=by
 obtain⟨f0,f1,f2,f3,f4,f5⟩:=I2.uS hC hn;exact I.turned (t':=s.toks) (fun b o hb e=>hs.extBut b o hb e) f0 f1 f3 f4 f5
end
section
variable {X:Cx} {pins:List (Addr×Obj)} {σ:St} {H:Hp} {s:Shared}
def Sz (n:Nat) (i:Int):Prop:=i.natAbs<2^n
def Sz.mono (h:Sz n i) (k:n<=m):Sz m i:=yb h (Nat.pow_le_pow_right ∅ k)
def Sz.mul (h:Sz n i) (k:Sz m j):Sz (n+m) (i*j):=by
 unfold Sz at *;rw[Int.natAbs_mul,Nat.pow_add];exact Nat.mul_lt_mul'' h k
def Sz.add (h:Sz n i) (k:Sz n j):Sz (n+1) (i+j):=by
 unfold Sz at *;have:=Int.natAbs_add_le i j;rw[Nat.pow_succ];omega
def Sz.le (h:Sz n j) (h0:0<=i) (hl:i<=j):Sz n i:=by
 unfold Sz at *;have:i.natAbs<=j.natAbs:=nofun
 omega
def Sz.bits (h:Sz n i):Builtin.Int.intBits i<=n:=by
 unfold Builtin.Int.intBits;split
 ·exact yf _
 ·rename_i hz
  have:i.natAbs≠0:=by
   intro e;have:i=0:=Int.natAbs_eq_zero.mp e;subst this;exact hz rfl
  have:=(Nat.log2_lt this).mpr h;omega
def SU (i j:Int):Prop:=Sz 20000 i/\Sz 20000 j
def SV (_ j:Int):Prop:=0<j/\Sz 8999 j
def sV:pE X (binaryOp .Mult) (rI SU fun i j=>.int (i*j)):=RE fun _ _ _ _ _ _ _ hc q=>mul_int q (.of_bits (zL hc.1.bits ∅) (zL hc.2.bits ∅))
def sW:pE X (binaryOp .FloorDiv) (rI SV fun i j=>.int (i/j)):=RE fun i j _ _ _ _ _ hc q=>by
 have h1:(0:Int)<j:=hc.1;refine floordiv_int nofun (by rw[Int.fdiv_eq_ediv_of_nonneg i nofun];exact q) (.inl (PyProof.noPylong_of_log2 ?_));have h2:j.natAbs<2^8999:=hc.2;have h3:j.natAbs≠0:=nofun
 exact Nat.lt_trans ((Nat.log2_lt h3).mpr h2) ∅
def N0 {ns:List Int} {j:Int} (h0:0<=j) (h1:j<ns.length):Ds (ns.map V.int) j=some (.int (ns.getD j.toNat 0)):=by
 obtain⟨k,rfl⟩:=yK h0;refine bx ?_;have hk:k<ns.length:=nofun
 rw[zJ,zb hk];simp[List.getD,hk]
def RF (K:yA) (a:Addr) (n:Nat):It:=
 ⟨fun i H=>∃xs,aH K H a xs/\xs.length=n/\i<n,fun i H x H'=>H'=H/\∀xs,aH K H a xs->xs[n-1-i]?=some x,fun i _=>i=n⟩
def Mh {P:Program} {w:World} {K:yA} {tg:Expr} (a it:Addr) (n:Nat):Turn P w K tg (RF K a n) [it] it (fun i h=>i<=n/\h.IsRevIter it a ((n:Int)-1-i)) where
 mem:=by simp
 obj:=fun i h st b hb=>by
  have e:b=it:=by simpa using hb
  subst e;obtain⟨o,e,c,d⟩:=st.2;exact⟨o,e,fun v z=>by rw[d] at z;cases z⟩
 keep:=fun i h h' st k=>⟨st.1,st.2.at fun o e=>k it (by simp) o e⟩
 item:=by
  intro X hP hw hK hc i pins s σ H E I hf st hg;subst hP hw hK;obtain⟨xs,hq,hn,hi⟩:=hg;obtain⟨its,rv,p,hz⟩:=I.list hq;have hx:xs[n-1-i]?=some xs[n-1-i]:=zb nofun;obtain⟨u,hu,ru⟩:=rv.get hx;have st':s.heap.IsRevIter it a ((n-1-i:Nat):Int):=by
   have e:(n:Int)-1-i=((n-1-i:Nat):Int):=nofun
   rw[<-e];exact st.2
  refine wpAny_pyNext_rev_item st' p.isList (x:=u) (by simpa using hu) fun h' st2 sb=>?_;have I1:Inv X pins σ H {s with heap:=h'}:=I.turns (t':=s.toks) hf fun b o hb e=>sb.extBut b o (fun z=>hb (by simp[z])) e;obtain⟨o,e,c,d⟩:=id st2;refine⟨u,rfl,AD (s:={s with heap:=h'}) e c d ∅ ⟨xs[n-1-i],H,I1,ru,⟨rfl,fun ys hy=>by rw[I.tD hy hq];exact hx⟩,⟨nofun,?_⟩,fun b hb=>(hf b hb).1⟩⟩;have e2:(n:Int)-1-((i+1:Nat):Int)=((n-1-i:Nat):Int)-1:=nofun
  rw[e2];exact st2
 done:=by
  intro X hP hw hK hc i pins s σ H E I hf st hg;subst hP hw hK;have hi:i=n:=hg;have st':s.heap.IsRevIter it a (-1):=by
   have e:(n:Int)-1-i=-1:=nofun
   rw[<-e];exact st.2
  exact wpAny_pyNext_rev_end (I.ok.hd hc) st' fun h' eb=>⟨rfl,I.turns (t':=s.toks) hf fun b o hb e=>eb b o (fun z=>hb (by simp[z])) e⟩
 self:=fun _ _ _ _ _ st h=>wpAny_pyIter_revIter st.2 h
def Uk (K:yA) (ta:TA):TI:=fun σ H R=>ta σ H fun vs H1=>∃a xs,vs=[.ref a]/\aH K H1 a xs/\R (RF K a xs.length) H1
def HA:bootBuiltins "reversed"= some (.type "reversed"):=by decide +kernel
def QN {tg a:Expr} {ta:TA} {p pos:Pos} (hg:Gl X "reversed") (hm:X.mg "reversed"= none) (ha:PA X [a] ta) (hs:starEach [a] X.env=[(false,eval a X.env)]<|>qe_) :
  PI X tg (.Call (.Name "reversed" p) [a] [] pos) (Uk X.K ta):=by
 intro pins s σ H R I h;refine Call_ (iz I hg hm HA (yL (cU (ha pos pins s σ H _ I h) fun us s1 ⟨vs,H1,I1,r1,q1⟩=>?_) hs rfl));obtain⟨l,xs,e,hq,q⟩:=q1;subst e;cases r1 with
 | cons r rr=>
  cases rr;cases r;obtain⟨its,rv,pl,hz⟩:=I1.list hq;have hlen:=rv.length;refine call_reversed_list pl.isList ?_;have I2:Inv X pins σ H1 {s1 with heap:=s1.heap.push (revObj l ((its.toArray.size:Int)-1))}:=I1.kept (t':=s1.toks) fun b o e=>yu _ e;have st:(s1.heap.push (revObj l ((its.toArray.size:Int)-1))).IsRevIter ↑s1 l ((xs.length:Int)-1-((0:Nat):Int)):=by
   have e:(xs.length:Int)-1-((0:Nat):Int)=(its.toArray.size:Int)-1:=by rw[ya,hlen];omega
   rw[e];exact⟨_,yw _ rfl,rfl,rfl⟩
  refine wpAny_pyIter_revIter (s:={s1 with heap:=s1.heap.push (revObj l ((its.toArray.size:Int)-1))}) st ?_;refine⟨↑s1,[↑s1],_,RF X.K l xs.length,H1,rfl,I2,Mh l ↑s1 xs.length,⟨yf _,st⟩,fun b hb=>?_,q⟩;have e:b=↑s1:=by simpa using hb
  subst e;exact I1.uS (zk _) (I1.cb.fresh (zk _))
end
def O9 {K:yA} {a:Addr} {xs:List V} {g:TG} {tb:TS} {D:Ends} {σ:St} {H:Hp} (Pv:Nat->St->Hp->Prop) (h0:Pv 0 σ H) (hl:∀i σ H,i<=xs.length->Pv i σ H->aH K H a xs)
  (hs:∀i x σ H,i<xs.length->xs[xs.length-1-i]?=some x->Pv i σ H->g x σ H fun σ2 H2=>tb {D with nx:=Pv (i+1),ct:=Pv (i+1),bk:=D.nx} σ2 H2) (hd:∀σ H,Pv xs.length σ H->D.nx σ H) :
  ∃W:Nat->Nat->St->Hp->Prop,(∃m,W 0 m σ H)/\∀i m σ H,W i m σ H->
   ((RF K a xs.length).stop i H/\D.nx σ H)\/((RF K a xs.length).go i H/\∃N:St->Hp->Prop,(∀σ' H',N σ' H'->∃m',m'<m/\W (i+1) m' σ' H')/\∀x H',(RF K a xs.length).JL i H x H'->g x σ H' fun σ2 H2=>tb {D with nx:=N,ct:=N,bk:=D.nx} σ2 H2):=by
 refine⟨fun i m σ H=>m=xs.length-i/\i<=xs.length/\Pv i σ H,⟨xs.length,by simp,yf _,h0⟩,?_⟩;rintro i m σ H ⟨rfl,hi,p⟩;have q:=hl i σ H hi p
 by_cases hlt:i<xs.length
 ·refine .inr ⟨⟨xs,q,rfl,hlt⟩,Pv (i+1),fun σ' H' p'=>⟨xs.length-(i+1),nofun,rfl,hlt,p'⟩,fun x H' y=>?_⟩
  obtain⟨e,y⟩:=y;subst e;exact hs i x σ _ hlt (y xs q) p
 ·have e:i=xs.length:=nofun
  subst e;exact .inl ⟨rfl,hd σ H p⟩
section
variable {X:Cx} {pos:Pos}
def PV (K:yA):R2:=fun x y H Q=>∃l b xs zs,x=.ref l/\y=.ref b/\aH K H l xs/\aH K H b zs/\xs.length+zs.length<=sizeLine/\∀p,H p=none->Q (.ref p) (upd H p (.lst (xs++zs)))
def gO:pE X (binaryOp .Add) (PV X.K):=by
 intro pins s σ H x y v u Q I rx ry h;obtain⟨l,b,xs,zs,rfl,rfl,hH,hB,hz,q⟩:=h;cases rx;cases ry;obtain⟨its,r,p,z⟩:=I.list hH;obtain⟨jts,r',p',z'⟩:=I.list hB;have l1:=r.length;have l2:=r'.length;obtain⟨⟨cls,dd,data,sl⟩,ho,hc,n,hd⟩:=id p.isList;obtain⟨⟨cls2,dd2,data2,sl2⟩,ho2,hc2,n2,hd2⟩:=id p'.isList;simp only at hc hd hc2 hd2;subst hc hd hc2 hd2;refine concat_meets ⟨_,ho,rfl⟩ ⟨_,ho2,rfl⟩ noFill_list_add seq_list_add PySem.F.slot_list_add PySem.F.entry_list_add (PySem.F.args_list_add_2 _ _) (list_addW l b its.toArray jts.toArray n n2 dd dd2 sl sl2 (by rw[ya,ya];omega)) ⟨ho,ho2,?_⟩;have ea:its.toArray++jts.toArray=(its++jts).toArray:=by simp
 rw[ea];exact⟨.ref _,_,I.Sj (t':=s.toks) (r.append r') (by rw[zg];omega),rfl,q _ I.fresh⟩
end
def Bv (n:Nat) (x:Int×Int):Prop:=Sz n x.1/\Sz n x.2
theorem Bv.red (ht:0<=t) (hb:0<b) (h1:Sz n t) (h2:Sz n b):Bv n (Lm.red t b):=by
 obtain⟨g,g0,_,_,p,l⟩:=Lm.lR (t:=t) hb;exact⟨h1.le (Lm.y8 ht) (Lm.y9 ht),h2.le (Int.le_of_lt p) l⟩
theorem Bv.add (hx:Lm.Rd x) (hy:Lm.Rd y) (h:Bv n x) (k:Bv m y):Bv (n+m+1) (Lm.add x y):=by
 obtain⟨a,b,_⟩:=hx.pos;obtain⟨c,d,_⟩:=hy.pos;refine Bv.red (Int.add_nonneg (Int.mul_nonneg a nofun) (Int.mul_nonneg c nofun)) (Int.mul_pos b d) ?_ ((h.2.mul k.2).mono nofun);refine Sz.add (h.1.mul k.2) ?_;have:=k.1.mul h.2;rw[Nat.add_comm] at this;exact this
def dec (n:Int):Str:=Str.ofString (toString n)
def lI {x y:Str} (h:x.cps.toList=y.cps.toList):x=y:=by
 cases x;cases y;simp only[Str.mk.injEq];exact Array.toList_inj.mp h
def cF (x y:Str):(x++y).cps.toList=x.cps.toList++y.cps.toList:=Array.toList_append ..
def len_app (x y:Str):(x++y).length=x.length+y.length:=Array.size_append ..
def LC (x y z:Str):x++y++z=x++(y++z):=lI (by rw[cF,cF,cF,cF,zE])
def xE (m:Nat):(dec (m:Int)).cps.toList=(Nat.toDigits 10 m).map Char.toNat:=PySem.W.KIN.signs_num m
def EG (m:Nat):(dec (m:Int)).length=(Nat.toDigits 10 m).length:=by
 have h:=congrArg List.length (xE m);rw[za,Array.length_toList] at h;exact h
def Pk (h:c∈(Nat.toDigits 10 m).map Char.toNat):48<=c/\c<=57:=by
 obtain⟨ch,hc,e⟩:=zG.mp h;have r:=Nat.isDigit_of_mem_toDigits ∅ ∅ hc;rw[<-e];simp only[Char.isDigit,zN,decide_eq_true_eq] at r;exact⟨r.1,r.2⟩
section
variable {X:Cx}
end
section
variable {X:Cx}
def QI:V->Option Int->Option Int->Hp->VK->Prop:=fun x lo hi H Q=>∃t:Str,x=.str t/\t.length<=sizeLine/\Q (.str (PySem.Txt.slice t lo hi)) H
def Ip:N5 X QI:=by
 intro pins s σ H x v vl vu lo hi sl Q I rx hs pl pu h;obtain⟨t,rfl,hz,q⟩:=h;obtain⟨tk,rfl⟩:=rx;obtain⟨o,ho,hc,hd⟩:=hs;have fin:∀(l u:Option (Int×Tok)),l.map (·.1)=lo->u.map (·.1)=hi->partValue l=vl->partValue u=vu->
   ∃T id,typeLookup (.type T) "__getitem__"= pure (some (.builtin id))/\s.TypeIs (.str t tk) T/\wpAny (model X.prog X.w) X.A (getItem (.str t tk) (.ref sl)) (EP X pins σ Q) X.xe s:=by
  intro l u e1 e2 e3 e4;subst e1 e2 e3 e4;exact⟨"str",_,F.slot_str_getitem.lookup,typeIs_str _ _ _,wpAny_getItem_str_slice (l:=l) (u:=u) (st:=none) ⟨o,ho,hc,hd⟩ rfl
   (post_val_or_str ⟨zL (PySem.Txt.slice_le t _ _) hz,fun t' k=>⟨.str _,H,I.tok _,⟨_,rfl⟩,q⟩⟩)⟩
 cases pl with
 | none=>
  cases pu with
  | none=>exact fin none none rfl rfl rfl rfl
  | int j tj=>exact fin none (some (j,tj)) rfl rfl rfl rfl
 | int i ti=>
  cases pu with
  | none=>exact fin (some (i,ti)) none rfl rfl rfl rfl
  | int j tj=>exact fin (some (i,ti)) (some (j,tj)) rfl rfl rfl rfl
def SQ (x:Str):It:=⟨fun i _=>i<x.length,fun i H v H'=>H'=H/\∃c,x.cps[i]?=some c/\v=.str ⟨#[c]⟩,fun i _=>x.length<=i⟩
def Mg {P:Program} {w:World} {K:yA} {tg:Expr} (x:Str) (t:Tok) (it:Addr) (ty:String) (hty:ty ="str_ascii_iterator"\/ty ="str_iterator"):Turn P w K tg (SQ x) [it] it (fun i h=>i<=x.length/\h.IsStrIter it ty x t i) where
 mem:=by simp
 obj:=fun i h st b hb=>by
  have e:b=it:=by simpa using hb
  subst e;obtain⟨_,o,e,c,d⟩:=st;exact⟨o,e,fun v z=>by rw[d] at z;cases z⟩
 keep:=fun i h h' st k=>⟨st.1,let ⟨o,ho,r⟩:=st.2;⟨o,k it (by simp) o ho,r⟩⟩
 item:=by
  intro X hP hw hK hc i pins s σ H E I hf st hg;subst hP hw hK;have W:Walks X.prog X.w X.A it [it] [it] x.cps.size (SignAt x) (fun i h=>h.IsStrIter it ty x t i):=by
   rcases hty with rfl | rfl
   ·exact Walks.strAscii (I.ok.hd hc) it x t
   ·exact Walks.strWide (I.ok.hd hc) it x t
  refine W.item i s _ _ hg st.2 fun v h' tk hv z' kk=>?_;obtain⟨c,u,hcx,rfl⟩:=hv;have I1:Inv X pins σ H {s with heap:=h',toks:=tk}:=I.turns hf fun b o hb e=>kk b o (by simpa using hb) e;obtain⟨o,e,cc,d⟩:=id z';have hgl:i<x.length:=hg;refine⟨_,rfl,AD (s:={s with heap:=h',toks:=tk}) (n:=ty) e cc d ?_ ⟨.str ⟨#[c]⟩,H,I1,⟨u,rfl⟩,⟨rfl,c,hcx,rfl⟩,⟨hgl,z'⟩,fun b hb=>(hf b hb).1⟩⟩;rcases hty with rfl | rfl <;> decide
 done:=by
  intro X hP hw hK hc i pins s σ H E I hf st hg;subst hP hw hK;have hi:i=x.cps.size:=Nat.le_antisymm st.1 hg;subst hi;have W:Walks X.prog X.w X.A it [it] [it] x.cps.size (SignAt x) (fun i h=>h.IsStrIter it ty x t i):=by
   rcases hty with rfl | rfl
   ·exact Walks.strAscii (I.ok.hd hc) it x t
   ·exact Walks.strWide (I.ok.hd hc) it x t
  exact W.done s _ _ st.2 fun h' tk eb=>⟨rfl,I.turns hf fun b o hb e=>eb b o (by simpa using hb) e⟩
 self:=fun A i s Q E z h=>by
  rcases hty with rfl | rfl
  ·exact wpAny_pyIter_striter_ascii z.2 h
  ·exact wpAny_pyIter_striter_wide z.2 h
def Uj (tl:TE):TI:=fun σ H R=>tl σ H fun x H1=>∃t,x=.str t/\R (SQ t) H1
def M3 {tg l:Expr} {tl:TE} (hl:PE X l tl):PI X tg l (Uj tl):=by
 intro pins s σ H R I h;refine cU (hl pins s σ H _ I h) fun v s1 zz=>?_;obtain⟨x,H1,I1,r1,q1⟩:=zz;obtain⟨t,e,q⟩:=q1;subst e;obtain⟨tk,rfl⟩:=r1;refine wpAny_pyIter_strU ?_;refine⟨↑s1,[↑s1],_,_,H1,rfl,I1.kept (t':=s1.toks) fun b o e=>yu _ e,Mg t tk _ (strIterType t) ?_,⟨yf _,_,yw _ rfl,rfl,rfl⟩,fun b hb=>?_,q⟩
 ·unfold strIterType
  split
  ·exact .inl rfl
  ·exact .inr rfl
 ·have e:b=↑s1:=by simpa using hb
  subst e;exact I1.uS (zk _) (I1.cb.fresh (zk _))
theorem CB:∀(l:List (Str×Tok)),Vals ((l.map (·.1)).map V.str) (strValues l)
 | []=>.nil
 | (x,t)::r=>.cons ⟨t,rfl⟩ (CB r)
def QH:V->List V->Hp->VK->Prop:=fun x vs H Q=>∃(t y:Str),x=.str t/\vs=[.str y]/\y.length=1/\t.length+2<=sizeLine/\∀l,H l=none->Q (.ref l) (upd H l (.lst ((PySem.Txt.split t y).map V.str)))
def jD:P9 X "str.split" QH:=by
 intro pins s σ H x vs v us Q I rx rv h;obtain⟨t,y,rfl,rfl,hy,hz,q⟩:=h;obtain⟨tk,rfl⟩:=rx;obtain⟨u,rfl,tk',rfl⟩:=rv.one;have hy':(y.length == 0)=false:=by rw[hy];rfl
 have hle:=split_le t y;have fin:∀(l:List (Str×Tok)) (k:Nat),l.map (·.1)=PySem.Txt.split t y->
   EP X pins σ Q (.ref ↑s) {s with heap:=s.heap.push {cls:=.type "list",data:=.seq (strValues l).toArray},toks:=k}:=fun l k e=>
  ⟨.ref _,_,I.Sj (t':=k) (by rw[<-e];exact CB l) (by rw[za];omega),rfl,q _ I.fresh⟩
 cases h1:(decide (t.length<y.length)||decide (Builtin.Str.strKind t<Builtin.Str.strKind y))
 ·cases hf:(Builtin.Str.occurrences t y 0 t.length (t.length+1)).isEmpty
  ·have es:PySem.Txt.split t y=Builtin.Str.partsBetween t (Builtin.Str.occurrences t y 0 t.length (t.length+1)) y.length:=by
    unfold PySem.Txt.split;rw[h1,hf];rfl
   refine call_meets F.slot_str_split (typeIs_str s t tk) F.entry_str_split (F.args_str_split_2 _ _) (meets_str_split_sep t y tk tk' h1 hy' hf nofun (by rw[<-es];omega)) ?_;rw[strsFrom_eq];exact fin (numbered s.toks _) _ ((numbered_texts _ _).trans es.symm)
  ·have es:PySem.Txt.split t y=[t]:=by
    unfold PySem.Txt.split;rw[h1,hf];rfl
   refine call_meets F.slot_str_split (typeIs_str s t tk) F.entry_str_split (F.args_str_split_2 _ _) (meets_str_split_not_found t y tk tk' h1 hy' hf) ?_;exact fin [(t,tk)] _ es.symm
 ·have es:PySem.Txt.split t y=[t]:=by
   unfold PySem.Txt.split;rw[h1];rfl
  refine call_meets F.slot_str_split (typeIs_str s t tk) F.entry_str_split (F.args_str_split_2 _ _) (meets_str_split_cannot_occur t y tk tk' h1) ?_;exact fin [(t,tk)] _ es.symm
def OI:V->List V->Hp->VK->Prop:=fun x vs H Q=>∃(t y:Str),x=.str t/\vs=[.str y]/\Q (.bl (decide (0+y.length<=t.length)&&Builtin.Str.subAt t y 0)) H
def B1:P9 X "str.startswith" OI:=by
 intro pins s σ H x vs v us Q I rx rv h;obtain⟨t,y,rfl,rfl,q⟩:=h;obtain⟨tk,rfl⟩:=rx;obtain⟨u,rfl,tk',rfl⟩:=rv.one;exact call_meets F.slot_str_startswith (typeIs_str s t tk) F.entry_str_startswith (F.args_str_startswith_2 _ _) (gives_str_startswith t y tk tk').meets ⟨.bl _,H,I,rfl,q⟩
def EZ:fT X (.type "int") (fun xs H Q=>∃(t:Str) (n:Int),xs=[.str t]/\PySem.intText? t=some n/\t.length<=640/\Q (.int n) H):=by
 intro pins s σ H xs us Q I r h;obtain⟨t,n,rfl,hn,hl,q⟩:=h;obtain⟨u,rfl,tk,rfl⟩:=vals1 r;exact PySem.W.KIN.call_text hn hl ⟨.int n,H,I.tok _,⟨_,rfl⟩,q⟩
end
def join_one (sep x:Str):Str.join sep [x]=x:=rfl
def fh (sep x y:Str) (r:List Str):Str.join sep (x::y::r)=x++sep++Str.join sep (y::r):=rfl
theorem GN:∀{ps qs:List Str},ps≠[]->qs≠[]->(∀p∈ps,c∉p.cps.toList)->(∀q∈qs,c∉q.cps.toList)->Str.join ⟨#[c]⟩ ps=Str.join ⟨#[c]⟩ qs->ps=qs
 | [],_,h,_,_,_,_=>absurd rfl h
 | _,[],_,h,_,_,_=>absurd rfl h
 | [p],[q],_,_,_,_,h=>by rw[join_one,join_one] at h;rw[h]
 | [p],q::q2::r,_,_,hp,_,h=>by
  rw[join_one,fh] at h;have e:=congrArg (fun z:Str=>z.cps.toList) h;simp only[cF] at e;exact absurd (show c∈p.cps.toList by rw[e];simp) (hp p zp)
 | p::p2::r,[q],_,_,_,hq,h=>by
  rw[join_one,fh] at h;have e:=congrArg (fun z:Str=>z.cps.toList) h;simp only[cF] at e;exact absurd (show c∈q.cps.toList by rw[<-e];simp) (hq q zp)
 | p::p2::r,q::q2::r',_,_,hp,hq,h=>by
  rw[fh,fh] at h;have e:=congrArg (fun z:Str=>z.cps.toList) h;simp only[cF,zE] at e;obtain⟨e1,e2⟩:=Lm.Kh (hp p zp) (hq q zp) (show p.cps.toList++c::(Str.join ⟨#[c]⟩ (p2::r)).cps.toList=q.cps.toList++c::(Str.join ⟨#[c]⟩ (q2::r')).cps.toList from e);have ih:=GN (ps:=p2::r) (qs:=q2::r') (by simp) (by simp) (fun z hz=>hp z (zm _ hz)) (fun z hz=>hq z (zm _ hz)) (lI e2);rw[ih,lI e1]
def gy (ne:ps≠[]) (fr:∀p∈ps,c∉p.cps.toList):PySem.Txt.split (Str.join ⟨#[c]⟩ ps) ⟨#[c]⟩=ps:=by
 refine GN ?_ ne (PySem.StrLaws.split_free _ c) fr (PySem.StrLaws.join_split _ _);intro z;have:=split_pos (Str.join ⟨#[c]⟩ ps) ⟨#[c]⟩;rw[z] at this;exact absurd this ∅
def DJ (ha:c∉a.cps.toList) (hb:c∉b.cps.toList):PySem.Txt.split (a++⟨#[c]⟩++b) ⟨#[c]⟩=[a,b]:=by
 refine gy (ps:=[a,b]) (by simp) fun p hp=>?_;rcases zC.mp hp with rfl | hp
 ·exact ha
 ·rw[zy.mp hp];exact hb
def split1 (ha:c∉a.cps.toList):PySem.Txt.split a ⟨#[c]⟩=[a]:=by
 refine gy (ps:=[a]) (by simp) fun p hp=>?_;rw[zy.mp hp];exact ha
def QB (ha:c∉a.cps.toList) (hb:c∉b.cps.toList) (hd:c∉d.cps.toList):PySem.Txt.split (a++⟨#[c]⟩++b++⟨#[c]⟩++d) ⟨#[c]⟩=[a,b,d]:=by
 have e:a++(⟨#[c]⟩:Str)++b++⟨#[c]⟩++d=Str.join ⟨#[c]⟩ [a,b,d]:=by
  rw[fh,fh,join_one];simp only[LC]
 rw[e];refine gy (ps:=[a,b,d]) (by simp) fun p hp=>?_;rcases zC.mp hp with rfl | hp
 ·exact ha
 rcases zC.mp hp with rfl | hp
 ·exact hb
 ·rw[zy.mp hp];exact hd
def xD (h:n<0):dec n ="-" ++ dec (-n):=by
 obtain⟨m,rfl⟩:∃m:Nat,n=Int.negSucc m:=⟨(-n-1).toNat,nofun⟩
 refine lI ?_;rw[cF];have e1:(dec (Int.negSucc m)).cps.toList=("-" ++ toString (m+1)).toList.map Char.toNat:=PyProof.Rows.signs_ofString _;have e2:(dec (-(Int.negSucc m))).cps.toList=(toString (m+1)).toList.map Char.toNat:=PyProof.Rows.signs_ofString _;rw[e1,e2,String.toList_append,zj];rfl
def lC {n:Nat} {c:Nat} (h:c∈(dec (n:Int)).cps.toList):48<=c/\c<=57:=by
 rw[xE] at h;exact Pk h
def Ln {n:Nat} (h:(dec (n:Int)).cps[0]?=some 48):(dec (n:Int)).length=1:=by
 rcases Nat.eq_zero_or_pos n with rfl | hn
 ·rw[EG];decide
 ·obtain⟨c,r,e,hc⟩:=Lm.NA n hn
  rw[<-Array.getElem?_toList,xE,e] at h;simp only[zh,List.getElem?_cons_zero,Option.some.injEq] at h;exact absurd (Char.toNat_inj.mp (by rw[h];rfl)) hc
def G7 {n:Nat}:1<=(dec (n:Int)).length:=by
 rw[EG];exact PySem.toDigits_len_ge 10 n
def Dh {n k:Nat} (hk:0<k) (h:n<10^k):(dec (n:Int)).length<=k:=by rw[EG];exact Lm.Q3 hk h
def Rg (a:Option Int) (n:Nat):Builtin.Str.strSliceIndices a none 1 n=Builtin.Str.strSliceIndices a (some (n:Int)) 1 n:=by
 have h:¬((n:Int)<0):=nofun
 have e:max (0:Int) (min (n:Int) (n:Int))=n:=nofun
 simp only[Builtin.Str.strSliceIndices,h,if_false,e,show((1:Int)>0)=True from by simp,if_true]
def Rf (b:Option Int) (n:Nat):Builtin.Str.strSliceIndices none b 1 n=Builtin.Str.strSliceIndices (some ((0:Nat):Int)) b 1 n:=by
 have h:¬(((0:Nat):Int)<0):=nofun
 have e:max (0:Int) (min ((0:Nat):Int) (n:Int))=0:=nofun
 simp only[Builtin.Str.strSliceIndices,h,if_false,e,show((1:Int)>0)=True from by simp,if_true]
def CI (x:Str) (hab:a<=b) (hb:b<=x.length):(PySem.Txt.slice x (some (a:Int)) (some (b:Int))).cps.toList=(x.cps.toList.drop a).take (b-a):=by
 unfold PySem.Txt.slice;split
 ·rename_i h
  rw[PySem.StrLaws.strSliceIndices_plain hab hb] at h;simp only[beq_self_eq_true,Bool.true_and,beq_iff_eq,za,zQ] at h;have hl:x.cps.toList.length=x.length:=Array.length_toList;have ea:a=0:=nofun
  have eb:b-a=x.cps.toList.length:=nofun
  rw[eb,ea,List.drop_zero,zM]
 ·exact PySem.StrLaws.sliced_plain x hab hb
def qG (x:Str) (h:a<=x.length):(PySem.Txt.slice x (some (a:Int)) none).cps.toList=x.cps.toList.drop a:=by
 have e:PySem.Txt.slice x (some (a:Int)) none=PySem.Txt.slice x (some (a:Int)) (some ((x.length:Nat):Int)):=by
  unfold PySem.Txt.slice;rw[Rg]
 have hl:x.cps.toList.length=x.length:=Array.length_toList;rw[e,CI x h (zk _),List.take_of_length_le (by rw[List.length_drop];omega)]
def FZ (x:Str) (h:b<=x.length):(PySem.Txt.slice x none (some (b:Int))).cps.toList=x.cps.toList.take b:=by
 have e:PySem.Txt.slice x none (some (b:Int))=PySem.Txt.slice x (some ((0:Nat):Int)) (some (b:Int)):=by
  unfold PySem.Txt.slice;rw[Rf]
 rw[e,CI x (yf _) h,List.drop_zero,Nat.sub_zero]
def qV {K:yA} {mg:Str->Option Value} {base:Heap} {x:Str} {C:Addr} {bm:List Value} {newId:String} (P:Program) (m:Mod K mg base) (e:PySem.W.nsIn K mainGlobals x=some (some (.ref C)))
  (q:PySem.W.excIn K C bm newId=true):OwnCls x C bm newId mg base:=by
 obtain⟨mb,hb,hbb⟩:=m.blt;obtain⟨o0,es0,ep0,hg0,hd0,sk0,look⟩:=m.glob;have fr:∀y,y∉(es0.toList.filterMap fun(d:DictEntry)=>match d.key with | .str z _=>some z | _=>none)->mg y=none:=fun y hy=>by
  rw[<-look y];show(es0.find? fun d=>d.key.isStr y).map (·.val)=none;cases hf:es0.find? fun d=>d.key.isStr y with
  | none=>rfl
  | some d=>
   exfalso;have hm:=Array.mem_of_find?_eq_some hf;have hk:=Array.find?_some hf;obtain⟨z,t,ez⟩:=sk0 d hm;have ezy:z=y:=by rw[ez] at hk;exact eq_of_beq (show(z == y)=true from hk)
   exact hy (List.mem_filterMap.mpr ⟨d,by simpa using hm,by rw[ez,ezy]⟩)
 exact PySem.W.own_of_in (p:=P) (loose:=es0.toList.filterMap fun(d:DictEntry)=>match d.key with | .str z _=>some z | _=>none) m.Q4 ⟨m.glob,hb,m.nolimit,hbb,fun y _ hl _ _ _=>fr y hl⟩ e q
structure L3 (P:Program) (w:World) (fs:List Addr) (H H':Hp) (h B h':Heap):Prop where
 keep:∀b o,h.get? b=some o->H b=none->b∉fs->B.get? b=some o
 slot:∀b o,h.get? b=some o->H b=none->b∈fs->∃sl,h'.get? b=some {o with slots:=sl}
 free:∀b o,h.get? b=some o->H b=none->H' b=none
 there:∀b o,h.get? b=some o->b∉fs->∃o',B.get? b=some o'
 pF:∀b xs,H b=some (.tup xs)->H' b=some (.tup xs)
 nF:∀b o u,H b=some (.nK o u)->H' b=some (.nK o u)
 pG:∀b ps,H b=some (.Ml ps)->∃more,H' b=some (.Ml (ps++more))
 cb:rJ P w H' B
 lJ:B.StaysIn h'
section
variable {P:Program} {w:World} {fs:List Addr} {H H':Hp} {h B h' h2:Heap}
def L3.un (f:L3 P w fs H H' h B h') (GR:∀b∈fs,H b=none):Un fs [] H H' h h' where
 keep:=fun b o e n hb _=>f.lJ b o (f.keep b o e n hb)
 slot:=fun b o e n hb _=>f.slot b o e n hb
 free:=fun b o e n _=>f.free b o e n
 there:=fun b o e _=>by
  by_cases hb:b∈fs
  ·obtain⟨sl,q⟩:=f.slot b o e (GR b hb) hb
   exact⟨_,q⟩
  ·obtain⟨o',q⟩:=f.there b o e hb
   exact⟨o',f.lJ b o' q⟩
 pF:=f.pF
 nF:=f.nF
 pG:=f.pG
def L3.on (f:L3 P w fs H H' h B h') (u:h'.UpToSlots h2) (st:B.StaysIn h2) (nf:∀b∈fs,∃o,h'.get? b=some o/\∀vs,o.data≠.fields vs):L3 P w fs H H' h B h2:=
 ⟨f.keep,fun b o e n hb=>by
  obtain⟨sl,q⟩:=f.slot b o e n hb;obtain⟨o1,q1,nd⟩:=nf b hb;rw[q] at q1;cases q1;obtain⟨sl2,q2⟩:=u b _ q nd;exact⟨sl2,q2⟩,f.free,f.there,f.pF,f.nF,f.pG,f.cb,st⟩
end
def HS (P:Program) (w:World):JI:=fun outer H s E e s'=>∃(a:Addr) (cls a0:Value) (B:Heap) (H':Hp),e=.ref a/\s'.os=s.os/\AllBare s'.gens/\Heap.FlyingW B outer a cls a0 s'.heap/\L3 P w (qy outer) H H' s.heap B s'.heap/\E cls none H'
def NH (hf:env.frame=some L):qy (env::outer)=L::qy outer:=by
 unfold qy;rw[List.filterMap_cons,hf]
def Qq (C:Addr) (te:TA) (E:XK):TS:=fun _ σ H=>te σ H fun vs H1=>vs.length<=sizeLine/\E (.ref C) none H1
section
variable {P:Program} {w:World} {K:yA} {mg:Str->Option Value} {base:Heap} {N:List Str} {qual:Str} {scope:Scope} {f:Addr} {cdv:Value} {A:Around} {outer:List Env} {s₀:Shared} {H₀:Hp} {E:XK}
def Gf
  (hC0:PySem.W.nsIn K mainGlobals x=some (some (.ref C))) (hQ0:PySem.W.excIn K C bm newId=true) (FB:ExcBaseFacts Bn newId initId bm) (hg:Gl (kG (HS P w) P w K mg base N qual scope f cdv A outer s₀ H₀ E) x)
  (ha:PA (kG (HS P w) P w K mg base N qual scope f cdv A outer s₀ H₀ E) (e₀::es) ta) (hd:(x == ("__debug__": Str))=false<|>qb_)
  (hs:starEach (e₀::es) (kG (HS P w) P w K mg base N qual scope f cdv A outer s₀ H₀ E).env=(false,eval e₀ (kG (HS P w) P w K mg base N qual scope f cdv A outer s₀ H₀ E).env)::starEach es (kG (HS P w) P w K mg base N qual scope f cdv A outer s₀ H₀ E).env<|>qe_)
  (hpl:(backTo cpos (starEach es (kG (HS P w) P w K mg base N qual scope f cdv A outer s₀ H₀ E).env)).any (·.1)=false<|>qe_) :
  PS (kG (HS P w) P w K mg base N qual scope f cdv A outer s₀ H₀ E) (.Raise (some (.Call (.Name x np) (e₀::es) [] cpos)) none pos) (Qq C ta E):=by
 intro pins s σ H D I h;have O:OwnCls x C bm newId mg base:=qV P I.ok.mod hC0 hQ0;obtain⟨tl,Nn,nm,q,bs,hdct,sn,sub,ab,col,dd,k0,k1,k2,k3,k5,mN,hC,hN,hni,T⟩:=O.obj;refine wpAny_Raise_call_subT (C:=C) (nm:=nm) (q:=q) (N:=Nn) (bs:=bs) (bm:=tl) (hdct:=hdct) (sn:=sn) (sub:=sub) (ab:=ab) (col:=col) (dd:=dd) (k0:=k0) (k1:=k1) (k2:=k2) (k3:=k3) (k5:=k5)
  FB (mN:=mN) (T.hasType FB.hasBase) (I.ok.hd rfl) (by rw[hs];show(false||(backTo cpos (starEach es (kG (HS P w) P w K mg base N qual scope f cdv A outer s₀ H₀ E).env)).any (·.1))=false;rw[hpl];rfl) hni (kb I hg O.bound ⟨rfl,?_⟩ hd)
 have hA:=ha cpos pins s σ H _ I h;rw[hs] at hA ⊢;refine Calls.evalArgs_plain (wpAny_mono hA (fun us s2 ⟨vs,H2,I2,r2,hl,q2⟩=>⟨rfl,?_,I2.bk _ _ hC,hN.keeps I2.bk,T.keeps I2.bk,fun h' e mk=>?_⟩) fun _ _ y=>y)
 ·show us.length<=sizeLine
  rw[<-r2.length];exact hl
 show wpAny (model P w) (A.deeper (envOfC qual scope ↑s₀ f cdv)) (leaving (envOfC qual scope ↑s₀ f cdv) (.ref e)) (fun _ s''=>HS P w outer H₀ s₀ E (.ref e) s'') (fun e' s''=>HS P w outer H₀ s₀ E e' s'') {s2 with heap:=h'};have hfr:qy (envOfC qual scope ↑s₀ f cdv::outer)=↑s₀::qy outer:=NH rfl;have hst:s2.heap.FunFrames base (envOfC qual scope ↑s₀ f cdv::outer):=I2.stack;have hin:∀env∈(envOfC qual scope ↑s₀ f cdv::outer),∀a,env.frame=some a->a∈qy (envOfC qual scope ↑s₀ f cdv::outer):=fun env he a hf=>List.mem_filterMap.mpr ⟨env,he,hf⟩;have hl:=PySem.W.funFrames_hide (as:=qy (envOfC qual scope ↑s₀ f cdv::outer)) hst hin;refine wpAny_leaves_madeW (base:=PySem.W.hideAll s2.heap (qy (envOfC qual scope ↑s₀ f cdv::outer))) (h:=s2.heap) I2.ok.frames rfl (fun b o q=>PySem.W.of_hideAll _ q) hl mk (fun h'' t fl _ _ ups=>?_);have low:∀b o,s₀.heap.get? b=some o->b≠↑s₀:=fun b o e z=>absurd (yx e) (by rw[z];exact ye _);have nin:∀b o,s₀.heap.get? b=some o->b∉qy outer->b∉qy (envOfC qual scope ↑s₀ f cdv::outer):=fun b o e n z=>by
  rw[hfr] at z;rcases zC.mp z with z | z
  ·exact low b o e z
  ·exact n z
 have wN:∀b:Addr,b∉(kG (HS P w) P w K mg base N qual scope f cdv A outer s₀ H₀ E).ex:=fun b z=>absurd (show b∈([]:List Addr) from z) (by simp);refine⟨e,.ref C,.ref t,_,H2,rfl,I2.os,I2.bare,fl,⟨fun b o q n hb=>PySem.W.hideAll_get _ (I2.base.keep b o q n hb (wN b)) (nin b o q hb),fun b o q n hb=>?_,fun b o q n=>I2.base.free b o q n (wN b),fun b o q hb=>?_,I2.base.pF,I2.base.nF,I2.base.pG,fun a o q=>?_,fl.1⟩,q2⟩
 ·obtain⟨sl,e1⟩:=I2.base.slot b o q n hb (wN b)
  obtain⟨_,o1,e2,nd⟩:=I2.ok.pN.mem hb;have e3:=mk.keeps _ _ e1;have e2':s₀.heap.get? b=some o1:=e2;rw[q] at e2';cases e2';obtain⟨sl2,e4⟩:=ups b _ e3 nd;exact⟨sl2,e4⟩
 ·obtain⟨o',e1⟩:=I2.base.there b o q (wN b)
  exact⟨o',PySem.W.hideAll_get _ e1 (nin b o q hb)⟩
 ·refine(I2.cb a o q).lJ (fun b u hb e1=>PySem.W.hideAll_get _ e1 fun z=>?_) (fun _ z=>z) fun _ _ z=>z
  have n:=I2.rO b z;rcases hb with rfl | hb
  ·rw[q] at n;cases n
  ·rw[hb] at n;cases n
def N9.UP {x:Str} {st:Stmt} {fd:FuncData} {ps:List Str} {k:Nat} {sp:Sp} (F:N9 K x qual st f fd) (S:aD N ps (ao st)) (len:∀vs H Q E,sp vs H Q E->vs.length=ps.length)
  (hbody:∀(cdv:Value) (A:Around) (outer:List Env) (s:Shared) (H:Hp) (vs:List V) (Q:VK) (E:XK),fV k (A.deeper (envOfC qual (ao st) ↑s f cdv))->sp vs H Q E->
   ∃t,Dv (kG (HS P w) P w K mg base N qual (ao st) f cdv A outer s H E) (cz st) t/\t {nx:=fun _ H'=>Q .bI H',rt:=Q} (start N vs) H):dP P w K mg base (HS P w) (k+1) f fd ps sp:=by
 obtain⟨oc,od,kV,doc,pm,an,cdv,ct,osl,rfl,lk,hcd⟩:=F.ex;exact P5 lk hcd S len fun A outer s H vs Q E hr hsp=>hbody cdv A outer s H vs Q E hr hsp
end
abbrev Cx.held (X:Cx) (e:Value):Cx:={X with A:=X.A.mark (some e),calm:=false}
theorem Cx.Ok.held {X:Cx} (ok:X.Ok) (e:Value):(X.held e).Ok:=
 ⟨ok.mod,ok.kind,ok.glob,ok.blt,ok.above,ok.inj,ok.has,ok.Rr,fun z=>(nomatch (show false=true from z)),ok.frames,ok.RC,ok.Tc,ok.bs,ok.LY,ok.wN,ok.IZ,ok.pN,ok.GR⟩
def Cx.Ok.lG {X:Cx} {e:Value} (ok:(X.held e).Ok) (hd:X.calm=true->X.A.handled=none):X.Ok:=
 ⟨ok.mod,ok.kind,ok.glob,ok.blt,ok.above,ok.inj,ok.has,ok.Rr,hd,ok.frames,ok.RC,ok.Tc,ok.bs,ok.LY,ok.wN,ok.IZ,ok.pN,ok.GR⟩
section
variable {X:Cx} {pins:List (Addr×Obj)} {σ:St} {H:Hp} {s:Shared} {e:Value}
theorem Inv.held (I:Inv X pins σ H s) (e:Value):Inv (X.held e) pins σ H s:=⟨I.ok.held e,I.os,I.bare,I.base,I.loc,I.cell,I.free,I.kf,I.pin,I.cb,I.len⟩
theorem Inv.lG (I:Inv (X.held e) pins σ H s) (hd:X.calm=true->X.A.handled=none):Inv X pins σ H s:=⟨I.ok.lG hd,I.os,I.bare,I.base,I.loc,I.cell,I.free,I.kf,I.pin,I.cb,I.len⟩
theorem SP.lG (hd:X.calm=true->X.A.handled=none) (h:SP (X.held e) pins D f s'):SP X pins D f s':=by
 cases f with
 | next=>obtain⟨σ',H',I,q⟩:=h;exact⟨σ',H',I.lG hd,q⟩
 | brk=>obtain⟨σ',H',I,q⟩:=h;exact⟨σ',H',I.lG hd,q⟩
 | cont=>obtain⟨σ',H',I,q⟩:=h;exact⟨σ',H',I.lG hd,q⟩
 | ret u=>obtain⟨v,σ',H',I,r,q⟩:=h;exact⟨v,σ',H',I.lG hd,r,q⟩
end
def RV (i:Nat) (sp:Sp) (t:TA) (C:Addr) (th:TS):TS:=fun D σ H=>t σ H fun vs H1=>sp vs H1 (fun v H2=>bO i v σ H2 D.nx) fun cls _ H2=>cls=.ref C/\th D σ H2
section
variable {X:Cx} {k:Nat} {f:Addr} {fd:FuncData} {ps:List Str} {sp:Sp} {fx cn x:Str} {p pos cpos pa tpos np hpos:Pos} {e₀:Expr} {es:List Expr} {t:TA} {i:Nat} {C:Addr} {bm:List Value} {newId:String} {b₀:Stmt} {suite:List Stmt} {th:TS}
def ON (F:dP X.prog X.w X.K X.mg X.base (HS X.prog X.w) k f fd ps sp) (hr:fV k X.A) (hg:Gl X fx) (hm:X.mg fx=some (.ref f)) (hk:PySem.W.keepIn X.K (.ref f)=true) (hb:Binds X.K fd ps []) (ha:PA X.IG (e₀::es) t)
  (hc:X.calm=true) (hN:X.N.Nodup) (hi:X.N[i]?=some x) (hx:Loc X.env.scope x) (hgc:Gl X cn) (hC0:PySem.W.nsIn X.K mainGlobals cn=some (some (.ref C))) (hQ0:PySem.W.excIn X.K C bm newId=true) (hbase:bm.contains (.type "BaseException")=true) (hstk:X.stack=X.env::X.outer) (hfrm:X.env.frame=some X.env.locals)
  (hsu:∀e,Dv (X.held e).IG (b₀::suite) th)
  (hdb:(fx == ("__debug__": Str))=false<|>qb_) (hdc:(cn == ("__debug__": Str))=false<|>qb_) (he:starEach (e₀::es) X.env=(false,eval e₀ X.env)::starEach es X.env<|>qe_) (hpl:(backTo cpos (starEach es X.env)).any (·.1)=false<|>qe_)
  (hs:swapsWith (.Call (.Name fx p) (e₀::es) [] cpos) (some (.Name x tpos)) pa.line X.env=pure false<|>qe_) (hf:X.fn x=true\/X.env.scope.names.lookup x=some .local<|>qa_) :
  PS X (.Try [.Assign [.Name x tpos] (.Call (.Name fx p) (e₀::es) [] cpos) pa] [.ExceptHandler (some (.Name cn np)) none (b₀::suite) hpos] [] [] pos) (RV i sp t C th):=by
 intro pins s σ H D I h;have O:OwnCls cn C bm newId X.mg X.base:=qV X.prog I.ok.mod hC0 hQ0;refine wpAny_Try_except (wpAny_execs_cons ?_);refine wpAny_Assign_Name ?_ hs;refine wpAny_Call_Name_kw (kb I hg hm ?_ hdb);have hA:wpAny (model X.prog X.w) X.A (spliced (backTo cpos (starEach (e₀::es) X.env))) (AP X.IG pins σ _) (fun _ _=>False) s:=ha cpos pins s σ H _ (I.rL _) h;refine PySem.W.callWith_K (h₀:=X.base) I.ok.mod.Q4 hk (wpAny_mono hA (fun us s1 ⟨vs,H1,I1',r,q⟩=>⟨I1'.tE,?_⟩) fun _ _ z=>z.elim) he hpl;have I1:Inv X pins σ H1 s1:=I1'.hZ;have hl:us.length=ps.length:=by rw[<-r.length];exact F.len _ _ _ _ q
 refine wpAny_call (codeAny_mono (F.run X.A X.stack s1 H1 ⟨us,[]⟩ us vs _ _ hr I1.Pd (by have:=hb s1 us I1.tE (by rw[zU];exact hl);rw[zU] at this;exact this) r q) fun rr s' hq=>?_);cases rr with
 | ok fl=>
  cases fl with
  | ret u=>
   obtain⟨v,H2,I2,r2,q2⟩:=I1.after hq;refine nQ I2 hN hi hx r2 (fun s2 I3=>?_) hf;exact wpAny_execs_nil (wpAny_execs_nil ⟨_,H2,I3,q2⟩)
  | next=>exact False.elim hq
  | brk=>exact False.elim hq
  | cont=>exact False.elim hq
 | error ev=>
  obtain⟨a,cls,a0,B,H',rfl,os,bare,fl,fly,⟨rfl,q2⟩⟩:=hq;have GR:∀b∈qy X.stack,H1 b=none:=I1.rO;have nf:∀{hh:Heap},Heap.FunFrames hh B X.stack->∀b∈qy X.stack,∃o,hh.get? b=some o/\∀vs,o.data≠.fields vs:=fun hF b hb=>(hF.mem hb).2;have back:∀(hh:Heap),L3 X.prog X.w (qy X.stack) H1 H' s1.heap B hh->Inv X pins σ H' {s' with heap:=hh}:=fun hh fy=>
   I1.NV (s':={s' with heap:=hh}) (ch:=[]) os (fy.un GR) (fy.cb.kept fy.lJ) bare fun b z=>absurd z (by simp)
  have hfr:X.A.frames=some (X.env::X.outer):=by rw[<-hstk];exact I1.ok.frames
  refine wpAny_looks_onW hfr hfrm (by rw[<-hstk];exact fl) fun h4 held4 up4=>?_;refine wpAny_landsW held4 fun h5 fl5 up5=>?_;have fl5':Heap.FlyingW B X.stack a (.ref C) a0 h5:=by rw[hstk];exact fl5
  have fy5:L3 X.prog X.w (qy X.stack) H1 H' s1.heap B h5:=fly.on (up4.trans up5) fl5.1 (nf fl.2.2.1);have I5:=back h5 fy5;obtain⟨ob,hob,hobc⟩:=fl5'.there;obtain⟨tl,Nn,nm,qn,bs,hdct,sn,sub,ab,col,dd,k0,k1,k2,k3,k5,mN,hC,hN',hni,T⟩:=O.obj;refine wpAny_handleBy_cons (codeAny_handlers_test (kb (X:=X.held (.ref a)) (I5.held _) hgc O.bound ?_ hdc)) (by intro q;cases q);refine wpAny_excMatches_sub_self (I5.bk _ _ hC) hob hobc (T.hasType hbase) (codeAny_handlers_suite ?_);refine lands_againW fl5' fun h6 fl6 up6=>?_;have fy6:L3 X.prog X.w (qy X.stack) H1 H' s1.heap B h6:=fy5.on up6 fl6.1 (nf fl5'.2.2.1);have I6:=back h6 fy6;refine wpAny_mono (hsu (.ref a) pins _ σ H' D ((I6.held _).rL _) q2) (fun fl s7 z=>?_) fun _ _ z=>z.elim;exact SP.lG I.ok.hd (SP.hZ z)
end
section
variable {X:Cx}
def Mv {zs:List Str} {its:List Value} (r:Vals (zs.map V.str) its) {j:Nat} (h:j<its.length):∃z t,zs[j]?=some z/\its[j]=.str z t:=by
 have hl:zs.length=its.length:=by have:=r.length;rw[za] at this;exact this
 obtain⟨u,hu,ru⟩:=r.get (i:=j) (x:=.str (zs[j]'nofun)) (by rw[zJ,zb nofun];rfl);obtain⟨t,rfl⟩:=ru;rw[zb h] at hu;exact⟨_,t,zb nofun,yj hu⟩
end
section
variable {K:yA} {D x:Addr} {prog:Program} {w:World} {A:Around} {E:Value->Shared->Prop} {h:Heap} {g:Array GenState} {d:Drawn} {t:Nat} {os:OsState}
open Builtin Builtin.ObjectAttr Builtin.Getset_descriptor in
end
section
variable {X:Cx}
end
def cC.here (x:cC P w H h a o):∃ob,h.get? a=some ob:=by
 cases o with
 | lst xs=>obtain⟨_,_,_,_,e⟩:=x;exact⟨_,e⟩
 | tup xs=>obtain⟨_,_,_,o,e,_⟩:=x;exact⟨_,e⟩
 | dK kvs=>obtain⟨_,_,_,_,o,_,_,e,_⟩:=x;exact⟨_,e⟩
 | dT kvs=>obtain⟨_,_,_,_,o,_,_,e,_⟩:=x;exact⟨_,e⟩
 | set S n=>obtain⟨o,_,_,_,e,_⟩:=x;exact⟨_,e⟩
 | ins C dx fs=>obtain⟨_,_,_,e,_⟩:=x;exact⟨_,e⟩
 | own y=>exact x
 | xd fs=>obtain⟨_,⟨_,_,_,e,_⟩,_⟩:=x;exact⟨_,e⟩
 | KR lo hi=>obtain⟨_,_,_,e⟩:=x;exact⟨_,e⟩
 | nK ob u=>obtain⟨e,_⟩:=x;exact⟨_,e⟩
 | Ml ps=>exact⟨_,x⟩
 | met f y=>exact⟨_,x⟩
 | ext φ=>exact x.2.1
section
variable {X:Cx} {pins:List (Addr×Obj)} {σ:St} {H:Hp} {s:Shared}
def Inv.RQ (I:Inv X pins σ H s) (hn:H a=none) (h0:X.s₀.heap.get? a=none) (hl:a≠X.env.locals) (hc:∀x c,X.env.cells.lookup x=some c->c≠a) (hp:∀p∈X.pn++pins,p.1≠a)
  (new:cC X.prog X.w (upd H a o) s.heap a o):Inv X pins σ (upd H a o) s where
 ok:=I.ok
 os:=I.os
 bare:=I.bare
 base:=⟨I.base.keep,I.base.slot,fun b ob e n hx=>by rw[aE (fun z=>by rw[z,h0] at e;cases e)];exact I.base.free b ob e n hx,I.base.there,
  fun b xs e=>by have:=I.base.pF b xs e;rw[aE (bu this hn)];exact this,fun b ob u e=>by have:=I.base.nF b ob u e;rw[aE (bu this hn)];exact this,
  fun b ps e=>by obtain⟨m,e1⟩:=I.base.pG b ps e;exact⟨m,by rw[aE (bu e1 hn)];exact e1⟩⟩
 loc:=I.loc
 cell:=I.cell
 free:=by rw[aE (Ne.symm hl)];exact I.free
 kf:=fun x c e=>by rw[aE (hc x c e)];exact I.kf x c e
 pin:=fun p hpp=>by obtain⟨e,n,ne,nf,d⟩:=I.pin p hpp;exact⟨e,by rw[aE (hp p hpp)];exact n,ne,nf,d⟩
 cb:=fun b u e=>by
  by_cases hb:b=a
  ·subst hb
   rw[ay] at e;cases e;exact new
  ·rw[aE hb] at e
   refine(I.cb b u e).lJ (fun _ _ _ q=>q) (fun c q=>?_) fun c xs q=>?_
   ·rw[aE (bu q hn)];exact q
   ·rw[aE (bu q hn)];exact q
 len:=I.len
end
section
variable {X:Cx} {k:Nat} {f:Addr} {fd:FuncData} {ps:List Str} {sp:Sp} {fx cn n x:Str} {p pos cpos pa tpos np hpos:Pos} {e₀:Expr} {es:List Expr} {t:TA} {i j:Nat} {C S:Addr} {bm bmS:List Value} {newId newIdS:String} {b₀:Stmt} {suite:List Stmt} {th:TS}
end
end L2
namespace L2
open PySem PySem.Spec PyProof.Rows
section
variable {κ:Type} [DecidableEq κ]
def dG (kvs:List (κ×V)) (k:κ):Option V:=(kvs.find? fun kv=>decide (kv.1=k)).map (·.2)
def putK (kvs:List (κ×V)) (k:κ) (v:V):List (κ×V):=
 if(kvs.any fun kv=>decide (kv.1=k))=true then kvs.map (fun kv=>if kv.1=k then(kv.1,v) else kv) else kvs++[(k,v)]
def eU {p:κ×V} {r:List (κ×V)} {k:κ} (e:p.1=k):dG (p::r) k=some p.2:=by simp[dG,List.find?_cons,e]
def eV {p:κ×V} {r:List (κ×V)} {k:κ} (e:¬p.1=k):dG (p::r) k=dG r k:=by simp[dG,List.find?_cons,e]
theorem nL (k:κ):∀kvs:List (κ×V),(kvs.any fun kv=>decide (kv.1=k))=(dG kvs k).isSome
 | []=>rfl
 | p::r=>by
  rw[List.any_cons]
  by_cases e:p.1=k
  ·simp only[eU e,ze e,Bool.true_or,Option.isSome_some]
  ·rw[eV e,zd e,Bool.false_or];exact nL k r
theorem FG (k j:κ) (y:V):∀kvs:List (κ×V),dG (kvs.map fun kv=>if kv.1=k then(kv.1,y) else kv) j=(dG kvs j).map fun x=>if j=k then y else x
 | []=>rfl
 | p::r=>by
  have ih:=FG k j y r;rw[zh]
  by_cases h:p.1=k
  ·rw[if_pos h]
   by_cases e:p.1=j
   ·rw[eU (p:=(p.1,y)) e,eU e,Option.map_some,if_pos (e.symm.trans h)]
   ·rw[eV (p:=(p.1,y)) e,eV e,ih]
  ·rw[if_neg h]
   by_cases e:p.1=j
   ·rw[eU (p:=p) e,eU e,Option.map_some,if_neg (fun z=>h (e.trans z))]
   ·rw[eV (p:=p) e,eV e,ih]
theorem CD (k j:κ) (y:V):∀kvs:List (κ×V),dG kvs k=none->dG (kvs++[(k,y)]) j=if j=k then some y else dG kvs j
 | [],_=>by
  by_cases e:k=j
  ·rw[if_pos e.symm];exact eU (p:=(k,y)) e
  ·rw[if_neg (fun z=>e z.symm)];exact eV (p:=(k,y)) e
 | p::r,hn=>by
  rw[List.cons_append];have hk:¬p.1=k:=fun z=>by rw[eU z] at hn;cases hn
  rw[eV hk] at hn;have ih:=CD k j y r hn
  by_cases e:p.1=j
  ·rw[eU e,eU e,if_neg (fun z=>hk (e.trans z))]
  ·rw[eV e,eV e,ih]
def Mb (kvs:List (κ×V)) (k j:κ) (y:V):dG (putK kvs k y) j=if j=k then some y else dG kvs j:=by
 unfold putK
 by_cases a:(kvs.any fun kv=>decide (kv.1=k))=true
 ·rw[if_pos a,FG]
  rw[nL] at a
  by_cases e:j=k
  ·obtain⟨x,hx⟩:=Option.isSome_iff_exists.mp a
   rw[if_pos e,e,hx,Option.map_some,if_pos rfl]
  ·rw[if_neg e]
   cases dG kvs j with
   | none=>rfl
   | some x=>rw[Option.map_some,if_neg e]
 ·rw[if_neg a]
  refine CD k j y kvs ?_;rw[nL] at a;cases q:dG kvs k with
  | none=>rfl
  | some x=>rw[q] at a;exact(a rfl).elim
def oO (kvs:List (κ×V)) (k:κ) (v:V):(putK kvs k v).length<=kvs.length+1:=by
 unfold putK;split
 ·rw[za];omega
 ·rw[zg,zt,List.length_nil];omega
def MU {kvs:List (κ×V)} {k:κ} (v:V) (h:dG kvs k=none):putK kvs k v=kvs++[(k,v)]:=by
 unfold putK;rw[nL,h];exact if_neg ∅
def mE.lq (r:mE o u):o.isSome=u.isSome:=by
 cases o with
 | none=>cases u with
  | none=>rfl
  | some _=>exact(show False from r).elim
 | some _=>cases u with
  | none=>exact(show False from r).elim
  | some _=>rfl
theorem mE.getD (r:mE o u) (rd:RelV d d'):RelV (o.getD d) (u.getD d'):=by
 cases o with
 | none=>cases u with
  | none=>exact rd
  | some _=>exact(show False from r).elim
 | some _=>cases u with
  | none=>exact(show False from r).elim
  | some _=>exact r
def KV.val {kvs:List (κ×V)} {vs:List (κ×Value)} (r:KV kvs vs) (k:κ):mE (dG kvs k) (valueAt vs k):=by
 unfold KV at r
 induction r with
 | nil=>exact True.intro
 | @cons p q ps qs h t ih=>
  obtain⟨h1,h2⟩:=h
  by_cases e:p.1=k
  ·have e':q.1=k:=h1.symm.trans e
   have b:valueAt (q::qs) k=some q.2:=by simp[valueAt,List.find?_cons,e']
   rw[eU e,b];exact h2
  ·have e':¬q.1=k:=fun z=>e (h1.trans z)
   have b:valueAt (q::qs) k=valueAt qs k:=by simp[valueAt,List.find?_cons,e']
   rw[eV e,b];exact ih
theorem KV.any (r:KV kvs vs) (k:κ):(kvs.any fun kv=>decide (kv.1=k))=vs.any fun kv=>decide (kv.1=k):=by
 unfold KV at r
 induction r with
 | nil=>rfl
 | cons h t ih=>rw[List.any_cons,List.any_cons,ih,h.1]
def KV.QG (r:KV kvs vs) (k:κ) (ry:RelV y u) :
  KV (kvs.map fun kv=>if kv.1=k then(kv.1,y) else kv) (vs.map fun kv=>if kv.1=k then(kv.1,u) else kv):=by
 unfold KV at r ⊢
 induction r with
 | nil=>exact .nil
 | @cons p q ps qs h t ih=>
  rw[zh,zh];refine .cons ?_ ih;obtain⟨h1,h2⟩:=h
  by_cases e:p.1=k
  ·rw[if_pos e,if_pos (h1.symm.trans e)];exact⟨h1,ry⟩
  ·rw[if_neg e,if_neg (fun z=>e (h1.trans z))];exact⟨h1,h2⟩
def KV.put (r:KV kvs vs) (k:κ) (ry:RelV y u):KV (putK kvs k y) (stored vs k u):=by
 unfold putK stored;rw[r.any k]
 by_cases e:(vs.any fun kv=>decide (kv.1=k))=true
 ·rw[if_pos e,if_pos e];exact r.QG k ry
 ·rw[if_neg e,if_neg e];exact Paired.snoc r ⟨rfl,ry⟩
theorem KV.length (r:KV kvs vs):kvs.length=vs.length:=Paired.length r
end
def CZ (r:RelV (kV k) u):(dh P w).is k u=true:=by
 cases k with
 | inl i=>obtain⟨t,e⟩:=(show∃t,u=Value.int i t from r);subst e;exact GJ P w i t
 | inr x=>obtain⟨t,e⟩:=(show∃t,u=Value.str x t from r);subst e;exact vO P w x t
theorem C0:∀{ks:List Key} {us:List Value},Vals (ks.map kV) us->ItemsAre (dh P w) ks us
 | [],_,r=>by rw[ym] at r;cases r;exact .nil
 | k::ks,_,r=>by
  rw[zh] at r;cases r with
  | cons h t=>exact .cons (CZ h) (C0 t)
abbrev KT (H:Hp):List (List Key×V)->List (List Key×Addr×Value)->Prop:=Paired fun p q=>p.1=q.1/\H q.2.1=some (.tup (p.1.map kV))/\RelV p.2 q.2.2
def KT.val {H:Hp} {kvs:List (List Key×V)} {xs:List (List Key×Addr×Value)} (r:KT H kvs xs) (k:List Key):mE (dG kvs k) ((atKey xs k).map (·.2)):=by
 induction r with
 | nil=>exact True.intro
 | @cons p q ps qs h t ih=>
  obtain⟨h1,_,h2⟩:=h
  by_cases e:p.1=k
  ·have e':q.1=k:=h1.symm.trans e
   have b:atKey (q::qs) k=some q.2:=by simp[atKey,List.find?_cons,e']
   rw[eU e,b];exact h2
  ·have e':¬q.1=k:=fun z=>e (h1.trans z)
   have b:atKey (q::qs) k=atKey qs k:=by simp[atKey,List.find?_cons,e']
   rw[eV e,b];exact ih
def KT.QG (r:KT H kvs xs) (k:List Key) (ry:RelV y u) :
  KT H (kvs.map fun kv=>if kv.1=k then(kv.1,y) else kv) (xs.map (putAt k u)):=by
 induction r with
 | nil=>exact .nil
 | @cons p q ps qs h t ih=>
  rw[zh,zh];refine .cons ?_ ih;obtain⟨h1,h2,h3⟩:=h;unfold putAt
  by_cases e:p.1=k
  ·rw[if_pos e,if_pos (h1.symm.trans e)];exact⟨h1,h2,ry⟩
  ·rw[if_neg e,if_neg (fun z=>e (h1.trans z))];exact⟨h1,h2,h3⟩
def KT.put (r:KT H kvs xs) (k:List Key) (hb:H b=some (.tup (k.map kV))) (ry:RelV y u) :
  KT H (putK kvs k y) (storedH xs k b u):=by
 have e:(kvs.any fun kv=>decide (kv.1=k))=(atKey xs k).isSome:=by
  rw[nL,(r.val k).lq,Option.isSome_map]
 unfold putK storedH;rw[e]
 by_cases q:(atKey xs k).isSome=true
 ·rw[if_pos q,if_pos q];exact r.QG k ry
 ·rw[if_neg q,if_neg q];exact Paired.snoc r ⟨rfl,hb,ry⟩
def KT.keeps (r:KT H kvs xs) (ht:∀b ys,H b=some (.tup ys)->H' b=some (.tup ys)):KT H' kvs xs:=
 Paired.Q1 r fun _ _ z=>⟨z.1,ht _ _ z.2.1,z.2.2⟩
section
variable {P:Program} {w:World} {H:Hp} {h:Heap} {a:Addr}
def PN (ok:rJ P w H h) (e:Rd H a u):cC P w H h a u:=e.ok ok
def vU (ok:rJ P w H h) (e:Rd H a (.dK kvs)):kvs.length<=sizeLine/\(a == sysModules)=false/\∃vs,KV kvs vs/\h.DictOf (dh P w) a vs:=
 show cC P w H h a (.dK kvs) from PN ok e
def SG (ok:rJ P w H h) (e:H a=some (.dK kvs)):kvs.length<=sizeLine/\(a == sysModules)=false/\∃vs,KV kvs vs/\h.DictOf (dh P w) a vs:=vU ok (.inl e)
def uQ (ok:rJ P w H h) (e:H a=some (.tup (ks.map kV))):(tupleKind (dh P w)).is h ks a:=by
 obtain⟨_,its,r,o,h1,h2,n,h3⟩:=(show cC P w H h a (.tup (ks.map kV)) from ok a _ e)
 exact⟨o,its.toArray,n,h1,h2,h3,by simpa using C0 r⟩
def AK (ok:rJ P w H h) (e:Rd H a (.dT kvs)):kvs.length<=sizeLine/\(a == sysModules)=false/\
  ∃xs,KT H kvs xs/\h.DictOfH (tupleKind (dh P w)) a xs:=by
 obtain⟨z,y,xs,r,o,es,ep,h1,h2,h3,h4,h5⟩:=(show cC P w H h a (.dT kvs) from PN ok e)
 refine⟨z,y,xs,r,o,es,ep,h1,h2,h3,h4,fun x hx=>?_,h5⟩;have all:∀{l:List (List Key×V)} {m:List (List Key×Addr×Value)},KT H l m->∀x∈m,(tupleKind (dh P w)).is h x.1 x.2.1:=by
  intro l m q
  induction q with
  | nil=>intro x hx;exact nomatch hx
  | @cons p q ps qs hq t ih=>
   intro x hx;rcases zC.mp hx with e | hx
   ·subst e
    exact uQ ok (by rw[<-hq.1];exact hq.2.1)
   ·exact ih x hx
 exact all r x hx
def SF (ok:rJ P w H h) (e:H a=some (.dT kvs)):kvs.length<=sizeLine/\(a == sysModules)=false/\
  ∃xs,KT H kvs xs/\h.DictOfH (tupleKind (dh P w)) a xs:=AK ok (.inl e)
end
def Fv (H:Hp) (a:Addr) (y:V) (r:Option V):Prop:=
 (∃kvs k,Rd H a (.dK kvs)/\y=kV k/\r=dG kvs k)\/∃kvs k b,Rd H a (.dT kvs)/\y=.ref b/\H b=some (.tup (k.map kV))/\r=dG kvs k
def SS (H:Hp) (a:Addr) (y v:V) (H':Hp):Prop:=
 (∃kvs k,H a=some (.dK kvs)/\y=kV k/\kvs.length<sizeLine/\H'=upd H a (.dK (putK kvs k v)))\/
 ∃kvs k b,H a=some (.dT kvs)/\y=.ref b/\H b=some (.tup (k.map kV))/\kvs.length<sizeLine/\H'=upd H a (.dT (putK kvs k v))
section
variable {X:Cx} {pins:List (Addr×Obj)} {σ:St} {H:Hp} {s:Shared} {a:Addr} {y v:V} {u r:Value} {o:Option V} {A:Around} {E:Value->Shared->Prop}
def Inv.big (I:Inv X pins σ H s):sysModules<↑s:=by
 have h:mainGlobals<↑s:=(I.mod.glob.keeps I.bk).lt;exact Nat.lt_trans ∅ h
def Lr (hu:A.units+1<cLine) (I:Inv X pins σ H s) (g:Fv H a y (some v)) (ry:RelV y u) (h:∀w' s',Inv X pins σ H s'->RelV v w'->Q w' s') :
  wpAny (model X.prog X.w) A (getItem (.ref a) u) Q E s:=by
 rcases g with⟨kvs,k,e,ey,l⟩ | ⟨kvs,k,b,e,ey,eb,l⟩
 ·subst ey
  obtain⟨z,hd,vs,rel,dd⟩:=vU I.cb e;obtain⟨w',hw,rw'⟩:=mE.some_of (v:=v) (o:=valueAt vs k) (by rw[l];exact rel.val k);exact wpAny_getItem_of (CZ ry) dd.mapOf hw (h w' _ (I.tok _) rw')
 ·subst ey
  cases(show u=Value.ref b from ry);obtain⟨z,hd,xs,rel,dd⟩:=AK I.cb e;obtain⟨w',hw,rw'⟩:=mE.some_of (v:=v) (o:=(atKey xs k).map (·.2)) (by rw[l];exact rel.val k);obtain⟨p,hp,hp2⟩:=Option.map_eq_some_iff.mp hw;refine wpAny_getItem_heap (tupleKind_room_in1 hu) (uQ I.cb eb) dd hp ?_;rw[hp2];exact h w' _ (I.tok _) rw'
def Us (hu:A.units+1<cLine) (I:Inv X pins σ H s) (g:Fv H a y o) (ry:RelV y u) (h:∀s',Inv X pins σ H s'->Q (.bool o.isSome) s') :
  wpAny (model X.prog X.w) A (compareOp .In u (.ref a)) Q E s:=by
 rcases g with⟨kvs,k,e,ey,l⟩ | ⟨kvs,k,b,e,ey,eb,l⟩
 ·subst ey
  obtain⟨z,hd,vs,rel,dd⟩:=vU I.cb e;refine wpAny_in_of (CZ ry) hd dd.mapOf ?_;rw[<-(rel.val k).lq,<-l];exact h _ (I.tok _)
 ·subst ey
  cases(show u=Value.ref b from ry);obtain⟨z,hd,xs,rel,dd⟩:=AK I.cb e;refine wpAny_in_heap (tupleKind_room_in1 hu) (uQ I.cb eb) hd dd ?_;have q:=(rel.val k).lq;rw[Option.isSome_map] at q;rw[<-q,<-l];exact h _ (I.tok _)
def Pl (hu:A.units+1<cLine) (I:Inv X pins σ H s) (g:Fv H a y o) (ry:RelV y u) (h:∀s',Inv X pins σ H s'->Q (.bool (!o.isSome)) s') :
  wpAny (model X.prog X.w) A (compareOp .NotIn u (.ref a)) Q E s:=by
 rcases g with⟨kvs,k,e,ey,l⟩ | ⟨kvs,k,b,e,ey,eb,l⟩
 ·subst ey
  obtain⟨z,hd,vs,rel,dd⟩:=vU I.cb e;refine wpAny_notIn_of (CZ ry) hd dd.mapOf ?_;rw[<-(rel.val k).lq,<-l];exact h _ (I.tok _)
 ·subst ey
  cases(show u=Value.ref b from ry);obtain⟨z,hd,xs,rel,dd⟩:=AK I.cb e;refine wpAny_notIn_heap (tupleKind_room_in1 hu) (uQ I.cb eb) hd dd ?_;have q:=(rel.val k).lq;rw[Option.isSome_map] at q;rw[<-q,<-l];exact h _ (I.tok _)
def Kf (I:Inv X pins σ H s) (mu:SN (H a)) (hs:Heap.SameBut a s.heap h') (he:∃q,h'.get? a=some q) (new:cC X.prog X.w (upd H a ob) h' a ob) :
  Inv X pins σ (upd H a ob) {s with heap:=h',toks:=t'}:=
 I.write (x:=a) (e:=a) mu (.inl rfl) (fun b q hb z=>(hs.2 b hb).trans z) he new
def Rp (z:kvs.length<=sizeLine) (hd:(a == sysModules)=false) (rel:KV kvs vs) (dd:h'.DictOf (dh P w) a vs) :
  cC P w H' h' a (.dK kvs):=⟨z,hd,vs,rel,dd⟩
def Lq (hu:A.units+1<cLine) (I:Inv X pins σ H s) (g:SS H a y v H') (ry:RelV y u) (rv:RelV v r) (h:∀s',Inv X pins σ H' s'->Q () s') :
  wpAny (model X.prog X.w) A (setItem (.ref a) u r) Q E s:=by
 rcases g with⟨kvs,k,e,ey,l,eH⟩ | ⟨kvs,k,b,e,ey,eb,l,eH⟩
 ·subst ey eH
  obtain⟨z,hd,vs,rel,dd⟩:=SG I.cb e;have hz:vs.length<=sizeLine:=by rw[<-rel.length];exact z
  have hl:(putK kvs k v).length<=sizeLine:=by have:=oO kvs k v;omega
  refine wpAny_setItem_pairs (hsz:=hz) (CZ ry) dd fun h' dd' hs=>h _ ?_;have he:∃q,h'.get? a=some q:=let ⟨q,_,_,hq,_⟩:=dd';⟨q,hq⟩;exact Kf I (by rw[e];exact True.intro) hs he (Rp hl hd (rel.put k rv) dd')
 ·subst ey eH
  cases(show u=Value.ref b from ry);obtain⟨z,hd,xs,rel,dd⟩:=SF I.cb e;have hz:xs.length<=sizeLine:=by rw[<-Paired.length rel];exact z
  have hl:(putK kvs k v).length<=sizeLine:=by have:=oO kvs k v;omega
  refine wpAny_setItem_heap (hsz:=hz) (tupleKind_room_in1 hu) (uQ I.cb eb) dd fun h' dd' hs=>h _ ?_;obtain⟨q,es,ep,hq,h2,h3,h4,_,h5⟩:=dd';refine Kf I (by rw[e];exact True.intro) hs ⟨q,hq⟩ ⟨hl,hd,_,(rel.put k eb rv).keeps fun c ys ec=>?_,q,es,ep,hq,h2,h3,h4,h5⟩;rw[aE (bc ec e (fun z=>nomatch z))];exact ec
end
section
variable {X:Cx} {pins:List (Addr×Obj)} {σ:St} {H:Hp} {s:Shared} {a:Addr} {kvs:List (Key×V)} {k:Key} {u:Value} {A:Around} {E:Value->Shared->Prop}
def SI (I:Inv X pins σ H s) (e:Rd H a (.dK kvs)) (h:∀t s',Inv X pins σ H s'->Q (.int kvs.length t) s'):wpAny (model X.prog X.w) A (call (.builtin "len") [.ref a]) Q E s:=by
 obtain⟨z,hd,vs,rel,dd⟩:=vU I.cb e;refine call_len_dict hd dd (by rw[<-rel.length];rw[yB] at z;omega) ?_;rw[<-rel.length];exact h _ _ (I.tok _)
end
def Ry (i:Expr):Prop:=∀ov iv,subscripted i false ov iv=operate [ov,iv] (getItem ov iv)
def JS {prog:Program} {w:World} {A:Around} {E:Value->Shared->Prop} {s:Shared} {env:Env} {value slice:Expr} {pos:Pos} {T id:String} {Q:Value->Shared->Prop}
  (hl:typeLookup (.type T) "__getitem__"= pure (some (.builtin id))) (hs:Ry slice)
  (h:wpAny (model prog w) A (eval value env) (fun o s₁=>wpAny (model prog w) A (eval slice env) (fun i s₂=>s₂.TypeIs o T/\wpAny (model prog w) A (getItem o i) Q E s₂) E s₁) E s) :
  wpAny (model prog w) A (eval (.Subscript value slice pos) env) Q E s:=by
 refine Subscript_ (wpAny_mono h (fun o s₁ h₁=>wpAny_mono h₁ (fun i s₂ h₂=>?_) fun _ _ x=>x) fun _ _ x=>x);obtain⟨hT,h₂⟩:=h₂;unfold subscriptTail;refine yt ?_;rw[getitemInPython_of_ne hT.not_modules];refine yt (wpAny_specialOf hT hl ?_);have fin:wpAny (model prog w) A (subscripted slice false o i) (fun r s₃=>wpAny (model prog w) A (letTemporaryGo value o r >>= fun _=>pure r) Q E s₃) E s₂:=by
  rw[hs o i];exact wpAny_operating (wpAny_mono h₂ (fun r s₃ h₃=>yt (wpAny_letTemporaryGo (yv h₃))) fun _ _ x=>x)
 first
  | exact yv (yt fin)
  | exact yt (yv (yt fin))
  | exact yt fin
def G5 (I:Inv X pins σ H s) (g:Fv H a y o):s.TypeIs (.ref a) "dict":=by
 rcases g with⟨kvs,k,e,_,_⟩ | ⟨kvs,k,b,e,_,_,_⟩
 ·obtain⟨_,_,vs,_,dd⟩:=vU I.cb e
  exact dd.typeIs
 ·obtain⟨_,_,xs,_,dd⟩:=AK I.cb e
  exact dd.typeIs
def R1 (td ty:TE):TE:=fun σ H Q=>td σ H fun x H1=>ty σ H1 fun y H2=>∃a v,x=.ref a/\Fv H2 a y (some v)/\Q v H2
def R0 (ty td:TE):TE:=fun σ H Q=>ty σ H fun y H1=>td σ H1 fun x H2=>∃a o,x=.ref a/\Fv H2 a y o/\Q (.bl o.isSome) H2
def Ou (ty td:TE):TE:=fun σ H Q=>ty σ H fun y H1=>td σ H1 fun x H2=>∃a o,x=.ref a/\Fv H2 a y o/\Q (.bl (!o.isSome)) H2
def R7 (td ty tv:TE):TS:=fun D σ H=>tv σ H fun v H1=>td σ H1 fun x H2=>ty σ H2 fun y H3=>∃a H4,x=.ref a/\SS H3 a y v H4/\D.nx σ H4
section
variable {X:Cx} {o i e value:Expr} {pos pos' tpos:Pos} {td ty tv:TE}
def OR (hu:X.A.units+1<cLine) (ho:PE X o td) (hi:PE X i ty) (hs:Ry i):PE X (.Subscript o i pos) (R1 td ty):=by
 intro pins s σ H Q I h;refine JS PySem.F.slot_dict_getitem.lookup hs (cU (ho pins s σ H _ I h) fun u s1 ⟨x,H1,I1,rx,q1⟩=>cU (hi pins s1 σ H1 _ I1 q1) fun iv s2 zz=>?_);obtain⟨y,H2,I2,ry,a,v,ex,g,q2⟩:=zz;subst ex;obtain rfl:u=Value.ref a:=rx;exact⟨G5 I2 g,Lr hu I2 g ry fun w' s3 I3 rw'=>⟨v,H2,I3,rw',q2⟩⟩
def Ag (hu:X.A.units+1<cLine) (hi:PE X i ty) (ho:PE X o td):PC X .In i o (R0 ty td):=by
 intro pins s σ H Q I h;refine cU (hi pins s σ H _ I h) fun iv s1 ⟨y,H1,I1,ry,q1⟩=>cU (ho pins s1 σ H1 _ I1 q1) fun u s2 zz=>?_;obtain⟨x,H2,I2,rx,a,ov,ex,g,q2⟩:=zz;subst ex;obtain rfl:u=Value.ref a:=rx;exact Us hu I2 g ry fun s3 I3=>⟨.bl ov.isSome,H2,I3,rfl,q2⟩
def o9 (hu:X.A.units+1<cLine) (hi:PE X i ty) (ho:PE X o td):PC X .NotIn i o (Ou ty td):=by
 intro pins s σ H Q I h;refine cU (hi pins s σ H _ I h) fun iv s1 ⟨y,H1,I1,ry,q1⟩=>cU (ho pins s1 σ H1 _ I1 q1) fun u s2 zz=>?_;obtain⟨x,H2,I2,rx,a,ov,ex,g,q2⟩:=zz;subst ex;obtain rfl:u=Value.ref a:=rx;exact Pl hu I2 g ry fun s3 I3=>⟨.bl (!ov.isSome),H2,I3,rfl,q2⟩
def sR (hu:X.A.units+1<cLine) (ho:PE X o td) (hi:PE X i ty) (hv:PE X value tv) (hs:swapsWith value (some (.Subscript o i pos')) pos.line X.env=pure false) :
  PS X (.Assign [.Subscript o i pos'] value pos) (R7 td ty tv):=by
 intro pins s σ H D I h;refine wpAny_Assign_Subscript (cU (hv pins s σ H _ I h) fun r s1 ⟨v,H1,I1,rv,q1⟩=>cU (ho pins s1 σ H1 _ I1 q1) fun u s2 ⟨x,H2,I2,rx,q2⟩=>cU (hi pins s2 σ H2 _ I2 q2) fun iv s3 ⟨y,H3,I3,ry,a,H4,ex,g,q3⟩=>?_) hs;subst ex;obtain rfl:u=Value.ref a:=rx;exact Lq hu I3 g ry rv fun s4 I4=>⟨σ,H4,I4,q3⟩
end
def NQ (h:Heap) (hb:sysModules<h.objs.size):cC P w H (h.push {cls:=.type "dict",data:=.dict #[]}) h.objs.size (.dK []):=
 ⟨yf _,beq_eq_false_iff_ne.mpr (Ne.symm (yi hb)),[],.nil,Heap.DictOf.new h⟩
def NO (h:Heap) (hb:sysModules<h.objs.size):cC P w H (h.push {cls:=.type "dict",data:=.dict #[]}) h.objs.size (.dT []):=
 ⟨yf _,beq_eq_false_iff_ne.mpr (Ne.symm (yi hb)),[],.nil,_,#[],0,yw _ rfl,⟨rfl,rfl,rfl⟩,rfl,rfl,List.nodup_nil⟩
def Qw:TE:=fun _ H Q=>∀p,H p=none->Q (.ref p) (upd H p (.dK []))
def Qv:TE:=fun _ H Q=>∀p,H p=none->Q (.ref p) (upd H p (.dT []))
section
variable {X:Cx} {pos:Pos}
def Af:PE X (.Dict [] [] pos) Qw:=fun pins s σ H Q I h=>
 wpAny_Dict_empty ⟨.ref ↑s,_,I.laid (a:=↑s) (o:=.dK []) (t':=s.toks) (fun _ _ q=>yu _ q) (zk _) (NQ s.heap I.big),rfl,h _ (I.cb.fresh (zk _))⟩
def Gj:PE X (.Dict [] [] pos) Qv:=fun pins s σ H Q I h=>
 wpAny_Dict_empty ⟨.ref ↑s,_,I.laid (a:=↑s) (o:=.dT []) (t':=s.toks) (fun _ _ q=>yu _ q) (zk _) (NO s.heap I.big),rfl,h _ (I.cb.fresh (zk _))⟩
end
structure M2 (X:Cx) (o:Expr) (m:Str) (apos:Pos) (e f:Expr) (cpos:Pos):Prop where
 base:attributeBase o m X.env (eval o X.env)=eval o X.env
 US:((backTo cpos (starEach [e,f] X.env)).all (fun x=>!x.1)&&(backToKw cpos (keywordEach [] X.env)).all (fun x=>x.1.isSome)
  &&decide (([e,f]:List Expr).length+([]:List Keyword).length+(if([]:List Keyword).isEmpty then 0 else 1)<30))=true
 line:(apos.endLine == cpos.line)=true
 trees:backTo cpos (starEach [e,f] X.env)=[(false,eval e X.env),(false,eval f X.env)]
def UI (H:Hp) (a:Addr):Prop:=(∃kvs,Rd H a (.dK kvs))\/∃kvs,Rd H a (.dT kvs)
def Rc (I:Inv X pins σ H s) (d:UI H a) :
  s.TypeIs (.ref a) "dict"/\(∀b,Value.ref a=.ref b->∃ob,s.heap.get? b=some ob/\ob.dict=none)/\(a == sysModules)=false:=by
 rcases d with⟨kvs,e⟩ | ⟨kvs,e⟩
 ·obtain⟨_,hd,vs,_,dd⟩:=vU I.cb e
  refine⟨dd.typeIs,fun b q=>?_,hd⟩;cases q;obtain⟨ob,_,_,h1,h2,_⟩:=dd;exact⟨ob,h1,h2.2.1⟩
 ·obtain⟨_,hd,xs,_,dd⟩:=AK I.cb e
  refine⟨dd.typeIs,fun b q=>?_,hd⟩;cases q;obtain⟨ob,_,_,h1,h2,_⟩:=dd;exact⟨ob,h1,h2.2.1⟩
section
variable {X:Cx} {pins:List (Addr×Obj)} {σ:St} {H:Hp} {s:Shared} {a:Addr} {y d:V} {u r:Value} {o:Option V} {A:Around} {E:Value->Shared->Prop}
def Rq (hu:A.units+1<cLine) (I:Inv X pins σ H s) (g:Fv H a y o) (ry:RelV y u) (rd:RelV d r) (h:∀w' s',Inv X pins σ H s'->RelV (o.getD d) w'->Q w' s') :
  wpAny (model X.prog X.w) A (call (.builtin "dict.get") [.ref a,u,r]) Q E s:=by
 rcases g with⟨kvs,k,e,ey,l⟩ | ⟨kvs,k,b,e,ey,eb,l⟩
 ·subst ey
  obtain⟨z,hd,vs,rel,dd⟩:=vU I.cb e;refine call_meetsIn PySem.F.slot_dict_get dd.typeIs PySem.F.entry_dict_get (PySem.F.args_dict_get_3 _ _ _) (meets_dict_get_default (dh X.prog X.w) a (CZ ry) hd r) ⟨_,dd.mapOf,h _ _ (I.tok _) ?_⟩;rw[l];exact(rel.val k).getD rd
 ·subst ey
  cases(show u=Value.ref b from ry);obtain⟨z,hd,xs,rel,dd⟩:=AK I.cb e;refine call_meetsIn PySem.F.slot_dict_get dd.typeIs PySem.F.entry_dict_get (PySem.F.args_dict_get_3 _ _ _) (meetsH_dict_get_default (tupleKind (dh X.prog X.w)) a b hd r) ⟨tupleKind_room_in1 hu,k,xs,uQ I.cb eb,dd,h _ _ (I.tok _) ?_⟩;rw[l];exact(rel.val k).getD rd
end
def Qy (td ty tx:TE):TE:=fun σ H Q=>td σ H fun x H1=>∃a,x=.ref a/\UI H1 a/\ty σ H1 fun y H2=>tx σ H2 fun z H3=>∃o,Fv H3 a y o/\Q (o.getD z) H3
section
variable {X:Cx} {o e f:Expr} {apos cpos:Pos} {td ty tx:TE}
def M8 (hu:X.A.units+1<cLine) (ho:PE X o td) (he:PE X e ty) (hf:PE X f tx) (m:M2 X o "get" apos e f cpos):PE X (.Call (.Attribute o "get" apos) [e,f] [] cpos) (Qy td ty tx):=by
 intro pins s σ H Q I h;refine wpAny_Call_method m.base m.US m.line PySem.F.plainAttrs_dict PySem.F.slot_dict_get PySem.F.type_dict_get (cU (ho pins s σ H _ I h) fun u s1 zz=>?_);obtain⟨x,H1,I1,rx,a,ex,d,q1⟩:=zz;subst ex;obtain rfl:u=Value.ref a:=rx;obtain⟨t1,t2,_⟩:=Rc I1 d;refine⟨t1,t2,?_⟩;rw[m.trees];refine Calls.callWith_builtin rfl (Calls.evalArgs_plain (Calls.spliced_cons (cU (he pins s1 σ H1 _ I1 q1) fun iv s2 ⟨y,H2,I2,ry,q2⟩=>
  Calls.spliced_cons (cU (hf pins s2 σ H2 _ I2 q2) fun fv s3 ⟨z,H3,I3,rz,ov,g,q3⟩=>Calls.spliced_nil ?_))))
 exact Rq hu I3 g ry rz fun w' s4 I4 rw'=>⟨_,H3,I4,rw',q3⟩
end
section
variable {X:Cx} {pins:List (Addr×Obj)} {σ:St} {H:Hp} {s:Shared} {a:Addr} {kvs:List (Key×V)} {A:Around} {E:Value->Shared->Prop}
end
section
variable {X:Cx} {pins:List (Addr×Obj)} {σ:St} {H:Hp} {s:Shared} {a:Addr} {y:V} {u:Value} {A:Around} {E:Value->Shared->Prop}
end
end L2
namespace L2
open PySem PySem.Spec PyProof.Rows
section
variable {κ:Type} [DecidableEq κ]
end
end L2
namespace L2
open PySem PySem.Spec PyProof.Rows
def dz (σ₀:St) (g:TG) (tc:TT) (te:TE) (Q:VK) (J:It) (H1:Hp):Prop:=∃W:Nat->Nat->List V->St->Hp->Prop,(∃m,W 0 m [] σ₀ H1)/\∀i m xs σ' H',W i m xs σ' H'->
 (J.stop i H'/\xs.length<=sizeLine/\∀D,H' D=none->Q (.ref D) (upd H' D (.lst xs)))\/
 (J.go i H'/\xs.length<sizeLine/\∀x H2,J.JL i H' x H2->g x σ' H2 fun σ3 H3=>tc σ3 H3 fun b H4=>if b=true then te σ3 H4 fun y H5=>∃m',m'<m/\W (i+1) m' (xs++[y]) σ3 H5 else∃m',m'<m/\W (i+1) m' xs σ3 H4)
def cR (X:Cx) (N:List Str) (scope:Scope) (cl:List (Str×Addr)) (C:Addr) (s₀:Shared) (H₀:Hp) (ex:List Addr):Cx:=
 {X with N:=N,s₀:=s₀,H₀:=H₀,env:=compEnvC scope (cellsFrom (C+1) scope.names cl) C X.env,outer:=X.stack,stack:=X.stack,ex:=ex,fn:=fun x=>((cellsFrom (C+1) scope.names []).lookup x).isSome,pn:=[],xe:=fun _ _=>False}
def nP (fr:List (Option Nat)) (wi:TI) (g:TG) (tc:TT) (te:TE):TE:=fun σ H Q=>wi σ H fun J H1=>dz (fr.map fun o=>o.bind fun j=>(σ[j]?).join) g tc te Q J H1
def Pw (X:Cx) (ifs:List Expr) (tc:TT):Prop:=∀(pins:List (Addr×Obj)) (s:Shared) (σ:St) (H:Hp) (Q:Bool->Hp->Prop),Inv X pins σ H s->tc σ H Q->
 wpAny (model X.prog X.w) X.A (forIn ifs true fun c r=>if r=true then do let ok <-isTrue c X.env (eval c X.env);pure (ForInStep.yield ok) else pure (ForInStep.yield r)) (TP X pins σ Q) X.xe s
def uh:TT:=fun _ H Q=>Q true H
def bg:Pw X [] uh:=fun _ _ _ H _ I h=>wpAny_tests_nil ⟨H,I,h⟩
def gf (h:PT X c tc):Pw X [c] tc:=fun pins s σ H Q I q=>wpAny_tests_one (h pins s σ H Q I q)
theorem dm:∀(names:List (Str×NameKind)) (n:Nat) (acc:List (Str×Addr)),cellsFrom n names acc=cellsFrom n names []++acc
 | [],_,_=>rfl
 | (x,k)::r,n,acc=>by
  unfold cellsFrom;split
  ·rw[dm r (n+1) ((x,n)::acc),dm r (n+1) [(x,n)],zE];rfl
  ·exact dm r n acc
def OW {h:Heap} {lo:Nat} {cs:List (Str×Addr)} (ok:CellsOk h lo cs) {x y:Str} {c:Addr} (e:cs.lookup x=some c) (e':cs.lookup y=some c):x=y:=by
 have key:∀(l:List (Str×Addr)),l.Pairwise (fun x y=>x.2≠y.2)->(x,c)∈l->(y,c)∈l->x=y:=by
  intro l
  induction l with
  | nil=>intro _ h;cases h
  | cons p r ih=>
   intro hp h1 h2;rw[List.pairwise_cons] at hp;rcases zC.mp h1 with h1 | h1
   ·rcases zC.mp h2 with h2 | h2
    ·rw[<-h1] at h2;exact(Prod.mk.inj h2).1.symm
    ·exact absurd rfl (by have:=hp.1 _ h2;rw[<-h1] at this;exact this)
   ·rcases zC.mp h2 with h2 | h2
    ·exact absurd rfl (by have:=hp.1 _ h1;rw[<-h2] at this;exact this)
    ·exact ih hp.2 h1 h2
 exact key cs ok.apart (mem_of_lookup e) (mem_of_lookup e')
def Et
  (hQ:∀g1:Heap,g1.Ns ↑s (fun _=>none)->(∀b o,s.heap.get? b=some o->g1.get? b=some o)->CellsOk g1 (↑s+1) (cellsFrom (↑s+1) scope.names [])->
   Q (newEnv scope ↑s globals (cellsFrom (↑s+1) scope.names cl) qual none .none (some outer) builtinsNs) {s with heap:=g1}) :
  wpAny M A (newFunctionEnv scope globals cl [] qual none .none (some outer)) Q E s:=by
 simp only[newFunctionEnv,Option.isSome_some,if_true];refine yt (wpAny_alloc ?_);refine yt (wpAny_layCells _ (fun name kind cells=>by cases hkc:kind == NameKind.cell <;> simp[hkc]) _ _ _ _ ?_);have ok:=cellsFrom_ok scope.names (s.heap.push {cls:=.type "dict",data:=.dict #[]}) (↑s+1) [] ⟨fun _ _ hm=>(nomatch hm),List.Pairwise.nil⟩ (by rw[Heap.size_push];exact zk _);rw[Heap.size_push] at ok;rw[show({s with heap:=s.heap.push {cls:=.type "dict",data:=.dict #[]}}:Shared).heap.objs.size=↑s+1 from Heap.size_push ..];exact yt (yv (yv (hQ _ ((Heap.Ns.new s.heap (.type "dict")).keeps (pushCells_keeps _ _)) (fun b o e=>pushCells_keeps _ _ b o (yu _ e)) ok)))
def Jm (I:Nat->Shared->Prop)
  (turn:∀n s,I n s->wpAny (model prog w) A (pyNext it) (fun r s1=>match r with
   | none=>R (.ok .next) s1
   | some v=>wpAny (model prog w) A (letOwnedTupleGo target it v) (fun _ s2=>wpAny (model prog w) A (assign target env v) (fun _ s3=>
     wpAny (model prog w) A (forIn ifs true fun c r=>if r=true then do let ok <-isTrue c env (eval c env);pure (ForInStep.yield ok) else pure (ForInStep.yield r)) (fun ok s3'=>if ok=true then wpAny (model prog w) A (eval elt env) (fun x s4=>
     wpAny (model prog w) A (call (.builtin "list.append") [acc,x]) (fun _ s5=>∃m,m<n/\I m s5) (fun _ _=>False) s4) (fun _ _=>False) s3' else∃m,m<n/\I m s3') (fun _ _=>False) s3) (fun _ _=>False) s2) (fun _ _=>False) s1) (fun _ _=>False) s)
  (n:Nat) (h:I n s):codeAny (model prog w) A (.compLoop (.ListComp elt [⟨target,iter,ifs,0⟩] scope pos) 0 it acc env) R s:=by
 refine codeAny_loop rfl I (fun n s hI=>?_) n h;show wpAny _ _ ((compTurn (.ListComp elt [⟨target,iter,ifs,0⟩] scope pos) 0 it acc env).onRaise (fun x=>do noteFrame x env;theTreesLotGoes x)) _ _ s;refine wpAny_noted ?_;rw[compTurn_list];have no:∀(E:Value->Shared->Prop) (x:Value) (s':Shared),False->E x s':=fun _ _ _ f=>f.elim;refine yt (wpAny_standAt (yt (wpAny_mono (turn n s hI) (fun r s1 h1=>?_) (no _))));cases r with
 | none=>exact yv h1
 | some v=>
  refine yt (wpAny_mono h1 (fun _ s2 h2=>yt (wpAny_mono h2 (fun _ s3 h3=>yt (wpAny_mono h3 (fun ok s3' h3'=>?_) (no _))) (no _))) (no _));cases ok with
  | false=>
   rw[if_neg ∅] at h3';exact yv ⟨rfl,h3'⟩
  | true=>
   rw[if_pos rfl] at h3';exact yt (yt (wpAny_mono h3' (fun x s4 h4=>yt (wpAny_mono h4 (fun _ s5 h5=>yv (yv ⟨rfl,h5⟩)) (no _))) (no _)))
section
variable {X:Cx} {pos:Pos}
def A4 {elt target iter:Expr} {scope:Scope} {N:List Str} {fr:List (Option Nat)} {cl:List (Str×Addr)} {g:TG} {tc:TT} {te:TE} {ifs:List Expr} (hc:X.calm=true) (hsub:∀x c,cl.lookup x=some c->X.env.cells.lookup x=some c) (hhas:∀C x,((compEnvC scope cl C X.env).kindOf x=some .cell\/(compEnvC scope cl C X.env).kindOf x=some .free)->(∃c,cl.lookup x=some c)\/∃c,(cellsFrom (C+1) scope.names []).lookup x=some c)
  (hlen:fr.length=N.length) (hfr:∀(i:Nat) x j,N[i]?=some x->fr[i]?=some (some j)->X.N[j]?=some x/\Rv X.env.scope x/\X.env.kindOf x≠some .local/\(∀C,(compEnvC scope cl C X.env).kindOf x=some .cell\/(compEnvC scope cl C X.env).kindOf x=some .free)/\(∀c,X.env.cells.lookup x=some c->cl.lookup x=some c)/\∀C,(cellsFrom (C+1) scope.names []).lookup x=none) (hkind:scope.kind=.function)
  (hg:∀C s₀ H₀ ex,PG (cR X N scope cl C s₀ H₀ ex) target g) (hif:∀C s₀ H₀ ex,Pw (cR X N scope cl C s₀ H₀ ex) ifs tc) (he:∀C s₀ H₀ ex,PE (cR X N scope cl C s₀ H₀ ex) elt te)
  {pins:List (Addr×Obj)} {σ:St} {s2:Shared} {it:Addr} {fp:List Addr} {tn:Nat->Heap->Prop} {J:It} {H2:Hp} {Q:VK} {RR:Value->Addr->Result->Shared->Prop} (I2:Inv X pins σ H2 s2) (T:Turn X.prog X.w X.K target J fp it tn) (st2:tn 0 s2.heap) (f2:∀b∈fp,rK X pins H2 b)
  (ok:dz (fr.map fun o=>o.bind fun j=>(σ[j]?).join) g tc te Q J H2)
  (fin:∀D C s4 H' xs,↑s2<=D->↑s2<=C->C≠D->Inv X pins σ (upd H' D (.lst xs)) s4->H' D=none->H' C=none->(∃m,s4.heap.Ns C m)->(∀D,H' D=none->Q (.ref D) (upd H' D (.lst xs)))->RR (.ref D) C (.ok .next) s4) :
  wpAny (model X.prog X.w) X.A (newList []) (fun acc s3=>wpAny (model X.prog X.w) X.A (newFunctionEnv scope X.env.globals cl [] X.env.qual none .none (some X.env)) (fun cenv s4=>
   codeAny (model X.prog X.w) X.A (.compStart (.ListComp elt [⟨target,iter,ifs,0⟩] scope pos) 0 (.ref it) acc {cenv with scope:=relabel scope X.env}) (RR acc cenv.locals) s4) X.xe s3) X.xe s2:=by
 obtain⟨W,⟨m0,w0⟩,turn⟩:=ok;refine wpAny_newObj_type (Et fun g1 hns hold hown=>?_);dsimp only at hns hold hown ⊢;generalize hG:s2.heap.push {cls:=.type "list",dict:=none,data:=.seq ([]:List Value).toArray}=G2 at hns hold hown ⊢;have hC:G2.objs.size=↑s2+1:=by rw[<-hG,Heap.size_push]
 have below:∀b,b<↑s2->b≠G2.objs.size/\b≠↑s2:=fun b hb=>⟨by rw[hC];exact yi (Nat.lt_succ_of_lt hb),yi hb⟩
 have hDC:↑s2≠G2.objs.size:=by rw[hC];exact yi (Nat.lt_succ_self _)
 have old:∀b o,s2.heap.get? b=some o->g1.get? b=some o:=fun b o e=>hold b o (hG▸yu _ e);have hacc:g1.get? ↑s2=some {cls:=.type "list",data:=.seq ([]:List Value).toArray 0}:=hold _ _ (hG▸yw _ rfl);have hsC:↑s2<G2.objs.size:=by rw[hC];exact Nat.lt_succ_self _
 have csl:∀x c,(cellsFrom (G2.objs.size+1) scope.names cl).lookup x=some c->((cellsFrom (G2.objs.size+1) scope.names []).lookup x=some c/\G2.objs.size<c/\g1.IsCell c none)\/((cellsFrom (G2.objs.size+1) scope.names []).lookup x=none/\cl.lookup x=some c/\X.env.cells.lookup x=some c/\c<↑s2):=fun x c e=>by
  rw[dm,List.lookup_append] at e;cases q:(cellsFrom (G2.objs.size+1) scope.names []).lookup x with
  | some d=>
   rw[q] at e;cases e;obtain⟨z1,z2⟩:=hown.empty x _ (mem_of_lookup q);exact .inl ⟨rfl,z2,z1⟩
  | none=>
   rw[q] at e;obtain⟨v,z⟩:=I2.cell x c (hsub x c e);exact .inr ⟨rfl,e,hsub x c e,z.lt⟩
 have fplt:∀b∈fp,b<↑s2:=fun b hb=>let ⟨o,e,_⟩:=T.obj _ _ st2 b hb;yx e;have Od:∀b∈fp,∀x c,(cellsFrom (G2.objs.size+1) scope.names cl).lookup x=some c->c≠b:=fun b hb x c e=>by
  rcases csl x c e with⟨_,l,_⟩ | ⟨_,_,z,_⟩
  ·exact yh (Nat.lt_trans (fplt b hb) (Nat.lt_trans hsC l))
  ·exact(f2 b hb).2.2.2.2.1 x c z
 let Y:Cx:=cR X N scope cl G2.objs.size s2 H2 fp
 have okY:Y.Ok:=by
  refine⟨I2.ok.mod,hkind,I2.ok.glob,I2.ok.blt,?_,fun x y c e e'=>?_,fun x hx=>?_,fun x c hf e=>?_,I2.ok.hd,I2.ok.frames,.inl rfl,fun b hb=>⟨(below b (fplt b hb)).1,fun x c e=>Od b hb x c e⟩,I2.bs,zL I2.ok.LY I2.sz,fun b o e hb=>?_,fun b hb hf=>?_,I2.stack,I2.rO⟩
  ·show ↑s2<=G2.objs.size
   rw[hC];exact Nat.le_succ _
  ·rcases csl x c e with⟨q,l,_⟩ | ⟨_,q,z,l⟩
   ·rcases csl y c e' with⟨q',l',_⟩ | ⟨_,q',z',l'⟩
    ·exact OW hown q q'
    ·exact absurd (Nat.lt_trans (Nat.lt_trans hsC l) l') (ye _)
   ·rcases csl y c e' with⟨q',l',_⟩ | ⟨_,q',z',l'⟩
    ·exact absurd (Nat.lt_trans (Nat.lt_trans hsC l') l) (ye _)
    ·exact I2.ok.inj x y c z z'
  ·show∃c,(cellsFrom (G2.objs.size+1) scope.names cl).lookup x=some c
   rw[dm,List.lookup_append];rcases hhas G2.objs.size x hx with⟨c,e⟩ | ⟨c,e⟩
   ·rw[e];cases(cellsFrom (G2.objs.size+1) scope.names []).lookup x with
    | none=>exact⟨c,rfl⟩
    | some d=>exact⟨d,rfl⟩
   ·rw[e];exact⟨c,rfl⟩
  ·have hf':((cellsFrom (G2.objs.size+1) scope.names []).lookup x).isSome=true:=hf
   rcases csl x c e with⟨q,l,_⟩ | ⟨q,_⟩
   ·exact yg (Nat.lt_trans hsC l)
   ·rw[q] at hf';cases hf'
  ·rcases(f2 b hb).2.2.2.1 with z | z
   ·exact I2.ok.wN b o e z
   ·exact absurd (yb (yx e) (zL I2.ok.LY z)) (ye _)
  ·rcases zC.mp (I2.DG b hf) with z | z
   ·exact(f2 b hb).2.1 z
   ·exact(f2 b hb).2.2.1 z
 have cl2:∀x c,(cellsFrom (G2.objs.size+1) scope.names cl).lookup x=some c->(∃v,g1.IsCell c v)/\H2 c=none/\c≠↑s2:=fun x c e=>by
  rcases csl x c e with⟨_,l,z⟩ | ⟨_,_,z,l⟩
  ·exact⟨⟨_,z⟩,I2.cb.fresh (yg (Nat.lt_trans hsC l)),yh (Nat.lt_trans hsC l)⟩
  ·obtain⟨v,oc,hoc,hd⟩:=I2.cell x c z
   exact⟨⟨v,oc,old _ _ hoc,hd⟩,I2.kf x c z,yi l⟩
 have Dfs:↑s2∉Y.fs:=fun hb=>by
  rcases zC.mp (I2.DG _ hb) with z | z
  ·exact absurd (z▸I2.lt) (ye _)
  ·exact I2.Sf (zk _) z
 have hCf:H2 G2.objs.size=none:=I2.cb.fresh (by rw[hC];exact Nat.le_succ _);have start:∀tk,Inv Y [(↑s2,{cls:=.type "list",data:=.seq ([]:List Value).toArray 0})] (fr.map fun o=>o.bind fun j=>(σ[j]?).join) H2 {s2 with heap:=g1,toks:=tk}:=fun tk=>
  ⟨okY,rfl,I2.bare,Un.kept old,⟨_,hns,fun i x v e1 e2 _=>by
    rw[zJ] at e2;cases ef:fr[i]? with
    | none=>rw[ef] at e2;cases e2
    | some o=>
     cases o with
     | none=>rw[ef] at e2;cases e2
     | some j=>
      rw[ef] at e2;have e2':(σ[j]?).join=some v:=by simpa using e2
      have ej:σ[j]?=some (some v):=by
       cases q:σ[j]? with
       | none=>rw[q] at e2';cases e2'
       | some w=>rw[q] at e2';cases w with
        | none=>cases e2'
        | some w=>cases e2';rfl
      obtain⟨k1,k2,k3,k4,k5,k6⟩:=hfr i x j e1 ef;obtain⟨m,_,hl⟩:=I2.loc;obtain⟨u,r,l⟩:=hl j x v k1 ej k2;refine⟨u,r,?_⟩;rcases l with l | ⟨_,c,ec,z⟩
      ·exact absurd l.1 k3
      ·obtain⟨oc,hoc,hd⟩:=z
       exact .inr ⟨k4 G2.objs.size,c,by show(cellsFrom (G2.objs.size+1) scope.names cl).lookup x=some c;rw[dm,List.lookup_append,k6];exact k5 c ec,oc,old _ _ hoc,hd⟩⟩,
   fun x c e=>(cl2 x c e).1,hCf,fun x c e=>(cl2 x c e).2.1,
   fun p hp=>by
    have e:p=(↑s2,{cls:=.type "list",data:=.seq ([]:List Value).toArray 0}):=by simpa using (show p∈[]++[_] from hp)
    subst e;exact⟨hacc,I2.cb.fresh (zk _),hDC,Dfs,fun v z=>by cases z⟩,I2.cb.kept old,by rw[za,hlen];rfl⟩
 have stat:∀{H':Hp} {ob:Obj},(∀b∈fp,H' b=none)->∀b∈fp,rK Y [(↑s2,ob)] H' b:=fun {H' ob} hn b hb=>by
  refine⟨hn b hb,(below b (fplt b hb)).1,fun z=>okY.IZ b hb z,.inl hb,Od b hb,fun p hp=>?_⟩;have e:p=(↑s2,ob):=by simpa using (show p∈[]++[_] from hp)
  subst e;exact(below b (fplt b hb)).2.symm
 have loop:∀tk,codeAny (model X.prog X.w) X.A (.compLoop (.ListComp elt [⟨target,iter,ifs,0⟩] scope pos) 0 (.ref it) (.ref ↑s2) (compEnvC scope (cellsFrom (G2.objs.size+1) scope.names cl) G2.objs.size X.env))
   (RR (.ref ↑s2) G2.objs.size) {s2 with heap:=g1,toks:=tk}:=by
  intro tk;refine Jm (fun n s'=>∃i σ' H' xs its k,Inv Y [(↑s2,{cls:=.type "list",data:=.seq its.toArray k})] σ' H' s'/\tn i s'.heap/\(∀b∈fp,H' b=none)/\Vals xs its/\W i n xs σ' H') ?_ m0
   ⟨0,_,H2,[],[],0,start tk,T.keep _ _ _ st2 fun b _ o e=>old b o e,fun b hb=>(f2 b hb).1,.nil,w0⟩
  rintro n s3 ⟨i,σ3,H3,xs,its,k,I3,st3,fr3,rv3,w3⟩;rcases turn i n xs σ3 H3 w3 with⟨stop,hz,qn⟩ | ⟨go,hz,step⟩
  ·refine cU (T.done Y rfl rfl rfl hc i _ s3 σ3 H3 _ I3 (stat fr3) st3 stop) fun r s4 ⟨hr,I4⟩=>?_
   subst hr;obtain⟨m,hm,_⟩:=id I4.loc;obtain⟨pD,nD,neD,fD,_⟩:=I4.pin (↑s2,{cls:=.type "list",data:=.seq its.toArray k}) (by show _∈[]++[_];simp);refine fin ↑s2 G2.objs.size s4 H3 xs (zk _) (by rw[hC];exact Nat.le_succ _) hDC.symm (I2.NV (s':=s4) (ch:=fp) I4.os ?_ ?_ I4.bare (fun b hb=>⟨(f2 b hb).2.2.2.1,(f2 b hb).2.1,(f2 b hb).2.2.2.2.1,(f2 b hb).2.2.2.2.2⟩)) nD I4.free ⟨m,hm⟩ qn
   ·have ub:Un Y.fs Y.ex H2 H3 s2.heap s4.heap:=I4.base
    have lt:∀b o,s2.heap.get? b=some o->b≠G2.objs.size/\b≠↑s2:=fun b o e=>below b (yx e);refine⟨fun b o e n hb hx=>ub.keep b o e n hb hx,fun b o e n hb hx=>ub.slot b o e n hb hx,fun b o e n hx=>?_,fun b o e hx=>ub.there b o e hx,fun b ys e=>?_,fun b o u e=>?_,fun b ps e=>?_⟩
    ·rw[aE (lt b o e).2];exact ub.free b o e n hx
    ·have q:=ub.pF b ys e
     rw[aE (bu q nD)];exact q
    ·have q:=ub.nF b o u e
     rw[aE (bu q nD)];exact q
    ·obtain⟨more,q⟩:=ub.pG b ps e
     exact⟨more,by rw[aE (bu q nD)];exact q⟩
   ·intro b u e
    by_cases hb:b=↑s2
    ·subst hb;rw[ay] at e;cases e
     exact⟨hz,its,k,rv3,pD⟩
    ·rw[aE hb] at e
     exact(I4.cb b u e).lJ (fun c v hc' q=>q) (fun c q=>by rw[aE (bu q nD)];exact q) fun c ys q=>by rw[aE (bu q nD)];exact q
  ·refine cU (T.item Y rfl rfl rfl hc i _ s3 σ3 H3 _ I3 (stat fr3) st3 go) fun r s4 ⟨u,hr,h4⟩=>?_
   subst hr;refine cU h4 fun _ s5 zz=>?_;obtain⟨x,H5,I5,r5,y5,st5,fr5⟩:=zz;have I5':=I5.pinned (stat fr5) (T.obj _ _ st5);refine cU (hg G2.objs.size s2 H2 fp _ s5 σ3 H5 x u _ I5' r5 (step x H5 y5)) fun _ s6 ⟨σ6,H6,I6,q6⟩=>?_;refine cU (hif G2.objs.size s2 H2 fp _ s6 σ6 H6 _ I6 q6) fun b s6' ⟨H6',I6',q6'⟩=>?_;cases b with
   | false=>
    rw[if_neg ∅] at q6' ⊢;obtain⟨m',hm,w7⟩:=q6';have inD:(↑s2,({cls:=.type "list",data:=.seq its.toArray k}:Obj))∈Y.pn++([(↑s2,({cls:=.type "list",data:=.seq its.toArray k}:Obj))]++uE fp s5.heap):=by show _∈[]++_;simp
    obtain⟨pD,nD,neD,fD,dD⟩:=I6'.pin _ inD;have I7':Inv Y [] σ6 H6' s6':=I6'.o7 fun p hp=>nomatch hp;refine⟨m',hm,i+1,σ6,H6',xs,its,k,I7'.o7 fun p hp=>?_,T.keep _ _ _ st5 (fun b hb o e=>(I6'.pin (b,o) (zH _ (zH _ (gB hb e)))).1),fun b hb=>?_,rv3,w7⟩
    ·have e:p=(↑s2,{cls:=.type "list",data:=.seq its.toArray k}):=by simpa using hp
     subst e;exact⟨pD,nD,neD,fD,dD⟩
    ·obtain⟨o,e,d⟩:=T.obj _ _ st5 b hb
     exact(I6'.pin (b,o) (zH _ (zH _ (gB hb e)))).2.1
   | true=>
   rw[if_pos rfl] at q6' ⊢;refine cU (he G2.objs.size s2 H2 fp _ s6' σ6 H6' _ I6' q6') fun v s7 zz=>?_;obtain⟨y,H7,I7,r7,m',hm,w7⟩:=zz;have inD:(↑s2,({cls:=.type "list",data:=.seq its.toArray k}:Obj))∈Y.pn++([(↑s2,({cls:=.type "list",data:=.seq its.toArray k}:Obj))]++uE fp s5.heap):=by show _∈[]++_;simp
   obtain⟨pD,nD,neD,fD,dD⟩:=I7.pin _ inD;have hlen:=rv3.length;refine wpAny_list_append_plain (items:=its.toArray) (hsz:=by rw[ya];omega) ⟨k,pD⟩ fun g8 pl8 sb8=>?_;obtain⟨k8,e8⟩:=pl8;have I7':Inv Y [] σ6 H7 s7:=I7.o7 fun p hp=>nomatch hp;have I8:Inv Y [] σ6 H7 {s7 with heap:=g8}:=I7'.turned (t':=s7.toks) (fun b o hb e=>sb8.extBut b o hb e) nD neD (.inr (zk _)) (fun x c e=>(cl2 x c e).2.2) (fun p hp=>(nomatch (show p∈([]:List (Addr×Obj)) from hp)));have e8':g8.get? ↑s2=some {cls:=.type "list",data:=.seq (its++[v]).toArray k8}:=by rw[e8];simp
   have fpD:∀b∈fp,∀o,s5.heap.get? b=some o->g8.get? b=some o:=fun b hb o e=>sb8.extBut b o (below b (fplt b hb)).2 (I7.pin (b,o) (zH _ (zH _ (gB hb e)))).1;refine⟨m',hm,i+1,σ6,H7,xs++[y],its++[v],k8,I8.o7 fun p hp=>?_,T.keep _ _ _ st5 fpD,fun b hb=>?_,rv3.append (.cons r7 .nil),w7⟩
   ·have e:p=(↑s2,{cls:=.type "list",data:=.seq (its++[v]).toArray k8}):=by simpa using hp
    subst e;exact⟨e8',nD,neD,fD,fun v z=>by cases z⟩
   ·obtain⟨o,e,d⟩:=T.obj _ _ st5 b hb
    exact(I7.pin (b,o) (zH _ (zH _ (gB hb e)))).2.1
 exact codeAny_compStart_list (loop _) (T.self _ _ _ _ _ (T.keep _ _ _ st2 fun b _ o e=>old b o e) (loop _))
def K0 {elt target iter:Expr} {scope:Scope} {N:List Str} {fr:List (Option Nat)} {cl:List (Str×Addr)} {wi:TI} {g:TG} {tc:TT} {te:TE} {ifs:List Expr} (hc:X.calm=true) (hclos:closureFor scope X.env=pure cl) (hsub:∀x c,cl.lookup x=some c->X.env.cells.lookup x=some c) (hhas:∀C x,((compEnvC scope cl C X.env).kindOf x=some .cell\/(compEnvC scope cl C X.env).kindOf x=some .free)->(∃c,cl.lookup x=some c)\/∃c,(cellsFrom (C+1) scope.names []).lookup x=some c)
  (hlen:fr.length=N.length) (hfr:∀(i:Nat) x j,N[i]?=some x->fr[i]?=some (some j)->X.N[j]?=some x/\Rv X.env.scope x/\X.env.kindOf x≠some .local/\(∀C,(compEnvC scope cl C X.env).kindOf x=some .cell\/(compEnvC scope cl C X.env).kindOf x=some .free)/\(∀c,X.env.cells.lookup x=some c->cl.lookup x=some c)/\∀C,(cellsFrom (C+1) scope.names []).lookup x=none) (hkind:scope.kind=.function)
  (hnames:∀y∈scope.names,y.2=.local->scope.names.lookup y.1=some .local) (hi:PI X target iter wi)
  (hg:∀C s₀ H₀ ex,PG (cR X N scope cl C s₀ H₀ ex) target g) (hif:∀C s₀ H₀ ex,Pw (cR X N scope cl C s₀ H₀ ex) ifs tc) (he:∀C s₀ H₀ ex,PE (cR X N scope cl C s₀ H₀ ex) elt te) (hs:(∀x,foldedSetIterable iter X.env x=pure x)<|>qd_) :
  PE X (.ListComp elt [⟨target,iter,ifs,0⟩] scope pos) (nP fr wi g tc te):=by
 intro pins s σ H Q I h;rw[eval_ListComp];refine wpAny_comprehension_free (use:=none) (cl:=cl) rfl hs hclos hkind hnames (cU (hi pins s σ H _ I h) fun xv s1 h1=>cU h1 fun itv s2 h2=>?_);obtain⟨it,fp,tn,J,H2,e,I2,T,st2,f2,ok⟩:=h2;subst e;refine A4 (RR:=fun acc C=>compPost (model X.prog X.w) X.A X.xe none (EP X pins σ Q) acc C) hc hsub hhas hlen hfr hkind hg hif he I2 T st2 f2 ok ?_;intro D C s4 H' xs hD hC hne I4 nD nC ⟨m,hm⟩ qn;refine⟨m,hm,fun g5 hs5=>⟨.ref D,upd H' D (.lst xs),I2.Sk hC I4 (by rw[aE hne];exact nC) hs5,rfl,qn D nD⟩⟩
def KU {elt target iter:Expr} {scope:Scope} {N:List Str} {fr:List (Option Nat)} {cl:List (Str×Addr)} {wi:TI} {g:TG} {tc:TT} {te:TE} {ifs:List Expr} (hc:X.calm=true) (hclos:closureFor scope X.env=pure cl) (hsub:∀x c,cl.lookup x=some c->X.env.cells.lookup x=some c) (hhas:∀C x,((compEnvC scope cl C X.env).kindOf x=some .cell\/(compEnvC scope cl C X.env).kindOf x=some .free)->(∃c,cl.lookup x=some c)\/∃c,(cellsFrom (C+1) scope.names []).lookup x=some c)
  (hlen:fr.length=N.length) (hfr:∀(i:Nat) x j,N[i]?=some x->fr[i]?=some (some j)->X.N[j]?=some x/\Rv X.env.scope x/\X.env.kindOf x≠some .local/\(∀C,(compEnvC scope cl C X.env).kindOf x=some .cell\/(compEnvC scope cl C X.env).kindOf x=some .free)/\(∀c,X.env.cells.lookup x=some c->cl.lookup x=some c)/\∀C,(cellsFrom (C+1) scope.names []).lookup x=none) (hkind:scope.kind=.function)
  (hnames:∀y∈scope.names,y.2=.local->scope.names.lookup y.1=some .local) (hi:PI X target iter wi)
  (hg:∀C s₀ H₀ ex,PG (cR X N scope cl C s₀ H₀ ex) target g) (hif:∀C s₀ H₀ ex,Pw (cR X N scope cl C s₀ H₀ ex) ifs tc) (he:∀C s₀ H₀ ex,PE (cR X N scope cl C s₀ H₀ ex) elt te) (hs:(∀x,foldedSetIterable iter X.env x=pure x)<|>qd_)  {i:Nat} {x:Str} {ps pa:Pos} (hN:X.N.Nodup) (hx1:X.N[i]?=some x) (hx2:Loc X.env.scope x) (hsw:swapsWith (.ListComp elt [⟨target,iter,ifs,0⟩] scope pos) (some (.Name x ps)) pa.line X.env=pure true<|>qe_)
  (hf:X.fn x=true\/X.env.scope.names.lookup x=some .local<|>qa_) :
  PS X (.Assign [.Name x ps] (.ListComp elt [⟨target,iter,ifs,0⟩] scope pos) pa) (FO (nP fr wi g tc te) (bO i)):=by
 intro pins s σ H D I h;rw[exec_Assign_Name_used _ _ _ _ hsw];refine yt (wpAny_standAt (yt ?_));show wpAny _ X.A (do let _ <-comprehension (.ListComp elt [⟨target,iter,ifs,0⟩] scope pos) scope X.env _ (newList []) false (eval iter X.env) (some (assign (.Name x ps) X.env))) _ _ s;refine yt (wpAny_mono (wpAny_comprehension_free (use:=some (assign (.Name x ps) X.env)) (cl:=cl) (Q:=fun _ s'=>SP X pins D .next s') rfl hs hclos hkind hnames (cU (hi pins s σ H _ I h) fun xv s1 h1=>cU h1 fun itv s2 h2=>?_)) (fun _ s' hq=>yv (yv hq)) fun _ _ e=>e);obtain⟨it,fp,tn,J,H2,e,I2,T,st2,f2,ok⟩:=h2;subst e;refine A4 (RR:=fun acc C=>compPost (model X.prog X.w) X.A X.xe (some (assign (.Name x ps) X.env)) (fun _ s'=>SP X pins D .next s') acc C) hc hsub hhas hlen hfr hkind hg hif he I2 T st2 f2 ok ?_;intro E C s4 H' xs hE hC hne I4 nE nC ⟨m,hm⟩ qn;show wpAny _ X.A (assign (.Name x ps) X.env (.ref E)) _ _ s4;refine wpAny_assign_Name (CG I4 hN hx1 hx2 (v:=.ref E) rfl (fun s5 I5 hw=>?_) hf);obtain⟨aw,sb,ha⟩:=hw;have hCn:(upd H' E (.lst xs)) C=none:=by rw[aE hne];exact nC
 obtain⟨f0,f1,f2',f3,f4,f5⟩:=I2.uS hC hCn;have neC:C≠aw:=by
  rcases ha with z | z
  ·rw[z];exact f1
  ·exact fun q=>f4 x aw z q.symm
 refine⟨m,hm.sameBut sb neC,fun g6 hs6=>?_⟩;exact⟨_,_,I2.Sk hC I5 hCn hs6,qn E nE⟩
end
def Fn (cells:List (Str×Addr)):List (Str×Addr)->Prop
 | []=>True
 | p::r=>cells.lookup p.1=some p.2/\Fn cells r
theorem Fn.sub:∀{cl:List (Str×Addr)},Fn cells cl->∀x c,cl.lookup x=some c->cells.lookup x=some c
 | [],_,x,c,e=>by cases e
 | (y,d)::r,h,x,c,e=>by
  rw[yp] at e;split at e
  ·rename_i q
   cases e;rw[eq_of_beq q];exact h.1
  ·exact Fn.sub h.2 x c e
def LU (X:Cx) (scope:Scope) (cl:List (Str×Addr)):List Str->List Nat->Prop
 | [],[]=>True
 | y::ys,j::js=>(X.N[j]?=some y/\(X.env.kindOf y=some .cell\/X.env.kindOf y=some .free)/\((relabel scope X.env).names.lookup y=some .cell\/(relabel scope X.env).names.lookup y=some .free)/\∃c,X.env.cells.lookup y=some c/\cl.lookup y=some c)/\LU X scope cl ys js
 | _,_=>False
theorem LU.len:∀{ys:List Str} {js:List Nat},LU X scope cl ys js->js.length=ys.length
 | [],[],_=>rfl
 | _::_,_::_,h=>by rw[zt,zt,LU.len h.2]
 | [],_::_,h=>h.elim
 | _::_,[],h=>h.elim
theorem LU.get:∀{ys:List Str} {js:List Nat} {i:Nat} {y:Str} {j:Nat},LU X scope cl ys js->ys[i]?=some y->js[i]?=some j->
  X.N[j]?=some y/\(X.env.kindOf y=some .cell\/X.env.kindOf y=some .free)/\((relabel scope X.env).names.lookup y=some .cell\/(relabel scope X.env).names.lookup y=some .free)/\∃c,X.env.cells.lookup y=some c/\cl.lookup y=some c
 | [],_,_,_,_,_,e,_=>by simp at e
 | _::_,[],_,_,_,h,_,_=>h.elim
 | y::ys,j::js,0,_,_,h,e,e'=>by simp at e e';subst e e';exact h.1
 | y::ys,j::js,i+1,_,_,h,e,e'=>LU.get (i:=i) h.2 (by simpa using e) (by simpa using e')
theorem Jo:∀{names:List (Str×NameKind)} {n:Nat} {x:Str} {c:Addr},(cellsFrom n names []).lookup x=some c->(x,NameKind.cell)∈names
 | [],_,_,_,e=>by cases e
 | (y,k)::r,n,x,c,e=>by
  unfold cellsFrom at e;split at e
  ·rename_i hk
   rw[dm,List.lookup_append] at e;cases q:(cellsFrom (n+1) r []).lookup x with
   | some d=>exact zm _ (Jo q)
   | none=>
    rw[q] at e;have e':([(y,n)]:List (Str×Addr)).lookup x=some c:=e;rw[yp] at e';split at e'
    ·rename_i z
     rw[eq_of_beq z,eq_of_beq hk];exact zp
    ·cases e'
  ·exact zm _ (Jo e)
theorem Jp:∀{names:List (Str×NameKind)} {n:Nat} {x:Str},(x,NameKind.cell)∈names->∃c,(cellsFrom n names []).lookup x=some c
 | [],_,_,h=>by cases h
 | (y,k)::r,n,x,h=>by
  unfold cellsFrom;split
  ·rw[dm,List.lookup_append]
   cases q:(cellsFrom (n+1) r []).lookup x with
   | some d=>exact⟨d,rfl⟩
   | none=>
    rcases zC.mp h with h | h
    ·obtain⟨e1,_⟩:=Prod.mk.inj h
     exact⟨n,by show([(y,n)]:List (Str×Addr)).lookup x=some n;rw[e1,yp,beq_self_eq_true]⟩
    ·obtain⟨c,e⟩:=Jp (n:=n+1) h
     rw[q] at e;cases e
  ·rename_i hk
   rcases zC.mp h with h | h
   ·cases h;exact absurd rfl hk
   ·exact Jp h
theorem vP:∀{L:List (Str×NameKind)} {x:Str} {k:NameKind},L.lookup x=some k->(x,k)∈L
 | [],_,_,h=>by cases h
 | (y,j)::r,x,k,h=>by
  rw[yp] at h;split at h
  ·rename_i q;cases h;rw[eq_of_beq q];exact zp
  ·exact zm _ (vP h)
section
variable {X:Cx} {pos:Pos} {elt target iter:Expr} {ifs:List Expr} {scope:Scope} {ts ys:List Str} {js:List Nat} {cl:List (Str×Addr)} {wi:TI} {g:TG} {tc:TT} {te:TE}
def Di (hcl:Fn X.env.cells cl) (hLo:((relabel scope X.env).names.all fun p=>(p.2 != .cell&&p.2 != .free)||ys.contains p.1||scope.names.contains (p.1,.cell))=true) (hno:∀p∈scope.names,p.2=.cell->p.1∉ys) (hfr:LU X scope cl ys js) :
  (∀(C:Addr) x,((compEnvC scope cl C X.env).kindOf x=some .cell\/(compEnvC scope cl C X.env).kindOf x=some .free)->(∃c,cl.lookup x=some c)\/∃c,(cellsFrom (C+1) scope.names []).lookup x=some c)/\
  (ts.map (fun _=>(none:Option Nat))++js.map some).length=(ts++ys).length/\
  (∀(i:Nat) x j,(ts++ys)[i]?=some x->(ts.map (fun _=>(none:Option Nat))++js.map some)[i]?=some (some j)->X.N[j]?=some x/\Rv X.env.scope x/\X.env.kindOf x≠some .local/\(∀C,(compEnvC scope cl C X.env).kindOf x=some .cell\/(compEnvC scope cl C X.env).kindOf x=some .free)/\(∀c,X.env.cells.lookup x=some c->cl.lookup x=some c)/\∀C,(cellsFrom (C+1) scope.names []).lookup x=none):=by
 refine⟨fun C x hx=>?_,by simp[LU.len hfr],fun i x j h1 h2=>?_⟩
 ·have key:∀k,(relabel scope X.env).names.lookup x=some k->(k=.cell\/k=.free)->(∃c,cl.lookup x=some c)\/∃c,(cellsFrom (C+1) scope.names []).lookup x=some c:=fun k hk hk'=>by
   have:=(yo.mp hLo) _ (vP hk);rw[Bool.or_eq_true,Bool.or_eq_true] at this;rcases this with(z | z) | z
   ·rcases hk' with rfl | rfl <;> simp at z
   ·have hm:x∈ys:=List.contains_iff_mem.mp z
    obtain⟨n,hn⟩:=List.getElem?_of_mem hm;have hl:n<js.length:=by rw[hfr.len];exact(zw.mp hn).1
    obtain⟨_,_,_,c,_,e⟩:=hfr.get hn (zb hl);exact .inl ⟨c,e⟩
   ·exact .inr (Jp (List.contains_iff_mem.mp z))
  rcases hx with hx | hx
  ·exact key _ hx (.inl rfl)
  ·exact key _ hx (.inr rfl)
 ·have hi:ts.length<=i:=by
   rcases Nat.lt_or_ge i ts.length with h | h
   ·rw[List.getElem?_append_left (by simpa using h),zJ] at h2
    cases q:ts[i]? with
    | none=>rw[q] at h2;cases h2
    | some z=>rw[q] at h2;cases h2
   ·exact h
  rw[zZ hi] at h1;rw[zZ (by simpa using hi),za,zJ] at h2;have h2':js[i-ts.length]?=some j:=by
   cases q:js[i-ts.length]? with
   | none=>rw[q] at h2;cases h2
   | some z=>rw[q] at h2;cases h2;rfl
  obtain⟨k1,k2,k3,c,k4,k5⟩:=hfr.get h1 h2';refine⟨k1,.inr k2,fun z=>?_,fun C=>k3,fun d hd=>?_,fun C=>?_⟩
  ·rcases k2 with k2 | k2 <;> (rw[z] at k2;cases k2)
  ·rw[k4] at hd;cases hd;exact k5
  ·cases q:(cellsFrom (C+1) scope.names []).lookup x with
   | none=>rfl
   | some d=>exact absurd (zB h1) (hno _ (Jo q) rfl)
def M9 (hc:X.calm=true) (hclos:closureFor scope X.env=pure cl) (hcl:Fn X.env.cells cl) (hLo:((relabel scope X.env).names.all fun p=>(p.2 != .cell&&p.2 != .free)||ys.contains p.1||scope.names.contains (p.1,.cell))=true) (hno:∀p∈scope.names,p.2=.cell->p.1∉ys) (hfr:LU X scope cl ys js) (hkind:scope.kind=.function)
  (hnames:∀y∈scope.names,y.2=.local->scope.names.lookup y.1=some .local) (hi:PI X target iter wi)
  (hg:∀C s₀ H₀ ex,PG (cR X (ts++ys) scope cl C s₀ H₀ ex) target g) (hif:∀C s₀ H₀ ex,Pw (cR X (ts++ys) scope cl C s₀ H₀ ex) ifs tc) (he:∀C s₀ H₀ ex,PE (cR X (ts++ys) scope cl C s₀ H₀ ex) elt te) (hs:(∀x,foldedSetIterable iter X.env x=pure x)<|>qd_) :
  PE X (.ListComp elt [⟨target,iter,ifs,0⟩] scope pos) (nP (ts.map (fun _=>none)++js.map some) wi g tc te):=by
 obtain⟨a,b,c⟩:=Di (ts:=ts) hcl hLo hno hfr;exact K0 hc hclos hcl.sub a b c hkind hnames hi hg hif he hs
def MY (hc:X.calm=true) (hclos:closureFor scope X.env=pure cl) (hcl:Fn X.env.cells cl) (hLo:((relabel scope X.env).names.all fun p=>(p.2 != .cell&&p.2 != .free)||ys.contains p.1||scope.names.contains (p.1,.cell))=true) (hno:∀p∈scope.names,p.2=.cell->p.1∉ys) (hfr:LU X scope cl ys js) (hkind:scope.kind=.function)
  (hnames:∀y∈scope.names,y.2=.local->scope.names.lookup y.1=some .local) (hi:PI X target iter wi)
  (hg:∀C s₀ H₀ ex,PG (cR X (ts++ys) scope cl C s₀ H₀ ex) target g) (hif:∀C s₀ H₀ ex,Pw (cR X (ts++ys) scope cl C s₀ H₀ ex) ifs tc) (he:∀C s₀ H₀ ex,PE (cR X (ts++ys) scope cl C s₀ H₀ ex) elt te) (hN:X.N.Nodup) (hx1:X.N[i]?=some x) (hx2:Loc X.env.scope x) (hs:(∀x,foldedSetIterable iter X.env x=pure x)<|>qd_) (hsw:swapsWith (.ListComp elt [⟨target,iter,ifs,0⟩] scope pos) (some (.Name x ps)) pa.line X.env=pure true<|>qe_)
  (hf:X.fn x=true\/X.env.scope.names.lookup x=some .local<|>qa_) :
  PS X (.Assign [.Name x ps] (.ListComp elt [⟨target,iter,ifs,0⟩] scope pos) pa) (FO (nP (ts.map (fun _=>none)++js.map some) wi g tc te) (bO i)):=by
 obtain⟨a,b,c⟩:=Di (ts:=ts) hcl hLo hno hfr;exact KU hc hclos hcl.sub a b c hkind hnames hi hg hif he hs hN hx1 hx2 hsw hf
end
def HV (n:Nat) (f:Nat->List V) (Pv:Nat->St->Hp->Prop) (i m:Nat) (xs:List V) (σ:St) (H:Hp):Prop:=m=n-i/\i<=n/\xs=f i/\Pv i σ H
def HV.push (hi:i<n) (e:f (i+1)=f i++[y]) (p:Pv (i+1) σ H):∃m',m'<n-i/\HV n f Pv (i+1) m' (f i++[y]) σ H:=⟨n-(i+1),nofun,rfl,hi,e.symm,p⟩
def HV.skip (hi:i<n) (e:f (i+1)=f i) (p:Pv (i+1) σ H):∃m',m'<n-i/\HV n f Pv (i+1) m' (f i) σ H:=⟨n-(i+1),nofun,rfl,hi,e.symm,p⟩
def oR (n:Nat) (f:Nat->List V) (Pv:Nat->St->Hp->Prop) (hz:∀i,i<=n->(f i).length<=i) (hn:n<=sizeLine) (f0:f 0=[]) (h0:Pv 0 σ₀ H1)
  (go:∀i σ H,i<n->Pv i σ H->J.go i H) (stop:∀σ H,Pv n σ H->J.stop n H)
  (turn:∀i x σ H H2,i<n->Pv i σ H->J.JL i H x H2->g x σ H2 fun σ3 H3=>tc σ3 H3 fun b H4=>if b=true then te σ3 H4 fun y H5=>∃m',m'<n-i/\HV n f Pv (i+1) m' (f i++[y]) σ3 H5 else∃m',m'<n-i/\HV n f Pv (i+1) m' (f i) σ3 H4)
  (fin:∀σ H,Pv n σ H->∀D,H D=none->Q (.ref D) (upd H D (.lst (f n)))):dz σ₀ g tc te Q J H1:=by
 refine⟨HV n f Pv,⟨n,by simp,yf _,f0.symm,h0⟩,?_⟩;rintro i m xs σ H ⟨rfl,hi,rfl,p⟩;have:=hz i hi;rcases Nat.lt_or_ge i n with hlt | hge
 ·exact .inr ⟨go i σ H hlt p,nofun,fun x H2 y=>turn i x σ H H2 hlt p y⟩
 ·have e:i=n:=nofun
  subst e;exact .inl ⟨stop σ H p,nofun,fin σ H p⟩
section
variable {X:Cx}
def Eb (bs:List Bool):((List.range bs.length).any fun i=>(bs[i]?).getD false)=bs.any id:=by
 rw[Bool.eq_iff_iff,yn,yn];constructor
 ·rintro⟨i,hi,e⟩
  have hi':=List.mem_range.mp hi;rw[zb hi'] at e;exact⟨_,yk hi',e⟩
 ·rintro⟨b,hb,e⟩
  obtain⟨i,hi,e'⟩:=List.mem_iff_getElem.mp hb;exact⟨i,List.mem_range.mpr hi,by rw[zb hi,e'];exact e⟩
def gI (hc:X.calm=true):fT X (.builtin "any") (fun xs H Q=>∃(a:Addr) (bs:List Bool),xs=[.ref a]/\aH X.K H a (bs.map V.bl)/\Q (.bl (bs.any id)) H):=by
 intro pins s σ H xs us Q I r h;obtain⟨a,bs,e,hq,q⟩:=h;subst e;cases r with
 | cons r rr=>
  cases rr;cases r;obtain⟨its,rv,p,hz⟩:=I.list hq;have hlt:a<↑s:=by obtain⟨o,n,e,_⟩:=p;exact yx e
  have hlen:bs.length=its.length:=by have:=rv.length;rw[za] at this;exact this
  refine call_any_walk (wpAny_pyIter_list p.isList ?_);refine⟨↑s,[↑s,a],[↑s],its.toArray.size,_,_,fun i=>(bs[i]?).getD false,rfl,Walks.list (A:=X.A.in1) (I.ok.hd hc) _ a (yi hlt) its.toArray,
   ⟨⟨_,yw _ rfl,rfl,rfl⟩,p.isList.push _⟩,fun i v s' Q' E' hP hQ=>?_,fun h' tk hk=>?_⟩
  ·have hP':its[i]?=some v:=by simpa using hP
   have hi:i<bs.length:=by rw[hlen];exact(zw.mp hP').1
   have hm:(bs.map V.bl)[i]?=some (.bl bs[i]):=by rw[zJ,zb hi];rfl
   obtain⟨u,hu,ru⟩:=rv.get hm;rw[hP'] at hu;cases hu;cases ru;dsimp only at hQ;rw[zb hi] at hQ;exact wpAny_truthy_bool hQ
  ·have e:((List.range its.toArray.size).any fun i=>(bs[i]?).getD false)=bs.any id:=by rw[ya,<-hlen];exact Eb bs
   rw[e];exact⟨.bl _,H,I.kept fun b o x=>hk b o (fun hm=>by rw[zy.mp hm] at x;exact ye _ (yx x)) (yu _ x),rfl,q⟩
def vM (ns:List Int):∀k,k<=ns.length->preSum (fun i=>(ns[i]?).getD 0) k=(ns.take k).sum:=by
 intro k
 induction k with
 | zero=>intro _;simp[preSum]
 | succ k ih=>
  intro hk;have hk':k<ns.length:=hk;have e:=ih (yg hk');rw[List.take_succ,List.sum_append,<-e,zb hk'];simp[preSum,zb hk']
def Lx (hc:X.calm=true):fT X (.builtin "sum") (fun xs H Q=>∃(a:Addr) (ns:List Int),xs=[.ref a]/\aH X.K H a (ns.map V.int)/\(∀n∈ns,0<=n/\n<1000000)/\ns.length<=1000/\Q (.int ns.sum) H):=by
 intro pins s σ H xs us Q I r h;obtain⟨a,ns,e,hq,hb,hl,q⟩:=h;subst e;cases r with
 | cons r rr=>
  cases rr;cases r;obtain⟨its,rv,p,hz⟩:=I.list hq;have hlt:a<↑s:=by obtain⟨o,n,e,_⟩:=p;exact yx e
  have hlen:ns.length=its.length:=by have:=rv.length;rw[za] at this;exact this
  have bnd:∀k,k<=ns.length->0<=(ns.take k).sum/\(ns.take k).sum<=1000000*k:=by
   intro k
   induction k with
   | zero=>intro _;simp
   | succ k ih=>
    intro hk;have hk':k<ns.length:=hk;have:=ih (yg hk');rw[List.take_succ,List.sum_append,zb hk'];have hb':=hb _ (yk hk');simp only[Option.toList_some,List.sum_cons,List.sum_nil];omega
  refine call_sum_walk (wpAny_pyIter_list p.isList ?_);refine⟨↑s,[↑s,a],[↑s],its.toArray.size,_,_,fun i=>(ns[i]?).getD 0,rfl,Walks.list (A:=X.A.in1) (I.ok.hd hc) _ a (yi hlt) its.toArray,
   ⟨⟨_,yw _ rfl,rfl,rfl⟩,p.isList.push _⟩,fun b hb'=>?_,fun i v hP=>?_,fun j hj=>?_,fun h' tk t' hk=>?_⟩
  ·rw[Heap.size_push]
   rcases zC.mp hb' with e | e
   ·rw[e];exact Nat.lt_succ_self _
   ·rw[zy.mp e];exact Nat.lt_succ_of_lt hlt
  ·have hP':its[i]?=some v:=by simpa using hP
   have hi:i<ns.length:=by rw[hlen];exact(zw.mp hP').1
   have hm:(ns.map V.int)[i]?=some (.int ns[i]):=by rw[zJ,zb hi];rfl
   obtain⟨u,hu,ru⟩:=rv.get hm;rw[hP'] at hu;cases hu;dsimp only;rw[zb hi];exact ru
  ·have hj':j<ns.length:=by rw[hlen];simpa using hj
   have b1:=hb _ (yk hj');have b2:=bnd (j+1) hj';rw[vM ns (j+1) hj'];dsimp only;rw[zb hj'];simp only[Option.getD_some];constructor <;> (unfold InLong;omega)
  ·have e:preSum (fun i=>(ns[i]?).getD 0) its.toArray.size=ns.sum:=by rw[ya,<-hlen,vM ns _ (zk _),zM]
   rw[e];exact⟨.int _,H,I.kept fun b o x=>hk b o (fun hm=>by rw[zy.mp hm] at x;exact ye _ (yx x)) (yu _ x),⟨_,rfl⟩,q⟩
end
section
variable {prog:Program} {w:World} {A:Around} {E:Value->Shared->Prop} {s:Shared}
def Ci (hl:IsTup s.heap l vs.toArray)
  (h:Q vs {s with heap:=(s.heap.push (seqObj "list" #[] 0)).update ↑s (Obj.mapSeq (·++vs.toArray))}) (hsz:vs.length<=sizeLine) :
  wpAny (model prog w) A (collect (.ref l)) Q E s:=by
 obtain⟨o,ho,hc,n,hd⟩:=id hl;unfold collect;refine yt (wpAny_runValue (codeAny_builtin entry_proto_collect' ?_));show wpAny _ _ (do again (.builtin "list.__iadd__" ⟨[<-newList [],.ref l],[]⟩)) _ _ s;refine yt (wpAny_newList (yv ⟨Code.quiet_builtin _ (by decide +kernel),codeAny_builtin entry_list_iadd' ?_⟩));show wpAny _ _ (Builtin.List.listExtendWith (.ref ↑s) (.ref l) (.ref ↑s)) _ _ {s with heap:=s.heap.push (seqObj "list" #[] 0)};unfold Builtin.List.listExtendWith;have ho':(s.heap.push (seqObj "list" #[] 0)).get? l=some o:=yu _ ho;refine yt (wpAny_typeOf (T:="tuple") ⟨o,ho',hc⟩ ?_);have ht:(Value.type "tuple"== Value.type "tuple")=true:=by rfl
 rw[if_pos (by rw[ht];simp)];refine yt (listItems_at ho' hd ?_);refine yt (listItems_at (xs:=#[]) (n:=0) (yw _ rfl) rfl ?_);rw[if_neg (by simp)];refine yt (listUpdate_at (xs:=#[]) (n:=0) (yw _ rfl) rfl ?_ (yf _) (by show(#[]++vs.toArray).size<=sizeLine+1;simp only[Array.size_append,ya,List.length_nil];omega));refine yv ?_;show wpAny (model prog w) A (do
   let o <-load ↑s
   match o.data with
   | .seq xs _=>pure xs.toList
   | _=>unsupported "internal:collect") Q E {s with heap:=(s.heap.push (seqObj "list" #[] 0)).update ↑s (Obj.mapSeq (·++vs.toArray))}
 refine yt (wpAny_load (get?_update_seq (yw _ rfl) _) ?_);show wpAny _ _ (pure ((#[]:Array Value)++vs.toArray).toList) Q E _;rw[show((#[]:Array Value)++vs.toArray).toList=vs by simp];exact yv h
def Io (hl:IsTup s.heap l vs.toArray) (hI:IntsAre vs ns) (h64:vs.length<64)
  (h:∀(out:Array Value) (ns':List Int),IntsAre out.toList ns'->ns'.Perm ns->ns'.Pairwise (·<=·)->Q (.ref (↑s+1)) {s with heap:=sortedAll s.heap vs out}) :
  wpAny (model prog w) A (call (.builtin "sorted") [.ref l]) Q E s:=by
 refine Calls.call_function_entry kind_sorted plain_sorted entry_sorted (args_sorted1 _) ?_;unfold Builtin.«sorted»;refine yt (m:=checkCount "sorted" 1 1 _) (yv ?_);refine yt (Ci hl ?_ (by rw[yB];omega));refine yt (wpAny_newList ?_);have hsz:((s.heap.push (seqObj "list" #[] 0)).update ↑s (Obj.mapSeq (·++vs.toArray))).objs.size=↑s+1:=by
  rw[Heap.size_update,size_push']
 have hoL:(((s.heap.push (seqObj "list" #[] 0)).update ↑s (Obj.mapSeq (·++vs.toArray))).push (seqObj "list" vs.toArray 0)).get? (↑s+1)=some (seqObj "list" vs.toArray 0):=by
  rw[<-hsz];exact yw _ rfl
 show wpAny _ _ _ _ _ {s with heap:=((s.heap.push (seqObj "list" #[] 0)).update ↑s (Obj.mapSeq (·++vs.toArray))).push (seqObj "list" vs.toArray 0)};rw[hsz];refine yt (wpAny_holding (wpAny_call_entry slot_list_sort ⟨_,hoL,rfl⟩ entry_list_sort (list_sort_tree hoL hI h64 fun out ns' a1 a2 a3=>⟨_,rfl,?_⟩) (args_list_sort _)));exact yv ⟨_,rfl,h out ns' a1 a2 a3⟩
def BG (h:Heap) (vs:List Value) (out:Array Value):∃n,(sortedAll h vs out).get? (h.objs.size+1)=some {cls:=.type "list",data:=.seq out n}:=by
 have hsz:((h.push (seqObj "list" #[] 0)).update h.objs.size (Obj.mapSeq (·++vs.toArray))).objs.size=h.objs.size+1:=by rw[Heap.size_update,size_push']
 have h1:(((h.push (seqObj "list" #[] 0)).update h.objs.size (Obj.mapSeq (·++vs.toArray))).push (seqObj "list" vs.toArray 0)).get? (h.objs.size+1)=some (seqObj "list" vs.toArray 0):=by
  rw[<-hsz];exact yw _ rfl
 unfold sortedAll sortedHeap;have h2:=get?_update_seq h1 (fun _=>#[]);have h3:=yu (seqObj "list" #[] 0) (yu (seqObj "tuple" vs.toArray 0) h2);exact⟨_,get?_update_seq h3 (fun _=>out)⟩
def wu (h:Heap) (vs:List Value) (out:Array Value) (b:Addr) (o:Obj) (e:h.get? b=some o):(sortedAll h vs out).get? b=some o:=by
 have hb:b<h.objs.size:=yx e;unfold sortedAll sortedHeap;have n1:h.objs.size≠b:=yh hb;have n2:h.objs.size+1≠b:=yh (Nat.lt_succ_of_lt hb);rw[yy _ _ n2];refine yu _ (yu _ ?_);rw[yy _ _ n2];refine yu _ ?_;rw[yy _ _ n1];exact yu _ e
end
theorem rM:∀{us:List Value} {ns:List Int},IntsAre us ns->Vals (ns.map V.int) us
 | _,_,.nil=>.nil
 | _,_,.cons r t h=>.cons ⟨_,rfl⟩ (rM h)
section
variable {X:Cx}
def tS:fT X (.builtin "sorted") (fun xs H Q=>∃(a:Addr) (ns:List Int),xs=[.ref a]/\(aH X.K H a (ns.map V.int)\/dA X.K H a (ns.map V.int))/\ns.length<64/\∀ns':List Int,ns'.Perm ns->ns'.Pairwise (·<=·)->∀l,H l=none->Q (.ref l) (upd H l (.lst (ns'.map V.int)))):=by
 intro pins s σ H xs us Q I r h;obtain⟨a,ns,rfl,hq,h64,q⟩:=h;obtain⟨u,rfl,rx⟩:=vals1 r;cases rx;have fin:∀(its:List Value),ns.length=its.length->∀(out:Array Value) (ns':List Int),IntsAre out.toList ns'->ns'.Perm ns->ns'.Pairwise (·<=·)->EP X pins σ Q (.ref (↑s+1)) {s with heap:=sortedAll s.heap its out}:=fun its hl out ns' a1 a2 a3=>by
  obtain⟨n,hn⟩:=BG s.heap its out;refine⟨.ref _,_,I.laid (t':=s.toks) (a:=↑s+1) (o:=.lst (ns'.map V.int)) (wu s.heap its out) (Nat.le_succ _) ?_,rfl,q ns' a2 a3 _ (I.cb.fresh (Nat.le_succ _))⟩;refine⟨by rw[za,a2.length_eq,yB];omega,out.toList,n,rM a1,by simpa using hn⟩
 rcases hq with hq | hq
 ·obtain⟨its,rv,p,_⟩:=I.list hq
  have hl:ns.length=its.length:=by have:=rv.length;rw[za] at this;exact this
  exact sorted_ints p.isList (intsAre_of rv) nofun (fin its hl)
 ·obtain⟨its,rv,p,_⟩:=I.tuple hq
  have hl:ns.length=its.length:=by have:=rv.length;rw[za] at this;exact this
  exact Io p (intsAre_of rv) nofun (fin its hl)
theorem JT:∀{zs:List Str} {us:List Value},Vals (zs.map V.str) us->∃l:List (Str×Tok),us=strValues l/\l.map (·.1)=zs
 | [],_,.nil=>⟨[],rfl,rfl⟩
 | z::zs,_,.cons ⟨t,e⟩ r=>by
  obtain⟨l,e1,e2⟩:=JT r;subst e e1 e2;exact⟨(z,t)::l,rfl,rfl⟩
def rJoin (K:yA):V->List V->Hp->VK->Prop:=fun x vs H Q=>∃(sep:Str) (a:Addr) (zs:List Str),x=.str sep/\vs=[.ref a]/\aH K H a (zs.map V.str)/\(zs.map (fun z:Str=>z.length+sep.length)).sum<=sizeLine/\Q (.str (Str.join sep zs)) H
theorem GS (sep:Str):∀(zs:List Str) (k:Nat),zs.foldl (fun n z=>n+z.length+sep.length) k=k+(zs.map (fun z:Str=>z.length+sep.length)).sum
 | [],k=>by simp
 | z::zs,k=>by
  rw[List.foldl_cons,GS sep zs,zh,List.sum_cons];omega
theorem JR (sep:Str):∀zs:List Str,(zs.map (·.length)).sum+zs.length*sep.length=(zs.map (fun z:Str=>z.length+sep.length)).sum
 | []=>by simp
 | z::zs=>by
  have ih:=JR sep zs;simp only[zh,List.sum_cons,zt,Nat.succ_mul] at ih ⊢;omega
def gQ:P9 X "str.join" (rJoin X.K):=by
 intro pins s σ H x vs v us Q I rx rv h;obtain⟨sep,a,zs,rfl,rfl,hq,hz,q⟩:=h;obtain⟨tk,rfl⟩:=rx;obtain⟨u,rfl,ru⟩:=rv.one;cases ru;obtain⟨its,ri,p,_⟩:=I.list hq;obtain⟨l,e1,e2⟩:=JT ri;subst e1;have hl:Builtin.Str.tooLong ((l.map (·.1)).toArray.foldl (·+·.length+sep.length) 0)=false:=by
  rw[e2,List.foldl_toArray,GS,Nat.zero_add];exact zd nofun
 have hj:Builtin.Str.glued sep (l.map (·.1))=Str.join sep zs:=by rw[e2];exact StrLaws.glued_eq_join sep zs
 have jl:(Str.join sep zs).length<=sizeLine:=by
  exact zL (StrLaws.join_length_le sep zs) (zL (Nat.le_of_eq (JR sep zs)) hz)
 refine call_meets F.slot_str_join (typeIs_str s sep tk) F.entry_str_join (F.args_str_join_2 _ _) (meets_str_join_list sep tk a l hl) ⟨p.isList,?_⟩
 match l,e2,hj with
 | [],e2,hj=>
  subst e2;exact⟨by rw[hj];exact jl,.str _,H,I.tok _,⟨_,rfl⟩,by rw[hj];exact q⟩
 | [z],e2,hj=>
  subst e2;exact⟨.str _,H,I,⟨_,rfl⟩,q⟩
 | z::z'::r,e2,hj=>
  subst e2;exact⟨by rw[hj];exact jl,.str _,H,I.tok _,⟨_,rfl⟩,by rw[hj];exact q⟩
def qO (x:Str) (n:Nat):Str:=⟨(List.replicate n x.cps).foldl (·++·) #[]⟩
def PU:R2:=fun x y H Q=>∃(t:Str) (n:Int),x=.str t/\y=.int n/\0<=n/\n<=1000/\t.length<=1000/\Q (.str (qO t n.toNat)) H
def sJ (x:Str) (n:Nat):(qO x n).cps.toList=(List.replicate n x.cps.toList).flatten:=by
 have key:∀(n:Nat) (a:Array Nat),((List.replicate n x.cps).foldl (·++·) a).toList=a.toList++(List.replicate n x.cps.toList).flatten:=by
  intro n
  induction n with
  | zero=>intro a;simp
  | succ n ih=>intro a;rw[List.replicate_succ,List.foldl_cons,ih,List.replicate_succ,z9];simp
 have:=key n #[];show((List.replicate n x.cps).foldl (·++·) #[]).toList=_;rw[this];rfl
def Ga (x:Str) (n:Nat):(qO x n).length=n*x.length:=by
 have e:(qO x n).length=(qO x n).cps.toList.length:=Array.length_toList.symm;rw[e,sJ];have e2:x.cps.toList.length=x.length:=Array.length_toList;simp[e2]
def MM (x:Str):qO x 1=x:=lI (by rw[sJ];simp)
def OX:pE X (binaryOp .Mult) PU:=by
 intro pins s σ H x y v u Q I rx ry h;obtain⟨t,n,rfl,rfl,h0,h1,hl,q⟩:=h;obtain⟨tk,rfl⟩:=rx;obtain⟨tk',rfl⟩:=ry;have sl:=yB;have hm:t.length*n.toNat<=1000000:=by
  have:t.length*n.toNat<=1000*1000:=Nat.mul_le_mul hl nofun;omega
 refine P.mul_str (by rw[zd nofun,zd nofun];rfl) (fun h2 _=>?_) (fun _ _=>zd nofun) ?_
 ·have:(2^63-1)/1000<=((2:Int)^63-1)/n:=by
   rw[Int.le_ediv_iff_mul_le nofun];have:n*9223372036854775<=1000*9223372036854775:=Int.mul_le_mul_of_nonneg_right h1 ∅;omega
  omega
 ·by_cases c1:n<1
  ·have e:n.toNat=0:=nofun
   rw[if_pos c1];rw[e] at q;exact⟨∅,.str _,H,I.tok _,⟨_,rfl⟩,q⟩
  ·rw[if_neg c1]
   refine post_val_or_str ⟨?_,fun t' k=>⟨.str _,H,I.tok _,⟨_,rfl⟩,?_⟩⟩
   ·split
    ·omega
    ·have:=Ga t n.toNat
     have e:n.toNat*t.length=t.length*n.toNat:=Nat.mul_comm _ _;show(qO t n.toNat).length<=sizeLine;omega
   ·have ee:(if(n == 1||t.length == 0)=true then t else qO t n.toNat)=qO t n.toNat:=by
     split
     ·rename_i c2
      rw[Bool.or_eq_true,beq_iff_eq,beq_iff_eq] at c2;rcases c2 with rfl | c2
      ·exact(MM t).symm
      ·refine lI ?_
       have e2:t.cps.toList=[]:=yr.mp (by rw[Array.length_toList];exact c2);rw[sJ,e2];simp
     ·rfl
    show Q (.str (if(n == 1||t.length == 0)=true then t else qO t n.toNat)) H;rw[ee];exact q
end
def KD (P:Program) (w:World) (K:yA) (a:Addr) (kvs:List (Str×V)):Prop:=
 (a == sysModules)=false/\(kvs.map (·.1)).Nodup/\∀h:Heap,K.In h->∃vs:List (Key×Value),KV (kvs.map fun p=>((Sum.inr p.1:Key),p.2)) vs/\h.DictOf (dh P w) a vs
def G1 (Pm:Params) (l:List (Str×Tok×Addr)):List DictEntry:=l.map fun p=>⟨PyData.keyHash Pm p.1,.str p.1 p.2.1,.ref p.2.2⟩
theorem Ng:∀{l:List Str},l.Nodup->(l.map (Sum.inr:Str->Key)).Nodup
 | [],_=>List.nodup_nil
 | x::r,h=>by
  rw[yc] at h;rw[zh,yc];exact⟨fun z=>by obtain⟨y,hy,e⟩:=zG.mp z;exact h.1 (Sum.inr.inj e▸hy),Ng h.2⟩
def Sl {P:Program} {w:World} {K:yA} {a:Addr} {l:List (Str×Tok×Addr)} {n:Nat} (hl:K.lookup a=some {cls:=.type "dict",data:=.dict (G1 w.params l).toArray n}) (hs:(a == sysModules)=false) (nd:(l.map (·.1)).Nodup) :
  KD P w K a (l.map fun p=>(p.1,V.ref p.2.2)):=by
 have e1:(l.map fun p=>(p.1,V.ref p.2.2)).map (·.1)=l.map (·.1):=by rw[zA];rfl
 refine⟨hs,by rw[e1];exact nd,fun h X=>⟨l.map fun p=>(Sum.inr p.1,.ref p.2.2),?_,_,_,_,X _ _ hl,⟨rfl,rfl,rfl⟩,rfl,?_,?_,?_⟩⟩
 ·clear hl nd e1
  induction l with
  | nil=>exact .nil
  | cons p r ih=>exact .cons ⟨rfl,rfl⟩ ih
 ·intro e he
  rw[List.mem_toArray] at he;obtain⟨p,_,rfl⟩:=zG.mp he;exact⟨Sum.inr p.1,pw p.1 p.2.1,rfl⟩
 ·show PySem.Pairs _ (G1 w.params l) _
  clear hl nd e1
  induction l with
  | nil=>exact .nil
  | cons p r ih=>exact .cons (pw p.1 p.2.1) rfl ih
 ·have e2:(l.map fun p=>((Sum.inr p.1:Key),(Value.ref p.2.2))).map (·.1)=(l.map (·.1)).map Sum.inr:=by rw[zA,zA];rfl
  rw[e2];exact Ng nd
def ud (kvs:List (Str×V)) (k:Str):Option V:=(kvs.find? fun p=>decide (p.1=k)).map (·.2)
theorem IU:∀{kvs:List (Str×V)} {vs:List (Key×Value)} (k:Str),KV (kvs.map fun p=>((Sum.inr p.1:Key),p.2)) vs->mE (ud kvs k) (valueAt vs (Sum.inr k))
 | [],_,_,.nil=>trivial
 | (x,v)::r,_,k,.cons (b:=b) h t=>by
  obtain⟨h1,h2⟩:=h;obtain⟨bk,bv⟩:=b;dsimp only at h1 h2;subst h1
  by_cases e:x=k
  ·subst e
   simp only[ud,valueAt,List.find?_cons,decide_true];exact h2
  ·have ih:=IU k t
   have e':¬((Sum.inr x:Key)=Sum.inr k):=fun z=>e (Sum.inr.inj z);simp only[ud,valueAt,List.find?_cons,e,e',decide_false] at ih ⊢;exact ih
def Qx (P:Program) (w:World) (K:yA) (td ty:TE):TE:=fun σ H Q=>td σ H fun x H1=>ty σ H1 fun y H2=>∃a kvs k v,x=.ref a/\KD P w K a kvs/\y=.str k/\ud kvs k=some v/\Q v H2
def RZ (P:Program) (w:World) (K:yA) (b:Bool) (ty td:TE):TE:=fun σ H Q=>ty σ H fun y H1=>td σ H1 fun x H2=>∃a kvs k,x=.ref a/\KD P w K a kvs/\y=.str k/\Q (.bl (b ^^ (ud kvs k).isSome)) H2
section
variable {X:Cx} {pos:Pos} {o i:Expr} {td ty:TE}
theorem mE.IV:∀{a:Option V} {b:Option Value},mE a b->a.isSome=b.isSome
 | some _,some _,_=>rfl
 | none,none,_=>rfl
 | some _,none,h=>h.elim
 | none,some _,h=>h.elim
def Gk (ho:PE X o td) (hi:PE X i ty) (hs:Ry i):PE X (.Subscript o i pos) (Qx X.prog X.w X.K td ty):=by
 intro pins s σ H Q I h;refine JS PySem.F.slot_dict_getitem.lookup hs (cU (ho pins s σ H _ I h) fun u s1 ⟨x,H1,I1,rx,q1⟩=>cU (hi pins s1 σ H1 _ I1 q1) fun iv s2 zz=>?_);obtain⟨y,H2,I2,ry,a,kvs,k,v,ex,kd,ey,hv,q2⟩:=zz;subst ex ey;obtain rfl:u=Value.ref a:=rx;obtain⟨tk,rfl⟩:=ry;obtain⟨hd,_,hk⟩:=kd;obtain⟨vs,rel,dd⟩:=hk _ I2.tE;have rv:=IU k rel;rw[hv] at rv;cases hw:valueAt vs (Sum.inr k) with
 | none=>rw[hw] at rv;exact rv.elim
 | some w'=>
  rw[hw] at rv;exact⟨dd.typeIs,wpAny_getItem_of (pw k tk) dd.mapOf hw ⟨v,H2,I2.tok _,rv,q2⟩⟩
def OU (hi:PE X i ty) (ho:PE X o td):PC X .In i o (RZ X.prog X.w X.K false ty td):=by
 intro pins s σ H Q I h;refine cU (hi pins s σ H _ I h) fun iv s1 ⟨y,H1,I1,ry,q1⟩=>cU (ho pins s1 σ H1 _ I1 q1) fun u s2 zz=>?_;obtain⟨x,H2,I2,rx,a,kvs,k,ex,kd,ey,q2⟩:=zz;subst ex ey;obtain rfl:u=Value.ref a:=rx;obtain⟨tk,rfl⟩:=ry;obtain⟨hd,_,hk⟩:=kd;obtain⟨vs,rel,dd⟩:=hk _ I2.tE;refine wpAny_in_of (vO _ _ k tk) hd dd.mapOf ?_;have e:=mE.IV (IU k rel);exact⟨.bl _,H2,I2.tok _,rfl,by rw[e,Bool.false_xor] at q2;exact q2⟩
end
structure RA (X:Cx) (CX:JI) (k:Nat) (f:Addr) (sp:Sp):Prop where
 ok:∃fd ps,dP X.prog X.w X.K X.mg X.base CX k f fd ps sp/\PySem.W.keepIn X.K (.ref f)=true/\Binds X.K fd ps []
def Qz (Tb:Addr->Sp->Prop) (E:XK) (i:Nat) (t:TA):TE:=fun σ H Q=>∃f sp,σ[i]?=some (some (.ref f))/\Tb f sp/\t σ H fun vs H1=>sp vs H1 Q E
section
variable {X:Cx} {CX:JI} {k:Nat} {x:Str} {i:Nat} {p pos:Pos} {e:Expr} {es:List Expr} {t:TA} {E:XK}
def Gn (Tb:Addr->Sp->Prop) (hT:∀f sp,Tb f sp->RA X CX k f sp) (hr:fV k X.A) (hv:PE X (.Name x p) (aV i)) (hx:Passes CX X E)
  (ha:PA X (e::es) t) (he:starEach (e::es) X.env=(false,eval e X.env)::starEach es X.env<|>qe_) (hpl:(backTo pos (starEach es X.env)).any (·.1)=false<|>qe_) :
  PE X (.Call (.Name x p) (e::es) [] pos) (Qz Tb E i t):=by
 intro pins s σ H Q I h;obtain⟨f,sp,hf,hTb,h⟩:=h;obtain⟨fd,ps,F,hk,hb⟩:=(hT f sp hTb).ok;refine wpAny_Call_Name_kw (cU (hv pins s σ H (fun v H1=>v=.ref f/\H1=H) I ⟨_,hf,rfl,rfl⟩) fun u s1 zz=>?_);obtain⟨v,H1,I1,rv,ev,eH⟩:=zz;subst ev eH;obtain rfl:u=Value.ref f:=rv;refine PySem.W.callWith_K (h₀:=X.base) I1.ok.mod.Q4 hk (cU (ha pos pins s1 σ _ _ I1 h) fun us s2 ⟨vs,H2,I2,r,q⟩=>⟨I2.tE,?_⟩) he hpl;exact MH F hr hb .nil hx I2 r (by rw[zU];exact q)
end
def RU (sp:Sp) (t:TA) (C:Addr) (th:TS):TS:=fun D σ H=>t σ H fun vs H1=>sp vs H1 (fun v H2=>D.rt v H2) fun cls _ H2=>cls=.ref C/\th D σ H2
section
variable {X:Cx} {k:Nat} {f:Addr} {fd:FuncData} {ps:List Str} {sp:Sp} {fx cn:Str} {p pos cpos pa np hpos:Pos} {e₀:Expr} {es:List Expr} {t:TA} {C:Addr} {bm:List Value} {newId:String} {b₀:Stmt} {suite:List Stmt} {th:TS}
def OM (F:dP X.prog X.w X.K X.mg X.base (HS X.prog X.w) k f fd ps sp) (hr:fV k X.A) (hg:Gl X fx) (hm:X.mg fx=some (.ref f)) (hk:PySem.W.keepIn X.K (.ref f)=true) (hb:Binds X.K fd ps []) (ha:PA X.IG (e₀::es) t)
  (hc:X.calm=true) (hgc:Gl X cn) (hC0:PySem.W.nsIn X.K mainGlobals cn=some (some (.ref C))) (hQ0:PySem.W.excIn X.K C bm newId=true) (hbase:bm.contains (.type "BaseException")=true) (hstk:X.stack=X.env::X.outer) (hfrm:X.env.frame=some X.env.locals)
  (hsu:∀e,Dv (X.held e).IG (b₀::suite) th)
  (hdb:(fx == ("__debug__": Str))=false<|>qb_) (hdc:(cn == ("__debug__": Str))=false<|>qb_) (he:starEach (e₀::es) X.env=(false,eval e₀ X.env)::starEach es X.env<|>qe_) (hpl:(backTo cpos (starEach es X.env)).any (·.1)=false<|>qe_) :
  PS X (.Try [.Return (some (.Call (.Name fx p) (e₀::es) [] cpos)) pa] [.ExceptHandler (some (.Name cn np)) none (b₀::suite) hpos] [] [] pos) (RU sp t C th):=by
 intro pins s σ H D I h;have O:OwnCls cn C bm newId X.mg X.base:=qV X.prog I.ok.mod hC0 hQ0;refine wpAny_Try_except (wpAny_execs_cons ?_);refine wpAny_Return_some ?_;refine wpAny_Call_Name_kw (kb I hg hm ?_ hdb);have hA:wpAny (model X.prog X.w) X.A (spliced (backTo cpos (starEach (e₀::es) X.env))) (AP X.IG pins σ _) (fun _ _=>False) s:=ha cpos pins s σ H _ (I.rL _) h;refine PySem.W.callWith_K (h₀:=X.base) I.ok.mod.Q4 hk (wpAny_mono hA (fun us s1 ⟨vs,H1,I1',r,q⟩=>⟨I1'.tE,?_⟩) fun _ _ z=>z.elim) he hpl;have I1:Inv X pins σ H1 s1:=I1'.hZ;have hl:us.length=ps.length:=by rw[<-r.length];exact F.len _ _ _ _ q
 refine wpAny_call (codeAny_mono (F.run X.A X.stack s1 H1 ⟨us,[]⟩ us vs _ _ hr I1.Pd (by have:=hb s1 us I1.tE (by rw[zU];exact hl);rw[zU] at this;exact this) r q) fun rr s' hq=>?_);cases rr with
 | ok fl=>
  cases fl with
  | ret u=>
   obtain⟨v,H2,I2,r2,q2⟩:=I1.after hq;exact⟨v,σ,H2,I2,r2,q2⟩
  | next=>exact False.elim hq
  | brk=>exact False.elim hq
  | cont=>exact False.elim hq
 | error ev=>
  obtain⟨a,cls,a0,B,H',rfl,os,bare,fl,fly,⟨rfl,q2⟩⟩:=hq;have GR:∀b∈qy X.stack,H1 b=none:=I1.rO;have nf:∀{hh:Heap},Heap.FunFrames hh B X.stack->∀b∈qy X.stack,∃o,hh.get? b=some o/\∀vs,o.data≠.fields vs:=fun hF b hb=>(hF.mem hb).2;have back:∀(hh:Heap),L3 X.prog X.w (qy X.stack) H1 H' s1.heap B hh->Inv X pins σ H' {s' with heap:=hh}:=fun hh fy=>
   I1.NV (s':={s' with heap:=hh}) (ch:=[]) os (fy.un GR) (fy.cb.kept fy.lJ) bare fun b z=>absurd z (by simp)
  have hfr:X.A.frames=some (X.env::X.outer):=by rw[<-hstk];exact I1.ok.frames
  refine wpAny_looks_onW hfr hfrm (by rw[<-hstk];exact fl) fun h4 held4 up4=>?_;refine wpAny_landsW held4 fun h5 fl5 up5=>?_;have fl5':Heap.FlyingW B X.stack a (.ref C) a0 h5:=by rw[hstk];exact fl5
  have fy5:L3 X.prog X.w (qy X.stack) H1 H' s1.heap B h5:=fly.on (up4.trans up5) fl5.1 (nf fl.2.2.1);have I5:=back h5 fy5;obtain⟨ob,hob,hobc⟩:=fl5'.there;obtain⟨tl,Nn,nm,qn,bs,hdct,sn,sub,ab,col,dd,k0,k1,k2,k3,k5,mN,hC,hN',hni,T⟩:=O.obj;refine wpAny_handleBy_cons (codeAny_handlers_test (kb (X:=X.held (.ref a)) (I5.held _) hgc O.bound ?_ hdc)) (by intro q;cases q);refine wpAny_excMatches_sub_self (I5.bk _ _ hC) hob hobc (T.hasType hbase) (codeAny_handlers_suite ?_);refine lands_againW fl5' fun h6 fl6 up6=>?_;have fy6:L3 X.prog X.w (qy X.stack) H1 H' s1.heap B h6:=fy5.on up6 fl6.1 (nf fl5'.2.2.1);have I6:=back h6 fy6;refine wpAny_mono (hsu (.ref a) pins _ σ H' D ((I6.held _).rL _) q2) (fun fl s7 z=>?_) fun _ _ z=>z.elim;exact SP.lG I.ok.hd (SP.hZ z)
end
section
variable {prog:Program} {w:World} {A:Around} {E:Value->Shared->Prop} {s:Shared}
def MQ (hd:(d == sysModules)=false) (ho:s.heap.get? d=some o) (hx:o.ExactDict) (hdat:o.data=.dict es ep)
  (hQ:Q (.ref ↑s) {s with heap:=s.heap.push {cls:=.type "dict_keyiterator",data:=.fields #[.ref d,.int 0 0,.int es.size 0,.int ep 0]}}) :
  wpAny (model prog w) A (pyIter (.ref d)) Q E s:=by
 have hT:s.TypeIs (.ref d) "dict":=⟨o,ho,hx.1⟩
 refine wpAny_pyIter_slot hT F.slot_dict_iter (wpAny_call_entry F.slot_dict_iter hT F.entry_dict_iter ?_ (F.args_dict_iter_1 _));unfold Builtin.«dict.__iter__»;refine yt ?_;unfold Builtin.Dict.dictSlotNone;refine yt (wpAny_notOrdered_dict hT ?_);show wpAny _ _ (pure (Value.ref d)) _ _ s;refine yv ?_;show wpAny _ _ (Builtin.Dict.showsAll d >>= _) _ _ s;unfold Builtin.Dict.showsAll;rw[if_neg (by rw[hd];exact zK)];refine yt (yv ?_);refine yt (wpAny_dictEntries ho hdat ?_);refine yt (wpAny_dictEpoch ho hdat ?_);refine yt (wpAny_newObj_type (yv ⟨_,rfl,"dict_keyiterator",_,⟨_,yw _ rfl,rfl⟩,F.slot_dict_keyiterator_next.lookup,?_⟩))
 simpa[rawInt] using hQ
def MR (hit:s.heap.IsKeyIter it d i es.size ep)
  (hod:s.heap.get? d=some od) (hdd:od.data=.dict es ep) (hx:es[i]?=some e)
  (hQ:∀h',h'.IsKeyIter it d (i+1) es.size ep->Heap.SameBut it s.heap h'->Q (some e.key) {s with heap:=h'}) :
  wpAny (model prog w) A (pyNext (.ref it)) Q E s:=by
 obtain⟨o,ho,hc,hd⟩:=id hit;unfold pyNext;refine yt (wpAny_attempt (wpAny_callSpecial?_slot (name:=Str.ofString "__next__") hit.typeIs F.slot_dict_keyiterator_next
  (wpAny_call_entry F.slot_dict_keyiterator_next hit.typeIs F.entry_dict_keyiterator_next ?_ (F.args_dict_keyiterator_next_1 _))))
 refine yt (yv ?_);refine yt ?_;refine yt ?_
 first | refine yt (wpAny_typeNameOfWhole_keyiter hit.typeIs (yv ?_)) | refine yt (wpAny_typeNameOf_keyiter hit.typeIs (yv ?_))
 refine yt (wpAny_fieldsOf ho hd ?_);have hown:Builtin.Dict_items.ownsTuple "dict_keyiterator"= false:=by decide
 simp only[hown,Bool.false_eq_true,if_false];show wpAny _ _ (if(Value.ref d == Value.none)=true then _ else _) _ _ s;rw[if_neg (show¬((Value.ref d == Value.none)=true) from zK)];refine yt (yv ?_);refine yt (wpAny_dictEntries hod hdd ?_);rw[if_neg (by simp)];refine yt (yv ?_);refine yt (wpAny_dictEpoch hod hdd ?_);rw[if_neg (by simp)];refine yv ?_;simp only[show¬((i:Int)<0) from by omega,if_false,Int.toNat_natCast,hx];refine yt ?_
 first | refine yt (wpAny_typeNameOfWhole_keyiter hit.typeIs (yv ?_)) | refine yt (wpAny_typeNameOf_keyiter hit.typeIs (yv ?_))
 refine yt (wpAny_isOneOf_keyiter hit.typeIs ?_);show wpAny _ _ (setField (.ref it) 1 (rawInt ((i:Int)+1)) >>= _) _ _ s;refine yt (wpAny_setField ho hd (by simp) ?_);have hit':(s.heap.update it (Obj.mapFields (·.setIfInBounds 1 (rawInt ((i:Int)+1))))).IsKeyIter it d (i+1) es.size ep:=
  ⟨_,yz _ ho (Obj.isFreed_of_fields (Obj.data_mapFields hd _)),(Obj.cls_mapFields ..).trans hc,by rw[Obj.data_mapFields hd];simp[rawInt]⟩
 refine yt (wpAny_holding ?_);refine yt (wpAny_isOneOf_keyiter (s:={s with heap:=s.heap.update it (Obj.mapFields (·.setIfInBounds 1 (rawInt ((i:Int)+1))))}) hit'.typeIs ?_);show wpAny _ _ (pure e.key) _ _ _;exact yv (yv ⟨_,rfl,yv (hQ _ hit' (Heap.SameBut.update ..))⟩)
def OH (hh:A.handled=none) (hit:s.heap.IsKeyIter it d i es.size ep)
  (hod:s.heap.get? d=some od) (hdd:od.data=.dict es ep) (hx:es.size<=i)
  (hQ:∀h',Heap.ExtBut it s.heap h'->Q none {s with heap:=h'}):wpAny (model prog w) A (pyNext (.ref it)) Q E s:=by
 obtain⟨o,ho,hc,hd⟩:=id hit;unfold pyNext;refine yt (wpAny_attempt (wpAny_callSpecial?_slot (name:=Str.ofString "__next__") hit.typeIs F.slot_dict_keyiterator_next
  (wpAny_call_entry F.slot_dict_keyiterator_next hit.typeIs F.entry_dict_keyiterator_next ?_ (F.args_dict_keyiterator_next_1 _))))
 refine yt (yv ?_);refine yt ?_;refine yt ?_
 first | refine yt (wpAny_typeNameOfWhole_keyiter hit.typeIs (yv ?_)) | refine yt (wpAny_typeNameOf_keyiter hit.typeIs (yv ?_))
 refine yt (wpAny_fieldsOf ho hd ?_);have hown:Builtin.Dict_items.ownsTuple "dict_keyiterator"= false:=by decide
 simp only[hown,Bool.false_eq_true,if_false];show wpAny _ _ (if(Value.ref d == Value.none)=true then _ else _) _ _ s;rw[if_neg (show¬((Value.ref d == Value.none)=true) from zK)];refine yt (yv ?_);refine yt (wpAny_dictEntries hod hdd ?_);rw[if_neg (by simp)];refine yt (yv ?_);refine yt (wpAny_dictEpoch hod hdd ?_);rw[if_neg (by simp)];refine yv ?_;simp only[show¬((i:Int)<0) from by omega,if_false,Int.toNat_natCast,Array.getElem?_eq_none hx];refine yt ?_
 first | refine yt (wpAny_typeNameOfWhole_keyiter hit.typeIs (yv ?_)) | refine yt (wpAny_typeNameOf_keyiter hit.typeIs (yv ?_))
 show wpAny _ _ (setField (.ref it) 0 .none >>= _) _ _ s;refine yt (wpAny_setField ho hd (by simp) ?_);show wpAny _ _ (newExc (.type "StopIteration") [] >>= _) _ _ _;refine yt ?_;simp only[newExc,newTuple];refine yt (wpAny_newObj_type ?_ (by size_fits));refine yt (m:=firstArgMember _ _) (wpAny_of_eq (a:=Value.none) (by first | rfl | (simp only[firstArgMember];rfl)) ?_);refine wpAny_newObj_type ?_ (by size_fits);simp only[raiseNew];refine yt (wpAny_handled ?_);rw[show A.in1.handled=none from hh];refine yt (yv (wpAny_throw ?_));refine yt (wpAny_isInstance (T:="StopIteration") (b:=true) ⟨_,yw _ rfl,rfl⟩ isSubtype_stop ?_);exact yv (hQ _ (((Heap.SameBut.update ..).extBut.push _).push _))
end
def Oa (H:Hp) (d:Addr) (o:Obj) (n:Nat) (kat:Hp->Nat->V->Prop):Prop:=∃u,H d=some (.nK o u)/\((∃kvs:List (Key×V),u=.dK kvs/\n=kvs.length/\kat=fun _ i x=>∃p,kvs[i]?=some p/\x=kV p.1)\/
 ∃kvs:List (List Key×V),u=.dT kvs/\n=kvs.length/\kat=fun H i x=>∃p b,kvs[i]?=some p/\H b=some (.tup (p.1.map kV))/\x=.ref b)
theorem CS {K:Type} [DecidableEq K] {prog:Program} {w:World} {knd:KeyKind prog w K}:∀{es:List DictEntry} {kvs:List (K×Value)} {i:Nat} {e:DictEntry},PySem.Pairs knd es kvs->es[i]?=some e->∃kv,kvs[i]?=some kv/\knd.is kv.1 e.key=true/\e.val=kv.2
 | _,_,_,_,.nil,h=>by simp at h
 | _,_,0,_,.cons a b _,h=>by simp at h;subst h;exact⟨_,rfl,a,b⟩
 | _,_,i+1,_,.cons _ _ t,h=>by
  obtain⟨kv,h1,h2⟩:=CS (i:=i) t (by simpa using h);exact⟨kv,by simpa using h1,h2⟩
theorem lY:∀{l:List α} {m:List β} {i:Nat} {b:β},Paired F l m->m[i]?=some b->∃a,l[i]?=some a/\F a b
 | _,_,_,_,.nil,h=>by simp at h
 | _,_,0,_,.cons r _,h=>by simp at h;subst h;exact⟨_,rfl,r⟩
 | _,_,i+1,_,.cons _ t,h=>by
  obtain⟨a,h1,h2⟩:=lY (i:=i) t (by simpa using h);exact⟨a,by simpa using h1,h2⟩
section
variable {X:Cx} {pins:List (Addr×Obj)} {σ:St} {H:Hp} {s:Shared} {d:Addr} {o:Obj} {n:Nat} {kat:Hp->Nat->V->Prop}
def Oa.raw (f:Oa H d o n kat) (I:Inv X pins σ H s):(d == sysModules)=false/\∃es ep,s.heap.get? d=some o/\o.ExactDict/\o.data=.dict es ep/\es.size=n/\∀i e,es[i]?=some e->∃x,RelV x e.key/\kat H i x:=by
 obtain⟨u,hH,hu⟩:=f;obtain⟨ho,ok⟩:=(show cC X.prog X.w H s.heap d (.nK o u) from I.cb d _ hH)
 rcases hu with⟨kvs,rfl,rfl,rfl⟩ | ⟨kvs,rfl,rfl,rfl⟩
 ·obtain⟨_,hd,vs,rel,o',es,ep,ho',hx,hdat,_,hp,_⟩:=ok
  have hl:es.size=kvs.length:=by
   have h1:=hp.length;have h2:kvs.length=vs.length:=Paired.length rel;have h3:es.toList.length=es.size:=Array.length_toList;omega
  rw[ho] at ho';cases ho';refine⟨hd,es,ep,ho,hx,hdat,hl,fun i e he=>?_⟩;obtain⟨kv,h1,h2,_⟩:=CS hp (i:=i) (e:=e) (by rw[Array.getElem?_toList];exact he);obtain⟨p,h3,h4,_⟩:=lY rel h1;refine⟨kV p.1,?_,p,h3,rfl⟩;rw[<-h4] at h2;rcases dk h2 with⟨j,t,e1,e2⟩ | ⟨y,t,e1,e2⟩
  ·rw[e1,e2];exact⟨t,rfl⟩
  ·rw[e1,e2];exact⟨t,rfl⟩
 ·obtain⟨_,hd,xs,rel,o',es,ep,ho',hx,hdat,he,_⟩:=ok
  have h3:es.toList.length=es.size:=Array.length_toList;have hl:es.size=kvs.length:=by
   have h2:kvs.length=xs.length:=Paired.length rel;rw[he,za] at h3;omega
  rw[ho] at ho';cases ho';refine⟨hd,es,ep,ho,hx,hdat,hl,fun i e hi=>?_⟩;rw[<-Array.getElem?_toList,he,zJ] at hi;cases q:xs[i]? with
  | none=>rw[q] at hi;cases hi
  | some y=>
   rw[q] at hi;cases hi;obtain⟨p,h4,h5,h6,_⟩:=lY rel q;exact⟨.ref y.2.1,rfl,p,y.2.1,h4,h6,rfl⟩
end
def UH (d:Addr) (o:Obj) (n:Nat) (kat:Hp->Nat->V->Prop):It:=⟨fun i H=>Oa H d o n kat/\i<n,fun i H x H'=>H'=H/\kat H i x,fun i H=>Oa H d o n kat/\n<=i⟩
def Ky {P:Program} {w:World} {K:yA} {tg:Expr} (d it:Addr) (n:Nat) (kat:Hp->Nat->V->Prop) (o:Obj) (es:Array DictEntry) (ep:Nat) (hdat:o.data=.dict es ep) (hn:es.size=n) :
  Turn P w K tg (UH d o n kat) [it] it (fun i h=>h.IsKeyIter it d i n ep) where
 mem:=by simp
 obj:=fun i h st b hb=>by
  have e:b=it:=by simpa using hb
  subst e;obtain⟨o,e,c,d⟩:=st;exact⟨o,e,fun v z=>by rw[d] at z;cases z⟩
 keep:=fun i h h' st k=>st.at fun o e=>k it (by simp) o e
 item:=by
  intro X hP hw hK hc i pins s σ H E I hf st hg;subst hP hw hK hn;obtain⟨fz,hlt⟩:=hg;obtain⟨hd,es',ep',ho,hx,hdat',hsz,hk⟩:=fz.raw I;rw[hdat] at hdat';cases hdat';obtain⟨f0,f1,f2,f3,f4,f5⟩:=hf it (by simp);have he:es[i]?=some es[i]:=Array.getElem?_eq_getElem hlt;obtain⟨x,rx,kx⟩:=hk i _ he;refine MR st ho hdat he fun h' st' sb=>?_;have I1:Inv X pins σ H {s with heap:=h'}:=I.turned (t':=s.toks) (fun b o hb e=>(sb.2 b hb).trans e) f0 f1 f3 f4 f5;obtain⟨oi,e,c,dd⟩:=id st';exact⟨_,rfl,AD (s:={s with heap:=h'}) e c dd ∅ ⟨x,H,I1,rx,⟨rfl,kx⟩,st',fun b hb=>(hf b hb).1⟩⟩
 done:=by
  intro X hP hw hK hc i pins s σ H E I hf st hg;subst hP hw hK hn;obtain⟨fz,hge⟩:=hg;obtain⟨hd,es',ep',ho,hx,hdat',hsz,hk⟩:=fz.raw I;rw[hdat] at hdat';cases hdat';obtain⟨f0,f1,f2,f3,f4,f5⟩:=hf it (by simp);exact OH (I.ok.hd hc) st ho hdat hge fun h' eb=>⟨rfl,I.turned (t':=s.toks) (fun b o hb e=>eb b o hb e) f0 f1 f3 f4 f5⟩
 self:=fun _ _ _ _ _ st h=>wpAny_pyIter_keyiter st h
def Sv (td:TE):TI:=fun σ H R=>td σ H fun x H1=>∃d o n kat,x=.ref d/\Oa H1 d o n kat/\R (UH d o n kat) H1
section
variable {X:Cx} {tg l:Expr} {tl:TE}
def OP (hl:PE X l tl):PI X tg l (Sv tl):=by
 intro pins s σ H R I h;refine cU (hl pins s σ H _ I h) fun v s1 zz=>?_;obtain⟨x,H1,I1,r1,q1⟩:=zz;obtain⟨d,o,n,kat,e,fz,q⟩:=q1;subst e;cases r1;obtain⟨hd,es,ep,ho,hx,hdat,hsz,hk⟩:=fz.raw I1;refine MQ hd ho hx hdat ?_;refine⟨↑s1,[↑s1],_,_,H1,rfl,I1.kept (t':=s1.toks) fun b o e=>yu _ e,Ky d _ n kat o es ep hdat hsz,⟨_,yw _ rfl,rfl,by rw[hsz];rfl⟩,fun b hb=>?_,q⟩;have e:b=↑s1:=by simpa using hb
 subst e;exact I1.uS (zk _) (I1.cb.fresh (zk _))
end
def JG (H:Hp) (d:Addr) (o:Obj) (kvs:List (Key×V)):Prop:=H d=some (.nK o (.dK kvs))
def N8 (d:Addr) (o:Obj) (kvs:List (Key×V)):It:=⟨fun i H=>JG H d o kvs/\i<kvs.length,fun i H x H'=>H'=H/\∃p,kvs[i]?=some p/\x=p.2,fun i H=>JG H d o kvs/\kvs.length<=i⟩
section
variable {X:Cx} {pins:List (Addr×Obj)} {σ:St} {H:Hp} {s:Shared} {d:Addr} {o:Obj} {kvs:List (Key×V)}
def JG.at' (f:JG H d o kvs) (I:Inv X pins σ H s):(d == sysModules)=false/\∃vs es ep,KV kvs vs/\o.data=.dict es ep/\s.heap.DictAt (dh X.prog X.w) d vs ep:=by
 obtain⟨ho,ok⟩:=(show cC X.prog X.w H s.heap d (.nK o (.dK kvs)) from I.cb d _ f)
 obtain⟨_,hd,vs,rel,o',es,ep,ho',hx,hdat,hk,hp,nd⟩:=ok;rw[ho] at ho';cases ho';exact⟨hd,vs,es,ep,rel,hdat,o,es,ho,hx,hdat,hk,hp,nd⟩
end
def FH {P:Program} {w:World} {K:yA} {tg:Expr} (d it:Addr) (o:Obj) (kvs:List (Key×V)) (es:Array DictEntry) (ep:Nat) (hdat:o.data=.dict es ep) :
  Turn P w K tg (N8 d o kvs) [it] it (fun i h=>h.IsValIter it d i kvs.length ep) where
 mem:=by simp
 obj:=fun i h st b hb=>by
  have e:b=it:=by simpa using hb
  subst e;obtain⟨o,e,c,d⟩:=st;exact⟨o,e,fun v z=>by rw[d] at z;cases z⟩
 keep:=fun i h h' st k=>st.at fun o e=>k it (by simp) o e
 item:=by
  intro X hP hw hK hc i pins s σ H E I hf st hg;subst hP hw hK;obtain⟨fz,hlt⟩:=hg;obtain⟨hd,vs,es',ep',rel,hdat',da⟩:=fz.at' I;rw[hdat] at hdat';cases hdat';obtain⟨f0,f1,f2,f3,f4,f5⟩:=hf it (by simp);have hl:kvs.length=vs.length:=Paired.length rel;have hi:vs[i]?=some (vs[i]'nofun):=zb nofun;obtain⟨p,h3,h4,h5⟩:=lY rel hi;refine wpAny_pyNext_values_item (by rw[<-hl];exact st) da hi fun h' st' sb=>?_;have I1:Inv X pins σ H {s with heap:=h'}:=I.turned (t':=s.toks) (fun b o hb e=>(sb.2 b hb).trans e) f0 f1 f3 f4 f5;obtain⟨oi,e,c,dd⟩:=id st';exact⟨_,rfl,AD (s:={s with heap:=h'}) e c dd ∅ ⟨p.2,H,I1,h5,⟨rfl,p,h3,rfl⟩,by rw[hl];exact st',fun b hb=>(hf b hb).1⟩⟩
 done:=by
  intro X hP hw hK hc i pins s σ H E I hf st hg;subst hP hw hK;obtain⟨fz,hge⟩:=hg;obtain⟨hd,vs,es',ep',rel,hdat',da⟩:=fz.at' I;rw[hdat] at hdat';cases hdat';obtain⟨f0,f1,f2,f3,f4,f5⟩:=hf it (by simp);have hl:kvs.length=vs.length:=Paired.length rel;exact wpAny_pyNext_values_end (I.ok.hd hc) (by rw[<-hl];exact st) da (by simp;omega) fun h' eb=>⟨rfl,I.turned (t':=s.toks) (fun b o hb e=>eb b o hb e) f0 f1 f3 f4 f5⟩
 self:=fun _ _ _ _ _ st h=>wpAny_pyIter_valiter st h
def O8 (td:TE):TI:=fun σ H R=>td σ H fun x H1=>∃d o kvs,x=.ref d/\JG H1 d o kvs/\R (N8 d o kvs) H1
section
variable {X:Cx} {tg l:Expr} {tl:TE} {apos cpos:Pos}
def KZ (hl:PE X l tl) (hbase:attributeBase l "values" X.env (eval l X.env)=eval l X.env<|>qe_) (hline:(apos.endLine == cpos.line)=true<|>qe_):PI X tg (.Call (.Attribute l "values" apos) [] [] cpos) (O8 tl):=by
 intro pins s σ H R I h;refine wpAny_Call_method0_late hbase hline (cU (hl pins s σ H _ I h) fun v s1 zz=>?_);obtain⟨x,H1,I1,r1,q1⟩:=zz;obtain⟨d,o,kvs,e,fz,q⟩:=q1;subst e;cases r1;obtain⟨hd,vs,es,ep,rel,hdat,da⟩:=fz.at' I1;refine⟨"dict","dict.values",F.plainAttrs_dict,F.slot_dict_values,F.type_dict_values,da.dictOf.typeIs,da.dictOf.mapOf.noDict,Calls.callWith_builtin rfl (PySem.evalArgs_none ?_)⟩;refine call_meetsIn F.slot_dict_values da.dictOf.typeIs F.entry_dict_values (F.args_dict_values_1 _) (meets_dict_values (dh X.prog X.w) d hd) ⟨⟨vs,da.dictOf⟩,?_⟩;have I2:Inv X pins σ H1 {s1 with heap:=s1.heap.push {cls:=.type "dict_values",data:=.fields #[.ref d]}}:=I1.kept (t':=s1.toks) fun b o e=>yu _ e;obtain⟨_,vs2,es2,ep2,rel2,hdat2,da2⟩:=fz.at' I2;rw[hdat] at hdat2;cases hdat2;have hl2:kvs.length=vs2.length:=Paired.length rel2;refine wpAny_pyIter_values (knd:=dh X.prog X.w) ⟨_,yw _ rfl,rfl,rfl⟩ da2 ?_;refine⟨_,[_],_,_,H1,rfl,I2.kept (t':=s1.toks) fun b o e=>yu _ e,FH d _ o kvs es ep hdat,⟨_,yw _ rfl,rfl,by rw[hl2];rfl⟩,fun b hb=>?_,q⟩;rw[zy.mp hb];exact I2.uS (zk _) (I2.cb.fresh (zk _))
end
def IY {d:Addr} {o:Obj} {kvs:List (Key×V)} {g:TG} {tb:TS} {D:Ends} {σ:St} {H:Hp} (Pv:Nat->St->Hp->Prop) (h0:Pv 0 σ H) (hf:∀i σ H,i<=kvs.length->Pv i σ H->JG H d o kvs)
  (hs:∀i p σ H,kvs[i]?=some p->Pv i σ H->g p.2 σ H fun σ2 H2=>tb {D with nx:=Pv (i+1),ct:=Pv (i+1),bk:=D.nx} σ2 H2) (hd:∀σ H,Pv kvs.length σ H->D.nx σ H) :
  ∃W:Nat->Nat->St->Hp->Prop,(∃m,W 0 m σ H)/\∀i m σ H,W i m σ H->
   ((N8 d o kvs).stop i H/\D.nx σ H)\/((N8 d o kvs).go i H/\∃Nn:St->Hp->Prop,(∀σ' H',Nn σ' H'->∃m',m'<m/\W (i+1) m' σ' H')/\∀v H',(N8 d o kvs).JL i H v H'->g v σ H' fun σ2 H2=>tb {D with nx:=Nn,ct:=Nn,bk:=D.nx} σ2 H2):=by
 refine⟨fun i m σ H=>m=kvs.length-i/\i<=kvs.length/\Pv i σ H,⟨kvs.length,by simp,yf _,h0⟩,?_⟩;rintro i m σ H ⟨rfl,hi,pv'⟩;rcases Nat.lt_or_ge i kvs.length with hlt | hge
 ·refine .inr ⟨⟨hf i σ H hi pv',hlt⟩,Pv (i+1),fun σ' H' p'=>⟨kvs.length-(i+1),nofun,rfl,hlt,p'⟩,fun v H' y=>?_⟩
  obtain⟨e1,p,hp,e2⟩:=y;rw[e1,e2];exact hs i p σ H hp pv'
 ·have e:i=kvs.length:=nofun
  subst e;exact .inl ⟨⟨hf _ σ H hi pv',zk _⟩,hd σ H pv'⟩
def Ss:HO->Bool
 | .dK _=>true
 | .dT _=>true
 | _=>false
def dP.PK {P:Program} {w:World} {K:yA} {mg:Str->Option Value} {base:Heap} {k:Nat} {f:Addr} {fd:FuncData} {ps:List Str} {sp sp':Sp} (F:dP P w K mg base HU k f fd ps sp) (len:∀vs H Q E,sp' vs H Q E->vs.length=ps.length)
  (h:∀vs H Q E,sp' vs H Q E->∃d u,H d=some u/\Ss u=true/\∀o,sp vs (upd H d (.nK o u)) (fun v H'=>Q v (upd H' d u)) E):dP P w K mg base HU k f fd ps sp':=by
 refine⟨len,fun A outer s H args us vs Q E hr e hb hv hs=>?_⟩;obtain⟨d,u,hd,hu,hsp⟩:=h vs H Q E hs;have okd:=e.cb d u hd;obtain⟨o,ho⟩:=okd.here;have nt:∀xs,u≠.tup xs:=fun xs z=>by rw[z] at hu;cases hu
 have no:∀x,u≠.own x:=fun x z=>by rw[z] at hu;cases hu
 have nf:∀a b,u≠.nK a b:=fun a b z=>by rw[z] at hu;cases hu
 have nb:∀a,u≠.Ml a:=fun a z=>by rw[z] at hu;cases hu
 have off:∀b,H b=none->b≠d:=fun b n z=>by rw[z,hd] at n;cases n
 have tup1:∀b xs,H b=some (.tup xs)->upd H d (.nK o u) b=some (.tup xs):=fun b xs q=>by rw[aE (fun z=>by rw[z,hd] at q;exact nt xs (yj q))];exact q
 have own1:∀b x,H b=some (.own x)->upd H d (.nK o u) b=some (.own x):=fun b x q=>by rw[aE (fun z=>by rw[z,hd] at q;exact no x (yj q))];exact q
 have e1:HR P w K mg base A outer s (upd H d (.nK o u)):=by
  refine⟨e.frames,e.mod,fun b ob q=>⟨(e.bs b ob q).1,by rw[aE (off b (e.bs b ob q).2)];exact(e.bs b ob q).2⟩,e.LY,e.pN,fun b hb=>by rw[aE (off b (e.GR b hb))];exact e.GR b hb,fun b ub q=>?_,e.bare⟩
  by_cases hbd:b=d
  ·subst hbd
   rw[ay] at q;cases q;exact⟨ho,okd.lJ (fun _ _ _ z=>z) (fun c z=>own1 c _ z) tup1⟩
  ·rw[aE hbd] at q
   exact(e.cb b ub q).lJ (fun _ _ _ z=>z) (fun c z=>own1 c _ z) tup1
 refine codeAny_mono (F.run A outer s _ args us vs _ E hr e1 hb hv (hsp o)) fun r s' hq=>?_;cases r with
 | error x=>exact hq
 | ok fl=>
  cases fl with
  | next=>exact hq
  | brk=>exact hq
  | cont=>exact hq
  | ret uv=>
   obtain⟨v,H',os,bare,un,cb,rv,q⟩:=hq;have hd':H' d=some (.nK o u):=un.nF d o u ay;have off1:∀b,H b=none->upd H d (.nK o u) b=none:=fun b n=>by rw[aE (off b n)];exact n
   have back:∀b z,H b=some z->b≠d->upd H d (.nK o u) b=some z:=fun b z q n=>by rw[aE n];exact q
   refine⟨v,upd H' d u,os,bare,⟨fun b ob q n hb hx=>un.keep b ob q (off1 b n) hb hx,fun b ob q n hb hx=>un.slot b ob q (off1 b n) hb hx,fun b ob q n hx=>by rw[aE (off b n)];exact un.free b ob q (off1 b n) hx,un.there,
    fun b xs q=>?_,fun b ob uu q=>?_,fun b ps' q=>?_⟩,fun b ub q=>?_,rv,q⟩
   ·have n:b≠d:=fun z=>by rw[z,hd] at q;exact nt xs (yj q)
    rw[aE n];exact un.pF b xs (back b _ q n)
   ·have n:b≠d:=fun z=>by rw[z,hd] at q;exact nf ob uu (yj q)
    rw[aE n];exact un.nF b ob uu (back b _ q n)
   ·have n:b≠d:=fun z=>by rw[z,hd] at q;exact nb ps' (yj q)
    obtain⟨m,z⟩:=un.pG b ps' (back b _ q n);exact⟨m,by rw[aE n];exact z⟩
   ·have own2:∀c x,H' c=some (.own x)->upd H' d u c=some (.own x):=fun c x z=>by rw[aE (fun y=>by rw[y,hd'] at z;cases z)];exact z
    have tup2:∀c xs,H' c=some (.tup xs)->upd H' d u c=some (.tup xs):=fun c xs z=>by rw[aE (fun y=>by rw[y,hd'] at z;cases z)];exact z
    by_cases hbd:b=d
    ·subst hbd
     rw[ay] at q;cases q;obtain⟨_,ok'⟩:=(show cC P w H' s'.heap b (.nK o u) from cb b _ hd')
     exact ok'.lJ (fun _ _ _ z=>z) (fun c z=>own2 c _ z) tup2
    ·rw[aE hbd] at q
     exact(cb b ub q).lJ (fun _ _ _ z=>z) (fun c z=>own2 c _ z) tup2
def Ge (σ:List Str) (x:Str):List Str:=if x∈σ then σ else σ++[x]
def gE (l:List Str):List Str:=l.foldl Ge []
def G6 (l:List Str):(gE l).length<=l.length/\((gE l).length=l.length↔l.Nodup):=by
 have key:∀(l σ:List Str),σ.Nodup->(l.foldl Ge σ).length<=σ.length+l.length/\((l.foldl Ge σ).length=σ.length+l.length↔(σ++l).Nodup):=by
  intro l
  induction l with
  | nil=>intro σ h;simp[h]
  | cons x l ih=>
   intro σ h;rw[List.foldl_cons,zt]
   by_cases hx:x∈σ
   ·rw[show Ge σ x=σ from if_pos hx]
    have:=ih σ h;refine⟨nofun,⟨fun e=>nofun,fun e=>?_⟩⟩;exact absurd hx (fun z=>(zR.mp e).2.2 x z x zp rfl)
   ·rw[show Ge σ x=σ++[x] from if_neg hx]
    have hn:(σ++[x]).Nodup:=zR.mpr ⟨h,by simp,fun a ha b hb e=>by rw[zy.mp hb] at e;exact hx (e▸ha)⟩;have:=ih (σ++[x]) hn;rw[zg,List.length_singleton,zE,List.singleton_append] at this;exact⟨nofun,⟨fun e=>this.2.mp nofun,fun e=>by have:=this.2.mpr e;omega⟩⟩
 have:=key l [] List.nodup_nil
 simpa[gE] using this
def sub_tuple_set:isSubtype (.type "tuple") (.type "set")=pure false:=by rw[isSubtype_type];kernel_rfl
def sub_tuple_frozenset:isSubtype (.type "tuple") (.type "frozenset")=pure false:=by rw[isSubtype_type];kernel_rfl
section
variable {prog:Program} {w:World}
def MD {A:Around} {R:Result->Shared->Prop} {I:Addr} {fp wr:List Addr} {G:Array GenState->Array GenState->Prop} {n:Nat} {P:Nat->Value->Prop} {St:Nat->Shared->Prop} (W:WalksS prog w A.in1 I fp wr G n P St) (S:Addr) (hSf:S∉fp)
  (zs:List Str) (hn:n=zs.length) (hval:∀i v,P i v->∃z t,zs[i]?=some z/\v=.str z t) (hb:n+1<scanBound) :
  ∀(k i:Nat) (s:Shared),n-i=k->i<=n->St i s->s.heap.SetOf (PySem.strKind prog w) S (fun x=>decide (x∈gE (zs.take i))) (gE (zs.take i)).length->
   (∀s',Moved (S::wr) G s s'->s'.heap.SetOf (PySem.strKind prog w) S (fun x=>decide (x∈gE zs)) (gE zs).length->R (.ok (.ret .none)) s')->
   codeAny (model prog w) A (.builtin "set.update.loop" ⟨[.ref S,.ref I],[]⟩) R s:=by
 have hSw:S∉wr:=fun h=>hSf (W.sub _ h);have hsub:∀b∈wr,b∈S::wr:=fun b hb=>zm _ hb;intro k
 induction k with
 | zero=>
  intro i s hk hi hst hS hR;have hin:i=n:=nofun
  subst hin;rw[hn,zM] at hS;refine codeAny_builtin F.entry_set_update_loop ?_;rw[Around.under_plainId F.plain_set_update_loop _];show wpAny _ A.in1 (pyNext (.ref I) >>= _) _ _ s;refine yt (W.done s _ _ hst fun s' hm=>?_);obtain⟨o,es,ep,t,ho,rest⟩:=hS;exact yv (hR s' (hm.mono hsub) ⟨o,es,ep,t,hm.heap S _ hSw ho,rest⟩)
 | succ k ih=>
  intro i s hk hi hst hS hR;have hlt:i<n:=nofun
  refine codeAny_builtin F.entry_set_update_loop ?_;rw[Around.under_plainId F.plain_set_update_loop _];show wpAny _ A.in1 (pyNext (.ref I) >>= _) _ _ s;refine yt (W.item i s _ _ hlt hst fun v s' hP hst' hm=>?_);obtain⟨z,t,hz,rfl⟩:=hval i v hP;obtain⟨o,es,ep,tb,ho,rest⟩:=hS;have hS':s'.heap.SetOf (PySem.strKind prog w) S (fun x=>decide (x∈gE (zs.take i))) (gE (zs.take i)).length:=⟨o,es,ep,tb,hm.heap S _ hSw ho,rest⟩
  show wpAny _ A.in1 (holding [Value.str z t] (setAdd S (.str z t)) >>= _) _ _ s';refine yt (wpAny_holding ?_);unfold setAdd;refine wpAny_holding ?_;refine yt ((PySem.strKind prog w).pyHash (k:=z) (strKind_is _ _ _ _) ?_);have hl:=(G6 (zs.take i)).1;rw[zP] at hl;refine wpAny_setAddHashed_of (knd:=PySem.strKind prog w) (s:={s' with toks:=s'.toks+1}) (strKind_is _ _ _ _) rfl hS' nofun fun h' hsb hS2=>?_;have et:zs.take (i+1)=zs.take i++[z]:=by rw[List.take_succ,hz];rfl
  have ed:gE (zs.take (i+1))=Ge (gE (zs.take i)) z:=by rw[et];unfold gE;rw[zX];rfl
  have hSi:h'.SetOf (PySem.strKind prog w) S (fun x=>decide (x∈gE (zs.take (i+1)))) (gE (zs.take (i+1))).length:=by
   refine SetOf_congr hS2 (fun x=>?_) ?_
   ·rw[ed]
    unfold Ge
    by_cases hx:z∈gE (zs.take i)
    ·rw[if_pos hx]
     by_cases e:x=z
     ·subst e;simp[hx]
     ·simp[e]
    ·rw[if_neg hx];simp[zF]
   ·rw[ed]
    unfold Ge
    by_cases hx:z∈gE (zs.take i) <;> simp[hx]
  refine yv ⟨plainId_quiet F.plain_set_update_loop _,ih (i+1) _ nofun hlt (W.frame _ s' _ _ hst' (Nat.le_succ _) fun b hb o e=>?_) hSi fun s'' hm'' hS''=>?_⟩
  ·rw[hsb.2 b (fun h:b=S=>hSf (by rw[<-h];exact hb))];exact e
  ·refine hR s'' (Moved.trans W.gtrans ((hm.mono hsub).then_heap (Nat.le_succ _) fun b o hb e=>?_) hm'') hS''
   rw[hsb.2 b (fun h:b=S=>hb (by rw[h];exact zp))];exact e
variable {A:Around} {E:Value->Shared->Prop} {s:Shared}
def Ir {l:Addr} {items:Array Value} {zs:List Str} {Q:Value->Shared->Prop} (hh:A.handled=none) (hl:IsTup s.heap l items) (hi:∀(i:Nat) (v:Value),items[i]?=some v->∃z t,zs[i]?=some z/\v=.str z t) (hn:items.size=zs.length) (hb:items.size+1<scanBound)
  (h:∀(h':Heap) (tk:Nat),h'.SetOf (PySem.strKind prog w) ↑s (fun x=>decide (x∈gE zs)) (gE zs).length->(∀b o,b<↑s->s.heap.get? b=some o->h'.get? b=some o)->Q (.ref ↑s) {s with heap:=h',toks:=tk}) :
  wpAny (model prog w) A (call (.type "set") [.ref l]) Q E s:=by
 obtain⟨c,tl,hmro⟩:=F.called_set.mro;have hmade:=F.called_set.made;have hsub:=F.called_set.sub;refine wpAny_call (codeAny_of_tree ?_);show wpAny _ _ (callAny (.type "set") _) _ _ _;refine yv ⟨Code.quiet_builtin _ (by decide +kernel),codeAny_builtin F.entry_type_call ?_⟩;rw[Around.under_plain (weight_type_call_type "set" [.ref l] []) rfl];have h1:=F.called_set.notType;have h2:=F.called_set.canCreate;have hct:=F.typeCall_set_1 (.ref l)
 repeat (any_goals (first | assumption | wp_step))
 let fresh:Bool->Obj:=fun led=>{cls:=.type "set",dict:=none,data:=.set #[] 0 (.fresh 0 0 led)}
 refine codeAny_mono (code_set_new_1 (.ref l) (E:=E) (Q₁:=fun obj s₁=>∃led:Bool,obj=.ref ↑s/\s₁={s with heap:=s.heap.push (fresh led)}) fun led=>⟨led,rfl,rfl⟩) fun r s₁ hr=>?_;cases r with
 | error e=>exact hr
 | ok fl=>
  cases fl with
  | next=>exact hr.elim
  | brk=>exact hr.elim
  | cont=>exact hr.elim
  | ret obj=>
   obtain⟨led,rfl,rfl⟩:=hr;have hS:(s.heap.push (fresh led)).get? ↑s=some (fresh led):=yw _ rfl;have hT:Shared.TypeIs {s with heap:=s.heap.push (fresh led)} (.ref ↑s) "set":=⟨_,hS,rfl⟩
   have hli:=F.called_set.init.lookup;have hbi:=F.called_set.init.bind (.ref ↑s)
   repeat (any_goals (first | assumption | wp_step))
   refine codeAny_mono (codeAny_call_builtin (R:=wants (fun r s₂=>r=.none/\∃h' tk,s₂={s with heap:=h',toks:=tk}/\h'.SetOf (PySem.strKind prog w) ↑s (fun x=>decide (x∈gE zs)) (gE zs).length/\
     (∀b o,b<↑s->s.heap.get? b=some o->h'.get? b=some o)) E) F.called_set.init.plain F.entry_set_init (check_set_init_1 hT ?_)) fun r₂ s₂ hr₂=>?_
   ·obtain⟨⟨ocls,odict,odata,oslots⟩,hol,hcl,nl,hdl⟩:=hl
    simp only at hcl hdl;subst hcl hdl;have hol':(s.heap.push (fresh led)).get? l=some {cls:=.type "tuple",dict:=odict,data:=.seq items nl,slots:=oslots}:=yu _ hol;have hsls:=sub_tuple_set;have hslf:=sub_tuple_frozenset;have hne:(Value.type "tuple"== Value.type "dict")=false:=by decide
    have hl1:(s.heap.push (fresh led)).IsTuple l items:=⟨_,hol',rfl,nl,rfl⟩
    unfold Builtin.«set.__init__» noKeywords Builtin.Frozenset.updateFrom;generalize hPI:pyIter=PI;wp_walk;subst hPI;refine wpAny_pyIter_tuple hl1 ?_;refine yt (wpAny_runValue ?_);have hlS:l<↑s:=yx hol;have hh3:A.in1.in1.in1.handled=none:=by simp[hh]
    have hz:(s.heap.push (fresh led)).objs.size=↑s+1:=Heap.size_push ..;have hSf:↑s∉[(s.heap.push (fresh led)).objs.size,l]:=by
     rw[hz];simp only[zC,zD,or_false,not_or];exact⟨yi (Nat.lt_succ_self _),yh hlS⟩
    refine MD ((Walks.tuple hh3 _ l (by rw[hz];exact yi (Nat.lt_succ_of_lt hlS)) items).toS) ↑s hSf zs hn hi hb (items.size-0) 0 _ nofun (yf _)
     ⟨⟨_,yw _ rfl,rfl,rfl⟩,(hl1.push _)⟩ ?hS0 ?hR
    case hS0=>
     exact SetOf_congr ((setObjOf_fresh (knd:=PySem.strKind prog w) led).setOf (yu _ hS) (by unfold scanBound;omega)) (fun _=>rfl) rfl
    case hR=>
     intro s' hm hS';obtain⟨h',g',d',tk',os'⟩:=s';have eg:g'=s.gens:=hm.gens;have ed:d'=s.drawn:=hm.drawn;have eo:os'=s.os:=hm.os;subst eg ed eo;refine yv (yv ⟨rfl,h',tk',rfl,hS',fun b o hb e=>?_⟩);refine hm.heap b o ?_ (yu _ (yu _ e));simp only[zC,zD,or_false,not_or];exact⟨yi hb,by rw[hz];exact yi (Nat.lt_succ_of_lt hb)⟩
   ·cases r₂ with
    | error e=>exact hr₂
    | ok fl₂=>
     cases fl₂ with
     | next=>exact hr₂.elim
     | brk=>exact hr₂.elim
     | cont=>exact hr₂.elim
     | ret r=>
      obtain⟨rfl,h',tk,rfl,hS',hk'⟩:=hr₂
      repeat (any_goals (first | assumption | wp_step))
      exact h _ _ hS' hk'
end
def HQ (a:Addr) (n:Nat):HO:=.ext fun h=>∃o es ep t,h.get? a=some o/\o.ExactSet/\o.data=.set es ep t/\t.fits es.size=true/\es.size=n
section
variable {X:Cx}
def Ly (hc:X.calm=true):fT X (.type "set") (fun xs H Q=>∃(a:Addr) (zs:List Str),xs=[.ref a]/\dA X.K H a (zs.map V.str)/\zs.length<=1000/\∀p,H p=none->Q (.ref p) (upd H p (HQ p (gE zs).length))):=by
 intro pins s σ H xs us Q I r h;obtain⟨a,zs,rfl,hq,hz,q⟩:=h;obtain⟨u,rfl,rx⟩:=vals1 r;cases rx;obtain⟨its,rv,p,_⟩:=I.tuple hq;have hl:zs.length=its.length:=by have:=rv.length;rw[za] at this;exact this
 refine Ir (zs:=zs) (I.ok.hd hc) p (fun i v hv=>?_) (by rw[ya,hl]) (by rw[ya];unfold scanBound;omega) fun h' tk hS hk=>?_
 ·have hv':its[i]?=some v:=by simpa using hv
  have hi:i<its.length:=(zw.mp hv').1;obtain⟨z,t,e1,e2⟩:=Mv rv hi;have:=(zw.mp hv').2;exact⟨z,t,e1,by rw[<-this,e2]⟩
 ·obtain⟨o,es,ep,t,ho,hex,hd,hel,hmem,hb,hf,hn⟩:=hS
  refine⟨.ref _,_,I.laid (t':=tk) (a:=↑s) (o:=HQ ↑s (gE zs).length) (fun b ob e=>hk b ob (yx e) e) (zk _) ?_,rfl,q _ (I.cb.fresh (zk _))⟩;exact⟨⟨o,es,ep,t,ho,hex,hd,hf,hn⟩,⟨o,ho⟩,fun h1 h2 ⟨o,es,ep,t,e1,r⟩ kk=>⟨o,es,ep,t,kk o e1,r⟩⟩
def LA:fT X (.builtin "len") (fun xs H Q=>∃(p:Addr) (n:Nat),xs=[.ref p]/\H p=some (HQ p n)/\n<=1000/\Q (.int n) H):=by
 intro pins s σ H xs us Q I r h;obtain⟨p,n,rfl,hp,hn,q⟩:=h;obtain⟨u,rfl,rx⟩:=vals1 r;cases rx;obtain⟨⟨o,es,ep,t,ho,hex,hd,hf,rfl⟩,_⟩:=(show cC X.prog X.w H s.heap p (HQ p n) from I.cb p _ hp)
 exact call_len_set ho hex hd hf nofun ⟨.int _,H,I.tok _,⟨_,rfl⟩,q⟩
end
def OO:V->Bool
 | .bI=>true
 | .int _=>true
 | .str _=>true
 | _=>false
def Gh (h:OO x=true):nc x=true:=by cases x <;> first | rfl | cases h
def QM {x y:V} (a:OO x=true) (b:OO y=true):I0 x y=decide (x=y):=by
 cases x <;> first | cases a;done | skip
 all_goals (cases y <;> first | rfl | exact EH.symm | exact EF.symm | cases b)
def UD (K:yA) (H:Hp) (a b:Addr) (xs ys:List V):Prop:=(aH K H a xs/\aH K H b ys)\/(dA K H a xs/\dA K H b ys)
def Uv (xs ys:List V):Prop:=xs=[]\/ys=[]\/(xs.all OO=true/\ys.all OO=true)
def T9 (K:yA):R2:=fun x y H Q=>∃a b xs ys,x=.ref a/\y=.ref b/\UD K H a b xs ys/\Uv xs ys/\Q (.bl (decide (xs=ys))) H
def QJ (K:yA):R2:=fun x y H Q=>∃a b xs ys,x=.ref a/\y=.ref b/\UD K H a b xs ys/\Uv xs ys/\Q (.bl (!decide (xs=ys))) H
def JO (r:Vals xs its) (h:j<its.length):∃x,xs[j]?=some x/\RelV x its[j]:=by
 have hl:=r.length;obtain⟨u,hu,ru⟩:=r.get (i:=j) (x:=xs[j]'nofun) (zb nofun);rw[zb h] at hu;cases hu;exact⟨_,zb nofun,ru⟩
section
variable {X:Cx}
def ED (r:Vals xs its) (r':Vals ys jts) (p:Uv xs ys):∀j (h1:j<its.toArray.size) (h2:j<jts.toArray.size),SeqAt.EqAt A s its.toArray[j] jts.toArray[j] (decide (xs[j]?=ys[j]?)):=by
 intro j h1 h2;have h1':j<its.length:=by simpa using h1
 have h2':j<jts.length:=by simpa using h2
 obtain⟨x,ex,rx⟩:=JO r h1';obtain⟨y,ey,ry⟩:=JO r' h2';have l1:=r.length;have l2:=r'.length;have hp:OO x=true/\OO y=true:=by
  rcases p with e | e | ⟨q1,q2⟩
  ·rw[e] at ex;simp at ex
  ·rw[e] at ey;simp at ey
  ·exact⟨yo.mp q1 x (zB ex),yo.mp q2 y (zB ey)⟩
 have g1:its.toArray[j]=its[j]:=by simp
 have g2:jts.toArray[j]=jts[j]:=by simp
 have z:=NM (A:=A) (s:=s) rx ry (Gh hp.1) (Gh hp.2);rw[QM hp.1 hp.2] at z;have e:decide (xs[j]?=ys[j]?)=decide (x=y):=by rw[ex,ey,Bool.eq_iff_iff];simp
 rw[g1,g2,e];exact z
def all_eq {xs ys:List V} (h:xs.length=ys.length):((List.range xs.length).all fun j=>decide (xs[j]?=ys[j]?))=decide (xs=ys):=by
 rw[Bool.eq_iff_iff,yo,decide_eq_true_eq];constructor
 ·intro hh
  refine List.ext_getElem? fun j=>?_;rcases Nat.lt_or_ge j xs.length with hj | hj
  ·exact yd (hh j (List.mem_range.mpr hj))
  ·rw[List.getElem?_eq_none hj,List.getElem?_eq_none nofun]
 ·intro hh j _
  rw[hh];exact ze rfl
def Eu {xs ys:List V} (h:xs.length≠ys.length):decide (xs=ys)=false:=zd fun e=>h (by rw[e])
def Eg (hu:X.A.units+64<cLine):pE X (compareOp .Eq) (T9 X.K):=by
 intro pins s σ H x y v u Q I rx ry h;obtain⟨a,b,xs,ys,rfl,rfl,hs,pl,q⟩:=h;cases rx;cases ry;rcases hs with⟨ha,hb⟩ | ⟨ha,hb⟩
 ·obtain⟨its,r,p,_⟩:=I.list ha
  obtain⟨jts,r',p',_⟩:=I.list hb;have l1:=r.length;have l2:=r'.length
  by_cases hl:xs.length=ys.length
  ·have z:=SeqAt.RcAt.lists (A:=X.A) (s:=s) p.isList p'.isList (by rw[ya,ya];omega) nofun (ED r r' pl)
   rw[ya,<-l1,all_eq hl] at z;exact z _ _ _ _ ⟨.bl _,H,I,rfl,q⟩
  ·have z:=SeqAt.RcAt.lists_lengths (A:=X.A) (s:=s) p.isList p'.isList (by rw[ya,ya];simp;omega) nofun
   rw[Eu hl] at q;exact z _ _ _ _ ⟨.bl false,H,I,rfl,q⟩
 ·obtain⟨its,r,p,_⟩:=I.tuple ha
  obtain⟨jts,r',p',_⟩:=I.tuple hb;have l1:=r.length;have l2:=r'.length;have z:=SeqAt.RcAt.tuples (A:=X.A) (s:=s) p p' nofun (ED r r' pl);rw[ya,ya,<-l1,<-l2] at z
  by_cases hl:xs.length=ys.length
  ·have em:min xs.length ys.length=xs.length:=nofun
   rw[em,all_eq hl,hl,beq_self_eq_true,Bool.and_true] at z;exact z _ _ _ _ ⟨.bl _,H,I,rfl,q⟩
  ·rw[show(xs.length == ys.length)=false by simpa using hl,Bool.and_false] at z
   rw[Eu hl] at q;exact z _ _ _ _ ⟨.bl false,H,I,rfl,q⟩
def qW (hu:X.A.units+64<cLine):pE X (compareOp .NotEq) (QJ X.K):=by
 intro pins s σ H x y v u Q I rx ry h;obtain⟨a,b,xs,ys,rfl,rfl,hs,pl,q⟩:=h;cases rx;cases ry;rcases hs with⟨ha,hb⟩ | ⟨ha,hb⟩
 ·obtain⟨its,r,p,_⟩:=I.list ha
  obtain⟨jts,r',p',_⟩:=I.list hb;have l1:=r.length;have l2:=r'.length
  by_cases hl:xs.length=ys.length
  ·have z:=SeqAt.RcNeAt.lists (A:=X.A) (s:=s) p.isList p'.isList (by rw[ya,ya];omega) nofun (ED r r' pl)
   rw[ya,<-l1,all_eq hl] at z;exact z _ _ _ _ ⟨.bl _,H,I,rfl,q⟩
  ·have z:=SeqAt.RcNeAt.lists_lengths (A:=X.A) (s:=s) p.isList p'.isList (by rw[ya,ya];simp;omega) nofun
   rw[Eu hl] at q;exact z _ _ _ _ ⟨.bl true,H,I,rfl,q⟩
 ·obtain⟨its,r,p,_⟩:=I.tuple ha
  obtain⟨jts,r',p',_⟩:=I.tuple hb;have l1:=r.length;have l2:=r'.length;have z:=SeqAt.RcNeAt.tuples (A:=X.A) (s:=s) p p' nofun (ED r r' pl);rw[ya,ya,<-l1,<-l2] at z
  by_cases hl:xs.length=ys.length
  ·have em:min xs.length ys.length=xs.length:=nofun
   rw[em,all_eq hl,hl,beq_self_eq_true,Bool.and_true] at z;exact z _ _ _ _ ⟨.bl _,H,I,rfl,q⟩
  ·rw[show(xs.length == ys.length)=false by simpa using hl,Bool.and_false] at z
   rw[Eu hl] at q;exact z _ _ _ _ ⟨.bl true,H,I,rfl,q⟩
def PQ (K:yA):V->Option Int->Option Int->Hp->VK->Prop:=fun x lo hi H Q=>∃a xs,x=.ref a/\dA K H a xs/\(HT.fC xs.length 0 lo=0/\HT.fC xs.length xs.length hi=xs.length)/\Q (.ref a) H
def Ox:N5 X (PQ X.K):=by
 intro pins s σ H x v vl vu lo hi sl Q I rx hs pl pu h;obtain⟨a,xs,rfl,hx,hw,q⟩:=h;cases rx;obtain⟨its,r,ht,hz⟩:=I.tuple hx;have hlen:its.toArray.size=xs.length:=by rw[ya];exact r.length.symm
 refine⟨"tuple",_,PyProof.Rows.slot_tuple_getitem.lookup,ht.typeIs,?_⟩;rw[<-hlen] at hw;obtain⟨os,hos,hcs,hds⟩:=id hs;have hTs:s.TypeIs (.ref sl) "slice":=⟨os,hos,hcs⟩
 unfold getItem
 try with_reducible refine wpAny_holding ?_
 first | refine yt (yv ?_) | skip
 refine yt (wpAny_sequenceKey ht.typeIs ∅ ?_);refine yt (wpAny_callSpecial?_slot (name:=Str.ofString "__getitem__") ht.typeIs PyProof.Rows.slot_tuple_getitem
  (wpAny_call_entry PyProof.Rows.slot_tuple_getitem ht.typeIs entry_tuple_getitem ?_ (args_tuple_getitem _ _)))
 show wpAny _ _ (Builtin.Tuple.tupleItemsOf (.ref a) >>= _) _ _ s;refine yt (tupleItemsOf_ ht ?_);refine yt (wpAny_typeOf hTs ?_);rw[if_pos ∅];refine yt (HT.kT hs pl pu ?_);show wpAny _ _ (if(((HT.fC its.toArray.size 0 lo:Nat):Int) == 0&&(1:Int) == 1&&(HT.fC its.toArray.size its.toArray.size hi-HT.fC its.toArray.size 0 lo) == its.toArray.size)=true then _ else _) _ _ s;rw[if_pos (by rw[hw.1,hw.2];simp)];unfold Builtin.Tuple.tupleIsExact;refine yt ?_
 repeat (any_goals (first | assumption | exact⟨_,rfl,yv ⟨.ref a,H,I,rfl,q⟩⟩ | refine yt (wpAny_typeOf ht.typeIs ?_) | wp_step))
def PR (K:yA):V->Option Int->Option Int->Hp->VK->Prop:=fun x lo hi H Q=>R8 K x lo hi H Q\/PQ K x lo hi H Q
def Oy:N5 X (PR X.K):=N5.or QC Ox
def Gd (K:yA):V->List V->Hp->VK->Prop:=fun x vs H Q=>∃l b xs zs,x=.ref l/\vs=[.ref b]/\H l=some (.lst xs)/\H b=some (.tup zs)/\xs.length+zs.length<=sizeLine/\Q .bI (upd H l (.lst (xs++zs)))
def MT (K:yA):V->List V->Hp->VK->Prop:=fun x vs H Q=>JZ x vs H Q\/Gd K x vs H Q
def IK:P9 X "list.extend" (Gd X.K):=by
 intro pins s σ H x vs v us Q I rx rv h;obtain⟨l,b,xs,zs,rfl,rfl,hH,hB,hz,q⟩:=h;cases rx;obtain⟨u,rfl,ru⟩:=rv.one;cases ru;obtain⟨z,its,n,r,hl,e⟩:=I.Nk hH;obtain⟨_,its2,r2,⟨oc,od,oda,osl⟩,ho,hoc,n2,hod⟩:=(show cC X.prog X.w H s.heap b (.tup zs) from I.cb b _ hB)
 have l1:=r.length;have l2:=r2.length;have hsz:its.toArray.size+its2.toArray.size<=sizeLine:=by rw[ya,ya];omega
 have hlong:¬(!its.toArray.isEmpty&&Builtin.List.listTooLong (its.toArray.size+its2.toArray.size))=true:=by
  rw[GC hsz,Bool.and_false];exact zK
 dsimp only at hoc hod;subst hoc hod;refine wpAny_call_entry F.slot_list_extend ⟨_,e,rfl⟩ F.entry_list_extend ?_ (F.args_list_extend_2 _ _);show wpAny _ _ (Builtin.List.listExtendWith (.ref l) (.ref b) .none) _ _ s;unfold Builtin.List.listExtendWith;refine yt (wpAny_typeOf (T:="tuple") ⟨_,ho,rfl⟩ ?_);have ht:(Value.type "tuple"== Value.type "tuple")=true:=by rfl
 rw[if_pos (by rw[ht];simp)];refine yt (listItems_at ho rfl ?_);refine yt (listItems_at e rfl ?_);rw[if_neg hlong];refine yt (listUpdate_at e rfl ?_ (by rw[ya];omega) (by show(its.toArray++its2.toArray).size<=sizeLine+1;rw[Array.size_append];omega));refine yv ⟨_,rfl,?_⟩;refine⟨.bI,_,I.O2 (its':=its++its2) hH e (by simp) (r.append r2) ?_,rfl,q⟩;rw[zg];omega
def IL:P9 X "list.extend" (MT X.K):=by
 intro pins s σ H x vs v us Q I rx rv h;rcases h with h | h
 ·exact K4 pins s σ H x vs v us Q I rx rv h
 ·exact IK pins s σ H x vs v us Q I rx rv h
def Jq:fT X (.builtin "len") (fun xs H Q=>∃p kvs,xs=[.ref p]/\H p=some (.dK kvs)/\Q (.int (kvs.length:Nat)) H):=by
 intro pins s σ H xs us Q I r h;obtain⟨p,kvs,rfl,hp,q⟩:=h;obtain⟨u,rfl,rx⟩:=vals1 r;cases rx;exact SI I (.inl hp) fun t s' I'=>⟨.int _,H,I',⟨_,rfl⟩,q⟩
end
abbrev Sb (K:yA):List V->Hp->VK->Prop:=fun xs H Q=>∃p ys,xs=[.ref p]/\(aH K H p ys\/dA K H p ys)/\Q (.int ys.length) H
abbrev Ua (K:yA):List V->Hp->VK->Prop:=fun xs H Q=>∃(a:Addr) (bs:List Bool),xs=[.ref a]/\aH K H a (bs.map V.bl)/\Q (.bl (bs.any id)) H
abbrev R9:List V->Hp->VK->Prop:=fun xs H Q=>∃i,xs=[.int i]/\i.natAbs.log2<1920/\Q (.str (toString i)) H
abbrev QK (K:yA):List V->Hp->VK->Prop:=fun xs H Q=>∃p ys,xs=[.ref p]/\((aH K H p ys/\∀l,H l=none->Q (.ref l) (upd H l (.tup ys)))\/(dA K H p ys/\Q (.ref p) H))
abbrev Sa (K:yA):List V->Hp->VK->Prop:=fun xs H Q=>∃p ys,xs=[.ref p]/\(aH K H p ys\/dA K H p ys)/\∀l,H l=none->Q (.ref l) (upd H l (.lst ys))
def KQ (lo:Int) (n:Nat):List Int:=(List.range n).map fun i=>lo+(i:Nat)
def Qt (ta:TA):TE:=fun σ H Q=>ta σ H fun vs H1=>∃i j:Int,vs=[.int i,.int j]/\(-(2^62)<=i/\i<2^62/\-(2^62)<=j/\j<2^62)/\(j-i).toNat<=1000000/\∀l,H1 l=none->Q (.ref l) (upd H1 l (.lst ((KQ i (j-i).toNat).map V.int)))
theorem JN:∀{xs:List V} {us:List Value},xs.length=us.length->(∀(i:Nat) (x:V) (u:Value),xs[i]?=some x->us[i]?=some u->RelV x u)->Vals xs us
 | [],[],_,_=>.nil
 | x::xs,u::us,h,k=>.cons (k 0 x u rfl rfl) (JN (by simpa using h) fun i y v e e'=>k (i+1) y v (by simpa using e) (by simpa using e'))
 | [],_::_,h,_=>by simp at h
 | _::_,[],h,_=>by simp at h
section
variable {X:Cx}
def M7 (hc:X.calm=true) (hg0:Gl X "list") (hm0:X.mg "list"= none) (hg:Gl X "range") (hm:X.mg "range"= none) (ha:PA X [a,b] ta)
  (hs:starEach [a,b] X.env=[(false,eval a X.env),(false,eval b X.env)]<|>qe_) (hs2:starEach [b] X.env=[(false,eval b X.env)]<|>qe_)
  (hs1:starEach [.Call (.Name "range" p2) [a,b] [] pos2] X.env=[(false,eval (.Call (.Name "range" p2) [a,b] [] pos2) X.env)]<|>qe_) :
  PE X (.Call (.Name "list" p1) [.Call (.Name "range" p2) [a,b] [] pos2] [] pos1) (Qt ta):=by
 intro pins s σ H Q I h;refine wpAny_Call_Name_kw (iz I hg0 hm0 (by decide +kernel:bootBuiltins "list"= some (.type "list")) ?_ ∅ ∅);refine yL (Q:=_) ?_ hs1 rfl;rw[hs1];refine Calls.spliced_cons ?_;refine Call_ (iz I hg hm boot_range (yL (cU (ha pos2 pins s σ H _ I h) fun us s1 ⟨vs,H1,I1,r1,q1⟩=>?_) (by rw[hs,hs2]) (by rw[hs2];rfl)));obtain⟨i,j,e,⟨q1,q2,q3,q4⟩,hz,q⟩:=q1;subst e;cases r1 with
 | cons r rr=>
  cases rr with
  | cons r' rr=>
   cases rr;obtain⟨t,rfl⟩:=r;obtain⟨t',rfl⟩:=r';refine call_range_2 ?_;refine Calls.spliced_nil ?_;have I2:Inv X pins σ H1 {s1 with heap:=s1.heap.push {cls:=.type "range",data:=.fields #[.int i t,.int j t',.int 1 s1.toks]},toks:=s1.toks+1}:=I1.kept fun b o e=>yu _ e;have hn:Builtin.Range.rangeSize i j 1=(((j-i).toNat:Nat):Int):=by rw[rangeSize_one];split <;> omega
   refine call_list_range (I2.ok.hd hc) (IsRange.new ..) (small_one q1 q2 q3 q4) hn (zL hz ∅) fun h' tk acc c hk hS hit=>?_;have rv:Vals ((KQ i (j-i).toNat).map V.int) acc.toList:=by
    refine JN ?_ ?_
    ·have e1:acc.toList.length=(j-i).toNat:=by rw[Array.length_toList];exact hit.1
     rw[za,e1];unfold KQ;simp
    ·intro k x u hx hu
     rw[Array.getElem?_toList] at hu;obtain⟨tk',rfl⟩:=hit.2 k u hu;have hk':k<(j-i).toNat:=by
      have:=(Array.getElem?_eq_some_iff.mp hu).1;rw[hit.1] at this;exact this
     unfold KQ at hx;rw[zA,zJ,List.getElem?_range hk'] at hx;cases hx;exact⟨tk',by simp⟩
   have hl:H1 (s1.heap.push {cls:=.type "range",data:=.fields #[.int i t,.int j t',.int 1 s1.toks]}).objs.size=none:=I2.cb.fresh (zk _);refine⟨.ref _,_,I2.laid (t':=tk) hk (zk _) (show cC X.prog X.w _ h' _ (.lst ((KQ i (j-i).toNat).map V.int)) from⟨?_,acc.toList,c,rv,?_⟩),rfl,q _ hl⟩
   ·rw[za]
    have sl:=yB;unfold KQ;simp;omega
   ·simpa using hS
end
def HW:typeLookup (.type "zip") "__len__"= pure none:=by rw[typeLookup_type,builtinLookup_eq_fast];kernel_rfl
def FD:typeLookup (.type "zip") "__length_hint__"= pure none:=by rw[typeLookup_type,builtinLookup_eq_fast];kernel_rfl
section
variable {prog:Program} {w:World} {A:Around} {E:Value->Shared->Prop} {s:Shared}
def vY (ho:s.heap.get? a=some o) (h:Q (some o) s):wpAny (model prog w) A (loadIfAlive a) Q E s:=
 fun Γ p _=>by
  unfold loadIfAlive;rw[Sem.wp_loadIfAlive,ho];exact h
abbrev JF (h:Heap) (z TI TO T:Addr) (f1:Bool):Prop:=h.get? z=some {cls:=.type "zip",dict:=none,data:=.fields #[rawInt T,.bool f1,.bool false,.ref TI,.ref TO],slots:=#[]}
structure Td (t1 t2:Bool) (h:Heap) (z TI TO i1 i2 l1 l2:Addr) (k:Nat):Prop where
 z:∃T f1,JF h z TI TO T f1/\(∃o,h.get? T=some o)/\T≠z/\T≠i1/\T≠i2
 ti:IsPair h TI (.ref i1) (.ref i2)
 to:∃o,h.get? TO=some o
 i1:dy t1 h i1 l1 k
 i2:dy t2 h i2 l2 k
def GB {z TI TO T:Addr} {f1:Bool} {o:Obj} {Q:Bool->Shared->Prop} (hz:JF s.heap z TI TO T f1) (hT:s.heap.get? T=some o)
  (hQ:∀h',JF h' z TI TO T true->Heap.SameBut z s.heap h'->Q false {s with heap:=h'}):wpAny (model prog w) A (Builtin.SmallTypes.ownedTupleIsFree (.ref z)) Q E s:=by
 unfold Builtin.SmallTypes.ownedTupleIsFree;refine yt (wpAny_field hz rfl (x:=rawInt T) rfl ?_);show wpAny _ _ (loadIfAlive ((T:Int).toNat) >>= _) _ _ _;rw[Int.toNat_natCast];refine yt (vY hT ?_);show wpAny _ _ (field (.ref z) 1 >>= _) _ _ _;refine yt (wpAny_field hz rfl (x:=.bool f1) rfl ?_);cases f1 with
 | true=>exact yv (hQ s.heap hz ⟨rfl,fun _ _=>rfl⟩)
 | false=>
  show wpAny _ _ (setField (.ref z) 1 (.bool true) >>= _) _ _ _;exact yt (wpAny_setField_rec hz (by simp) fun g1 z1 q1=>yv (hQ g1 z1 q1))
def Kv {t1 t2:Bool} {z TI TO i1 i2 l1 l2:Addr} {k:Nat} {xs ys:Array Value} {x y:Value} {Q:Value->Shared->Prop} (D:LM z TI TO i1 i2) (L1:Bt l1 z TO i1 i2) (L2:Bt l2 z TO i1 i2)
  (S:Td t1 t2 s.heap z TI TO i1 i2 l1 l2 k) (hl1:fB t1 s.heap l1 xs) (hl2:fB t2 s.heap l2 ys) (hx:xs[k]?=some x) (hy:ys[k]?=some y)
  (hQ:∀h',Td t1 t2 h' z TI TO i1 i2 l1 l2 (k+1)->IsPair h' ↑s x y->tY z TO i1 i2 s.heap h'->Q (.ref ↑s) {s with heap:=h'}) :
  wpAny (model prog w) A (Builtin.«zip.__next__» ⟨[.ref z],[]⟩) (fun fin s'=>∃v,fin=.done (.ret v)/\Q v s') E s:=by
 obtain⟨⟨T,f1,hz,⟨o,hT⟩,n1,n2,n3⟩,hTI,⟨oT,hTO⟩,h1,h2⟩:=S;show wpAny _ _ (field (.ref z) 2 >>= _) _ _ _;refine yt (wpAny_field hz rfl (x:=.bool false) rfl ?_);show wpAny _ _ (field (.ref z) 3 >>= _) _ _ _;refine yt (wpAny_field hz rfl (x:=.ref TI) rfl (yt (wpAny_seqItems hTI rfl ?_)));show wpAny _ _ (Builtin.SmallTypes.ownedTupleIsFree (.ref z) >>= _) _ _ _;refine yt (GB hz hT fun g1 z1 q1=>?_);simp only[Bool.false_eq_true,if_false];refine yt ?_;simp only[List.forIn_toArray,List.forIn_cons,List.forIn_nil];refine yt (yt (wpAny_holding ?_));show wpAny _ _ (Builtin.SmallTypes.nextOf (.ref i1) >>= _) _ _ _;refine yt (rP (h1.but q1 D.a3) (hl1.but q1 L1.a1) hx fun g2 p2 q2=>yv ?_);refine yv ?_;refine yt (yt (wpAny_holding ?_));show wpAny _ _ (Builtin.SmallTypes.nextOf (.ref i2) >>= _) _ _ _;refine yt (rP ((h2.but q1 D.a4).but q2 D.b1.symm) ((hl2.but q1 L2.a1).but q2 L2.a3) hy fun g3 p3 q3=>yv ?_);refine yv (yv ?_);have sz:g3.objs.size=↑s:=by rw[q3.1,q2.1,q1.1]
 have k3:∀c o,c≠z->c≠i1->c≠i2->s.heap.get? c=some o->g3.get? c=some o:=fun c o c1 c3 c4 e=>q3.extBut _ _ c4 (q2.extBut _ _ c3 (q1.extBut _ _ c1 e));show wpAny _ _ (newTuple [x,y] >>= _) _ _ _;refine yt (wpAny_newTuple ?_);refine yv ⟨_,rfl,?_⟩;have up:∀c o,g3.get? c=some o->(g3.push {cls:=.type "tuple",data:=.seq #[x,y]}).get? c=some o:=fun c o e=>yu _ e;have gp:(g3.push {cls:=.type "tuple",data:=.seq #[x,y]}).get? g3.objs.size=some {cls:=.type "tuple",data:=.seq #[x,y]}:=yw _ rfl;rw[sz] at gp;show Q (.ref g3.objs.size) _;rw[sz];refine hQ _ ⟨⟨T,true,up _ _ (q3.extBut _ _ D.a4.symm (q2.extBut _ _ D.a3.symm z1)),⟨o,up _ _ (k3 _ _ n1 n2 n3 hT)⟩,n1,n2,n3⟩,up _ _ (k3 _ _ D.a1 D.a6 D.a7 hTI),⟨oT,up _ _ (k3 _ _ D.a2 D.a8 D.a9 hTO)⟩,(p2.but q3 D.b1).at (up _),p3.at (up _)⟩ gp fun c o c1 c2 c3 c4 e=>up _ _ (k3 c o c1 c3 c4 e)
def Ku {t1 t2:Bool} {z TI TO i1 i2 l1 l2:Addr} {k:Nat} {xs:Array Value} {Q:Fin->Shared->Prop} (hh:A.handled=none) (D:LM z TI TO i1 i2) (L1:Bt l1 z TO i1 i2)
  (S:Td t1 t2 s.heap z TI TO i1 i2 l1 l2 k) (hl1:fB t1 s.heap l1 xs) (hx:xs[k]?=none)
  (hE:∀h' e,tY z TO i1 i2 s.heap h'->(∃o,h'.get? e=some o/\o.cls=.type "StopIteration")->E (.ref e) {s with heap:=h'}) :
  wpAny (model prog w) A (Builtin.«zip.__next__» ⟨[.ref z],[]⟩) Q E s:=by
 obtain⟨⟨T,f1,hz,⟨o,hT⟩,n1,n2,n3⟩,hTI,⟨oT,hTO⟩,h1,h2⟩:=S;show wpAny _ _ (field (.ref z) 2 >>= _) _ _ _;refine yt (wpAny_field hz rfl (x:=.bool false) rfl ?_);show wpAny _ _ (field (.ref z) 3 >>= _) _ _ _;refine yt (wpAny_field hz rfl (x:=.ref TI) rfl (yt (wpAny_seqItems hTI rfl ?_)));show wpAny _ _ (Builtin.SmallTypes.ownedTupleIsFree (.ref z) >>= _) _ _ _;refine yt (GB hz hT fun g1 z1 q1=>?_);simp only[Bool.false_eq_true,if_false];refine yt ?_;simp only[List.forIn_toArray,List.forIn_cons,List.forIn_nil];refine yt (yt (wpAny_holding ?_));show wpAny _ _ (Builtin.SmallTypes.nextOf (.ref i1) >>= _) _ _ _;refine yt (DI hh (h1.but q1 D.a3) (hl1.but q1 L1.a1) hx fun g2 e q2 he=>?_);exact hE g2 e (fun c o c1 c2 c3 c4 x=>q2 _ _ c3 (q1.extBut _ _ c1 x)) he
def LL (t1 t2:Bool) (h:Heap) (z TI TO i1 i2 l1 l2:Addr) (k:Nat):Prop:=(k=0/\Oe t1 t2 h z TI TO i1 i2 l1 l2 0 .none)\/Td t1 t2 h z TI TO i1 i2 l1 l2 k
def LL.type {t1 t2:Bool} {z TI TO i1 i2 l1 l2:Addr} {k:Nat} (S:LL t1 t2 s.heap z TI TO i1 i2 l1 l2 k):s.TypeIs (.ref z) "zip":=by
 rcases S with⟨_,S⟩ | S
 ·exact⟨_,S.z,rfl⟩
 ·obtain⟨_,_,e,_⟩:=S.z;exact⟨_,e,rfl⟩
theorem LL.at {t1 t2:Bool} {h h':Heap} {z TI TO i1 i2 l1 l2:Addr} {k:Nat} (S:LL t1 t2 h z TI TO i1 i2 l1 l2 k) {B:Addr} (hk:∀c o,c≠B->h.get? c=some o->h'.get? c=some o) (hB:∃o,h'.get? B=some o) (nB:B∉[z,TI,TO,i1,i2]):LL t1 t2 h' z TI TO i1 i2 l1 l2 k:=by
 simp only[zC,zD,or_false,not_or] at nB;obtain⟨b1,b2,b3,b4,b5⟩:=nB;rcases S with⟨e,S⟩ | S
 ·exact .inl ⟨e,hk _ _ (Ne.symm b1) S.z,hk _ _ (Ne.symm b2) S.ti,(let ⟨x,y,q⟩:=S.to;⟨x,y,hk _ _ (Ne.symm b3) q⟩),S.i1.at fun o=>hk _ o (Ne.symm b4),S.i2.at fun o=>hk _ o (Ne.symm b5)⟩
 ·obtain⟨T,f1,z1,⟨o,hT⟩,n1,n2,n3⟩:=S.z
  refine .inr ⟨⟨T,f1,hk _ _ (Ne.symm b1) z1,?_,n1,n2,n3⟩,hk _ _ (Ne.symm b2) S.ti,(let ⟨x,q⟩:=S.to;⟨x,hk _ _ (Ne.symm b3) q⟩),S.i1.at fun o=>hk _ o (Ne.symm b4),S.i2.at fun o=>hk _ o (Ne.symm b5)⟩
  by_cases e:T=B
  ·rw[e];exact hB
  ·exact⟨o,hk _ _ e hT⟩
def LL.obj {t1 t2:Bool} {h:Heap} {z TI TO i1 i2 l1 l2:Addr} {k:Nat} (S:LL t1 t2 h z TI TO i1 i2 l1 l2 k):∀b∈[z,TI,TO,i1,i2],∃o,h.get? b=some o:=by
 intro b hb;simp only[zC,zD,or_false] at hb;rcases S with⟨e,S⟩ | S
 ·rcases hb with rfl | rfl | rfl | rfl | rfl
  ·exact⟨_,S.z⟩
  ·exact⟨_,S.ti⟩
  ·exact let ⟨x,y,q⟩:=S.to;⟨_,q⟩
  ·exact let ⟨o,e,_⟩:=S.i1.get;⟨o,e⟩
  ·exact let ⟨o,e,_⟩:=S.i2.get;⟨o,e⟩
 ·rcases hb with rfl | rfl | rfl | rfl | rfl
  ·obtain⟨_,_,e,_⟩:=S.z;exact⟨_,e⟩
  ·exact⟨_,S.ti⟩
  ·exact S.to
  ·exact let ⟨o,e,_⟩:=S.i1.get;⟨o,e⟩
  ·exact let ⟨o,e,_⟩:=S.i2.get;⟨o,e⟩
def Kt {t1 t2:Bool} {z TI TO i1 i2 l1 l2:Addr} {k:Nat} {xs ys:Array Value} {x y:Value} {Q:Option Value->Shared->Prop} (D:LM z TI TO i1 i2) (L1:Bt l1 z TO i1 i2) (L2:Bt l2 z TO i1 i2)
  (S:LL t1 t2 s.heap z TI TO i1 i2 l1 l2 k) (hl1:fB t1 s.heap l1 xs) (hl2:fB t2 s.heap l2 ys) (hx:xs[k]?=some x) (hy:ys[k]?=some y)
  (hQ:∀h',LL t1 t2 h' z TI TO i1 i2 l1 l2 (k+1)->IsPair h' ↑s x y->tY z TO i1 i2 s.heap h'->Q (some (.ref ↑s)) {s with heap:=h'}) :
  wpAny (model prog w) A (pyNext (.ref z)) Q E s:=by
 have ob:=S.obj;have lt:∀b∈[z,TI,TO,i1,i2],↑s≠b:=fun b hb e=>by
  obtain⟨o,ho⟩:=ob b hb;rw[<-e] at ho;exact absurd (yx ho) (ye _)
 rcases S with⟨e,S⟩ | S
 ·subst e
  refine FE D L1 L2 S hl1 hl2 hx hy fun h' a1 a2 a3=>hQ h' (.inr ⟨⟨_,false,a1.z,⟨_,a2⟩,lt z (by simp),lt i1 (by simp),lt i2 (by simp)⟩,a1.ti,(let ⟨x,y,q⟩:=a1.to;⟨_,q⟩),a1.i1,a1.i2⟩) a2 a3
 ·have hT:s.TypeIs (.ref z) "zip":=by obtain⟨_,_,e,_⟩:=S.z;exact⟨_,e,rfl⟩
  unfold pyNext;exact yt (wpAny_attempt (wpAny_callSpecial?_slot (name:=Str.ofString "__next__") hT F.slot_zip_next (wpAny_call_entry F.slot_zip_next hT F.entry_zip_next (Kv D L1 L2 S hl1 hl2 hx hy fun h' a1 a2 a3=>yv (hQ h' (.inr a1) a2 a3)) (F.args_zip_next_1 _))))
def Ks {t1 t2:Bool} {z TI TO i1 i2 l1 l2:Addr} {k:Nat} {xs ys:Array Value} {Q:Option Value->Shared->Prop} (hh:A.handled=none) (D:LM z TI TO i1 i2) (L1:Bt l1 z TO i1 i2) (L2:Bt l2 z TO i1 i2)
  (S:LL t1 t2 s.heap z TI TO i1 i2 l1 l2 k) (hl1:fB t1 s.heap l1 xs) (hl2:fB t2 s.heap l2 ys) (hx:xs[k]?=none)
  (hQ:∀h',tY z TO i1 i2 s.heap h'->Q none {s with heap:=h'}):wpAny (model prog w) A (pyNext (.ref z)) Q E s:=by
 rcases S with⟨e,S⟩ | S
 ·subst e
  exact FC hh D L1 L2 S hl1 hl2 (.inl hx) hQ
 ·have hT:s.TypeIs (.ref z) "zip":=by obtain⟨_,_,e,_⟩:=S.z;exact⟨_,e,rfl⟩
  unfold pyNext;refine yt (wpAny_attempt (wpAny_callSpecial?_slot (name:=Str.ofString "__next__") hT F.slot_zip_next (wpAny_call_entry F.slot_zip_next hT F.entry_zip_next (Ku hh D L1 S hl1 hx fun h' e hk he=>?_) (F.args_zip_next_1 _))));obtain⟨o,ho,hc⟩:=he;exact yt (wpAny_isInstance (T:="StopIteration") (b:=true) ⟨o,ho,hc⟩ isSubtype_stop (yv (hQ _ hk)))
end
def Pairs (H:Hp) (xs ys us:List V) (k:Nat):Prop:=us.length=k/\∀(j:Nat) (x y:V),j<k->xs[j]?=some x->ys[j]?=some y->∃q,us[j]?=some (.ref q)/\H q=some (.tup [x,y])
def au.PL {t:Bool} {K:yA} {H H':Hp} {a:Addr} {xs:List V} (e:au H H') (h:Cw t K H a xs):Cw t K H' a xs:=by
 cases t
 ·exact e.seq h
 ·exact e.tup h
abbrev Kp (h:Heap) (S:Addr) (acc:Array Value) (c:Nat):Prop:=h.get? S=some {cls:=.type "list",dict:=none,data:=.seq acc c,slots:=#[]}
section
variable {X:Cx} {pins:List (Addr×Obj)} {σ:St}
def L9 {A:Around} {R:Result->Shared->Prop} {t1 t2:Bool} {a b z TI TO i1 i2 S:Addr} {xs ys:List V} {res:Value} (hh:A.handled=none) (D:LM z TI TO i1 i2) (L1:Bt a z TO i1 i2) (L2:Bt b z TO i1 i2) (hl:xs.length=ys.length) (hz:xs.length<=sizeLine) (nS:S∉[z,TI,TO,i1,i2]) :
  ∀(n k:Nat) (s:Shared) (H:Hp) (acc:Array Value) (c:Nat) (us:List V),xs.length-k=n->k<=xs.length->Inv X pins σ H s->(∀b∈[z,TI,TO,i1,i2,S],rK X pins H b)->LL t1 t2 s.heap z TI TO i1 i2 a b k->Cw t1 X.K H a xs->Cw t2 X.K H b ys->
  Kp s.heap S acc c->Vals us acc.toList->Pairs H xs ys us k->
  (∀(s':Shared) (H':Hp) (us':List V) (acc':Array Value) (c':Nat),Inv X pins σ H' s'->rK X pins H' S->au H H'->Kp s'.heap S acc' c'->Vals us' acc'.toList->Pairs H' xs ys us' xs.length->R (.ok (.ret res)) s')->
  codeAny (model X.prog X.w) A (.builtin "list.extend.loop" ⟨[.ref S,.ref z,res],[]⟩) R s:=by
 intro n
 induction n with
 | zero=>
  intro k s H acc c us hk hi I hf S0 q1 q2 hS rv pr hR;have e:k=xs.length:=nofun
  subst e;obtain⟨its,rx,p1,_⟩:=I.sq q1;obtain⟨jts,ry,p2,_⟩:=I.sq q2;refine codeAny_builtin F.entry_extend_loop ?_;rw[Around.under_plainId F.plain_extend_loop _];show wpAny _ A.in1 (pyNext (.ref z) >>= _) _ _ s;have hl:=rx.length;refine yt (Ks (A:=A.in1) hh D L1 L2 S0 p1 p2 (by simp;omega) fun h' hk'=>?_);have kk:∀b u,b∉[z,TI,TO,i1,i2,S]->s.heap.get? b=some u->h'.get? b=some u:=fun b u hb e=>hk' b u (fun z=>hb (by simp[z])) (fun z=>hb (by simp[z])) (fun z=>hb (by simp[z])) (fun z=>hb (by simp[z])) e;have kS:Kp h' S acc c:=hk' S _ (fun z=>nS (by simp[z])) (fun z=>nS (by simp[z])) (fun z=>nS (by simp[z])) (fun z=>nS (by simp[z])) hS;exact yv (hR _ H us acc c (I.turns (t':=s.toks) hf kk) (hf S (by simp)) (fun _ _ e=>e) kS rv pr)
 | succ n ih=>
  intro k s H acc c us hk hi I hf S0 q1 q2 hS rv pr hR;have hlt:k<xs.length:=nofun
  obtain⟨its,rx,p1,_⟩:=I.sq q1;obtain⟨jts,ry,p2,_⟩:=I.sq q2;obtain⟨u,hu,ru⟩:=rx.get (zb hlt);obtain⟨u',hu',ru'⟩:=ry.get (zb (show k<ys.length by omega));refine codeAny_builtin F.entry_extend_loop ?_;rw[Around.under_plainId F.plain_extend_loop _];show wpAny _ A.in1 (pyNext (.ref z) >>= _) _ _ s;have ob:=S0.obj;have lt:∀b∈[z,TI,TO,i1,i2,S],b≠↑s:=fun b hb e=>by
   obtain⟨o,ho⟩:∃o,s.heap.get? b=some o:=by
    rcases zF.mp (show b∈[z,TI,TO,i1,i2]++[S] from hb) with z' | z'
    ·exact ob b z'
    ·rw[zy.mp z'];exact⟨_,hS⟩
   rw[e] at ho;exact absurd (yx ho) (ye _)
  refine yt (Kt (A:=A.in1) D L1 L2 S0 p1 p2 (x:=u) (y:=u') (by simpa using hu) (by simpa using hu') fun h' S1 hT hk'=>?_);have kS:Kp h' S acc c:=hk' S _ (fun z=>nS (by simp[z])) (fun z=>nS (by simp[z])) (fun z=>nS (by simp[z])) (fun z=>nS (by simp[z])) hS;have az:acc.size=k:=by rw[<-Array.length_toList,<-rv.length];exact pr.1
  show wpAny _ A.in1 (updateSeq S (·.push (.ref ↑s)) >>= _) _ _ _;refine yt ?_;have oth:∀b o,b≠S->h'.get? b=some o->(h'.update S (Obj.mapSeq (·.push (.ref ↑s)))).get? b=some o:=fun b o hb e=>(yy _ _ (Ne.symm hb)).trans e;have S2:=yz (Obj.mapSeq (·.push (Value.ref ↑s))) kS rfl;have hn:H ↑s=none:=I.cb.fresh (zk _);have hT2:=oth _ _ (Ne.symm (lt S (by simp))) hT;have I2:Inv X pins σ (upd H ↑s (.tup [xs[k],ys[k]])) {s with heap:=h'.update S (Obj.mapSeq (·.push (.ref ↑s))),toks:=s.toks}:=
   I.xM (t':=s.toks) hf (zk _) (fun b o hb e=>oth b o (fun z=>hb (by simp[z])) (hk' b o (fun z=>hb (by simp[z])) (fun z=>hb (by simp[z])) (fun z=>hb (by simp[z])) (fun z=>hb (by simp[z])) e))
    ⟨by show 2<=sizeLine;decide,[u,u'],.cons ru (.cons ru' .nil),⟨_,hT2,rfl,_,rfl⟩⟩
  have s1:au H (upd H ↑s (.tup [xs[k],ys[k]])):=aS hn;refine wpAny_updateSeq kS rfl (yv ⟨plainId_quiet F.plain_extend_loop _,ih (k+1) _ (upd H ↑s (.tup [xs[k],ys[k]])) (acc.push (.ref ↑s)) _ (us++[.ref ↑s]) nofun hlt I2 (fun b hb=>?_) ?_ (s1.PL q1) (s1.PL q2) S2 ?_ ?_ ?_⟩)
   (by rw[az];omega) (by show(acc.push _).size<=sizeLine+1;rw[Array.size_push,az];omega)
  ·obtain⟨f0,f1,f2,f3,f4,f5⟩:=hf b hb
   exact⟨by rw[aE (lt b hb)];exact f0,f1,f2,f3,f4,f5⟩
  ·exact S1.at (B:=S) oth ⟨_,S2⟩ nS
  ·rw[Array.toList_push]
   exact Vals.append rv (.cons rfl .nil)
  ·refine⟨by rw[zg,pr.1];rfl,fun j x y hj hx hy=>?_⟩
   rcases Nat.lt_or_ge j k with z' | z'
   ·obtain⟨q,e1,e2⟩:=pr.2 j x y z' hx hy
    exact⟨q,by rw[List.getElem?_append_left (by rw[pr.1];exact z')];exact e1,s1 _ _ e2⟩
   ·have e:j=k:=nofun
    subst e;rw[zb hlt] at hx;rw[zb (show j<ys.length by omega)] at hy;cases hx;cases hy;exact⟨↑s,by rw[zZ (by rw[pr.1];exact zk _),pr.1,Nat.sub_self];rfl,ay⟩
  ·exact fun s' H' us' acc' c' I' f' sm l' v' p'=>hR s' H' us' acc' c' I' f' (s1.trans sm) l' v' p'
def Cj {A:Around} {E:Value->Shared->Prop} {s:Shared} {H:Hp} {Q:Value->Shared->Prop} {t1 t2:Bool} {a b z TI TO i1 i2:Addr} {xs ys:List V} (hh:A.handled=none) (D:LM z TI TO i1 i2) (L1:Bt a z TO i1 i2) (L2:Bt b z TO i1 i2) (hl:xs.length=ys.length) (hz:xs.length<=sizeLine)
  (I:Inv X pins σ H s) (hf:∀b∈[z,TI,TO,i1,i2],rK X pins H b) (Z0:Oe t1 t2 s.heap z TI TO i1 i2 a b 0 .none) (q1:Cw t1 X.K H a xs) (q2:Cw t2 X.K H b ys)
  (hQ:∀(s':Shared) (H':Hp) (us':List V) (l:Addr),Inv X pins σ H' s'->H l=none->au H H'->H' l=some (.lst us')->Pairs H' xs ys us' xs.length->Q (.ref l) s') :
  wpAny (model X.prog X.w) A (call (.type "list") [.ref z]) Q E s:=by
 have S0:LL t1 t2 s.heap z TI TO i1 i2 a b 0:=.inl ⟨rfl,Z0⟩;have nS:↑s∉[z,TI,TO,i1,i2]:=fun hb=>by
  obtain⟨o,ho⟩:=S0.obj _ hb;exact absurd (yx ho) (ye _)
 refine callType_codes (Q₁:=fun obj s₁=>obj=.ref ↑s/\s₁={s with heap:=s.heap.push {cls:=.type "list",data:=.seq #[]}}) F.called_list (F.typeCall_list_1 _) F.entry_list_init
  (code_list_new _ ⟨rfl,rfl⟩) fun obj s₁ h₁=>?_
 obtain⟨rfl,rfl⟩:=h₁;have hS:(s.heap.push {cls:=.type "list",data:=.seq #[]}).get? ↑s=some {cls:=.type "list",data:=.seq #[]}:=yw _ rfl;refine⟨⟨_,hS,rfl⟩,F.args_list_init_2 _ _,?_⟩;have kp:∀b o,s.heap.get? b=some o->(s.heap.push {cls:=.type "list",data:=.seq #[]}).get? b=some o:=fun b o e=>yu _ e;have fS:rK X pins H ↑s:=I.uS (zk _) (I.cb.fresh (zk _));have hf6:∀b∈[z,TI,TO,i1,i2,↑s],rK X pins H b:=fun b hb=>by
  rcases zF.mp (show b∈[z,TI,TO,i1,i2]++[↑s] from hb) with z' | z'
  ·exact hf b z'
  ·rw[zy.mp z'];exact fS
 have S1:LL t1 t2 (s.heap.push {cls:=.type "list",data:=.seq #[]}) z TI TO i1 i2 a b 0:=S0.at (B:=↑s) (fun c o _ e=>kp c o e) ⟨_,hS⟩ nS;have I1:Inv X pins σ H {s with heap:=s.heap.push {cls:=.type "list",data:=.seq #[]}}:=I.kept (t':=s.toks) kp;have zz:IsZip (s.heap.push {cls:=.type "list",data:=.seq #[]}) z TI TO .none:=kp _ _ Z0.z;generalize hS0:↑s=S at hS nS fS hf6 ⊢;have s0S:X.s₀.heap.objs.size<=S:=by rw[<-hS0];exact I.sz
 have lo:↑s<=S:=Nat.le_of_eq hS0;clear kp;generalize (s.heap.push {cls:=.type "list",data:=.seq #[]}:Heap)=h1 at hS S1 I1 zz;show wpAny _ A.in1.in1 (do let old <-Builtin.List.listItems (.ref S);Builtin.List.listUpdate (.ref S) (fun _=>#[]);letGo old.toList.reverse;Builtin.List.listExtendWith (.ref S) (.ref z) .none) _ _ _;refine yt ?_;unfold Builtin.List.listItems;refine yt (wpAny_seqItems hS rfl (yv ?_));show wpAny _ A.in1.in1 (updateSeq S (fun _=>#[]) >>= fun _=>letGo (#[]:Array Value).toList.reverse >>= fun _=>Builtin.List.listExtendWith (.ref S) (.ref z) .none) _ _ _;refine yt (wpAny_updateSeq hS rfl ?_);have hS2:=yz (Obj.mapSeq (fun _=>(#[]:Array Value))) hS rfl;have oth:∀b o,b≠S->h1.get? b=some o->(h1.update S (Obj.mapSeq (fun _=>(#[]:Array Value)))).get? b=some o:=
  fun b o hb e=>(yy _ _ (Ne.symm hb)).trans e
 refine yt (wpAny_letGo ?_);have hSI:S≠z:=fun e=>nS (by rw[e];simp);replace zz:=oth _ _ hSI.symm zz;have S2:=S1.at (B:=S) oth ⟨_,hS2⟩ nS;have I2:=I1.turns (t':=s.toks) (ch:=[S]) (fun b hb=>by rw[zy.mp hb];exact fS) (fun b o hb e=>oth b o (fun z=>hb (by simp[z])) e);clear oth S1 I1 hS;generalize (h1.update S (Obj.mapSeq (fun _=>(#[]:Array Value))):Heap)=h2 at hS2 S2 I2 zz;dsimp only at I2 ⊢;unfold Builtin.List.listExtendWith;have hT:Shared.TypeIs {s with heap:=h2,toks:=s.toks} (.ref z) "zip":=S2.type (s:={s with heap:=h2,toks:=s.toks});refine yt (wpAny_typeOf hT ?_);have e1:Builtin.List.listSameRef (.ref S) (.ref z)=false:=by simp[Builtin.List.listSameRef,hSI]
 have e2:(Value.type "zip"== Value.type "list")=false:=by decide
 have e3:(Value.type "zip"== Value.type "tuple")=false:=by decide
 simp only[e1,e2,e3,Bool.or_false,Bool.false_eq_true,if_false];refine yt (wpAny_pyIter_zip (s:={s with heap:=h2,toks:=s.toks}) zz ?_);refine yt (wpAny_holding ?_);unfold Builtin.List.listLengthHint;refine yt (wpAny_specialOf hT HW ?_);show wpAny _ A.in1.in1 (specialOf (Value.ref z) (Str.ofString "__length_hint__") >>= _) _ _ _;refine yt (wpAny_specialOf hT FD ?_);refine yv ?_;show wpAny _ A.in1.in1 (rule "list.extend.makes-room" >>= fun _=>Builtin.List.listTouch (.ref S) >>= fun _=>
  again (.builtin "list.extend.loop" ⟨[.ref S,.ref z,.none],[]⟩)) _ _ _
 refine yt (wpAny_rule ?_);refine yt ?_;show wpAny _ A.in1.in1 (updateSeq S (·.push .none) >>= fun _=>updateSeq S (·.pop)) _ _ _;refine yt (wpAny_updateSeq hS2 rfl ?_);have hS3:=yz (Obj.mapSeq (·.push Value.none)) hS2 rfl;refine wpAny_updateSeq (hz:=by seq_fits) hS3 rfl ?_;have hS4:=yz (Obj.mapSeq (·.pop)) hS3 rfl;have oth:∀b o,b≠S->h2.get? b=some o->((h2.update S (Obj.mapSeq (·.push Value.none))).update S (Obj.mapSeq (·.pop))).get? b=some o:=
  fun b o hb e=>(yy _ _ (Ne.symm hb)).trans ((yy _ _ (Ne.symm hb)).trans e)
 have S4:=S2.at (B:=S) oth ⟨_,hS4⟩ nS;have I4:=I2.turns (t':=s.toks) (ch:=[S]) (fun b hb=>by rw[zy.mp hb];exact fS) (fun b o hb e=>oth b o (fun z=>hb (by simp[z])) e);refine yv ⟨plainId_quiet F.plain_extend_loop _,L9 (X:=X) (pins:=pins) (σ:=σ) (A:=A.in1) hh D L1 L2 hl hz nS xs.length 0 _ H _ _ [] rfl (yf _) I4 hf6 S4 q1 q2 hS4 .nil ⟨rfl,fun j x y hj=>nofun⟩ fun s' H' us' acc' c' I' f' sm l' v' p'=>?_⟩;refine⟨rfl,?_⟩;obtain⟨f0,f1,f2,f3,f4,f5⟩:=f';have I5:Inv X pins σ (upd H' S (.lst us')) s':=I'.RQ f0 (by
  cases q:X.s₀.heap.get? S with
  | none=>rfl
  | some o=>exact absurd (yx q) (Nat.not_lt.mpr s0S)) f1 f4 f5 ⟨by rw[p'.1];exact hz,acc'.toList,c',v',l'⟩
 refine hQ s' _ us' S I5 fS.1 (sm.trans (aS f0)) ay ⟨p'.1,fun j x y hj hx hy=>?_⟩;obtain⟨q,e1,e2⟩:=p'.2 j x y hj hx hy;exact⟨q,e1,aS f0 _ _ e2⟩
def Qs (K:yA) (ta:TA):TE:=fun σ H Q=>ta σ H fun vs H1=>∃t1 t2 a b xs ys,vs=[.ref a,.ref b]/\Cw t1 K H1 a xs/\Cw t2 K H1 b ys/\xs.length=ys.length/\∀l H2 us,au H1 H2->H1 l=none->H2 l=some (.lst us)->Pairs H2 xs ys us xs.length->Q (.ref l) H2
def M6 (hc:X.calm=true) (hg0:Gl X "list") (hm0:X.mg "list"= none) (hg:Gl X "zip") (hm:X.mg "zip"= none) (ha:PA X [a,b] ta)
  (hs:starEach [a,b] X.env=[(false,eval a X.env),(false,eval b X.env)]<|>qe_) (hs2:starEach [b] X.env=[(false,eval b X.env)]<|>qe_)
  (hs1:starEach [.Call (.Name "zip" p2) [a,b] [] pos2] X.env=[(false,eval (.Call (.Name "zip" p2) [a,b] [] pos2) X.env)]<|>qe_) :
  PE X (.Call (.Name "list" p1) [.Call (.Name "zip" p2) [a,b] [] pos2] [] pos1) (Qs X.K ta):=by
 intro pins s σ H Q I h;refine wpAny_Call_Name_kw (iz I hg0 hm0 (by decide +kernel:bootBuiltins "list"= some (.type "list")) ?_ ∅ ∅);refine yL (Q:=_) ?_ hs1 rfl;rw[hs1];refine Calls.spliced_cons ?_;refine Call_ (iz I hg hm NX (yL (cU (ha pos2 pins s σ H _ I h) fun us s1 ⟨vs,H1,I1,r1,q1⟩=>?_) (by rw[hs,hs2]) (by rw[hs2];rfl)));obtain⟨t1,t2,a,b,xs,ys,e,hq,hq',hl,q⟩:=q1;subst e;cases r1 with
 | cons r rr=>
  cases rr with
  | cons r' rr=>
   cases rr;cases r;cases r';obtain⟨its,rv,pl,hz⟩:=I1.sq hq;obtain⟨jts,rv',pl',hz'⟩:=I1.sq hq';have la:=pl.lt;have lb:=pl'.lt;refine FF pl pl' fun g S hk=>?_;refine Calls.spliced_nil ?_;have I2:Inv X pins σ H1 {s1 with heap:=g}:=I1.kept (t':=s1.toks) hk;have D:LM (↑s1+4) (↑s1+2) (↑s1+3) ↑s1 (↑s1+1):=by
    constructor <;> (show _≠(_:Nat)) <;> omega
   have L:∀c,c<↑s1->Bt c (↑s1+4) (↑s1+3) ↑s1 (↑s1+1):=fun c hc=>by
    constructor <;> (show _≠(_:Nat)) <;> omega
   refine Cj (I2.ok.hd hc) D (L a la) (L b lb) hl hz I2 (fun c hc=>?_) S hq hq' fun s' H' us' l I' hn sm e pr=>⟨.ref l,H',I',rfl,q l H' us' sm hn e pr⟩
   have hb':↑s1<=c:=by
    simp only[zC,zD,or_false] at hc;rcases hc with e | e | e | e | e <;> (subst e;first | exact Nat.le_add_right _ _ | exact zk _)
   exact I1.uS hb' (I1.cb.fresh hb')
end
end L2
namespace Sc
open PySem L2 Lm
noncomputable def mixed (c k:Int):Int:=(c%2305843009213693951+1)*(k*k+48271)*40692%2147483399
def du (h0:0<=i) (h1:i<2^n):Sz n i:=by
 unfold Sz;have e:((2^n:Nat):Int)=(2:Int)^n:=by simp
 rw[<-e] at h1;omega
def Ri (h1:48<=c) (h2:c<=57):c∈("0123456789": Str).cps.toList:=by
 have:c=48\/c=49\/c=50\/c=51\/c=52\/c=53\/c=54\/c=55\/c=56\/c=57:=nofun
 rcases this with rfl | rfl | rfl | rfl | rfl | rfl | rfl | rfl | rfl | rfl <;> decide
noncomputable def iV (x:Int×Int):Str:=if x.2=1 then dec x.1 else dec x.1 ++"/" ++ dec x.2
abbrev Item:=Option (Int×Int)×(Int×Int)
noncomputable def rg:Item->Str
 | (none,x)=> "r:" ++ iV x
 | (some q,x)=>dec q.1 ++":" ++ dec q.2 ++":" ++ iV x
def Og (x:Int×Int):Prop:=Rd x/\0<x.1/\x.1<10000/\x.2<10000
def N6 (q:Int×Int):Prop:=-100<q.1/\q.1<100/\-100<q.2/\q.2<100/\(q.2-7*q.1)%12=0
def LS (it:Item):Prop:=Og it.2/\∀q,it.1=some q->N6 q
def gj (h1:c≠45) (h2:¬(48<=c/\c<=57)):c∉(dec n).cps.toList:=by
 intro z
 by_cases h0:0<=n
 ·obtain⟨m,rfl⟩:=yK h0
  exact h2 (lC z)
 ·obtain⟨m,em⟩:∃m:Nat,-n=(m:Int):=⟨(-n).toNat,nofun⟩
  rw[xD nofun,em,cF] at z;rcases zF.mp z with z | z
  ·have e:("-": Str).cps.toList=[45]:=rfl
   rw[e] at z;exact h1 (zy.mp z)
  ·exact h2 (lC z)
def CW (h:Og x):58∉(iV x).cps.toList:=by
 unfold iV;split
 ·exact gj ∅ ∅
 ·rw[cF,cF]
  intro z;rcases zF.mp z with z | z
  ·rcases zF.mp z with z | z
   ·exact gj ∅ ∅ z
   ·have e:("/": Str).cps.toList=[47]:=rfl
    rw[e] at z;exact absurd (zy.mp z) ∅
  ·exact gj ∅ ∅ z
def G8 (h0:0<=n) (h:n<10000):(dec n).length<=4:=by
 obtain⟨m,rfl⟩:=yK h0;exact Dh ∅ nofun
abbrev mD (x:Int×Int):HO:=.tup [.int x.1,.int x.2]
inductive JE (H:Hp):V->Option (Int×Int)->Prop where
 | bI:JE H .bI none
 | ref {b:Addr} {q:Int×Int}:H b=some (mD q)->JE H (.ref b) (some q)
def JE.mono (s:au H H') (h:JE H v o):JE H' v o:=by
 cases h with
 | bI=>exact .bI
 | ref h=>exact .ref (s _ _ h)
def Uw (H:Hp) (v:V) (it:Item):Prop:=∃p pv a,v=.ref p/\H p=some (.tup [pv,.ref a])/\H a=some (mD it.2)/\JE H pv it.1
noncomputable def wR:List Nat:=("0123456789": Str).cps.toList
noncomputable def rn (most:Int) (cs:List Nat):Option Int:=
 if(cs.length:Int)<1 then none else if most<cs.length then none else if cs.all (fun c=>decide (c∈wR))=true then(if cs[0]?=some 48/\1<cs.length then none else some ((NumText.digitsVal cs:Nat):Int)) else none
noncomputable def ov:Option Int->V
 | none=>.bI
 | some n=>.int n
noncomputable def rs (most:Int) (t:Str):Option Int:=if t.cps.toList[0]?=some 45 then(match rn most (t.cps.toList.drop 1) with | some n=>if n=0 then none else some (-n) | none=>none) else rn most t.cps.toList
noncomputable def rp (a b:Str):Option (Int×Int):=match rs 2 a,rs 2 b with
 | some f,some h=>if(h-7*f)%12=0 then some (f,h) else none
 | _,_=>none
noncomputable def Oc (t:Str):Option (Int×Int):=match Txt.split t "/" with
 | [a]=>(match rn 4 a.cps.toList with | some n=>some (red n 1) | none=>none)
 | [a,b]=>(match rn 4 a.cps.toList,rn 4 b.cps.toList with | some n,some m=>if m=0 then none else some (red n m) | _,_=>none)
 | _=>none
noncomputable def lr (t:Str):Option (Int×Int):=match Oc t with
 | some x=>if x.1=0 then none else some x
 | none=>none
noncomputable def ir (t:Str):Option Item:=match lr ((Txt.split t ":").getLast?.getD "") with
 | none=>none
 | some x=>if(Txt.split t ":").dropLast=[("r": Str)] then some (none,x) else match (Txt.split t ":").dropLast with
  | [a,b]=>(match rp a b with | some q=>some (some q,x) | none=>none)
  | _=>none
def Pz (H:Hp) (v:V):Option Item->Prop
 | none=>v=.bI
 | some it=>Uw H v it
def GZ (h:c∈wR):48<=c/\c<=57:=by
 have e:wR=[48,49,50,51,52,53,54,55,56,57]:=rfl;rw[e] at h;simp at h;omega
def MK (h:rn most cs=some n) (hm:most<=4):0<=n/\n<10000/\(cs.all (fun c=>decide (c∈wR))=true):=by
 unfold rn at h;split at h
 ·cases h
 ·split at h
  ·cases h
  ·split at h
   ·rename_i h1 h2 h3
    split at h
    ·cases h
    ·cases h
     refine⟨Int.natCast_nonneg _,?_,h3⟩;have hl:cs.length<=4:=nofun
     have key:∀(l:List Nat) (a:Nat),l.all (fun c=>decide (c∈wR))=true->l.foldl (fun acc c=>acc*10+(c-48)) a<(a+1)*10^l.length:=by
      intro l
      induction l with
      | nil=>intro a _;simp
      | cons c l ih=>
       intro a ha;rw[List.all_cons,zN] at ha;have i3:=GZ (yd ha.1);have i1:=ih (a*10+(c-48)) ha.2;have i2:(a*10+(c-48)+1)*10^l.length<=((a+1)*10)*10^l.length:=Nat.mul_le_mul_right _ nofun;rw[List.foldl_cons,zt,Nat.pow_succ,Nat.mul_comm (10^l.length) 10,<-Nat.mul_assoc];exact yb i1 i2
     have k1:NumText.digitsVal cs<10^cs.length:=by have:=key cs 0 h3;rw[Nat.zero_add,Nat.one_mul] at this;exact this
     have k2:10^cs.length<=10^4:=Nat.pow_le_pow_right ∅ hl;omega
   ·cases h
def Jr (h:cs.all (fun c=>decide (c∈wR))=true):NumText.AllDigits cs:=fun c hc=>by
 have:=(yo.mp h) c hc;exact GZ (yd this)
inductive jR (vs:List V) (H:Hp) (Q:VK) (E:XK):Prop
 | mk (a b:Int) (_:vs=[.int a,.int b]) (_:0<=a) (_:0<=b) (_:Q (.int (Int.gcd a b:Nat)) H)
inductive fZ (vs:List V) (H:Hp) (Q:VK) (E:XK):Prop
 | mk (t b:Int) (_:vs=[.int t,.int b]) (_:0<=t) (_:0<b) (_:Sz 8999 b) (_:∀p H',au H H'->H' p=some (mD (red t b))->Q (.ref p) H')
inductive MB (vs:List V) (H:Hp) (Q:VK) (E:XK):Prop
 | mk (x y:Int×Int) (p q:Addr) (n m:Nat) (_:vs=[.ref p,.ref q]) (_:H p=some (mD x)) (_:H q=some (mD y)) (_:Rd x) (_:Rd y) (_:Bv n x) (_:Bv m y) (_:n+m<=8999) (_:∀r H',au H H'->H' r=some (mD (add x y))->Q (.ref r) H')
inductive Ij (vs:List V) (H:Hp) (Q:VK) (E:XK):Prop
 | mk (x y:Int×Int) (p q:Addr) (_:vs=[.ref p,.ref q]) (_:H p=some (mD x)) (_:H q=some (mD y)) (_:Bv 8999 x) (_:Bv 8999 y) (_:Q (.bl (decide (x.1*y.2<y.1*x.2))) H)
inductive BE (vs:List V) (H:Hp) (Q:VK) (E:XK):Prop
 | mk (c k:Int) (_:vs=[.int c,.int k]) (_:0<=k) (_:k<1000000) (_:Q (.int (mixed c k)) H)
abbrev xZ:Sp:=fZ
inductive ia (vs:List V) (H:Hp) (Q:VK) (E:XK):Prop
 | mk (t:Str) (most:Int) (_:vs=[.str t,.int most]) (_:t.length<=600) (_:∀H',au H H'->Q (ov (rn most t.cps.toList)) H')
inductive mG (vs:List V) (H:Hp) (Q:VK) (E:XK):Prop
 | mk (t:Str) (most:Int) (_:vs=[.str t,.int most]) (_:t.length<=600) (_:∀H',au H H'->Q (ov (rs most t)) H')
inductive nU (vs:List V) (H:Hp) (Q:VK) (E:XK):Prop
 | mk (a b:Str) (_:vs=[.str a,.str b]) (_:a.length<=600) (_:b.length<=600) (_:∀v H',au H H'->JE H' v (rp a b)->Q v H')
def mF (C:Addr):Sp:=fun vs H Q E=>∃(t:Str),vs=[.str t]/\t.length<=600/\(∀x,Oc t=some x->∀p H',au H H'->H' p=some (mD x)->Q (.ref p) H')/\(Oc t=none->∀H',au H H'->E (.ref C) none H')
def gZ:Sp:=fun vs H Q _=>∃(t:Str),vs=[.str t]/\t.length<=600/\∀v H',au H H'->JE H' v (lr t)->Q v H'
def pP:Sp:=fun vs H Q _=>∃(t:Str),vs=[.str t]/\t.length<=600/\∀v H',au H H'->Pz H' v (ir t)->Q v H'
noncomputable def dL (x:Int×Int):Dt:=.tup [.int x.1,.int x.2]
noncomputable def dO (f:α->Dt):Option α->Dt
 | none=>.bI
 | some x=>f x
noncomputable def fb (it:Item):Dt:=.tup [dO dL it.1,dL it.2]
noncomputable def vV (l:List Int):Dt:=.tup (l.map .int)
noncomputable def nh (l:List Str):Dt:=.tup (l.map .str)
abbrev End:=Int×List Int
noncomputable def nH (e:End):Dt:=.tup [.int e.1,vV e.2]
structure Rep where
 first:Int
 last:Int
 times:Int
 ends:List End
noncomputable def jQ (r:Rep):Dt:=.tup [.int r.first,.int r.last,.int r.times,.tup (r.ends.map nH)]
structure L4 where
 aR:Int×Int
 key:Int
 marks:List Str
noncomputable def lD (b:L4):Dt:=.tup [dL b.aR,.int b.key,nh b.marks]
structure Jump where
 xy:Int
 Bu:Int
 dE:Int
 gH:Option Int
noncomputable def jH (j:Jump):Dt:=.tup [.int j.xy,.int j.Bu,.int j.dE,dO .int j.gH]
noncomputable def words (t:Str):List Str:=(Txt.split t " ").filter fun w=>decide (w≠ "")
noncomputable def sgn:List Nat:=("abcdefghijklmnopqrstuvwxyz0123456789": Str).cps.toList
noncomputable def cM (t:Str):Option Str:=if(t.length:Int)<1 then none else if(12:Int)<t.length then none else if t.cps.toList.all (fun c=>decide (c∈sgn))=true then some t else none
noncomputable def os:Option Str->V
 | none=>.bI
 | some x=>.str x
noncomputable def fM (t:Str):Option Int:=rn 3 t.cps.toList
noncomputable def mV (t:Str) (lo hi:Int):Option Int:=match fM t with
 | some n=>if n<lo then none else if hi<n then none else some n
 | none=>none
noncomputable def y6 (a b:Str):Option (Int×Int):=match rp a b with
 | some q=>if 12<(if q.1<0 then -q.1 else q.1) then none else some q
 | none=>none
noncomputable def Cn:List Int:=[1,2,4,8,16,32]
noncomputable def jz (t:Str):Option (Int×Int):=match Txt.split t "/" with
 | [a,b]=>(match mV a 1 32,fM b with | some m,some n=>if n∈Cn then some (m,n) else none | _,_=>none)
 | _=>none
noncomputable def F8 (t:Str):Option Int:=match rs 3 t with
 | some k=>if 7<(if k<0 then -k else k) then none else some k
 | none=>none
noncomputable def oU:List (Option α)->Option (List α)
 | []=>some []
 | none::_=>none
 | some x::r=>match oU r with
  | some l=>some (x::l)
  | none=>none
noncomputable def y7 (t:Str):Option End:=match Txt.split t ":" with
 | [a,b]=>(match fM a,oU ((Txt.split b ",").map fM) with | some n,some ps=>some (n,ps) | _,_=>none)
 | _=>none
noncomputable def lV:List Str->Option (Str×(Int×Int)×(Int×Int))
 | [a,b,c,d]=>(match cM a,y6 b c,Oc d with | some n,some t,some l=>some (n,t,l) | _,_,_=>none)
 | _=>none
noncomputable def qS (ws:List Str):Option (Str×List Str):=match ws with
 | a::b::r=>(match oU ((a::b::r).map cM) with | some (n::ps)=>some (n,ps) | _=>none)
 | _=>none
noncomputable def BP:List Str->Option L4
 | m::k::ms=>(match oU (ms.map cM) with | some l=>(match jz m,F8 k with | some x,some y=>some ⟨x,y,l⟩ | _,_=>none) | none=>none)
 | _=>none
noncomputable def sO:List Str->Option (Str×Int×Str)
 | [a,b,c]=>(match cM a,fM b,cM c with | some x,some y,some z=>some (x,y,z) | _,_,_=>none)
 | _=>none
noncomputable def kA:List Str->Option (Int×Str×List Item)
 | b::p::i::r=>(match oU ((i::r).map ir) with | some l=>if l.all (fun it=>it.1.isNone)=true then none else(match fM b,cM p with | some x,some y=>some (x,y,l) | _,_=>none) | none=>none)
 | _=>none
noncomputable def j7:List Str->Option Rep
 | a::b::c::r=>(match oU (r.map y7) with | some l=>(match fM a,fM b,mV c 2 9 with | some x,some y,some z=>some ⟨x,y,z,l⟩ | _,_,_=>none) | none=>none)
 | _=>none
noncomputable def vL:List Str->Option Jump
 | [a,b,c,d]=>(match fM a,fM b,fM c with | some x,some y,some z=>(match fM d with | some n=>some ⟨x,y,z,some n⟩ | none=>if d ="end" then some ⟨x,y,z,none⟩ else none) | _,_,_=>none)
 | _=>none
noncomputable def one (f:Str->Option α):List Str->Option α
 | [w]=>f w
 | _=>none
inductive Told where
 | bE (n:Str)
 | cN (n:Str) (t l:Int×Int)
 | cw (n:Str) (ps:List Str)
 | bar (b:L4)
 | aG (l:Int×Int)
 | holds (p:Str) (b:Int) (i:Str)
 | aF (b:Int) (p:Str) (its:List Item)
 | rep (r:Rep)
 | ck (j:Jump)
noncomputable def o6:List Str->Option Told
 | []=>none
 | w::r=>
  if w ="player" then(one cM r).map .bE
  else if w ="instrument" then(lV r).map fun x=>.cN x.1 x.2.1 x.2.2
  else if w ="staff" then(qS r).map fun x=>.cw x.1 x.2
  else if w ="bar" then(BP r).map .bar
  else if w ="upbeat" then(one lr r).map .aG
  else if w ="holds" then(sO r).map fun x=>.holds x.1 x.2.1 x.2.2
  else if w ="notes" then(kA r).map fun x=>.aF x.1 x.2.1 x.2.2
  else if w ="repeat" then(j7 r).map .rep
  else if w ="jump" then(vL r).map .ck
  else none
noncomputable def jG (r:Rep):List (Int×Int×List Int):=(r.ends.zip ((r.ends.drop 1).map (·.1)++[r.last+1])).map fun p=>(p.1.1,p.2-1,p.1.2)
noncomputable def sortI (l:List Int):List Int:=l.mergeSort
noncomputable def gh:List End->Int->List Int->Option (Int×List Int)
 | [],a,ps=>some (a,ps)
 | e::r,a,ps=>if e.1<=a then none else if e.2≠sortI e.2 then none else gh r e.1 (ps++e.2)
noncomputable def KR (lo:Int) (n:Nat):List Int:=(List.range n).map fun i=>lo+(i:Nat)
noncomputable def gi (r:Rep):Bool:=match r.ends with
 | []=>true
 | _=>(match gh r.ends (r.first-1) [] with | none=>false | some (a,ps)=>decide (a<=r.last)&&decide (sortI ps=KR 1 (r.times+1-1).toNat))
noncomputable def lQ (rs:List Rep) (r:Rep):Bool:=match rs.getLast? with
 | some q=>if r.first<=q.last then false else decide (r.first<=r.last)&&gi r
 | none=>decide (r.first<=r.last)&&gi r
noncomputable def dR (rs:List Rep) (b:Int):Option Rep:=rs.find? fun r=>decide (r.first<=b)&&decide (b<=r.last)
noncomputable def hJ (rs:List Rep) (b:Int):Bool:=match dR rs b with
 | none=>true
 | some r=>decide (b=r.last)
noncomputable def eC (rs:List Rep) (b:Int):Bool:=match dR rs b with
 | none=>true
 | some r=>decide (b=r.first)
noncomputable def md (rs:List Rep) (b:Int):Bool:=rs.all fun r=>(jG r).all fun e=>!(decide (e.1<=b)&&decide (b<=e.2.1)&&!decide (r.times∈e.2.2))
noncomputable def hX (rs:List Rep) (j:Jump):Bool:=
 if j.dE<j.Bu then false else if j.xy<j.dE then false else
 match j.gH with
 | some c=>(decide (j.xy<c)&&eC rs c&&md rs c)&&(hJ rs j.xy&&eC rs j.Bu&&md rs j.dE)
 | none=>hJ rs j.xy&&eC rs j.Bu&&md rs j.dE
structure cG where
 players:List Str:=[]
 ak:List (Str×(Int×Int)×(Int×Int)):=[]
 aJ:List (Str×List Str):=[]
 aM:List L4:=[]
 aG:Option (Int×Int):=none
 holds:List (Str×List (Int×Str)):=[]
 aF:List ((Int×Str)×List Item):=[]
 repeats:List Rep:=[]
 ck:Option Jump:=none
noncomputable def cG.aR (S:cG) (b:Nat):Int×Int:=match S.aM[b]? with
 | some x=>red x.aR.1 x.aR.2
 | none=>(0,1)
noncomputable def cG.len (S:cG) (b:Nat):Int×Int:=match S.aG with
 | some u=>if b=0 then u else S.aR b
 | none=>S.aR b
noncomputable def ko (l:List Item):Int×Int:=l.foldl (fun t it=>add t it.2) (0,1)
noncomputable def cG.has (S:cG) (bs:List Int):Bool:=bs.all fun b=>decide (b<S.aM.length)
noncomputable def fault (S:cG):Told->Option Str
 | .bE n=>if n∈S.players then some "twice" else if 12<=S.players.length then some "many" else none
 | .cN n _ _=>if n∈S.ak.map (·.1) then some "twice" else if 12<=S.ak.length then some "many" else none
 | .cw n ps=>if n∈S.aJ.map (·.1) then some "twice" else if¬ps.Nodup then some "twice" else if S.aJ.any (fun q=>ps.any fun p=>decide (p∈q.2))=true then some "twice" else if ps.any (fun p=>!decide (p∈S.players))=true then some "name" else none
 | .bar _=>if 200<=S.aM.length then some "many" else none
 | .aG l=>if S.aG.isSome=true then some "twice" else if S.aM.length=0 then some "bar" else if¬l.1*(S.aR 0).2<(S.aR 0).1*l.2 then some "length" else if S.aF.any (fun p=>decide (p.1.1=0))=true then some "length" else none
 | .holds p b i=>
  let hs:=(S.holds.lookup p).getD []
  if(match hs.getLast? with | some q=>decide (b<=q.1) | none=>false)=true then some "twice" else if p∉S.players then some "name" else if i∉S.ak.map (·.1) then some "name" else if¬S.has [b]=true then some "bar" else if 20<=hs.length then some "many" else none
 | .aF b p its=>if(b,p)∈S.aF.map (·.1) then some "twice" else if p∉S.players then some "name" else if¬S.has [b]=true then some "bar" else if ko its≠S.len b.toNat then some "length" else if 40<its.length then some "many" else none
 | .rep r=>if¬S.has ([r.first,r.last]++r.ends.map (·.1))=true then some "bar" else if S.ck.isSome=true then some "form" else if¬lQ S.repeats r=true then some "form" else if 20<=S.repeats.length then some "many" else none
 | .ck j=>if S.ck.isSome=true then some "twice" else if¬S.has ([j.xy,j.Bu,j.dE]++j.gH.toList)=true then some "bar" else if¬hX S.repeats j=true then some "form" else none
noncomputable def fm (hs:List (Str×List (Int×Str))) (p:Str) (h:Int×Str):List (Str×List (Int×Str)):=
 if p∈hs.map (·.1) then hs.map fun q=>if q.1=p then(q.1,q.2++[h]) else q else hs++[(p,[h])]
noncomputable def bJ (S:cG):Told->cG
 | .bE n=>{S with players:=S.players++[n]}
 | .cN n t l=>{S with ak:=S.ak++[(n,t,l)]}
 | .cw n ps=>{S with aJ:=S.aJ++[(n,ps)]}
 | .bar b=>{S with aM:=S.aM++[b]}
 | .aG l=>{S with aG:=some l}
 | .holds p b i=>{S with holds:=fm S.holds p (b,i)}
 | .aF b p its=>{S with aF:=S.aF++[((b,p),its)]}
 | .rep r=>{S with repeats:=S.repeats++[r]}
 | .ck j=>{S with ck:=some j}
theorem cX (h:Is H d v):∀{ds:List Dt} {vs:List V},aB H ds vs->aB H (ds++[d]) (vs++[v])
 | [],_,q=>by unfold aB at q;subst q;show aB H [d] [v];unfold aB;exact⟨v,[],rfl,h,by unfold aB;rfl⟩
 | c::ds,_,q=>by
  unfold aB at q;obtain⟨u,r,rfl,h1,h2⟩:=q;show aB H (c::(ds++[d])) (u::(r++[v]));unfold aB;exact⟨u,_,rfl,h1,cX h h2⟩
def C6 (h:aH K H p xs) (hi:i<xs.length):(LR K p).go i H:=⟨xs,xs[i],h,zb hi⟩
def IW (h:dA K H p xs) (hi:i<xs.length):(Qb K p).go i H:=⟨xs,xs[i],h,zb hi⟩
def je (e:au H H') (h:H a=some (.tup xs)):dA K H' a xs:=dA.of (e _ _ h)
theorem _root_.L2.au.back (s:au H H') (h:H' a=none):H a=none:=by
 cases q:H a with
 | none=>rfl
 | some u=>rw[s _ _ q] at h;cases h
def oQ {α:Type} {J:It} {ws:List α} {enc:α->V} {σ₀:St} {g:TG} {te:TE} {Q:VK} {H1:Hp} (F:α->Dt) (Pσ:St->Prop) (hn:ws.length<=sizeLine) (h0:Pσ σ₀)
  (go:∀i H,i<ws.length->au H1 H->J.go i H) (stop:∀H,au H1 H->J.stop ws.length H) (yl:∀(i:Nat) x H H2 (hi:i<ws.length),au H1 H->J.JL i H x H2->H2=H/\x=enc ws[i])
  (turn:∀(a:α) (σ:St) (H:Hp) (R:St->V->Hp->Prop),a∈ws->au H1 H->Pσ σ->(∀σ3 y H5,au H H5->Is H5 (F a) y->Pσ σ3->R σ3 y H5)->g (enc a) σ H fun σ3 H3=>te σ3 H3 fun y H5=>R σ3 y H5)
  (fin:∀D vs H,au H1 H->H1 D=none->H D=some (.lst vs)->aB H (ws.map F) vs->Q (.ref D) H):dz σ₀ g uh te Q J H1:=by
 refine⟨fun i m xs σ H=>m=ws.length-i/\i<=ws.length/\xs.length=i/\au H1 H/\aB H ((ws.take i).map F) xs/\Pσ σ,⟨_,rfl,yf _,rfl,au.refl _,by simp[aB],h0⟩,?_⟩;rintro i m xs σ H ⟨rfl,hi,hx,sm,il,pσ⟩;rcases Nat.lt_or_ge i ws.length with hlt | hge
 ·refine .inr ⟨go i H hlt sm,nofun,?_⟩
  intro x H2 hy;obtain⟨rfl,rfl⟩:=yl i x H H2 hlt sm hy;refine turn ws[i] σ H2 (fun σ3 y H5=>if true=true then∃m',m'<ws.length-i/\(m'=ws.length-(i+1)/\i+1<=ws.length/\(xs++[y]).length=i+1/\au H1 H5/\aB H5 ((ws.take (i+1)).map F) (xs++[y])/\Pσ σ3) else False) (yk hlt) sm pσ ?_;rintro σ3 y H5 s5 iy p3;rw[if_pos rfl];refine⟨_,nofun,rfl,hlt,by simp[hx],sm.trans s5,?_,p3⟩;rw[List.take_add_one,zb hlt,zj];exact cX iy (il.mono s5)
 ·have e:i=ws.length:=nofun
  subst e;refine .inl ⟨stop H sm,nofun,fun D hD=>?_⟩;have il':aB H (ws.map F) xs:=by rw[zM] at il;exact il
  exact fin D xs _ (sm.trans (aS hD)) (sm.back hD) ay (il'.mono (aS hD))
def A3 {α:Type} {J:It} {ws:List α} {enc:α->V} {σ₀:St} {g:TG} {te:TE} {Q:VK} {H1:Hp} (F:α->Dt) (Pσ:St->Prop) (hn:ws.length<=sizeLine) (h0:Pσ σ₀)
  (go:∀i H,i<ws.length->au H1 H->J.go i H) (stop:∀H,au H1 H->J.stop ws.length H) (yl:∀(i:Nat) x H H2 (hi:i<ws.length),au H1 H->J.JL i H x H2->H2=H/\x=enc ws[i])
  (turn:∀(a:α) (σ:St) (H:Hp) (R:St->V->Hp->Prop),a∈ws->au H1 H->Pσ σ->(∀σ3 y H5,au H H5->Is H5 (F a) y->Pσ σ3->R σ3 y H5)->g (enc a) σ H fun σ3 H3=>te σ3 H3 fun y H5=>R σ3 y H5)
  (fin:∀D vs H,au H1 H->H D=some (.lst vs)->aB H (ws.map F) vs->Q (.ref D) H):dz σ₀ g uh te Q J H1:=oQ F Pσ hn h0 go stop yl turn fun D vs H s _=>fin D vs H s
def cW {K:yA} {α:Type} {p:Addr} {ws:List α} {enc:α->V} {σ₀:St} {g:TG} {te:TE} {Q:VK} {H1:Hp} (F:α->Dt) (Pσ:St->Prop) (hn:ws.length<=sizeLine) (hp:aH K H1 p (ws.map enc)) (h0:Pσ σ₀)
  (turn:∀(a:α) (σ:St) (H:Hp) (R:St->V->Hp->Prop),a∈ws->au H1 H->Pσ σ->(∀σ3 y H5,au H H5->Is H5 (F a) y->Pσ σ3->R σ3 y H5)->g (enc a) σ H fun σ3 H3=>te σ3 H3 fun y H5=>R σ3 y H5)
  (fin:∀D vs H,au H1 H->H1 D=none->H D=some (.lst vs)->aB H (ws.map F) vs->Q (.ref D) H):dz σ₀ g uh te Q (LR K p) H1:=by
 refine oQ F Pσ hn h0 (fun i H hi sm=>C6 (sm.seq hp) (by rw[za];exact hi)) (fun H sm=>⟨_,sm.seq hp,by rw[za];exact zk _⟩) ?_ turn fin;rintro i x H H2 hi sm ⟨rfl,hy⟩;have hx':=hy _ (sm.seq hp);rw[zJ,zb hi] at hx';cases hx';exact⟨rfl,rfl⟩
def fk {K:yA} {α:Type} {p:Addr} {ws:List α} {enc:α->V} {σ₀:St} {g:TG} {te:TE} {Q:VK} {H1:Hp} (F:α->Dt) (Pσ:St->Prop) (hn:ws.length<=sizeLine) (hp:aH K H1 p (ws.map enc)) (h0:Pσ σ₀)
  (turn:∀(a:α) (σ:St) (H:Hp) (R:St->V->Hp->Prop),a∈ws->au H1 H->Pσ σ->(∀σ3 y H5,au H H5->Is H5 (F a) y->Pσ σ3->R σ3 y H5)->g (enc a) σ H fun σ3 H3=>te σ3 H3 fun y H5=>R σ3 y H5)
  (fin:∀D vs H,au H1 H->H D=some (.lst vs)->aB H (ws.map F) vs->Q (.ref D) H):dz σ₀ g uh te Q (LR K p) H1:=by
 refine A3 F Pσ hn h0 (fun i H hi sm=>C6 (sm.seq hp) (by rw[za];exact hi)) (fun H sm=>⟨_,sm.seq hp,by rw[za];exact zk _⟩) ?_ turn fin;rintro i x H H2 hi sm ⟨rfl,hy⟩;have hx':=hy _ (sm.seq hp);rw[zJ,zb hi] at hx';cases hx';exact⟨rfl,rfl⟩
def gG {K:yA} {α:Type} {p:Addr} {ws:List α} {enc:α->V} {σ₀:St} {g:TG} {te:TE} {Q:VK} {H1:Hp} (F:α->Dt) (Pσ:St->Prop) (hn:ws.length<=sizeLine) (hp:H1 p=some (.tup (ws.map enc))) (h0:Pσ σ₀)
  (turn:∀(a:α) (σ:St) (H:Hp) (R:St->V->Hp->Prop),a∈ws->au H1 H->Pσ σ->(∀σ3 y H5,au H H5->Is H5 (F a) y->Pσ σ3->R σ3 y H5)->g (enc a) σ H fun σ3 H3=>te σ3 H3 fun y H5=>R σ3 y H5)
  (fin:∀D vs H,au H1 H->H D=some (.lst vs)->aB H (ws.map F) vs->Q (.ref D) H):dz σ₀ g uh te Q (Qb K p) H1:=by
 refine A3 F Pσ hn h0 (fun i H hi sm=>IW (je sm hp) (by rw[za];exact hi)) (fun H sm=>⟨_,je sm hp,by rw[za];exact zk _⟩) ?_ turn fin;rintro i x H H2 hi sm ⟨rfl,hy⟩;have hx':=hy _ (je sm hp);rw[zJ,zb hi] at hx';cases hx';exact⟨rfl,rfl⟩
noncomputable def gx (v:V):Bool:=decide (v=.bI)
noncomputable def Dt.gx:Dt->Bool
 | .bI=>true
 | _=>false
def Nx:∀{d:Dt} {v:V},Is H d v->gx v=Dt.gx d
 | .bI,_,h=>by unfold Is at h;subst h;rfl
 | .bl _,_,h=>by unfold Is at h;subst h;rfl
 | .int _,_,h=>by unfold Is at h;subst h;rfl
 | .str _,_,h=>by unfold Is at h;subst h;rfl
 | .tup _,_,h=>by unfold Is at h;obtain⟨a,vs,rfl,_⟩:=h;rfl
theorem ke:∀{ds:List Dt} {vs:List V},aB H ds vs->vs.any gx=ds.any Dt.gx
 | [],_,h=>by unfold aB at h;subst h;rfl
 | d::ds,_,h=>by
  unfold aB at h;obtain⟨v,r,rfl,h1,h2⟩:=h;rw[List.any_cons,List.any_cons,Nx h1,ke h2]
theorem iA:∀{bs:List Bool} {vs:List V},aB H (bs.map Dt.bl) vs->vs=bs.map V.bl
 | [],_,h=>by unfold aB at h;exact h
 | b::bs,_,h=>by
  rw[zh] at h;unfold aB at h;obtain⟨v,r,rfl,h1,h2⟩:=h;unfold Is at h1;rw[h1,iA h2];rfl
theorem dM:∀{bs:List Str} {vs:List V},aB H (bs.map Dt.str) vs->vs=bs.map V.str
 | [],_,h=>by unfold aB at h;exact h
 | b::bs,_,h=>by
  rw[zh] at h;unfold aB at h;obtain⟨v,r,rfl,h1,h2⟩:=h;unfold Is at h1;rw[h1,dM h2];rfl
theorem eR:∀{bs:List Int} {vs:List V},aB H (bs.map Dt.int) vs->vs=bs.map V.int
 | [],_,h=>by unfold aB at h;exact h
 | b::bs,_,h=>by
  rw[zh] at h;unfold aB at h;obtain⟨v,r,rfl,h1,h2⟩:=h;unfold Is at h1;rw[h1,eR h2];rfl
theorem DF:∀{bs:List Str},aB H (bs.map Dt.str) (bs.map V.str)
 | []=>by simp[aB]
 | b::bs=>by rw[zh,zh];unfold aB;exact⟨_,_,rfl,by unfold Is;rfl,DF⟩
theorem tI:∀{bs:List Int},aB H (bs.map Dt.int) (bs.map V.int)
 | []=>by simp[aB]
 | b::bs=>by rw[zh,zh];unfold aB;exact⟨_,_,rfl,by unfold Is;rfl,tI⟩
def JH (d:α->Dt):Prop:=∀a,Dt.gx (d a)=false
theorem ji {α:Type} {d:α->Dt} (f:JH d):∀{l:List (Option α)},(l.map (dO d)).any Dt.gx=true->oU l=none
 | [],h=>by cases h
 | none::_,_=>rfl
 | some x::r,h=>by
  rw[zh,List.any_cons] at h;have e:Dt.gx (dO d (some x))=false:=f x;rw[e,Bool.false_or] at h;show(match oU r with | some l=>some (x::l) | none=>none)=none;rw[ji f h]
theorem jh:∀{l:List (Option α)},(l.map (dO d)).any Dt.gx=false->∃xs,oU l=some xs/\l.map (dO d)=xs.map d/\xs.length=l.length
 | [],_=>⟨[],rfl,rfl,rfl⟩
 | none::_,h=>by cases h
 | some x::r,h=>by
  rw[zh,List.any_cons,Bool.or_eq_false_iff] at h;obtain⟨xs,e1,e2,e3⟩:=jh h.2;refine⟨x::xs,?_,?_,by simp[e3]⟩
  ·show(match oU r with | some l=>some (x::l) | none=>none)=_
   rw[e1]
  ·rw[zh,zh,e2];rfl
def GW:JH Dt.str:=fun _=>rfl
def NI:JH Dt.int:=fun _=>rfl
def Rh:JH dL:=fun _=>rfl
def NJ:JH nH:=fun _=>rfl
def Lh:JH fb:=fun _=>rfl
def Az (h:JE H v o):Is H (dO dL o) v:=by
 cases h with
 | bI=>unfold dO Is;rfl
 | ref h=>exact iW h
def fw (h:Is H (dO dL o) v):JE H v o:=by
 cases o with
 | none=>unfold dO Is at h;subst h;exact .bI
 | some q=>
  unfold dO dL Is at h;obtain⟨a,vs,rfl,ha,hl⟩:=h;have e:[Dt.int q.1,Dt.int q.2]=[q.1,q.2].map Dt.int:=rfl;rw[e] at hl;rw[eR hl] at ha;exact .ref ha
def AA (o:Option Int):Is H (dO .int o) (ov o):=by cases o <;> (unfold dO Is;rfl)
def C1 (o:Option Str):Is H (dO .str o) (os o):=by cases o <;> (unfold dO Is;rfl)
def So (h:Pz H v o):Is H (dO fb o) v:=by
 cases o with
 | none=>unfold dO Is;exact h
 | some it=>
  obtain⟨p,pv,a,rfl,h1,h2,h3⟩:=h;unfold dO fb;unfold Is;refine⟨p,_,rfl,h1,?_⟩;unfold aB;refine⟨_,_,rfl,Az h3,?_⟩;unfold aB;exact⟨_,_,rfl,iW h2,by unfold aB;rfl⟩
def FR:Sp:=fun vs H Q _=>∃(t:Str),vs=[.str t]/\t.length<=1000000/\∀p H',au H H'->H' p=some (.lst ((words t).map V.str))->Q (.ref p) H'
def lK:Sp:=fun vs H Q _=>∃(t:Str),vs=[.str t]/\t.length<=600/\∀H',au H H'->Q (os (cM t)) H'
def kr:Sp:=fun vs H Q _=>∃(t:Str),vs=[.str t]/\t.length<=600/\∀H',au H H'->Q (ov (fM t)) H'
inductive xX (vs:List V) (H:Hp) (Q:VK) (E:XK):Prop
 | mk (t:Str) (lo hi:Int) (_:vs=[.str t,.int lo,.int hi]) (_:t.length<=600) (_:∀H',au H H'->Q (ov (mV t lo hi)) H')
def DM:Sp:=fun vs H Q _=>∃(t:Str),vs=[.str t]/\t.length<=600/\∀v H',au H H'->JE H' v (Oc t)->Q v H'
inductive DL (vs:List V) (H:Hp) (Q:VK) (E:XK):Prop
 | mk (a b:Str) (_:vs=[.str a,.str b]) (_:a.length<=600) (_:b.length<=600) (_:∀v H',au H H'->JE H' v (y6 a b)->Q v H')
def BA (K:yA):Sp:=fun vs H Q _=>∃(t:Str),vs=[.str t]/\t.length<=600/\∀v H',au H H'->JE H' v (jz t)->Q v H'
def FV:Sp:=fun vs H Q _=>∃(t:Str),vs=[.str t]/\t.length<=600/\∀H',au H H'->Q (ov (F8 t)) H'
inductive BD (K:yA) (vs:List V) (H:Hp) (Q:VK) (E:XK):Prop
 | mk (a:Addr) (us:List V) (_:vs=[.ref a]) (_:aH K H a us) (_:us.length<=1000000) (_:∀H',au H H'->Q (if us.any gx=true then .bI else .ref a) H')
inductive BC (vs:List V) (H:Hp) (Q:VK) (E:XK):Prop
 | mk (a:Addr) (us:List V) (_:vs=[.ref a]) (_:H a=some (.tup us)) (_:us.length<=1000000) (_:∀H',au H H'->Q (if us.any gx=true then .bI else .ref a) H')
def vm:Sp:=fun vs H Q _=>∃(t:Str),vs=[.str t]/\t.length<=600/\∀v H',au H H'->Is H' (dO nH (y7 t)) v->Q v H'
inductive fY (K:yA) (D:Hp->Hp->V->List Str->Prop) (vs:List V) (H:Hp) (Q:VK) (E:XK):Prop
 | mk (p:Addr) (ws:List Str) (_:vs=[.ref p]) (_:aH K H p (ws.map V.str)) (_:ws.length<=1000000) (_:(∀x∈ws,x.length<=600)) (_:∀v H',au H H'->D H H' v ws->Q v H')
noncomputable def eM (x:Str×(Int×Int)×(Int×Int)):Dt:=.tup [.str x.1,dL x.2.1,dL x.2.2]
noncomputable def gF (x:Str×List Str):Dt:=.tup [.str x.1,nh x.2]
noncomputable def vW (x:Str×Int×Str):Dt:=.tup [.str x.1,.int x.2.1,.str x.2.2]
def Ko (H:Hp) (v:V) (x:Int×Str×List Item):Prop:=∃a q vs,v=.ref a/\H a=some (.tup [.int x.1,.str x.2.1,.ref q])/\H q=some (.lst vs)/\aB H (x.2.2.map fb) vs
def jd (H0 H:Hp) (v:V) (x:Int×Str×List Item):Prop:=∃a q vs,v=.ref a/\H a=some (.tup [.int x.1,.str x.2.1,.ref q])/\H q=some (.lst vs)/\aB H (x.2.2.map fb) vs/\H0 q=none
def jd.at (h:jd H0 H v x):Ko H v x:=by
 obtain⟨a,q,vs,h1,h2,h3,h4,_⟩:=h;exact⟨a,q,vs,h1,h2,h3,h4⟩
theorem jd.back (s:au H00 H0) (h:jd H0 H v x):jd H00 H v x:=by
 obtain⟨a,q,vs,h1,h2,h3,h4,h5⟩:=h;exact⟨a,q,vs,h1,h2,h3,h4,s.back h5⟩
def qz (d:α->Dt) (f:List Str->Option α) (_ H:Hp) (v:V) (ws:List Str):Prop:=Is H (dO d (f ws)) v
def SM (H0 H:Hp) (v:V) (ws:List Str):Prop:=match kA ws with
 | none=>v=.bI
 | some x=>jd H0 H v x
def oP (h:Is H d v):aB H [d] [v]:=by unfold aB;exact⟨_,_,rfl,h,by unfold aB;rfl⟩
def aN (h:Is H d v) (r:aB H ds vs):aB H (d::ds) (v::vs):=by unfold aB;exact⟨_,_,rfl,h,r⟩
def cK:aB H [] []:=by unfold aB;rfl
def cE (h:H a=some (.tup vs)) (r:aB H ds vs):Is H (.tup ds) (.ref a):=by unfold Is;exact⟨_,_,rfl,h,r⟩
def eL:Is H (.str x) (.str x):=by unfold Is;rfl
def cL:Is H (.int x) (.int x):=by unfold Is;rfl
def d8:Is H .bI .bI:=by unfold Is;rfl
def fQ (xs:List V) (k:Nat):kI xs (some (k:Int)) none=xs.drop k:=by
 unfold kI;rw[HT.F5];have e:HT.fC xs.length 0 (some (k:Int))=min k xs.length:=by unfold HT.fC;simp;omega
 rw[e];rcases Nat.le_total k xs.length with h | h
 ·rw[Nat.min_eq_left h]
  exact List.take_of_length_le (by rw[List.length_drop];exact zk _)
 ·rw[Nat.min_eq_right h,List.drop_eq_nil_of_le (zk _),List.drop_eq_nil_of_le h,List.take_nil]
def EX (xs:List V) (k:Nat):kI xs none (some (k:Int))=xs.take k:=by
 unfold kI;rw[HT.F5,List.drop_zero,Nat.sub_zero];have e:HT.fC xs.length xs.length (some (k:Int))=min k xs.length:=by unfold HT.fC;simp;omega
 rw[e];rcases Nat.le_total k xs.length with h | h
 ·rw[Nat.min_eq_left h]
 ·rw[Nat.min_eq_right h,List.take_of_length_le (zk _),List.take_of_length_le h]
def qR (a b:Str) (r:List Str):qS (a::b::r)=(match oU ((a::b::r).map cM) with | some (n::ps)=>some (n,ps) | _=>none):=rfl
def gK (H0 H:Hp) (v:V):Option Told->Prop
 | none=>v=.bI
 | some (.bE n)=>v=.str n
 | some (.cN n t l)=>Is H (eM (n,t,l)) v
 | some (.cw n ps)=>Is H (gF (n,ps)) v
 | some (.bar b)=>Is H (lD b) v
 | some (.aG l)=>Is H (dL l) v
 | some (.holds p b i)=>Is H (vW (p,b,i)) v
 | some (.aF b p its)=>jd H0 H v (b,p,its)
 | some (.rep r)=>Is H (jQ r) v
 | some (.ck j)=>Is H (jH j) v
inductive FU (K:yA) (vs:List V) (H:Hp) (Q:VK) (E:XK):Prop
 | mk (p:Addr) (x:Str) (ws:List Str) (_:vs=[.ref p]) (_:aH K H p ((x::ws).map V.str)) (_:ws.length<=999999) (_:(∀y∈x::ws,y.length<=600)) (_:∀v H',au H H'->gK H H' v (o6 (x::ws))->Q v H')
def nN (h:Is H (dO d o) v) (hg:∀x,Is H (d x) v->gK H0 H v (some (g x))):gK H0 H v (o.map g):=by
 cases o with
 | none=>unfold dO Is at h;exact h
 | some x=>exact hg x h
theorem gK.back (s:au H00 H0):∀{t:Option Told},gK H0 H v t->gK H00 H v t
 | none,h=>h
 | some (.bE _),h=>h
 | some (.cN _ _ _),h=>h
 | some (.cw _ _),h=>h
 | some (.bar _),h=>h
 | some (.aG _),h=>h
 | some (.holds _ _ _),h=>h
 | some (.aF _ _ _),h=>jd.back s h
 | some (.rep _),h=>h
 | some (.ck _),h=>h
def dH {α:Type} {l:List α} {i:Nat} {x:α} (h:l[i]?=some x):l.take (i+1)=l.take i++[x]:=by rw[List.take_add_one,h];rfl
theorem Kb:∀{l:List α} {i:Nat} {x:α},l[i]?=some x->(l.take i).find? p=none->p x=true->l.find? p=some x
 | [],i,x,h,_,_=>by simp at h
 | y::l,0,x,h,_,hx=>by simp at h;subst h;rw[List.find?_cons,hx]
 | y::l,i+1,x,h,hn,hx=>by
  rw[List.take_succ_cons,List.find?_cons] at hn;rw[List.find?_cons];cases q:p y with
  | true=>rw[q] at hn;cases hn
  | false=>rw[q] at hn;exact Kb (by simpa using h) hn hx
def C8 {α:Type} {p:α->Bool} {l:List α} {i:Nat} {x:α} (h:l[i]?=some x) (hn:(l.take i).find? p=none) (hx:p x=false):(l.take (i+1)).find? p=none:=by
 rw[dH h,List.find?_append,hn];simp[hx]
def Cy (K:yA) (H:Hp) (p:Addr) (rs:List Rep):Prop:=∃vs,aH K H p vs/\aB H (rs.map jQ) vs
theorem Cy.mono {K:yA} {H H':Hp} (s:au H H') {p:Addr} {rs:List Rep} (h:Cy K H p rs):Cy K H' p rs:=by
 obtain⟨vs,h1,h2⟩:=h;exact⟨vs,s.seq h1,h2.mono s⟩
def gd (h:Is H (jQ r) v):∃a e,v=.ref a/\H a=some (.tup [.int r.first,.int r.last,.int r.times,.ref e])/\Is H (.tup (r.ends.map nH)) (.ref e):=by
 unfold jQ Is at h;obtain⟨a,vs,rfl,ha,hl⟩:=h;unfold aB at hl;obtain⟨v1,r1,rfl,h1,hl⟩:=hl;unfold aB at hl;obtain⟨v2,r2,rfl,h2,hl⟩:=hl;unfold aB at hl;obtain⟨v3,r3,rfl,h3,hl⟩:=hl;unfold aB at hl;obtain⟨v4,r4,rfl,h4,hl⟩:=hl;unfold aB at hl;subst hl;unfold Is at h1 h2 h3;subst h1 h2 h3;have h4':=h4;unfold Is at h4;obtain⟨e,us,rfl,he,hle⟩:=h4;exact⟨a,e,rfl,ha,h4'⟩
def uV (h:Is H (nH e) v):∃a q,v=.ref a/\H a=some (.tup [.int e.1,.ref q])/\H q=some (.tup (e.2.map V.int)):=by
 unfold nH Is at h;obtain⟨a,vs,rfl,ha,hl⟩:=h;unfold aB at hl;obtain⟨v1,r1,rfl,h1,hl⟩:=hl;unfold aB at hl;obtain⟨v2,r2,rfl,h2,hl⟩:=hl;unfold aB at hl;subst hl;unfold Is at h1;subst h1;unfold vV Is at h2;obtain⟨q,us,rfl,hq,hle⟩:=h2;rw[eR hle] at hq;exact⟨a,q,rfl,ha,hq⟩
def dY {H:Hp} {α:Type} {d:α->Dt} {xs:List α} {vs:List V} {i:Nat} {v:V} (h:aB H (xs.map d) vs) (e:vs[i]?=some v):∃x,xs[i]?=some x/\Is H (d x) v:=by
 obtain⟨c,h1,h2⟩:=h.get e;rw[zJ] at h1;cases q:xs[i]? with
 | none=>rw[q] at h1;cases h1
 | some x=>rw[q] at h1;cases h1;exact⟨x,rfl,h2⟩
def aT {H:Hp} {α:Type} {d:α->Dt} {xs:List α} {vs:List V} (h:aB H (xs.map d) vs):vs.length=xs.length:=by rw[h.len,za]
inductive wa (K:yA) (vs:List V) (H:Hp) (Q:VK) (E:XK):Prop
 | mk (p:Addr) (rs:List Rep) (b:Int) (_:vs=[.ref p,.int b]) (_:Cy K H p rs) (_:∀v,Is H (dO jQ (dR rs b)) v->Q v H)
inductive DN (K:yA) (vs:List V) (H:Hp) (Q:VK) (E:XK):Prop
 | mk (p:Addr) (rs:List Rep) (b:Int) (_:vs=[.ref p,.int b]) (_:Cy K H p rs) (_:Q (.bl (hJ rs b)) H)
inductive DO (K:yA) (vs:List V) (H:Hp) (Q:VK) (E:XK):Prop
 | mk (p:Addr) (rs:List Rep) (b:Int) (_:vs=[.ref p,.int b]) (_:Cy K H p rs) (_:Q (.bl (eC rs b)) H)
noncomputable def Lw (x:Int×Int×List Int):Dt:=.tup [.int x.1,.int x.2.1,vV x.2.2]
inductive Il (vs:List V) (H:Hp) (Q:VK) (E:XK):Prop
 | mk (v:V) (r:Rep) (_:vs=[v]) (_:Is H (jQ r) v) (_:r.ends.length<=1000000) (_:∀p us H',au H H'->H' p=some (.lst us)->aB H' ((jG r).map Lw) us->Q (.ref p) H')
inductive wg (K:yA) (vs:List V) (H:Hp) (Q:VK) (E:XK):Prop
 | mk (p:Addr) (rs:List Rep) (b:Int) (_:vs=[.ref p,.int b]) (_:Cy K H p rs) (_:(∀r∈rs,r.ends.length<=1000000)) (_:∀H',au H H'->Q (.bl (md rs b)) H')
def A2 {α:Type} {J:It} {ws:List α} {σ₀:St} {g:TG} {te:TE} {Q:VK} {H1:Hp} (Y:α->V->Hp->Prop) (F:α->Dt) (Pσ:St->Prop) (hn:ws.length<=sizeLine) (h0:Pσ σ₀)
  (go:∀i H,i<ws.length->au H1 H->J.go i H) (stop:∀H,au H1 H->J.stop ws.length H) (yl:∀(i:Nat) x H H2 (hi:i<ws.length),au H1 H->J.JL i H x H2->au H H2/\Y ws[i] x H2)
  (turn:∀(a:α) (x:V) (σ:St) (H:Hp) (R:St->V->Hp->Prop),a∈ws->au H1 H->Y a x H->Pσ σ->(∀σ3 y H5,au H H5->Is H5 (F a) y->Pσ σ3->R σ3 y H5)->g x σ H fun σ3 H3=>te σ3 H3 fun y H5=>R σ3 y H5)
  (fin:∀D vs H,au H1 H->H D=some (.lst vs)->aB H (ws.map F) vs->Q (.ref D) H):dz σ₀ g uh te Q J H1:=by
 refine⟨fun i m xs σ H=>m=ws.length-i/\i<=ws.length/\xs.length=i/\au H1 H/\aB H ((ws.take i).map F) xs/\Pσ σ,⟨_,rfl,yf _,rfl,au.refl _,by simp[aB],h0⟩,?_⟩;rintro i m xs σ H ⟨rfl,hi,hx,sm,il,pσ⟩;rcases Nat.lt_or_ge i ws.length with hlt | hge
 ·refine .inr ⟨go i H hlt sm,nofun,?_⟩
  intro x H2 hy;obtain⟨s2,hY⟩:=yl i x H H2 hlt sm hy;refine turn ws[i] x σ H2 (fun σ3 y H5=>if true=true then∃m',m'<ws.length-i/\(m'=ws.length-(i+1)/\i+1<=ws.length/\(xs++[y]).length=i+1/\au H1 H5/\aB H5 ((ws.take (i+1)).map F) (xs++[y])/\Pσ σ3) else False) (yk hlt) (sm.trans s2) hY pσ ?_;rintro σ3 y H5 s5 iy p3;rw[if_pos rfl];refine⟨_,nofun,rfl,hlt,by simp[hx],(sm.trans s2).trans s5,?_,p3⟩;rw[List.take_add_one,zb hlt,zj];exact cX iy (il.mono (s2.trans s5))
 ·have e:i=ws.length:=nofun
  subst e;refine .inl ⟨stop H sm,nofun,fun D hD=>?_⟩;have il':aB H (ws.map F) xs:=by rw[zM] at il;exact il
  exact fin D xs _ (sm.trans (aS hD)) ay (il'.mono (aS hD))
structure Ow where
 dx:Addr
 pl:Addr
 ins:Addr
 st:Addr
 ba:Addr
 ho:Addr
 no:Addr
 re:Addr
 hs:List Addr
 ns:List Addr
noncomputable def Ow.lists (o:Ow):List Addr:=[o.pl,o.ba,o.re]++o.hs++o.ns
noncomputable def Ob (o:Ow) (ub jm:V):List (Str×V):=[("players",.ref o.pl),("instruments",.ref o.ins),("staffs",.ref o.st),("bars",.ref o.ba),("upbeat",ub),("holds",.ref o.ho),("notes",.ref o.no),("repeats",.ref o.re),("jump",jm)]
noncomputable def kS (x:Str):Key:=Sum.inr x
noncomputable def kN (x:Int×Str):List Key:=[Sum.inl x.1,Sum.inr x.2]
noncomputable def NU (x:Str×(Int×Int)×(Int×Int)):Dt:=.tup [dL x.2.1,dL x.2.2]
noncomputable def Po (x:Str×List Str):Dt:=nh x.2
noncomputable def Kg (x:Int×Str):Dt:=.tup [.int x.1,.str x.2]
def cm (H:Hp) (d:α->Dt):List (List α)->List Addr->Prop
 | [],as=>as=[]
 | l::r,as=>∃a t vs,as=a::t/\H a=some (.lst vs)/\aB H (l.map d) vs/\cm H d r t
structure bW (C:Addr) (H:Hp) (a:Addr) (S:cG) (o:Ow):Prop where
 obj:∃ub jm,H a=some (.ins C o.dx (Ob o ub jm))/\Is H (dO dL S.aG) ub/\Is H (dO jH S.ck) jm
 pl:H o.pl=some (.lst (S.players.map V.str))
 ins:∃vs,H o.ins=some (.dK ((S.ak.map fun x=>kS x.1).zip vs))/\aB H (S.ak.map NU) vs
 st:∃vs,H o.st=some (.dK ((S.aJ.map fun x=>kS x.1).zip vs))/\aB H (S.aJ.map Po) vs
 ba:∃vs,H o.ba=some (.lst vs)/\aB H (S.aM.map lD) vs
 ho:H o.ho=some (.dK ((S.holds.map fun x=>kS x.1).zip (o.hs.map V.ref)))/\cm H Kg (S.holds.map (·.2)) o.hs
 no:H o.no=some (.dT ((S.aF.map fun x=>kN x.1).zip (o.ns.map V.ref)))/\cm H fb (S.aF.map (·.2)) o.ns
 re:∃vs,H o.re=some (.lst vs)/\aB H (S.repeats.map jQ) vs
 nd:o.lists.Nodup
 dd:[o.ins,o.st,o.ho].Nodup
theorem cm.mono (s:au H H'):∀{ls:List (List α)} {as:List Addr},cm H d ls as->cm H' d ls as
 | [],_,h=>h
 | l::r,_,⟨a,t,vs,e,h1,h2,h3⟩=>⟨a,t,vs,e,s _ _ h1,h2.mono s,cm.mono s h3⟩
theorem bW.mono (s:au H H') (h:bW C H a S o):bW C H' a S o where
 obj:=by obtain⟨ub,jm,h1,h2,h3⟩:=h.obj;exact⟨ub,jm,s _ _ h1,h2.mono s,h3.mono s⟩
 pl:=s _ _ h.pl
 ins:=by obtain⟨vs,h1,h2⟩:=h.ins;exact⟨vs,s _ _ h1,h2.mono s⟩
 st:=by obtain⟨vs,h1,h2⟩:=h.st;exact⟨vs,s _ _ h1,h2.mono s⟩
 ba:=by obtain⟨vs,h1,h2⟩:=h.ba;exact⟨vs,s _ _ h1,h2.mono s⟩
 ho:=⟨s _ _ h.ho.1,h.ho.2.mono s⟩
 no:=⟨s _ _ h.no.1,h.no.2.mono s⟩
 re:=by obtain⟨vs,h1,h2⟩:=h.re;exact⟨vs,s _ _ h1,h2.mono s⟩
 nd:=h.nd
 dd:=h.dd
def cS (o:Option HO):Prop:=∀vs,o≠some (.tup vs)
mutual
theorem Is.upd (hx:cS (H x)):∀{d:Dt} {v:V},Is H d v->Is (upd H x o) d v
 | .bI,_,h=>by unfold Is at h ⊢;exact h
 | .bl _,_,h=>by unfold Is at h ⊢;exact h
 | .int _,_,h=>by unfold Is at h ⊢;exact h
 | .str _,_,h=>by unfold Is at h ⊢;exact h
 | .tup l,_,h=>by
  unfold Is at h ⊢;obtain⟨a,vs,e,ha,hl⟩:=h;have ne:a≠x:=fun z=>hx vs (by rw[<-z];exact ha);exact⟨a,vs,e,by rw[aE ne];exact ha,aB.upd hx hl⟩
theorem aB.upd (hx:cS (H x)):∀{l:List Dt} {vs:List V},aB H l vs->aB (L2.upd H x o) l vs
 | [],_,h=>by unfold aB at h ⊢;exact h
 | d::l,_,h=>by
  unfold aB at h ⊢;obtain⟨v,r,e,hv,hr⟩:=h;exact⟨v,r,e,Is.upd hx hv,aB.upd hx hr⟩
end
theorem cm.upd (hx:cS (H x)):∀{ls:List (List α)} {as:List Addr},x∉as->cm H d ls as->cm (L2.upd H x o) d ls as
 | [],_,_,h=>h
 | l::r,_,nx,⟨a,t,vs,e,h1,h2,h3⟩=>by
  subst e;have ne:a≠x:=fun z=>nx (by rw[z];exact zp);exact⟨a,t,vs,rfl,by rw[aE ne];exact h1,aB.upd hx h2,cm.upd hx (fun z=>nx (zm _ z)) h3⟩
structure Cf (K:yA) (C:Addr):Prop where
 cls:PD K C
 players:fc K C "players"
 ak:fc K C "instruments"
 aJ:fc K C "staffs"
 aM:fc K C "bars"
 aG:fc K C "upbeat"
 holds:fc K C "holds"
 aF:fc K C "notes"
 repeats:fc K C "repeats"
 ck:fc K C "jump"
def Pj (n:Nat):NumText.digitsVal (dec (n:Int)).cps.toList=n:=by rw[xE];exact PySem.W.KIN.val_back n
def QF {most:Int} {n k:Nat} (hk:0<k) (hm:(k:Int)<=most) (h:n<10^k):rn most (dec (n:Int)).cps.toList=some (n:Int):=by
 have l1:=G7 (n:=n);have l2:=Dh hk h;have el:(dec (n:Int)).cps.toList.length=(dec (n:Int)).length:=Array.length_toList;have ha:((dec (n:Int)).cps.toList.all fun c=>decide (c∈wR))=true:=yo.mpr fun c hc=>ze (Ri (lC hc).1 (lC hc).2);unfold rn;rw[if_neg nofun,if_neg nofun,if_pos ha,if_neg,Pj];rintro⟨z1,z2⟩;have:=Ln (n:=n) (by rw[<-Array.getElem?_toList];exact z1);omega
def oX {most n:Int} {k:Nat} (hk:0<k) (hm:(k:Int)<=most) (h0:0<=n) (h:n<10^k):rn most (dec n).cps.toList=some n:=by
 obtain⟨m,rfl⟩:=yK h0;exact QF hk hm (by exact_mod_cast h)
def fJ {n:Int} (h0:0<=n) (h:n<1000):fM (dec n)=some n:=oX (k:=3) ∅ ∅ h0 nofun
def CN (h0:0<=n) (h:n<1000) (h1:lo<=n) (h2:n<=hi):mV (dec n) lo hi=some n:=by
 unfold mV;rw[fJ h0 h];dsimp only;rw[if_neg nofun,if_neg nofun]
def Iw {most n:Int} {k:Nat} (hk:0<k) (hm:(k:Int)<=most) (h1:-(10^k)<n) (h2:n<10^k):rs most (dec n)=some n:=by
 unfold rs
 by_cases h0:0<=n
 ·rw[if_neg,oX hk hm h0 h2]
  intro z;obtain⟨m,rfl⟩:=yK h0;have:=lC (zB z);omega
 ·have e:(dec n).cps.toList=45::(dec (-n)).cps.toList:=by rw[xD nofun,cF];rfl
  rw[e,if_pos (show(45::(dec (-n)).cps.toList)[0]?=some 45 from rfl)];show(match rn most (dec (-n)).cps.toList with | some n=>if n=0 then none else some (-n) | none=>none)=_;rw[oX hk hm nofun nofun];dsimp only;rw[if_neg nofun,Int.neg_neg]
def MI {q:Int×Int} (h:N6 q):rp (dec q.1) (dec q.2)=some q:=by
 obtain⟨h1,h2,h3,h4,h5⟩:=h;unfold rp;rw[Iw (k:=2) ∅ ∅ nofun nofun,Iw (k:=2) ∅ ∅ nofun nofun];dsimp only;rw[if_pos h5]
def G9 (n:Int):47∉(dec n).cps.toList:=gj ∅ ∅
def Ke (n:Int):58∉(dec n).cps.toList:=gj ∅ ∅
def GK {x:Int×Int} (h:Rd x) (h1:x.1<10000) (h2:x.2<10000):Oc (iV x)=some x:=by
 obtain⟨p1,p2,p3⟩:=h.pos;unfold iV Oc
 by_cases c:x.2=1
 ·rw[if_pos c,show Txt.split (dec x.1) "/"= [dec x.1] from split1 (c:=47) (G9 _)]
  dsimp only;rw[oX (k:=4) ∅ ∅ p1 nofun];dsimp only;rw[<-c,p3]
 ·rw[if_neg c,show Txt.split (dec x.1 ++"/" ++ dec x.2) "/"= [dec x.1,dec x.2] from DJ (c:=47) (G9 _) (G9 _)]
  dsimp only;rw[oX (k:=4) ∅ ∅ p1 nofun,oX (k:=4) ∅ ∅ nofun nofun];dsimp only;rw[if_neg nofun,p3]
def Ew (h:Og x):lr (iV x)=some x:=by
 obtain⟨h1,h2,h3,h4⟩:=h;unfold lr;rw[GK h1 h3 h4];dsimp only;rw[if_neg nofun]
def O7 (h:LS it):ir (rg it)=some it:=by
 obtain⟨o,x⟩:=it;obtain⟨h1,h2⟩:=h;cases o with
 | none=>
  have e:Txt.split (rg (none,x)) ":"= [("r": Str),iV x]:=DJ (c:=58) (a:="r") ∅ (CW h1);unfold ir;rw[e];show(match lr (iV x) with | none=>none | some x=>_)=_;rw[Ew h1];exact if_pos rfl
 | some q=>
  have e:Txt.split (rg (some q,x)) ":"= [dec q.1,dec q.2,iV x]:=QB (c:=58) (Ke _) (Ke _) (CW h1);unfold ir;rw[e];show(match lr (iV x) with | none=>none | some x=>_)=_;rw[Ew h1];dsimp only;rw[if_neg (by simp)];show(match rp (dec q.1) (dec q.2) with | some q=>some (some q,x) | none=>none)=_;rw[MI (h2 q rfl)]
def Iy (h1:1<=a) (h2:a<=32) (h3:b∈Cn):jz (dec a ++"/" ++ dec b)=some (a,b):=by
 have hb:0<=b/\b<1000:=by
  unfold Cn at h3;simp at h3;omega
 unfold jz;rw[show Txt.split (dec a ++"/" ++ dec b) "/"= [dec a,dec b] from DJ (c:=47) (G9 _) (G9 _)];dsimp only;rw[CN nofun nofun h1 h2,fJ hb.1 hb.2];dsimp only;rw[if_pos h3]
def ML {k:Int} (h1:-7<=k) (h2:k<=7):F8 (dec k)=some k:=by
 unfold F8;rw[Iw (k:=3) ∅ ∅ nofun nofun];dsimp only;rw[if_neg (by split <;> omega)]
def KO (h:N6 q) (h1:-12<=q.1) (h2:q.1<=12):y6 (dec q.1) (dec q.2)=some q:=by
 unfold y6;rw[MI h];dsimp only;rw[if_neg (by split <;> omega)]
theorem oS:∀{l:List α},(∀x∈l,f (g x)=some x)->oU ((l.map g).map f)=some l
 | [],_=>rfl
 | x::l,h=>by
  rw[zh,zh,h x zp];unfold oU;rw[oS fun y hy=>h y (zm _ hy)]
noncomputable def pO (e:End):Str:=dec e.1 ++":" ++ Str.join "," (e.2.map dec)
def Ux (e:End):Prop:=0<=e.1/\e.1<1000/\e.2≠[]/\∀p∈e.2,0<=p/\p<1000
theorem pz (hs:c∉sep.cps.toList):∀{zs:List Str},(∀z∈zs,c∉z.cps.toList)->c∉(Str.join sep zs).cps.toList
 | [],_=>by show c∉("": Str).cps.toList;exact zD
 | [z],h=>h z zp
 | z::y::r,h=>by
  rw[fh,cF,cF];intro m;rcases zF.mp m with m | m
  ·rcases zF.mp m with m | m
   ·exact h z zp m
   ·exact hs m
  ·exact pz hs (fun x hx=>h x (zm _ hx)) m
def MN (h:Ux e):y7 (pO e)=some e:=by
 obtain⟨h1,h2,h3,h4⟩:=h;have f:58∉(Str.join "," (e.2.map dec)).cps.toList:=pz ∅ fun z hz=>by
  obtain⟨y,_,rfl⟩:=zG.mp hz;exact Ke _
 unfold y7 pO;rw[show Txt.split (dec e.1 ++":" ++ Str.join "," (e.2.map dec)) ":"= [dec e.1,Str.join "," (e.2.map dec)] from DJ (c:=58) (Ke _) f];dsimp only;rw[show Txt.split (Str.join "," (e.2.map dec)) ","= e.2.map dec from gy (c:=44) (by simpa using h3) fun z hz=>by
  obtain⟨y,_,rfl⟩:=zG.mp hz;exact gj ∅ ∅]
 rw[fJ h1 h2,oS fun x hx=>fJ (h4 x hx).1 (h4 x hx).2]
def LN (w:Str):Prop:=w≠ ""/\32∉w.cps.toList/\10∉w.cps.toList
def HZ (ne:ws≠[]) (h:∀w∈ws,LN w):words (Str.join " " ws)=ws:=by
 unfold words;rw[show Txt.split (Str.join " " ws) " "= ws from gy (c:=32) ne fun w hw=>(h w hw).2.1];exact List.filter_eq_self.mpr fun w hw=>ze (h w hw).1
def fP (n:Int):LN (dec n):=by
 refine⟨fun z=>?_,gj ∅ ∅,gj ∅ ∅⟩
 by_cases h:0<=n
 ·obtain⟨m,rfl⟩:=yK h
  have:=G7 (n:=m);rw[z] at this;exact absurd this ∅
 ·have e:(dec n).cps.toList=45::(dec (-n)).cps.toList:=by rw[xD nofun,cF];rfl
  rw[z] at e;cases e
def HC (ha:LN a) (hb1:32∉b.cps.toList) (hb2:10∉b.cps.toList):LN (a++b):=by
 refine⟨fun z=>ha.1 (lI ?_),fun m=>?_,fun m=>?_⟩
 ·have e:(a++b).cps.toList=("": Str).cps.toList:=by rw[z]
  rw[cF] at e;exact(List.append_eq_nil_iff.mp e).1
 ·rw[cF] at m
  rcases zF.mp m with m | m
  ·exact ha.2.1 m
  ·exact hb1 m
 ·rw[cF] at m
  rcases zF.mp m with m | m
  ·exact ha.2.2 m
  ·exact hb2 m
def Fb (ha:LN a) (hb1:32∉b.cps.toList) (hb2:10∉b.cps.toList) (hc:LN c):LN (a++b++c):=HC (HC ha hb1 hb2) hc.2.1 hc.2.2
def Av (x:Int×Int):LN (iV x):=by
 unfold iV;split
 ·exact fP _
 ·exact Fb (fP _) ∅ ∅ (fP _)
def Rb (it:Item):LN (rg it):=by
 obtain⟨o,x⟩:=it;cases o with
 | none=>exact HC (a:="r:") ⟨∅,∅,∅⟩ (Av x).2.1 (Av x).2.2
 | some q=>exact Fb (Fb (fP _) ∅ ∅ (fP _)) ∅ ∅ (Av x)
def Ro (e:End):LN (pO e):=by
 have f:∀c,c≠44->c≠45->¬(48<=c/\c<=57)->c∉(Str.join "," (e.2.map dec)).cps.toList:=fun c h0 h1 h2=>pz (by show c∉[44];simpa using h0) fun z hz=>by
  obtain⟨y,_,rfl⟩:=zG.mp hz;exact gj h1 h2
 unfold pO;exact HC (HC (fP _) ∅ ∅) (f 32 ∅ ∅ ∅) (f 10 ∅ ∅ ∅)
def gs (n:Str):Prop:=cM n=some n
def gs.w (h:gs n):LN n:=by
 unfold gs cM at h;split at h
 ·cases h
 ·split at h
  ·cases h
  ·split at h
   ·rename_i h1 _ h3
    have hs:∀c,c∉sgn->c∉n.cps.toList:=fun c hc m=>hc (yd (yo.mp h3 c m));refine⟨fun z=>h1 (by rw[z];decide),hs 32 ∅,hs 10 ∅⟩
   ·cases h
noncomputable def ctxt:Option Int->Str
 | none=> "end"
 | some n=>dec n
noncomputable def wordsOf:Told->List Str
 | .bE n=>["player",n]
 | .cN n t l=>["instrument",n,dec t.1,dec t.2,iV l]
 | .cw n ps=> "staff":: n::ps
 | .bar b=> "bar":: (dec b.aR.1 ++"/" ++ dec b.aR.2)::dec b.key::b.marks
 | .aG l=>["upbeat",iV l]
 | .holds p b i=>["holds",p,dec b,i]
 | .aF b p its=> "notes":: dec b::p::its.map rg
 | .rep r=> "repeat":: dec r.first::dec r.last::dec r.times::r.ends.map pO
 | .ck j=>["jump",dec j.xy,dec j.Bu,dec j.dE,ctxt j.gH]
noncomputable def rowOf (t:Told):Str:=Str.join " " (wordsOf t)
def NB (n:Int):Prop:=0<=n/\n<1000
def P6:Told->Prop
 | .bE n=>gs n
 | .cN n t l=>gs n/\N6 t/\-12<=t.1/\t.1<=12/\Lm.Rd l/\l.1<10000/\l.2<10000
 | .cw n ps=>gs n/\ps≠[]/\∀p∈ps,gs p
 | .bar b=>1<=b.aR.1/\b.aR.1<=32/\b.aR.2∈Cn/\-7<=b.key/\b.key<=7/\∀m∈b.marks,gs m
 | .aG l=>Og l
 | .holds p b i=>gs p/\NB b/\gs i
 | .aF b p its=>NB b/\gs p/\(∀it∈its,LS it)/\its.all (fun it=>it.1.isNone)=false
 | .rep r=>NB r.first/\NB r.last/\2<=r.times/\r.times<=9/\∀e∈r.ends,Ux e
 | .ck j=>NB j.xy/\NB j.Bu/\NB j.dE/\∀c,j.gH=some c->NB c
def Km (h:∀p∈l,gs p):oU (l.map cM)=some l:=by
 have:=oS (f:=cM) (g:=fun x:Str=>x) (l:=l) h
 rwa [List.map_id'] at this
def IA (h:P6 t):o6 (wordsOf t)=some t:=by
 cases t with
 | bE n=>
  show(cM n).map Told.bE=_;rw[show cM n=some n from h];rfl
 | cN n t l=>
  obtain⟨h1,h2,h3,h4,h5,h6,h7⟩:=h;show(lV [n,dec t.1,dec t.2,iV l]).map (fun x=>Told.cN x.1 x.2.1 x.2.2)=_;unfold lV;dsimp only;rw[show cM n=some n from h1,KO h2 h3 h4,GK h5 h6 h7];rfl
 | cw n ps=>
  obtain⟨h1,h2,h3⟩:=h;show(qS (n::ps)).map (fun x=>Told.cw x.1 x.2)=_;obtain⟨b,r,rfl⟩:=List.exists_cons_of_ne_nil h2;rw[qR,Km (l:=n::b::r) fun p hp=>by
   rcases zC.mp hp with e | e
   ·rw[e];exact h1
   ·exact h3 p e]
  rfl
 | bar b=>
  obtain⟨h1,h2,h3,h4,h5,h6⟩:=h;show(BP ((dec b.aR.1 ++"/" ++ dec b.aR.2)::dec b.key::b.marks)).map Told.bar=_;unfold BP;dsimp only;rw[Km h6,Iy h1 h2 h3,ML h4 h5];rfl
 | aG l=>
  show(lr (iV l)).map Told.aG=_;rw[Ew h];rfl
 | holds p b i=>
  obtain⟨h1,h2,h3⟩:=h;show(sO [p,dec b,i]).map (fun x=>Told.holds x.1 x.2.1 x.2.2)=_;unfold sO;dsimp only;rw[show cM p=some p from h1,fJ h2.1 h2.2,show cM i=some i from h3];rfl
 | aF b p its=>
  obtain⟨h1,h2,h3,h4⟩:=h;show(kA (dec b::p::its.map rg)).map (fun x=>Told.aF x.1 x.2.1 x.2.2)=_;cases its with
  | nil=>cases h4
  | cons i r=>
   show(kA (dec b::p::rg i::r.map rg)).map _=_;unfold kA;have e:=oS (f:=ir) (g:=rg) (l:=i::r) fun x hx=>O7 (h3 x hx);rw[zh] at e;dsimp only;rw[e];dsimp only;rw[h4,fJ h1.1 h1.2,show cM p=some p from h2];rfl
 | rep r=>
  obtain⟨h1,h2,h3,h4,h5⟩:=h;show(j7 (dec r.first::dec r.last::dec r.times::r.ends.map pO)).map Told.rep=_;unfold j7;dsimp only;rw[oS fun x hx=>MN (h5 x hx),fJ h1.1 h1.2,fJ h2.1 h2.2,CN nofun nofun h3 h4];rfl
 | ck j=>
  obtain⟨h1,h2,h3,h4⟩:=h;show(vL [dec j.xy,dec j.Bu,dec j.dE,ctxt j.gH]).map Told.ck=_;unfold vL;dsimp only;rw[fJ h1.1 h1.2,fJ h2.1 h2.2,fJ h3.1 h3.2];obtain⟨a,b,c,d⟩:=j;cases d with
  | none=>rfl
  | some n=>
   dsimp only[ctxt];rw[fJ (h4 n rfl).1 (h4 n rfl).2];rfl
def JM (h:P6 t):∀w∈wordsOf t,LN w:=by
 have lit:∀s:Str,s≠ ""->32∉s.cps.toList->10∉s.cps.toList->LN s:=fun s a b c=>⟨a,b,c⟩
 cases t with
 | bE n=>
  intro w hw;simp only[wordsOf,zC,zD,or_false] at hw;rcases hw with rfl | rfl
  ·exact lit _ ∅ ∅ ∅
  ·exact gs.w h
 | cN n t l=>
  intro w hw;simp only[wordsOf,zC,zD,or_false] at hw;rcases hw with rfl | rfl | rfl | rfl | rfl
  ·exact lit _ ∅ ∅ ∅
  ·exact gs.w h.1
  ·exact fP _
  ·exact fP _
  ·exact Av _
 | cw n ps=>
  intro w hw;simp only[wordsOf,zC] at hw;rcases hw with rfl | rfl | hw
  ·exact lit _ ∅ ∅ ∅
  ·exact gs.w h.1
  ·exact gs.w (h.2.2 _ hw)
 | bar b=>
  intro w hw;simp only[wordsOf,zC] at hw;rcases hw with rfl | rfl | rfl | hw
  ·exact lit _ ∅ ∅ ∅
  ·exact Fb (fP _) ∅ ∅ (fP _)
  ·exact fP _
  ·exact gs.w (h.2.2.2.2.2 _ hw)
 | aG l=>
  intro w hw;simp only[wordsOf,zC,zD,or_false] at hw;rcases hw with rfl | rfl
  ·exact lit _ ∅ ∅ ∅
  ·exact Av _
 | holds p b i=>
  intro w hw;simp only[wordsOf,zC,zD,or_false] at hw;rcases hw with rfl | rfl | rfl | rfl
  ·exact lit _ ∅ ∅ ∅
  ·exact gs.w h.1
  ·exact fP _
  ·exact gs.w h.2.2
 | aF b p its=>
  intro w hw;simp only[wordsOf,zC,zG] at hw;rcases hw with rfl | rfl | rfl | ⟨x,_,rfl⟩
  ·exact lit _ ∅ ∅ ∅
  ·exact fP _
  ·exact gs.w h.2.1
  ·exact Rb _
 | rep r=>
  intro w hw;simp only[wordsOf,zC,zG] at hw;rcases hw with rfl | rfl | rfl | rfl | ⟨x,_,rfl⟩
  ·exact lit _ ∅ ∅ ∅
  ·exact fP _
  ·exact fP _
  ·exact fP _
  ·exact Ro _
 | ck j=>
  intro w hw;simp only[wordsOf,zC,zD,or_false] at hw;rcases hw with rfl | rfl | rfl | rfl | rfl
  ·exact lit _ ∅ ∅ ∅
  ·exact fP _
  ·exact fP _
  ·exact fP _
  ·unfold ctxt
   cases j.gH with
   | none=>exact lit _ ∅ ∅ ∅
   | some n=>exact fP _
def Ia (t:Told):wordsOf t≠[]:=by cases t <;> simp[wordsOf]
def KP (h:P6 t):words (rowOf t)=wordsOf t:=HZ (Ia t) (JM h)
def MJ (h:P6 t):10∉(rowOf t).cps.toList:=pz ∅ fun w hw=>(JM h w hw).2.2
noncomputable def kindOf:HO->Nat
 | .lst _=>0
 | .tup _=>1
 | .ins _ _ _=>2
 | .dK _=>3
 | .dT _=>4
 | _=>5
def bc {H:Hp} {a b:Addr} {u v:HO} (h1:H a=some u) (h2:H b=some v) (k:kindOf u≠kindOf v):a≠b:=fun z=>by
 rw[z,h2] at h1;cases h1;exact k rfl
noncomputable def own (a:Addr) (o:Ow):List Addr:=[a,o.pl,o.ins,o.st,o.ba,o.ho,o.no,o.re]++o.hs++o.ns
def xq (L:List Addr) (H H':Hp):Prop:=∀b u,b∉L->H b=some u->H' b=some u
def xq.of (s:au H H'):xq L H H':=fun b u _ h=>s b u h
def xq.trans (s:xq L H H') (t:xq L H' H''):xq L H H'':=fun b u n h=>t b u n (s b u n h)
theorem xq.upd (h:x∈L):xq L H (L2.upd H x o):=fun b u n e=>by
 rw[aE (fun z=>n (by rw[z];exact h))];exact e
structure Nd (o:Ow):Prop where
 pb:o.pl≠o.ba
 pr:o.pl≠o.re
 ph:o.pl∉o.hs
 pn:o.pl∉o.ns
 br:o.ba≠o.re
 bh:o.ba∉o.hs
 bn:o.ba∉o.ns
 rh:o.re∉o.hs
 rn:o.re∉o.ns
 hh:o.hs.Nodup
 nn:o.ns.Nodup
 hn:∀x∈o.hs,x∉o.ns
def Nd.of (h:o.lists.Nodup):Nd o:=by
 unfold Ow.lists at h;rw[zR] at h;obtain⟨h1,h2,h3⟩:=h;rw[zR] at h1;obtain⟨h4,h5,h6⟩:=h1;simp only[yc,zC,zD,or_false,not_or] at h4;refine⟨h4.1.1,h4.1.2,fun z=>?_,fun z=>?_,h4.2.1,fun z=>?_,fun z=>?_,fun z=>?_,fun z=>?_,h5,h2,fun x hx z=>?_⟩
 ·exact h6 o.pl (by simp) o.pl z rfl
 ·exact h3 o.pl (by simp) o.pl z rfl
 ·exact h6 o.ba (by simp) o.ba z rfl
 ·exact h3 o.ba (by simp) o.ba z rfl
 ·exact h6 o.re (by simp) o.re z rfl
 ·exact h3 o.re (by simp) o.re z rfl
 ·exact h3 x (by simp[hx]) x z rfl
def Nd.to (h:Nd o):o.lists.Nodup:=by
 unfold Ow.lists;rw[zR];refine⟨?_,h.nn,?_⟩
 ·rw[zR]
  refine⟨?_,h.hh,?_⟩
  ·simp only[yc,zC,zD,or_false,not_or]
   exact⟨⟨h.pb,h.pr⟩,h.br,fun z=>z,List.nodup_nil⟩
  ·intro x hx y hy e
   subst e;simp only[zC,zD,or_false] at hx;rcases hx with rfl | rfl | rfl
   ·exact h.ph hy
   ·exact h.bh hy
   ·exact h.rh hy
 ·intro x hx y hy e
  subst e;rw[zF] at hx;rcases hx with hx | hx
  ·simp only[zC,zD,or_false] at hx
   rcases hx with rfl | rfl | rfl
   ·exact h.pn hy
   ·exact h.bn hy
   ·exact h.rn hy
  ·exact h.hn x hx hy
section
variable {C a x:Addr} {H:Hp} {S:cG} {o:Ow} {u:HO}
def bW.CU (h:bW C H a S o) (nx:cS (H x)) (n:a≠x):∃ub jm,L2.upd H x u a=some (.ins C o.dx (Ob o ub jm))/\Is (L2.upd H x u) (dO dL S.aG) ub/\Is (L2.upd H x u) (dO jH S.ck) jm:=by
 obtain⟨ub,jm,h1,h2,h3⟩:=h.obj;exact⟨ub,jm,by rw[aE n];exact h1,Is.upd nx h2,Is.upd nx h3⟩
def bW.Ed (h:bW C H a S o) (n:o.pl≠x):L2.upd H x u o.pl=some (.lst (S.players.map V.str)):=by rw[aE n];exact h.pl
def bW.tJ (h:bW C H a S o) (nx:cS (H x)) (n:o.ins≠x):∃vs,L2.upd H x u o.ins=some (.dK ((S.ak.map fun x=>kS x.1).zip vs))/\aB (L2.upd H x u) (S.ak.map NU) vs:=by
 obtain⟨vs,h1,h2⟩:=h.ins;exact⟨vs,by rw[aE n];exact h1,aB.upd nx h2⟩
def bW.DH (h:bW C H a S o) (nx:cS (H x)) (n:o.st≠x):∃vs,L2.upd H x u o.st=some (.dK ((S.aJ.map fun x=>kS x.1).zip vs))/\aB (L2.upd H x u) (S.aJ.map Po) vs:=by
 obtain⟨vs,h1,h2⟩:=h.st;exact⟨vs,by rw[aE n];exact h1,aB.upd nx h2⟩
def bW.E8 (h:bW C H a S o) (nx:cS (H x)) (n:o.ba≠x):∃vs,L2.upd H x u o.ba=some (.lst vs)/\aB (L2.upd H x u) (S.aM.map lD) vs:=by
 obtain⟨vs,h1,h2⟩:=h.ba;exact⟨vs,by rw[aE n];exact h1,aB.upd nx h2⟩
def bW.Ea (h:bW C H a S o) (nx:cS (H x)) (n:o.re≠x):∃vs,L2.upd H x u o.re=some (.lst vs)/\aB (L2.upd H x u) (S.repeats.map jQ) vs:=by
 obtain⟨vs,h1,h2⟩:=h.re;exact⟨vs,by rw[aE n];exact h1,aB.upd nx h2⟩
def bW.GP (h:bW C H a S o) (nx:cS (H x)) (n:o.ho≠x) (nn:x∉o.hs):L2.upd H x u o.ho=some (.dK ((S.holds.map fun x=>kS x.1).zip (o.hs.map V.ref)))/\cm (L2.upd H x u) Kg (S.holds.map (·.2)) o.hs:=
 ⟨by rw[aE n];exact h.ho.1,cm.upd nx nn h.ho.2⟩
def bW.Es (h:bW C H a S o) (nx:cS (H x)) (n:o.no≠x) (nn:x∉o.ns):L2.upd H x u o.no=some (.dT ((S.aF.map fun x=>kN x.1).zip (o.ns.map V.ref)))/\cm (L2.upd H x u) fb (S.aF.map (·.2)) o.ns:=
 ⟨by rw[aE n];exact h.no.1,cm.upd nx nn h.no.2⟩
end
theorem cJ:∀{ls:List (List α)} {as:List Addr},cm H d ls as->x∈as->∃vs,H x=some (.lst vs)
 | [],_,h,hx=>by unfold cm at h;subst h;simp at hx
 | l::r,_,⟨a,t,vs,e,h1,_,h3⟩,hx=>by
  subst e;rcases zC.mp hx with rfl | hx
  ·exact⟨vs,h1⟩
  ·exact cJ h3 hx
theorem cm.snoc (hx:H x=some (.lst vs)) (im:aB H (m.map d) vs):∀{ls:List (List α)} {as:List Addr},cm H d ls as->cm H d (ls++[m]) (as++[x])
 | [],_,h=>by unfold cm at h;subst h;exact⟨x,[],vs,rfl,hx,im,rfl⟩
 | l::r,_,⟨a,t,vs',e,h1,h2,h3⟩=>by
  subst e;exact⟨a,t++[x],vs',rfl,h1,h2,cm.snoc hx im h3⟩
def L7 (h:l.length=m.length) (x:α) (y:β):(l++[x]).zip (m++[y])=l.zip m++[(x,y)]:=by
 rw[List.zip_append h];rfl
def sP {κ:Type} [DecidableEq κ] {ks:List κ} {vs:List V} (hl:ks.length=vs.length) {k:κ} {v:V} (h:dG (ks.zip vs) k=none):putK (ks.zip vs) k v=(ks++[k]).zip (vs++[v]):=by
 rw[L7 hl];exact MU v h
theorem C3 (p:Str):∀{hs:List (Str×List α)} {as:List Addr},cm H d (hs.map (·.2)) as->as.Nodup->(hs.map (·.1)).Nodup->p∈hs.map (·.1)->
  ∃x vs,dG ((hs.map fun x=>kS x.1).zip (as.map V.ref)) (kS p)=some (.ref x)/\x∈as/\H x=some (.lst vs)/\∀y e,Is (L2.upd H x (.lst (vs++[y]))) (d e) y->
   cm (L2.upd H x (.lst (vs++[y]))) d ((hs.map fun q=>if q.1=p then(q.1,q.2++[e]) else q).map (·.2)) as
 | [],_,_,_,_,h=>by simp at h
 | (k,l)::r,_,hL,na,nk,hm=>by
  rw[zh] at hL;obtain⟨a,t,vs,rfl,h1,h2,h3⟩:=hL;rw[zh,yc] at nk;rw[yc] at na
  by_cases e:k=p
  ·subst e
   refine⟨a,vs,?_,zp,h1,fun y e iy=>?_⟩
   ·rw[zh,zh,List.zip_cons_cons]
    unfold dG;rw[List.find?_cons];simp
   ·have nx:cS (H a):=by rw[h1];exact fun _ z=>by cases z
    have er:(r.map fun q=>if q.1=k then(q.1,q.2++[e]) else q)=r:=by
     conv=>rhs;rw[<-List.map_id r]
     refine List.map_congr_left fun q hq=>?_;rw[if_neg (fun z=>nk.1 (by rw[show(k,l).1=q.1 from z.symm];exact zO (f:=fun x:Str×List α=>x.1) hq))];rfl
    rw[zh,zh,if_pos rfl,er];refine⟨a,t,vs++[y],rfl,ay,?_,cm.upd nx na.1 h3⟩;rw[zj];exact cX iy (aB.upd nx h2)
  ·have hm':p∈r.map (·.1):=by
    rcases zC.mp hm with z | z
    ·exact absurd z.symm e
    ·exact z
   obtain⟨x,vs',e1,e2,e3,e4⟩:=C3 p h3 na.2 nk.2 hm';refine⟨x,vs',?_,zm _ e2,e3,fun y e iy=>?_⟩
   ·have e':¬kS k=kS p:=fun z=>e (Sum.inr.inj z)
    rw[zh,zh,List.zip_cons_cons];unfold dG at e1 ⊢;rw[List.find?_cons];simp only[e',decide_false];exact e1
   ·have nx:cS (H x):=by rw[e3];exact fun _ z=>by cases z
    rw[zh,zh,if_neg (by assumption)];refine⟨a,t,vs,rfl,?_,aB.upd nx h2,e4 y e iy⟩;rw[aE (fun z=>na.1 (by rw[z];exact e2))];exact h1
section
variable {C a:Addr} {H:Hp} {S:cG} {o:Ow}
def bW.Ju (h:bW C H a S o) (n:Str):bW C (L2.upd H o.pl (.lst (S.players.map V.str++[.str n]))) a (bJ S (.bE n)) o:=by
 have d:=Nd.of h.nd;have hp:=h.pl;have nx:cS (H o.pl):=by rw[hp];exact fun _ z=>by cases z
 obtain⟨_,_,ha,_⟩:=h.obj;obtain⟨_,hi,_⟩:=h.ins;obtain⟨_,hs,_⟩:=h.st;exact⟨h.CU nx (bc ha hp (by simp[kindOf])),by rw[ay];show _=some (HO.lst ((S.players++[n]).map V.str));rw[zj];rfl,h.tJ nx (bc hi hp (by simp[kindOf])),h.DH nx (bc hs hp (by simp[kindOf])),h.E8 nx d.pb.symm,
  h.GP nx (bc h.ho.1 hp (by simp[kindOf])) d.ph,h.Es nx (bc h.no.1 hp (by simp[kindOf])) d.pn,h.Ea nx d.pr.symm,h.nd,h.dd⟩
def bW.Pt (h:bW C H a S o) {b:L4} {v:V} {vs:List V} (hb:H o.ba=some (.lst vs)) (il:aB H (S.aM.map lD) vs) (iv:Is H (lD b) v):bW C (L2.upd H o.ba (.lst (vs++[v]))) a (bJ S (.bar b)) o:=by
 have d:=Nd.of h.nd;have nx:cS (H o.ba):=by rw[hb];exact fun _ z=>by cases z
 obtain⟨_,_,ha,_⟩:=h.obj;obtain⟨_,hi,_⟩:=h.ins;obtain⟨_,hs,_⟩:=h.st;refine⟨h.CU nx (bc ha hb (by simp[kindOf])),h.Ed d.pb,h.tJ nx (bc hi hb (by simp[kindOf])),h.DH nx (bc hs hb (by simp[kindOf])),⟨_,ay,?_⟩,
  h.GP nx (bc h.ho.1 hb (by simp[kindOf])) d.bh,h.Es nx (bc h.no.1 hb (by simp[kindOf])) d.bn,h.Ea nx d.br.symm,h.nd,h.dd⟩
 show aB _ ((S.aM++[b]).map lD) _;rw[zj];exact cX (Is.upd nx iv) (aB.upd nx il)
def bW.Pq (h:bW C H a S o) {r:Rep} {v:V} {vs:List V} (hb:H o.re=some (.lst vs)) (il:aB H (S.repeats.map jQ) vs) (iv:Is H (jQ r) v):bW C (L2.upd H o.re (.lst (vs++[v]))) a (bJ S (.rep r)) o:=by
 have d:=Nd.of h.nd;have nx:cS (H o.re):=by rw[hb];exact fun _ z=>by cases z
 obtain⟨_,_,ha,_⟩:=h.obj;obtain⟨_,hi,_⟩:=h.ins;obtain⟨_,hs,_⟩:=h.st;refine⟨h.CU nx (bc ha hb (by simp[kindOf])),h.Ed d.pr,h.tJ nx (bc hi hb (by simp[kindOf])),h.DH nx (bc hs hb (by simp[kindOf])),h.E8 nx d.br,
  h.GP nx (bc h.ho.1 hb (by simp[kindOf])) d.rh,h.Es nx (bc h.no.1 hb (by simp[kindOf])) d.rn,⟨_,ay,?_⟩,h.nd,h.dd⟩
 show aB _ ((S.repeats++[r]).map jQ) _;rw[zj];exact cX (Is.upd nx iv) (aB.upd nx il)
def xI {n:Str} {ks:List Str} {vs:List V} (h:n∉ks):dG ((ks.map kS).zip vs) (kS n)=none:=by
 unfold dG;rw[Option.map_eq_none_iff,List.find?_eq_none];intro x hx z;have e:=yd z;have m:=(List.of_mem_zip hx).1;obtain⟨k,hk,ek⟩:=zG.mp m;rw[<-ek] at e;exact h ((Sum.inr.inj e)▸hk)
def NS (h:[o.ins,o.st,o.ho].Nodup):o.ins≠o.st/\o.ins≠o.ho/\o.st≠o.ho:=by
 simp only[yc,zC,zD,or_false,not_or] at h;exact⟨h.1.1,h.1.2,h.2.1⟩
def bW.LG (h:bW C H a S o) {n:Str} {t l:Int×Int} {p:Addr} {vs:List V} (hb:H o.ins=some (.dK ((S.ak.map fun x=>kS x.1).zip vs))) (il:aB H (S.ak.map NU) vs) (iv:Is H (NU (n,t,l)) (.ref p))
  (fr:n∉S.ak.map (·.1)):bW C (L2.upd H o.ins (.dK (putK ((S.ak.map fun x=>kS x.1).zip vs) (kS n) (.ref p)))) a (bJ S (.cN n t l)) o:=by
 have d:=Nd.of h.nd;obtain⟨d1,d2,d3⟩:=NS h.dd;have nx:cS (H o.ins):=by rw[hb];exact fun _ z=>by cases z
 obtain⟨_,_,ha,_⟩:=h.obj;obtain⟨_,hba,_⟩:=h.ba;obtain⟨_,hre,_⟩:=h.re;have vl:=aT il;have em:(S.ak.map fun x=>kS x.1)=(S.ak.map (·.1)).map kS:=by rw[zA];rfl
 have hns:o.ins∉o.ns:=fun z=>by
  obtain⟨_,q⟩:=cJ h.no.2 z;rw[hb] at q;cases q
 have hhs:o.ins∉o.hs:=fun z=>by
  obtain⟨_,q⟩:=cJ h.ho.2 z;rw[hb] at q;cases q
 refine⟨h.CU nx (bc ha hb (by simp[kindOf])),h.Ed (bc h.pl hb (by simp[kindOf])),⟨vs++[.ref p],?_,?_⟩,h.DH nx d1.symm,h.E8 nx (bc hba hb (by simp[kindOf])),
  h.GP nx d2.symm hhs,h.Es nx (bc h.no.1 hb (by simp[kindOf])) hns,h.Ea nx (bc hre hb (by simp[kindOf])),h.nd,h.dd⟩
 ·rw[ay,sP (by rw[za];exact vl.symm) (by rw[em];exact xI fr)]
  show _=some (HO.dK (((S.ak++[(n,t,l)]).map fun x=>kS x.1).zip (vs++[.ref p])));rw[zj];rfl
 ·show aB _ ((S.ak++[(n,t,l)]).map NU) _
  rw[zj];exact cX (Is.upd nx iv) (aB.upd nx il)
def bW.LD (h:bW C H a S o) {n:Str} {ps:List Str} {v:V} {vs:List V} (hb:H o.st=some (.dK ((S.aJ.map fun x=>kS x.1).zip vs))) (il:aB H (S.aJ.map Po) vs) (iv:Is H (Po (n,ps)) v)
  (fr:n∉S.aJ.map (·.1)):bW C (L2.upd H o.st (.dK (putK ((S.aJ.map fun x=>kS x.1).zip vs) (kS n) v))) a (bJ S (.cw n ps)) o:=by
 have d:=Nd.of h.nd;obtain⟨d1,d2,d3⟩:=NS h.dd;have nx:cS (H o.st):=by rw[hb];exact fun _ z=>by cases z
 obtain⟨_,_,ha,_⟩:=h.obj;obtain⟨_,hba,_⟩:=h.ba;obtain⟨_,hre,_⟩:=h.re;have vl:=aT il;have em:(S.aJ.map fun x=>kS x.1)=(S.aJ.map (·.1)).map kS:=by rw[zA];rfl
 have hns:o.st∉o.ns:=fun z=>by
  obtain⟨_,q⟩:=cJ h.no.2 z;rw[hb] at q;cases q
 have hhs:o.st∉o.hs:=fun z=>by
  obtain⟨_,q⟩:=cJ h.ho.2 z;rw[hb] at q;cases q
 refine⟨h.CU nx (bc ha hb (by simp[kindOf])),h.Ed (bc h.pl hb (by simp[kindOf])),h.tJ nx d1,⟨vs++[v],?_,?_⟩,h.E8 nx (bc hba hb (by simp[kindOf])),
  h.GP nx d3.symm hhs,h.Es nx (bc h.no.1 hb (by simp[kindOf])) hns,h.Ea nx (bc hre hb (by simp[kindOf])),h.nd,h.dd⟩
 ·rw[ay,sP (by rw[za];exact vl.symm) (by rw[em];exact xI fr)]
  show _=some (HO.dK (((S.aJ++[(n,ps)]).map fun x=>kS x.1).zip (vs++[v])));rw[zj];rfl
 ·show aB _ ((S.aJ++[(n,ps)]).map Po) _
  rw[zj];exact cX (Is.upd nx iv) (aB.upd nx il)
def Kw {n:Int×Str} {ks:List (Int×Str)} {vs:List V} (h:n∉ks):dG ((ks.map kN).zip vs) (kN n)=none:=by
 unfold dG;rw[Option.map_eq_none_iff,List.find?_eq_none];intro x hx z;have e:=yd z;have m:=(List.of_mem_zip hx).1;obtain⟨k,hk,ek⟩:=zG.mp m;rw[<-ek] at e;unfold kN at e;simp at e;have:k=n:=Prod.ext e.1 e.2;exact h (this▸hk)
def bW.LF (h:bW C H a S o) {b:Int} {pn:Str} {its:List Item} {q:Addr} {us:List V} (hq:H q=some (.lst us)) (iq:aB H (its.map fb) us) (nq:q∉o.lists) (fr:(b,pn)∉S.aF.map (·.1)) :
  bW C (L2.upd H o.no (.dT (putK ((S.aF.map fun x=>kN x.1).zip (o.ns.map V.ref)) (kN (b,pn)) (.ref q)))) a (bJ S (.aF b pn its)) {o with ns:=o.ns++[q]}:=by
 have d:=Nd.of h.nd;have hb:=h.no.1;have nx:cS (H o.no):=by rw[hb];exact fun _ z=>by cases z
 obtain⟨ub,jm,ha,hub,hjm⟩:=h.obj;obtain⟨_,hi,_⟩:=h.ins;obtain⟨_,hs,_⟩:=h.st;obtain⟨_,hba,_⟩:=h.ba;obtain⟨_,hre,_⟩:=h.re;have em:(S.aF.map fun x=>kN x.1)=(S.aF.map (·.1)).map kN:=by rw[zA];rfl
 have hns:o.no∉o.ns:=fun z=>by
  obtain⟨_,q⟩:=cJ h.no.2 z;rw[hb] at q;cases q
 have hhs:o.no∉o.hs:=fun z=>by
  obtain⟨_,q⟩:=cJ h.ho.2 z;rw[hb] at q;cases q
 have ll:(o.ns.map V.ref).length=S.aF.length:=by
  have:∀{ls:List (List Item)} {as:List Addr},cm H fb ls as->as.length=ls.length:=by
   intro ls
   induction ls with
   | nil=>intro as z;unfold cm at z;rw[z];rfl
   | cons l r ih=>rintro _ ⟨a,t,vs,rfl,_,_,h3⟩;rw[zt,zt,ih h3]
  rw[za,this h.no.2,za]
 have nn:q∉[o.pl,o.ba,o.re]/\q∉o.hs/\q∉o.ns:=by
  unfold Ow.lists at nq;rw[zF,zF] at nq;exact⟨fun z=>nq (.inl (.inl z)),fun z=>nq (.inl (.inr z)),fun z=>nq (.inr z)⟩
 obtain⟨n1,n2,n3⟩:=nn;simp only[zC,zD,or_false,not_or] at n1;refine⟨⟨ub,jm,by rw[aE (bc ha hb (by simp[kindOf]))];exact ha,Is.upd nx hub,Is.upd nx hjm⟩,h.Ed (bc h.pl hb (by simp[kindOf])),h.tJ nx (bc hi hb (by simp[kindOf])),h.DH nx (bc hs hb (by simp[kindOf])),h.E8 nx (bc hba hb (by simp[kindOf])),
  h.GP nx (bc h.ho.1 hb (by simp[kindOf])) hhs,⟨?_,?_⟩,h.Ea nx (bc hre hb (by simp[kindOf])),?_,h.dd⟩
 ·show L2.upd H o.no _ o.no=some (HO.dT (((S.aF++[((b,pn),its)]).map fun x=>kN x.1).zip ((o.ns++[q]).map V.ref)))
  rw[ay,sP (by rw[za];exact ll.symm) (by rw[em];exact Kw fr),zj,zj];rfl
 ·show cm _ fb ((S.aF++[((b,pn),its)]).map (·.2)) (o.ns++[q])
  rw[zj];exact cm.snoc (by rw[aE (bc hq hb (by simp[kindOf]))];exact hq) (aB.upd nx iq) (cm.upd nx hns h.no.2)
 ·refine Nd.to ⟨d.pb,d.pr,d.ph,?_,d.br,d.bh,?_,d.rh,?_,d.hh,?_,?_⟩
  ·show o.pl∉o.ns++[q]
   rw[zF,zy];rintro(z | z)
   ·exact d.pn z
   ·exact n1.1 z.symm
  ·show o.ba∉o.ns++[q]
   rw[zF,zy];rintro(z | z)
   ·exact d.bn z
   ·exact n1.2.1 z.symm
  ·show o.re∉o.ns++[q]
   rw[zF,zy];rintro(z | z)
   ·exact d.rn z
   ·exact n1.2.2 z.symm
  ·show(o.ns++[q]).Nodup
   rw[zR];exact⟨d.nn,by simp,fun x hx y hy e=>by rw[zy] at hy;subst hy;subst e;exact n3 hx⟩
  ·intro x hx z
   have z':x∈o.ns++[q]:=z;rw[zF,zy] at z';rcases z' with z' | z'
   ·exact d.hn x hx z'
   ·subst z';exact n2 hx
def bW.Jt (h:bW C H a S o) {l:Int×Int} {v ub jm:V} (ha:H a=some (.ins C o.dx (Ob o ub jm))) (ij:Is H (dO jH S.ck) jm) (iv:Is H (dL l) v):bW C (L2.upd H a (.ins C o.dx (Ob o v jm))) a (bJ S (.aG l)) o:=by
 have nx:cS (H a):=by rw[ha];exact fun _ z=>by cases z
 obtain⟨_,hi,_⟩:=h.ins;obtain⟨_,hs,_⟩:=h.st;obtain⟨_,hba,_⟩:=h.ba;obtain⟨_,hre,_⟩:=h.re;have hns:a∉o.ns:=fun z=>by
  obtain⟨_,q⟩:=cJ h.no.2 z;rw[ha] at q;cases q
 have hhs:a∉o.hs:=fun z=>by
  obtain⟨_,q⟩:=cJ h.ho.2 z;rw[ha] at q;cases q
 exact⟨⟨v,jm,ay,Is.upd nx iv,Is.upd nx ij⟩,h.Ed (bc h.pl ha (by simp[kindOf])),h.tJ nx (bc hi ha (by simp[kindOf])),h.DH nx (bc hs ha (by simp[kindOf])),h.E8 nx (bc hba ha (by simp[kindOf])),
  h.GP nx (bc h.ho.1 ha (by simp[kindOf])) hhs,h.Es nx (bc h.no.1 ha (by simp[kindOf])) hns,h.Ea nx (bc hre ha (by simp[kindOf])),h.nd,h.dd⟩
def bW.N4 (h:bW C H a S o) {j:Jump} {v ub jm:V} (ha:H a=some (.ins C o.dx (Ob o ub jm))) (iu:Is H (dO dL S.aG) ub) (iv:Is H (jH j) v):bW C (L2.upd H a (.ins C o.dx (Ob o ub v))) a (bJ S (.ck j)) o:=by
 have nx:cS (H a):=by rw[ha];exact fun _ z=>by cases z
 obtain⟨_,hi,_⟩:=h.ins;obtain⟨_,hs,_⟩:=h.st;obtain⟨_,hba,_⟩:=h.ba;obtain⟨_,hre,_⟩:=h.re;have hns:a∉o.ns:=fun z=>by
  obtain⟨_,q⟩:=cJ h.no.2 z;rw[ha] at q;cases q
 have hhs:a∉o.hs:=fun z=>by
  obtain⟨_,q⟩:=cJ h.ho.2 z;rw[ha] at q;cases q
 exact⟨⟨ub,v,ay,Is.upd nx iu,Is.upd nx iv⟩,h.Ed (bc h.pl ha (by simp[kindOf])),h.tJ nx (bc hi ha (by simp[kindOf])),h.DH nx (bc hs ha (by simp[kindOf])),h.E8 nx (bc hba ha (by simp[kindOf])),
  h.GP nx (bc h.ho.1 ha (by simp[kindOf])) hhs,h.Es nx (bc h.no.1 ha (by simp[kindOf])) hns,h.Ea nx (bc hre ha (by simp[kindOf])),h.nd,h.dd⟩
def bW.Nf (h:bW C H a S o) {pn:Str} {q:Addr} (hq:H q=some (.lst [])) (nq:q∉o.lists) (fr:pn∉S.holds.map (·.1)) :
  bW C (L2.upd H o.ho (.dK (putK ((S.holds.map fun x=>kS x.1).zip (o.hs.map V.ref)) (kS pn) (.ref q)))) a {S with holds:=S.holds++[(pn,[])]} {o with hs:=o.hs++[q]}:=by
 have d:=Nd.of h.nd;obtain⟨d1,d2,d3⟩:=NS h.dd;have hb:=h.ho.1;have nx:cS (H o.ho):=by rw[hb];exact fun _ z=>by cases z
 obtain⟨ub,jm,ha,hub,hjm⟩:=h.obj;obtain⟨_,hba,_⟩:=h.ba;obtain⟨_,hre,_⟩:=h.re;have em:(S.holds.map fun x=>kS x.1)=(S.holds.map (·.1)).map kS:=by rw[zA];rfl
 have hns:o.ho∉o.ns:=fun z=>by
  obtain⟨_,q⟩:=cJ h.no.2 z;rw[hb] at q;cases q
 have hhs:o.ho∉o.hs:=fun z=>by
  obtain⟨_,q⟩:=cJ h.ho.2 z;rw[hb] at q;cases q
 have ll:(o.hs.map V.ref).length=S.holds.length:=by
  have:∀{ls:List (List (Int×Str))} {as:List Addr},cm H Kg ls as->as.length=ls.length:=by
   intro ls
   induction ls with
   | nil=>intro as z;unfold cm at z;rw[z];rfl
   | cons l r ih=>rintro _ ⟨a,t,vs,rfl,_,_,h3⟩;rw[zt,zt,ih h3]
  rw[za,this h.ho.2,za]
 have nn:q∉[o.pl,o.ba,o.re]/\q∉o.hs/\q∉o.ns:=by
  unfold Ow.lists at nq;rw[zF,zF] at nq;exact⟨fun z=>nq (.inl (.inl z)),fun z=>nq (.inl (.inr z)),fun z=>nq (.inr z)⟩
 obtain⟨n1,n2,n3⟩:=nn;simp only[zC,zD,or_false,not_or] at n1;refine⟨⟨ub,jm,by rw[aE (bc ha hb (by simp[kindOf]))];exact ha,Is.upd nx hub,Is.upd nx hjm⟩,h.Ed (bc h.pl hb (by simp[kindOf])),h.tJ nx d2,h.DH nx d3,h.E8 nx (bc hba hb (by simp[kindOf])),
  ⟨?_,?_⟩,h.Es nx (bc h.no.1 hb (by simp[kindOf])) hns,h.Ea nx (bc hre hb (by simp[kindOf])),?_,h.dd⟩
 ·show L2.upd H o.ho _ o.ho=some (HO.dK (((S.holds++[((pn,[]):Str×List (Int×Str))]).map fun x:Str×List (Int×Str)=>kS x.1).zip ((o.hs++[q]).map V.ref)))
  rw[ay,sP (by rw[za];exact ll.symm) (by rw[em];exact xI fr),zj,zj];rfl
 ·show cm _ Kg ((S.holds++[((pn,[]):Str×List (Int×Str))]).map fun x:Str×List (Int×Str)=>x.2) (o.hs++[q])
  rw[zj];exact cm.snoc (vs:=[]) (by rw[aE (bc hq hb (by simp[kindOf]))];exact hq) (by show aB _ [] [];unfold aB;rfl) (cm.upd nx hhs h.ho.2)
 ·refine Nd.to ⟨d.pb,d.pr,?_,d.pn,d.br,?_,d.bn,?_,d.rn,?_,d.nn,?_⟩
  ·show o.pl∉o.hs++[q]
   rw[zF,zy];rintro(z | z)
   ·exact d.ph z
   ·exact n1.1 z.symm
  ·show o.ba∉o.hs++[q]
   rw[zF,zy];rintro(z | z)
   ·exact d.bh z
   ·exact n1.2.1 z.symm
  ·show o.re∉o.hs++[q]
   rw[zF,zy];rintro(z | z)
   ·exact d.rh z
   ·exact n1.2.2 z.symm
  ·show(o.hs++[q]).Nodup
   rw[zR];exact⟨d.hh,by simp,fun x hx y hy e=>by rw[zy] at hy;subst hy;subst e;exact n2 hx⟩
  ·intro x hx z
   have hx':x∈o.hs++[q]:=hx;rw[zF,zy] at hx';rcases hx' with hx' | hx'
   ·exact d.hn x hx' z
   ·subst hx';exact n3 z
def bW.pj (h:bW C H a S o) {pn:Str} (nk:(S.holds.map (·.1)).Nodup) (hm:pn∈S.holds.map (·.1)) :
  ∃x vs,dG ((S.holds.map fun x=>kS x.1).zip (o.hs.map V.ref)) (kS pn)=some (.ref x)/\x∈o.hs/\H x=some (.lst vs)/\∀y b i,Is H (Kg (b,i)) y->bW C (L2.upd H x (.lst (vs++[y]))) a (bJ S (.holds pn b i)) o:=by
 have d:=Nd.of h.nd;obtain⟨x,vs,e1,e2,e3,e4⟩:=C3 pn h.ho.2 d.hh nk hm;refine⟨x,vs,e1,e2,e3,fun y b i iy=>?_⟩;have nx:cS (H x):=by rw[e3];exact fun _ z=>by cases z
 obtain⟨ub,jm,ha,hub,hjm⟩:=h.obj;obtain⟨_,hi,_⟩:=h.ins;obtain⟨_,hs,_⟩:=h.st;have ea:bJ S (.holds pn b i)={S with holds:=S.holds.map fun q:Str×List (Int×Str)=>if q.1=pn then(q.1,q.2++[(b,i)]) else q}:=by
  show({S with holds:=fm S.holds pn (b,i)}:cG)=_;unfold fm;rw[if_pos hm]
 rw[ea];refine⟨h.CU nx (bc ha e3 (by simp[kindOf])),h.Ed (fun z=>d.ph (by rw[z];exact e2)),h.tJ nx (bc hi e3 (by simp[kindOf])),h.DH nx (bc hs e3 (by simp[kindOf])),h.E8 nx (fun z=>d.bh (by rw[z];exact e2)),
  ⟨?_,e4 y (b,i) (Is.upd nx iy)⟩,h.Es nx (bc h.no.1 e3 (by simp[kindOf])) (d.hn x e2),h.Ea nx (fun z=>d.rh (by rw[z];exact e2)),h.nd,h.dd⟩
 rw[aE (bc h.ho.1 e3 (by simp[kindOf])),h.ho.1];show _=some (HO.dK (((S.holds.map fun q:Str×List (Int×Str)=>if q.1=pn then(q.1,q.2++[(b,i)]) else q).map fun x:Str×List (Int×Str)=>kS x.1).zip _));rw[zA];have:(S.holds.map fun x:Str×List (Int×Str)=>kS x.1)=S.holds.map ((fun x:Str×List (Int×Str)=>kS x.1)∘fun q:Str×List (Int×Str)=>if q.1=pn then(q.1,q.2++[(b,i)]) else q):=by
  refine List.map_congr_left fun q _=>?_;show kS q.1=kS (if q.1=pn then((q.1,q.2++[(b,i)]):Str×List (Int×Str)) else q).1;split <;> rfl
 rw[this]
end
end Sc
namespace L2
open PySem PySem.Spec PyProof.Rows
noncomputable def noStar:Expr->Bool
 | .Starred ..=>false
 | _=>true
def oW (h:noStar e=true):starEach (e::es) env=(false,eval e env)::starEach es env:=by
 cases e <;> first | rfl | (simp[noStar] at h)
def aa (ha:PE X e te) (hr:PA X es t) (hs:noStar e=true<|>qe_):PA X (e::es) (bC te t):=ah ha hr (oW hs)
end L2
namespace Sc
open PySem L2 Lm
def mi (F:Nat->Dt) (Pσ:St->Prop) (hn:n<=sizeLine) (h0:Pσ σ₀)
  (turn:∀(i:Nat) (σ:St) (H:Hp) (R:St->V->Hp->Prop),i<n->au H1 H->Pσ σ->(∀σ3 y H5,au H H5->Is H5 (F i) y->Pσ σ3->R σ3 y H5)->g (.int (lo+i)) σ H fun σ3 H3=>te σ3 H3 fun y H5=>R σ3 y H5)
  (fin:∀D vs H,au H1 H->H1 D=none->H D=some (.lst vs)->aB H ((List.range n).map F) vs->Q (.ref D) H):dz σ₀ g uh te Q (N7 lo n) H1:=by
 refine oQ (ws:=List.range n) (enc:=fun i=>.int (lo+(i:Nat))) F Pσ (by rw[zQ];exact hn) h0 (fun i H hi _=>by rw[zQ] at hi;exact hi) (fun H _=>by rw[zQ];exact zk _) ?_ ?_ fin
 ·rintro i x H H2 hi _ ⟨rfl,rfl⟩
  exact⟨rfl,by rw[List.getElem_range]⟩
 ·intro i σ H R hi s p r
  exact turn i σ H R (List.mem_range.mp hi) s p r
def eG {c:Bool} {T:(Bool->Hp->Prop)->Prop} {Z:Bool->Hp->Prop} {H:Hp} (v:Bool) (h1:c=true->∀Z,Z v H->T Z) (h2:c=false->v=false) (hz:Z v H):if c=true then T Z else Z false H:=by
 cases c with
 | true=>rw[if_pos rfl];exact h1 rfl Z hz
 | false=>rw[if_neg (by simp)];rw[<-h2 rfl];exact hz
def FL:List (Int×Int)->TA
 | []=>dZ
 | p::r=>bC (DD (bC (tC (.int p.1)) (bC (tC (.int p.2)) dZ))) (FL r)
theorem MZ:∀{ps:List (Int×Int)} {H:Hp} {R:List V->Hp->Prop},(∀vs H',au H H'->aB H' (ps.map dL) vs->R vs H')->FL ps σ H R
 | [],H,R,h=>h [] H (au.refl _) cK
 | p::r,H,R,h=>by
  have sl:=yB;refine⟨by show 2<=sizeLine;omega,fun q hq=>?_⟩;refine MZ fun vs H' s' il=>?_;have s1:=aS (o:=HO.tup [.int p.1,.int p.2]) hq;exact h _ _ (s1.trans s') (aN (iW (s' _ _ ay)) il)
def S7 (ps:List (Int×Int)):TE:=fun _ H Q=>∀D vs H',au H H'->H' D=some (.lst vs)->aB H' (ps.map dL) vs->Q (.ref D) H'
def O1 (hl:ps.length<=1000) (h:S7 ps σ H Q):FN (FL ps) σ H Q:=by
 have sl:=yB;refine MZ fun vs H' s' il=>⟨by have:=aT il;omega,fun D hD=>?_⟩
 exact h D vs _ (s'.trans (aS hD)) ay (il.mono (aS hD))
def QT:PA X [] (FL []):=af
def Se (h:PA X es (FL r)):PA X (.Tuple [.Constant (.int a) x1 p1,.Constant (.int b) x2 p2] k pos::es) (FL ((a,b)::r)):=
 ah (bj (ah ae (ah ae af (oW rfl)) (oW rfl))) h (oW rfl)
def QP (h:PA X es (FL ps)) (hl:ps.length<=1000<|>qb_):PE X (.List es pos) (S7 ps):=by
 intro pins s σ H Q I hq;exact bq h pins s σ H Q I (O1 hl hq)
def tT (h:xs[xs.length-1]?=some x):Ds xs (-1)=some x:=by
 have hp:0<xs.length:=by
  have:=(zw.mp h).1;omega
 have ne:xs≠[]:=yq.mp hp;have e:=List.dropLast_concat_getLast ne;have e2:xs.getLast ne=x:=by
  have:=(zw.mp h).2;rw[List.getLast_eq_getElem];exact this
 rw[<-e,e2];exact L2.Bb _ _
theorem Ay:∀l:List Str,aB H (l.map Dt.str) (l.map V.str)
 | []=>cK
 | x::r=>aN eL (Ay r)
def xw (h:Is H (lD b) v):∃a m q,v=.ref a/\H a=some (.tup [m,.int b.key,.ref q])/\Is H (dL b.aR) m/\H q=some (.tup (b.marks.map V.str)):=by
 unfold lD Is at h;obtain⟨a,vs,rfl,ha,hl⟩:=h;unfold aB at hl;obtain⟨v1,r1,rfl,h1,hl⟩:=hl;unfold aB at hl;obtain⟨v2,r2,rfl,h2,hl⟩:=hl;unfold aB at hl;obtain⟨v3,r3,rfl,h3,hl⟩:=hl;unfold aB at hl;subst hl;unfold Is at h2;subst h2;unfold nh Is at h3;obtain⟨q,us,rfl,hq,hle⟩:=h3;rw[dM hle] at hq;exact⟨a,v1,q,rfl,ha,h1,hq⟩
noncomputable def lets:Str:="abcdefghijklmnopqrstuvwxyz"
def Nq:∀j:Fin 26,lets.cps.toList[j.val]?=some (97+j.val):=by decide
def J3 (h0:0<=i) (h:i<26):Ds lets.cps.toList i=some (97+i.toNat):=by
 obtain⟨j,rfl⟩:=yK h0;exact bx (Nq ⟨j,nofun⟩)
def Oz:∀j:Fin 36,(lets ++"0123456789").cps.toList[j.val]?=some (sgn.getD j.val 0)/\sgn.getD j.val 0∈sgn:=by decide
def QD (h0:0<=i) (h:i<36):∃c,c∈sgn/\Ds (lets ++"0123456789").cps.toList i=some c:=by
 obtain⟨j,rfl⟩:=yK h0;have:=Oz ⟨j,nofun⟩;exact⟨_,this.2,bx this.1⟩
noncomputable def OA (i:Int):Nat:=(Ds (lets ++"0123456789").cps.toList i).getD 0
def MC (h0:0<=i) (h:i<36):Ds (lets ++"0123456789").cps.toList i=some (OA i)/\OA i∈sgn:=by
 obtain⟨c,h1,h2⟩:=QD h0 h;unfold OA;rw[h2];exact⟨rfl,h1⟩
def J4:∀j:Fin 26,97+j.val∈sgn:=by decide
def Nr {i:Int} (h0:0<=i) (h:i<26):97+i.toNat∈sgn:=J4 ⟨i.toNat,nofun⟩
def PX (h1:1<=n.length) (h2:n.length<=12) (h3:∀c∈n.cps.toList,c∈sgn):gs n:=by
 unfold gs cM;rw[if_neg nofun,if_neg nofun,if_pos (yo.mpr fun c hc=>ze (h3 c hc))]
def Bs (ns:List Str):Prop:=(∀n∈ns,gs n)/\ns.Nodup
theorem uO:∀{l:List α},l.Nodup->(∀x∈l,∀y∈l,f x=f y->x=y)->(l.map f).Nodup
 | [],_,_=>List.nodup_nil
 | x::r,h,k=>by
  rw[yc] at h;rw[zh,yc];refine⟨fun z=>?_,uO h.2 fun a ha b hb e=>k a (zm _ ha) b (zm _ hb) e⟩;obtain⟨y,hy,e⟩:=zG.mp z;have:=k y (zm _ hy) x zp e;subst this;exact h.1 hy
def K3 (hm:m<=12) (hc:c∈sgn):Bs ((List.range m).map fun k=>qO ⟨#[c]⟩ (m-k)):=by
 have el:∀k,(qO ⟨#[c]⟩ k).length=k:=fun k=>by rw[Ga];exact Nat.mul_one k
 refine⟨fun n hn=>?_,uO List.nodup_range fun x hx y hy e=>?_⟩
 ·obtain⟨k,hk,rfl⟩:=zG.mp hn
  have:=List.mem_range.mp hk;refine PX (by rw[el];omega) (by rw[el];omega) fun d hd=>?_;rw[sJ] at hd;obtain⟨l,hl,hd⟩:=List.mem_flatten.mp hd;rw[List.mem_replicate] at hl;rw[hl.2] at hd;have:d=c:=by simpa using hd
  rw[this];exact hc
 ·have:=congrArg Str.length e
  rw[el,el] at this;have:=List.mem_range.mp hx;have:=List.mem_range.mp hy;omega
def IH {stem:Str} {pl first m:Nat} (hs:stem.length<=11) (hp:pl<=stem.length) (hc:∀c∈stem.cps.toList,c∈sgn) (hm:m<=26) :
  Bs ((List.range m).map fun k=>Txt.slice stem none (some (pl:Int))++⟨#[97+(first+5*k)%26]⟩++Txt.slice stem (some (pl:Int)) none):=by
 have sl:stem.cps.toList.length=stem.length:=Array.length_toList;have cp:∀k,(Txt.slice stem none (some (pl:Int))++⟨#[97+(first+5*k)%26]⟩++Txt.slice stem (some (pl:Int)) none).cps.toList=stem.cps.toList.take pl++[97+(first+5*k)%26]++stem.cps.toList.drop pl:=fun k=>by
  rw[cF,cF,FZ stem hp,qG stem hp]
 refine⟨fun n hn=>?_,uO List.nodup_range fun x hx y hy e=>?_⟩
 ·obtain⟨k,hk,rfl⟩:=zG.mp hn
  have el:(Txt.slice stem none (some (pl:Int))++⟨#[97+(first+5*k)%26]⟩++Txt.slice stem (some (pl:Int)) none).length=stem.length+1:=by
   rw[<-show _=(Txt.slice stem none (some (pl:Int))++⟨#[97+(first+5*k)%26]⟩++Txt.slice stem (some (pl:Int)) none).length from Array.length_toList,cp,zg,zg,zP,List.length_drop,List.length_singleton];omega
  refine PX nofun nofun fun d hd=>?_;rw[cp,zF,zF,zy] at hd;rcases hd with(hd | hd) | hd
  ·exact hc d (List.mem_of_mem_take hd)
  ·rw[hd];exact J4 ⟨(first+5*k)%26,Nat.mod_lt _ ∅⟩
  ·exact hc d (List.mem_of_mem_drop hd)
 ·have q:(Txt.slice stem none (some (pl:Int))++⟨#[97+(first+5*x)%26]⟩++Txt.slice stem (some (pl:Int)) none).cps.toList=(Txt.slice stem none (some (pl:Int))++⟨#[97+(first+5*y)%26]⟩++Txt.slice stem (some (pl:Int)) none).cps.toList:=by rw[e]
  rw[cp,cp,zE,zE] at q;have q2:=List.append_cancel_left q;simp at q2;have:=List.mem_range.mp hx;have:=List.mem_range.mp hy;omega
theorem tF:∀zs:List Str,(Str.join "" zs).cps.toList=(zs.map fun z:Str=>z.cps.toList).flatten
 | []=>rfl
 | [z]=>by rw[join_one];simp
 | z::y::r=>by
  rw[fh,cF,cF,tF (y::r)];show z.cps.toList++[]++_=_;rw[zU];rfl
noncomputable def nT (c:Int) (n:Nat):List Str:=(List.range n).map fun k=>⟨#[OA ((c/16224+7*(0+(k:Nat)))%36)]⟩
theorem GV (f:α->β):∀l:List α,((l.map f).map fun x=>[x]).flatten=l.map f
 | []=>rfl
 | x::r=>by rw[zh,zh,z9,GV f r];rfl
def FP (c:Int) (n:Nat):(Str.join "" (nT c n)).cps.toList=(List.range n).map fun k:Nat=>OA ((c/16224+7*(0+(k:Nat)))%36):=by
 rw[tF];unfold nT;rw[zA];have:=GV (fun k:Nat=>OA ((c/16224+7*(0+(k:Nat)))%36)) (List.range n);rw[zA] at this;exact this
def My (c:Int) (n:Nat):(Str.join "" (nT c n)).length=n:=by
 rw[<-show _=(Str.join "" (nT c n)).length from Array.length_toList,FP,za,zQ]
def Mx:∀d∈(Str.join "" (nT c n)).cps.toList,d∈sgn:=fun d hd=>by
 rw[FP] at hd;obtain⟨k,_,rfl⟩:=zG.mp hd;exact(MC (zv _ ∅) (zr _ ∅)).2
def Mw (c:Int) (n:Nat):((nT c n).map (fun z:Str=>z.length+("": Str).length)).sum=n:=by
 unfold nT;rw[zA];have:((fun z:Str=>z.length+("": Str).length)∘fun k:Nat=>(⟨#[OA ((c/16224+7*(0+(k:Nat)))%36)]⟩:Str))=fun _=>1:=rfl;rw[this,List.map_const',List.sum_replicate_nat,zQ,Nat.mul_one]
end Sc
namespace Sc
open PySem L2 Lm
def bT (n:H D=none) (s:au H H2):au H (L2.upd H2 D u):=fun b v hb=>by
 rw[aE (fun z=>by rw[z,n] at hb;cases hb)];exact s b v hb
def Ft (its:List Item) (x:Int×Int):Prop:=its.length<=40/\(∀it∈its,LS it)/\ko its=x/\its.all (fun it=>it.1.isNone)=false
def LQ (x:Int×Int):Prop:=Lm.Rd x/\0<x.1/\x.1<=32/\x.2<=160
def Ii (l:List Item) (it:Item):ko (l++[it])=add (ko l) it.2:=by unfold ko;rw[zX];rfl
def Ms {x:Int×Int} (hx:0<x.2) {W:Int} (hW:0<W) {l:List Item} {t w:Int} {it:Item} (h:ko l=red (x.1*t) (x.2*W)) (e:it.2=red (x.1*w) (x.2*W)):ko (l++[it])=red (x.1*(t+w)) (x.2*W):=by
 have hb:0<x.2*W:=Int.mul_pos hx hW;rw[Ii,h,e,Pr hb hb,<-sL hb hb (t:=x.1*(t+w))]
 congr 1
 rw[<-Int.add_mul,<-Int.mul_add,Int.mul_comm]
def Mt {x:Int×Int} (hx:0<x.2) {W:Int} (hW:0<W):ko []=red (x.1*0) (x.2*W):=by
 have hb:0<x.2*W:=Int.mul_pos hx hW;show((0,1):Int×Int)=_;rw[Int.mul_zero];have:=sL (t:=0) (b:=1) (k:=x.2*W) hb ∅;rw[Int.mul_zero,Int.mul_one] at this;rw[this];decide
def KG (hx:Lm.Rd x) (hW:0<W):red (x.1*W) (x.2*W)=x:=by
 obtain⟨_,p2,p3⟩:=hx.pos;rw[Int.mul_comm x.1,Int.mul_comm x.2,sL hW p2,p3]
def Nm (h:LQ x) (w1:1<=w) (w2:w<=4) (W1:1<=W) (W2:W<=24):Og (red (x.1*w) (x.2*W)):=by
 obtain⟨hr,h1,h2,h3⟩:=h;obtain⟨_,p2,_⟩:=hr.pos;have a1:0<x.1*w:=Int.mul_pos h1 nofun;have a2:x.1*w<=32*4:=Int.mul_le_mul h2 w2 nofun ∅;have b1:0<x.2*W:=Int.mul_pos p2 nofun;have b2:x.2*W<=160*24:=Int.mul_le_mul h3 W2 nofun ∅;obtain⟨g,g1,g2,g3,g4,g5⟩:=lR (t:=x.1*w) b1;have r1:=y9 (t:=x.1*w) (b:=x.2*W) (Int.le_of_lt a1);refine⟨Lm.Rd.of (Int.le_of_lt a1) b1,?_,nofun,nofun⟩;have r0:=y8 (t:=x.1*w) (b:=x.2*W) (Int.le_of_lt a1);rcases Int.lt_or_eq_of_le r0 with z | z
 ·exact z
 ·rw[<-z,Int.mul_zero] at g2;omega
noncomputable def uc (m:Int) (n:Nat):List Int:=(List.range n).map fun j=>1+m/(7+5*(0+(j:Nat)))%4
def Oi (m:Int) (n:Nat):(uc m n).length=n:=by unfold uc;rw[za,zQ]
def HY (h:w∈uc m n):1<=w/\w<=4:=by
 unfold uc at h;obtain⟨j,_,rfl⟩:=zG.mp h;have a:=zv (m/(7+5*(0+(j:Int)))) (b:=4) ∅;have b:=zr (m/(7+5*(0+(j:Int)))) (b:=4) ∅;omega
theorem Mu:∀{l:List Int},(∀w∈l,1<=w/\w<=4)->(l.length:Int)<=l.sum/\l.sum<=4*l.length
 | [],_=>by simp
 | w::r,h=>by
  have ih:=Mu (l:=r) fun z hz=>h z (zm _ hz);have:=h w zp;rw[List.sum_cons,zt];omega
def KY (m:Int):N6 (m%41-20,7*(m%41-20)%12+(m/41%14-7)*12):=by
 have a:=zv m (b:=41) ∅;have b:=zr m (b:=41) ∅;have c:=zv (m/41) (b:=14) ∅;have d:=zr (m/41) (b:=14) ∅;unfold N6;dsimp only;omega
def join {c:Bool} {t1 t2:TS} {D:Ends} {σ:St} {H:Hp} (P:St->Hp->Prop) (ha:∀N:St->Hp->Prop,(∀σ H,P σ H->N σ H)->c=true->t1 {D with nx:=N} σ H)
  (hb:∀N:St->Hp->Prop,(∀σ H,P σ H->N σ H)->c=false->t2 {D with nx:=N} σ H) (hN:∀σ H,P σ H->D.nx σ H):if c=true then t1 D σ H else t2 D σ H:=by
 cases c with
 | true=>rw[if_pos rfl];exact ha D.nx hN rfl
 | false=>rw[if_neg (by simp)];exact hb D.nx hN rfl
def RL (R:α->V->Prop):List α->List V->Prop
 | [],vs=>vs=[]
 | x::xs,vs=>∃v r,vs=v::r/\R x v/\RL R xs r
theorem RL.imp {α:Type} {R R':α->V->Prop} (h:∀x v,R x v->R' x v):∀{xs:List α} {vs:List V},RL R xs vs->RL R' xs vs
 | [],_,e=>e
 | _::_,_,⟨v,r,e,h1,h2⟩=>⟨v,r,e,h _ _ h1,RL.imp h h2⟩
theorem RL.snoc {α:Type} {R:α->V->Prop} {x:α} {v:V} (h:R x v):∀{xs:List α} {vs:List V},RL R xs vs->RL R (xs++[x]) (vs++[v])
 | [],_,e=>by unfold RL at e;subst e;exact⟨v,[],rfl,h,rfl⟩
 | _::_,_,⟨u,r,e,h1,h2⟩=>by subst e;exact⟨u,r++[v],rfl,h1,RL.snoc h h2⟩
theorem RL.len:∀{xs:List α} {vs:List V},RL R xs vs->vs.length=xs.length
 | [],_,e=>by unfold RL at e;rw[e];rfl
 | _::_,_,⟨u,r,e,_,h2⟩=>by rw[e,zt,zt,RL.len h2]
theorem RL.at:∀{xs:List α} {vs:List V} {i:Nat} {v:V},RL R xs vs->vs[i]?=some v->∃x,xs[i]?=some x/\R x v
 | [],_,_,_,e,h=>by unfold RL at e;subst e;simp at h
 | x::_,_,0,_,⟨u,r,e,h1,_⟩,h=>by subst e;simp at h;subst h;exact⟨x,rfl,h1⟩
 | _::_,_,i+1,_,⟨u,r,e,_,h2⟩,h=>by subst e;simpa using RL.at (i:=i) h2 (by simpa using h)
def jO (D:Addr) (H:Hp) (x:Str×List (Int×Str)) (v:V):Prop:=∃a r us,v=.ref a/\H a=some (.tup [.str x.1,.ref r])/\H r=some (.lst us)/\aB H (x.2.map Kg) us/\r≠D
theorem jO.mono (s:au H H') (h:jO D H x v):jO D H' x v:=by
 obtain⟨a,r,us,h1,h2,h3,h4,h5⟩:=h;exact⟨a,r,us,h1,s _ _ h2,s _ _ h3,h4.mono s,h5⟩
theorem jO.upd (hD:H D=some (.lst vs)) (h:jO D H x v):jO D (L2.upd H D o) x v:=by
 obtain⟨a,r,us,h1,h2,h3,h4,h5⟩:=h;have nt:cS (H D):=by rw[hD];exact fun _ z=>by cases z
 exact⟨a,r,us,h1,by rw[aE (Sc.bc h2 hD (by simp[kindOf]))];exact h2,by rw[aE h5];exact h3,aB.upd nt h4,h5⟩
def iE (D:Addr) (H:Hp) (x:(Int×Str)×List Item) (v:V):Prop:=∃a q us,v=.ref a/\H a=some (.tup [.int x.1.1,.str x.1.2,.ref q])/\H q=some (.lst us)/\aB H (x.2.map fb) us/\q≠D
theorem iE.mono (s:au H H') (h:iE D H x v):iE D H' x v:=by
 obtain⟨a,r,us,h1,h2,h3,h4,h5⟩:=h;exact⟨a,r,us,h1,s _ _ h2,s _ _ h3,h4.mono s,h5⟩
theorem iE.upd (hD:H D=some (.lst vs)) (h:iE D H x v):iE D (L2.upd H D o) x v:=by
 obtain⟨a,r,us,h1,h2,h3,h4,h5⟩:=h;have nt:cS (H D):=by rw[hD];exact fun _ z=>by cases z
 exact⟨a,r,us,h1,by rw[aE (Sc.bc h2 hD (by simp[kindOf]))];exact h2,by rw[aE h5];exact h3,aB.upd nt h4,h5⟩
def Kn (ins:List Str) (many:Int) (row:List (Int×Str)):Prop:=row≠[]/\row.length<=4/\(row.map (·.1)).Pairwise (·<·)/\∀h∈row,0<=h.1/\h.1<many/\h.2∈ins
noncomputable def eW (S:cG):List Told:=
 S.players.map .bE++(S.ak.map fun x=>.cN x.1 x.2.1 x.2.2)++(S.aJ.map fun x=>.cw x.1 x.2)++S.aM.map .bar++S.aG.toList.map .aG ++
 (S.holds.map fun x=>x.2.map fun h=>Told.holds x.1 h.1 h.2).flatten++(S.aF.map fun x=>.aF x.1.1 x.1.2 x.2)++(S.repeats.map .rep++S.ck.toList.map .ck)
structure ua (H:Hp) (p:Addr) (S:cG):Prop where
 at':∃pl il sl bl hl nl rl:Addr,∃ub jm:V,∃iv sv bv hv nv rv:List V,H p=some (.tup [.ref pl,.ref il,.ref sl,.ref bl,ub,.ref hl,.ref nl,.ref rl,jm])/\H pl=some (.lst (S.players.map V.str))/\
  (H il=some (.lst iv)/\aB H (S.ak.map eM) iv)/\(H sl=some (.lst sv)/\aB H (S.aJ.map gF) sv)/\(H bl=some (.lst bv)/\aB H (S.aM.map lD) bv)/\Is H (dO dL S.aG) ub/\
  (H hl=some (.lst hv)/\RL (jO hl H) S.holds hv)/\(H nl=some (.lst nv)/\RL (iE nl H) S.aF nv)/\(H rl=some (.lst rv)/\aB H (S.repeats.map jQ) rv)/\Is H (dO jH S.ck) jm
theorem ua.mono (s:au H H') (h:ua H p S):ua H' p S:=by
 obtain⟨pl,il,sl,bl,hl,nl,rl,ub,jm,iv,sv,bv,hv,nv,rv,h1,h2,h3,h4,h5,h6,h7,h8,h9,ha⟩:=h.at';exact⟨⟨pl,il,sl,bl,hl,nl,rl,ub,jm,iv,sv,bv,hv,nv,rv,s _ _ h1,s _ _ h2,⟨s _ _ h3.1,h3.2.mono s⟩,⟨s _ _ h4.1,h4.2.mono s⟩,⟨s _ _ h5.1,h5.2.mono s⟩,h6.mono s,⟨s _ _ h7.1,h7.2.imp fun x v z=>z.mono s⟩,⟨s _ _ h8.1,h8.2.imp fun x v z=>z.mono s⟩,⟨s _ _ h9.1,h9.2.mono s⟩,ha.mono s⟩⟩
def bz (h1:-10000<n) (h2:n<10000):(dec n).length<=5:=by
 by_cases h:0<=n
 ·have:=G8 h h2;omega
 ·rw[xD nofun,len_app]
  have:=G8 (n:=-n) nofun nofun;have:("-": Str).length=1:=rfl;omega
def bN (h1:-10000<n) (h2:n<10000):n.natAbs.log2<1920:=by
 by_cases z:n.natAbs=0
 ·rw[z];decide
 ·exact yb ((Nat.log2_lt z).mpr (show n.natAbs<2^14 by omega)) ∅
def lh (h1:-10000<x.1) (h2:x.1<10000) (h3:-10000<x.2) (h4:x.2<10000):(iV x).length<=11:=by
 unfold iV;have a:=bz h1 h2;have b:=bz h3 h4;split
 ·omega
 ·rw[len_app,len_app]
  have:("/": Str).length=1:=rfl;omega
def Lb (h:LS it):(rg it).length<=30:=by
 obtain⟨o,x⟩:=it;obtain⟨⟨hr,h1,h2,h3⟩,hq⟩:=h;obtain⟨_,p2,_⟩:=hr.pos;dsimp only at h1 h2 h3 p2 hq;have lx:=lh (x:=x) nofun h2 nofun h3;cases o with
 | none=>
  show("r:" ++ iV x).length<=30;rw[len_app];have:("r:": Str).length=2:=rfl;omega
 | some q=>
  obtain⟨q1,q2,q3,q4,_⟩:=hq q rfl;have a:=bz (n:=q.1) nofun nofun;have b:=bz (n:=q.2) nofun nofun;show(dec q.1 ++":" ++ dec q.2 ++":" ++ iV x).length<=30;rw[len_app,len_app,len_app,len_app];have:(":": Str).length=1:=rfl;omega
theorem qB {sep:Str} {k:Nat}:∀{zs:List Str},(∀z∈zs,z.length<=k)->(zs.map (fun z:Str=>z.length+sep.length)).sum<=zs.length*(k+sep.length)
 | [],_=>by simp
 | z::r,h=>by
  have ih:=qB (sep:=sep) (zs:=r) fun y hy=>h y (zm _ hy);have:=h z zp;rw[zh,List.sum_cons,zt,Nat.succ_mul];omega
theorem join_le (sep:Str):∀zs:List Str,(Str.join sep zs).length<=(zs.map (fun z:Str=>z.length+sep.length)).sum
 | []=>zk _
 | [z]=>by rw[join_one];simp
 | z::y::r=>by
  have ih:=join_le sep (y::r);rw[fh,len_app,len_app,zh,List.sum_cons];omega
def Ax (h:∀z∈zs,z.length<=k):(Str.join sep zs).length<=zs.length*(k+sep.length):=zL (join_le sep zs) (qB h)
def LO (r:Rep):Prop:=P6 (.rep r)/\r.ends.length<=9/\∀e∈r.ends,e.2.length<=9
def G0 (h:Ux e) (hl:e.2.length<=9):(pO e).length<=60:=by
 obtain⟨h1,h2,h3,h4⟩:=h;have a:=bz (n:=e.1) nofun nofun;have b:(Str.join "," (e.2.map dec)).length<=(e.2.map dec).length*(5+(",": Str).length):=Ax fun z hz=>by
  obtain⟨p,hp,rfl⟩:=zG.mp hz;have:=h4 p hp;exact bz nofun nofun
 have l1:(":": Str).length=1:=rfl;have l2:(",": Str).length=1:=rfl;rw[za,l2] at b;unfold pO;rw[len_app,len_app];omega
def JV (h1:ns.Perm l) (h2:ns.Pairwise (·<=·)):sortI l=ns:=by
 unfold sortI;refine(List.Perm.eq_of_pairwise (le:=fun a b:Int=>a<=b) (fun a b _ _ x y=>Int.le_antisymm x y) h2 ?_ (h1.trans (List.mergeSort_perm _ _).symm)).symm;have:=List.pairwise_mergeSort (le:=fun a b:Int=>decide (a<=b)) (fun a b c x y=>by simp at x y ⊢;omega) (fun a b=>by simp;omega) l;exact this.imp fun h=>yd h
theorem AI:∀{es:List End} {a:Int} {ps:List Int},(es.map (·.1)).Pairwise (·<·)->(∀e∈es,a<e.1)->(∀e∈es,e.2.Pairwise (·<=·))->gh es a ps=some (((es.map (·.1)).getLast?).getD a,ps++(es.map (·.2)).flatten)
 | [],a,ps,_,_,_=>by simp[gh]
 | e::r,a,ps,h1,h2,h3=>by
  rw[zh,List.pairwise_cons] at h1;have ih:=AI (es:=r) (a:=e.1) (ps:=ps++e.2) h1.2 (fun x hx=>h1.1 _ (zO (f:=fun y:End=>y.1) hx)) (fun x hx=>h3 x (zm _ hx));show(if e.1<=a then none else if e.2≠sortI e.2 then none else gh r e.1 (ps++e.2))=_;have c1:=h2 e zp;rw[if_neg nofun,if_neg (fun z=>z (JV (List.Perm.refl _) (h3 e zp)).symm),ih,zh,zh,z9,zE]
  congr 2
  cases r with
  | nil=>rfl
  | cons x t=>rw[zh,List.getLast?_cons_cons,List.getLast?_cons];rfl
theorem GU:∀{n:Nat},k<n->((List.range n).map fun i=>if i=k then g i++[x] else g i).flatten.Perm (((List.range n).map g).flatten++[x])
 | 0,h=>nofun
 | n+1,h=>by
  rw[List.range_succ,zj,zj,List.flatten_append,List.flatten_append];simp only[zh,ym,z9,List.flatten_nil,zU]
  by_cases e:n=k
  ·rw[if_pos e,<-zE]
   have:((List.range n).map fun i=>if i=k then g i++[x] else g i)=(List.range n).map g:=List.map_congr_left fun i hi=>by
    have:=List.mem_range.mp hi;rw[if_neg nofun]
   rw[this]
  ·rw[if_neg e]
   have ih:=GU (g:=g) (x:=x) (k:=k) (n:=n) nofun;refine(ih.append_right _).trans ?_;rw[zE,zE];exact List.Perm.append_left _ (List.perm_append_comm)
noncomputable def cQ (sp:Nat->Nat):Nat->Nat->List Int
 | 0,_=>[]
 | k+1,i=>if i=sp k then cQ sp k i++[(k:Int)+1] else cQ sp k i
theorem sU:∀{k:Nat},p∈cQ sp k i->∃j,j<k/\p=(j:Int)+1/\i=sp j
 | 0,h=>by cases h
 | k+1,h=>by
  unfold cQ at h;split at h
  ·rename_i e
   rcases zF.mp h with h | h
   ·obtain⟨j,h1,h2⟩:=sU h
    exact⟨j,nofun,h2⟩
   ·exact⟨k,nofun,by simpa using h,e⟩
  ·obtain⟨j,h1,h2⟩:=sU h
   exact⟨j,nofun,h2⟩
theorem Ai:∀{k:Nat},(cQ sp k i).Pairwise (·<=·)
 | 0=>List.Pairwise.nil
 | k+1=>by
  unfold cQ;split
  ·rw[zT]
   refine⟨Ai,by simp,fun a ha b hb=>?_⟩;obtain⟨j,h1,h2,_⟩:=sU ha;have:b=(k:Int)+1:=by simpa using hb
   omega
  ·exact Ai
theorem Gq (e:i=sp j):∀{k:Nat},j<k->((j:Int)+1)∈cQ sp k i
 | 0,h=>nofun
 | k+1,h=>by
  unfold cQ
  by_cases c:j=k
  ·subst c
   rw[if_pos e];exact zH _ (zy.mpr rfl)
  ·have ih:=Gq e (k:=k) nofun
   split
   ·exact zI _ ih
   ·exact ih
theorem Ah:∀{k:Nat},(cQ sp k i).length<=k
 | 0=>zk _
 | k+1=>by
  have ih:=Ah (sp:=sp) (i:=i) (k:=k);unfold cQ;split
  ·rw[zg];simp;omega
  ·omega
theorem CQ:∀{k:Nat},(∀j,j<k->sp j<n)->((List.range n).map (cQ sp k)).flatten.Perm (KR 1 k)
 | 0,_=>by
  have:((List.range n).map (cQ sp 0)).flatten=[]:=by
   rw[List.flatten_eq_nil_iff];intro l hl;obtain⟨i,_,rfl⟩:=zG.mp hl;rfl
  rw[this];exact List.Perm.refl _
 | k+1,h=>by
  have ih:=CQ (sp:=sp) (n:=n) (k:=k) fun j hj=>h j nofun;have e:(List.range n).map (cQ sp (k+1))=(List.range n).map fun i=>if i=sp k then cQ sp k i++[(k:Int)+1] else cQ sp k i:=List.map_congr_left fun i _=>by rw[cQ]
  rw[e];refine(GU (h k nofun)).trans ?_;unfold KR at ih ⊢;rw[List.range_succ,zj];refine(ih.append_right _).trans ?_;rw[List.map_singleton,Int.add_comm]
def OE (k:Nat):(KR 1 k).Pairwise (·<=·):=by
 unfold KR;rw[List.pairwise_map];exact(List.pairwise_lt_range).imp fun h=>nofun
noncomputable def tM (bs:List Int) (sp:Nat->Nat) (t:Nat):List End:=bs.zip ((List.range bs.length).map (cQ sp t))
theorem FA:∀{a:List α} {b:List β},a.length=b.length->(a.zip b).map (·.1)=a
 | [],[],_=>rfl
 | x::xs,y::ys,h=>by rw[List.zip_cons_cons,zh,FA (by simpa using h)]
 | [],_::_,h=>by simp at h
 | _::_,[],h=>by simp at h
theorem Fz:∀{a:List α} {b:List β},a.length=b.length->(a.zip b).map (·.2)=b
 | [],[],_=>rfl
 | x::xs,y::ys,h=>by rw[List.zip_cons_cons,zh,Fz (by simpa using h)]
 | [],_::_,h=>by simp at h
 | _::_,[],h=>by simp at h
def lA:(tM bs sp t).map (·.1)=bs:=FA (by simp)
def uT:(tM bs sp t).map (·.2)=(List.range bs.length).map (cQ sp t):=Fz (by simp)
def Lk:(tM bs sp t).length=bs.length:=by
 have:=congrArg List.length (lA (bs:=bs) (sp:=sp) (t:=t))
 rwa [za] at this
def uU (h:e∈tM bs sp t):e.1∈bs/\∃i,i<bs.length/\e.2=cQ sp t i:=by
 have h1:=zO (f:=fun x:End=>x.1) h;have h2:=zO (f:=fun x:End=>x.2) h;rw[lA] at h1;rw[uT] at h2;obtain⟨i,hi,e2⟩:=zG.mp h2;exact⟨h1,i,List.mem_range.mp hi,e2.symm⟩
def Kq (first last times:Int) (es:List End):Prop:=gi ⟨first,last,times,es⟩=true/\es.length<=9/\(∀e∈es,first<=e.1/\e.1<=last/\e.2≠[]/\e.2.length<=9/\∀p∈e.2,0<=p/\p<1000)/\((es.map (·.2)).flatten).length<=9/\(es.map (·.1)).Pairwise (·<·)
def Li:Kq first last times []:=⟨rfl,∅,by simp,by simp,by simp⟩
def Ja (t9:t<=9) (ne:bs≠[]) (asc:bs.Pairwise (·<·)) (hin:∀b∈bs,first<=b/\b<=last) (hsp:∀j,j<t->sp j<bs.length) (hon:∀i,i<bs.length->∃j,j<t/\sp j=i) (bt:bs.length<=t):Kq first last t (tM bs sp t):=by
 have pm:=CQ (k:=t) hsp;have pl:((List.range bs.length).map (cQ sp t)).flatten.length=t:=by rw[pm.length_eq];unfold KR;simp
 refine⟨?_,by rw[Lk];omega,fun e he=>?_,by rw[uT,pl];exact t9,by rw[lA];exact asc⟩
 ·have e1:=AI (es:=tM bs sp t) (a:=first-1) (ps:=[]) (by rw[lA];exact asc) (fun e he=>by have:=hin _ (uU he).1;omega) (fun e he=>by obtain⟨_,i,_,e2⟩:=uU he;rw[e2];exact Ai)
  have e2:sortI (([]:List Int)++((tM bs sp t).map (·.2)).flatten)=KR 1 t:=by rw[List.nil_append,uT];exact JV pm.symm (OE t)
  unfold gi;dsimp only;cases q:tM bs sp t with
  | nil=>rfl
  | cons x r=>
   rw[q] at e1 e2;dsimp only;rw[e1];dsimp only;rw[e2,show((t:Int)+1-1).toNat=t by omega,ze rfl,Bool.and_true,decide_eq_true_eq,<-q,lA];cases q2:bs.getLast? with
   | none=>exact absurd (List.getLast?_eq_none_iff.mp q2) ne
   | some b=>exact(hin b (List.mem_of_getLast? q2)).2
 ·obtain⟨hb,i,hi,e2⟩:=uU he
  obtain⟨j,hj,ej⟩:=hon i hi;refine⟨(hin _ hb).1,(hin _ hb).2,?_,?_,fun p hp=>?_⟩
  ·rw[e2];exact List.ne_nil_of_mem (Gq ej.symm hj)
  ·rw[e2];have:=Ah (sp:=sp) (i:=i) (k:=t);omega
  ·rw[e2] at hp
   obtain⟨j,h1,h2,_⟩:=sU hp;omega
def Ov {n c:Nat} {i:Nat} (hi:i<n):∃j,j<n/\(j+c)%n=i:=by
 refine⟨(i+(n-c%n))%n,Nat.mod_lt _ nofun,?_⟩;have hc:c%n<n:=Nat.mod_lt _ nofun;rw[Nat.add_mod,Nat.mod_mod,<-Nat.add_mod];have e:i+(n-c%n)+c=i+n+n*(c/n):=by
  have:=Nat.div_add_mod c n;omega
 rw[e,Nat.add_mul_mod_self_left,Nat.add_mod_right,Nat.mod_eq_of_lt hi]
def CA (Pv:Nat->St->Hp->Prop) (Pe:St->Hp->Prop) (h0:∃m,Pv m σ H)
  (turn:∀m σ H,Pv m σ H->∀N:St->Hp->Prop,(∀σ H,Pe σ H->N σ H)->c σ H fun b H1=>if b=true then∃N':St->Hp->Prop,(∀σ' H',N' σ' H'->∃m',m'<m/\Pv m' σ' H')/\tb {D with nx:=N',ct:=N',bk:=N} σ H1 else N σ H1)
  (hd:∀σ H,Pe σ H->D.nx σ H):Mm c tb D σ H:=⟨Pv,h0,fun m σ H p=>turn m σ H p D.nx hd⟩
def J2 {c:Bool} {T:(Bool->Hp->Prop)->Prop} {Z:Bool->Hp->Prop} {H:Hp} (v:Bool) (h1:c=false->∀Z,Z v H->T Z) (h2:c=true->v=true) (hz:Z v H):if c=true then Z true H else T Z:=by
 cases c with
 | false=>rw[if_neg (by simp)];exact h1 rfl Z hz
 | true=>rw[if_pos rfl];rw[<-h2 rfl];exact hz
def Jn {K:yA} {α:Type} {t1 t2:Bool} {a b:Addr} {ws:List α} {e1 e2:α->V} {σ₀:St} {g:TG} {te:TE} {Q:VK} {H1:Hp} (F:α->Dt) (Pσ:St->Prop) (hn:ws.length<=sizeLine) (ha:Cw t1 K H1 a (ws.map e1)) (hb:Cw t2 K H1 b (ws.map e2)) (h0:Pσ σ₀)
  (turn:∀(x:α) (σ:St) (H:Hp) (p:Addr) (R:St->V->Hp->Prop),x∈ws->au H1 H->H p=some (.tup [e1 x,e2 x])->Pσ σ->(∀σ3 y H5,au H H5->Is H5 (F x) y->Pσ σ3->R σ3 y H5)->g (.ref p) σ H fun σ3 H3=>te σ3 H3 fun y H5=>R σ3 y H5)
  (fin:∀D vs H,au H1 H->H1 D=none->H D=some (.lst vs)->aB H (ws.map F) vs->Q (.ref D) H):dz σ₀ g uh te Q (Ti t1 t2 K a b) H1:=by
 refine⟨fun i m xs σ H=>m=ws.length-i/\i<=ws.length/\xs.length=i/\au H1 H/\aB H ((ws.take i).map F) xs/\Pσ σ,⟨_,rfl,yf _,rfl,au.refl _,by simp[aB],h0⟩,?_⟩;rintro i m xs σ H ⟨rfl,hi,hx,sm,il,pσ⟩;rcases Nat.lt_or_ge i ws.length with hlt | hge
 ·have g1:(ws.map e1)[i]?=some (e1 ws[i]):=by rw[zJ,zb hlt];rfl
  have g2:(ws.map e2)[i]?=some (e2 ws[i]):=by rw[zJ,zb hlt];rfl
  refine .inr ⟨⟨_,_,_,_,sm.PL ha,sm.PL hb,g1,g2⟩,nofun,?_⟩;rintro x H2 ⟨p,u,v,np,rfl,rfl,hu,hv⟩;have eu:=hu _ (sm.PL ha);have ev:=hv _ (sm.PL hb);rw[g1] at eu;rw[g2] at ev;cases eu;cases ev;have s2:au H (upd H p (.tup [e1 ws[i],e2 ws[i]])):=aS np;refine turn ws[i] σ _ p (fun σ3 y H5=>if true=true then∃m',m'<ws.length-i/\(m'=ws.length-(i+1)/\i+1<=ws.length/\(xs++[y]).length=i+1/\au H1 H5/\aB H5 ((ws.take (i+1)).map F) (xs++[y])/\Pσ σ3) else False) (yk hlt) (sm.trans s2) ay pσ ?_;rintro σ3 y H5 s5 iy p3;rw[if_pos rfl];refine⟨_,nofun,rfl,hlt,by simp[hx],(sm.trans s2).trans s5,?_,p3⟩;rw[List.take_add_one,zb hlt,zj];exact cX iy ((il.mono s2).mono s5)
 ·have e:i=ws.length:=nofun
  subst e;refine .inl ⟨⟨_,_,sm.PL ha,sm.PL hb,.inl (by rw[za];exact zk _)⟩,nofun,fun D hD=>?_⟩;have il':aB H (ws.map F) xs:=by rw[zM] at il;exact il
  exact fin D xs _ (sm.trans (aS hD)) (sm.back hD) ay (il'.mono (aS hD))
def EY (hn:xs.length<=sizeLine) (hp:aH K H1 p xs) (h0:∃v,σ₀=[v])
  (fin:∀(D:Addr) (qs:List Addr) (H:Hp),au H1 H->H1 D=none->H D=some (.lst (qs.map V.ref))->qs.Nodup->D∉qs->qs.length=xs.length->(∀q∈qs,H1 q=none/\H q=some (.lst []))->Q (.ref D) H):dz σ₀ (bO 0) uh (FN dZ) Q (LR K p) H1:=by
 refine⟨fun i m ys σ H=>m=xs.length-i/\i<=xs.length/\ys.length=i/\(∃v,σ=[v])/\au H1 H/\∃qs:List Addr,ys=qs.map V.ref/\qs.Nodup/\∀q∈qs,H1 q=none/\H q=some (.lst []),⟨_,rfl,yf _,rfl,h0,au.refl _,[],rfl,List.nodup_nil,by simp⟩,?_⟩;rintro i m ys σ H ⟨rfl,hi,hx,⟨v,rfl⟩,sm,qs,rfl,nd,hq⟩;rw[za] at hx;rcases Nat.lt_or_ge i xs.length with hlt | hge
 ·refine .inr ⟨C6 (sm.seq hp) hlt,by rw[za];omega,?_⟩
  rintro x H2 ⟨rfl,_⟩;refine⟨yf _,fun q n=>?_⟩;refine⟨_,nofun,rfl,hlt,by rw[zg,za,hx];rfl,⟨_,rfl⟩,sm.trans (aS n),qs++[q],by rw[zj];rfl,?_,fun r hr=>?_⟩
  ·rw[zR]
   refine⟨nd,by simp,fun a ha b hb e=>?_⟩;have:b=q:=by simpa using hb
   subst this;subst e;rw[(hq a ha).2] at n;cases n
  ·rcases zF.mp hr with z | z
   ·exact⟨(hq r z).1,aS n _ _ (hq r z).2⟩
   ·rw[zy.mp z]
    exact⟨sm.back n,ay⟩
 ·have e:i=xs.length:=nofun
  subst e;refine .inl ⟨⟨_,sm.seq hp,zk _⟩,by rw[za];omega,fun D hD=>?_⟩;exact fin D qs _ (sm.trans (aS hD)) (sm.back hD) ay nd (fun z=>by rw[(hq D z).2] at hD;cases hD) hx fun q z=>⟨(hq q z).1,aS hD _ _ (hq q z).2⟩
theorem uD (f:α->β) (d:α):∀l:List α,(List.range l.length).map (fun i=>f (l.getD i d))=l.map f
 | []=>rfl
 | x::r=>by
  rw[zt,List.range_succ_eq_map,zh,zA,zh]
  congr 1
  exact uD f d r
theorem Cz (F:α->β->γ) (g:Nat->β) (d:α):∀(l:List α) (k:Nat),(List.range l.length).map (fun i=>F (l.getD i d) (g (k+i)))=(l.zip ((List.range l.length).map fun i=>g (k+i))).map fun p=>F p.1 p.2
 | [],_=>rfl
 | x::r,k=>by
  rw[zt,List.range_succ_eq_map,zh,zA,zh,zA,List.zip_cons_cons,zh]
  congr 1
  have:=Cz F g d r (k+1);have e:∀i,k+1+i=k+(i+1):=fun i=>nofun
  simp only[e] at this;exact this
theorem GG:∀{l:List α} {i j:Nat},l.Nodup->l[i]?=some x->l[j]?=some x->i=j
 | [],_,_,_,h,_=>by simp at h
 | y::r,0,0,_,_,_=>rfl
 | y::r,0,j+1,n,h,k=>by
  simp at h k;subst h;exact absurd (zB k) (yc.mp n).1
 | y::r,i+1,0,n,h,k=>by
  simp at h k;subst k;exact absurd (zB h) (yc.mp n).1
 | y::r,i+1,j+1,n,h,k=>by
  simp at h k;rw[GG (yc.mp n).2 h k]
def Lj (bs:List Int) (sp:Nat->Nat) (t:Nat):(List.range bs.length).map (fun i=>nH (bs.getD i 0,cQ sp t i))=(tM bs sp t).map nH:=by
 have:=Cz (fun b p=>nH (b,p)) (cQ sp t) 0 bs 0;simp only[Nat.zero_add] at this;rw[this];rfl
theorem xB (n:Int):∀ns:List Int,Fx (.int n) (ns.map V.int)=decide (n∈ns)
 | []=>rfl
 | m::ns=>by
  have ih:=xB n ns;unfold Fx at ih ⊢;rw[zh,List.any_cons,ih]
  by_cases e:n=m
  ·subst e
   simp[I0]
  ·simp[I0,e,Ne.symm (a:=m) (b:=n) (fun z=>e z.symm)]
   try omega
def rB {α:Type} {J:It} {ws:List α} {enc:α->V} {σ₀:St} {g:TG} {tc:TT} {te:TE} {Q:VK} {H1:Hp} (f:α->Bool) (F:α->Dt) (Pσ:St->Prop) (hn:ws.length<=sizeLine) (h0:Pσ σ₀)
  (go:∀i H,i<ws.length->au H1 H->J.go i H) (stop:∀H,au H1 H->J.stop ws.length H) (yl:∀(i:Nat) x H H2 (hi:i<ws.length),au H1 H->J.JL i H x H2->H2=H/\x=enc ws[i])
  (turn:∀(a:α) (σ:St) (H:Hp) (R:St->V->Hp->Prop) (N:St->Hp->Prop),a∈ws->au H1 H->Pσ σ->(f a=true->∀σ3 y H5,au H H5->Is H5 (F a) y->Pσ σ3->R σ3 y H5)->(f a=false->∀σ3 H5,au H H5->Pσ σ3->N σ3 H5)->g (enc a) σ H fun σ3 H3=>tc σ3 H3 fun b H4=>if b=true then te σ3 H4 fun y H5=>R σ3 y H5 else N σ3 H4)
  (fin:∀D vs H,au H1 H->H1 D=none->H D=some (.lst vs)->aB H ((ws.filter f).map F) vs->Q (.ref D) H):dz σ₀ g tc te Q J H1:=by
 refine⟨fun i m xs σ H=>m=ws.length-i/\i<=ws.length/\xs.length<=i/\au H1 H/\aB H (((ws.take i).filter f).map F) xs/\Pσ σ,⟨_,rfl,yf _,zk _,au.refl _,by simp[aB],h0⟩,?_⟩;rintro i m xs σ H ⟨rfl,hi,hx,sm,il,pσ⟩;rcases Nat.lt_or_ge i ws.length with hlt | hge
 ·refine .inr ⟨go i H hlt sm,nofun,?_⟩
  intro x H2 hy;obtain⟨rfl,rfl⟩:=yl i x H H2 hlt sm hy;have tk:ws.take (i+1)=ws.take i++[ws[i]]:=by rw[List.take_add_one,zb hlt];rfl
  refine turn ws[i] σ H2 _ _ (yk hlt) sm pσ ?_ ?_
  ·intro ff σ3 y H5 s5 iy p3
   refine⟨_,nofun,rfl,hlt,by rw[zg];show xs.length+1<=i+1;omega,sm.trans s5,?_,p3⟩;rw[tk,List.filter_append,zj];have:[ws[i]].filter f=[ws[i]]:=by simp[ff]
   rw[this];exact cX iy (il.mono s5)
  ·intro ff σ3 H5 s5 p3
   refine⟨_,nofun,rfl,hlt,nofun,sm.trans s5,?_,p3⟩;rw[tk,List.filter_append,zj];have:[ws[i]].filter f=[]:=by simp[ff]
   rw[this,ym,zU];exact il.mono s5
 ·have e:i=ws.length:=nofun
  subst e;refine .inl ⟨stop H sm,nofun,fun D hD=>?_⟩;have il':aB H ((ws.filter f).map F) xs:=by rw[zM] at il;exact il
  exact fin D xs _ (sm.trans (aS hD)) (sm.back hD) ay (il'.mono (aS hD))
noncomputable def eE (f:Int->Bool) (lo:Int) (n:Nat):List Int:=((List.range n).map fun i=>lo+(i:Nat)).filter f
def pA (h:x∈eE f lo n):lo<=x/\x<lo+n/\f x=true:=by
 unfold eE at h;rw[List.mem_filter] at h;obtain⟨i,hi,rfl⟩:=zG.mp h.1;have:=List.mem_range.mp hi;exact⟨nofun,nofun,h.2⟩
def pB:(eE f lo n).length<=n:=by
 unfold eE;refine zL (List.length_filter_le _ _) ?_;simp
def GY {f:Int->Bool} {lo x:Int} {n:Nat} (h1:lo<=x) (h2:x<lo+n) (h3:f x=true):x∈eE f lo n:=by
 unfold eE;rw[List.mem_filter];exact⟨zG.mpr ⟨(x-lo).toNat,List.mem_range.mpr nofun,nofun⟩,h3⟩
def jI {lo:Int} {n:Nat} {σ₀ rest:St} {tc:TT} {Q:VK} {H1:Hp} (f:Int->Bool) (hn:n<=sizeLine) (h0:∃v,σ₀=v::rest)
  (turn:∀(i:Int) (H:Hp) (R:Bool->Hp->Prop),lo<=i->i<lo+n->au H1 H->(∀H',au H H'->R (f i) H')->tc (some (.int i)::rest) H R)
  (fin:∀D H,au H1 H->H1 D=none->H D=some (.lst ((eE f lo n).map V.int))->Q (.ref D) H):dz σ₀ (bO 0) tc (aV 0) Q (N7 lo n) H1:=by
 refine rB (ws:=(List.range n).map fun i=>lo+(i:Nat)) (enc:=V.int) f Dt.int (fun σ=>∃v,σ=v::rest) (by simp;exact hn) h0 (fun i H hi _=>by rw[za,zQ] at hi;exact hi) (fun H _=>by rw[za,zQ];exact zk n) ?_ ?_ ?_
 ·rintro i x H H2 hi _ ⟨rfl,rfl⟩
  exact⟨rfl,by simp⟩
 ·rintro a σ H R N ha s1 ⟨v,rfl⟩ hR hN
  obtain⟨i,hi,rfl⟩:=zG.mp ha;have:=List.mem_range.mp hi;refine turn (lo+(i:Nat)) H _ nofun nofun s1 fun H' s'=>?_;cases q:f (lo+(i:Nat)) with
  | true=>exact b9 rfl ⟨_,rfl,hR q _ _ _ s' cL ⟨_,rfl⟩⟩
  | false=>exact cq rfl (hN q _ _ s' ⟨_,rfl⟩)
 ·intro D vs H s1 nD hD il
  rw[eR il] at hD;exact fin D H s1 nD hD
noncomputable def kc (rs:List Rep) (b:Int):Bool:=match dR rs b with
 | none=>true
 | some r=>match (r.ends.filter fun e=>decide (e.1<=b)).getLast? with
  | none=>true
  | some e=>decide (r.times∈e.2)
noncomputable def e9 (rs:List Rep) (b:Int):Bool:=rs.any fun r=>decide (r.first<b)&&decide (b<=r.last)
noncomputable def Fy (r:Rep) (b:Int):Bool:=decide (r.first<=b)&&decide (b<=r.last)
theorem AF:∀{l:List α} {i:Nat} {x:α},l[i]?=some x->p x=true->(∀y∈l.take i,p y=false)->l.find? p=some x
 | [],_,_,h,_,_=>by simp at h
 | y::r,0,x,h,hx,_=>by simp at h;subst h;rw[List.find?_cons,hx]
 | y::r,i+1,x,h,hx,hn=>by
  rw[List.find?_cons,hn y (by rw[List.take_succ_cons];exact zp)];exact AF (i:=i) (by simpa using h) hx fun z hz=>hn z (by rw[List.take_succ_cons];exact zm _ hz)
theorem C9:∀{es:List End},(es.map (·.1)).Pairwise (·<·)->x∈(es.zip ((es.drop 1).map (·.1)++[hi])).map (fun p=>(p.1.1,p.2-1,p.1.2))->x.1<=b->b<=x.2.1->∃e,(es.filter fun e=>decide (e.1<=b)).getLast?=some e/\e.2=x.2.2
 | [],_,h,_,_=>by simp at h
 | [e],_,h,h1,h2=>by
  simp at h;subst h;exact⟨e,by simp at h1 ⊢;exact h1,rfl⟩
 | e::e'::r,asc,h,h1,h2=>by
  rw[zh,List.pairwise_cons] at asc;rw[List.drop_one,List.tail_cons,zh,List.cons_append,List.zip_cons_cons,zh,zC] at h;rcases h with h | h
  ·subst h
   dsimp only at h1 h2;have no:(e'::r).filter (fun e=>decide (e.1<=b))=[]:=by
    rw[List.filter_eq_nil_iff];intro y hy;have hm:y.1∈(e'::r).map (·.1):=zO (f:=fun z:End=>z.1) hy;have a2:=asc.2;rw[zh,List.pairwise_cons] at a2;rw[zh,zC] at hm;rcases hm with z | z
    ·simp;omega
    ·have:=a2.1 _ z
     simp;omega
   refine⟨e,?_,rfl⟩;rw[List.filter_cons,if_pos (ze h1),no];rfl
  ·obtain⟨e2,f1,f2⟩:=C9 (es:=e'::r) asc.2 (by rw[List.drop_one,List.tail_cons];exact h) h1 h2
   refine⟨e2,?_,f2⟩;rw[List.filter_cons];split
   ·cases q:(e'::r).filter (fun e=>decide (e.1<=b)) with
    | nil=>rw[q] at f1;cases f1
    | cons y t=>rw[q] at f1;rw[List.getLast?_cons_cons];exact f1
   ·exact f1
theorem Kc:∀{es:List End},(∀e∈es,lo<=e.1/\e.1<hi)->x∈(es.zip ((es.drop 1).map (·.1)++[hi])).map (fun p=>(p.1.1,p.2-1,p.1.2))->lo<=x.1/\x.2.1<hi
 | [],_,h=>by simp at h
 | [e],hx,h=>by
  simp at h;subst h;have:=hx e (by simp);exact⟨this.1,by show hi-1<hi;omega⟩
 | e::e'::r,hx,h=>by
  rw[List.drop_one,List.tail_cons,zh,List.cons_append,List.zip_cons_cons,zh,zC] at h;rcases h with h | h
  ·subst h
   have a:=hx e (by simp);have c:=hx e' (by simp);exact⟨a.1,by show e'.1-1<hi;omega⟩
  ·exact Kc (es:=e'::r) (fun y hy=>hx y (zm _ hy)) (by rw[List.drop_one,List.tail_cons];exact h)
def Apart (rs:List Rep):Prop:=(∀r∈rs,r.first<=r.last/\(r.ends.map (·.1)).Pairwise (·<·)/\∀e∈r.ends,r.first<=e.1/\e.1<=r.last)/\rs.Pairwise fun a b=>a.last<b.first
theorem vd:∀{rs:List Rep} {r r':Rep} {b:Int},(∀r∈rs,r.first<=r.last)->rs.Pairwise (fun a b=>a.last<b.first)->r∈rs->r'∈rs->r.first<=b->b<=r.last->r'.first<=b->b<=r'.last->r=r'
 | [],_,_,_,_,_,h,_,_,_,_,_=>by cases h
 | x::l,r,r',b,hf,hp,h,h',h1,h2,h3,h4=>by
  rw[List.pairwise_cons] at hp;rcases zC.mp h with e | e <;> rcases zC.mp h' with e' | e'
  ·rw[e,e']
  ·subst e
   have:=hp.1 r' e';omega
  ·subst e'
   have:=hp.1 r e;omega
  ·exact vd (fun y hy=>hf y (zm _ hy)) hp.2 e e' h1 h2 h3 h4
def qN {rs:List Rep} {b:Int} {r:Rep} (h:dR rs b=some r):r∈rs/\r.first<=b/\b<=r.last:=by
 unfold dR at h;have h1:=List.mem_of_find?_eq_some h;have h2:=List.find?_some h;simp at h2;exact⟨h1,h2⟩
def J5 {rs:List Rep} {b:Int} (ap:Apart rs) (h:kc rs b=true):md rs b=true:=by
 unfold md;rw[yo];intro r hr;rw[yo];intro x hx;obtain⟨a1,a2,a3⟩:=ap.1 r hr
 by_cases c1:x.1<=b
 ·by_cases c2:b<=x.2.1
  ·unfold jG at hx
   have ein:=Kc (lo:=r.first) (fun e he=>⟨(a3 e he).1,by have:=(a3 e he).2;omega⟩) hx;obtain⟨e,f1,f2⟩:=C9 a2 hx c1 c2;unfold kc at h;have hro:dR rs b=some r:=by
    cases q:dR rs b with
    | none=>
     unfold dR at q;have:=List.find?_eq_none.mp q r hr;simp at this;omega
    | some r'=>
     obtain⟨g1,g2,g3⟩:=qN q;rw[vd (fun y hy=>(ap.1 y hy).1) ap.2 g1 hr g2 g3 nofun nofun]
   rw[hro] at h;dsimp only at h;rw[f1] at h;dsimp only at h;rw[f2] at h;rw[h];simp
  ·rw[zd c2];simp
 ·rw[zd c1];simp
def vT {rs:List Rep} {b:Int} (h:e9 rs b=false):eC rs b=true:=by
 unfold eC;cases q:dR rs b with
 | none=>rfl
 | some r=>
  obtain⟨g1,g2,g3⟩:=qN q;dsimp only;unfold e9 at h;rw[List.any_eq_false] at h;have:=h r g1;simp at this;exact ze nofun
def Nt {rs:List Rep} {b:Int} (ap:Apart rs) (h:(∃r∈rs,r.last=b)\/(rs.any fun r=>Fy r b)=false):hJ rs b=true:=by
 unfold hJ;cases q:dR rs b with
 | none=>rfl
 | some r=>
  obtain⟨g1,g2,g3⟩:=qN q;dsimp only;rcases h with⟨r',hr',e⟩ | h
  ·have:=vd (b:=b) (fun y hy=>(ap.1 y hy).1) ap.2 g1 hr' g2 g3 (by have:=(ap.1 r' hr').1;omega) nofun
   rw[this,e];exact ze rfl
  ·rw[List.any_eq_false] at h
   have:=h r g1;unfold Fy at this;simp at this;omega
def Py (many:Int) (rs:List Rep) (j:Jump):Prop:=hX rs j=true/\(0<=j.xy/\j.xy<many)/\(0<=j.Bu/\j.Bu<many)/\(0<=j.dE/\j.dE<many)/\∀c,j.gH=some c->0<=c/\c<many
def Q9 {many:Int} {rs:List Rep} (ap:Apart rs) {a t u:Int} {c:Option Int} (ha:0<=a) (ha2:a<many) (hl:(∃r∈rs,r.last=a)\/(rs.any fun r=>Fy r a)=false) (ht:0<=t) (ht2:t<=a) (hti:e9 rs t=false)
  (hu:t<=u) (hu2:u<=a) (hul:kc rs u=true) (hc:∀x,c=some x->a<x/\x<many/\e9 rs x=false/\kc rs x=true):Py many rs ⟨a,t,u,c⟩:=by
 refine⟨?_,⟨ha,ha2⟩,⟨ht,by show t<many;omega⟩,⟨by show 0<=u;omega,by show u<many;omega⟩,fun x hx=>?_⟩
 ·unfold hX
  dsimp only;rw[if_neg nofun,if_neg nofun,Nt ap hl,vT hti,J5 ap hul];cases c with
  | none=>rfl
  | some x=>
   obtain⟨h1,h2,h3,h4⟩:=hc x rfl;dsimp only;rw[ze h1,vT h3,J5 ap h4];rfl
 ·obtain⟨h1,h2,_⟩:=hc x hx
  exact⟨nofun,h2⟩
def IT (t1:0<t) (t2:t<=32) (b1:0<b) (b2:b<=160):LQ (red t b):=by
 obtain⟨g,g1,g2,g3,g4,g5⟩:=lR (t:=t) b1;have r1:=y9 (t:=t) (b:=b) (Int.le_of_lt t1);have r0:=y8 (t:=t) (b:=b) (Int.le_of_lt t1);refine⟨Lm.Rd.of (Int.le_of_lt t1) b1,?_,nofun,nofun⟩;rcases Int.lt_or_eq_of_le r0 with z | z
 ·exact z
 ·rw[<-z,Int.mul_zero] at g2;omega
inductive K8:List Expr->List (Int×Int)->Prop
 | n:K8 [] []
 | c {a b:Int} {x y u v m k r ps} (h:K8 r ps):K8 (.Tuple [.Constant (.int a) x y,.Constant (.int b) u v] m k::r) ((a,b)::ps)
def QU {X:Cx} {es:List Expr} {ps:List (Int×Int)} (h:K8 es ps):PA X es (FL ps):=by
 induction h with
 | n=>exact QT
 | c _ q=>exact Se q
def QR {X:Cx} {es:List Expr} {p1 pos:Pos} {b:Expr} {tb:TE} (ps:List (Int×Int)) (hb:PE X b tb) (hs:tZ b) (h:K8 es ps<|>qh_) (hl:ps.length<=1000<|>qb_):PE X (.Subscript (.List es p1) b pos) (fu (OK X.K) (S7 ps) tb):=Ae J6 (QP (QU h) hl) hb hs
@[irreducible] def P8 (X:Cx) (s:Stmt) (t:TS):Prop:=PS X s t
@[irreducible] def Tg (X:Cx) (e:Expr) (t:TE):Prop:=PE X e t
def Ub {X:Cx} {x:Str} {e:Expr} {te:TE} {pos pos':Pos} (i:Nat) (hN:X.N.Nodup) (he:Tg X e te) (hi:X.N[i]?=some x<|>qe_) (hx:Loc X.env.scope x<|>qi_) (hs:swapsWith e (some (.Name x pos')) pos.line X.env=pure false<|>qe_) (hf:X.fn x=true\/X.env.scope.names.lookup x=some .local<|>qa_) :
  P8 X (.Assign [.Name x pos'] e pos) (FO te (bO i)):=by
 unfold P8;unfold Tg at he;exact MW hN hi hx he hs hf
def OQ {X:Cx} {es:List Expr} {p1 pos:Pos} {b:Expr} {tb:TE} (ps:List (Int×Int)) (hb:PE X b tb) (hs:tZ b) (h:K8 es ps<|>qh_) (hl:ps.length<=1000<|>qb_):Tg X (.Subscript (.List es p1) b pos) (fu (OK X.K) (S7 ps) tb):=by
 unfold Tg;exact QR ps hb hs h hl
@[irreducible] def JD (X:Cx) (s:List Stmt) (t:TS):Prop:=Dv X s t
def zS {X:Cx} {s:Stmt} {t:TS} (h:PS X s t):P8 X s t:=by unfold P8;exact h
def zo {X:Cx} {s:Stmt} {t:TS} (h:P8 X s t):JD X [s] t:=by unfold JD;unfold P8 at h;exact aj h
def zc {X:Cx} {s:Stmt} {r:List Stmt} {t u:TS} (h:P8 X s t) (h2:JD X r u):JD X (s::r) (Qo t u):=by unfold JD at h2 ⊢;unfold P8 at h;exact ag h h2
def zf {X:Cx} {s:List Stmt} {t:TS} (h:JD X s t):Dv X s t:=by unfold JD at h;exact h
def A1 {K:yA} {a:Addr} {ns:List Str} {σ₀ rest:St} {tc:TT} {Q:VK} {H1:Hp} (f:Str->Bool) (hn:ns.length<=sizeLine) (ha:aH K H1 a (ns.map V.str)) (h0:∃v,σ₀=v::rest)
  (turn:∀(n:Str) (H:Hp) (R:Bool->Hp->Prop),n∈ns->au H1 H->(∀H',au H H'->R (f n) H')->tc (some (.str n)::rest) H R)
  (fin:∀D H,au H1 H->H1 D=none->H D=some (.lst ((ns.filter f).map V.str))->Q (.ref D) H):dz σ₀ (bO 0) tc (aV 0) Q (LR K a) H1:=by
 refine rB (ws:=ns) (enc:=V.str) f Dt.str (fun σ=>∃v,σ=v::rest) hn h0 (fun i H hi sm=>C6 (sm.seq ha) (by rw[za];exact hi)) (fun H sm=>⟨_,sm.seq ha,by rw[za];exact zk _⟩) ?_ ?_ ?_
 ·rintro i x H H2 hi sm ⟨rfl,hy⟩
  have hx':=hy _ (sm.seq ha);rw[zJ,zb hi] at hx';cases hx';exact⟨rfl,rfl⟩
 ·rintro n σ H R N hn s1 ⟨v,rfl⟩ hR hN
  refine turn n H _ hn s1 fun H' s'=>?_;cases q:f n with
  | true=>exact b9 rfl ⟨_,rfl,hR q _ _ _ s' eL ⟨_,rfl⟩⟩
  | false=>exact cq rfl (hN q _ _ s' ⟨_,rfl⟩)
 ·intro D vs H s1 nD hD il
  rw[dM il] at hD;exact fin D H s1 nD hD
def pK (f:Int->Bool):Nat->Nat
 | 0=>0
 | k+1=>if f k=true then 0 else pK f k+1
theorem DZ (f:Int->Bool):∀k,pK f k<=k
 | 0=>zk _
 | k+1=>by
  have:=DZ f k;unfold pK;split <;> omega
theorem D1 {f:Int->Bool}:∀{b e:Nat},e<=b->(∀j,j<e->f ((b:Int)-1-j)=false)->(e=b\/f ((b:Int)-1-e)=true)->pK f b=e
 | 0,e,h,_,_=>by unfold pK;omega
 | b+1,0,_,_,h=>by
  have:f b=true:=by
   rcases h with h | h
   ·omega
   ·rw[<-h];congr 1;omega
  unfold pK;rw[if_pos this]
 | b+1,e+1,h,h1,h2=>by
  have h0:f b=false:=by rw[<-h1 0 nofun];congr 1;omega
  unfold pK;rw[if_neg (by rw[h0];simp),D1 (b:=b) (e:=e) nofun (fun j hj=>by rw[<-h1 (j+1) nofun];congr 1;omega) (h2.imp (fun z=>nofun) fun z=>by rw[<-z];congr 1;omega)]
theorem RL.zip {α:Type} {R:α->V->Prop}:∀{xs:List α} {vs:List V},RL R xs vs->∃ps:List (α×V),ps.map (·.1)=xs/\ps.map (·.2)=vs/\∀z∈ps,R z.1 z.2
 | [],_,e=>⟨[],rfl,by unfold RL at e;rw[e];rfl,by simp⟩
 | x::xs,_,⟨v,r,e,h1,h2⟩=>by
  obtain⟨ps,a,b,c⟩:=RL.zip h2;refine⟨(x,v)::ps,by rw[zh,a],by rw[zh,b,e],fun z hz=>?_⟩;rcases zC.mp hz with rfl | hz
  ·exact h1
  ·exact c z hz
def iM (H:Hp) (b:Int) (v:V):Prop:=∃a c,v=.ref a/\H a=some (.tup [.int b,c])
def iM.mono {H H':Hp} (s:au H H') {b:Int} {v:V} (h:iM H b v):iM H' b v:=by
 obtain⟨a,c,h1,h2⟩:=h;exact⟨a,c,h1,s _ _ h2⟩
theorem iM.upd {D:Addr} {H:Hp} {vs:List V} {o:HO} (hD:H D=some (.lst vs)) {b:Int} {v:V} (h:iM H b v):iM (L2.upd H D o) b v:=by
 obtain⟨a,c,h1,h2⟩:=h;exact⟨a,c,h1,by rw[aE (Sc.bc h2 hD (by simp[kindOf]))];exact h2⟩
def Dj {K:yA} {D:Addr} {us:List V} {bs:List Int} {v:Option V} {Q:VK} {H1:Hp} (hD:H1 D=some (.lst us)) (rl:RL (iM H1) bs us) (hn:bs.length<=1000)
  (fin:∀D' H,au H1 H->H D'=some (.lst (bs.map V.int))->Q (.ref D') H):dz [v] (bO 0) uh (fu (lU K) (aV 0) (tC (.int 0))) Q (LR K D) H1:=by
 obtain⟨ps,e1,e2,e3⟩:=rl.zip;have sl:=yB;have psl:ps.length=bs.length:=by rw[<-e1,za]
 refine fk (enc:=fun z:Int×V=>z.2) (ws:=ps) (fun z=>.int z.1) (fun σ=>∃v1,σ=[v1]) nofun (by rw[e2];exact aH.of hD) ⟨_,rfl⟩ ?_ ?_
 ·rintro z σ H R hz s ⟨v1,rfl⟩ rr
  obtain⟨a,c,ev,h⟩:=(e3 z hz).mono s;rw[ev];exact⟨_,rfl,a,_,0,_,rfl,rfl,dA.of h,bx (j:=0) rfl,rr _ _ _ (au.refl _) cL ⟨_,rfl⟩⟩
 ·intro D' vs H s h il
  rw[show ps.map (fun z:Int×V=>Dt.int z.1)=bs.map Dt.int from by rw[<-e1,zA];rfl] at il;rw[eR il] at h;exact fin D' H s h
def xF (l:List Int):(l.map V.int).all OO=true:=by rw[List.all_map];exact yo.mpr fun _ _=>rfl
def lz (S:cG) (n:Str) (q:Int) (b:Int):Bool:=decide ((b,n)∈S.aF.map (·.1))&&decide (q<=(pK (fun j=>decide ((j,n)∈S.aF.map (·.1))) b.toNat:Int))
def jF (f:Int->Bool) (i:Nat):eE f 0 (i+1)=eE f 0 i++if f i=true then [(i:Int)] else []:=by
 unfold eE;rw[List.range_succ,zj,List.filter_append]
 congr 1
 simp only[zh,ym,Int.zero_add];rw[List.filter_cons];split <;> rfl
end Sc
namespace K22
open PySem L2 Lm Sc
def top (i:Nat):Stmt:=PySem.Challenge.pw_partsmith_k26_entries.main.body.getD i (.Pass ⟨0,0,0,0⟩)
abbrev qi:=top 7
abbrev qd:=top 8
abbrev kU:=top 11
abbrev qp:=top 12
abbrev JW:=top 13
abbrev CJ:=top 14
abbrev qk:=top 15
abbrev so:=top 21
abbrev jt:=top 22
abbrev vC:=top 23
abbrev yQ:=top 33
abbrev yX:=top 34
abbrev vA:=top 35
abbrev sk:=top 36
abbrev pY:=top 37
abbrev vz:=top 38
abbrev vy:=top 39
abbrev su:=top 40
abbrev yR:=top 41
abbrev yS:=top 42
abbrev qh:=top 43
abbrev jU:=top 44
abbrev si:=top 45
abbrev yT:=top 46
abbrev pZ:=top 47
abbrev vD:=top 48
abbrev sr:=top 49
abbrev qg:=top 50
abbrev vB:=top 51
abbrev mM:=top 53
abbrev qL:=top 54
abbrev CL:=top 55
abbrev yW:=top 56
abbrev pX:=top 57
abbrev oj:=top 58
abbrev vE:=top 59
abbrev vF:=top 60
abbrev ox:=top 61
abbrev vI:=top 62
abbrev vG:=top 63
abbrev oq:=top 72
abbrev pV:=top 73
abbrev ou:=top 74
abbrev yV:=top 75
abbrev oo:=top 76
abbrev jw:=top 77
abbrev pW:=top 78
abbrev vJ:=top 79
abbrev oh:=top 80
abbrev sD:=top 81
abbrev qo:=top 82
abbrev om:=top 83
abbrev sC:=top 84
abbrev qM:=top 86
abbrev yY:=top 87
abbrev CM:=top 88
abbrev sj:=top 89
abbrev oy:=top 91
abbrev yU:=top 93
abbrev sA:=top 94
abbrev vH:=top 95
abbrev CK:=top 96
abbrev oE:=top 98
abbrev sF:=top 99
abbrev mS:=top 100
abbrev qt:=top 101
abbrev mP:=top 102
abbrev mT:=top 103
abbrev oF:=top 104
abbrev kX:=top 105
abbrev mU:=top 106
abbrev mR:=top 107
abbrev oC:=top 108
abbrev jX:=top 109
abbrev oz:=top 110
abbrev sG:=top 111
abbrev oA:=top 112
abbrev gw:=top 113
abbrev kW:=top 114
abbrev mO:=top 115
abbrev jy:=top 116
abbrev kY:=top 117
abbrev jx:=top 118
abbrev kZ:=top 119
abbrev jW:=top 120
abbrev jV:=top 121
abbrev sE:=top 122
abbrev mQ:=top 123
abbrev oB:=top 124
abbrev qq:=top 125
abbrev PM:=top 126
abbrev sH:=inClass (top 71) 0
structure Df (K:yA) (mg:Str->Option Value) (x:Str) (st:Stmt) (a:Addr) (d:FuncData) (ps:List Str):Prop where
 F:N9 K x x st a d
 g:mg x=some (.ref a)
 b:Binds K d ps []
structure UJ (K:yA) (x y:Str) (st:Stmt) (a:Addr) (d:FuncData) (ps:List Str):Prop where
 F:N9 K x y st a d
 b:Binds K d ps []
set_option genInjectivity false in
set_option genSizeOf false in
structure Txt (K:yA) (mg:Str->Option Value) where
 (Cs Cr ve Ct Pu LH kK Fg rD HJ Jv JB HI Ff Cq HG HF Fh Jw Jx gW eT iZ mn gS ki i4 gU kg xg Be LJ JA Cp Bd HK HL Bh HP HM Bf Co Bg Jz gr d9 gR km gn i7 gX gq i6 Bi JC LK Fe Bj Jy Fi HN LI Bp Fl xm Cv xi xn Bq vg xo xk Bo tX Bk Fm Bl nI vf xh rF vh rE vi tW tV Fj xj Bm Cu SJ mq mm jJ eB jf sN:Addr)
 (Cb B8 uW Cd Pn Lp kF EL rj Hm Jb Jk Hk EK B6 Hj Hi EN Jd Je Ca tN EI Jf B7 Hn EM B9 Hl wU Jc Lu Jj B5 AM Ho Hr AS Hu Hs AQ B3 AR Jh AO rk B4 Hv AL ES Cc AN ER Ji Jl Lv EJ AU Jg EO Ht Ls AZ EU wZ Cg wW xa A0 uY xb wY AY tQ AV EV AW nG uX wV rA uZ rm u7 tP tO ET wX AX Ce NT tR:FuncData)
 (KC ug Bx xO By vZ Dy xR ue xS v8 xT DA xQ qA FK DC DB xP:Tok)
 dI:Df K mg "read_number" qi Cs Cb ["text","most"]
 fN:Df K mg "read_signed" qd Cr B8 ["text","most"]
 gk:Df K mg "common_divisor" kU ve uW ["one","other"]
 eZ:Df K mg "made_length" qp Ct Cd ["top","bottom"]
 added:Df K mg "added" JW Pu Pn ["one","other"]
 DT:Df K mg "shorter" CJ LH Lp ["one","other"]
 eY:Df K mg "read_length" qk kK kF ["text"]
 jA:Df K mg "read_pitch" so Fg EL ["fifths_text","steps_text"]
 dX:Df K mg "read_item_length" jt rD rj ["text"]
 uC:Df K mg "read_item" vC HJ Hm ["text"]
 words_of:Df K mg "words_of" yQ Jv Jb ["row"]
 dw:Df K mg "all_read" yX JB Jk ["values"]
 fe:Df K mg "read_name" vA HI Hk ["word"]
 cV:Df K mg "read_plain" sk Ff EK ["word"]
 jY:Df K mg "read_within" pY Cq B6 ["word","lowest","highest"]
 uB:Df K mg "read_time" vz HG Hj ["word"]
 uA:Df K mg "read_turn" vy HF Hi ["fifths_word","steps_word"]
 qQ:Df K mg "read_metre" su Fh EN ["word"]
 Ab:Df K mg "read_key" yR Jw Jd ["word"]
 Ac:Df K mg "read_end" yS Jx Je ["word"]
 j6:Df K mg "read_player" qh gW Ca ["words"]
 fK:Df K mg "read_instrument" jU eT tN ["words"]
 lS:Df K mg "read_staff" si iZ EI ["words"]
 sM:Df K mg "read_bar" yT mn Jf ["words"]
 jZ:Df K mg "read_upbeat" pZ gS B7 ["words"]
 oZ:Df K mg "read_hold" vD ki Hn ["words"]
 lT:Df K mg "read_notes" sr i4 EM ["words"]
 j0:Df K mg "read_repeat" qg gU B9 ["words"]
 oY:Df K mg "read_jump" vB kg Hl ["words"]
 kD:Df K mg "is_score_word" mM xg wU ["word"]
 Aa:Df K mg "read_row" qL Be Jc ["words"]
 EE:Df K mg "ends_of" CL LJ Lu ["repeat"]
 AH:Df K mg "ends_fit" yW JA Jj ["repeat"]
 oG:Df K mg "repeat_fits" pX Cp B5 ["repeats","repeat"]
 iP:Df K mg "repeat_round" oj Bd AM ["repeats","bar"]
 uN:Df K mg "may_leave" vE HK Ho ["repeats","bar"]
 pk:Df K mg "may_enter" vF HL Hr ["repeats","bar"]
 iX:Df K mg "in_last_pass" ox Bh AS ["repeats","bar"]
 vb:Df K mg "coda_fits" vI HP Hu ["repeats","at","coda"]
 uR:Df K mg "jump_fits" vG HM Hs ["repeats","jump"]
 iU:Df K mg "metre_length" oq Bf AQ ["score","bar"]
 nM:Df K mg "told_length" pV Co B3 ["score","bar"]
 ma:Df K mg "items_length" ou Bg AR ["items"]
 ly:Df K mg "has_bars" yV Jz Jh ["score","bars"]
 iS:Df K mg "player_fault" oo gr AO ["score","player"]
 fi:Df K mg "instrument_fault" jw d9 rk ["score","told"]
 gY:Df K mg "staff_fault" pW gR B4 ["score","told"]
 pC:Df K mg "bar_fault" vJ km Hv ["score","told"]
 fW:Df K mg "upbeat_fault" oh gn AL ["score","length"]
 mf:Df K mg "hold_fault" sD i7 ES ["score","told"]
 j9:Df K mg "notes_fault" qo gX Cc ["score","told"]
 iQ:Df K mg "repeat_fault" om gq AN ["score","repeat"]
 l8:Df K mg "jump_fault" sC i6 ER ["score","jump"]
 AG:Df K mg "fault_of" qM Bi Ji ["score","sort","told"]
 Bc:Df K mg "add_hold" yY JC Jl ["score","told"]
 Fd:Df K mg "add_row" CM LK Lv ["score","sort","told"]
 qP:Df K mg "read_score" sj Fe EJ ["text"]
 mj:Df K mg "check_player" oy Bj AU ["score","player"]
 tH:Df K mg "is_empty" yU Jy Jg ["score","player","bar"]
 qT:Df K mg "playing_in" sA Fi EO ["score","bar"]
 u9:Df K mg "cue_among" vH HN Ht ["score","silent"]
 entries:Df K mg "entries" CK LI Ls ["score","player","quiet"]
 bS:Df K mg "_law_cell_at" oE Bp AZ ["_law_script","_law_k"]
 cB:Df K mg "_law_mixed" sF Fl EU ["_law_cell","_law_k"]
 eI:Df K mg "_law_names_by" mS xm wZ ["_law_cell","_law_many"]
 fR:Df K mg "_law_lowest" qt Cv Cg ["_law_top","_law_bottom"]
 kM:Df K mg "_law_pitch_by" mP xi wW ["_law_m"]
 kQ:Df K mg "_law_items_by" mT xn xa ["_law_m","_law_length"]
 mC:Df K mg "_law_bars_by" oF Bq A0 ["_law_cell","_law_many"]
 jL:Df K mg "_law_length_of" kX vg uY ["_law_bars","_law_upbeat","_law_bar"]
 kR:Df K mg "_law_holds_by" mU xo xb ["_law_cell","_law_players","_law_instruments","_law_many"]
 kP:Df K mg "_law_notes_by" mR xk wY ["_law_cell","_law_players","_law_bars","_law_upbeat"]
 mB:Df K mg "_law_ends_by" oC Bo AY ["_law_m","_law_first","_law_last","_law_times"]
 iD:Df K mg "_law_repeats_by" jX tX tQ ["_law_cell","_law_many"]
 i9:Df K mg "_law_lasting" oz Bk AV ["_law_repeats","_law_bar"]
 mw:Df K mg "_law_inner" sG Fm EV ["_law_repeats","_law_bar"]
 mr:Df K mg "_law_jump_by" oA Bl AW ["_law_cell","_law_many","_law_repeats"]
 fA:Df K mg "_law_instruments_by" gw nI nG ["_law_cell"]
 jK:Df K mg "_law_staffs_by" kW vf uX ["_law_cell","_law_players"]
 kL:Df K mg "_law_score_by" mO xh wV ["_law_script","_law_most"]
 dt:Df K mg "_law_length_text" jy rF rA ["_law_length"]
 jM:Df K mg "_law_item_text" kY vh uZ ["_law_item"]
 gJ:Df K mg "_law_repeat_text" jx rE rm ["_law_repeat"]
 jN:Df K mg "_law_form_rows" kZ vi u7 ["_law_s"]
 iC:Df K mg "_law_score_rows" jW tW tP ["_law_s"]
 iB:Df K mg "_law_score_text" jV tV tO ["_law_s"]
 rG:Df K mg "_law_whole" sE Fj ET ["_law_found"]
 kO:Df K mg "_law_notes_of" mQ xj wX ["_law_s"]
 mz:Df K mg "_law_entries" oB Bm AX ["_law_s","_law_player","_law_quiet"]
 oV:Df K mg "_law_quiets" qq Cu Ce ["_law_script"]
 Ud:Df K mg "law" PM SJ NT ["_law_script"]
 Ol:mg "Score"= some (.ref mm)
 Px:Mk K mm mq
 Br:UJ K "__init__" "Score.__init__" sH mq tR ["self"]
 LB:mg "FIGURES"= some (.str "0123456789" KC)
 lF:mg "LENGTH_FIGURES"= some (.int (4) ug)
 Ck:mg "HIGHEST_KEY"= some (.int (7) Bx)
 A5:mg "OCTAVE_STEPS"= some (.int (12) xO)
 Cm:mg "FIFTH_STEPS"= some (.int (7) By)
 nr:mg "PITCH_FIGURES"= some (.int (2) vZ)
 E1:mg "NAME_SIGNS"= some (.str "abcdefghijklmnopqrstuvwxyz0123456789" Dy)
 A8:mg "LONGEST_NAME"= some (.int (12) xR)
 lE:mg "NUMBER_FIGURES"= some (.int (3) ue)
 A9:mg "HIGHEST_TURN"= some (.int (12) xS)
 xf:mg "HIGHEST_METRE"= some (.int (32) v8)
 xc:mg "METRE_BOTTOMS"= some (.ref eB)
 m9:∀H,dA K H eB [.int 1,.int 2,.int 4,.int 8,.int 16,.int 32]
 Ba:mg "FEWEST_TIMES"= some (.int (2) xT)
 E3:mg "MOST_TIMES"= some (.int (9) DA)
 Dl:mg "READERS"= some (.ref jf)
 A7:mg "MOST_PLAYERS"= some (.int (12) xQ)
 rC:mg "MOST_INSTRUMENTS"= some (.int (12) qA)
 Hz:mg "MOST_BARS"= some (.int (200) FK)
 E5:mg "MOST_HOLDS"= some (.int (20) DC)
 E4:mg "MOST_ITEMS"= some (.int (40) DB)
 A6:mg "MOST_REPEATS"= some (.int (20) xP)
 NW:mg "FAULTS"= some (.ref sN)
 PZ:mg "abs"= none
 CV:mg "all"= none
 Au:mg "any"= none
 Q0:mg "bool"= none
 ka:mg "enumerate"= none
 PY:mg "int"= none
 iT:mg "isinstance"= none
 bA:mg "len"= none
 ra:mg "list"= none
 Si:mg "min"= none
 dg:mg "range"= none
 II:mg "reversed"= none
 Sh:mg "set"= none
 GI:mg "sorted"= none
 fG:mg "str"= none
 Sg:mg "sum"= none
 gP:mg "tuple"= none
 Nh:mg "zip"= none
 mh:PySem.W.nsIn K mainGlobals "NoLength"= some (some (.ref jJ))
 lW:PySem.W.excIn K jJ [.type "ValueError",.type "Exception",.type "BaseException",.type "object"] "ValueError.__new__"= true
 Qi:mg "NoLength"= some (.ref jJ)
 cf:Cf K mm
def bM {X:Cx} {x:Str} {st:Stmt} {k n:Nat} {f:Addr} {fd:FuncData} {ps:List Str} {sp:Sp} {e:Expr} {es:List Expr} {t:TA} {p pos:Pos} (F:dP X.prog X.w X.K X.mg X.base HU k f fd ps sp) (hr:fV n X.A) (D:Df X.K X.mg x st f fd ps)
  (ha:PA X (e::es) t) (hk:k<=n<|>qb_) (hg:Gl X x<|>qe_) (hdb:(x == ("__debug__": Str))=false<|>qb_) (he:starEach (e::es) X.env=(false,eval e X.env)::starEach es X.env<|>qe_) (hpl:(backTo pos (starEach es X.env)).any (·.1)=false<|>qe_) :
  PE X (.Call (.Name x p) (e::es) [] pos) (fX sp [] E0 t):=OS F (hr.mono hk) hg D.g D.F.kp D.b .nil J1 ha hdb he hpl
def fO {X:Cx} {a b:Expr} {ta tb:TE} {pos:Pos} (ha:PE X a ta) (hb:PE X b tb) (hs:tZ b<|>qj_):PE X (.Subscript a b pos) (fu (OK X.K) ta tb):=Ae J6 ha hb hs
def bV {X:Cx} {a b:Expr} {ta tb:TE} {pos:Pos} (ha:PE X a ta) (hb:PE X b tb) (hs:tZ b<|>qj_):PE X (.Subscript a b pos) (fu (lU X.K) ta tb):=Ae Ra ha hb hs
def ptr {X:Cx} {a b:Expr} {ta tb:TE} {pos:Pos} {op:CmpOp} {r:R2} (ho:pE X (compareOp op) r) (ha:PE X a ta) (hb:PE X b tb) (h:op≠.In<|>qb_) (h2:op≠.NotIn<|>qb_):PT X (.Compare a [op] [b] pos) (nO (fu r ta tb)):=iR ho ha hb (iw b h h2)
def Lo (p:St) (n:Nat) (σ:St):Prop:=∃e:Nat->Option V,σ=p++(List.range n).map e
def Lo.of {p:St} {n:Nat} {σ:St} (h:σ.take p.length=p) (l:σ.length=p.length+n):Lo p n σ:=by
 refine⟨fun i=>σ[p.length+i]?.join,List.ext_getElem? fun i=>?_⟩
 by_cases c:i<p.length
 ·rw[List.getElem?_append_left c]
  conv=>rhs;rw[<-h]
  rw[List.getElem?_take_of_lt c]
 ·rw[zZ nofun,zJ]
  by_cases d:i-p.length<n
  ·rw[List.getElem?_range d]
   have:p.length+(i-p.length)=i:=nofun
   simp only[Option.map_some,this];rw[zb nofun];rfl
  ·rw[List.getElem?_eq_none nofun,List.getElem?_eq_none (by simp;omega)]
   rfl
abbrev At (b:yA->TS) (K:yA):TS:=b K
abbrev Sq (b:yA->TS) (K:yA) (D:Ends):Ends:={D with nx:=b K D}
abbrev Dz (Q:VK):Ends:={nx:=fun _ H'=>Q .bI H',rt:=Q}
def Ev (t:TE) (σ:St) (H:Hp) (v:V):Prop:=∀Q:VK,Q v H->t σ H Q
def Oh (t:TA) (σ:St) (H:Hp) (vs:List V):Prop:=∀R:List V->Hp->Prop,R vs H->t σ H R
def PB (t:TT) (σ:St) (H:Hp) (b:Bool):Prop:=∀R:Bool->Hp->Prop,R b H->t σ H R
def Ul (K:yA) (f:Str) (x:V) (H:Hp) (Q:VK):Prop:=∃a C dx fs v,x=.ref a/\H a=some (.ins C dx fs)/\PD K C/\fc K C f/\fs.lookup f=some v/\Q v H
section
variable {t u:TE} {ta:TA} {c:TT} {wi:TI} {a b:TS} {gt:TG} {D:Ends} {σ:St} {H:Hp} {v x y:V} {vs:List V} {g:Int->Int->V} {i j:Int} {r:R2} {Q:VK} {R:List V->Hp->Prop} {S:Bool->Hp->Prop} {k:Bool} {K:yA} {p:Addr} {xs:List V}
def Rk {n:Nat} (e:σ[n]?=some (some v)):Ev (aV n) σ H v:=fun _ q=>⟨v,e,q⟩
def Up:Ev (tC v) σ H v:=fun _ q=>q
def SD (a:Ev t σ H (.int i)) (b:Ev u σ H (.int j)):Ev (fu (wC g) t u) σ H (g i j):=fun _ q=>a _ (b _ ⟨_,_,rfl,rfl,q⟩)
def SA {C:Int->Int->Prop} (a:Ev t σ H (.int i)) (b:Ev u σ H (.int j)) (c:C i j):Ev (fu (rI C g) t u) σ H (g i j):=fun _ q=>a _ (b _ ⟨_,_,rfl,rfl,c,q⟩)
def Sy (a:Ev t σ H (.ref p)) (b:Ev u σ H (.int j)) (h:H p=some (.tup xs)) (e:Ds xs j=some v):Ev (fu (lU K) t u) σ H v:=fun _ q=>a _ (b _ ⟨_,_,_,_,rfl,rfl,dA.of h,e,q⟩)
def Rm:Oh dZ σ H []:=fun _ q=>q
def Pc (a:Ev t σ H v) (b:Oh ta σ H vs):Oh (bC t ta) σ H (v::vs):=fun _ q=>a _ (b _ q)
def Rn (a:Ev t σ H v):Ev (Mq t) σ H (.bl (decide (v=.bI))):=fun _ q=>a _ q
def Pb (a:Ev t σ H v):Ev (Mo t) σ H (.bl (!decide (v=.bI))):=fun _ q=>a _ q
def Rl (a:Ev t σ H (.bl k)):Ev (PF t) σ H (.bl (!k)):=fun _ q=>a _ ⟨_,rfl,q⟩
def SE (a:Ev t σ H x) (b:Ev u σ H y) (s:OC x y=true):Ev (fu S9 t u) σ H (.bl (decide (x=y))):=fun _ q=>a _ (b _ ⟨s,q⟩)
def Sx (a:Ev t σ H x) (b:Ev u σ H y) (s:OC x y=true):Ev (fu T8 t u) σ H (.bl (!decide (x=y))):=fun _ q=>a _ (b _ ⟨s,q⟩)
def Um (a:Ev t σ H (.bl k)):PB (nO t) σ H k:=fun _ q=>a _ ⟨_,rfl,q⟩
def Uq (a:Ev t σ H (.bl k)):PB (tB t) σ H k:=fun _ q=>a _ ⟨_,rfl,q⟩
def Uo (a:PB c σ H k):PB (Mp c) σ H (!k):=fun _ q=>a _ q
def R5 (e:Ev t σ H v) (q:gt v σ H D.nx):FO t gt D σ H:=e _ q
def R4 (e:Ev t σ H v) (q:D.rt v H):Qp t D σ H:=e _ q
def T4 {a b:yA->TS} (e:PB c σ H k) (q:if k=true then At a K D σ H else At b K D σ H):Oq c (a K) (b K) D σ H:=e _ q
def Tj {b:yA->TS} (q:a (Sq b K D) σ H):Qo a (b K) D σ H:=q
def Ts {n:Nat} {S:St->Hp->Prop} (q:S (σ.set n (some v)) H):bO n v σ H S:=q
def Tp {b:yA->TS} (q:b K D σ H):(Sq b K D).nx σ H:=q
def To (q:D.nx σ H):PH D σ H:=q
def RM (q:t σ H fun x H1=>gt x σ H1 D.nx):FO t gt D σ H:=q
def RI (q:t σ H D.rt):Qp t D σ H:=q
def Qd (q:t σ H fun _ H1=>D.nx σ H1):PJ t D σ H:=q
def Tr (q:c σ H fun z H1=>if z=true then a D σ H1 else b D σ H1):Oq c a b D σ H:=q
def Tt {a b:yA->TS} (q:c σ H fun z H1=>if z=true then At a K D σ H1 else At b K D σ H1):Oq c (a K) (b K) D σ H:=q
def R3 (e:PB c σ H k) (q:S k H):c σ H S:=e S q
def UL (q:t σ H fun x H'=>∃k,x=.bl k/\S k H'):nO t σ H S:=q
def UM (q:t σ H fun x H'=>∃k,x=.bl k/\S k H'):tB t σ H S:=q
def Tx (e:Ev t σ H v) (q:Q v H):t σ H Q:=e Q q
def w_arg (e:Oh ta σ H vs) (q:R vs H):ta σ H R:=e R q
def x_call {sp:Sp} {dv:List V} {E:XK} (q:ta σ H fun vs H1=>sp (vs++dv) H1 Q E):fX sp dv E ta σ H Q:=q
def Tu {q':List V->Hp->VK->Prop} (q:ta σ H fun vs H1=>q' vs H1 Q):JQ q' ta σ H Q:=q
def RH (q:ta σ H fun xs H1=>xs.length<=sizeLine/\∀p,H1 p=none->Q (.ref p) (upd H1 p (.tup xs))):DD ta σ H Q:=q
def RJ (q:ta σ H fun xs H1=>xs.length<=sizeLine/\∀p,H1 p=none->Q (.ref p) (upd H1 p (.lst xs))):FN ta σ H Q:=q
def Qe {fr:List (Option Nat)} (q:wi σ H fun J H1=>dz (fr.map fun o=>o.bind fun j=>(σ[j]?).join) gt c t Q J H1):nP fr wi gt c t σ H Q:=q
def T3 {R:It->Hp->Prop} (e:Ev t σ H (.ref p)) (q:(∃xs,aH K H p xs)/\R (LR K p) H):J7 K t σ H R:=e _ ⟨_,rfl,q⟩
def Tn {R:It->Hp->Prop} (q:ta σ H fun vs H1=>∃j:Int,vs=[.int j]/\-(2^62)<=j/\j<2^62/\R (N7 0 j.toNat) H1):Ny ta σ H R:=q
abbrev iJ (J:It):TI:=fun _ H R=>R J H
def Fr (g:TG) (b:TS) (D:Ends) (σ:St) (J:It) (H:Hp):Prop:=Qu (iJ J) g b D σ H
def RK {b:yA->TS} (q:wi σ H (Fr gt (At b K) D σ)):Qu wi gt (b K) D σ H:=q
def x_at {b:yA->TS} (q:b K D σ H):At b K D σ H:=q
def Tq {R:It->Hp->Prop} (q:t σ H fun x H1=>∃a,x=.ref a/\(∃xs,aH K H1 a xs)/\R (LR K a) H1):J7 K t σ H R:=q
def TM {R:It->Hp->Prop} (e:Oh ta σ H vs) (q:∃a xs,vs=[.ref a]/\aH K H a xs/\R (Rz K a) H):P2 K ta σ H R:=e _ q
def TH {R:It->Hp->Prop} (e:Oh ta σ H vs) (q:∃j:Int,vs=[.int j]/\-(2^62)<=j/\j<2^62/\R (N7 0 j.toNat) H):Ny ta σ H R:=e _ q
def Qh {sp:Sp} {dv:List V} {E:XK} (e:Oh ta σ H vs) (q:sp (vs++dv) H Q E):fX sp dv E ta σ H Q:=e _ q
def TN {q':List V->Hp->VK->Prop} (e:Oh ta σ H vs) (q:q' vs H Q):JQ q' ta σ H Q:=e _ q
def TF (e:Oh ta σ H vs) (q:vs.length<=sizeLine/\∀p,H p=none->Q (.ref p) (upd H p (.tup vs))):DD ta σ H Q:=e _ q
def TL (e:Oh ta σ H vs) (q:vs.length<=sizeLine/\∀p,H p=none->Q (.ref p) (upd H p (.lst vs))):FN ta σ H Q:=e _ q
def R6 {d:TT} (e:PB c σ H k) (q:if k=true then d σ H S else S false H):QA c d σ H S:=e _ q
def TZ {d:TT} (e:PB c σ H k) (q:if k=true then S true H else d σ H S):TX c d σ H S:=e _ q
def T5 (e:PB c σ H k) (q:if k=true then t σ H Q else u σ H Q):Uy c t u σ H Q:=e _ q
def RO {f:Str} (e:Ev t σ H x) (q:Ul K f x H Q):Ot K t f σ H Q:=e _ q
def TQ {T:String} {q':V->List V->Hp->VK->Prop} (e:Ev t σ H x) (q:S5 K T x H/\ta σ H fun xs H2=>q' x xs H2 Q):S8 K T q' t ta σ H Q:=e _ q
def RP (e:Ev t σ H (.bl k)) (q:if k=true then u σ H Q else Q (.bl false) H):Mr t u σ H Q:=e _ ⟨_,rfl,q⟩
def TJ (e:Ev t σ H (.bl k)) (q:if k=true then Q (.bl true) H else u σ H Q):RW t u σ H Q:=e _ ⟨_,rfl,q⟩
def TK (q:t σ H fun x H1=>u σ H1 fun y H2=>r x y H2 Q):fu r t u σ H Q:=q
def Qg (q:t σ H fun x H1=>ta σ H1 fun xs H2=>R (x::xs) H2):bC t ta σ H R:=q
def Tv (e:Ev t σ H x) (q:u σ H fun y H2=>r x y H2 Q):fu r t u σ H Q:=e _ q
def Qf (e:Ev t σ H v) (q:ta σ H fun xs H2=>R (v::xs) H2):bC t ta σ H R:=e _ q
def Tw (q:Q (g i j) H):wC g (.int i) (.int j) H Q:=⟨i,j,rfl,rfl,q⟩
def RN (h:H p=some (.tup xs)) (e:Ds xs j=some v) (q:Q v H):lU K (.ref p) (.int j) H Q:=⟨_,_,_,_,rfl,rfl,dA.of h,e,q⟩
end
def cT {g:TG} {tb:TS} {x:V} {σ:St} {H:Hp} {A C:St->Hp->Prop} {B:VK} (h:∀N:Ends,(∀σ H,A σ H->N.nx σ H)->(∀v H,B v H->N.rt v H)->(∀σ H,A σ H->N.ct σ H)->(∀σ H,C σ H->N.bk σ H)->g x σ H fun σ2 H2=>tb N σ2 H2):g x σ H fun σ2 H2=>tb {nx:=A,rt:=B,bk:=C,ct:=A} σ2 H2:=h _ (fun _ _ z=>z) (fun _ _ z=>z) (fun _ _ z=>z) fun _ _ z=>z
def TB {r:Sp} {vs:List V} {H:Hp} {Q:VK} {E:XK} (h:∀Q':VK,(∀v H',Q v H'->Q' v H')->r vs H Q' E):r vs H Q E:=h Q fun _ _ z=>z
def TC {r:R2} {x y:V} {H:Hp} {Q:VK} (h:∀Q':VK,(∀v H',Q v H'->Q' v H')->r x y H Q'):r x y H Q:=h Q fun _ _ z=>z
def Tz {r:V->Hp->VK->Prop} {x:V} {H:Hp} {Q:VK} (h:∀Q':VK,(∀v H',Q v H'->Q' v H')->r x H Q'):r x H Q:=h Q fun _ _ z=>z
abbrev cY (P:Program) (w:World) (base:Heap) (n:Nat) {K:yA} {mg:Str->Option Value} {x:Str} {st:Stmt} {a:Addr} {d:FuncData} {ps:List Str} (_:Df K mg x st a d ps) (sp:Sp):Prop:=dP P w K mg base HU n a d ps sp
theorem _root_.L2.N9.Ta {P:Program} {w:World} {K:yA} {mg:Str->Option Value} {base:Heap} {x qual:Str} {st:Stmt} {f:Addr} {fd:FuncData} {N ps:List Str} {k:Nat} {sp:Sp} (F:N9 K x qual st f fd) (S:aD N ps (ao st))
  (hbody:∀(cdv:Value) (A:Around) (outer:List Env) (s:Shared) (H:Hp) (vs:List V) (Q:VK) (E:XK),fV k (A.deeper (PyProof.Rows.envOfC qual (ao st) ↑s f cdv))->sp vs H Q E->
   ∃t,Dv (kG HU P w K mg base N qual (ao st) f cdv A outer s H E).IG (cz st) t/\t (Dz Q) (start N vs) H)
  (len:(∀vs H Q E,sp vs H Q E->vs.length=ps.length)<|>qk_):dP P w K mg base HU (k+1) f fd ps sp:=F.ok S len hbody
def Uz {P:Program} {w:World} {K:yA} {mg:Str->Option Value} {base:Heap} {x:Str} {st:Stmt} {f:Addr} {fd:FuncData} {N ps:List Str} {k:Nat} {sp:Sp} (D:Df K mg x st f fd ps) (S:aD N ps (ao st))
  (hbody:∀(cdv:Value) (A:Around) (outer:List Env) (s:Shared) (H:Hp) (vs:List V) (Q:VK) (E:XK),fV k (A.deeper (PyProof.Rows.envOfC x (ao st) ↑s f cdv))->sp vs H Q E->
   ∃t,Dv (kG HU P w K mg base N x (ao st) f cdv A outer s H E).IG (cz st) t/\t (Dz Q) (start N vs) H)
  (len:(∀vs H Q E,sp vs H Q E->vs.length=ps.length)<|>qk_):dP P w K mg base HU (k+1) f fd ps sp:=D.F.ok S len hbody
def dB {N P:List Str} {sc:Scope} (h1:sc.kind=.function<|>qe_) (h2:sc.isCoroutine=false<|>qe_) (h3:sc.isGenerator=false<|>qe_) (h4:N.Nodup<|>ql_) (h5:N.take P.length=P<|>qe_) (h6:(∀x∈P,sc.names.lookup x=some .local\/sc.names.lookup x=some .cell)<|>ql_) (h7:(∀y∈sc.names,y.2≠.free)<|>ql_):aD N P sc:=⟨h1,h2,h3,h4,h5,h6,h7⟩
def eK {X:Cx} {x:Str} {id:String} {r:List V->Hp->VK->Prop} {e:Expr} {es:List Expr} {t:TA} {p pos:Pos} (hc:fT X (.builtin id) r) (hm:X.mg x=none) (ha:PA X (e::es) t) (hg:Gl X x<|>qe_) (hv:bootBuiltins x=some (.builtin id)<|>ql_) (hn:x≠ "__name__"<|>qb_) (hdb:(x == ("__debug__": Str))=false<|>qb_)
  (he:starEach (e::es) X.env=(false,eval e X.env)::starEach es X.env<|>qe_) (hpl:(backTo pos (starEach es X.env)).any (·.1)=false<|>qe_):PE X (.Call (.Name x p) (e::es) [] pos) (JQ r t):=Gp hc hg hm hv ha hn hdb he hpl
def nJ {X:Cx} {x:Str} {id:String} {r:List V->Hp->VK->Prop} {e:Expr} {es:List Expr} {t:TA} {p pos:Pos} (hc:fT X (.type id) r) (hm:X.mg x=none) (ha:PA X (e::es) t) (hg:Gl X x<|>qe_) (hv:bootBuiltins x=some (.type id)<|>ql_) (hn:x≠ "__name__"<|>qb_) (hdb:(x == ("__debug__": Str))=false<|>qb_)
  (he:starEach (e::es) X.env=(false,eval e X.env)::starEach es X.env<|>qe_) (hpl:(backTo pos (starEach es X.env)).any (·.1)=false<|>qe_):PE X (.Call (.Name x p) (e::es) [] pos) (JQ r t):=K1 hc hg hm hv ha hn hdb he hpl
def bU {X:Cx} {x:Str} {e:Expr} {te:TE} {pos pos':Pos} (i:Nat) (hN:X.N.Nodup) (he:PE X e te) (hi:X.N[i]?=some x<|>qe_) (hx:Loc X.env.scope x<|>qi_) (hs:swapsWith e (some (.Name x pos')) pos.line X.env=pure false<|>qe_) (hf:X.fn x=true\/X.env.scope.names.lookup x=some .local<|>qa_) :
  PS X (.Assign [.Name x pos'] e pos) (FO te (bO i)):=MW hN hi hx he hs hf
def jP {X:Cx} {x:Str} {pos:Pos} (i:Nat) (hN:X.N.Nodup) (hi:X.N[i]?=some x<|>qe_) (hx:Loc X.env.scope x<|>qi_) (hf:X.fn x=true\/X.env.scope.names.lookup x=some .local<|>qa_):PG X (.Name x pos) (bO i):=J0 hN hi hx hf
def fU {X:Cx} {ts ys:List Str} {scope:Scope} {cl:List (Str×Addr)} {C:Addr} {s₀:Shared} {H₀:Hp} {ex:List Addr} {x:Str} {pos:Pos} (i:Nat) (hN:(ts++ys).Nodup<|>ql_) (hi:(ts++ys)[i]?=some x<|>qe_) (hx:Loc (cR X (ts++ys) scope cl C s₀ H₀ ex).env.scope x<|>qi_) (hf:(cR X (ts++ys) scope cl C s₀ H₀ ex).fn x=true\/(cR X (ts++ys) scope cl C s₀ H₀ ex).env.scope.names.lookup x=some .local<|>qa_):PG (cR X (ts++ys) scope cl C s₀ H₀ ex) (.Name x pos) (bO i):=J0 hN hi hx hf
section
variable {X:Cx} {pos:Pos} {elt target iter:Expr} {ifs:List Expr} {scope:Scope} {ts ys:List Str} {js:List Nat} {cl:List (Str×Addr)} {wi:TI} {g:TG} {tc:TT} {te:TE}
def nA (hi:PI X target iter wi) (hg:∀{C s₀ H₀ ex},PG (cR X (ts++ys) scope cl C s₀ H₀ ex) target g) (hif:∀{C s₀ H₀ ex},Pw (cR X (ts++ys) scope cl C s₀ H₀ ex) ifs tc) (he:∀{C s₀ H₀ ex},PE (cR X (ts++ys) scope cl C s₀ H₀ ex) elt te)
  (hclos:closureFor scope X.env=pure cl<|>qe_) (hc:X.calm=true<|>qe_) (hcl:Fn X.env.cells cl<|>qm_)
  (hLo:((relabel scope X.env).names.all fun p=>(p.2 != .cell&&p.2 != .free)||ys.contains p.1||scope.names.contains (p.1,.cell))=true<|>qe_) (hno:(∀p∈scope.names,p.2=.cell->p.1∉ys)<|>ql_)
  (hfr:LU X scope cl ys js<|>qm_)
  (hkind:scope.kind=.function<|>qe_) (hnames:(∀y∈scope.names,y.2=.local->scope.names.lookup y.1=some .local)<|>ql_) (hs:(∀x,foldedSetIterable iter X.env x=pure x)<|>qd_) :
  PE X (.ListComp elt [⟨target,iter,ifs,0⟩] scope pos) (nP (ts.map (fun _=>none)++js.map some) wi g tc te):=M9 hc hclos hcl hLo hno hfr hkind hnames hi (fun _ _ _ _=>hg) (fun _ _ _ _=>hif) (fun _ _ _ _=>he) hs
def LX {i:Nat} {x:Str} {ps pa:Pos} (hi:PI X target iter wi) (hg:∀{C s₀ H₀ ex},PG (cR X (ts++ys) scope cl C s₀ H₀ ex) target g) (hif:∀{C s₀ H₀ ex},Pw (cR X (ts++ys) scope cl C s₀ H₀ ex) ifs tc) (he:∀{C s₀ H₀ ex},PE (cR X (ts++ys) scope cl C s₀ H₀ ex) elt te) (hN:X.N.Nodup)
  (hclos:closureFor scope X.env=pure cl<|>qe_) (hc:X.calm=true<|>qe_) (hcl:Fn X.env.cells cl<|>qm_)
  (hLo:((relabel scope X.env).names.all fun p=>(p.2 != .cell&&p.2 != .free)||ys.contains p.1||scope.names.contains (p.1,.cell))=true<|>qe_) (hno:(∀p∈scope.names,p.2=.cell->p.1∉ys)<|>ql_)
  (hfr:LU X scope cl ys js<|>qm_)
  (hkind:scope.kind=.function<|>qe_) (hnames:(∀y∈scope.names,y.2=.local->scope.names.lookup y.1=some .local)<|>ql_) (hx1:X.N[i]?=some x<|>qe_) (hx2:Loc X.env.scope x<|>qi_) (hs:(∀x,foldedSetIterable iter X.env x=pure x)<|>qd_) (hsw:swapsWith (.ListComp elt [⟨target,iter,ifs,0⟩] scope pos) (some (.Name x ps)) pa.line X.env=pure true<|>qe_)
  (hf:X.fn x=true\/X.env.scope.names.lookup x=some .local<|>qa_) :
  PS X (.Assign [.Name x ps] (.ListComp elt [⟨target,iter,ifs,0⟩] scope pos) pa) (FO (nP (ts.map (fun _=>none)++js.map some) wi g tc te) (bO i)):=MY hc hclos hcl hLo hno hfr hkind hnames hi (fun _ _ _ _=>hg) (fun _ _ _ _=>hif) (fun _ _ _ _=>he) hN hx1 hx2 hs hsw hf
end
section
variable {P:Program} {w:World} {K:yA} {mg:Str->Option Value} {base:Heap} (T:Txt K mg)
local macro_rules | `(tactic|right) => `(tactic| (intro pp hn; generalize hG : upd _ pp _ = HH; have sm := au.kC hG hn; have hh := kJ hG; clear hG hn))
local macro_rules|`(tactic|ac_rfl)=>`(tactic|try dsimp only[kG,Cx.IG])
local macro_rules|`(tactic|intros $p:ident $H:ident $s:ident $h:ident)=>`(tactic|(intro $p hn;generalize hG:upd _ $p _=$H;have $s:ident:=au.kC hG hn;have $h:ident:=kJ hG;clear hG hn))
local macro_rules|`(tactic|change $e:term)=>`(tactic|(left ;exact $e))
set_option hygiene false
local macro_rules|`(tactic|fail "h")=>`(tactic|(refine au.on (by assumption) ?_; fail "h"))
local macro_rules|`(tactic|fail "h")=>`(tactic|assumption)
local macro_rules|`(tactic|fail "e")=>`(tactic|((with_reducible apply SA); fail "e"; fail "e"; (first | (show (0 : Int) < _; decide) | exact And.intro ∅ ∅ | exact Or.inl ⟨∅, by decide⟩ | exact Or.inr ⟨∅, by decide⟩)))
local macro_rules|`(tactic|fail "e")=>`(tactic|((with_reducible (first | apply SE | apply Sx)); fail "e"; fail "e"; exact rfl))
local macro_rules|`(tactic|fail "e")=>`(tactic|((with_reducible (first | apply Um | apply Uq | apply Uo | apply Rn | apply Pb | apply Rl)); fail "e"))
local macro_rules|`(tactic|fail "e")=>`(tactic|((with_reducible apply Sy); fail "e"; fail "e"; fail "h"; exact rfl))
local macro_rules|`(tactic|fail "e")=>`(tactic|((with_reducible (first | apply SD | apply Pc)); fail "e"; fail "e"))
local macro_rules|`(tactic|fail "e")=>`(tactic|with_reducible (first | exact Up | exact Rm))
local macro_rules|`(tactic|fail "e")=>`(tactic|((with_reducible apply Rk); exact rfl))
local macro_rules | `(tactic| exists $es,*) => `(tactic| (left; first | ((with_reducible (first | refine TB fun _ kq => ?_ | refine TC fun _ kq => ?_ | refine Tz fun _ kq => ?_)); refine ⟨$es,*⟩; refine kq _ _ ?_) | refine ⟨$es,*⟩))
local macro_rules|`(tactic|fail "s")=>`(tactic|refine Or.inr ⟨_, rfl, ?_⟩)
local macro_rules|`(tactic|fail "s")=>`(tactic|refine ⟨Or.inr ⟨∅, by decide⟩, ?_⟩)
local macro_rules|`(tactic|fail "s")=>`(tactic|refine ⟨Or.inl ⟨∅, by decide⟩, ?_⟩)
local macro_rules|`(tactic|fail "s")=>`(tactic|refine ⟨(And.intro ∅ ∅), ?_⟩)
local macro_rules|`(tactic|fail "s")=>`(tactic|refine ⟨(by show (0 : Int) < _; decide), ?_⟩)
local macro_rules|`(tactic|fail "s")=>`(tactic|refine ⟨_, Om (by fail "h"), ?_⟩)
local macro_rules|`(tactic|fail "s")=>`(tactic|refine ⟨_, _, _, _, rfl, rfl, dA.of (by fail "h"), rfl, ?_⟩)
local macro_rules|`(tactic|fail "s")=>`(tactic|refine Ug ?_)
local macro_rules|`(tactic|fail "s")=>`(tactic|refine Sn ?_)
local macro_rules|`(tactic|fail "s")=>`(tactic|refine ⟨rfl, ?_⟩)
local macro_rules|`(tactic|fail "s")=>`(tactic|refine ⟨_, _, rfl, rfl, ?_⟩)
local macro_rules|`(tactic|fail "s")=>`(tactic|refine ⟨_, rfl, ?_⟩)
local macro_rules|`(tactic|fail "s")=>`(tactic|with_reducible (first | apply Tw | apply UL | apply UM | apply x_call | apply Tu | apply RH | apply RJ | apply Qe | apply Tn | apply Tq | apply TK | apply Qg))
local macro_rules|`(tactic|fail "s")=>`(tactic|((with_reducible apply RN); fail "h"; exact rfl))
local macro_rules|`(tactic|fail "s")=>`(tactic|((with_reducible (first | apply Qh | apply TN | apply T3 | apply RO | apply TQ | apply RP | apply TJ | apply Tv | apply Qf | apply TF | apply TL | apply TM | apply TH | apply R6 | apply TZ | apply T5)); fail "e"))
local macro_rules|`(tactic|fail "s")=>`(tactic|((with_reducible apply R3); fail "e"))
local macro_rules|`(tactic|fail "s")=>`(tactic|((with_reducible apply w_arg); fail "e"))
local macro_rules|`(tactic|fail "s")=>`(tactic|((with_reducible apply Tx); fail "e"))
local macro_rules|`(tactic|fail "s")=>`(tactic|with_reducible (first | apply Tj (K := K) | apply Ts | apply Tp | apply To | apply x_at | apply RM | apply RI | apply Qd | apply Tt (K := K) | apply Tr | apply RK (K := K)))
local macro_rules|`(tactic|fail "s")=>`(tactic|((with_reducible (first | apply R5 | apply R4 | apply T4 (K := K))); fail "e"))
local macro_rules | `(tactic|left) => `(tactic| ((repeat fail "s"); (first | (first | apply kN4 | apply kN3 | apply kN2 | apply kN1 | apply kN0 | apply kR4 | apply kR3 | apply kR2 | apply kR1 | apply kR0); left | skip)))
local macro_rules | `(tactic| nomatch $a:term, $b:term) => `(tactic| refine Uz $a $b fun _ _ _ _ H vs Q E hr h => ?_)
set_option hygiene true
def eN:aD ["one","other","rest"] ["one","other"] (ao kU):=dB
def sY:cY P w base 1 T.gk jR:=by
 nomatch T.gk,eN
 obtain⟨a,b,rfl,h1,h2,kk⟩:=h;refine⟨_,(ag (sQ PassesOwn.never (ptr lg (pv 1) ae)
  (ag (bU 2 eN.nd (ar aP (pv 0) (pv 1)))
   (ag (bU 0 eN.nd (pv 1))
   (aj (bU 1 eN.nd (pv 2))))))
  (aj (aq (pv 0)))),?_⟩
 refine⟨fun m σ H'=>H'=H/\∃(x y:Int) (r:Option V),σ=[some (.int x),some (.int y),r]/\0<=x/\0<=y/\Int.gcd x y=Int.gcd a b/\m=y.toNat,⟨_,rfl,a,b,none,rfl,h1,h2,rfl,rfl⟩,?_⟩;rintro m σ H' ⟨rfl,x,y,r,rfl,hx,hy,hg,rfl⟩;left
 by_cases e:y=0
 ·subst e
  refine P1 rfl ?_;refine⟨_,rfl,?_⟩;have e2:Int.gcd a b=x.natAbs:=by rw[<-hg];simp
  have e3:((Int.gcd a b:Nat):Int)=x:=by rw[e2];omega
  rw[e3] at kk;exact kk
 ·refine b9 (by simp[e]) ?_
  refine⟨fun σ' H''=>∃m',m'<y.toNat/\H''=H'/\∃(x y:Int) (r:Option V),σ'=[some (.int x),some (.int y),r]/\0<=x/\0<=y/\Int.gcd x y=Int.gcd a b/\m'=y.toNat,fun _ _ h=>h,?_⟩;exists(by show(0:Int)<y;omega),?_;left;have hp:(0:Int)<y:=nofun
  have l1:=zv x (by omega:y≠0);have l2:=zr x hp;exact⟨(x%y).toNat,nofun,rfl,y,x%y,_,rfl,hy,l1,(GQ hx hp).trans hg,rfl⟩
def og:aD ["top","bottom","divisor"] ["top","bottom"] (ao qp):=dB
def jC:cY P w base 2 T.eZ fZ:=by
 have G_common_divisor:cY P w base 1 T.gk jR:=sY T
 nomatch T.eZ,og
 obtain⟨t,b,rfl,h1,h2,h3,kk⟩:=h;refine⟨_,(ag (bU 2 og.nd (bM G_common_divisor hr T.gk (ah (pv 0) (ah (pv 1) af))))
  (aj (aq (bj (ah (ar sW (pv 0) (pv 2)) (ah (ar sW (pv 1) (pv 2)) af)))))),?_⟩
 exists t,b,rfl,h1,Int.le_of_lt h2,?_;have g0:=xC (t:=t) h2;have g1:Sz 8999 ((Int.gcd t b:Nat):Int):=h3.le (Int.le_of_lt g0) (ND h2);exists⟨g0,g1⟩,?_;exists⟨g0,g1⟩,?_;refine⟨bZ,laid fun p H' sm hp=>kk p H' sm ?_⟩;exact hp
def ME:aD ["one","other"] ["one","other"] (ao JW):=dB
def Nc:cY P w base 3 T.added MB:=by
 have G_made_length:cY P w base 2 T.eZ fZ:=jC T
 nomatch T.added,ME
 obtain⟨x,y,p,q,n,m,rfl,hp,hq,rx,ry,sx,sy,hnm,kk⟩:=h;obtain⟨x1,x2,_⟩:=rx.pos;obtain⟨y1,y2,_⟩:=ry.pos;have bx1:Sz 20000 x.1:=sx.1.mono nofun;have bx2:Sz 20000 x.2:=sx.2.mono nofun;have by1:Sz 20000 y.1:=sy.1.mono nofun;have by2:Sz 20000 y.2:=sy.2.mono nofun;refine⟨_,(aj (aq (bM G_made_length hr T.eZ (ah (ar aY (ar sV (bV (pv 0) ae) (bV (pv 1) ae)) (ar sV (bV (pv 1) ae) (bV (pv 0) ae))) (ah (ar sV (bV (pv 0) ae) (bV (pv 1) ae)) af))))),?_⟩;exists⟨bx1,by2⟩,?_;exists⟨by1,bx2⟩,?_;exists⟨bx2,by2⟩,?_;refine⟨_,_,rfl,Int.add_nonneg (Int.mul_nonneg x1 (Int.le_of_lt y2)) (Int.mul_nonneg y1 (Int.le_of_lt x2)),Int.mul_pos x2 y2,(sx.2.mul sy.2).mono hnm,fun r H' sm hr'=>kk r H' sm hr'⟩
def Iu:aD ["one","other"] ["one","other"] (ao CJ):=dB
def ID:cY P w base 1 T.DT Ij:=by
 nomatch T.DT,Iu
 obtain⟨x,y,p,q,rfl,hp,hq,sx,sy,kk⟩:=h;have bx1:Sz 20000 x.1:=sx.1.mono nofun;have bx2:Sz 20000 x.2:=sx.2.mono nofun;have by1:Sz 20000 y.1:=sy.1.mono nofun;have by2:Sz 20000 y.2:=sy.2.mono nofun;refine⟨_,(aj (aq (dS fo (ar sV (bV (pv 0) ae) (bV (pv 1) ae)) (ar sV (bV (pv 1) ae) (bV (pv 0) ae)) (iw _)))),?_⟩;exists⟨bx1,by2⟩,?_;exists⟨by1,bx2⟩,?_;change kk
def BM:aD ["_law_cell","_law_k"] ["_law_cell","_law_k"] (ao sF):=dB
def bR:cY P w base 1 T.cB BE:=by
 nomatch T.cB,BM
 obtain⟨c,k,rfl,h1,h2,kk⟩:=h;refine⟨_,(aj (aq (ar aP (ar d6 (ar d6 (ar aY (ar aP (pv 0) ae) ae) (ar aY (ar d6 (pv 1) (pv 1)) ae)) ae) ae))),?_⟩;exists Or.inl ⟨nofun,nofun⟩,?_;left;have e1:0<=c%2305843009213693951:=zv _ ∅;have e2:c%2305843009213693951<2305843009213693951:=zr _ ∅;refine⟨Or.inl ⟨nofun,nofun⟩,?_⟩;change kk
def jr:aD ["_law_top","_law_bottom","_law_one","_law_other"] ["_law_top","_law_bottom"] (ao qt):=dB
def gg:cY P w base 1 T.fR xZ:=by
 nomatch T.fR,jr
 obtain⟨t,b,rfl,h1,h2,h3,kk⟩:=h;have g0:=xC (t:=t) h2;have g1:Sz 8999 ((Int.gcd t b:Nat):Int):=h3.le (Int.le_of_lt g0) (ND h2);refine⟨_,(ag (MX (i:=2) (j:=3) rfl jr.nd rfl rfl ∅ rfl rfl (ah (pv 0) (ah (pv 1) af)) rfl)
  (ag (sQ PassesOwn.never (ptr fq (pv 3) ae)
  (aj (MX (i:=2) (j:=3) rfl jr.nd rfl rfl ∅ rfl rfl (ah (pv 3) (ah (ar aP (pv 2) (pv 3)) af)) rfl)))
  (aj (aq (bj (ah (ar sW (pv 0) (pv 2)) (ah (ar sW (pv 1) (pv 2)) af))))))),?_⟩
 exists _,_,rfl,?_;refine⟨fun m σ H'=>H'=H/\∃(x y:Int),σ=[some (.int t),some (.int b),some (.int x),some (.int y)]/\0<=x/\0<=y/\Int.gcd x y=Int.gcd t b/\m=y.toNat,⟨_,rfl,t,b,rfl,h1,Int.le_of_lt h2,rfl,rfl⟩,?_⟩;rintro m σ H' ⟨rfl,x,y,rfl,hx,hy,hg,rfl⟩;left
 by_cases e:y=0
 ·subst e
  refine cq (by simp) ?_;have e2:Int.gcd t b=x.natAbs:=by rw[<-hg];simp
  have e3:x=((Int.gcd t b:Nat):Int):=by rw[e2];omega
  subst e3;exists⟨g0,g1⟩,?_;exists⟨g0,g1⟩,?_;refine⟨bZ,laid fun p H' sm hp=>kk p H' sm ?_⟩;exact hp
 ·have hp:(0:Int)<y:=nofun
  refine b9 (ze hp) ?_;refine⟨fun σ' H''=>∃m',m'<y.toNat/\H''=H'/\∃(x y:Int),σ'=[some (.int t),some (.int b),some (.int x),some (.int y)]/\0<=x/\0<=y/\Int.gcd x y=Int.gcd t b/\m'=y.toNat,fun _ _ h=>h,?_⟩;exists(by show(0:Int)<y;omega),?_;refine⟨_,_,rfl,?_⟩;have l1:=zv x (by omega:y≠0);have l2:=zr x hp;exact⟨(x%y).toNat,nofun,rfl,y,x%y,rfl,hy,l1,(GQ hx hp).trans hg,rfl⟩
def yO:aD ["text","most"] ["text","most"] (ao qi):=dB
def oa:aD ["text","most","number"] ["text","most"] (ao qd):=dB
def ky:aD ["fifths_text","steps_text","fifths","steps"] ["fifths_text","steps_text"] (ao so):=dB
def eX:aD ["text","parts","top","bottom"] ["text"] (ao qk):=dB
def iH:aD ["text","length"] ["text"] (ao jt):=dB
def iO:aD ["text","parts","length","pitch"] ["text"] (ao vC):=dB
def ik:cY P w base 1 T.dI ia:=by
 nomatch T.dI,yO
 obtain⟨t,most,rfl,hl,kk⟩:=h;have sl:=yB;have hz:t.length<=sizeLine:=nofun
 have el:t.cps.toList.length=t.length:=Array.length_toList;unfold rn at kk;rw[el] at kk;refine⟨_,(ag (aI (PW.pt (eO (ptr fo (eK gm T.bA (ah (pv 0) af)) ae) (dC (ptr fq (eK gm T.bA (ah (pv 0) af)) (pv 1)))))
  (aj (aq aQ))
  ax)
  (ag (aI (eJ (cD (eK (jg rfl) T.CV (ah (nA (ts:=["sign"]) (ys:=[]) (js:=[]) (te:=(fu (fun x y H Q=>∃i j,x=.str i/\y=.str j/\Q (.bl (!(Builtin.Str.occurrences j i 0 j.length 1).isEmpty)) H) (aV 0) (tC (.str "0123456789")))) (M3 (pv 0)) (fU 0) bg (dS CT (pv 0) (bY (v:=.str "0123456789") (by rfl) T.LB ⟨_,rfl⟩) (by with_unfolding_all rfl))) af))))
  (aj (aq aQ))
  ax)
  (ag (aI (PW.pt (cZ (ptr dj (Ae Ex (pv 0) ae (fun _ _=>rfl)) aK) (cO (ptr fq (eK gm T.bA (ah (pv 0) af)) ae))))
  (aj (aq aQ))
  ax)
  (aj (aq (nJ EZ T.PY (ah (pv 0) af))))))),?_⟩
 exists hz,?_;left;refine wO (fun c1=>?_) (fun c1=>?_)
 ·left
  have z:=kk H (au.refl H);rw[if_pos (yd c1)] at z;exact z
 have c1':¬(t.length:Int)<1:=fun z=>c1 (ze z);rw[if_neg c1'] at kk;exists hz,?_;left;refine wO (fun c2=>?_) (fun c2=>?_)
 ·left
  have z:=kk H (au.refl H);rw[if_pos (yd c2)] at z;exact z
 have c2':¬most<(t.length:Int):=fun z=>c2 (ze z);rw[if_neg c2'] at kk;left;refine oR t.length (fun i=>(t.cps.toList.take i).map fun c=>V.bl (decide (c∈wR))) (fun i σ H'=>H'=H/\∃v,σ=[v]) (fun i hi=>by rw[za,zP];omega) nofun rfl ⟨rfl,none,rfl⟩ (fun i σ H' hi _=>hi) (fun σ H' _=>zk _) ?_ ?_
 ·rintro i x σ H1 H2 hi ⟨rfl,v,rfl⟩ ⟨rfl,c,hc,rfl⟩
  left;refine HV.push hi ?_ ⟨rfl,_,rfl⟩;rw[PySem.StrLaws.found_one];rw[<-Array.getElem?_toList] at hc;show List.map _ (List.take (i+1) t.cps.toList)=_;rw[List.take_add_one,hc,zj];rfl
 ·rintro σ H1 ⟨rfl,_⟩
  rw[<-el,zM];intros D H2 sm h2;refine⟨D,t.cps.toList.map (fun c=>decide (c∈wR)),rfl,aH.of (by rw[h2,zA];rfl),?_⟩;have ea:(t.cps.toList.map (fun c=>decide (c∈wR))).all id=t.cps.toList.all (fun c=>decide (c∈wR)):=by rw[List.all_map];rfl
  rw[ea]
  by_cases ha:t.cps.toList.all (fun c=>decide (c∈wR))=true
  ·rw[ha]
   rw[if_pos ha] at kk;left;have h1:0<t.cps.size:=by show 0<t.length;omega
   obtain⟨c,hc⟩:∃c,t.cps[0]?=some c:=⟨t.cps[0]'h1,Array.getElem?_eq_getElem h1⟩
   have hc':t.cps.toList[0]?=some c:=by rw[Array.getElem?_toList];exact hc
   rw[hc'] at kk;refine⟨_,0,c,rfl,rfl,hz,bx (j:=0) hc',?_⟩;left;have rd:PySem.intText? t=some ((NumText.digitsVal t.cps.toList:Nat):Int):=PySem.intText_digits (Jr ha) (fun z=>by rw[z] at el;simp at el;omega) nofun
   by_cases e0:c=48
   ·subst e0
    refine b9 ∅ ?_;exists hz,?_;left;refine wO (fun c3=>?_) (fun c3=>?_)
    ·left
     have c3':1<t.length:=by have:=yd c3;omega
     have z:=kk H2 sm;rw[if_pos ⟨rfl,c3'⟩] at z;exact z
    ·have c3':¬1<t.length:=fun z=>c3 (ze nofun)
     have z:=kk H2 sm;rw[if_neg (fun q=>c3' q.2)] at z;change⟨_,_,rfl,rd,nofun,z⟩
   ·refine cq (zd fun z=>e0 ?_) ?_
    ·have z':=V.str.inj z
     exact(List.cons.inj (show [c]=[48] from congrArg (fun y:Str=>y.cps.toList) z')).1
    have z:=kk H2 sm;rw[if_neg (fun q=>e0 (yj q.1))] at z;change⟨_,_,rfl,rd,nofun,z⟩
  ·rw[if_neg ha] at kk
   rw[Bool.eq_false_iff.mpr ha];change kk H2 sm
def mY:cY P w base 2 T.fN mG:=by
 have G_read_number:cY P w base 1 T.dI ia:=ik T
 nomatch T.fN,oa
 obtain⟨t,most,rfl,hl,kk⟩:=h;have sl:=yB;unfold rs at kk;refine⟨_,(ag (aI (eJ (cD (b7 yF PySem.F.slot_str_startswith PySem.F.type_str_startswith B1 (pv 0) (ah aK af))))
  (aj (aq (bM G_read_number hr T.dI (ah (pv 0) (ah (pv 1) af)))))
  ax)
  (ag (bU 2 oa.nd (bM G_read_number hr T.dI (ah (dJ Ip (pv 0) (eP ae) eQ) (ah (pv 1) af))))
  (ag (aI (PW.pt (eO (bB (cI (pv 2))) (dC (ptr dj (pv 2) ae))))
  (aj (aq aQ))
  ax)
  (aj (aq (sT lH (pv 2))))))),?_⟩
 left
 by_cases hn:t.cps.toList[0]?=some 45
 ·rw[if_pos hn] at kk
  have q:=(PySem.StrLaws.subAt_one t 45 0).mpr hn;have es:(decide (0+("-": Str).length<=t.length)&&Builtin.Str.subAt t "-" 0)=true:=by
   rw[zN];exact⟨ze q.1,q.2⟩
  rw[es];exists by omega,?_
  have h1:1<=t.length:=by have:=q.1;have e:(⟨#[45]⟩:Str).length=1:=rfl;omega
  have e1:(PySem.Txt.slice t (some 1) none).cps.toList=t.cps.toList.drop 1:=qG t h1;exists _,most,rfl,zL (PySem.Txt.slice_le t _ _) hl,fun H1 s1=>?_;rw[e1];have z:=kk H1 s1;cases hr':rn most (t.cps.toList.drop 1) with
  | none=>
   rw[hr'] at z;change z
  | some n=>
   rw[hr'] at z;left
   by_cases e0:n=0
   ·subst e0
    refine b9 ∅ ?_;change z
   ·refine cq (zd fun y=>e0 (V.int.inj y)) ?_
    left;have z':Q (ov (if n=0 then none else some (-n))) H1:=z;rw[if_neg e0] at z';exact z'
 ·rw[if_neg hn] at kk
  have es:(decide (0+("-": Str).length<=t.length)&&Builtin.Str.subAt t "-" 0)=false:=by
   rw[Bool.eq_false_iff];intro z;rw[zN] at z;exact hn ((PySem.StrLaws.subAt_one t 45 0).mp ⟨yd z.1,z.2⟩)
  rw[es];change⟨t,most,rfl,hl,fun H1 s1=>kk H1 s1⟩
def oI:cY P w base 3 T.jA nU:=by
 have G_read_signed:cY P w base 2 T.fN mG:=mY T
 nomatch T.jA,ky
 obtain⟨a,b,rfl,la,lb,kk⟩:=h;unfold rp at kk;refine⟨_,(ag (bU 2 ky.nd (bM G_read_signed hr T.fN (ah (pv 0) (ah (bY (v:=.int 2) (by rfl) T.nr ⟨_,rfl⟩) af))))
  (ag (bU 3 ky.nd (bM G_read_signed hr T.fN (ah (pv 1) (ah (bY (v:=.int 2) (by rfl) T.nr ⟨_,rfl⟩) af))))
  (ag (aI (PW.pt (eO (bB (cI (pv 2))) (dC (bB (cI (pv 3))))))
  (aj (aq aQ))
  ax)
  (ag (aI (ptr lg (ar aP (ar gA (pv 3) (ar d6 (bY (v:=.int 7) (by rfl) T.Cm ⟨_,rfl⟩) (pv 2))) (bY (v:=.int 12) (by rfl) T.A5 ⟨_,rfl⟩)) ae)
  (aj (aq aQ))
  ax)
  (aj (aq (bj (ah (pv 2) (ah (pv 3) af))))))))),?_⟩
 exists a,2,rfl,la,fun H1 s1=>?_;exists b,2,rfl,lb,fun H2 s2=>?_;have S2:=s1.trans s2;cases ea:rs 2 a with
 | none=>
  rw[ea] at kk;change kk .bI H2 S2 .bI
 | some f=>
  cases eb:rs 2 b with
  | none=>
   rw[ea,eb] at kk;change kk .bI H2 S2 .bI
  | some g=>
   rw[ea,eb] at kk;left
   by_cases hm:(g-7*f)%12=0
   ·refine P1 (congrArg V.int hm) ?_
    left;refine⟨bZ,laid fun p H3 s3 hp=>kk (.ref p) H3 (S2.trans s3) ?_⟩;show JE H3 (.ref p) (if(g-7*f)%12=0 then some (f,g) else none);rw[if_pos hm];exact .ref hp
   ·refine b9 (by simp[hm]) ?_
    left;refine kk .bI H2 S2 ?_;show JE H2 .bI (if(g-7*f)%12=0 then some (f,g) else none);rw[if_neg hm];exact .bI
def mX:dP P w K mg base (HS P w) 3 T.kK T.kF ["text"] (mF T.jJ):=by
 have G_read_number:cY P w base 1 T.dI ia:=ik T;have G_made_length:cY P w base 2 T.eZ fZ:=jC T;refine T.eY.F.UP eX (fun vs H Q E h=>?_) (fun cdv A' outer s H vs Q E hr h=>?_)
 ·obtain⟨_,rfl,_⟩:=h;rfl
 ·obtain⟨t,rfl,lt,k1,k2⟩:=h
  have sl:=yB;have pl:=PyProof.Rows.split_pos t "/";have sh:∀z∈Txt.split t "/",z.length<=600:=fun z hz=>zL (PyProof.Rows.part_short hz) lt;unfold Oc at k1 k2;refine⟨_,(ag (bU 1 eX.nd (b7 yF yJ yI jD (pv 0) (ah aK af)))
   (ag (aI (ptr fq (eK aC T.bA (ah (pv 1) af)) ae)
   (aj (Gf T.mh T.lW PySem.F.excBase_ValueError rfl (ah aK af)))
   ax)
   (ag (bU 2 eX.nd (bM G_read_number hr T.dI (ah (fO (pv 1) ae) (ah (bY (v:=.int 4) (by rfl) T.lF ⟨_,rfl⟩) af))))
   (ag (bU 3 eX.nd ae)
   (ag (aI (ptr dj (eK aC T.bA (ah (pv 1) af)) ae)
   (aj (bU 3 eX.nd (bM G_read_number hr T.dI (ah (fO (pv 1) ae) (ah (bY (v:=.int 4) (by rfl) T.lF ⟨_,rfl⟩) af)))))
   ax)
   (ag (aI (PW.pt (eO (bB (cI (pv 2))) (eO (bB (cI (pv 3))) (dC (ptr dj (pv 3) ae)))))
   (aj (Gf T.mh T.lW PySem.F.excBase_ValueError rfl (ah aK af)))
   ax)
   (aj (aq (bM G_made_length hr T.eZ (ah (pv 2) (ah (pv 3) af))))))))))),?_⟩
  exists by omega,?_
  generalize Txt.split t "/"= ws at k1 k2 pl sh;intros p1 H1 s1 h1;exists p1,_,rfl,.inl (aH.of h1),?_
  match ws,pl,sh,k1,k2,h1 with
  | [a],_,sh,k1,k2,h1=>
   exists p1,_,0,_,rfl,rfl,aH.of h1,rfl,?_;exists a,4,rfl,sh a (by simp),fun H2 s2=>?_;replace h1:=s2 _ _ h1;exists p1,_,rfl,.inl (aH.of h1),?_;cases ea:rn 4 a.cps.toList with
   | none=>
    simp only[ea] at k1 k2;left;refine⟨by show 1<=sizeLine;decide,k2 trivial H2 (s1.trans s2)⟩
   | some n=>
    simp only[ea] at k1 k2;obtain⟨n0,n1,_⟩:=MK ea ∅;change⟨_,_,rfl,n0,∅,(du (n:=1) ∅ ∅).mono ∅,fun p3 H3 s3 h3=>k1 _ rfl p3 H3 ((s1.trans s2).trans s3) h3⟩
  | [a,b],_,sh,k1,k2,h1=>
   exists p1,_,0,_,rfl,rfl,aH.of h1,rfl,?_;exists a,4,rfl,sh a (by simp),fun H2 s2=>?_;replace h1:=s2 _ _ h1;exists p1,_,rfl,.inl (aH.of h1),?_;exists p1,_,1,_,rfl,rfl,aH.of h1,rfl,?_;exists b,4,rfl,sh b (by simp),fun H3 s3=>?_;have S3:=(s1.trans s2).trans s3;cases ea:rn 4 a.cps.toList with
   | none=>
    simp only[ea] at k1 k2;change⟨by show 1<=sizeLine;decide,k2 trivial H3 S3⟩
   | some n=>
    cases eb:rn 4 b.cps.toList with
    | none=>
     simp only[ea,eb] at k1 k2;change⟨by show 1<=sizeLine;decide,k2 trivial H3 S3⟩
    | some m=>
     simp only[ea,eb] at k1 k2;obtain⟨n0,n1,_⟩:=MK ea ∅;obtain⟨m0,m1,_⟩:=MK eb ∅;left
     by_cases e0:m=0
     ·subst e0
      refine b9 ∅ ?_;change⟨by show 1<=sizeLine;decide,k2 rfl H3 S3⟩
     ·rw[if_neg e0] at k1
      refine cq (zd fun y=>e0 (V.int.inj y)) ?_;change⟨_,_,rfl,n0,nofun,(du (n:=14) nofun nofun).mono ∅,fun p4 H4 s4 h4=>k1 _ rfl p4 H4 (S3.trans s4) h4⟩
  | a::b::c::r,_,sh,k1,k2,h1=>
   left;refine b9 (ze (show(2:Int)<(((a::b::c::r).map V.str).length:Int) by rw[za];simp only[zt];omega)) ?_;change⟨by show 1<=sizeLine;decide,k2 rfl H1 s1⟩
def g9:cY P w base 4 T.dX gZ:=by
 have G_read_length:dP P w K mg base (HS P w) 3 T.kK T.kF ["text"] (mF T.jJ):=mX T
 nomatch T.dX,iH
 obtain⟨t,rfl,lt,kk⟩:=h;unfold lr at kk;refine⟨_,(ag (ON G_read_length (hr.mono ∅) rfl T.eY.g T.eY.F.kp T.eY.b (ah (pv 0) af) rfl iH.nd (i:=1) rfl (Or.inl rfl) rfl T.mh T.lW rfl rfl rfl (fun e=>(aj (aq aQ))))
  (ag (aI (ptr dj (bV (pv 1) ae) ae)
  (aj (aq aQ))
  ax)
  (aj (aq (pv 1))))),?_⟩
 left;refine⟨lt,fun x ex p1 H1 s1 h1=>?_,fun en H1 s1=>⟨rfl,?_⟩⟩
 ·simp only[ex] at kk
  left
  by_cases e0:x.1=0
  ·refine b9 (by rw[e0];rfl) ?_
   left;rw[if_pos e0] at kk;exact kk .bI H1 s1 .bI
  ·refine cq (zd fun y=>e0 (V.int.inj y)) ?_
   left;rw[if_neg e0] at kk;exact kk (.ref p1) H1 s1 (.ref h1)
 ·simp only[en] at kk
  change kk .bI H1 s1 .bI
def O4 {ws:List Str} (h:1<=ws.length):Ds (ws.map V.str) (-1)=some (.str (ws.getLast?.getD "")):=by
 have ne:ws≠[]:=fun z=>by rw[z] at h;simp at h
 have e:=List.dropLast_concat_getLast ne;have e2:ws.getLast?.getD ""= ws.getLast ne:=by rw[List.getLast?_eq_some_getLast ne];rfl
 rw[e2];have e3:ws.map V.str=ws.dropLast.map V.str++[V.str (ws.getLast ne)]:=by rw[<-List.map_singleton (f:=V.str),<-zj,e]
 rw[e3];exact Bb _ _
def Nv {ws:List Str} (h:1<=ws.length):ws.getLast?.getD "" ∈ws:=by
 have ne:ws≠[]:=fun z=>by rw[z] at h;simp at h
 rw[List.getLast?_eq_some_getLast ne];exact List.getLast_mem ne
def BQ:cY P w base 5 T.uC pP:=by
 have G_read_item_length:cY P w base 4 T.dX gZ:=g9 T;have G_read_pitch:cY P w base 3 T.jA nU:=oI T
 nomatch T.uC,iO
 obtain⟨t,rfl,lt,kk⟩:=h;have sl:=yB;have pl:=PyProof.Rows.split_pos t ":";have sh:∀z∈Txt.split t ":",z.length<=600:=fun z hz=>zL (PyProof.Rows.part_short hz) lt;unfold ir at kk;refine⟨_,(ag (bU 1 iO.nd (b7 yF yJ yI jD (pv 0) (ah aK af)))
  (ag (bU 2 iO.nd (bM G_read_item_length hr T.dX (ah (fO (pv 1) (sT lH ae)) af)))
  (ag (aI (bB (cI (pv 2)))
  (aj (aq aQ))
  ax)
  (ag (aI (PW.pt (cZ (ptr dj (eK aC T.bA (ah (pv 1) af)) ae) (cO (ptr dj (fO (pv 1) ae) aK))))
  (aj (aq (bj (ah aQ (ah (pv 2) af)))))
  ax)
  (ag (aI (ptr lg (eK aC T.bA (ah (pv 1) af)) ae)
  (aj (aq aQ))
  ax)
  (ag (bU 3 iO.nd (bM G_read_pitch hr T.jA (ah (fO (pv 1) ae) (ah (fO (pv 1) ae) af))))
  (ag (aI (bB (cI (pv 3)))
  (aj (aq aQ))
  ax)
  (aj (aq (bj (ah (pv 3) (ah (pv 2) af)))))))))))),?_⟩
 exists by omega,?_
 generalize Txt.split t ":"= ws at kk pl sh;intros p1 H1 s1 h1;exists p1,_,-1,_,rfl,rfl,aH.of h1,O4 pl,?_;refine⟨_,rfl,sh _ (Nv pl),fun v H2 s2 hv=>?_⟩;have h2:=s2 _ _ h1;have S2:=s1.trans s2;generalize lr (ws.getLast?.getD "")=o at kk hv;cases hv with
 | bI=>
  change kk .bI H2 S2 rfl
 | @ref p2 x hx=>
  have kk':∀v H',au H H'->Pz H' v (if ws.dropLast=[("r": Str)] then some (none,x) else match ws.dropLast with
   | [a,b]=>(match rp a b with | some q=>some (some q,x) | none=>none)
   | _=>none)->Q v H':=kk
  clear kk;exists p1,_,rfl,.inl (aH.of h2),?_
  match ws,pl,sh,kk',h2 with
  | [a],_,sh,kk,h2=>
   exists p1,_,rfl,.inl (aH.of h2),?_;change kk .bI H2 S2 rfl
  | [a,b],_,sh,kk,h2=>
   exists p1,_,0,_,rfl,rfl,aH.of h2,rfl,?_;left
   by_cases ea:a ="r"
   ·subst ea
    refine b9 ∅ ?_;change⟨bZ,laid fun p3 H3 s3 h3=>kk (.ref p3) H3 (S2.trans s3) ⟨p3,_,p2,rfl,h3,s3 _ _ hx,.bI⟩⟩
   ·refine cq (zd fun z=>ea (V.str.inj z)) ?_
    exists p1,_,rfl,.inl (aH.of h2),?_;left;refine kk .bI H2 S2 ?_;rw[if_neg (by intro z;exact ea (List.cons.inj z).1)];rfl
  | [a,b,c],_,sh,kk,h2=>
   exists p1,_,rfl,.inl (aH.of h2),?_;exists p1,_,0,_,rfl,rfl,aH.of h2,rfl,?_;exists p1,_,1,_,rfl,rfl,aH.of h2,rfl,?_;refine⟨a,b,rfl,sh a (by simp),sh b (by simp),fun v H3 s3 hv=>?_⟩;have kk2:∀v H',au H H'->Pz H' v (match rp a b with | some q=>some (some q,x) | none=>none)->Q v H':=fun v H' s' z=>kk v H' s' (by
    rw[if_neg (by intro y;simp at y)];exact z)
   generalize rp a b=o at kk2 hv;cases hv with
   | bI=>
    change kk2 .bI H3 (S2.trans s3) rfl
   | @ref p4 q hq=>
    change⟨bZ,laid fun p5 H5 s5 h5=>kk2 (.ref p5) H5 ((S2.trans s3).trans s5) ⟨p5,_,p2,rfl,h5,s5 _ _ (s3 _ _ hx),.ref (s5 _ _ hq)⟩⟩
  | a::b::c::d::r,_,sh,kk,h2=>
   exists p1,_,rfl,.inl (aH.of h2),?_;left;refine kk .bI H2 S2 ?_;rw[if_neg (by intro y;simp at y)];rfl
def F0:aD ["row"] ["row"] (ao yQ):=dB
def Gr:cY P w base 1 T.words_of FR:=by
 nomatch T.words_of,F0
 obtain⟨t,rfl,hl,kk⟩:=h;have sl:=yB;have ple:=PyProof.Rows.split_le t " ";refine⟨_,(aj (aq (nA (ts:=["word"]) (ys:=[]) (js:=[]) (g:=(bO 0)) (tc:=(nO (fu T8 (aV 0) (tC (.str ""))))) (te:=(aV 0)) (aZ (b7 yF yJ yI jD (pv 0) (ah aK af))) (fU 0) (gf (ptr lg (pv 0) aK)) (pv 0)))),?_⟩;ac_rfl;exists by omega,?_
 unfold words at kk;generalize Txt.split t " "= ws at kk ple;intros p1 H1 s1 h1;refine⟨p1,rfl,⟨_,aH.of h1⟩,?_⟩;refine oR ws.length (fun i=>((ws.take i).filter fun w=>decide (w≠("": Str))).map V.str) (fun i σ H'=>H'=H1/\∃v,σ=[v]) ?_ nofun rfl ⟨rfl,none,rfl⟩ ?_ ?_ ?_ ?_
 ·intro i hi
  rw[za];exact zL (List.length_filter_le _ _) (by rw[zP];omega)
 ·rintro i σ H' hi ⟨rfl,_⟩
  exact C6 (aH.of h1) (by rw[za];exact hi)
 ·rintro σ H' ⟨rfl,_⟩
  exact⟨_,aH.of h1,by rw[za];exact zk _⟩
 ·rintro i x σ H' H2 hi ⟨rfl,v,rfl⟩ ⟨rfl,hy⟩
  have hx:=hy _ (aH.of h1);rw[zJ,zb hi] at hx;cases hx;left
  by_cases e:ws[i] =""
  ·refine cq (by rw[e];rfl) ?_
   refine HV.skip hi ?_ ⟨rfl,_,rfl⟩;show List.map V.str (List.filter _ (List.take (i+1) ws))=List.map V.str (List.filter _ (List.take i ws));rw[List.take_add_one,zb hi,e,List.filter_append];simp
  ·refine b9 (by rw[zd fun z=>e (V.str.inj z)];rfl) ?_
   left;refine HV.push hi ?_ ⟨rfl,_,rfl⟩;show List.map V.str (List.filter _ (List.take (i+1) ws))=List.map V.str (List.filter _ (List.take i ws))++[V.str ws[i]];rw[List.take_add_one,zb hi,List.filter_append,zj];have:List.filter (fun w=>decide (w≠("": Str))) (Option.toList (some ws[i]))=[ws[i]]:=by simp[e]
   rw[this];rfl
 ·rintro σ H' ⟨rfl,_⟩
  rw[zM];exact laid fun p H' sm h=>kk p H' (s1.trans sm) h
def BI:aD ["word"] ["word"] (ao sk):=dB
def cu:cY P w base 2 T.cV kr:=by
 nomatch T.cV,BI
 obtain⟨t,rfl,hl,kk⟩:=h;refine⟨_,(aj (aq (bM (ik T) hr T.dI (ah (pv 0) (ah (bY (v:=.int (3)) (by rfl) T.lE ⟨_,rfl⟩) af))))),?_⟩;ac_rfl;change⟨_,_,rfl,hl,kk⟩
def DV:aD ["word"] ["word"] (ao vA):=dB
def d7:cY P w base 1 T.fe lK:=by
 nomatch T.fe,DV
 obtain⟨t,rfl,hl,kk⟩:=h;have sl:=yB;have hz:t.length<=sizeLine:=nofun
 have el:t.cps.toList.length=t.length:=Array.length_toList;unfold cM at kk;refine⟨_,(ag (aI (PW.pt (eO (ptr fo (eK gm T.bA (ah (pv 0) af)) ae) (dC (ptr fq (eK gm T.bA (ah (pv 0) af)) (bY (v:=.int (12)) (by rfl) T.A8 ⟨_,rfl⟩)))))
  (aj (aq aQ))
  ax)
  (ag (aI (eJ (cD (eK (jg rfl) T.CV (ah (nA (ts:=["sign"]) (ys:=[]) (js:=[]) (te:=(fu (fun x y H Q=>∃i j,x=.str i/\y=.str j/\Q (.bl (!(Builtin.Str.occurrences j i 0 j.length 1).isEmpty)) H) (aV 0) (tC (.str "abcdefghijklmnopqrstuvwxyz0123456789")))) (M3 (pv 0)) (fU 0) bg (dS CT (pv 0) (bY (v:=.str "abcdefghijklmnopqrstuvwxyz0123456789") (by rfl) T.E1 ⟨_,rfl⟩) (by with_unfolding_all rfl))) af))))
  (aj (aq aQ))
  ax)
  (aj (aq (pv 0))))),?_⟩
 ac_rfl;exists hz,?_;left;refine wO (fun c1=>?_) (fun c1=>?_)
 ·left
  have z:=kk H (au.refl H);rw[if_pos (yd c1)] at z;exact z
 have c1':¬(t.length:Int)<1:=fun z=>c1 (ze z);rw[if_neg c1'] at kk;exists hz,?_;left;refine wO (fun c2=>?_) (fun c2=>?_)
 ·left
  have z:=kk H (au.refl H);rw[if_pos (yd c2)] at z;exact z
 have c2':¬(12:Int)<(t.length:Int):=fun z=>c2 (ze z);rw[if_neg c2'] at kk;left;refine oR t.length (fun i=>(t.cps.toList.take i).map fun c=>V.bl (decide (c∈sgn))) (fun i σ H'=>H'=H/\∃v,σ=[v]) (fun i hi=>by rw[za,zP];omega) nofun rfl ⟨rfl,none,rfl⟩ (fun i σ H' hi _=>hi) (fun σ H' _=>zk _) ?_ ?_
 ·rintro i x σ H1 H2 hi ⟨rfl,v,rfl⟩ ⟨rfl,c,hc,rfl⟩
  left;refine HV.push hi ?_ ⟨rfl,_,rfl⟩;rw[PySem.StrLaws.found_one];rw[<-Array.getElem?_toList] at hc;show List.map _ (List.take (i+1) t.cps.toList)=_;rw[List.take_add_one,hc,zj];rfl
 ·rintro σ H1 ⟨rfl,_⟩
  rw[<-el,zM];intros D H2 s2 h2;refine⟨D,t.cps.toList.map (fun c=>decide (c∈sgn)),rfl,aH.of (by rw[h2,zA];rfl),?_⟩;have ea:(t.cps.toList.map (fun c=>decide (c∈sgn))).all id=t.cps.toList.all (fun c=>decide (c∈sgn)):=by rw[List.all_map];rfl
  rw[ea]
  by_cases ha:t.cps.toList.all (fun c=>decide (c∈sgn))=true
  ·rw[ha]
   rw[if_pos ha] at kk;change kk _ s2
  ·rw[if_neg ha] at kk
   rw[show t.cps.toList.all (fun c=>decide (c∈sgn))=false from by simpa using ha];change kk _ s2
def nZ:aD ["word","lowest","highest","number"] ["word","lowest","highest"] (ao pY):=dB
def oJ:cY P w base 3 T.jY xX:=by
 nomatch T.jY,nZ
 obtain⟨t,lo,hi,rfl,hl,kk⟩:=h;unfold mV at kk;refine⟨_,(ag (bU 3 nZ.nd (bM (cu T) hr T.cV (ah (pv 0) af)))
  (ag (aI (PW.pt (eO (bB (cI (pv 3))) (eO (ptr fo (pv 3) (pv 1)) (dC (ptr fq (pv 3) (pv 2))))))
  (aj (aq aQ))
  ax)
  (aj (aq (pv 3))))),?_⟩
 ac_rfl;exists hl,fun H1 s1=>?_;cases e:fM t with
 | none=>
  rw[e] at kk;change kk _ s1
 | some n=>
  rw[e] at kk;left
  by_cases c1:n<lo
  ·refine b9 (ze c1) ?_
   simp only[if_pos c1] at kk;change kk _ s1
  ·refine cq (zd c1) ?_
   simp only[if_neg c1] at kk;left
   by_cases c2:hi<n
   ·refine b9 (ze c2) ?_
    simp only[if_pos c2] at kk;change kk _ s1
   ·refine cq (zd c2) ?_
    simp only[if_neg c2] at kk;change kk _ s1
def DU:aD ["word"] ["word"] (ao vz):=dB
def Ej:cY P w base 4 T.uB DM:=by
 nomatch T.uB,DU
 obtain⟨t,rfl,hl,kk⟩:=h;refine⟨_,(aj (OM (mX T) (hr.mono ∅) rfl T.eY.g T.eY.F.kp T.eY.b (ah (pv 0) af) rfl rfl T.mh T.lW rfl rfl rfl (fun e=>(aj (aq aQ))))),?_⟩;ac_rfl;left;refine⟨hl,fun x e p H1 s1 h1=>?_,fun e H1 s1=>⟨rfl,?_⟩⟩
 ·rw[e] at kk
  exact kk _ H1 s1 (.ref h1)
 ·rw[e] at kk
  change kk _ H1 s1 .bI
def rV:aD ["fifths_word","steps_word","turn"] ["fifths_word","steps_word"] (ao vy):=dB
def Ei:cY P w base 4 T.uA DL:=by
 nomatch T.uA,rV
 obtain⟨a,b,rfl,la,lb,kk⟩:=h;unfold y6 at kk;refine⟨_,(ag (bU 2 rV.nd (bM (oI T) hr T.jA (ah (pv 0) (ah (pv 1) af))))
  (ag (aI (PW.pt (eO (bB (cI (pv 2))) (dC (ptr fq (eK Hy T.PZ (ah (bV (pv 2) ae) af)) (bY (v:=.int (12)) (by rfl) T.A9 ⟨_,rfl⟩)))))
  (aj (aq aQ))
  ax)
  (aj (aq (pv 2))))),?_⟩
 ac_rfl;exists _,_,rfl,la,lb,fun v H1 s1 h1=>?_;cases e:rp a b with
 | none=>
  rw[e] at kk h1;cases h1;change kk _ _ s1 .bI
 | some q=>
  rw[e] at kk h1;cases h1 with
  | ref h1=>
   left;refine wO (fun c=>?_) (fun c=>?_)
   ·simp only[if_pos (yd c)] at kk
    change kk _ _ s1 .bI
   ·simp only[if_neg (fun z=>c (ze z))] at kk
    change kk _ _ s1 (.ref h1)
def vt:aD ["word","key"] ["word"] (ao yR):=dB
def Gv:cY P w base 3 T.Ab FV:=by
 nomatch T.Ab,vt
 obtain⟨t,rfl,hl,kk⟩:=h;unfold F8 at kk;refine⟨_,(ag (bU 1 vt.nd (bM (mY T) hr T.fN (ah (pv 0) (ah (bY (v:=.int (3)) (by rfl) T.lE ⟨_,rfl⟩) af))))
  (ag (aI (PW.pt (eO (bB (cI (pv 1))) (dC (ptr fq (eK Hy T.PZ (ah (pv 1) af)) (bY (v:=.int (7)) (by rfl) T.Ck ⟨_,rfl⟩)))))
  (aj (aq aQ))
  ax)
  (aj (aq (pv 1))))),?_⟩
 ac_rfl;exists _,_,rfl,hl,fun H1 s1=>?_;cases e:rs 3 t with
 | none=>
  rw[e] at kk;change kk _ s1
 | some n=>
  rw[e] at kk;left;refine wO (fun c=>?_) (fun c=>?_)
  ·simp only[if_pos (yd c)] at kk
   change kk _ s1
  ·simp only[if_neg (fun z=>c (ze z))] at kk
   change kk _ s1
def vx:aD ["values"] ["values"] (ao yX):=dB
def eF:cY P w base 1 T.dw (BD K):=by
 nomatch T.dw,vx
 obtain⟨a,us,rfl,ha,hl,kk⟩:=h;have sl:=yB;refine⟨_,(ag (aI (cD (eK (gI rfl) T.Au (ah (nA (ts:=["value"]) (ys:=[]) (js:=[]) (te:=(Mq (aV 0))) (aZ (pv 0)) (fU 0) bg (qU (cI (pv 0)))) af)))
  (aj (aq aQ))
  ax)
  (aj (aq (pv 0)))),?_⟩
 ac_rfl;exists⟨_,ha⟩,?_;refine fk (enc:=fun v=>v) (ws:=us) (fun v=>.bl (gx v)) (fun σ=>∃v,σ=[v]) nofun (by rw[List.map_id'];exact ha) ⟨none,rfl⟩ ?_ ?_
 ·rintro v σ H1 R hv s1 ⟨_,rfl⟩ r
  change r _ _ _ (au.refl _) (by unfold Is;rfl) ⟨_,rfl⟩
 ·intro D vs H1 s1 hD il
  have e:us.map (fun v=>Dt.bl (gx v))=(us.map gx).map Dt.bl:=by rw[zA];rfl
  rw[e] at il;rw[iA il] at hD;refine⟨D,us.map gx,rfl,aH.of hD,?_⟩;have e2:(us.map gx).any id=us.any gx:=by rw[List.any_map];rfl
  rw[e2];cases q:us.any gx with
  | true=>
   rw[q] at kk;change kk _ s1
  | false=>
   rw[q] at kk;change kk _ s1
def fF:cY P w base 1 T.dw BC:=by
 nomatch T.dw,vx
 obtain⟨a,us,rfl,ha,hl,kk⟩:=h;have sl:=yB;refine⟨_,(ag (aI (cD (eK (gI rfl) T.Au (ah (nA (ts:=["value"]) (ys:=[]) (js:=[]) (te:=(Mq (aV 0))) (kB (pv 0)) (fU 0) bg (qU (cI (pv 0)))) af)))
  (aj (aq aQ))
  ax)
  (aj (aq (pv 0)))),?_⟩
 ac_rfl;exists⟨_,dA.of ha⟩,?_;refine gG (enc:=fun v=>v) (ws:=us) (fun v=>.bl (gx v)) (fun σ=>∃v,σ=[v]) nofun (by rw[List.map_id'];exact ha) ⟨none,rfl⟩ ?_ ?_
 ·rintro v σ H1 R hv s1 ⟨_,rfl⟩ r
  change r _ _ _ (au.refl _) (by unfold Is;rfl) ⟨_,rfl⟩
 ·intro D vs H1 s1 hD il
  have e:us.map (fun v=>Dt.bl (gx v))=(us.map gx).map Dt.bl:=by rw[zA];rfl
  rw[e] at il;rw[iA il] at hD;refine⟨D,us.map gx,rfl,aH.of hD,?_⟩;have e2:(us.map gx).any id=us.any gx:=by rw[List.any_map];rfl
  rw[e2];cases q:us.any gx with
  | true=>
   rw[q] at kk;change kk _ s1
  | false=>
   rw[q] at kk;change kk _ s1
theorem AB (n:Int):∀ns:List Int,Fx (.int n) (ns.map V.int)=decide (n∈ns)
 | []=>rfl
 | m::ns=>by
  have ih:=AB n ns;unfold Fx at ih ⊢;rw[zh,List.any_cons,ih]
  by_cases e:n=m
  ·subst e
   simp[I0]
  ·simp[I0,e,Ne.symm (a:=m) (b:=n) (fun z=>e z.symm)]
   try omega
def Iz {t a b:Str} (h:Txt.split t "/"= [a,b]):jz t=(match mV a 1 32,fM b with | some m,some n=>if n∈Cn then some (m,n) else none | _,_=>none):=by unfold jz;rw[h];try rfl
def KS {t:Str} (h:(Txt.split t "/").length≠2):jz t=none:=by
 unfold jz;split
 ·rename_i e;rw[e] at h;exact absurd rfl h
 ·rfl
def MO {t a b:Str} (h:Txt.split t ":"= [a,b]):y7 t=(match fM a,oU ((Txt.split b ",").map fM) with | some n,some ps=>some (n,ps) | _,_=>none):=by unfold y7;rw[h];try rfl
def OF {t:Str} (h:(Txt.split t ":").length≠2):y7 t=none:=by
 unfold y7;split
 ·rename_i e;rw[e] at h;exact absurd rfl h
 ·rfl
def gM:aD ["word","parts","top","bottom"] ["word"] (ao su):=dB
def BV:cY P w base 4 T.qQ (BA K):=by
 nomatch T.qQ,gM
 obtain⟨t,rfl,hl,kk⟩:=h;have sl:=yB;have sh:∀z∈Txt.split t "/",z.length<=600:=fun z hz=>zL (PyProof.Rows.part_short hz) hl;refine⟨_,(ag (bU 1 gM.nd (b7 yF yJ yI jD (pv 0) (ah aK af)))
  (ag (aI (ptr lg (eK aC T.bA (ah (pv 1) af)) ae)
  (aj (aq aQ))
  ax)
  (ag (bU 2 gM.nd (bM (oJ T) hr T.jY (ah (fO (pv 1) ae) (ah ae (ah (bY (v:=.int (32)) (by rfl) T.xf ⟨_,rfl⟩) af)))))
  (ag (bU 3 gM.nd (bM (cu T) hr T.cV (ah (fO (pv 1) ae) af)))
  (ag (aI (PW.pt (eO (bB (cI (pv 2))) (dC (iR d5 (pv 3) (bY (v:=.ref T.eB) (by rfl) T.xc rfl) (by with_unfolding_all rfl)))))
  (aj (aq aQ))
  ax)
  (aj (aq (bj (ah (pv 2) (ah (pv 3) af)))))))))),?_⟩
 ac_rfl;exists by omega,?_
 generalize ew:Txt.split t "/"= ws at sh;intros p1 H1 s1 h1;exists p1,_,rfl,.inl (aH.of h1),?_;rw[za];left
 by_cases hw:ws.length=2
 ·obtain⟨a,b,rfl⟩:∃a b,ws=[a,b]:=by
   match ws,hw with
   | [a,b],_=>exact⟨a,b,rfl⟩
  refine cq rfl ?_;exists p1,_,0,_,rfl,rfl,aH.of h1,rfl,?_;refine⟨_,_,_,rfl,sh a (by simp),fun H2 s2=>?_⟩;exists p1,_,1,_,rfl,rfl,aH.of (s2 _ _ h1),rfl,?_;refine⟨_,rfl,sh b (by simp),fun H3 s3=>?_⟩;have s03:=(s1.trans s2).trans s3;rw[Iz ew] at kk;cases ea:mV a 1 32 with
  | none=>
   rw[ea] at kk;change kk _ _ s03 .bI
  | some m=>
   rw[ea] at kk;left;cases eb:fM b with
   | none=>
    rw[eb] at kk;refine⟨T.eB,_,rfl,.inr (T.m9 H3),rfl,rfl,?_⟩;change kk _ _ s03 .bI
   | some n=>
    rw[eb] at kk;refine⟨T.eB,Cn.map V.int,rfl,.inr (T.m9 H3),rfl,rfl,?_⟩;show∃k,V.bl (!Fx (.int n) (Cn.map V.int))=.bl k/\_;rw[AB]
    by_cases c:n∈Cn
    ·rw[ze c]
     simp only[if_pos c] at kk;left;refine⟨bZ,laid fun p4 H4 s4 h4=>kk _ _ (s03.trans s4) (.ref h4)⟩
    ·rw[zd c]
     simp only[if_neg c] at kk;change kk _ _ s03 .bI
 ·refine b9 (by rw[zd fun z=>hw (by have:=V.int.inj z;omega)];rfl) ?_
  left;rw[KS (by rw[ew];exact hw)] at kk;exact kk _ _ s1 .bI
def jT:aD ["word","parts","bar","passes"] ["word"] (ao yS):=dB
def Gw:cY P w base 4 T.Ac vm:=by
 nomatch T.Ac,jT
 obtain⟨t,rfl,hl,kk⟩:=h;have sl:=yB;have sh:∀z∈Txt.split t ":",z.length<=600:=fun z hz=>zL (PyProof.Rows.part_short hz) hl;refine⟨_,(ag (bU 1 jT.nd (b7 yF yJ yI jD (pv 0) (ah aK af)))
  (ag (aI (ptr lg (eK aC T.bA (ah (pv 1) af)) ae)
  (aj (aq aQ))
  ax)
  (ag (bU 2 jT.nd (bM (cu T) hr T.cV (ah (fO (pv 1) ae) af)))
  (ag (bU 3 jT.nd (bM (eF T) hr T.dw (ah (nA (ts:=["part"]) (ys:=[]) (js:=[]) (te:=(fX kr [] E0 (bC (aV 0) dZ))) (aZ (b7 yF yJ yI jD (fO (pv 1) ae) (ah aK af))) (fU 0) bg (bM (cu T) hr T.cV (ah (pv 0) af))) af)))
  (ag (aI (PW.pt (eO (bB (cI (pv 2))) (dC (bB (cI (pv 3))))))
  (aj (aq aQ))
  ax)
  (aj (aq (bj (ah (pv 2) (ah (nJ cP T.gP (ah (pv 3) af)) af)))))))))),?_⟩
 ac_rfl;exists by omega,?_
 generalize ew:Txt.split t ":"= ws at sh;intros p1 H1 s1 h1;exists p1,_,rfl,.inl (aH.of h1),?_;rw[za];left
 by_cases hw:ws.length=2
 ·obtain⟨a,b,rfl⟩:∃a b,ws=[a,b]:=by
   match ws,hw with
   | [a,b],_=>exact⟨a,b,rfl⟩
  refine cq rfl ?_;exists p1,_,0,_,rfl,rfl,aH.of h1,rfl,?_;refine⟨_,rfl,sh a (by simp),fun H2 s2=>?_⟩;exists p1,_,1,_,rfl,rfl,aH.of (s2 _ _ h1),rfl,?_;left;have lb:=sh b (by simp);have bl:=PyProof.Rows.split_le b ",";have bsh:∀z∈Txt.split b ",",z.length<=600:=fun z hz=>zL (PyProof.Rows.part_short hz) lb;refine⟨nofun,?_⟩;rw[MO ew] at kk;generalize Txt.split b ","= bs at kk bl bsh;intros p3 H3 s3 h3;exists⟨_,aH.of h3⟩,?_;refine fk (enc:=V.str) (ws:=bs) (fun z=>dO .int (fM z)) (fun σ=>∃v,σ=[v]) nofun (aH.of h3) ⟨none,rfl⟩ ?_ ?_
  ·rintro z σ H4 R hz s4 ⟨_,rfl⟩ r
   change⟨bsh z hz,fun H5 s5=>r _ _ _ s5 (AA _) ⟨_,rfl⟩⟩
  ·intro D vs H4 s4 hD il
   have s04:=((s1.trans s2).trans s3).trans s4;refine⟨D,vs,rfl,aH.of hD,by rw[il.len,za];omega,fun H5 s5=>?_⟩;have e1:bs.map (fun z=>dO Dt.int (fM z))=(bs.map fM).map (dO Dt.int):=by rw[zA];rfl
   rw[e1] at il;rw[ke il];cases q:((bs.map fM).map (dO Dt.int)).any Dt.gx with
   | true=>
    rw[ji NI q] at kk;have kn:=kk .bI H5 (s04.trans s5) (by cases fM a <;> (unfold dO Is;rfl));cases ea:fM a with
    | none=>change kn
    | some n=>change kn
   | false=>
    obtain⟨xs,e2,e3,e4⟩:=jh q;rw[e2] at kk;rw[e3] at il;have ev:=eR il;subst ev;cases ea:fM a with
    | none=>
     rw[ea] at kk;change kk .bI H5 (s04.trans s5) (by unfold dO Is;rfl)
    | some n=>
     rw[ea] at kk;left;refine⟨D,_,rfl,.inl ⟨aH.of (s5 _ _ hD),?_⟩⟩;intros p6 H6 s6 h6;left;refine⟨bZ,laid fun p7 H7 s7 h7=>kk _ _ (((s04.trans s5).trans s6).trans s7) ?_⟩;show Is H7 (.tup [.int n,.tup (xs.map .int)]) _;unfold Is;refine⟨p7,_,rfl,h7,?_⟩;unfold aB;refine⟨_,_,rfl,by unfold Is;rfl,?_⟩;unfold aB;refine⟨_,_,rfl,?_,by unfold aB;rfl⟩;unfold Is;exact⟨p6,_,rfl,s7 _ _ h6,tI⟩
 ·refine b9 (by rw[zd fun z=>hw (by have:=V.int.inj z;omega)];rfl) ?_
  left;rw[OF (by rw[ew];exact hw)] at kk;exact kk _ _ s1 (by unfold dO Is;rfl)
def Nb {α:Type} {f:Str->Option α} {ws:List Str} (h:ws.length≠1):one f ws=none:=by
 match ws,h with
 | [],_=>rfl
 | [_],h=>exact absurd rfl h
 | _::_::_,_=>rfl
def yN:aD ["words"] ["words"] (ao qh):=dB
def Ap:cY P w base 2 T.j6 (fY K (qz .str (one cM))):=by
 nomatch T.j6,yN
 obtain⟨p,ws,rfl,hp,hl,sh,kk⟩:=h;refine⟨_,(ag (aI (ptr lg (eK aC T.bA (ah (pv 0) af)) ae)
  (aj (aq aQ))
  ax)
  (aj (aq (bM (d7 T) hr T.fe (ah (fO (pv 0) ae) af))))),?_⟩
 ac_rfl;exists p,_,rfl,.inl hp,?_;rw[za];left
 by_cases hw:ws.length=1
 ·obtain⟨a,rfl⟩:∃a,ws=[a]:=by
   match ws,hw with
   | [a],_=>exact⟨a,rfl⟩
  refine cq rfl ?_;exists p,_,0,_,rfl,rfl,hp,rfl,?_;exact⟨_,rfl,sh a (by simp),fun H1 s1=>kk _ _ s1 (C1 _)⟩
 ·refine b9 (by rw[zd fun z=>hw (by have:=V.int.inj z;omega)];rfl) ?_
  left;refine kk _ _ (au.refl _) ?_;unfold qz;rw[Nb hw];exact d8
def yM:aD ["words"] ["words"] (ao pZ):=dB
def An:cY P w base 5 T.jZ (fY K (qz dL (one lr))):=by
 nomatch T.jZ,yM
 obtain⟨p,ws,rfl,hp,hl,sh,kk⟩:=h;refine⟨_,(ag (aI (ptr lg (eK aC T.bA (ah (pv 0) af)) ae)
  (aj (aq aQ))
  ax)
  (aj (aq (bM (g9 T) hr T.dX (ah (fO (pv 0) ae) af))))),?_⟩
 ac_rfl;exists p,_,rfl,.inl hp,?_;rw[za];left
 by_cases hw:ws.length=1
 ·obtain⟨a,rfl⟩:∃a,ws=[a]:=by
   match ws,hw with
   | [a],_=>exact⟨a,rfl⟩
  refine cq rfl ?_;exists p,_,0,_,rfl,rfl,hp,rfl,?_;exact⟨_,rfl,sh a (by simp),fun v H1 s1 h1=>kk _ _ s1 (Az h1)⟩
 ·refine b9 (by rw[zd fun z=>hw (by have:=V.int.inj z;omega)];rfl) ?_
  left;refine kk _ _ (au.refl _) ?_;unfold qz;rw[Nb hw];exact d8
def EW {α:Type} (d:α->Dt) (o:Option α):dO d o=(o.map d).getD .bI:=by cases o <;> rfl
def Fc {H:Hp} {ds:List Dt} {us:List V} {a:Addr} {d:Option Dt} (ha:H a=some (.tup us)) (il:aB H ds us) (h1:ds.any Dt.gx=true->d=none) (h2:ds.any Dt.gx=false->d=some (.tup ds)):Is H (d.getD .bI) (if us.any gx=true then .bI else .ref a):=by
 rw[ke il];cases q:ds.any Dt.gx with
 | true=>rw[h1 q];exact d8
 | false=>rw[h2 q];exact cE ha il
def qH:aD ["words"] ["words"] (ao jU):=dB
def qX:cY P w base 5 T.fK (fY K (qz eM lV)):=by
 nomatch T.fK,qH
 obtain⟨p,ws,rfl,hp,hl,sh,kk⟩:=h;refine⟨_,(ag (aI (ptr lg (eK aC T.bA (ah (pv 0) af)) ae)
  (aj (aq aQ))
  ax)
  (aj (aq (bM (fF T) hr T.dw (ah (bj (ah (bM (d7 T) hr T.fe (ah (fO (pv 0) ae) af)) (ah (bM (Ei T) hr T.uA (ah (fO (pv 0) ae) (ah (fO (pv 0) ae) af))) (ah (bM (Ej T) hr T.uB (ah (fO (pv 0) ae) af)) af)))) af))))),?_⟩
 ac_rfl;exists p,_,rfl,.inl hp,?_;rw[za];left
 by_cases hw:ws.length=4
 ·obtain⟨a,b,c,d,rfl⟩:∃a b c d,ws=[a,b,c,d]:=by
   match ws,hw with
   | [a,b,c,d],_=>exact⟨a,b,c,d,rfl⟩
  refine cq rfl ?_;exists p,_,0,_,rfl,rfl,hp,rfl,?_;refine⟨_,rfl,sh a (by simp),fun H1 s1=>?_⟩;exists p,_,1,_,rfl,rfl,s1.seq hp,rfl,?_;exists p,_,2,_,rfl,rfl,s1.seq hp,rfl,?_;refine⟨_,_,rfl,sh b (by simp),sh c (by simp),fun v2 H2 s2 h2=>?_⟩;exists p,_,3,_,rfl,rfl,(s1.trans s2).seq hp,rfl,?_;refine⟨_,rfl,sh d (by simp),fun v3 H3 s3 h3=>?_⟩;exists nY,?_;intros p4 H4 s4 h4;have s24:=s3.trans s4;refine⟨p4,_,rfl,h4,(by show 3<=1000000;decide),fun H5 s5=>kk _ _ (((s1.trans s2).trans s24).trans s5) ?_⟩;unfold qz;rw[EW];refine Fc (s5 _ _ h4) (aN (C1 _) (aN (Az (h2.mono (s24.trans s5))) (oP (Az (h3.mono (s4.trans s5)))))) ?_ ?_
  ·simp only[lV]
   cases cM a <;> cases y6 b c <;> cases Oc d <;> first | (intro _;rfl) | (intro q;exact absurd q (by simp[dO,dL,Dt.gx]))
  ·simp only[lV]
   cases cM a <;> cases y6 b c <;> cases Oc d <;> first | (intro _;rfl) | (intro q;exact absurd q (by simp[dO,dL,Dt.gx]))
 ·refine b9 (by rw[zd fun z=>hw (by have:=V.int.inj z;omega)];rfl) ?_
  left;refine kk _ _ (au.refl _) ?_;have e:lV ws=none:=by
   unfold lV;split
   ·exact absurd rfl hw
   ·rfl
  unfold qz;rw[e];exact d8
def DW:aD ["words"] ["words"] (ao vD):=dB
def El:cY P w base 3 T.oZ (fY K (qz vW sO)):=by
 nomatch T.oZ,DW
 obtain⟨p,ws,rfl,hp,hl,sh,kk⟩:=h;refine⟨_,(ag (aI (ptr lg (eK aC T.bA (ah (pv 0) af)) ae)
  (aj (aq aQ))
  ax)
  (aj (aq (bM (fF T) hr T.dw (ah (bj (ah (bM (d7 T) hr T.fe (ah (fO (pv 0) ae) af)) (ah (bM (cu T) hr T.cV (ah (fO (pv 0) ae) af)) (ah (bM (d7 T) hr T.fe (ah (fO (pv 0) ae) af)) af)))) af))))),?_⟩
 ac_rfl;exists p,_,rfl,.inl hp,?_;rw[za];left
 by_cases hw:ws.length=3
 ·obtain⟨a,b,c,rfl⟩:∃a b c,ws=[a,b,c]:=by
   match ws,hw with
   | [a,b,c],_=>exact⟨a,b,c,rfl⟩
  refine cq rfl ?_;exists p,_,0,_,rfl,rfl,hp,rfl,?_;refine⟨_,rfl,sh a (by simp),fun H1 s1=>?_⟩;exists p,_,1,_,rfl,rfl,s1.seq hp,rfl,?_;refine⟨_,rfl,sh b (by simp),fun H2 s2=>?_⟩;exists p,_,2,_,rfl,rfl,(s1.trans s2).seq hp,rfl,?_;refine⟨_,rfl,sh c (by simp),fun H3 s3=>?_⟩;exists nY,?_;intros p4 H4 s4 h4;refine⟨p4,_,rfl,h4,(by show 3<=1000000;decide),fun H5 s5=>kk _ _ (((s1.trans s2).trans (s3.trans s4)).trans s5) ?_⟩;unfold qz;rw[EW];refine Fc (s5 _ _ h4) (aN (C1 _) (aN (AA _) (oP (C1 _)))) ?_ ?_
  ·simp only[sO]
   cases cM a <;> cases fM b <;> cases cM c <;> first | (intro _;rfl) | (intro q;exact absurd q (by simp[dO,dL,Dt.gx]))
  ·simp only[sO]
   cases cM a <;> cases fM b <;> cases cM c <;> first | (intro _;rfl) | (intro q;exact absurd q (by simp[dO,dL,Dt.gx]))
 ·refine b9 (by rw[zd fun z=>hw (by have:=V.int.inj z;omega)];rfl) ?_
  left;refine kk _ _ (au.refl _) ?_;have e:sO ws=none:=by
   unfold sO;split
   ·exact absurd rfl hw
   ·rfl
  unfold qz;rw[e];exact d8
def oM {H:Hp} {ws:List Str} {vs:List V} {α:Type} {d:α->Dt} {f:Str->Option α} (il:aB H (ws.map fun z=>dO d (f z)) vs):aB H ((ws.map f).map (dO d)) vs:=by
 have e:ws.map (fun z=>dO d (f z))=(ws.map f).map (dO d):=by rw[zA];rfl
 rw[<-e];exact il
def pT:aD ["words","names"] ["words"] (ao si):=dB
def BR:cY P w base 2 T.lS (fY K (qz gF qS)):=by
 nomatch T.lS,pT
 obtain⟨p,ws,rfl,hp,hl,sh,kk⟩:=h;have sl:=yB;refine⟨_,(ag (aI (ptr fo (eK aC T.bA (ah (pv 0) af)) ae)
  (aj (aq aQ))
  ax)
  (ag (bU 1 pT.nd (bM (eF T) hr T.dw (ah (nA (ts:=["word"]) (ys:=[]) (js:=[]) (te:=(fX lK [] E0 (bC (aV 0) dZ))) (aZ (pv 0)) (fU 0) bg (bM (d7 T) hr T.fe (ah (pv 0) af))) af)))
  (ag (aI (bB (cI (pv 1)))
  (aj (aq aQ))
  ax)
  (aj (aq (bj (ah (fO (pv 1) ae) (ah (nJ cP T.gP (ah (dJ gL (pv 1) (eP ae) eQ) af)) af)))))))),?_⟩
 ac_rfl;exists p,_,rfl,.inl hp,?_;rw[za];left;refine wO (fun c=>?_) (fun c=>?_)
 ·left
  refine kk _ _ (au.refl _) ?_;have hw:=yd c;have e:qS ws=none:=by
   unfold qS;split
   ·simp at hw;omega
   ·rfl
  unfold qz;rw[e];exact d8
 ·have hw:¬(ws.length:Int)<2:=fun z=>c (ze z)
  obtain⟨a,b,r,rfl⟩:∃a b r,ws=a::b::r:=by
   match ws,hw with
   | [],h=>exact absurd (by simp) h
   | [_],h=>exact absurd (by simp) h
   | a::b::r,_=>exact⟨a,b,r,rfl⟩
  exists⟨_,hp⟩,?_;refine fk (enc:=V.str) (ws:=a::b::r) (fun z=>dO .str (cM z)) (fun σ=>∃v,σ=[v]) nofun hp ⟨none,rfl⟩ ?_ ?_
  ·rintro z σ H4 R hz s4 ⟨_,rfl⟩ r
   change⟨sh z hz,fun H5 s5=>r _ _ _ s5 (C1 _) ⟨_,rfl⟩⟩
  ·intro D vs H4 s4 hD il
   refine⟨D,vs,rfl,aH.of hD,by rw[il.len,za];omega,fun H5 s5=>?_⟩;have il:=oM il;rw[ke il];cases q:(((a::b::r).map cM).map (dO Dt.str)).any Dt.gx with
   | true=>
    left;refine kk _ _ (s4.trans s5) ?_;unfold qz;rw[qR,ji GW q];exact d8
   | false=>
    obtain⟨xs,e2,e3,e4⟩:=jh q;rw[e3] at il;have ev:=dM il;subst ev;obtain⟨n,ps,rfl⟩:∃n ps,xs=n::ps:=by
     match xs,e4 with
     | n::ps,_=>exact⟨n,ps,rfl⟩
    have hD5:=s5 _ _ hD;exists D,_,0,_,rfl,rfl,aH.of hD5,bx (j:=0) rfl,?_;exists D,_,rfl,aH.of hD5,?_;rw[show kI (List.map V.str (n::ps)) (some 1) none=ps.map V.str from(fQ _ 1).trans rfl];intros p6 H6 s6 h6;left;refine⟨p6,_,rfl,.inl ⟨aH.of h6,?_⟩⟩;intros p7 H7 s7 h7;left;refine⟨bZ,laid fun p8 H8 s8 h8=>kk _ _ (((((s4.trans s5).trans s6).trans s7)).trans s8) ?_⟩;unfold qz;rw[qR,e2];exact cE h8 (aN eL (oP (cE (s8 _ _ h7) DF)))
def vv:aD ["words","marks"] ["words"] (ao yT):=dB
def Gx:cY P w base 5 T.sM (fY K (qz lD BP)):=by
 nomatch T.sM,vv
 obtain⟨p,ws,rfl,hp,hl,sh,kk⟩:=h;have sl:=yB;refine⟨_,(ag (aI (ptr fo (eK aC T.bA (ah (pv 0) af)) ae)
  (aj (aq aQ))
  ax)
  (ag (bU 1 vv.nd (bM (eF T) hr T.dw (ah (nA (ts:=["word"]) (ys:=[]) (js:=[]) (te:=(fX lK [] E0 (bC (aV 0) dZ))) (aZ (dJ gL (pv 0) (eP ae) eQ)) (fU 0) bg (bM (d7 T) hr T.fe (ah (pv 0) af))) af)))
  (ag (aI (bB (cI (pv 1)))
  (aj (aq aQ))
  ax)
  (aj (aq (bM (fF T) hr T.dw (ah (bj (ah (bM (BV T) hr T.qQ (ah (fO (pv 0) ae) af)) (ah (bM (Gv T) hr T.Ab (ah (fO (pv 0) ae) af)) (ah (nJ cP T.gP (ah (pv 1) af)) af)))) af))))))),?_⟩
 ac_rfl;exists p,_,rfl,.inl hp,?_;rw[za];left;refine wO (fun c=>?_) (fun c=>?_)
 ·left
  refine kk _ _ (au.refl _) ?_;have hw:=yd c;have e:BP ws=none:=by
   unfold BP;split
   ·simp at hw;omega
   ·rfl
  unfold qz;rw[e];exact d8
 ·have hw:¬(ws.length:Int)<2:=fun z=>c (ze z)
  obtain⟨a,b,r,rfl⟩:∃a b r,ws=a::b::r:=by
   match ws,hw with
   | [],h=>exact absurd (by simp) h
   | [_],h=>exact absurd (by simp) h
   | a::b::r,_=>exact⟨a,b,r,rfl⟩
  rw[zt,zt] at hl;exists p,_,rfl,hp,?_;rw[show kI (List.map V.str (a::b::r)) (some 2) none=r.map V.str from(fQ _ 2).trans rfl];intros p1 H1 s1 h1;exists⟨_,aH.of h1⟩,?_;refine fk (enc:=V.str) (ws:=r) (fun z=>dO .str (cM z)) (fun σ=>∃v,σ=[v]) nofun (aH.of h1) ⟨none,rfl⟩ ?_ ?_
  ·rintro z σ H4 R hz s4 ⟨_,rfl⟩ r
   change⟨sh z (by simp[hz]),fun H5 s5=>r _ _ _ s5 (C1 _) ⟨_,rfl⟩⟩
  ·intro D vs H4 s4 hD il
   refine⟨D,vs,rfl,aH.of hD,by rw[il.len,za];omega,fun H5 s5=>?_⟩;have il:=oM il;rw[ke il];have s05:=(s1.trans s4).trans s5;cases q:((r.map cM).map (dO Dt.str)).any Dt.gx with
   | true=>
    left;refine kk _ _ s05 ?_;unfold qz;simp only[BP];rw[ji GW q];exact d8
   | false=>
    obtain⟨xs,e2,e3,e4⟩:=jh q;rw[e3] at il;have ev:=dM il;subst ev;have hD5:=s5 _ _ hD;exists p,_,0,_,rfl,rfl,s05.seq hp,bx (j:=0) rfl,?_;refine⟨_,rfl,sh a (by simp),fun v6 H6 s6 h6=>?_⟩;exists p,_,1,_,rfl,rfl,(s05.trans s6).seq hp,bx (j:=1) rfl,?_;refine⟨_,rfl,sh b (by simp),fun H7 s7=>?_⟩;left;refine⟨D,_,rfl,.inl ⟨aH.of (s7 _ _ (s6 _ _ hD5)),?_⟩⟩;intros p8 H8 s8 h8;exists nY,?_;intros p9 H9 s9 h9;refine⟨p9,_,rfl,h9,(by show 3<=1000000;decide),fun Hx sx=>kk _ _ (((((s05.trans s6).trans s7).trans s8).trans s9).trans sx) ?_⟩;unfold qz;rw[EW];refine Fc (ds:=[dO dL (jz a),dO .int (F8 b),nh xs]) (sx _ _ h9) (aN (Az (h6.mono (((s7.trans s8).trans s9).trans sx))) (aN (AA _) (oP (cE (sx _ _ (s9 _ _ h8)) DF)))) ?_ ?_
    ·simp only[BP]
     rw[e2];cases jz a <;> cases F8 b <;> first | (intro _;rfl) | (intro q;exact absurd q (by simp[dO,dL,Dt.gx,nh]))
    ·simp only[BP]
     rw[e2];cases jz a <;> cases F8 b <;> first | (intro _;rfl) | (intro q;exact absurd q (by simp[dO,dL,Dt.gx,nh]))
theorem xA {H:Hp} {α:Type} {d:α->Dt}:∀{xs:List α} {vs:List V},aB H (xs.map d) vs->∃ps:List (α×V),ps.map (·.1)=xs/\ps.map (·.2)=vs/\∀q∈ps,Is H (d q.1) q.2
 | [],_,h=>by unfold aB at h;exact⟨[],rfl,h.symm,fun _ z=>nomatch z⟩
 | x::xs,_,h=>by
  rw[zh] at h;unfold aB at h;obtain⟨u,r,rfl,h1,h2⟩:=h;obtain⟨ps,e1,e2,hh⟩:=xA h2;refine⟨(x,u)::ps,by simp[e1],by simp[e2],fun q m=>?_⟩;rcases zC.mp m with e | m
  ·subst e;exact h1
  ·exact hh q m
def item_at {H:Hp} {it:Item} {v:V} (h:Is H (fb it) v):∃a pv lv,v=.ref a/\H a=some (.tup [pv,lv])/\Is H (dO dL it.1) pv/\Is H (dL it.2) lv:=by
 unfold fb Is at h;obtain⟨a,vs,rfl,ha,hl⟩:=h;unfold aB at hl;obtain⟨pv,r,rfl,h1,hl⟩:=hl;unfold aB at hl;obtain⟨lv,r,rfl,h2,hl⟩:=hl;unfold aB at hl;subst hl;exact⟨a,pv,lv,rfl,ha,h1,h2⟩
def Sr {H:Hp} {α:Type} {d:α->Dt} (f:JH d) {o:Option α} {v:V} (h:Is H (dO d o) v):gx v=o.isNone:=by
 rw[Nx h];cases o with
 | none=>rfl
 | some x=>exact f x
def pU:aD ["words","items"] ["words"] (ao sr):=dB
def BU:cY P w base 6 T.lT (fY K SM):=by
 nomatch T.lT,pU
 obtain⟨p,ws,rfl,hp,hl,sh,kk⟩:=h;have sl:=yB;refine⟨_,(ag (aI (ptr fo (eK aC T.bA (ah (pv 0) af)) ae)
  (aj (aq aQ))
  ax)
  (ag (bU 1 pU.nd (bM (eF T) hr T.dw (ah (nA (ts:=["word"]) (ys:=[]) (js:=[]) (te:=(fX pP [] E0 (bC (aV 0) dZ))) (aZ (dJ gL (pv 0) (eP ae) eQ)) (fU 0) bg (bM (BQ T) hr T.uC (ah (pv 0) af))) af)))
  (ag (aI (PW.pt (eO (bB (cI (pv 1))) (dC (cD (eK (jg rfl) T.CV (ah (nA (ts:=["item"]) (ys:=[]) (js:=[]) (te:=(Mq (fu (lU K) (aV 0) (tC (.int (0)))))) (aZ (pv 1)) (fU 0) bg (qU (cI (bV (pv 0) ae)))) af))))))
  (aj (aq aQ))
  ax)
  (aj (aq (bM (fF T) hr T.dw (ah (bj (ah (bM (cu T) hr T.cV (ah (fO (pv 0) ae) af)) (ah (bM (d7 T) hr T.fe (ah (fO (pv 0) ae) af)) (ah (pv 1) af)))) af))))))),?_⟩
 ac_rfl;exists p,_,rfl,.inl hp,?_;rw[za];left;refine wO (fun c=>?_) (fun c=>?_)
 ·left
  refine kk _ _ (au.refl _) ?_;have hw:=yd c;have e:kA ws=none:=by
   unfold kA;split
   ·simp at hw;omega
   ·rfl
  unfold SM;rw[e]
 ·have hw:¬(ws.length:Int)<3:=fun z=>c (ze z)
  obtain⟨a,b,i,r,rfl⟩:∃a b i r,ws=a::b::i::r:=by
   match ws,hw with
   | [],h=>exact absurd (by simp) h
   | [_],h=>exact absurd (by simp) h
   | [_,_],h=>exact absurd (by simp) h
   | a::b::i::r,_=>exact⟨a,b,i,r,rfl⟩
  have en:kA (a::b::i::r)=(match oU ((i::r).map ir) with | some l=>if l.all (fun it=>it.1.isNone)=true then none else(match fM a,cM b with | some x,some y=>some (x,y,l) | _,_=>none) | none=>none):=rfl;unfold SM at kk;rw[en] at kk;have sh':∀z∈i::r,z.length<=600:=fun z hz=>sh z (by simp at hz ⊢;rcases hz with h | h <;> simp[h]);have hl':(i::r).length<=1000000:=by simp at hl ⊢;omega
  exists p,_,rfl,hp,?_;rw[show kI (List.map V.str (a::b::i::r)) (some 2) none=(i::r).map V.str from(fQ _ 2).trans rfl];clear en;generalize i::r=its at kk sh' hl';intros p1 H1 s1 h1;exists⟨_,aH.of h1⟩,?_;refine cW (enc:=V.str) (ws:=its) (fun z=>dO fb (ir z)) (fun σ=>∃v,σ=[v]) nofun (aH.of h1) ⟨none,rfl⟩ ?_ ?_
  ·rintro z σ H4 R hz s4 ⟨_,rfl⟩ r
   change⟨sh' z hz,fun v H5 s5 h5=>r _ _ _ s5 (So h5) ⟨_,rfl⟩⟩
  ·intro D vs H4 s4 nD hD il
   refine⟨D,vs,rfl,aH.of hD,by rw[il.len,za];omega,fun H5 s5=>?_⟩;have il:=oM il;rw[ke il];have s05:=(s1.trans s4).trans s5;cases q:((its.map ir).map (dO fb)).any Dt.gx with
   | true=>
    left;refine kk _ _ s05 ?_;rw[ji Lh q]
   | false=>
    obtain⟨xs,e2,e3,e4⟩:=jh q;rw[e3] at il;rw[e2] at kk;have il5:=il.mono s5;have hD5:=s5 _ _ hD;obtain⟨ps,f1,f2,f3⟩:=xA il5;have pl:ps.length<=1000000:=by
     have:ps.length=xs.length:=by rw[<-f1,za]
     rw[this,e4,za];exact hl'
    exists⟨_,aH.of hD5⟩,?_;refine fk (enc:=fun q:Item×V=>q.2) (ws:=ps) (fun q=>.bl q.1.1.isNone) (fun σ=>∃v,σ=[v]) nofun (by rw[f2];exact aH.of hD5) ⟨none,rfl⟩ ?_ ?_
    ·rintro z σ H6 R hz s6 ⟨_,rfl⟩ r
     obtain⟨a6,pv,lv,ev,h6,h7,h8⟩:=item_at (f3 z hz);rw[ev];have h66:=s6 _ _ h6;left;refine r _ _ _ (au.refl _) ?_ ⟨_,rfl⟩;rw[<-Sr Rh h7];unfold Is;rfl
    ·intro D2 vs2 H6 s6 hD2 il2
     have e5:ps.map (fun q=>Dt.bl q.1.1.isNone)=(ps.map fun q=>q.1.1.isNone).map Dt.bl:=by rw[zA];rfl
     rw[e5] at il2;rw[iA il2] at hD2;refine⟨D2,_,rfl,aH.of hD2,?_⟩;have e6:(ps.map fun q=>q.1.1.isNone).all id=xs.all fun it=>it.1.isNone:=by rw[<-f1,List.all_map,List.all_map];rfl
     rw[e6];cases qa:xs.all fun it=>it.1.isNone with
     | true=>
      dsimp only at kk;rw[qa] at kk;change kk _ _ (s05.trans s6) rfl
     | false=>
      dsimp only at kk;rw[qa] at kk;have s06:=s05.trans s6;exists p,_,0,_,rfl,rfl,s06.seq hp,bx (j:=0) rfl,?_;refine⟨_,rfl,sh a (by simp),fun H7 s7=>?_⟩;exists p,_,1,_,rfl,rfl,(s06.trans s7).seq hp,bx (j:=1) rfl,?_;refine⟨_,rfl,sh b (by simp),fun H8 s8=>?_⟩;exists nY,?_;intros p9 H9 s9 h9;have s59:=((s6.trans s7).trans s8).trans s9;refine⟨p9,_,rfl,h9,(by show 3<=1000000;decide),fun Hx sx=>kk _ _ ((s05.trans s59).trans sx) ?_⟩;have s5x:=s59.trans sx;have h9x:=sx _ _ h9;clear h9
      revert h9x
      cases fM a <;> cases cM b <;> intro h9x <;> first | rfl | exact⟨p9,D,vs,rfl,h9x,s5x _ _ hD5,il5.mono s5x,s1.back nD⟩
def jn:aD ["words","times","ends"] ["words"] (ao qg):=dB
def Ao:cY P w base 5 T.j0 (fY K (qz jQ j7)):=by
 nomatch T.j0,jn
 obtain⟨p,ws,rfl,hp,hl,sh,kk⟩:=h;have sl:=yB;refine⟨_,(ag (aI (ptr fo (eK aC T.bA (ah (pv 0) af)) ae)
  (aj (aq aQ))
  ax)
  (ag (bU 1 jn.nd (bM (oJ T) hr T.jY (ah (fO (pv 0) ae) (ah (bY (v:=.int (2)) (by rfl) T.Ba ⟨_,rfl⟩) (ah (bY (v:=.int (9)) (by rfl) T.E3 ⟨_,rfl⟩) af)))))
  (ag (bU 2 jn.nd (bM (eF T) hr T.dw (ah (nA (ts:=["word"]) (ys:=[]) (js:=[]) (te:=(fX vm [] E0 (bC (aV 0) dZ))) (aZ (dJ gL (pv 0) (eP ae) eQ)) (fU 0) bg (bM (Gw T) hr T.Ac (ah (pv 0) af))) af)))
  (ag (aI (bB (cI (pv 2)))
  (aj (aq aQ))
  ax)
  (aj (aq (bM (fF T) hr T.dw (ah (bj (ah (bM (cu T) hr T.cV (ah (fO (pv 0) ae) af)) (ah (bM (cu T) hr T.cV (ah (fO (pv 0) ae) af)) (ah (pv 1) (ah (nJ cP T.gP (ah (pv 2) af)) af))))) af)))))))),?_⟩
 ac_rfl;exists p,_,rfl,.inl hp,?_;rw[za];left;refine wO (fun c=>?_) (fun c=>?_)
 ·left
  refine kk _ _ (au.refl _) ?_;have hw:=yd c;have e:j7 ws=none:=by
   unfold j7;split
   ·simp at hw;omega
   ·rfl
  unfold qz;rw[e];exact d8
 ·have hw:¬(ws.length:Int)<3:=fun z=>c (ze z)
  obtain⟨a,b,c',r,rfl⟩:∃a b i r,ws=a::b::i::r:=by
   match ws,hw with
   | [],h=>exact absurd (by simp) h
   | [_],h=>exact absurd (by simp) h
   | [_,_],h=>exact absurd (by simp) h
   | a::b::i::r,_=>exact⟨a,b,i,r,rfl⟩
  have en:j7 (a::b::c'::r)=(match oU (r.map y7) with | some l=>(match fM a,fM b,mV c' 2 9 with | some x,some y,some z=>some ⟨x,y,z,l⟩ | _,_,_=>none) | none=>none):=rfl;unfold qz at kk;rw[en] at kk;have sh':∀z∈r,z.length<=600:=fun z hz=>sh z (by simp[hz]);have hl':r.length<=1000000:=by simp at hl ⊢;omega
  exists p,_,2,_,rfl,rfl,hp,bx (j:=2) rfl,?_;refine⟨_,_,_,rfl,sh c' (by simp),fun H0 s0=>?_⟩;exists p,_,rfl,s0.seq hp,?_;rw[show kI (List.map V.str (a::b::c'::r)) (some 3) none=r.map V.str from(fQ _ 3).trans rfl];intros p1 H1 s1 h1;exists⟨_,aH.of h1⟩,?_;refine fk (enc:=V.str) (ws:=r) (fun z=>dO nH (y7 z)) (fun σ=>∃v,σ=[v]) nofun (aH.of h1) ⟨none,rfl⟩ ?_ ?_
  ·rintro z σ H4 R hz s4 ⟨_,rfl⟩ r
   change⟨sh' z hz,fun v H5 s5 h5=>r _ _ _ s5 h5 ⟨_,rfl⟩⟩
  ·intro D vs H4 s4 hD il
   refine⟨D,vs,rfl,aH.of hD,by rw[il.len,za];omega,fun H5 s5=>?_⟩;have il:=oM il;rw[ke il];have s05:=((s0.trans s1).trans s4).trans s5;cases q:((r.map y7).map (dO nH)).any Dt.gx with
   | true=>
    left;refine kk _ _ s05 ?_;rw[ji NJ q];exact d8
   | false=>
    obtain⟨xs,e2,e3,e4⟩:=jh q;rw[e3] at il;rw[e2] at kk;have il5:=il.mono s5;have hD5:=s5 _ _ hD;exists p,_,0,_,rfl,rfl,s05.seq hp,bx (j:=0) rfl,?_;refine⟨_,rfl,sh a (by simp),fun H6 s6=>?_⟩;exists p,_,1,_,rfl,rfl,(s05.trans s6).seq hp,bx (j:=1) rfl,?_;refine⟨_,rfl,sh b (by simp),fun H7 s7=>?_⟩;left;refine⟨D,_,rfl,.inl ⟨aH.of (s7 _ _ (s6 _ _ hD5)),?_⟩⟩;intros p8 H8 s8 h8;exists by show 4<=sizeLine;omega,?_
    intros p9 H9 s9 h9;have s59:=((s6.trans s7).trans s8).trans s9;refine⟨p9,_,rfl,h9,(by show 4<=1000000;decide),fun Hx sx=>kk _ _ ((s05.trans s59).trans sx) ?_⟩;rw[EW];refine Fc (ds:=[dO .int (fM a),dO .int (fM b),dO .int (mV c' 2 9),.tup (xs.map nH)]) (sx _ _ h9) (aN (AA _) (aN (AA _) (aN (AA _) (oP (cE (sx _ _ (s9 _ _ h8)) (il5.mono (s59.trans sx))))))) ?_ ?_
    ·cases fM a <;> cases fM b <;> cases mV c' 2 9 <;> first | (intro _;rfl) | (intro q;exact absurd q (by simp[dO,dL,Dt.gx]))
    ·cases fM a <;> cases fM b <;> cases mV c' 2 9 <;> first | (intro _;rfl) | (intro q;exact absurd q (by simp[dO,dL,Dt.gx]))
def lM:aD ["words","stops","coda"] ["words"] (ao vB):=dB
def Ek:cY P w base 3 T.oY (fY K (qz jH vL)):=by
 nomatch T.oY,lM
 obtain⟨p,ws,rfl,hp,hl,sh,kk⟩:=h;have sl:=yB;refine⟨_,(ag (aI (ptr lg (eK aC T.bA (ah (pv 0) af)) ae)
  (aj (aq aQ))
  ax)
  (ag (bU 1 lM.nd (bM (eF T) hr T.dw (ah (nA (ts:=["word"]) (ys:=[]) (js:=[]) (te:=(fX kr [] E0 (bC (aV 0) dZ))) (aZ (dJ gL (pv 0) eQ (eP ae))) (fU 0) bg (bM (cu T) hr T.cV (ah (pv 0) af))) af)))
  (ag (bU 2 lM.nd (bM (cu T) hr T.cV (ah (fO (pv 0) ae) af)))
  (ag (aI (PW.pt (eO (bB (cI (pv 1))) (dC (PW.pt (cZ (bB (cI (pv 2))) (cO (ptr lg (fO (pv 0) ae) aK)))))))
  (aj (aq aQ))
  ax)
  (aj (aq (bj (ah (fO (pv 1) ae) (ah (fO (pv 1) ae) (ah (fO (pv 1) ae) (ah (pv 2) af))))))))))),?_⟩
 ac_rfl;exists p,_,rfl,.inl hp,?_;rw[za];left
 by_cases hw:ws.length=4
 ·obtain⟨a,b,c,d,rfl⟩:∃a b c d,ws=[a,b,c,d]:=by
   match ws,hw with
   | [a,b,c,d],_=>exact⟨a,b,c,d,rfl⟩
  have en:vL [a,b,c,d]=(match fM a,fM b,fM c with | some x,some y,some z=>(match fM d with | some n=>some ⟨x,y,z,some n⟩ | none=>if d ="end" then some ⟨x,y,z,none⟩ else none) | _,_,_=>none):=rfl;unfold qz at kk;rw[en] at kk;refine cq rfl ?_;exists p,_,rfl,hp,?_;rw[show kI (List.map V.str [a,b,c,d]) none (some 3)=[a,b,c].map V.str from(EX _ 3).trans rfl];intros p1 H1 s1 h1;exists⟨_,aH.of h1⟩,?_;refine fk (enc:=V.str) (ws:=[a,b,c]) (fun z=>dO .int (fM z)) (fun σ=>∃v,σ=[v]) (by show 3<=sizeLine;omega) (aH.of h1) ⟨none,rfl⟩ ?_ ?_
  ·rintro z σ H4 R hz s4 ⟨_,rfl⟩ r
   change⟨sh z (by simp at hz ⊢;rcases hz with h | h | h <;> simp[h]),fun H5 s5=>r _ _ _ s5 (AA _) ⟨_,rfl⟩⟩
  ·intro D vs H4 s4 hD il
   refine⟨D,vs,rfl,aH.of hD,by rw[il.len];show 3<=1000000;decide,fun H5 s5=>?_⟩;have il:=oM il;rw[ke il];have s05:=(s1.trans s4).trans s5;cases q:(([a,b,c].map fM).map (dO Dt.int)).any Dt.gx with
   | true=>
    exists p,_,3,_,rfl,rfl,s05.seq hp,rfl,?_;refine⟨_,rfl,sh d (by simp),fun H6 s6=>?_⟩;left;refine kk _ _ (s05.trans s6) ?_;have q':([fM a,fM b,fM c].map (dO Dt.int)).any Dt.gx=true:=q;clear q en kk
    revert q'
    cases fM a <;> cases fM b <;> cases fM c <;> intro q' <;> first | exact d8 | exact absurd q' (by simp[dO,Dt.gx])
   | false=>
    obtain⟨x,y,z,ea,eb,ec⟩:∃x y z,fM a=some x/\fM b=some y/\fM c=some z:=by
     have q':([fM a,fM b,fM c].map (dO Dt.int)).any Dt.gx=false:=q;clear q en kk il
     revert q'
     cases fM a <;> cases fM b <;> cases fM c <;> intro q' <;> first | exact⟨_,_,_,rfl,rfl,rfl⟩ | exact absurd q' (by simp[dO,Dt.gx])
    rw[ea,eb,ec] at kk;have il':aB H4 ([x,y,z].map Dt.int) vs:=by
     have:([a,b,c].map fM).map (dO Dt.int)=[x,y,z].map Dt.int:=by simp[ea,eb,ec,dO]
     rw[this] at il;exact il
    have ev:=eR il';subst ev;have hD5:=s5 _ _ hD;exists p,_,3,_,rfl,rfl,s05.seq hp,rfl,?_;refine⟨_,rfl,sh d (by simp),fun H6 s6=>?_⟩;have hD6:=s6 _ _ hD5;have s06:=s05.trans s6;have fin:∀(o:Option Int) (v:V),Is H6 (dO .int o) v->fM d=o->(o=none->d ="end")->∀p7 H7,au H6 H7->H7 p7=some (.tup [.int x,.int y,.int z,v])->Q (.ref p7) H7:=fun o v iv eo hend p7 H7 s7 h7=>by
     refine kk _ _ (s06.trans s7) ?_;rw[eo];cases o with
     | none=>
      simp only[hend rfl,if_pos];exact cE h7 (aN cL (aN cL (aN cL (oP (iv.mono s7)))))
     | some n=>exact cE h7 (aN cL (aN cL (aN cL (oP (iv.mono s7)))))
    cases ed:fM d with
    | none=>
     exists p,_,3,_,rfl,rfl,s06.seq hp,rfl,?_;left
     by_cases he:d ="end"
     ·refine cq (by rw[he];rfl) ?_
      exists D,_,0,_,rfl,rfl,aH.of hD6,rfl,?_;exists D,_,1,_,rfl,rfl,aH.of hD6,rfl,?_;exists D,_,2,_,rfl,rfl,aH.of hD6,rfl,?_;left;refine⟨by show 4<=sizeLine;omega,laid ?_⟩;exact fin none .bI d8 ed fun _=>he
     ·refine b9 (by rw[zd fun z=>he (V.str.inj z)];rfl) ?_
      left;refine kk _ _ s06 ?_;rw[ed];simp only[if_neg he];exact d8
    | some n=>
     exists D,_,0,_,rfl,rfl,aH.of hD6,rfl,?_;exists D,_,1,_,rfl,rfl,aH.of hD6,rfl,?_;exists D,_,2,_,rfl,rfl,aH.of hD6,rfl,?_;left;refine⟨by show 4<=sizeLine;omega,laid ?_⟩;exact fin (some n) (.int n) cL ed fun z=>nomatch z
 ·refine b9 (by rw[zd fun z=>hw (by have:=V.int.inj z;omega)];rfl) ?_
  left;refine kk _ _ (au.refl _) ?_;have e:vL ws=none:=by
   unfold vL;split
   ·exact absurd rfl hw
   ·rfl
  unfold qz;rw[e];exact d8
structure Dk (P:Program) (w:World) (K:yA) {mg:Str->Option Value} (T:Txt K mg):Prop where
 JY:KD P w K T.jf [("player",.ref T.gW),("instrument",.ref T.eT),("staff",.ref T.iZ),("bar",.ref T.mn),("upbeat",.ref T.gS),("holds",.ref T.ki),("notes",.ref T.i4),("repeat",.ref T.gU),("jump",.ref T.kg)]
 Rj:KD P w K T.sN [("player",.ref T.gr),("instrument",.ref T.d9),("staff",.ref T.gR),("bar",.ref T.km),("upbeat",.ref T.gn),("holds",.ref T.i7),("notes",.ref T.gX),("repeat",.ref T.gq),("jump",.ref T.i6)]
inductive LZ (K:yA) {mg:Str->Option Value} (T:Txt K mg):Addr->Sp->Prop where
 | bE:LZ K T T.gW (fY K (qz .str (one cM)))
 | cN:LZ K T T.eT (fY K (qz eM lV))
 | cw:LZ K T T.iZ (fY K (qz gF qS))
 | bar:LZ K T T.mn (fY K (qz lD BP))
 | aG:LZ K T T.gS (fY K (qz dL (one lr)))
 | holds:LZ K T T.ki (fY K (qz vW sO))
 | aF:LZ K T T.i4 (fY K SM)
 | rep:LZ K T T.gU (fY K (qz jQ j7))
 | ck:LZ K T T.kg (fY K (qz jH vL))
noncomputable def Ad {K:yA} {mg:Str->Option Value} (T:Txt K mg):List (Str×V):=[("player",V.ref T.gW),("instrument",.ref T.eT),("staff",.ref T.iZ),("bar",.ref T.mn),("upbeat",.ref T.gS),("holds",.ref T.ki),("notes",.ref T.i4),("repeat",.ref T.gU),("jump",.ref T.kg)]
def MP (K:yA) {mg:Str->Option Value} (T:Txt K mg) (x:Str):(ud (Ad T) x=none/\∀ws,o6 (x::ws)=none)\/∃f D,ud (Ad T) x=some (.ref f)/\LZ K T f (fY K D)/\∀H0 H v ws,D H0 H v ws->gK H0 H v (o6 (x::ws)):=by
 by_cases e0:x ="player"
 ·subst e0
  refine .inr ⟨_,_,rfl,.bE,fun H0 H v ws h=>?_⟩;exact nN (g:=Told.bE) h fun x z=>by unfold Is at z;exact z
 by_cases e1:x ="instrument"
 ·subst e1
  refine .inr ⟨_,_,rfl,.cN,fun H0 H v ws h=>?_⟩;exact nN (g:=fun(x:Str×(Int×Int)×(Int×Int))=>Told.cN x.1 x.2.1 x.2.2) h fun x z=>(show Is H (eM x) v from z)
 by_cases e2:x ="staff"
 ·subst e2
  refine .inr ⟨_,_,rfl,.cw,fun H0 H v ws h=>?_⟩;exact nN (g:=fun(x:Str×List Str)=>Told.cw x.1 x.2) h fun x z=>(show Is H (gF x) v from z)
 by_cases e3:x ="bar"
 ·subst e3
  refine .inr ⟨_,_,rfl,.bar,fun H0 H v ws h=>?_⟩;exact nN (g:=Told.bar) h fun x z=>z
 by_cases e4:x ="upbeat"
 ·subst e4
  refine .inr ⟨_,_,rfl,.aG,fun H0 H v ws h=>?_⟩;exact nN (g:=Told.aG) h fun x z=>z
 by_cases e5:x ="holds"
 ·subst e5
  refine .inr ⟨_,_,rfl,.holds,fun H0 H v ws h=>?_⟩;exact nN (g:=fun(x:Str×Int×Str)=>Told.holds x.1 x.2.1 x.2.2) h fun x z=>(show Is H (vW x) v from z)
 by_cases e6:x ="notes"
 ·subst e6
  refine .inr ⟨_,_,rfl,.aF,fun H0 H v ws h=>?_⟩;have e:o6 ("notes":: ws)=(kA ws).map fun x=>Told.aF x.1 x.2.1 x.2.2:=rfl;rw[e];unfold SM at h;cases q:kA ws with
  | none=>rw[q] at h;exact h
  | some y=>rw[q] at h;exact h
 by_cases e7:x ="repeat"
 ·subst e7
  refine .inr ⟨_,_,rfl,.rep,fun H0 H v ws h=>?_⟩;exact nN (g:=Told.rep) h fun x z=>z
 by_cases e8:x ="jump"
 ·subst e8
  refine .inr ⟨_,_,rfl,.ck,fun H0 H v ws h=>?_⟩;exact nN (g:=Told.ck) h fun x z=>z
 refine .inl ⟨?_,fun ws=>?_⟩
 ·have f0:∀(k:Str) (v:V) (r:List (Str×V)),x≠k->ud ((k,v)::r) x=ud r x:=fun k v r h=>by
   unfold ud;rw[List.find?_cons];rw[show decide ((k,v).1=x)=false from zd fun z=>h z.symm]
  unfold Ad;rw[f0 _ _ _ e0,f0 _ _ _ e1,f0 _ _ _ e2,f0 _ _ _ e3,f0 _ _ _ e4,f0 _ _ _ e5,f0 _ _ _ e6,f0 _ _ _ e7,f0 _ _ _ e8];rfl
 ·unfold o6
  dsimp only;rw[if_neg e0,if_neg e1,if_neg e2,if_neg e3,if_neg e4,if_neg e5,if_neg e6,if_neg e7,if_neg e8]
def uj {K:yA} {mg:Str->Option Value} (T:Txt K mg):Sp:=fun vs H Q _=>∃x:Str,vs=[.str x]/\Q (.bl (ud (Ad T) x).isSome) H
def uz:aD ["word"] ["word"] (ao mM):=dB
def uG (B:Dk P w K T):cY P w base 1 T.kD (uj T):=by
 nomatch T.kD,uz
 obtain⟨x,rfl,kk⟩:=h;refine⟨_,(aj (aq (qU (OU (pv 0) (bY (v:=.ref T.jf) (by rfl) T.Dl rfl))))),?_⟩;ac_rfl;exists T.jf,Ad T,x,rfl,B.JY,rfl,?_;left;show Q (V.bl (false ^^ (ud (Ad T) x).isSome)) H;rw[Bool.false_xor];exact kk
def vq:aD ["words","reader"] ["words"] (ao qL):=dB
def Gu (B:Dk P w K T):cY P w base 7 T.Aa (FU K):=by
 refine T.Aa.F.Ta vq fun cdv A' outer s H vs Q E hr h=>?_
 ·obtain⟨p,x,ws,rfl,hp,hl,sh,kk⟩:=h
  have sl:=yB;have hTbV:∀f sp,LZ K T f sp->RA (kG HU P w K mg base ["words","reader"] "read_row" (ao qL) T.Be cdv A' outer s H E).IG HU 6 f sp:=by
   intro f sp h;cases h with
   | bE=>exact⟨_,_,L2.dP.mono (Ap T) ∅,T.j6.F.kp,T.j6.b⟩
   | cN=>exact⟨_,_,L2.dP.mono (qX T) ∅,T.fK.F.kp,T.fK.b⟩
   | cw=>exact⟨_,_,L2.dP.mono (BR T) ∅,T.lS.F.kp,T.lS.b⟩
   | bar=>exact⟨_,_,L2.dP.mono (Gx T) ∅,T.sM.F.kp,T.sM.b⟩
   | aG=>exact⟨_,_,L2.dP.mono (An T) ∅,T.jZ.F.kp,T.jZ.b⟩
   | holds=>exact⟨_,_,L2.dP.mono (El T) ∅,T.oZ.F.kp,T.oZ.b⟩
   | aF=>exact⟨_,_,L2.dP.mono (BU T) ∅,T.lT.F.kp,T.lT.b⟩
   | rep=>exact⟨_,_,L2.dP.mono (Ao T) ∅,T.j0.F.kp,T.j0.b⟩
   | ck=>exact⟨_,_,L2.dP.mono (Ek T) ∅,T.oY.F.kp,T.oY.b⟩
  refine⟨_,(ag (aI (eJ (cD (bM (uG T B) hr T.kD (ah (fO (pv 0) ae) af))))
   (aj (aq aQ))
   ax)
   (ag (bU 1 vq.nd (Gk (bY (v:=.ref T.jf) (by rfl) T.Dl rfl) (fO (pv 0) ae) (fun _ _=>rfl)))
   (aj (aq (Gn (LZ K T) hTbV (hr.mono ∅) (pv 1) J1 (ah (dJ gL (pv 0) (eP ae) eQ) af)))))),?_⟩
  ac_rfl;exists p,_,0,_,rfl,rfl,hp,bx (j:=0) rfl,?_;refine⟨x,rfl,?_⟩;rcases MP K T x with⟨ev,er⟩ | ⟨f,D,ev,htb,hd⟩
  ·rw[ev]
   left;refine kk _ _ (au.refl _) ?_;rw[er];rfl
  ·rw[ev]
   exists p,_,0,_,rfl,rfl,hp,bx (j:=0) rfl,?_;refine⟨T.jf,Ad T,x,_,rfl,B.JY,rfl,ev,?_⟩;exists f,_,rfl,htb,?_;exists p,_,rfl,hp,?_;rw[show kI (List.map V.str (x::ws)) (some 1) none=ws.map V.str from(fQ _ 1).trans rfl];intros p1 H1 s1 h1;refine⟨p1,ws,rfl,aH.of h1,nofun,fun y hy=>sh y (by simp[hy]),fun v H2 s2 h2=>kk _ _ (s1.trans s2) ((hd _ _ _ _ h2).back s1)⟩
def mK:aD ["repeats","bar","repeat"] ["repeats","bar"] (ao oj):=dB
def mZ:cY P w base 1 T.iP (wa K):=by
 nomatch T.iP,mK
 obtain⟨p,rs,b,rfl,⟨vs,hp,il⟩,kk⟩:=h;unfold dR at kk;refine⟨_,(ag (cy PassesOwn.never rfl (aZ (pv 0)) (jP 2 mK.nd)
  (aj (aI (PW.pt (cZ (ptr iI (bV (pv 2) ae) (pv 1)) (cO (ptr iI (pv 1) (bV (pv 2) ae)))))
   (aj (aq (pv 2)))
   ax)))
  (aj (aq aQ))),?_⟩
 ac_rfl;exists⟨_,hp⟩,?_;refine eD (K:=K) (a:=p) (xs:=vs) (fun i σ H'=>H'=H/\(rs.take i).find? (fun r=>decide (r.first<=b)&&decide (b<=r.last))=none/\∃v,σ=[some (.ref p),some (.int b),v]) ⟨rfl,rfl,none,rfl⟩ (fun i σ H' _ h=>by rw[h.1];exact hp) ?_ ?_
 ·intro i x σ H' hx hh
  refine cT fun N kN0 kR0 _ _=>?_;obtain⟨rfl,hn,v,rfl⟩:=hh;obtain⟨r,hr',hi⟩:=dY il hx;obtain⟨a,e,rfl,ha,he⟩:=gd hi;left
  by_cases c1:r.first<=b
  ·refine b9 (ze c1) ?_
   left
   by_cases c2:b<=r.last
   ·refine b9 (ze c2) ?_
    left;refine kk _ ?_;rw[Kb hr' hn (by rw[ze c1,ze c2];rfl)];exact hi
   ·refine cq (zd c2) ?_
    change⟨C8 hr' hn (by rw[zd c2,Bool.and_false]),_,rfl⟩
  ·refine cq (zd c1) ?_
   change⟨C8 hr' hn (by rw[zd c1,Bool.false_and]),_,rfl⟩
 ·rintro σ H' ⟨rfl,hn,v,rfl⟩
  rw[aT il,zM] at hn;left;refine kk _ ?_;rw[hn];exact d8
def rW:aD ["repeats","bar","repeat"] ["repeats","bar"] (ao vE):=dB
def Em:cY P w base 2 T.uN (DN K):=by
 nomatch T.uN,rW
 obtain⟨p,rs,b,rfl,hp,kk⟩:=h;unfold hJ at kk;refine⟨_,(ag (bU 2 rW.nd (bM (mZ T) hr T.iP (ah (pv 0) (ah (pv 1) af))))
  (aj (aq (M4 (qU (cI (pv 2))) (lX (dS dj (pv 1) (bV (pv 2) ae) (iw _))))))),?_⟩
 ac_rfl;exists p,rs,b,rfl,hp,fun v iv=>?_;cases q:dR rs b with
 | none=>
  rw[q] at iv kk;unfold dO Is at iv;subst iv;change kk
 | some r=>
  rw[q] at iv kk;obtain⟨a,e,rfl,ha,he⟩:=gd iv;left;have e1:decide (V.int b=V.int r.last)=decide (b=r.last):=by simp
  show Q (.bl (decide (V.int b=V.int r.last))) H;rw[e1];exact kk
def rX:aD ["repeats","bar","repeat"] ["repeats","bar"] (ao vF):=dB
def sX:cY P w base 2 T.pk (DO K):=by
 nomatch T.pk,rX
 obtain⟨p,rs,b,rfl,hp,kk⟩:=h;unfold eC at kk;refine⟨_,(ag (bU 2 rX.nd (bM (mZ T) hr T.iP (ah (pv 0) (ah (pv 1) af))))
  (aj (aq (M4 (qU (cI (pv 2))) (lX (dS dj (pv 1) (bV (pv 2) ae) (iw _))))))),?_⟩
 ac_rfl;exists p,rs,b,rfl,hp,fun v iv=>?_;cases q:dR rs b with
 | none=>
  rw[q] at iv kk;unfold dO Is at iv;subst iv;change kk
 | some r=>
  rw[q] at iv kk;obtain⟨a,e,rfl,ha,he⟩:=gd iv;left;have e1:decide (V.int b=V.int r.first)=decide (b=r.first):=by simp
  show Q (.bl (decide (V.int b=V.int r.first))) H;rw[e1];exact kk
def NN (us:List V) (h:us≠[]):¬(HT.fC us.length 0 (some 1)=0/\HT.fC us.length us.length none=us.length):=by
 rintro⟨h1,_⟩;have hp:0<us.length:=yq.mpr h;have e:HT.fC us.length 0 (some ((1:Nat):Int))=min 1 us.length:=by unfold HT.fC;simp
 have e':HT.fC us.length 0 (some (1:Int))=min 1 us.length:=e;rw[e'] at h1;omega
def KJ {K:yA} {H:Hp} {e:Addr} {us:List V} {Q:VK} (hu:H e=some (.tup us)) (k:∀q H1,au H H1->H1 q=some (.tup (us.drop 1))->Q (.ref q) H1):PR K (.ref e) (some 1) none H Q:=by
 by_cases h:us=[]
 ·subst h
  exact .inr ⟨e,[],rfl,dA.of hu,⟨rfl,rfl⟩,k e H (au.refl H) hu⟩
 ·refine .inl ⟨e,us,rfl,dA.of hu,NN us h,?_⟩
  rw[show kI us (some 1) none=us.drop 1 from fQ us 1];exact laid k
def qJ:aD ["repeat","ends","behind"] ["repeat"] (ao CL):=dB
def IE:cY P w base 1 T.EE Il:=by
 nomatch T.EE,qJ
 obtain⟨v,r,rfl,iv,hl,kk⟩:=h;have sl:=yB;obtain⟨a,e,rfl,ha,he⟩:=gd iv;unfold Is at he;obtain⟨e',us,ee,hu,ilu⟩:=he;cases ee;refine⟨_,(ag (bU 1 qJ.nd (bV (pv 0) ae))
  (ag (bU 2 qJ.nd (ar gO (nA (ts:=["end"]) (ys:=[]) (js:=[]) (te:=(fu (lU K) (aV 0) (tC (.int (0))))) (kB (dJ Oy (pv 1) (eP ae) eQ)) (fU 0) bg (bV (pv 0) ae)) (bq (ah (ar aY (bV (pv 0) ae) ae) af))))
  (aj (aq (nA (ts:=["end","after"]) (ys:=[]) (js:=[]) (g:=(EB K 2 (fH (bO 0) (fH (bO 1) EC)))) (te:=(DD (bC (fu (lU K) (aV 0) (tC (.int (0)))) (bC (fu (wC fun i j=>.int (i-j)) (aV 1) (tC (.int (1)))) (bC (fu (lU K) (aV 0) (tC (.int (1)))) dZ))))) (M1 (by rfl) T.Nh (ah (pv 1) (ah (pv 2) af))) (d4 (n:=2) rfl (aL (fU 0) (aL (fU 1) df))) bg (bj (ah (bV (pv 0) ae) (ah (ar gA (pv 1) ae) (ah (bV (pv 0) ae) af))))))))),?_⟩
 ac_rfl;left;have main:∀(q:Addr) (H1:Hp),au H H1->H1 q=some (.tup (us.drop 1))->∀(R:VK),(∀D H2,au H1 H2->H2 D=some (.lst ((r.ends.drop 1).map fun x=>V.int x.1))->R (.ref D) H2)->
   dz [none] (bO 0) uh (fu (lU K) (aV 0) (tC (.int 0))) R (Qb K q) H1:=by
  intro q H1 s1 h1 R hR;have il1:aB H ((r.ends.drop 1).map nH) (us.drop 1):=by
   cases re:r.ends with
   | nil=>
    rw[re] at ilu;unfold aB at ilu;subst ilu;unfold aB;rfl
   | cons x xs=>
    rw[re,zh] at ilu;unfold aB at ilu;obtain⟨u,ur,rfl,_,h2⟩:=ilu;exact h2
  obtain⟨ps,f1,f2,f3⟩:=xA il1;have pl:ps.length<=1000000:=by
   have:ps.length=(r.ends.drop 1).length:=by rw[<-f1,za]
   rw[this,List.length_drop];omega
  refine gG (enc:=fun z:Sc.End×V=>z.2) (ws:=ps) (fun z=>.int z.1.1) (fun σ=>∃v,σ=[v]) nofun (by rw[f2];exact h1) ⟨none,rfl⟩ ?_ ?_
  ·rintro z σ H6 R' hz s6 ⟨_,rfl⟩ r'
   obtain⟨a6,q6,ev,h6,h7⟩:=uV (f3 z hz);rw[ev];have h66:=s6 _ _ (s1 _ _ h6);change r' _ _ _ (au.refl _) cL ⟨_,rfl⟩
  ·intro D vs H6 s6 hD il
   have e5:ps.map (fun z=>Dt.int z.1.1)=((r.ends.drop 1).map (·.1)).map Dt.int:=by rw[<-f1,zA,zA];rfl
   rw[e5] at il;rw[eR il,zA] at hD;exact hR D H6 s6 hD
 refine KJ hu fun q H1 s1 h1=>⟨q,rfl,⟨_,dA.of h1⟩,main q H1 s1 h1 _ fun D H2 s2 h2=>?_⟩
 have ha2:=s2 _ _ (s1 _ _ ha);exists by show 1<=sizeLine;omega,?_
 intros p3 H3 s3 h3;refine⟨D,p3,_,_,rfl,rfl,aH.of (s3 _ _ h2),aH.of h3,by rw[za,List.length_drop];show _+1<=_;omega,?_⟩;intros p4 H4 s4 h4;have s04:=(s1.trans s2).trans (s3.trans s4);have hu4:=s04 _ _ hu;have eb:(List.map (fun x=>V.int x.1) (r.ends.drop 1)++[V.int (r.last+1)])=((r.ends.drop 1).map (·.1)++[r.last+1]).map V.int:=by rw[zj,zA];rfl
 rw[eb] at h4;left;have ilu4:=ilu.mono s04;have ul:=aT ilu;refine⟨true,false,e,p4,us,_,rfl,dA.of hu4,aH.of h4,?_⟩;generalize hbs:(r.ends.drop 1).map (·.1)++[r.last+1]=bs at h4;have zl:(r.ends.zip bs).length=min r.ends.length bs.length:=List.length_zip;refine A2 (ws:=r.ends.zip bs) (fun z x H'=>∃p u,x=.ref p/\H' p=some (.tup [u,.int z.2])/\Is H' (nH z.1) u) (fun z=>Lw (z.1.1,z.2-1,z.1.2)) (fun σ=>∃u v,σ=[u,v]) nofun ⟨none,none,rfl⟩ ?_ ?_ ?_ ?_ ?_
 ·intro i H5 hi s5
  have i1:i<us.length:=nofun
  have i2:i<(bs.map V.int).length:=by rw[za];omega
  exact⟨us,bs.map V.int,us[i],(bs.map V.int)[i],dA.of (s5 _ _ hu4),aH.of (s5 _ _ h4),zb i1,zb i2⟩
 ·intro H5 s5
  refine⟨us,bs.map V.int,dA.of (s5 _ _ hu4),aH.of (s5 _ _ h4),?_⟩;rw[za];rcases Nat.le_total r.ends.length bs.length with h | h
  ·exact Or.inl nofun
  ·right;omega
 ·rintro i x H5 H6 hi s5 ⟨p,u,v,hp,rfl,rfl,hu',hv'⟩
  have i1:i<r.ends.length:=nofun
  have i2:i<bs.length:=nofun
  have gu:=hu' us (dA.of (s5 _ _ hu4));have gv:=hv' (bs.map V.int) (aH.of (s5 _ _ h4));rw[zJ,zb i2] at gv;cases gv;obtain⟨x0,hx0,ix0⟩:=dY (ilu4.mono s5) gu;rw[zb i1] at hx0;cases hx0;refine⟨aS hp,p,u,rfl,?_,?_⟩
  ·rw[ay,List.getElem_zip]
  ·rw[List.getElem_zip];exact ix0.mono (aS hp)
 ·rintro z x σ H5 R hz s5 ⟨p,u,rfl,hp,iu⟩ ⟨_,_,rfl⟩ rr
  obtain⟨a6,q6,rfl,h6,h7⟩:=uV iu;refine⟨p,_,rfl,dA.of hp,rfl,?_⟩;refine⟨_,_,rfl,_,_,rfl,rfl,?_⟩;left;refine⟨nY,laid fun p7 H7 s7 h7'=>rr _ _ _ s7 ?_ ⟨_,_,rfl⟩⟩;exact cE h7' (aN cL (aN cL (oP (cE (s7 _ _ h7) tI))))
 ·intro D5 vs5 H5 s5 hD5 il5
  refine kk _ _ _ (s04.trans s5) hD5 ?_;have ee:(jG r).map Lw=(r.ends.zip bs).map fun z=>Lw (z.1.1,z.2-1,z.1.2):=by
   unfold jG;rw[hbs,zA];rfl
  rw[ee];exact il5
def Ql {H:Hp} {e:Int×Int×List Int} {v:V} (h:Is H (Lw e) v):∃a q,v=.ref a/\H a=some (.tup [.int e.1,.int e.2.1,.ref q])/\H q=some (.tup (e.2.2.map V.int)):=by
 unfold Lw Is at h;obtain⟨a,vs,rfl,ha,hl⟩:=h;unfold aB at hl;obtain⟨v1,r1,rfl,h1,hl⟩:=hl;unfold aB at hl;obtain⟨v2,r2,rfl,h2,hl⟩:=hl;unfold aB at hl;obtain⟨v3,r3,rfl,h3,hl⟩:=hl;unfold aB at hl;subst hl;unfold Is at h1 h2;subst h1 h2;unfold vV Is at h3;obtain⟨q,us,rfl,hq,hle⟩:=h3;rw[eR hle] at hq;exact⟨a,q,rfl,ha,hq⟩
noncomputable def AJ (r:Rep) (b:Int) (e:Int×Int×List Int):Bool:=decide (e.1<=b)&&decide (b<=e.2.1)&&!decide (r.times∈e.2.2)
def Le (rs:List Rep) (b:Int):md rs b=rs.all fun r=>(jG r).all fun e=>!AJ r b e:=rfl
theorem C7:∀ns:List Int,(ns.map V.int).all nc=true
 | []=>rfl
 | n::ns=>by rw[zh,List.all_cons,C7 ns];rfl
def ig:aD ["repeats","bar","repeat","end"] ["repeats","bar"] (ao ox):=dB
def m7:cY P w base 2 T.iX (wg K):=by
 nomatch T.iX,ig
 obtain⟨p,rs,b,rfl,⟨vs,hp,il⟩,hl,kk⟩:=h;rw[Le] at kk;refine⟨_,(ag (cy PassesOwn.never rfl (aZ (pv 0)) (jP 2 ig.nd)
  (aj (cy PassesOwn.never rfl (aZ (bM (IE T) hr T.EE (ah (pv 2) af))) (jP 3 ig.nd)
   (aj (aI (PW.pt (cZ (ptr iI (bV (pv 3) ae) (pv 1)) (cZ (ptr iI (pv 1) (bV (pv 3) ae)) (cO (iR d5 (bV (pv 2) ae) (bV (pv 3) ae) (by with_unfolding_all rfl))))))
    (aj (aq mW))
    ax)))))
  (aj (aq mW))),?_⟩
 ac_rfl;exists⟨_,hp⟩,?_;refine eD (K:=K) (a:=p) (xs:=vs) (fun i σ H'=>au H H'/\(rs.take i).all (fun r=>(jG r).all fun e=>!AJ r b e)=true/\∃v u,σ=[some (.ref p),some (.int b),v,u]) ⟨au.refl H,rfl,none,none,rfl⟩ (fun i σ H' _ h=>h.1.seq hp) ?_ ?_
 ·intro i x σ H' hx hh
  refine cT fun N kN0 kR0 _ _=>?_;obtain⟨s1,hn,v,u,rfl⟩:=hh;obtain⟨r,hr',hi⟩:=dY il hx;have hm:=zB hr';exists _,r,rfl,hi.mono s1,hl r hm,fun D us H2 s2 hD ilD=>?_;refine⟨D,rfl,⟨_,aH.of hD⟩,?_⟩;obtain⟨a,e,rfl,ha,he⟩:=gd (hi.mono (s1.trans s2));refine eD (K:=K) (a:=D) (xs:=us) (fun j σ H'=>H'=H2/\((jG r).take j).all (fun e=>!AJ r b e)=true/\∃u,σ=[some (.ref p),some (.int b),some (.ref a),u]) ⟨rfl,rfl,_,rfl⟩ (fun j σ H' _ h=>by rw[h.1];exact aH.of hD) ?_ ?_
  ·intro j y σ H3 hy hh
   refine cT fun N kN1 kR1 _ _=>?_;obtain⟨rfl,hnj,u',rfl⟩:=hh;obtain⟨t,ht,it⟩:=dY ilD hy;obtain⟨a6,q6,rfl,h6,h7⟩:=Ql it;have good:AJ r b t=false->((jG r).take (j+1)).all (fun e=>!AJ r b e)=true:=fun z=>by
    rw[dH ht,List.all_append,hnj,Bool.true_and];simp[z]
   left
   by_cases c1:t.1<=b
   ·refine b9 (ze c1) ?_
    left
    by_cases c2:b<=t.2.1
    ·refine b9 (ze c2) ?_
     exists q6,t.2.2.map V.int,rfl,.inr (dA.of h7),rfl,C7 _,?_;show∃k,V.bl (!Fx (.int r.times) (t.2.2.map V.int))=.bl k/\_;rw[AB]
     by_cases c3:r.times∈t.2.2
     ·rw[ze c3]
      change⟨good (by unfold AJ;rw[ze c3];simp),_,rfl⟩
     ·rw[zd c3]
      left;have z:=kk H3 (s1.trans s2);have e0:(rs.all fun r=>(jG r).all fun e=>!AJ r b e)=false:=by
       rw[List.all_eq_false];refine⟨r,hm,?_⟩;have:((jG r).all fun e=>!AJ r b e)=false:=by
        rw[List.all_eq_false];exact⟨t,zB ht,by unfold AJ;simp[c1,c2,c3]⟩
       rw[this];decide
      rw[e0] at z;exact z
    ·refine cq (zd c2) ?_
     change⟨good (by unfold AJ;rw[zd c2];simp),_,rfl⟩
   ·refine cq (zd c1) ?_
    change⟨good (by unfold AJ;rw[zd c1];simp),_,rfl⟩
  ·rintro σ H3 ⟨rfl,hnj,u',rfl⟩
   rw[aT ilD,zM] at hnj;left;refine⟨s1.trans s2,?_,_,_,rfl⟩;rw[dH hr',List.all_append,hn,Bool.true_and];simp[hnj]
 ·rintro σ H' ⟨s1,hn,v,u,rfl⟩
  rw[aT il,zM] at hn;left;have z:=kk H' s1;rw[hn] at z;exact z
inductive DR (K:yA) (vs:List V) (H:Hp) (Q:VK) (E:XK):Prop
 | mk (p:Addr) (rs:List Rep) (a c:Int) (_:vs=[.ref p,.int a,.int c]) (_:Cy K H p rs) (_:(∀r∈rs,r.ends.length<=1000000)) (_:∀H',au H H'->Q (.bl (decide (a<c)&&eC rs c&&md rs c)) H')
inductive DP (K:yA) (vs:List V) (H:Hp) (Q:VK) (E:XK):Prop
 | mk (p:Addr) (rs:List Rep) (v:V) (j:Jump) (_:vs=[.ref p,v]) (_:Cy K H p rs) (_:(∀r∈rs,r.ends.length<=1000000)) (_:Is H (jH j) v) (_:∀H',au H H'->Q (.bl (hX rs j)) H')
def xx {H:Hp} {j:Jump} {v:V} (h:Is H (jH j) v):∃a,v=.ref a/\H a=some (.tup [.int j.xy,.int j.Bu,.int j.dE,ov j.gH]):=by
 unfold jH Is at h;obtain⟨a,vs,rfl,ha,hl⟩:=h;unfold aB at hl;obtain⟨v1,r1,rfl,h1,hl⟩:=hl;unfold aB at hl;obtain⟨v2,r2,rfl,h2,hl⟩:=hl;unfold aB at hl;obtain⟨v3,r3,rfl,h3,hl⟩:=hl;unfold aB at hl;obtain⟨v4,r4,rfl,h4,hl⟩:=hl;unfold aB at hl;subst hl;unfold Is at h1 h2 h3;subst h1 h2 h3;refine⟨a,rfl,?_⟩;cases q:j.gH with
 | none=>rw[q] at h4;unfold dO Is at h4;subst h4;exact ha
 | some n=>rw[q] at h4;unfold dO Is at h4;subst h4;exact ha
def DX:aD ["repeats","at","coda"] ["repeats","at","coda"] (ao vI):=dB
def Ep:cY P w base 3 T.vb (DR K):=by
 nomatch T.vb,DX
 obtain⟨p,rs,a,c,rfl,hp,hl,kk⟩:=h;refine⟨_,(aj (aq (oH (dS fo (pv 1) (pv 2) (iw _)) (oH (bM (sX T) hr T.pk (ah (pv 0) (ah (pv 2) af))) (lX (bM (m7 T) hr T.iX (ah (pv 0) (ah (pv 2) af)))))))),?_⟩;ac_rfl;left
 by_cases c1:a<c
 ·rw[ze c1,Bool.true_and] at kk
  refine b9 (ze c1) ?_;exists p,rs,c,rfl,hp,?_;cases q:eC rs c with
  | true=>
   rw[q,Bool.true_and] at kk;change⟨p,rs,c,rfl,hp,hl,kk⟩
  | false=>
   rw[q,Bool.false_and] at kk;change kk _ (au.refl _)
 ·rw[zd c1,Bool.false_and,Bool.false_and] at kk
  refine cq (zd c1) ?_;change kk _ (au.refl _)
def gb:aD ["repeats","jump","at","to","until","coda"] ["repeats","jump"] (ao vG):=dB
def En:cY P w base 4 T.uR (DP K):=by
 nomatch T.uR,gb
 obtain⟨p,rs,v,j,rfl,hp,hl,iv,kk⟩:=h;obtain⟨a,rfl,ha⟩:=xx iv;unfold hX at kk;refine⟨_,(ag (bU 2 gb.nd (bV (pv 1) ae))
  (ag (bU 3 gb.nd (bV (pv 1) ae))
  (ag (bU 4 gb.nd (bV (pv 1) ae))
  (ag (bU 5 gb.nd (bV (pv 1) ae))
  (ag (aI (PW.pt (eO (ptr fo (pv 4) (pv 3)) (dC (ptr fo (pv 2) (pv 4)))))
  (aj (aq mW))
  ax)
  (ag (aI (PW.pt (cZ (bB (gN (pv 5))) (cO (eJ (cD (bM (Ep T) hr T.vb (ah (pv 0) (ah (pv 2) (ah (pv 5) af)))))))))
  (aj (aq mW))
  ax)
  (aj (aq (oH (bM (Em T) hr T.uN (ah (pv 0) (ah (pv 2) af))) (oH (bM (sX T) hr T.pk (ah (pv 0) (ah (pv 3) af))) (lX (bM (m7 T) hr T.iX (ah (pv 0) (ah (pv 4) af)))))))))))))),?_⟩
 ac_rfl;left
 by_cases c1:j.dE<j.Bu
 ·refine b9 (ze c1) ?_
  simp only[if_pos c1] at kk;change kk _ (au.refl _)
 ·refine cq (zd c1) ?_
  simp only[if_neg c1] at kk;left
  by_cases c2:j.xy<j.dE
  ·refine b9 (ze c2) ?_
   simp only[if_pos c2] at kk;change kk _ (au.refl _)
  ·refine cq (zd c2) ?_
   simp only[if_neg c2] at kk;left;cases q:j.gH with
   | none=>
    rw[q] at kk;exists p,rs,_,rfl,hp,?_;cases q1:hJ rs j.xy with
    | false=>
     rw[q1] at kk;change kk _ (au.refl _)
    | true=>
     rw[q1] at kk;exists p,rs,_,rfl,hp,?_;cases q2:eC rs j.Bu with
     | false=>
      rw[q2] at kk;change kk _ (au.refl _)
     | true=>
      rw[q2] at kk;change⟨p,rs,_,rfl,hp,hl,kk⟩
   | some n=>
    rw[q] at kk;exists p,rs,_,_,rfl,hp,hl,fun H1 s1=>?_;cases q0:(decide (j.xy<n)&&eC rs n&&md rs n) with
    | false=>
     simp only[q0] at kk;change kk _ s1
    | true=>
     simp only[q0,Bool.true_and] at kk;exists p,rs,_,rfl,hp.mono s1,?_;cases q1:hJ rs j.xy with
     | false=>
      rw[q1] at kk;change kk _ s1
     | true=>
      rw[q1] at kk;exists p,rs,_,rfl,hp.mono s1,?_;cases q2:eC rs j.Bu with
      | false=>
       rw[q2] at kk;change kk _ s1
      | true=>
       rw[q2] at kk;change⟨p,rs,_,rfl,hp.mono s1,hl,fun H2 s2=>kk _ (s1.trans s2)⟩
def CH {l ns:List Int} (h1:ns.Perm l) (h2:ns.Pairwise (·<=·)):ns=sortI l:=by
 unfold sortI;refine List.Perm.eq_of_pairwise (le:=fun a b:Int=>a<=b) (fun a b _ _ x y=>Int.le_antisymm x y) h2 ?_ (h1.trans (List.mergeSort_perm _ _).symm);have:=List.pairwise_mergeSort (le:=fun a b:Int=>decide (a<=b)) (fun a b c x y=>by simp at x y ⊢;omega) (fun a b=>by simp;omega) l;exact this.imp fun h=>by simpa using h
noncomputable def Ih:List Sc.End->Nat
 | []=>0
 | e::r=>e.2.length+Ih r
def Qm {es:List Sc.End} {e:Sc.End} (h:e∈es):e.2.length<=Ih es:=by
 induction es with
 | nil=>cases h
 | cons x r ih=>
  rcases zC.mp h with rfl | h
  ·unfold Ih;omega
  ·have:=ih h;unfold Ih;omega
def Ma {a b:List Int}:(decide (a.map V.int=b.map V.int))=decide (a=b):=by
 by_cases h:a=b
 ·subst h;simp
 ·rw[zd h,zd]
  intro z;have:∀{a b:List Int},a.map V.int=b.map V.int->a=b:=by
   intro a
   induction a with
   | nil=>intro b z;cases b with | nil=>rfl | cons _ _=>cases z
   | cons x r ih=>intro b z;cases b with | nil=>cases z | cons y s=>simp at z;rw[z.1,ih (by simpa using z.2)]
  exact h (this z)
theorem sS:∀ns:List Int,(ns.map V.int).all OO=true
 | []=>rfl
 | n::ns=>by rw[zh,List.all_cons,sS ns];rfl
def G3 {e:Sc.End} {r:List Sc.End} {a:Int} {ps:List Int} (h1:¬e.1<=a) (h2:e.2=sortI e.2):gh (e::r) a ps=gh r e.1 (ps++e.2):=by
 show(if e.1<=a then none else if e.2≠sortI e.2 then none else gh r e.1 (ps++e.2))=_;rw[if_neg h1,if_neg (fun z=>z h2)]
def Dd {e:Sc.End} {r:List Sc.End} {a:Int} {ps:List Int} (h:e.1<=a\/e.2≠sortI e.2):gh (e::r) a ps=none:=by
 show(if e.1<=a then none else if e.2≠sortI e.2 then none else gh r e.1 (ps++e.2))=_;rcases h with h | h
 ·rw[if_pos h]
 ·rw[if_pos h];split <;> rfl
def Pf {α:Type} {l:List α} {i:Nat} {x:α} (h:l[i]?=some x):l.drop i=x::l.drop (i+1):=by
 obtain⟨hi,rfl⟩:=zw.mp h;exact List.drop_eq_getElem_cons hi
inductive vo (vs:List V) (H:Hp) (Q:VK) (E:XK):Prop
 | mk (v:V) (r:Rep) (_:vs=[v]) (_:Is H (jQ r) v) (_:Ih r.ends<64) (_:-1000000<=r.times) (_:r.times<=1000000) (_:∀H',au H H'->Q (.bl (gi r)) H')
def fL:aD ["repeat","ends","ahead","passes","end"] ["repeat"] (ao yW):=dB
def Gz:cY P w base 1 T.AH vo:=by
 nomatch T.AH,fL
 obtain⟨v,r,rfl,iv,ht,t0,t1,kk⟩:=h;have sl:=yB;obtain⟨a,e,rfl,ha,he⟩:=gd iv;unfold Is at he;obtain⟨e',us,ee,hu,ilu⟩:=he;cases ee;have ul:=aT ilu;refine⟨_,(ag (bU 1 fL.nd (bV (pv 0) ae))
  (ag (aI (ptr dj (eK aC T.bA (ah (pv 1) af)) ae)
  (aj (aq mW))
  ax)
  (ag (bU 2 fL.nd (ar gA (bV (pv 0) ae) ae))
  (ag (bU 3 fL.nd (bq af))
  (ag (cy PassesOwn.never rfl (kB (pv 1)) (jP 4 fL.nd)
  (ag (aI (PW.pt (eO (ptr iI (bV (pv 4) ae) (pv 2)) (dC (ptr (qW hr.units) (nJ iY T.ra (ah (bV (pv 4) ae) af)) (eK tS T.GI (ah (bV (pv 4) ae) af))))))
   (aj (aq mW))
   ax)
   (ag (bU 2 fL.nd (bV (pv 4) ae))
   (aj (bK (b7 yC PySem.F.slot_list_extend PySem.F.type_list_extend IL (pv 3) (ah (bV (pv 4) ae) af)))))))
  (aj (aq (oH (dS iI (pv 2) (bV (pv 0) ae) (iw _)) (lX (dS (Eg hr.units) (eK tS T.GI (ah (pv 3) af)) (M7 rfl (by rfl) T.ra (by rfl) T.dg (ah ae (ah (ar aY (bV (pv 0) ae) ae) af))) (iw _))))))))))),?_⟩
 ac_rfl;exists e,_,rfl,.inr (dA.of hu),?_;rw[ul];left
 by_cases h0:r.ends.length=0
 ·refine b9 (by rw[h0];rfl) ?_
  left;have e0:gi r=true:=by
   unfold gi;rw[yr.mp h0]
  rw[e0] at kk;exact kk _ (au.refl _)
 ·refine cq (zd fun z=>h0 (by have:=V.int.inj z;omega)) ?_
  have ef:gi r=(match gh r.ends (r.first-1) [] with | none=>false | some (a,ps)=>decide (a<=r.last)&&decide (sortI ps=KR 1 (r.times+1-1).toNat)):=by
   unfold gi;cases q:r.ends with
   | nil=>rw[q] at h0;exact absurd rfl h0
   | cons x xs=>rfl
  rw[ef] at kk;exists by show 0<=sizeLine;omega,?_
  intro pp hn;generalize hG:upd _ pp _=H1;have s1:=au.kC hG hn;have h1:=kJ hG;clear hG;exists⟨_,dA.of (s1 _ _ hu)⟩,?_;refine J9 (K:=K) (a:=e) (xs:=us) (fun i σ H'=>au H H'/\∃(z:Int) (ps:List Int) (u:Option V),σ=[some (.ref a),some (.ref e),some (.int z),some (.ref pp),u]/\H' pp=some (.lst (ps.map V.int))/\ps.length+Ih (r.ends.drop i)=Ih r.ends/\gh r.ends (r.first-1) []=gh (r.ends.drop i) z ps) ⟨s1,_,[],none,rfl,h1,by simp,rfl⟩ (fun i σ H' _ h=>dA.of (h.1 _ _ hu)) ?_ ?_
  ·intro i x σ H2 hx hh
   refine cT fun N kN0 kR0 _ _=>?_;obtain⟨s2,z,ps,u,rfl,h2,hc,hgo⟩:=hh;obtain⟨en,hen,ien⟩:=dY ilu hx;obtain⟨a6,q6,rfl,h6,h7⟩:=uV (ien.mono s2);have hle:=Qm (zB hen);rw[Pf hen] at hgo hc;rw[show Ih (en::List.drop (i+1) r.ends)=en.2.length+Ih (List.drop (i+1) r.ends) from rfl] at hc;left
   by_cases c1:en.1<=z
   ·refine b9 (ze c1) ?_
    rw[hgo,Dd (.inl c1)] at kk;change kk _ s2
   ·refine cq (zd c1) ?_
    exists q6,_,rfl,.inr (dA.of h7),?_;intros p8 H8 s8 h8;have h68:=s8 _ _ h6;have h78:=s8 _ _ h7;exists q6,en.2,rfl,.inr (dA.of h78),nofun,fun ns np ns'=>?_;intros p9 H9 s9 h9;have h69:=s9 _ _ h68;have h79:=s9 _ _ h78;have h29:=s9 _ _ (s8 _ _ h2);rw[CH np ns'] at h9;refine⟨p8,p9,_,_,rfl,rfl,.inl ⟨aH.of (s9 _ _ h8),aH.of h9⟩,.inr (.inr ⟨sS _,sS _⟩),?_⟩;rw[Ma]
    by_cases c2:en.2=sortI en.2
    ·rw[ze c2]
     rw[G3 c1 c2] at hgo;exists .inl ⟨rfl,_,aH.of h29⟩,?_;left;refine .inr ⟨pp,q6,_,_,rfl,rfl,h29,h79,by rw[za,za];omega,?_⟩;left;have s29:=(s2.trans s8).trans s9;refine⟨fun b o hb=>?_,en.1,ps++en.2,_,rfl,by rw[ay,zj],by rw[zg];omega,hgo⟩;have ne:b≠pp:=fun z=>by rw[z,hn] at hb;cases hb
     rw[aE ne];exact s29 b o hb
    ·rw[zd c2]
     rw[hgo,Dd (.inr c2)] at kk;change kk _ ((s2.trans s8).trans s9)
  ·rintro σ H2 ⟨s2,z,ps,u,rfl,h2,hc,hgo⟩
   rw[ul,List.drop_length] at hgo hc;rw[hgo] at kk;have ha2:=s2 _ _ ha;unfold gh at kk;simp only at kk;rw[show Ih []=0 from rfl] at hc;left
   by_cases c1:z<=r.last
   ·rw[ze c1,Bool.true_and] at kk
    refine b9 (ze c1) ?_;exists pp,ps,rfl,.inl (aH.of h2),nofun,fun ns np ns'=>?_;intros p9 H9 s9 h9;rw[CH np ns'] at h9;have ha9:=s9 _ _ ha2;exists 1,r.times+1,rfl,⟨∅,(by decide),nofun,nofun⟩,nofun,?_;intros p10 H10 s10 h10;refine⟨p9,p10,_,_,rfl,rfl,.inl ⟨aH.of (s10 _ _ h9),aH.of h10⟩,.inr (.inr ⟨sS _,sS _⟩),?_⟩;rw[Ma];exact kk _ ((s2.trans s9).trans s10)
   ·rw[zd c1,Bool.false_and] at kk
    refine cq (zd c1) ?_;exact kk _ s2
def Kl {xs:List V} {x:V} (h:xs[xs.length-1]?=some x):Ds xs (-1)=some x:=by
 have hp:0<xs.length:=by
  have:=(zw.mp h).1;omega
 have ne:xs≠[]:=yq.mp hp;have e:=List.dropLast_concat_getLast ne;have e2:xs.getLast ne=x:=by
  have:=(zw.mp h).2;rw[List.getLast_eq_getElem];exact this
 rw[<-e,e2];exact L2.Bb _ _
inductive xW (K:yA) (vs:List V) (H:Hp) (Q:VK) (E:XK):Prop
 | mk (p:Addr) (rs:List Rep) (v:V) (r:Rep) (_:vs=[.ref p,v]) (_:Cy K H p rs) (_:Is H (jQ r) v) (_:Ih r.ends<64) (_:-1000000<=r.times) (_:r.times<=1000000) (_:∀H',au H H'->Q (.bl (lQ rs r)) H')
def x9:aD ["repeats","repeat"] ["repeats","repeat"] (ao pX):=dB
def Am:cY P w base 2 T.oG (xW K):=by
 nomatch T.oG,x9
 obtain⟨p,rs,v,r,rfl,⟨vs,hp,il⟩,iv,ht,t0,t1,kk⟩:=h;obtain⟨a,e,rfl,ha,he⟩:=gd iv;have vl:=aT il;have tail:(∀H',au H H'->Q (.bl (decide (r.first<=r.last)&&gi r)) H')->(if decide (r.first<=r.last)=true then fX vo [] E0 (bC (aV 1) dZ) [some (.ref p),some (.ref a)] H Q else Q (.bl false) H):=by
  intro k
  by_cases c:r.first<=r.last
  ·rw[ze c,Bool.true_and] at k
   refine b9 (ze c) ?_;exact⟨_,rfl,_,r,rfl,iv,ht,t0,t1,k⟩
  ·rw[zd c,Bool.false_and] at k
   refine cq (zd c) ?_;exact k _ (au.refl _)
 refine⟨_,(ag (aI (PW.pt (cZ (ptr fq (eK aC T.bA (ah (pv 0) af)) ae) (cO (ptr iI (bV (pv 1) ae) (bV (fO (pv 0) (sT lH ae)) ae)))))
  (aj (aq mW))
  ax)
  (aj (aq (oH (dS iI (bV (pv 1) ae) (bV (pv 1) ae) (iw _)) (lX (bM (Gz T) hr T.AH (ah (pv 1) af))))))),?_⟩
 ac_rfl;exists p,_,rfl,.inl hp,?_;rw[vl];left
 by_cases h0:0<rs.length
 ·refine b9 (ze nofun) ?_
  have hi:rs.length-1<vs.length:=nofun
  obtain⟨q,hq,iq⟩:=dY il (zb hi);obtain⟨b,eb,evb,hb,_⟩:=gd iq;have eg:rs.getLast?=some q:=by rw[List.getLast?_eq_getElem?];exact hq
  unfold lQ at kk;rw[eg] at kk;left;refine⟨p,vs,-1,_,rfl,rfl,hp,Kl (by rw[vl];exact zb hi),?_⟩;rw[evb];left
  by_cases c:r.first<=q.last
  ·refine b9 (ze c) ?_
   simp only[if_pos c] at kk;change kk _ (au.refl _)
  ·refine cq (zd c) ?_
   simp only[if_neg c] at kk;change tail kk
 ·refine cq (zd nofun) ?_
  have e0:rs=[]:=yr.mp nofun;unfold lQ at kk;rw[e0] at kk;change tail kk
def Kr (x:Sc.L4):Prop:=0<=x.aR.1/\x.aR.1<=1000/\0<x.aR.2/\x.aR.2<=1000
structure Te (C:Addr) (H:Hp) (a:Addr) (S:cG) (o:Ow):Prop where
 obj:∃ub jm,H a=some (.ins C o.dx (Ob o ub jm))
 ba:∃vs,H o.ba=some (.lst vs)/\aB H (S.aM.map lD) vs
def Te.of {C a:Addr} {H:Hp} {S:cG} {o:Ow} (h:bW C H a S o):Te C H a S o:=⟨by obtain⟨ub,jm,h1,_⟩:=h.obj;exact⟨ub,jm,h1⟩,h.ba⟩
inductive wc (C:Addr) (vs:List V) (H:Hp) (Q:VK) (E:XK):Prop
 | mk (a:Addr) (S:cG) (o:Ow) (b:Nat) (_:vs=[.ref a,.int b]) (_:Te C H a S o) (_:b<S.aM.length) (_:(∀x∈S.aM,Kr x)) (_:∀p H',au H H'->H' p=some (mD (S.aR b))->Q (.ref p) H')
def Ru {H:Hp} {b:Sc.L4} {v:V} (h:Is H (lD b) v):∃a m q,v=.ref a/\H a=some (.tup [.ref m,.int b.key,.ref q])/\H m=some (mD b.aR):=by
 unfold lD Is at h;obtain⟨a,vs,rfl,ha,hl⟩:=h;unfold aB at hl;obtain⟨v1,r1,rfl,h1,hl⟩:=hl;unfold aB at hl;obtain⟨v2,r2,rfl,h2,hl⟩:=hl;unfold aB at hl;obtain⟨v3,r3,rfl,h3,hl⟩:=hl;unfold aB at hl;subst hl;unfold Is at h2;subst h2;unfold nh Is at h3;obtain⟨q,us,rfl,hq,hle⟩:=h3;have:=fw (o:=some b.aR) h1;cases this with
 | ref hm=>exact⟨a,_,q,rfl,ha,hm⟩
def mL:aD ["score","bar","metre"] ["score","bar"] (ao oq):=dB
def m6 {C:Addr} (F:Cf K C):cY P w base 3 T.iU (wc C):=by
 nomatch T.iU,mL
 obtain⟨a,S,o,b,rfl,sc,hb,cb,kk⟩:=h;obtain⟨ub,jm,ho⟩:=sc.obj;obtain⟨vs,hv,il⟩:=sc.ba;have hi:b<vs.length:=by rw[aT il];exact hb
 obtain⟨x,hx,ix⟩:=dY il (zb hi);obtain⟨a1,m,q,ev,h1,hm⟩:=Ru ix;obtain⟨k1,k2,k3,k4⟩:=cb x (zB hx);unfold cG.aR at kk;rw[hx] at kk;refine⟨_,(ag (bU 2 mL.nd (bV (fO (bF (pv 0) rfl) (pv 1)) ae))
  (aj (aq (bM (jC T) hr T.eZ (ah (bV (pv 2) ae) (ah (bV (pv 2) ae) af)))))),?_⟩
 ac_rfl;exists a,C,o.dx,_,_,rfl,ho,F.cls,F.aM,rfl,?_;left;refine⟨o.ba,vs,b,_,rfl,rfl,aH.of hv,bx (zb hi),?_⟩;rw[ev];change⟨_,_,rfl,k1,k3,(du (n:=10) nofun nofun).mono ∅,fun p H' s' h'=>kk p H' s' h'⟩
inductive xV (C:Addr) (vs:List V) (H:Hp) (Q:VK) (E:XK):Prop
 | mk (a:Addr) (S:cG) (o:Ow) (b:Nat) (_:vs=[.ref a,.int b]) (_:bW C H a S o) (_:b<S.aM.length) (_:(∀x∈S.aM,Kr x)) (_:∀p H',au H H'->H' p=some (mD (S.len b))->Q (.ref p) H')
def x8:aD ["score","bar"] ["score","bar"] (ao pV):=dB
def Ak {C:Addr} (F:Cf K C):cY P w base 4 T.nM (xV C):=by
 nomatch T.nM,x8
 obtain⟨a,S,o,b,rfl,sc,hb,cb,kk⟩:=h;obtain⟨ub,jm,ho,hub,hjm⟩:=sc.obj;unfold cG.len at kk;refine⟨_,(ag (aI (PW.pt (cZ (ptr dj (pv 1) ae) (cO (bB (gN (bF (pv 0) rfl))))))
  (aj (aq (bF (pv 0) rfl)))
  ax)
  (aj (aq (bM (m6 T F) hr T.iU (ah (pv 0) (ah (pv 1) af)))))),?_⟩
 ac_rfl;left
 by_cases c:b=0
 ·refine b9 (by rw[c];rfl) ?_
  exists a,C,o.dx,_,_,rfl,ho,F.cls,F.aG,rfl,?_;cases q:S.aG with
  | none=>
   rw[q] at kk hub;unfold dO Is at hub;subst hub;change⟨a,S,o,b,rfl,.of sc,hb,cb,kk⟩
  | some u=>
   rw[q] at kk hub;cases fw (o:=some u) hub with
   | ref hu=>
    exists a,C,o.dx,_,_,rfl,ho,F.cls,F.aG,rfl,?_;refine kk _ _ (au.refl _) ?_;simp only[if_pos c];exact hu
 ·refine cq (zd fun z=>c (by have:=V.int.inj z;omega)) ?_
  left;refine⟨a,S,o,b,rfl,.of sc,hb,cb,fun p H' s' h'=>kk p H' s' ?_⟩;cases q:S.aG with
  | none=>exact h'
  | some u=>simp only[if_neg c];exact h'
theorem jE (n:Str):∀ns:List Str,Fx (.str n) (ns.map V.str)=decide (n∈ns)
 | []=>rfl
 | m::ns=>by
  have ih:=jE n ns;unfold Fx at ih ⊢;rw[zh,List.any_cons,ih]
  by_cases e:n=m
  ·subst e
   simp[I0]
  ·have e':¬m=n:=fun z=>e z.symm
   simp[I0,e,e']
theorem gD:∀ns:List Str,(ns.map V.str).all nc=true
 | []=>rfl
 | n::ns=>by rw[zh,List.all_cons,gD ns];rfl
inductive fE (C:Addr) (D:Hp->V->cG->Option Str->Prop) (vs:List V) (H:Hp) (Q:VK) (E:XK):Prop
 | mk (a:Addr) (S:cG) (o:Ow) (v:V) (f:Option Str) (_:vs=[.ref a,v]) (_:bW C H a S o) (_:D H v S f) (_:∀H',au H H'->Q (os f) H')
def mJ (C:Addr):Sp:=fE C fun _ v S f=>∃n,v=.str n/\f=fault S (.bE n)
def wz:aD ["score","player"] ["score","player"] (ao oo):=dB
def wG {C:Addr} (F:Cf K C):cY P w base 1 T.iS (mJ C):=by
 nomatch T.iS,wz
 obtain⟨a,S,o,v,f,rfl,sc,⟨n,rfl,rfl⟩,kk⟩:=h;obtain⟨ub,jm,ho,hub,hjm⟩:=sc.obj;have k:=kk H (au.refl H);unfold fault at k;dsimp only at k;refine⟨_,(ag (aI (iR pf (pv 1) (bF (pv 0) rfl) (by with_unfolding_all rfl))
  (aj (aq aK))
  ax)
  (ag (aI (ptr Aj (eK aC T.bA (ah (bF (pv 0) rfl) af)) (bY (v:=.int (12)) (by rfl) T.A7 ⟨_,rfl⟩))
  (aj (aq aK))
  ax)
  (aj (aq aQ)))),?_⟩
 ac_rfl;exists a,C,o.dx,_,_,rfl,ho,F.cls,F.players,rfl,?_;refine⟨o.pl,_,rfl,.inl (aH.of sc.pl),rfl,gD _,?_⟩;show∃k,V.bl (Fx (.str n) (S.players.map V.str))=.bl k/\_;rw[jE]
 by_cases c1:n∈S.players
 ·rw[ze c1]
  rw[if_pos c1] at k;change k
 ·rw[zd c1]
  rw[if_neg c1] at k;exists a,C,o.dx,_,_,rfl,ho,F.cls,F.players,rfl,?_;exists o.pl,_,rfl,.inl (aH.of sc.pl),?_;rw[za];left
  by_cases c2:12<=S.players.length
  ·refine b9 (ze nofun) ?_
   rw[if_pos c2] at k;change k
  ·refine cq (zd nofun) ?_
   rw[if_neg c2] at k;change k
def rQ (C:Addr):Sp:=fE C fun _ _ S f=>∃b,f=fault S (.bar b)
def DY:aD ["score","told"] ["score","told"] (ao vJ):=dB
def Er {C:Addr} (F:Cf K C):cY P w base 1 T.pC (rQ C):=by
 nomatch T.pC,DY
 obtain⟨a,S,o,v,f,rfl,sc,⟨b,rfl⟩,kk⟩:=h;obtain⟨ub,jm,ho,hub,hjm⟩:=sc.obj;obtain⟨vs,hv,il⟩:=sc.ba;have vl:=aT il;have k:=kk H (au.refl H);unfold fault at k;dsimp only at k;refine⟨_,(ag (aI (ptr Aj (eK aC T.bA (ah (bF (pv 0) rfl) af)) (bY (v:=.int (200)) (by rfl) T.Hz ⟨_,rfl⟩))
  (aj (aq aK))
  ax)
  (aj (aq aQ))),?_⟩
 ac_rfl;exists a,C,o.dx,_,_,rfl,ho,F.cls,F.aM,rfl,?_;exists o.ba,_,rfl,.inl (aH.of hv),?_;rw[vl];left
 by_cases c2:200<=S.aM.length
 ·refine b9 (ze nofun) ?_
  rw[if_pos c2] at k;change k
 ·refine cq (zd nofun) ?_
  rw[if_neg c2] at k;change k
theorem rN (n:Str):∀{ks:List Str} {vs:List V},vs.length=ks.length->(dG ((ks.map kS).zip vs) (kS n)).isSome=decide (n∈ks)
 | [],_,_=>by simp[dG]
 | k::ks,[],h=>by simp at h
 | k::ks,v::vs,h=>by
  have ih:=rN n (ks:=ks) (vs:=vs) (by simpa using h);rw[zh,List.zip_cons_cons];unfold dG at ih ⊢;rw[List.find?_cons]
  by_cases e:k=n
  ·subst e
   simp
  ·have e1:¬kS k=kS n:=fun z=>e (Sum.inr.inj z)
   have e2:¬n=k:=fun z=>e z.symm;simp only[e1,decide_false] at ih ⊢;rw[ih];simp[e2]
def iF (C:Addr):Sp:=fE C fun H v S f=>∃x,Is H (eM x) v/\f=fault S (.cN x.1 x.2.1 x.2.2)
def GO {H:Hp} {x:Str×(Int×Int)×(Int×Int)} {v:V} (h:Is H (eM x) v):∃a t l,v=.ref a/\H a=some (.tup [.str x.1,t,l])/\Is H (dL x.2.1) t/\Is H (dL x.2.2) l:=by
 unfold eM Is at h;obtain⟨a,vs,rfl,ha,hl⟩:=h;unfold aB at hl;obtain⟨v1,r1,rfl,h1,hl⟩:=hl;unfold aB at hl;obtain⟨v2,r2,rfl,h2,hl⟩:=hl;unfold aB at hl;obtain⟨v3,r3,rfl,h3,hl⟩:=hl;unfold aB at hl;subst hl;unfold Is at h1;subst h1;exact⟨a,v2,v3,rfl,ha,h2,h3⟩
def pI:aD ["score","told"] ["score","told"] (ao jw):=dB
def pL {C:Addr} (F:Cf K C):cY P w base 1 T.fi (iF C):=by
 nomatch T.fi,pI
 obtain⟨a,S,o,v,f,rfl,sc,⟨x,iv,rfl⟩,kk⟩:=h;obtain⟨ub,jm,ho,hub,hjm⟩:=sc.obj;obtain⟨vs,hv,il⟩:=sc.ins;obtain⟨a1,t,l,rfl,h1,_,_⟩:=GO iv;have vl:=aT il;have em:(S.ak.map fun x=>kS x.1)=(S.ak.map (·.1)).map kS:=by rw[zA];rfl
 have k:=kk H (au.refl H);unfold fault at k;dsimp only at k;refine⟨_,(ag (aI (bB (Ag (iK hr) (bV (pv 1) ae) (bF (pv 0) rfl)))
  (aj (aq aK))
  ax)
  (ag (aI (ptr Aj (eK Jq T.bA (ah (bF (pv 0) rfl) af)) (bY (v:=.int (12)) (by rfl) T.rC ⟨_,rfl⟩))
  (aj (aq aK))
  ax)
  (aj (aq aQ)))),?_⟩
 ac_rfl;exists a,C,o.dx,_,_,rfl,ho,F.cls,F.ak,rfl,?_;refine⟨o.ins,_,rfl,.inl ⟨_,kS x.1,.inl hv,rfl,rfl⟩,?_⟩;rw[em,rN x.1 (by rw[za];exact vl)];left
 by_cases c1:x.1∈S.ak.map (·.1)
 ·rw[ze c1]
  rw[if_pos c1] at k;change k
 ·rw[zd c1]
  rw[if_neg c1] at k;exists a,C,o.dx,_,_,rfl,ho,F.cls,F.ak,rfl,?_;exists o.ins,_,rfl,hv,?_;rw[List.length_zip,za,vl,Nat.min_self];left
  by_cases c2:12<=S.ak.length
  ·refine b9 (ze nofun) ?_
   rw[if_pos c2] at k;change k
  ·refine cq (zd nofun) ?_
   rw[if_neg c2] at k;change k
inductive FW (K:yA) (C:Addr) (vs:List V) (H:Hp) (Q:VK) (E:XK):Prop
 | mk (a p:Addr) (S:cG) (o:Ow) (bs:List Int) (_:vs=[.ref a,.ref p]) (_:bW C H a S o) (_:aH K H p (bs.map V.int)) (_:bs.length<=1000000) (_:∀H',au H H'->Q (.bl (S.has bs)) H')
def F2:aD ["score","bars"] ["score","bars"] (ao yV):=dB
def j8 {C:Addr} (F:Cf K C):cY P w base 1 T.ly (FW K C):=by
 nomatch T.ly,F2
 obtain⟨a,p,S,o,bs,rfl,sc,hp,hl,kk⟩:=h;have sl:=yB;refine⟨_,(aj (aq (eK (jg rfl) T.CV (ah (nA (ts:=["bar"]) (ys:=["score"]) (js:=[0]) (te:=(fu (wC fun i j=>.bl (decide (i<j))) (aV 0) (JQ (Sb K) (bC (Ot K (aV 1) "bars") dZ)))) (aZ (pv 1)) (fU 0) bg (dS fo (pv 0) (eK aC T.bA (ah (bF (pv 1) rfl) af)) (iw _))) af)))),?_⟩;ac_rfl;exists⟨_,hp⟩,?_;refine fk (enc:=V.int) (ws:=bs) (fun z=>.bl (decide (z<(S.aM.length:Int)))) (fun σ=>∃v,σ=[v,some (.ref a)]) nofun hp ⟨none,rfl⟩ ?_ ?_
 ·rintro z σ H1 R hz s1 ⟨_,rfl⟩ r
  have sc1:=sc.mono s1;obtain⟨ub,jm,ho,hub,hjm⟩:=sc1.obj;obtain⟨vs,hv,il⟩:=sc1.ba;have vl:=aT il;exists a,C,o.dx,_,_,rfl,ho,F.cls,F.aM,rfl,?_;exists o.ba,vs,rfl,.inl (aH.of hv),?_;rw[vl];change r _ _ _ (au.refl _) (by unfold Is;rfl) ⟨_,rfl⟩
 ·intro D vs H1 s1 hD il
  have e:bs.map (fun z=>Dt.bl (decide (z<(S.aM.length:Int))))=(bs.map fun z=>decide (z<(S.aM.length:Int))).map Dt.bl:=by rw[zA];rfl
  rw[e] at il;rw[iA il] at hD;refine⟨D,_,rfl,aH.of hD,?_⟩;have e2:(bs.map fun z=>decide (z<(S.aM.length:Int))).all id=S.has bs:=by rw[List.all_map];rfl
  rw[e2];exact kk _ s1
inductive wd (K:yA) (vs:List V) (H:Hp) (Q:VK) (E:XK):Prop
 | mk (p:Addr) (us:List V) (its:List Item) (_:vs=[.ref p]) (_:aH K H p us) (_:aB H (its.map fb) us) (_:its.length<=500) (_:(∀it∈its,Og it.2)) (_:∀r H',au H H'->H' r=some (mD (ko its))->Q (.ref r) H')
def ui (l:List Item) (it:Item):ko (l++[it])=add (ko l) it.2:=by unfold ko;rw[zX];rfl
def fI:aD ["items","length","item"] ["items"] (ao ou):=dB
def wH:cY P w base 4 T.ma (wd K):=by
 nomatch T.ma,fI
 obtain⟨p,us,its,rfl,hp,il,hl,cb,kk⟩:=h;have sl:=yB;have ul:=aT il;refine⟨_,(ag (bU 1 fI.nd (bj (ah ae (ah ae af))))
  (ag (cy PassesOwn.never rfl (aZ (pv 0)) (jP 2 fI.nd)
  (aj (bU 1 fI.nd (bM (Nc T) hr T.added (ah (pv 1) (ah (bV (pv 2) ae) af))))))
  (aj (aq (pv 1))))),?_⟩
 ac_rfl;exists bZ,?_;intros p1 H1 s1 h1;exists⟨_,s1.seq hp⟩,?_;refine eD (K:=K) (a:=p) (xs:=us) (fun i σ H'=>au H H'/\∃q v,σ=[some (.ref p),some (.ref q),v]/\H' q=some (mD (ko (its.take i)))/\Lm.Rd (ko (its.take i))/\Bv (15*i+1) (ko (its.take i))) ⟨s1,p1,none,rfl,h1,?_,?_⟩ (fun i σ H' _ h=>h.1.seq hp) ?_ ?_
 ·exact Lm.Rd.zero
 ·show Bv 1 (0,1)
  exact⟨du ∅ ∅,du ∅ ∅⟩
 ·rintro i x σ H2 hx ⟨s2,q,v,rfl,hq,rq,zq⟩
  obtain⟨it,hit,iit⟩:=dY il hx;obtain⟨a6,pv,lv,rfl,h6,_,i8⟩:=item_at (iit.mono s2);have hi:i<its.length:=(zw.mp hit).1;obtain⟨ok1,Ta,Uz,ok4⟩:=cb it (zB hit);cases fw (o:=some it.2) i8 with
  | ref h8=>
   have zi:Bv 14 it.2:=⟨du nofun nofun,du (by have:=ok1.pos;omega) nofun⟩
   exists _,_,_,_,_,_,rfl,hq,h8,rq,ok1,zq,zi,nofun,fun r H3 s3 h3=>?_;have e:=dH hit;refine⟨s2.trans s3,r,_,rfl,?_,?_,?_⟩
   ·rw[e,ui];exact h3
   ·rw[e,ui];exact rq.add ok1
   ·rw[e,ui];exact⟨(Bv.add rq ok1 zq zi).1.mono nofun,(Bv.add rq ok1 zq zi).2.mono nofun⟩
 ·rintro σ H2 ⟨s2,q,v,rfl,hq,_,_⟩
  rw[ul,zM] at hq;change kk _ _ s2 hq
def Fp (S:cG):Prop:=∀r∈S.repeats,r.ends.length<=1000000
def pQ (C:Addr):Sp:=fE C fun H v S f=>∃j,Is H (jH j) v/\Fp S/\f=fault S (.ck j)
def GX {l:List V} {i:Nat} {x:V} (h:l[i]?=some x):(l.take (i+1)).filter (fun v=>!gx v)=(l.take i).filter (fun v=>!gx v)++(if gx x=true then [] else [x]):=by
 rw[dH h,List.filter_append];cases q:gx x with
 | true=>simp[q]
 | false=>simp[q]
def BK:aD ["score","jump"] ["score","jump"] (ao sC):=dB
def BX {C:Addr} (F:Cf K C):cY P w base 5 T.l8 (pQ C):=by
 nomatch T.l8,BK
 obtain⟨a,S,o,v,f,rfl,sc,⟨j,iv,rok,rfl⟩,kk⟩:=h;have sl:=yB;obtain⟨ub,jm,ho,hub,hjm⟩:=sc.obj;obtain⟨vs,hv,il⟩:=sc.re;obtain⟨a1,rfl,h1⟩:=xx iv;unfold fault at kk;dsimp only at kk;refine⟨_,(ag (aI (bB (gN (bF (pv 0) rfl)))
  (aj (aq aK))
  ax)
  (ag (aI (eJ (cD (bM (j8 T F) hr T.ly (ah (pv 0) (ah (nA (ts:=["bar"]) (ys:=[]) (js:=[]) (g:=(bO 0)) (tc:=(tB (Mo (aV 0)))) (te:=(aV 0)) (kB (pv 1)) (fU 0) (gf (bB (gN (pv 0)))) (pv 0)) af)))))
  (aj (aq aK))
  ax)
  (ag (aI (eJ (cD (bM (En T) hr T.uR (ah (bF (pv 0) rfl) (ah (pv 1) af)))))
  (aj (aq aK))
  ax)
  (aj (aq aQ))))),?_⟩
 ac_rfl;exists a,C,o.dx,_,_,rfl,ho,F.cls,F.ck,rfl,?_;cases q:S.ck with
 | some j'=>
  rw[q] at hjm kk;obtain⟨a2,rfl,_⟩:=xx hjm;change kk _ (au.refl _)
 | none=>
  rw[q] at hjm kk;unfold dO Is at hjm;subst hjm;rw[if_neg ∅] at kk;exists⟨_,dA.of h1⟩,?_;generalize hw:[V.int j.xy,V.int j.Bu,V.int j.dE,ov j.gH]=ws at h1;have wl:ws.length=4:=by rw[<-hw];rfl
  refine oR ws.length (fun i=>(ws.take i).filter fun v=>!gx v) (fun i σ H'=>H'=H/\∃v,σ=[v]) (fun i hi=>zL (List.length_filter_le _ _) (by rw[zP];omega)) nofun rfl ⟨rfl,none,rfl⟩ ?_ ?_ ?_ ?_
  ·rintro i σ H' hi ⟨rfl,_⟩
   exact IW (dA.of h1) hi
  ·rintro σ H' ⟨rfl,_⟩
   exact⟨_,dA.of h1,zk _⟩
  ·rintro i x σ H' H2 hi ⟨rfl,v,rfl⟩ ⟨rfl,hy⟩
   have hx:=hy _ (dA.of h1);left
   by_cases e:x=.bI
   ·refine cq (by rw[ze e];rfl) ?_
    refine HV.skip hi ?_ ⟨rfl,_,rfl⟩;show List.filter _ (List.take (i+1) ws)=List.filter _ (List.take i ws);rw[GX hx,if_pos (show gx x=true from ze e),zU]
   ·refine b9 (by rw[zd e];rfl) ?_
    left;refine HV.push hi ?_ ⟨rfl,_,rfl⟩;show List.filter _ (List.take (i+1) ws)=List.filter _ (List.take i ws)++[x];rw[GX hx,if_neg (by unfold gx;rw[zd e];decide)]
  ·rintro σ H' ⟨rfl,_⟩
   rw[zM];have ef:(ws.filter fun v=>!gx v)=([j.xy,j.Bu,j.dE]++j.gH.toList).map V.int:=by
    rw[<-hw];cases j.gH <;> rfl
   rw[ef];intros D H2 s2 h2;refine⟨a,D,S,o,_,rfl,sc.mono s2,aH.of h2,?_,fun H3 s3=>?_⟩
   ·cases j.gH <;> simp
   ·cases qb:S.has ([j.xy,j.Bu,j.dE]++j.gH.toList) with
    | false=>
     rw[qb] at kk;change kk _ (s2.trans s3)
    | true=>
     rw[qb,if_neg (by simp)] at kk;have s03:=s2.trans s3;have sc3:=sc.mono s03;exists a,C,o.dx,_,_,rfl,s03 _ _ ho,F.cls,F.repeats,rfl,?_;exists o.re,S.repeats,_,j,rfl,⟨vs,aH.of (s03 _ _ hv),il.mono s03⟩,rok,iv.mono s03,fun H4 s4=>?_;cases qj:hX S.repeats j with
     | false=>
      rw[qj] at kk;change kk _ (s03.trans s4)
     | true=>
      rw[qj,if_neg (by simp)] at kk;change kk _ (s03.trans s4)
def mI (C:Addr):Sp:=fE C fun H v S f=>∃r:Rep,Is H (jQ r) v/\Ih r.ends<64/\r.ends.length<=1000/\-1000000<=r.times/\r.times<=1000000/\f=fault S (.rep r)
def wy:aD ["score","repeat"] ["score","repeat"] (ao om):=dB
def wF {C:Addr} (F:Cf K C):cY P w base 3 T.iQ (mI C):=by
 nomatch T.iQ,wy
 obtain⟨a,S,o,v,f,rfl,sc,⟨r,iv,ht,hl,t0,t1,rfl⟩,kk⟩:=h;have sl:=yB;obtain⟨ub,jm,ho,hub,hjm⟩:=sc.obj;obtain⟨vs,hv,il⟩:=sc.re;have vl:=aT il;obtain⟨a1,e,rfl,h1,he⟩:=gd iv;unfold Is at he;obtain⟨e',us,ee,hu,ilu⟩:=he;cases ee;unfold fault at kk;dsimp only at kk;refine⟨_,(ag (aI (eJ (cD (bM (j8 T F) hr T.ly (ah (pv 0) (ah (ar gO (bq (ah (bV (pv 1) ae) (ah (bV (pv 1) ae) af))) (nA (ts:=["end"]) (ys:=[]) (js:=[]) (te:=(fu (lU K) (aV 0) (tC (.int (0))))) (kB (bV (pv 1) ae)) (fU 0) bg (bV (pv 0) ae))) af)))))
  (aj (aq aK))
  ax)
  (ag (aI (PW.pt (eO (bB (gN (bF (pv 0) rfl))) (dC (eJ (cD (bM (Am T) hr T.oG (ah (bF (pv 0) rfl) (ah (pv 1) af))))))))
  (aj (aq aK))
  ax)
  (ag (aI (ptr Aj (eK aC T.bA (ah (bF (pv 0) rfl) af)) (bY (v:=.int (20)) (by rfl) T.A6 ⟨_,rfl⟩))
  (aj (aq aK))
  ax)
  (aj (aq aQ))))),?_⟩
 ac_rfl;exists bZ,?_;intros p2 H2 s2 h2;have h12:=s2 _ _ h1;exists⟨_,dA.of (s2 _ _ hu)⟩,?_;obtain⟨ps,f1,f2,f3⟩:=xA ilu;have pl:ps.length<=1000:=by
  have:ps.length=r.ends.length:=by rw[<-f1,za]
  omega
 refine gG (enc:=fun z:Sc.End×V=>z.2) (ws:=ps) (fun z=>.int z.1.1) (fun σ=>∃v,σ=[v]) nofun (by rw[f2];exact s2 _ _ hu) ⟨none,rfl⟩ ?_ ?_
 ·rintro z σ H6 R' hz s6 ⟨_,rfl⟩ r'
  obtain⟨a6,q6,ev,h6,h7⟩:=uV (f3 z hz);rw[ev];have h66:=s6 _ _ (s2 _ _ h6);change r' _ _ _ (au.refl _) cL ⟨_,rfl⟩
 ·intro D vs5 H3 s3 hD il5
  have e5:ps.map (fun z=>Dt.int z.1.1)=(r.ends.map (·.1)).map Dt.int:=by rw[<-f1,zA,zA];rfl
  rw[e5] at il5;rw[eR il5] at hD;refine⟨p2,D,_,_,rfl,rfl,aH.of (s3 _ _ h2),aH.of hD,by rw[za,za];show 2+_<=_;omega,?_⟩;rw[show [V.int r.first,V.int r.last]++List.map V.int (r.ends.map (·.1))=([r.first,r.last]++r.ends.map (·.1)).map V.int from by rw[zj];rfl];intros p4 H4 s4 h4;have s04:=(s2.trans s3).trans s4;refine⟨a,p4,S,o,_,rfl,sc.mono s04,aH.of h4,by rw[zg,za];show 2+_<=_;omega,fun H5 s5=>?_⟩;have s05:=s04.trans s5;cases qb:S.has ([r.first,r.last]++r.ends.map (·.1)) with
  | false=>
   rw[qb] at kk;change kk _ s05
  | true=>
   rw[qb,if_neg (by simp)] at kk;exists a,C,o.dx,_,_,rfl,s05 _ _ ho,F.cls,F.ck,rfl,?_;cases q:S.ck with
   | some j'=>
    rw[q] at hjm kk;obtain⟨a2,rfl,_⟩:=xx hjm;change kk _ s05
   | none=>
    rw[q] at hjm kk;unfold dO Is at hjm;subst hjm;rw[if_neg ∅] at kk;exists a,C,o.dx,_,_,rfl,s05 _ _ ho,F.cls,F.repeats,rfl,?_;exists o.re,S.repeats,_,r,rfl,⟨vs,aH.of (s05 _ _ hv),il.mono s05⟩,iv.mono s05,ht,t0,t1,fun H6 s6=>?_;have s06:=s05.trans s6;cases qj:lQ S.repeats r with
    | false=>
     rw[qj] at kk;change kk _ s06
    | true=>
     rw[qj,if_neg (by simp)] at kk;exists a,C,o.dx,_,_,rfl,s06 _ _ ho,F.cls,F.repeats,rfl,?_;exists o.re,vs,rfl,.inl (aH.of (s06 _ _ hv)),?_;rw[vl];left
     by_cases c2:20<=S.repeats.length
     ·refine b9 (ze nofun) ?_
      rw[if_pos c2] at kk;change kk _ s06
     ·refine cq (zd nofun) ?_
      rw[if_neg c2] at kk;change kk _ s06
theorem xJ (n:Int×Str):∀{ks:List (Int×Str)} {vs:List V},vs.length=ks.length->(dG ((ks.map kN).zip vs) (kN n)).isSome=decide (n∈ks)
 | [],_,_=>by simp[dG]
 | k::ks,[],h=>by simp at h
 | k::ks,v::vs,h=>by
  have ih:=xJ n (ks:=ks) (vs:=vs) (by simpa using h);rw[zh,List.zip_cons_cons];unfold dG at ih ⊢;rw[List.find?_cons]
  by_cases e:k=n
  ·subst e
   simp
  ·have e1:¬kN k=kN n:=fun z=>e (by
    unfold kN at z;simp at z;exact Prod.ext z.1 z.2)
   have e2:¬n=k:=fun z=>e z.symm;simp only[e1,decide_false] at ih ⊢;rw[ih];simp[e2]
theorem lj {α:Type} {d:α->Dt} {H:Hp}:∀{ls:List (List α)} {as:List Addr},cm H d ls as->as.length=ls.length
 | [],_,h=>by unfold cm at h;rw[h];rfl
 | l::r,_,⟨a,t,vs,e,_,_,h3⟩=>by rw[e,zt,zt,lj h3]
def OV {x y:Int×Int}:decide ([V.int x.1,V.int x.2]=[V.int y.1,V.int y.2])=decide (x=y):=by
 by_cases h:x=y
 ·subst h;simp
 ·rw[zd h,zd]
  intro z;simp at z;exact h (Prod.ext z.1 z.2)
def nX (C:Addr):Sp:=fE C fun H v S f=>∃x:Int×Str×List Item,Ko H v x/\0<=x.1/\x.2.2.length<=500/\(∀it∈x.2.2,Og it.2)/\(∀b∈S.aM,Kr b)/\f=fault S (.aF x.1 x.2.1 x.2.2)
def f9:aD ["score","told","bar","player","items"] ["score","told"] (ao qo):=dB
def Aq {C:Addr} (F:Cf K C):cY P w base 5 T.j9 (nX C):=by
 nomatch T.j9,f9
 obtain⟨a,S,o,v,f,rfl,sc,⟨⟨b,pn,its⟩,⟨a1,q,us,rfl,h1,hq,ilq⟩,b0,il5,iok,bok,rfl⟩,kk⟩:=h;have sl:=yB;obtain⟨ub,jm,ho,hub,hjm⟩:=sc.obj;have nl:(o.ns.map V.ref).length=(S.aF.map (·.1)).length:=by rw[za,za,lj sc.no.2,za]
 have em:(S.aF.map fun x=>kN x.1)=(S.aF.map (·.1)).map kN:=by rw[zA];rfl
 unfold fault at kk;dsimp only at kk h1 b0 il5 iok ilq;refine⟨_,(ag (bU 2 f9.nd (bV (pv 1) ae))
  (ag (bU 3 f9.nd (bV (pv 1) ae))
  (ag (bU 4 f9.nd (bV (pv 1) ae))
  (ag (aI (bB (Ag (iK hr) (bj (ah (pv 2) (ah (pv 3) af))) (bF (pv 0) rfl)))
  (aj (aq aK))
  ax)
  (ag (aI (iR d5 (pv 3) (bF (pv 0) rfl) (by with_unfolding_all rfl))
  (aj (aq aK))
  ax)
  (ag (aI (eJ (cD (bM (j8 T F) hr T.ly (ah (pv 0) (ah (bq (ah (pv 2) af)) af)))))
  (aj (aq aK))
  ax)
  (ag (aI (ptr (qW hr.units) (bM (wH T) hr T.ma (ah (pv 4) af)) (bM (Ak T F) hr T.nM (ah (pv 0) (ah (pv 2) af))))
  (aj (aq aK))
  ax)
  (ag (aI (ptr fq (eK aC T.bA (ah (pv 4) af)) (bY (v:=.int (40)) (by rfl) T.E4 ⟨_,rfl⟩))
  (aj (aq aK))
  ax)
  (aj (aq aQ)))))))))),?_⟩
 ac_rfl;exists bZ,?_;intros p2 H2 s2 h2;have h12:=s2 _ _ h1;exists a,C,o.dx,_,_,rfl,s2 _ _ ho,F.cls,F.aF,rfl,?_;refine⟨o.no,_,rfl,.inr ⟨_,kN (b,pn),p2,.inl (s2 _ _ sc.no.1),rfl,h2,rfl⟩,?_⟩;rw[em,xJ (b,pn) nl];left
 by_cases c1:(b,pn)∈S.aF.map (·.1)
 ·rw[ze c1]
  rw[if_pos c1] at kk;change kk _ s2
 ·rw[zd c1]
  rw[if_neg c1] at kk;exists a,C,o.dx,_,_,rfl,s2 _ _ ho,F.cls,F.players,rfl,?_;refine⟨o.pl,_,rfl,.inl (aH.of (s2 _ _ sc.pl)),rfl,gD _,?_⟩;show∃k,V.bl (!Fx (.str pn) (S.players.map V.str))=.bl k/\_;rw[jE]
  by_cases c2:pn∈S.players
  ·rw[ze c2]
   rw[if_neg (fun z=>z c2)] at kk;exists by show 1<=sizeLine;omega,?_
   intros p3 H3 s3 h3;refine⟨a,p3,S,o,[b],rfl,sc.mono (s2.trans s3),aH.of h3,(by show 1<=1000000;decide),fun H4 s4=>?_⟩;have s04:=(s2.trans s3).trans s4;cases qb:S.has [b] with
   | false=>
    rw[qb] at kk;change kk _ s04
   | true=>
    rw[qb,if_neg (by simp)] at kk;have hb:b<S.aM.length:=by
     unfold cG.has at qb
     simpa using qb
    obtain⟨n,rfl⟩:=yK b0;exists q,us,its,rfl,aH.of (s04 _ _ hq),ilq.mono s04,il5,iok,fun r5 H5 s5 h5=>?_;exists a,S,o,n,rfl,sc.mono (s04.trans s5),nofun,bok,fun r6 H6 s6 h6=>?_;have s06:=(s04.trans s5).trans s6;refine⟨r5,r6,_,_,rfl,rfl,.inr ⟨dA.of (s6 _ _ h5),dA.of h6⟩,.inr (.inr ⟨rfl,rfl⟩),?_⟩;rw[OV]
    by_cases c3:ko its=S.len n
    ·rw[ze c3]
     rw[if_neg (fun z=>z c3)] at kk;exists q,us,rfl,.inl (aH.of (s06 _ _ hq)),?_;rw[aT ilq];left
     by_cases c4:40<its.length
     ·refine b9 (ze nofun) ?_
      rw[if_pos c4] at kk;change kk _ s06
     ·refine cq (zd nofun) ?_
      rw[if_neg c4] at kk;change kk _ s06
    ·rw[zd c3]
     rw[if_pos (show ko its≠S.len ((n:Int)).toNat from c3)] at kk;change kk _ s06
  ·rw[zd c2]
   rw[if_pos c2] at kk;change kk _ s2
def both {c:Bool} {T:(Bool->Hp->Prop)->Prop} {Z:Bool->Hp->Prop} {H:Hp} (v:Bool) (h1:c=true->∀Z,Z v H->T Z) (h2:c=false->v=false) (hz:Z v H):if c=true then T Z else Z false H:=by
 cases c with
 | true=>rw[if_pos rfl];exact h1 rfl Z hz
 | false=>rw[if_neg (by simp)];rw[<-h2 rfl];exact hz
theorem C4 {H:Hp} {α:Type} {d:α->Dt} (p:Str):∀{hs:List (Str×List α)} {as:List Addr},cm H d (hs.map (·.2)) as->
  (hs.lookup p=none/\dG ((hs.map fun x=>kS x.1).zip (as.map V.ref)) (kS p)=none)\/∃l h vs,hs.lookup p=some l/\dG ((hs.map fun x=>kS x.1).zip (as.map V.ref)) (kS p)=some (.ref h)/\H h=some (.lst vs)/\aB H (l.map d) vs
 | [],_,h=>.inl ⟨rfl,by simp[dG]⟩
 | (x,l)::r,as,h=>by
  rw[zh] at h;unfold cm at h;obtain⟨a,t,vs,rfl,h1,h2,h3⟩:=h;rw[zh,zh,List.zip_cons_cons]
  by_cases e:x=p
  ·subst e
   refine .inr ⟨l,a,vs,by rw[yp,beq_self_eq_true],?_,h1,h2⟩;unfold dG;rw[List.find?_cons];simp
  ·have e1:¬kS x=kS p:=fun z=>e (Sum.inr.inj z)
   have e2:(p == x)=false:=by simp;exact fun z=>e z.symm
   have ih:=C4 p h3;unfold dG at ih ⊢;rw[List.find?_cons,yp,e2];simp only[e1,decide_false];exact ih
def Sw {H:Hp} {x:Int×Str} {v:V} (h:Is H (Kg x) v):∃a,v=.ref a/\H a=some (.tup [.int x.1,.str x.2]):=by
 unfold Kg Is at h;obtain⟨a,vs,rfl,ha,hl⟩:=h;unfold aB at hl;obtain⟨v1,r1,rfl,h1,hl⟩:=hl;unfold aB at hl;obtain⟨v2,r2,rfl,h2,hl⟩:=hl;unfold aB at hl;subst hl;unfold Is at h1 h2;subst h1 h2;exact⟨a,rfl,ha⟩
def J8 {H:Hp} {x:Str×Int×Str} {v:V} (h:Is H (vW x) v):∃a,v=.ref a/\H a=some (.tup [.str x.1,.int x.2.1,.str x.2.2]):=by
 unfold vW Is at h;obtain⟨a,vs,rfl,ha,hl⟩:=h;unfold aB at hl;obtain⟨v1,r1,rfl,h1,hl⟩:=hl;unfold aB at hl;obtain⟨v2,r2,rfl,h2,hl⟩:=hl;unfold aB at hl;obtain⟨v3,r3,rfl,h3,hl⟩:=hl;unfold aB at hl;subst hl;unfold Is at h1 h2 h3;subst h1 h2 h3;exact⟨a,rfl,ha⟩
def pR (C:Addr):Sp:=fE C fun H v S f=>∃x:Str×Int×Str,Is H (vW x) v/\f=fault S (.holds x.1 x.2.1 x.2.2)
def kz:aD ["score","told","bar","holds"] ["score","told"] (ao sD):=dB
def BY {C:Addr} (F:Cf K C):cY P w base 3 T.mf (pR C):=by
 nomatch T.mf,kz
 obtain⟨a,S,o,v,f,rfl,sc,⟨⟨pn,b,iN⟩,hd,rfl⟩,kk⟩:=h;obtain⟨a1,rfl,h1⟩:=J8 hd;have sl:=yB;obtain⟨ub,jm,ho,hub,hjm⟩:=sc.obj;unfold fault at kk;dsimp only at kk h1;refine⟨_,(ag (bU 2 kz.nd (bV (pv 1) ae))
  (ag (bU 3 kz.nd (M8 (iK hr) (bF (pv 0) rfl) (bV (pv 1) ae) (bq af) ⟨rfl,rfl,rfl,rfl⟩))
  (ag (aI (PW.pt (cZ (ptr fq (eK aC T.bA (ah (pv 3) af)) ae) (cO (ptr iI (pv 2) (bV (fO (pv 3) (sT lH ae)) ae)))))
  (aj (aq aK))
  ax)
  (ag (aI (PW.pt (eO (iR d5 (bV (pv 1) ae) (bF (pv 0) rfl) (by with_unfolding_all rfl)) (dC (bB (o9 (iK hr) (bV (pv 1) ae) (bF (pv 0) rfl))))))
  (aj (aq aK))
  ax)
  (ag (aI (eJ (cD (bM (j8 T F) hr T.ly (ah (pv 0) (ah (bq (ah (pv 2) af)) af)))))
  (aj (aq aK))
  ax)
  (ag (aI (ptr Aj (eK aC T.bA (ah (pv 3) af)) (bY (v:=.int (20)) (by rfl) T.E5 ⟨_,rfl⟩))
  (aj (aq aK))
  ax)
  (aj (aq aQ)))))))),?_⟩
 ac_rfl;exists a,C,o.dx,_,_,rfl,ho,F.cls,F.holds,rfl,?_;refine⟨o.ho,rfl,.inl ⟨_,.inl sc.ho.1⟩,?_⟩;exists by show 0<=sizeLine;omega,?_
 intros p2 H2 s2 h2;have h12:=s2 _ _ h1;refine⟨_,.inl ⟨_,kS pn,.inl (s2 _ _ sc.ho.1),rfl,rfl⟩,?_⟩;obtain⟨h,vs,l,eh,hh,ilh,el⟩:∃h vs l,(dG ((S.holds.map fun x=>kS x.1).zip (o.hs.map V.ref)) (kS pn)).getD (.ref p2)=.ref h/\H2 h=some (.lst vs)/\aB H2 (l.map Kg) vs/\(S.holds.lookup pn).getD []=l:=by
  rcases C4 (H:=H) pn sc.ho.2 with⟨e1,e2⟩ | ⟨l,h,vs,e1,e2,hh,il⟩
  ·exact⟨p2,[],[],by rw[e2];rfl,h2,by unfold aB;rfl,by rw[e1];rfl⟩
  ·exact⟨h,vs,l,by rw[e2];rfl,s2 _ _ hh,il.mono s2,by rw[e1];rfl⟩
 rw[el] at kk;rw[eh];exists h,vs,rfl,.inl (aH.of hh),?_;rw[aT ilh];left;obtain⟨c1,ec,kk⟩:∃c1:Bool,c1=(match l.getLast? with | some q=>decide (b<=q.1) | none=>false)/\∀H',au H H'->Q (Sc.os (if c1=true then some "twice" else if pn∉S.players then some "name" else if iN∉S.ak.map (·.1) then some "name" else if¬S.has [b]=true then some "bar" else if 20<=l.length then some "many" else none)) H':=by
  refine⟨_,rfl,?_⟩;cases q:l.getLast? with
  | none=>rw[q] at kk;exact kk
  | some x=>rw[q] at kk;exact kk
 refine both c1 ?_ ?_ ?_
 ·intro c Z hz
  have lp:0<l.length:=by have:=yd c;omega
  have vl:=aT ilh;obtain⟨x,hx,ix⟩:=dY ilh (i:=vs.length-1) (zb nofun);obtain⟨a3,ea,h3⟩:=Sw ix;have eg:l.getLast?=some x:=by rw[List.getLast?_eq_getElem?,<-vl];exact hx
  rw[ec,eg] at hz;left;refine⟨h,vs,-1,_,rfl,rfl,aH.of hh,Kl (zb nofun),?_⟩;rw[ea];change hz
 ·intro c
  have:l=[]:=yr.mp (by have:=of_decide_eq_false c;omega);rw[ec,this];rfl
 ·clear ec
  cases c1 with
  | true=>
   change kk _ s2
  | false=>
   rw[if_neg (by simp)] at kk;exists a,C,o.dx,_,_,rfl,s2 _ _ ho,F.cls,F.players,rfl,?_;refine⟨o.pl,_,rfl,.inl (aH.of (s2 _ _ sc.pl)),rfl,gD _,?_⟩;show∃k,V.bl (!Fx (.str pn) (S.players.map V.str))=.bl k/\_;rw[jE]
   by_cases c2:pn∈S.players
   ·rw[ze c2]
    rw[if_neg (fun z=>z c2)] at kk;obtain⟨us,hu,ilu⟩:=sc.ins;have em:(S.ak.map fun x=>kS x.1)=(S.ak.map (·.1)).map kS:=by rw[zA];rfl
    exists a,C,o.dx,_,_,rfl,s2 _ _ ho,F.cls,F.ak,rfl,?_;refine⟨o.ins,_,rfl,.inl ⟨_,kS iN,.inl (s2 _ _ hu),rfl,rfl⟩,?_⟩;rw[em,rN iN (by rw[za];exact aT ilu)]
    by_cases c3:iN∈S.ak.map (·.1)
    ·rw[ze c3]
     rw[if_neg (fun z=>z c3)] at kk;exists by show 1<=sizeLine;omega,?_
     intros p3 H3 s3 h3;refine⟨a,p3,S,o,[b],rfl,sc.mono (s2.trans s3),aH.of h3,(by show 1<=1000000;decide),fun H4 s4=>?_⟩;have s04:=(s2.trans s3).trans s4;cases qb:S.has [b] with
     | false=>
      rw[qb] at kk;change kk _ s04
     | true=>
      rw[qb,if_neg (by simp)] at kk;exists h,vs,rfl,.inl (aH.of ((s3.trans s4) _ _ hh)),?_;rw[aT ilh];left
      by_cases c4:20<=l.length
      ·refine b9 (ze nofun) ?_
       rw[if_pos c4] at kk;change kk _ s04
      ·refine cq (zd nofun) ?_
       rw[if_neg c4] at kk;change kk _ s04
    ·rw[zd c3]
     rw[if_pos c3] at kk;change kk _ s2
   ·rw[zd c2]
    rw[if_pos c2] at kk;change kk _ s2
def FQ {H:Hp} {x:Str×List Str} {v:V} (h:Is H (gF x) v):∃a q,v=.ref a/\H a=some (.tup [.str x.1,.ref q])/\H q=some (.tup (x.2.map V.str)):=by
 unfold gF Is at h;obtain⟨a,vs,rfl,ha,hl⟩:=h;unfold aB at hl;obtain⟨v1,r1,rfl,h1,hl⟩:=hl;unfold aB at hl;obtain⟨v2,r2,rfl,h2,hl⟩:=hl;unfold aB at hl;subst hl;unfold Is at h1;subst h1;unfold nh Is at h2;obtain⟨q,us,rfl,hq,hl⟩:=h2;rw[dM hl] at hq;exact⟨a,q,rfl,ha,hq⟩
def QL {H:Hp} {x:Str×List Str} {v:V} (h:Is H (Po x) v):∃q,v=.ref q/\H q=some (.tup (x.2.map V.str)):=by
 unfold Po nh Is at h;obtain⟨q,us,rfl,hq,hl⟩:=h;rw[dM hl] at hq;exact⟨q,rfl,hq⟩
inductive FT (C:Addr) (vs:List V) (H:Hp) (Q:VK) (E:XK):Prop
 | mk (a:Addr) (S:cG) (o:Ow) (v ub jm:V) (x:Str×List Str) (ob:Obj) (us:List V) (_:vs=[.ref a,v]) (_:H a=some (.ins C o.dx (Ob o ub jm))) (_:H o.pl=some (.lst (S.players.map V.str))) (_:JG H o.st ob ((S.aJ.map fun x=>kS x.1).zip us)) (_:aB H (S.aJ.map Po) us) (_:Is H (gF x) v) (_:x.2.length<=1000) (_:∀H',au H H'->Q (os (fault S (.cw x.1 x.2))) H')
theorem HX {α β:Type}:∀{l:List α} {m:List β} {i:Nat} {p:α×β},(l.zip m)[i]?=some p->l[i]?=some p.1/\m[i]?=some p.2
 | [],_,_,_,h=>by simp at h
 | _::_,[],_,_,h=>by simp at h
 | _::_,_::_,0,_,h=>by simp at h;subst h;exact⟨rfl,rfl⟩
 | _::l,_::m,i+1,_,h=>by
  rw[List.zip_cons_cons] at h
  simpa using HX (l:=l) (m:=m) (i:=i) (by simpa using h)
def N1 {α:Type} {p:α->Bool} {l:List α} {i:Nat} {x:α} (h:l[i]?=some x) (hn:(l.take i).any p=false) (hx:p x=false):(l.take (i+1)).any p=false:=by
 rw[dH h,List.any_append,hn];simp[hx]
def N2 {α:Type} {p:α->Bool} {l:List α} {i:Nat} {x:α} (h:l[i]?=some x) (hx:p x=true):l.any p=true:=yn.mpr ⟨x,zB h,hx⟩
def jk:aD ["score","told","players","others"] ["score","told"] (ao pW):=dB
def Gs {C:Addr} (F:Cf K C):cY P w base 1 T.gY (FT C):=by
 nomatch T.gY,jk
 obtain⟨a,S,o,v,ub,jm,x,ob,us,rfl,ho,hpl,fz,ilu,iv,x5,kk⟩:=h;obtain⟨a1,q,rfl,h1,hq⟩:=FQ iv;have sl:=yB;have ul:=aT ilu;have em:(S.aJ.map fun x=>kS x.1)=(S.aJ.map (·.1)).map kS:=by rw[zA];rfl
 unfold fault at kk;dsimp only at kk;refine⟨_,(ag (bU 2 jk.nd (bV (pv 1) ae))
  (ag (aI (PW.pt (eO (bB (Ag (iK hr) (bV (pv 1) ae) (bF (pv 0) rfl))) (dC (ptr fo (eK LA T.bA (ah (nJ (Ly rfl) T.Sh (ah (pv 2) af)) af)) (eK aC T.bA (ah (pv 2) af))))))
  (aj (aq aK))
  ax)
  (ag (cy PassesOwn.never rfl (KZ (bF (pv 0) rfl)) (jP 3 jk.nd)
  (aj (aI (cD (eK (gI rfl) T.Au (ah (nA (ts:=["player"]) (ys:=["others"]) (js:=[3]) (te:=(fu (RD K false) (aV 0) (aV 1))) (kB (pv 2)) (fU 0) bg (dS pf (pv 0) (pv 1) (by with_unfolding_all rfl))) af)))
   (aj (aq aK))
   ax)))
  (ag (aI (cD (eK (gI rfl) T.Au (ah (nA (ts:=["player"]) (ys:=["score"]) (js:=[0]) (te:=(fu (RD K true) (aV 0) (Ot K (aV 1) "players"))) (kB (pv 2)) (fU 0) bg (dS d5 (pv 0) (bF (pv 1) rfl) (by with_unfolding_all rfl))) af)))
  (aj (aq aK))
  ax)
  (aj (aq aQ)))))),?_⟩
 ac_rfl;exists a,C,o.dx,_,_,rfl,ho,F.cls,F.aJ,rfl,?_;refine⟨o.st,_,rfl,.inl ⟨_,kS x.1,.inr ⟨_,fz⟩,rfl,rfl⟩,?_⟩;rw[em,rN x.1 (by rw[za];exact ul)]
 by_cases c1:x.1∈S.aJ.map (·.1)
 ·rw[ze c1]
  rw[if_pos c1] at kk;change kk _ (au.refl _)
 ·rw[zd c1]
  rw[if_neg c1] at kk;exists q,x.2,rfl,dA.of hq,x5,fun p2 n2=>?_;have s2:au H (upd H p2 (HQ p2 (gE x.2).length)):=aS n2;have h2:upd H p2 (HQ p2 (gE x.2).length) p2=some (HQ p2 (gE x.2).length):=ay;generalize upd H p2 (HQ p2 (gE x.2).length)=H2 at s2 h2 ⊢;obtain⟨d1,d2⟩:=G6 x.2;refine⟨p2,_,rfl,h2,nofun,?_⟩;exists q,_,rfl,.inr (dA.of (s2 _ _ hq)),?_;rw[za];left
  by_cases c2:x.2.Nodup
  ·refine cq (zd (by have:=d2.mpr c2;omega)) ?_
   rw[if_neg (fun z=>z c2)] at kk;exists a,C,o.dx,_,_,rfl,s2 _ _ ho,F.cls,F.aJ,rfl,?_;refine⟨o.st,ob,_,rfl,s2 _ _ fz,?_⟩;refine IY (fun i σ H'=>au H H'/\(S.aJ.take i).any (fun q=>x.2.any fun p=>decide (p∈q.2))=false/\∃u,σ=[some (.ref a),some (.ref a1),some (.ref q),u]) ⟨s2,rfl,none,rfl⟩ (fun i σ H' _ h=>h.1 _ _ fz) ?_ ?_
   ·intro i p σ H3 hp hh
    refine cT fun N kN0 kR0 _ _=>?_;obtain⟨s3,hn,u,rfl⟩:=hh;obtain⟨_,hp2⟩:=HX hp;obtain⟨st,hst,ist⟩:=dY ilu hp2;obtain⟨r,er,hr'⟩:=QL ist;rw[er];exists⟨_,dA.of (s3 _ _ hq)⟩,?_;refine gG (enc:=V.str) (ws:=x.2) (fun z=>.bl (decide (z∈st.2))) (fun σ=>∃v,σ=[v,some (.ref r)]) nofun (s3 _ _ hq) ⟨none,rfl⟩ ?_ ?_
    ·rintro z σ H4 R hz s4 ⟨_,rfl⟩ rr
     exists r,_,rfl,.inr (dA.of ((s3.trans s4) _ _ hr')),rfl,gD _,?_;refine rr _ _ _ (au.refl _) ?_ ⟨_,rfl⟩;rw[if_neg (by simp),jE];unfold Is;rfl
    ·intro D vs H4 s4 hD il
     have e:x.2.map (fun z=>Dt.bl (decide (z∈st.2)))=(x.2.map fun z=>decide (z∈st.2)).map Dt.bl:=by rw[zA];rfl
     rw[e] at il;rw[iA il] at hD;refine⟨D,_,rfl,aH.of hD,?_⟩;have e2:(x.2.map fun z=>decide (z∈st.2)).any id=x.2.any fun p=>decide (p∈st.2):=by rw[List.any_map];rfl
     rw[e2];cases qc:x.2.any fun p=>decide (p∈st.2) with
     | true=>
      rw[if_pos (N2 hst (p:=fun q:Str×List Str=>x.2.any fun p=>decide (p∈q.2)) qc)] at kk;change kk _ (s3.trans s4)
     | false=>
      change⟨s3.trans s4,N1 hst hn qc,_,rfl⟩
   ·rintro σ H3 ⟨s3,hn,u,rfl⟩
    rw[List.length_zip,za,ul,Nat.min_self,zM] at hn;rw[hn,if_neg (by simp)] at kk;exists⟨_,dA.of (s3 _ _ hq)⟩,?_;refine gG (enc:=V.str) (ws:=x.2) (fun z=>.bl (!decide (z∈S.players))) (fun σ=>∃v,σ=[v,some (.ref a)]) nofun (s3 _ _ hq) ⟨none,rfl⟩ ?_ ?_
    ·rintro z σ H4 R hz s4 ⟨_,rfl⟩ rr
     exists a,C,o.dx,_,_,rfl,(s3.trans s4) _ _ ho,F.cls,F.players,rfl,?_;refine⟨o.pl,_,rfl,.inl (aH.of ((s3.trans s4) _ _ hpl)),rfl,gD _,?_⟩;refine rr _ _ _ (au.refl _) ?_ ⟨_,rfl⟩;show Is H4 _ (V.bl (!Fx (.str z) (S.players.map V.str)));rw[jE];unfold Is;rfl
    ·intro D vs H4 s4 hD il
     have e:x.2.map (fun z=>Dt.bl (!decide (z∈S.players)))=(x.2.map fun z=>!decide (z∈S.players)).map Dt.bl:=by rw[zA];rfl
     rw[e] at il;rw[iA il] at hD;refine⟨D,_,rfl,aH.of hD,?_⟩;have e2:(x.2.map fun z=>!decide (z∈S.players)).any id=x.2.any fun p=>!decide (p∈S.players):=by rw[List.any_map];rfl
     rw[e2];cases qc:x.2.any fun p=>!decide (p∈S.players) with
     | true=>
      rw[qc,if_pos rfl] at kk;change kk _ (s3.trans s4)
     | false=>
      rw[qc,if_neg (by simp)] at kk;change kk _ (s3.trans s4)
  ·refine b9 (ze (by have:(gE x.2).length≠x.2.length:=fun z=>c2 (d2.mp z);omega)) ?_
   rw[if_pos c2] at kk;change kk _ s2
def nV (C:Addr):Sp:=fE C fun H v S f=>∃x,Is H (gF x) v/\x.2.length<=1000/\f=fault S (.cw x.1 x.2)
def NG {H:Hp} {d:Addr} {o:Obj} {u:HO} (hd:H d=some u) (nt:cS (some u)) {l:List Dt} {vs:List V} (h:aB H l vs):aB (upd H d (.nK o u)) l vs:=aB.upd (by rw[hd];exact nt) h
def F4 {H H':Hp} {d:Addr} {o:Obj} {u:HO} (hd:H d=some u) (s:au (upd H d (.nK o u)) H'):au H (upd H' d u):=fun b z hb=>by
 by_cases e:b=d
 ·subst e;rw[ay,<-hd,hb]
 ·rw[aE e];exact s b z (by rw[aE e];exact hb)
def Al {C:Addr} (F:Cf K C):cY P w base 1 T.gY (nV C):=by
 refine(Gs (P:=P) (w:=w) (base:=base) T F).PK (fun vs H Q E h=>?_) (fun vs H Q E h=>?_)
 ·obtain⟨_,_,_,_,_,rfl,_⟩:=h;rfl
 ·obtain⟨a,S,o,v,f,rfl,sc,⟨x,iv,x5,rfl⟩,kk⟩:=h
  obtain⟨us,hu,ilu⟩:=sc.st;obtain⟨ub,jm,ho,hub,hjm⟩:=sc.obj;have nt:cS (some (HO.dK ((S.aJ.map fun x=>kS x.1).zip us))):=fun vs z=>by cases z
  have na:a≠o.st:=fun z=>by rw[z,hu] at ho;cases ho
  have np:o.pl≠o.st:=fun z=>by have:=sc.pl;rw[z,hu] at this;cases this
  refine⟨o.st,_,hu,rfl,fun ob=>⟨a,S,o,v,ub,jm,x,ob,us,rfl,by rw[aE na];exact ho,by rw[aE np];exact sc.pl,ay,NG hu nt ilu,Is.upd (by rw[hu];exact nt) iv,x5,fun H' s'=>kk _ (F4 hu s')⟩⟩
def Qa (S:cG):Prop:=∀b∈S.aM,Kr b
inductive DK (C:Addr) (vs:List V) (H:Hp) (Q:VK) (E:XK):Prop
 | mk (a:Addr) (S:cG) (o:Ow) (v ub jm:V) (x:Int×Int) (ob:Obj) (us:List V) (_:vs=[.ref a,v]) (_:H a=some (.ins C o.dx (Ob o ub jm))) (_:Is H (dO dL S.aG) ub) (_:Te C H a S o) (_:H o.no=some (.nK ob (.dT ((S.aF.map fun x=>kN x.1).zip us)))) (_:us.length=S.aF.length) (_:S.aF.length<=1000000) (_:Is H (dL x) v) (_:Bv 8999 x) (_:Qa S) (_:∀H',au H H'->Q (os (fault S (.aG x))) H')
def Ni {S:cG} (h:Qa S) (b:Nat) (hb:b<S.aM.length):Bv 8999 (S.aR b):=by
 unfold cG.aR;rw[zb hb];obtain⟨k1,k2,k3,k4⟩:=h _ (yk hb);obtain⟨g,g1,g2,g3,g4,g5⟩:=lR (t:=S.aM[b].aR.1) k3;have r0:=y8 (t:=S.aM[b].aR.1) (b:=S.aM[b].aR.2) k1;have r1:=y9 (t:=S.aM[b].aR.1) (b:=S.aM[b].aR.2) k1;dsimp only;exact⟨(du (n:=10) r0 nofun).mono ∅,(du (n:=10) nofun nofun).mono ∅⟩
def wx:aD ["score","length"] ["score","length"] (ao oh):=dB
def Eh {C:Addr} (F:Cf K C):cY P w base 4 T.fW (DK C):=by
 nomatch T.fW,wx
 obtain⟨a,S,o,v,ub,jm,x,ob,us,rfl,ho,hub,sb,fz,ul,n6,iv,zx,bok,kk⟩:=h;have sl:=yB;unfold fault at kk;dsimp only at kk;refine⟨_,(ag (aI (bB (gN (bF (pv 0) rfl)))
  (aj (aq aK))
  ax)
  (ag (aI (ptr dj (eK aC T.bA (ah (bF (pv 0) rfl) af)) ae)
  (aj (aq aK))
  ax)
  (ag (aI (eJ (cD (bM (ID T) hr T.DT (ah (pv 1) (ah (bM (m6 T F) hr T.iU (ah (pv 0) (ah ae af))) af)))))
  (aj (aq aK))
  ax)
  (ag (aI (cD (eK (gI rfl) T.Au (ah (nA (ts:=["place"]) (ys:=[]) (js:=[]) (te:=(fu S9 (fu (lU K) (aV 0) (tC (.int (0)))) (tC (.int (0))))) (OP (bF (pv 0) rfl)) (fU 0) bg (dS dj (bV (pv 0) ae) ae (iw _))) af)))
  (aj (aq aK))
  ax)
  (aj (aq aQ)))))),?_⟩
 ac_rfl;exists a,C,o.dx,_,_,rfl,ho,F.cls,F.aG,rfl,?_;cases q:S.aG with
 | some u=>
  rw[q,if_pos (show(some u).isSome=true from rfl)] at kk;rw[q] at hub;cases fw (o:=some u) hub with
  | ref hu=>
   change kk _ (au.refl _)
 | none=>
  rw[q,if_neg (by simp)] at kk;rw[q] at hub;unfold dO Is at hub;subst hub;obtain⟨vs,hv,il⟩:=sb.ba;cases fw (o:=some x) iv with
  | ref hx=>
  rename_i a1;exists a,C,o.dx,_,_,rfl,ho,F.cls,F.aM,rfl,?_;exists o.ba,vs,rfl,.inl (aH.of hv),?_;rw[aT il];left
  by_cases c1:S.aM.length=0
  ·refine b9 (by rw[c1];rfl) ?_
   rw[if_pos c1] at kk;change kk _ (au.refl _)
  ·refine cq (zd fun z=>c1 (by have:=V.int.inj z;omega)) ?_
   rw[if_neg c1] at kk;exists a,S,o,0,rfl,sb,nofun,bok,fun p H1 s1 h1=>?_;refine⟨_,_,_,_,rfl,s1 _ _ hx,h1,zx,Ni bok 0 nofun,?_⟩
   by_cases c2:x.1*(S.aR 0).2<(S.aR 0).1*x.2
   ·rw[ze c2]
    rw[if_neg (fun z=>z c2)] at kk;exists a,C,o.dx,_,_,rfl,s1 _ _ ho,F.cls,F.aF,rfl,?_;refine⟨o.no,ob,_,_,rfl,⟨_,s1 _ _ fz,.inr ⟨_,rfl,rfl,rfl⟩⟩,?_⟩;have kl:((S.aF.map fun x=>kN x.1).zip us).length=S.aF.length:=by rw[List.length_zip,za,ul,Nat.min_self]
    refine A2 (ws:=S.aF) (fun p x H=>∃b,x=.ref b/\H b=some (.tup [.int p.1.1,.str p.1.2])) (fun p=>.bl (decide (p.1.1=0))) (fun σ=>∃v,σ=[v]) nofun ⟨none,rfl⟩ (fun i H2 hi s2=>⟨⟨_,s2 _ _ (s1 _ _ fz),.inr ⟨_,rfl,rfl,rfl⟩⟩,nofun⟩) (fun H2 s2=>⟨⟨_,s2 _ _ (s1 _ _ fz),.inr ⟨_,rfl,rfl,rfl⟩⟩,nofun⟩) ?_ ?_ ?_
    ·rintro i y H2 H3 hi s2 ⟨rfl,p,b,hp,hb,rfl⟩
     refine⟨au.refl _,b,rfl,?_⟩;obtain⟨z1,_⟩:=HX hp;rw[zJ,zb hi] at z1;simp only[Option.map_some,Option.some.injEq] at z1;rw[<-z1] at hb;exact hb
    ·rintro p y σ H2 R hp s2 ⟨b,rfl,hb⟩ ⟨_,rfl⟩ r
     left;refine r _ _ _ (au.refl _) ?_ ⟨_,rfl⟩;rw[show decide (V.int p.1.1=V.int 0)=decide (p.1.1=0) from by by_cases h:p.1.1=0 <;> simp[h]];unfold Is;rfl
    ·intro D vs H4 s4 hD il
     have e:S.aF.map (fun p=>Dt.bl (decide (p.1.1=0)))=(S.aF.map fun p=>decide (p.1.1=0)).map Dt.bl:=by rw[zA];rfl
     rw[e] at il;rw[iA il] at hD;refine⟨D,_,rfl,aH.of hD,?_⟩;have e2:(S.aF.map fun p=>decide (p.1.1=0)).any id=S.aF.any fun p=>decide (p.1.1=0):=by rw[List.any_map];rfl
     rw[e2];cases qc:S.aF.any fun p=>decide (p.1.1=0) with
     | true=>
      rw[qc,if_pos rfl] at kk;change kk _ (s1.trans s4)
     | false=>
      rw[qc,if_neg (by simp)] at kk;change kk _ (s1.trans s4)
   ·rw[zd c2]
    rw[if_pos c2] at kk;change kk _ s1
def mH (C:Addr):Sp:=fE C fun H v S f=>∃x,Is H (dL x) v/\Bv 8999 x/\Qa S/\S.aF.length<=1000000/\f=fault S (.aG x)
def wD {C:Addr} (F:Cf K C):cY P w base 4 T.fW (mH C):=by
 refine(Eh (P:=P) (w:=w) (base:=base) T F).PK (fun vs H Q E h=>?_) (fun vs H Q E h=>?_)
 ·obtain⟨_,_,_,_,_,rfl,_⟩:=h;rfl
 ·obtain⟨a,S,o,v,f,rfl,sc,⟨x,iv,zx,bok,n6,rfl⟩,kk⟩:=h
  obtain⟨hn,ln⟩:=sc.no;obtain⟨ub,jm,ho,hub,hjm⟩:=sc.obj;obtain⟨bs,hb,ilb⟩:=sc.ba;have nt:cS (some (HO.dT ((S.aF.map fun x=>kN x.1).zip (o.ns.map V.ref)))):=fun vs z=>by cases z
  have na:a≠o.no:=fun z=>by rw[z,hn] at ho;cases ho
  have nb:o.ba≠o.no:=fun z=>by rw[z,hn] at hb;cases hb
  have ho':∀ob,upd H o.no (.nK ob (.dT ((S.aF.map fun x=>kN x.1).zip (o.ns.map V.ref)))) a=some (.ins C o.dx (Ob o ub jm)):=fun ob=>by rw[aE na];exact ho
  refine⟨o.no,_,hn,rfl,fun ob=>⟨a,S,o,v,ub,jm,x,ob,o.ns.map V.ref,rfl,ho' ob,Is.upd (by rw[hn];exact nt) hub,⟨⟨ub,jm,ho' ob⟩,bs,by rw[aE nb];exact hb,NG hn nt ilb⟩,ay,by rw[za,lj ln,za],n6,Is.upd (by rw[hn];exact nt) iv,zx,bok,fun H' s'=>kk _ (F4 hn s')⟩⟩
noncomputable def qF:Told->Str
 | .bE _=> "player"
 | .cN _ _ _=> "instrument"
 | .cw _ _=> "staff"
 | .bar _=> "bar"
 | .aG _=> "upbeat"
 | .holds _ _ _=> "holds"
 | .aF _ _ _=> "notes"
 | .rep _=> "repeat"
 | .ck _=> "jump"
def Rw (S:cG):Told->Prop
 | .cw _ ps=>ps.length<=1000
 | .aG l=>Bv 8999 l/\Qa S/\S.aF.length<=1000000
 | .aF b _ its=>0<=b/\its.length<=500/\(∀it∈its,Og it.2)/\Qa S
 | .rep r=>Ih r.ends<64/\r.ends.length<=1000/\-1000000<=r.times/\r.times<=1000000
 | .ck _=>Fp S
 | _=>True
inductive L0 (K:yA) {mg:Str->Option Value} (T:Txt K mg) (C:Addr):Addr->Sp->Prop where
 | bE:L0 K T C T.gr (mJ C)
 | cN:L0 K T C T.d9 (iF C)
 | cw:L0 K T C T.gR (nV C)
 | bar:L0 K T C T.km (rQ C)
 | aG:L0 K T C T.gn (mH C)
 | holds:L0 K T C T.i7 (pR C)
 | aF:L0 K T C T.gX (nX C)
 | rep:L0 K T C T.gq (mI C)
 | ck:L0 K T C T.i6 (pQ C)
noncomputable def P4 {K:yA} {mg:Str->Option Value} (T:Txt K mg):List (Str×V):=[("player",V.ref T.gr),("instrument",.ref T.d9),("staff",.ref T.gR),("bar",.ref T.km),("upbeat",.ref T.gn),("holds",.ref T.i7),("notes",.ref T.gX),("repeat",.ref T.gq),("jump",.ref T.i6)]
def NF (K:yA) {mg:Str->Option Value} (T:Txt K mg) (C:Addr) (t:Told):∃f D,ud (P4 T) (qF t)=some (.ref f)/\L0 K T C f (fE C D)/\∀H0 H v S,gK H0 H v (some t)->Rw S t->D H v S (fault S t):=by
 cases t with
 | bE n=>exact⟨_,_,rfl,.bE,fun H0 H v S h1 h2=>⟨n,h1,rfl⟩⟩
 | cN n t l=>exact⟨_,_,rfl,.cN,fun H0 H v S h1 h2=>⟨(n,t,l),h1,rfl⟩⟩
 | cw n ps=>exact⟨_,_,rfl,.cw,fun H0 H v S h1 h2=>⟨(n,ps),h1,h2,rfl⟩⟩
 | bar b=>exact⟨_,_,rfl,.bar,fun H0 H v S h1 h2=>⟨b,rfl⟩⟩
 | aG l=>exact⟨_,_,rfl,.aG,fun H0 H v S h1 h2=>⟨l,h1,h2.1,h2.2.1,h2.2.2,rfl⟩⟩
 | holds p b i=>exact⟨_,_,rfl,.holds,fun H0 H v S h1 h2=>⟨(p,b,i),h1,rfl⟩⟩
 | aF b p its=>exact⟨_,_,rfl,.aF,fun H0 H v S h1 h2=>⟨(b,p,its),jd.at h1,h2.1,h2.2.1,h2.2.2.1,h2.2.2.2,rfl⟩⟩
 | rep r=>exact⟨_,_,rfl,.rep,fun H0 H v S h1 h2=>⟨r,h1,h2.1,h2.2.1,h2.2.2.1,h2.2.2.2,rfl⟩⟩
 | ck j=>exact⟨_,_,rfl,.ck,fun H0 H v S h1 h2=>⟨j,h1,h2,rfl⟩⟩
def Mi {H0 H:Hp} {v:V} {t:Told} (h:gK H0 H v (some t)):v≠.bI:=by
 have tp:∀l,Is H (.tup l) v->v≠.bI:=fun l z=>by
  unfold Is at z;obtain⟨a,vs,e,_⟩:=z;rw[e];simp
 cases t with
 | bE n=>have e:v=.str n:=h;rw[e];simp
 | cN n t l=>exact tp _ h
 | cw n ps=>exact tp _ h
 | bar b=>exact tp _ h
 | aG l=>exact tp _ h
 | holds p b i=>exact tp _ h
 | aF b p its=>obtain⟨a,_,_,e,_⟩:=h;rw[e];simp
 | rep r=>exact tp _ h
 | ck j=>exact tp _ h
noncomputable def NK (S:cG):Option Told->Option Str
 | none=>some "row"
 | some t=>fault S t
inductive FX (C:Addr) (vs:List V) (H:Hp) (Q:VK) (E:XK):Prop
 | mk (a:Addr) (S:cG) (o:Ow) (x:Str) (v:V) (H0:Hp) (t:Option Told) (_:vs=[.ref a,.str x,v]) (_:bW C H a S o) (_:gK H0 H v t) (_:(∀t',t=some t'->x=qF t'/\Rw S t')) (_:∀H',au H H'->Q (os (NK S t)) H')
def vw:aD ["score","sort","told","finder"] ["score","sort","told"] (ao qM):=dB
def Gy (B:Dk P w K T) {C:Addr} (F:Cf K C):cY P w base 6 T.AG (FX C):=by
 refine T.AG.F.Ta vw fun cdv A' outer s H vs Q E hr h=>?_
 ·obtain⟨a,S,o,x,v,H0,t,rfl,sc,tv,fit,kk⟩:=h
  have hTbV:∀f sp,L0 K T C f sp->RA (kG HU P w K mg base ["score","sort","told","finder"] "fault_of" (ao qM) T.Bi cdv A' outer s H E).IG HU 5 f sp:=by
   intro f sp h;cases h with
   | bE=>exact⟨_,_,L2.dP.mono (wG T F) ∅,T.iS.F.kp,T.iS.b⟩
   | cN=>exact⟨_,_,L2.dP.mono (pL T F) ∅,T.fi.F.kp,T.fi.b⟩
   | cw=>exact⟨_,_,L2.dP.mono (Al T F) ∅,T.gY.F.kp,T.gY.b⟩
   | bar=>exact⟨_,_,L2.dP.mono (Er T F) ∅,T.pC.F.kp,T.pC.b⟩
   | aG=>exact⟨_,_,L2.dP.mono (wD T F) ∅,T.fW.F.kp,T.fW.b⟩
   | holds=>exact⟨_,_,L2.dP.mono (BY T F) ∅,T.mf.F.kp,T.mf.b⟩
   | aF=>exact⟨_,_,L2.dP.mono (Aq T F) ∅,T.j9.F.kp,T.j9.b⟩
   | rep=>exact⟨_,_,L2.dP.mono (wF T F) ∅,T.iQ.F.kp,T.iQ.b⟩
   | ck=>exact⟨_,_,L2.dP.mono (BX T F) ∅,T.l8.F.kp,T.l8.b⟩
  refine⟨_,(ag (aI (bB (cI (pv 2)))
   (aj (aq aK))
   ax)
   (ag (bU 3 vw.nd (Gk (bY (v:=.ref T.sN) (by rfl) T.NW rfl) (pv 1) (fun _ _=>rfl)))
   (aj (aq (Gn (L0 K T C) hTbV (hr.mono ∅) (pv 3) J1 (ah (pv 0) (ah (pv 2) af))))))),?_⟩
  ac_rfl;left;cases t with
  | none=>
   have e:v=.bI:=tv;subst e;change kk _ (au.refl _)
  | some t=>
   obtain⟨ex,ft⟩:=fit t rfl;subst ex;obtain⟨f,D,ev,htb,hd⟩:=NF K T C t;have ne:=Mi tv;rw[zd ne];exists T.sN,P4 T,qF t,_,rfl,B.Rj,rfl,ev,?_;exists f,_,rfl,htb,?_;change⟨a,S,o,v,_,rfl,sc,hd H0 H v S tv ft,kk⟩
def HE {hs:List (Str×List (Int×Str))} {p:Str} {h:Int×Str} (fr:p∉hs.map (·.1)):fm (hs++[(p,[])]) p h=fm hs p h:=by
 unfold fm;rw[if_neg fr,if_pos (by rw[zj];exact zH _ (zy.mpr rfl)),zj];have e:(hs.map fun q:Str×List (Int×Str)=>if q.1=p then(q.1,q.2++[h]) else q)=hs:=by
  conv=>rhs;rw[<-List.map_id hs]
  refine List.map_congr_left fun q hq=>?_;rw[if_neg (fun z=>fr (by rw[<-z];exact zO (f:=fun x:Str×List (Int×Str)=>x.1) hq))];rfl
 rw[e];simp
def rH (S:cG):Prop:=(S.holds.map (·.1)).Nodup/\S.holds.length<=1000000/\∀q∈S.holds,q.2.length<=1000000
inductive FY (C:Addr) (vs:List V) (H:Hp) (Q:VK) (E:XK):Prop
 | mk (a:Addr) (S:cG) (o:Ow) (v:V) (pn:Str) (b:Int) (i:Str) (_:vs=[.ref a,v]) (_:bW C H a S o) (_:Is H (vW (pn,b,i)) v) (_:rH S) (_:∀H' o',bW C H' a (bJ S (.holds pn b i)) o'->xq (own a o) H H'->(∀x∈own a o',x∈own a o\/H x=none)->Q .bI H')
def tw {o:Ow} {a x:Addr} (h:x∈o.lists):x∈own a o:=by
 unfold Ow.lists at h;unfold own;rw[zF,zF] at h ⊢;rcases h with(h | h) | h
 ·refine .inl (.inl ?_)
  simp only[zC,zD,or_false] at h ⊢;rcases h with h | h | h <;> simp[h]
 ·exact .inl (.inr h)
 ·exact .inr h
def Na {C a x:Addr} {H:Hp} {S:cG} {o:Ow} (h:bW C H a S o) (hx:x∈own a o):∃u,H x=some u:=by
 obtain⟨_,_,ha,_⟩:=h.obj;obtain⟨_,hi,_⟩:=h.ins;obtain⟨_,hs,_⟩:=h.st;obtain⟨_,hb,_⟩:=h.ba;obtain⟨_,hr,_⟩:=h.re;unfold own at hx;rw[zF,zF] at hx;rcases hx with(hx | hx) | hx
 ·simp only[zC,zD,or_false] at hx
  rcases hx with rfl | rfl | rfl | rfl | rfl | rfl | rfl | rfl
  ·exact⟨_,ha⟩
  ·exact⟨_,h.pl⟩
  ·exact⟨_,hi⟩
  ·exact⟨_,hs⟩
  ·exact⟨_,hb⟩
  ·exact⟨_,h.ho.1⟩
  ·exact⟨_,h.no.1⟩
  ·exact⟨_,hr⟩
 ·obtain⟨vs,e⟩:=cJ h.ho.2 hx
  exact⟨_,e⟩
 ·obtain⟨vs,e⟩:=cJ h.no.2 hx
  exact⟨_,e⟩
def Ef {C a x:Addr} {H:Hp} {S:cG} {o:Ow} (h:bW C H a S o) (hx:H x=none):x∉own a o:=fun z=>by
 obtain⟨u,e⟩:=Na h z;rw[hx] at e;cases e
def GL {hs:List (Str×List (Int×Str))} {as:List Addr} {H:Hp} {x:Addr} {vs:List V} (hL:cm H Kg (hs.map (·.2)) as) (hx:x∈as) (hH:H x=some (.lst vs)) (hb:∀q∈hs,q.2.length<=1000000):vs.length<=1000000:=by
 induction hs generalizing as with
 | nil=>unfold cm at hL;rw[hL] at hx;simp at hx
 | cons q r ih=>
  rw[zh] at hL;obtain⟨a,t,us,rfl,h1,h2,h3⟩:=hL;rcases zC.mp hx with rfl | hx
  ·rw[h1] at hH;cases hH
   have:=aT h2;have:=hb q zp;omega
  ·exact ih h3 hx fun q hq=>hb q (zm _ hq)
def F3:aD ["score","told"] ["score","told"] (ao yY):=dB
def GA {C:Addr} (F:Cf K C):cY P w base 1 T.Bc (FY C):=by
 nomatch T.Bc,F3
 obtain⟨a,S,o,v,pn,b,i,rfl,sc,iv,⟨nk,hl,hb⟩,kk⟩:=h;obtain⟨a1,rfl,h1⟩:=J8 iv;have sl:=yB;obtain⟨ub,jm,ho,hub,hjm⟩:=sc.obj;have em:(S.holds.map fun x=>kS x.1)=(S.holds.map (·.1)).map kS:=by rw[zA];rfl
 have ll:(o.hs.map V.ref).length=(S.holds.map (·.1)).length:=by rw[za,za,lj sc.ho.2,za]
 dsimp only at h1;refine⟨_,(ag (aI (bB (o9 (iK hr) (bV (pv 1) ae) (bF (pv 0) rfl)))
  (aj (sR (iK hr) (bF (pv 0) rfl) (bV (pv 1) ae) (bq af) rfl))
  ax)
  (aj (bK (b7 yC yE yD bw (OR (iK hr) (bF (pv 0) rfl) (bV (pv 1) ae) (fun _ _=>rfl)) (ah (bj (ah (bV (pv 1) ae) (ah (bV (pv 1) ae) af))) af))))),?_⟩
 ac_rfl;exists a,C,o.dx,_,_,rfl,ho,F.cls,F.holds,rfl,?_;refine⟨o.ho,_,rfl,.inl ⟨_,kS pn,.inl sc.ho.1,rfl,rfl⟩,?_⟩;rw[em,rN pn ll]
 by_cases c1:pn∈S.holds.map (·.1)
 ·rw[ze c1]
  obtain⟨x,us,e1,e2,e3,e4⟩:=sc.pj nk c1;exists a,C,o.dx,_,_,rfl,ho,F.cls,F.holds,rfl,?_;exists o.ho,_,rfl,.inl ⟨_,kS pn,.inl sc.ho.1,rfl,e1.symm⟩,?_;refine⟨.inl ⟨rfl,us,aH.of e3⟩,?_⟩;exists bZ,?_;intros p2 H2 s2 h2;refine⟨x,us,_,rfl,rfl,s2 _ _ e3,?_,?_⟩
  ·have:=GL sc.ho.2 e2 e3 hb
   omega
  ·obtain⟨x',us',f1,f2,f3,f4⟩:=(sc.mono s2).pj nk c1
   have ex:x=x':=by rw[f1] at e1;cases e1;rfl
   subst ex;have eu:us=us':=by have:=s2 _ _ e3;rw[f3] at this;cases this;rfl
   subst eu;change kk _ o (f4 _ b i (cE h2 (aN cL (aN eL cK)))) ((xq.of s2).trans (xq.upd (tw (by unfold Ow.lists;simp[e2])))) fun y hy=>.inl hy
 ·rw[zd c1]
  exists by show 0<=sizeLine;omega,?_
  intro p1 n1;have s1:au H (upd H p1 (.lst [])):=aS n1;have g1:upd H p1 (.lst []) p1=some (.lst []):=ay;generalize upd H p1 (.lst [])=H1 at s1 g1 ⊢;have sc1:=sc.mono s1;have h11:=s1 _ _ h1;have nl:p1∉o.lists:=fun z=>Ef sc n1 (tw z);exists a,C,o.dx,_,_,rfl,s1 _ _ ho,F.cls,F.holds,rfl,?_;left;refine⟨o.ho,_,rfl,.inl ⟨_,kS pn,sc1.ho.1,rfl,?_,rfl⟩,?_⟩
  ·rw[List.length_zip,za];omega
  have sc2:=sc1.Nf g1 nl c1;have nt1:cS (H1 o.ho):=by rw[sc1.ho.1];exact fun _ z=>by cases z
  have h12:upd H1 o.ho (.dK (putK ((S.holds.map fun x=>kS x.1).zip (o.hs.map V.ref)) (kS pn) (.ref p1))) a1=some (.tup [V.str pn,V.int b,V.str i]):=by rw[aE (Sc.bc h11 sc1.ho.1 (by simp[kindOf]))];exact h11
  have el:xq (own a o) H (upd H1 o.ho (.dK (putK ((S.holds.map fun x=>kS x.1).zip (o.hs.map V.ref)) (kS pn) (.ref p1)))):=(xq.of s1).trans (xq.upd (by unfold own;simp));generalize upd H1 o.ho (.dK (putK ((S.holds.map fun x=>kS x.1).zip (o.hs.map V.ref)) (kS pn) (.ref p1)))=H3 at sc2 h12 el ⊢;obtain⟨ub2,jm2,ho2,_,_⟩:=sc2.obj;have nk2:(({S with holds:=S.holds++[(pn,[])]}:cG).holds.map (·.1)).Nodup:=by
   show((S.holds++[(pn,[])]).map fun x:Str×List (Int×Str)=>x.1).Nodup;rw[zj,zR];exact⟨nk,by simp,fun x hx y hy e=>by simp at hy;subst hy;subst e;exact c1 hx⟩
  have c2:pn∈({S with holds:=S.holds++[(pn,[])]}:cG).holds.map (·.1):=by
   show pn∈(S.holds++[(pn,[])]).map fun x:Str×List (Int×Str)=>x.1;rw[zj];exact zH _ (zy.mpr rfl)
  obtain⟨x,us,e1,e2,e3,e4⟩:=sc2.pj nk2 c2;have hb2:∀q∈S.holds++[((pn,[]):Str×List (Int×Str))],q.2.length<=1000000:=fun q hq=>by
   rcases zF.mp hq with z | z
   ·exact hb q z
   ·rw[zy.mp z];exact yf _
  exists a,C,_,_,_,rfl,ho2,F.cls,F.holds,rfl,?_;exists o.ho,_,rfl,.inl ⟨_,kS pn,.inl sc2.ho.1,rfl,e1.symm⟩,?_;refine⟨.inl ⟨rfl,us,aH.of e3⟩,?_⟩;exists bZ,?_;intros p2 H4 s4 h4;refine⟨x,us,_,rfl,rfl,s4 _ _ e3,?_,?_⟩
  ·have:=GL sc2.ho.2 e2 e3 hb2
   omega
  ·obtain⟨x',us',f1,f2,f3,f4⟩:=(sc2.mono s4).pj nk2 c2
   have ex:x=x':=by rw[f1] at e1;cases e1;rfl
   subst ex;have eu:us=us':=by have:=s4 _ _ e3;rw[f3] at this;cases this;rfl
   subst eu;left;have ea:bJ {S with holds:=S.holds++[(pn,[])]} (.holds pn b i)=bJ S (.holds pn b i):=by
    show({S with holds:=fm (S.holds++[(pn,[])]) pn (b,i)}:cG)={S with holds:=fm S.holds pn (b,i)};rw[HE c1]
   have sf:=f4 _ b i (cE h4 (aN cL (aN eL cK)));rw[ea] at sf;have xin:x∈o.hs\/x=p1:=by
    have:x∈o.hs++[p1]:=e2;rw[zF,zy] at this;exact this
   refine kk _ _ sf (fun y u ny hy=>?_) fun y hy=>?_
   ·have hy4:=s4 _ _ (el y u ny hy)
    rw[aE]
    ·exact hy4
    ·intro z
     subst z;rcases xin with z | z
     ·exact ny (tw (by unfold Ow.lists;simp[z]))
     ·subst z;rw[n1] at hy;cases hy
   ·have:y∈own a o\/y=p1:=by
     unfold own at hy ⊢;simp only[zF,zC,zD,or_false] at hy ⊢;rcases hy with(hy | hy | hy) | hy
     ·exact .inl (.inl (.inl hy))
     ·exact .inl (.inl (.inr hy))
     ·exact .inr hy
     ·exact .inl (.inr hy)
    rcases this with z | z
    ·exact .inl z
    ·subst z;exact .inr n1
def vk (S:cG):Prop:=S.players.length<=1000000/\S.ak.length<=1000000/\S.aJ.length<=1000000/\S.aM.length<=1000000/\S.aF.length<=1000000/\S.repeats.length<=1000000
inductive Im (C:Addr) (vs:List V) (H:Hp) (Q:VK) (E:XK):Prop
 | mk (a:Addr) (S:cG) (o:Ow) (v:V) (H0:Hp) (t:Told) (_:vs=[.ref a,.str (qF t),v]) (_:bW C H0 a S o) (_:au H0 H) (_:gK H0 H v (some t)) (_:fault S t=none) (_:rH S) (_:vk S) (_:∀H' o',bW C H' a (bJ S t) o'->xq (own a o) H H'->(∀x∈own a o',x∈own a o\/H0 x=none)->Q .bI H')
def Ez {c:Prop} [Decidable c] {x:Str} {y:Option Str} (h:(if c then some x else y)=none):¬c/\y=none:=by
 by_cases e:c
 ·rw[if_pos e] at h;cases h
 ·rw[if_neg e] at h;exact⟨e,h⟩
theorem vS {H:Hp}:∀l:List Str,aB H (l.map Dt.str) (l.map V.str)
 | []=>cK
 | x::r=>aN eL (vS r)
def Iv:aD ["score","sort","told"] ["score","sort","told"] (ao CM):=dB
def IF {C:Addr} (F:Cf K C):cY P w base 2 T.Fd (Im C):=by
 nomatch T.Fd,Iv
 obtain⟨a,S,o,v,H0,t,rfl,sc0,s0,tv,fn,cb,⟨z1,z2,z3,z4,z5,z6⟩,kk⟩:=h;have sl:=yB;have sc:=sc0.mono s0;obtain⟨ub,jm,ho,hub,hjm⟩:=sc.obj;have me:∀x∈own a o,x∈own a o\/H0 x=none:=fun x hx=>.inl hx;refine⟨_,(aj (aI (ptr dj (pv 1) aK)
  (aj (bK (b7 yC yE yD bw (bF (pv 0) rfl) (ah (pv 2) af))))
  (aj (aI (ptr dj (pv 1) aK)
   (aj (sR (iK hr) (bF (pv 0) rfl) (bV (pv 2) ae) (bj (ah (bV (pv 2) ae) (ah (bV (pv 2) ae) af))) rfl))
   (aj (aI (ptr dj (pv 1) aK)
    (aj (sR (iK hr) (bF (pv 0) rfl) (bV (pv 2) ae) (bV (pv 2) ae) rfl))
    (aj (aI (ptr dj (pv 1) aK)
     (aj (bK (b7 yC yE yD bw (bF (pv 0) rfl) (ah (pv 2) af))))
     (aj (aI (ptr dj (pv 1) aK)
      (aj (jB (pv 0) (pv 2) rfl))
      (aj (aI (ptr dj (pv 1) aK)
       (aj (bK (bM (GA T F) hr T.Bc (ah (pv 0) (ah (pv 2) af)))))
       (aj (aI (ptr dj (pv 1) aK)
        (aj (sR (iK hr) (bF (pv 0) rfl) (bj (ah (bV (pv 2) ae) (ah (bV (pv 2) ae) af))) (bV (pv 2) ae) rfl))
        (aj (aI (ptr dj (pv 1) aK)
         (aj (bK (b7 yC yE yD bw (bF (pv 0) rfl) (ah (pv 2) af))))
         (aj (jB (pv 0) (pv 2) rfl)))))))))))))))))),?_⟩
 ac_rfl;cases t with
 | bE n=>
  have e:v=.str n:=tv;subst e;exists a,C,o.dx,_,_,rfl,ho,F.cls,F.players,rfl,?_;refine⟨.inl ⟨rfl,_,aH.of sc.pl⟩,?_⟩;exists o.pl,_,_,rfl,rfl,sc.pl,by rw[za];omega,?_
  change kk _ o (sc.Ju n) (xq.upd (by unfold own;simp)) me
 | cN n t l=>
  obtain⟨a1,t1,l1,rfl,h1,it,il⟩:=GO (x:=(n,t,l)) tv;have fr:=(Ez fn).1;exists bZ,?_;intros p2 H2 s2 h2;have sc2:=sc.mono s2;have h12:=s2 _ _ h1;obtain⟨vs,hv,ilv⟩:=sc2.ins;exists a,C,o.dx,_,_,rfl,s2 _ _ ho,F.cls,F.ak,rfl,?_;left;refine⟨o.ins,_,rfl,.inl ⟨_,kS n,hv,rfl,?_,rfl⟩,?_⟩
  ·rw[List.length_zip,za];omega
  exact kk _ o (sc2.LG hv ilv (cE h2 (aN (it.mono s2) (aN (il.mono s2) cK))) fr) ((xq.of s2).trans (xq.upd (by unfold own;simp))) me
 | cw n ps=>
  obtain⟨a1,q,rfl,h1,hq⟩:=FQ (x:=(n,ps)) tv;have fr:=(Ez fn).1;obtain⟨vs,hv,ilv⟩:=sc.st;exists a,C,o.dx,_,_,rfl,ho,F.cls,F.aJ,rfl,?_;left;refine⟨o.st,_,rfl,.inl ⟨_,kS n,hv,rfl,?_,rfl⟩,?_⟩
  ·rw[List.length_zip,za];omega
  exact kk _ o (sc.LD hv ilv (by unfold Po nh;exact cE hq (vS ps)) fr) (xq.upd (by unfold own;simp)) me
 | bar b=>
  obtain⟨vs,hv,ilv⟩:=sc.ba;have vl:=aT ilv;exists a,C,o.dx,_,_,rfl,ho,F.cls,F.aM,rfl,?_;refine⟨.inl ⟨rfl,_,aH.of hv⟩,?_⟩;exists o.ba,_,_,rfl,rfl,hv,nofun,?_;change kk _ o (sc.Pt hv ilv tv) (xq.upd (by unfold own;simp)) me
 | aG l=>
  exists a,C,o.dx,_,rfl,ho,F.cls,F.aG,(by show 9<1000;decide),?_;exact kk _ o (sc.Jt ho hjm tv) (xq.upd (by unfold own;simp)) me
 | holds p b i=>
  change⟨a,S,o,v,p,b,i,rfl,sc,tv,cb,fun H' o' s' e' n'=>kk H' o' s' e' fun x hx=>(n' x hx).imp id fun z=>s0.back z⟩
 | aF b p its=>
  obtain⟨a1,q,us,rfl,h1,hq,ilq,nq⟩:=tv;have fr:=(Ez fn).1;have nl:q∉o.lists:=fun z=>Ef sc0 nq (tw z);exists a,C,o.dx,_,_,rfl,ho,F.cls,F.aF,rfl,?_;exists bZ,?_;intros p2 H2 s2 h2;have sc2:=sc.mono s2;refine⟨o.no,_,rfl,.inr ⟨_,kN (b,p),p2,sc2.no.1,rfl,h2,?_,rfl⟩,?_⟩
  ·rw[List.length_zip,za];omega
  refine kk _ _ (sc2.LF (s2 _ _ hq) (ilq.mono s2) nl fr) ((xq.of s2).trans (xq.upd (by unfold own;simp))) fun x hx=>?_;have:x∈own a o\/x=q:=by
   unfold own at hx ⊢;simp only[zF,zC,zD,or_false] at hx ⊢;rcases hx with hx | hx | hx
   ·exact .inl (.inl hx)
   ·exact .inl (.inr hx)
   ·exact .inr hx
  rcases this with z | z
  ·exact .inl z
  ·subst z;exact .inr nq
 | rep r=>
  obtain⟨vs,hv,ilv⟩:=sc.re;have vl:=aT ilv;exists a,C,o.dx,_,_,rfl,ho,F.cls,F.repeats,rfl,?_;refine⟨.inl ⟨rfl,_,aH.of hv⟩,?_⟩;exists o.re,_,_,rfl,rfl,hv,nofun,?_;change kk _ o (sc.Pq hv ilv tv) (xq.upd (by unfold own;simp)) me
 | ck j=>
  exists a,C,o.dx,_,rfl,ho,F.cls,F.ck,(by show 9<1000;decide),?_;exact kk _ o (sc.N4 ho hub tv) (xq.upd (by unfold own;simp)) me
def gC {H:Hp} {a C dx p:Addr} {fs fs':List (Str×V)} {u:HO} (ha:H a=some (.ins C dx fs)) (np:H p=none) :
  upd (upd H p u) a (.ins C dx fs') a=some (.ins C dx fs')/\upd (upd H p u) a (.ins C dx fs') p=some u/\∀b v,H b=some v->b≠a->upd (upd H p u) a (.ins C dx fs') b=some v:=by
 have na:p≠a:=fun z=>by rw[z,ha] at np;cases np
 refine⟨ay,by rw[aE na,ay],fun b v hb ne=>?_⟩;rw[aE ne,aE (fun z=>by rw[z,np] at hb;cases hb)];exact hb
def C2 {H:Hp} {a C dx:Addr} {fs':List (Str×V)}:upd H a (.ins C dx fs') a=some (.ins C dx fs')/\∀b v,H b=some v->b≠a->upd H a (.ins C dx fs') b=some v:=
 ⟨ay,fun b v hb ne=>by rw[aE ne];exact hb⟩
inductive BF (C:Addr) (vs:List V) (H:Hp) (Q:VK) (E:XK):Prop
 | mk (a dx:Addr) (_:vs=[.ref a]) (_:H a=some (.ins C dx [])) (_:∀H' o,bW C H' a {} o->(∀b u,H b=some u->b≠a->H' b=some u)->(∀x∈own a o,x=a\/H x=none)->Q .bI H')
def BO:aD ["self"] ["self"] (ao sH):=dB
def B0 {C:Addr} (F:Cf K C):dP P w K mg base HU 1 T.mq T.tR ["self"] (BF C):=by
 refine T.Br.F.Ta BO fun _ _ _ _ H vs Q E hr h=>?_
 ·obtain⟨a,dx,rfl,ha,kk⟩:=h
  have sl:=yB;refine⟨_,ag (jB (pv 0) (bq af) rfl) (ag (jB (pv 0) Af rfl) (ag (jB (pv 0) Af rfl) (ag (jB (pv 0) (bq af) rfl) (ag (jB (pv 0) aQ rfl) (ag (jB (pv 0) Af rfl) (ag (jB (pv 0) Gj rfl) (ag (jB (pv 0) (bq af) rfl) (aj (jB (pv 0) aQ rfl))))))))),?_⟩;refine⟨by show 0<=sizeLine;omega,fun p1 n1=>?_⟩;refine⟨_,rfl,a,C,dx,[],rfl,(by rw[aE (fun z=>by rw[<-z,ha] at n1;cases n1)];exact ha),F.cls,F.players,(by show 0<1000;decide),?_⟩;obtain⟨a1,q1,k1⟩:=gC (u:=.lst []) (fs':=aX "players" (.ref p1) []) ha n1;generalize upd (upd H p1 (.lst [])) a (.ins C dx (aX "players" (.ref p1) []))=H1 at a1 q1 k1 ⊢;refine fun p2 n2=>⟨_,rfl,a,C,dx,_,rfl,(by rw[aE (fun z=>by rw[<-z,a1] at n2;cases n2)];exact a1),F.cls,F.ak,(by show 1<1000;decide),?_⟩
  obtain⟨a2,q2,k2⟩:=gC (u:=.dK []) (fs':=(aX "instruments" (.ref p2) (aX "players" (.ref p1) []))) a1 n2;generalize upd (upd H1 p2 (.dK [])) a (.ins C dx (aX "instruments" (.ref p2) (aX "players" (.ref p1) [])))=H2 at a2 q2 k2 ⊢;refine fun p3 n3=>⟨_,rfl,a,C,dx,_,rfl,(by rw[aE (fun z=>by rw[<-z,a2] at n3;cases n3)];exact a2),F.cls,F.aJ,(by show 2<1000;decide),?_⟩
  obtain⟨a3,q3,k3⟩:=gC (u:=.dK []) (fs':=(aX "staffs" (.ref p3) (aX "instruments" (.ref p2) (aX "players" (.ref p1) [])))) a2 n3;generalize upd (upd H2 p3 (.dK [])) a (.ins C dx (aX "staffs" (.ref p3) (aX "instruments" (.ref p2) (aX "players" (.ref p1) []))))=H3 at a3 q3 k3 ⊢;refine⟨by show 0<=sizeLine;omega,fun p4 n4=>⟨_,rfl,a,C,dx,_,rfl,(by rw[aE (fun z=>by rw[<-z,a3] at n4;cases n4)];exact a3),F.cls,F.aM,(by show 3<1000;decide),?_⟩⟩;obtain⟨a4,q4,k4⟩:=gC (u:=.lst []) (fs':=(aX "bars" (.ref p4) (aX "staffs" (.ref p3) (aX "instruments" (.ref p2) (aX "players" (.ref p1) []))))) a3 n4;generalize upd (upd H3 p4 (.lst [])) a (.ins C dx (aX "bars" (.ref p4) (aX "staffs" (.ref p3) (aX "instruments" (.ref p2) (aX "players" (.ref p1) [])))))=H4 at a4 q4 k4 ⊢;refine⟨_,rfl,a,C,dx,_,rfl,a4,F.cls,F.aG,(by show 4<1000;decide),?_⟩;obtain⟨a5,k5⟩:=C2 (H:=H4) (a:=a) (C:=C) (dx:=dx) (fs':=(aX "upbeat" .bI (aX "bars" (.ref p4) (aX "staffs" (.ref p3) (aX "instruments" (.ref p2) (aX "players" (.ref p1) []))))));generalize upd H4 a (.ins C dx (aX "upbeat" .bI (aX "bars" (.ref p4) (aX "staffs" (.ref p3) (aX "instruments" (.ref p2) (aX "players" (.ref p1) []))))))=H5 at a5 k5 ⊢;refine fun p6 n6=>⟨_,rfl,a,C,dx,_,rfl,(by rw[aE (fun z=>by rw[<-z,a5] at n6;cases n6)];exact a5),F.cls,F.holds,(by show 5<1000;decide),?_⟩
  obtain⟨a6,q6,k6⟩:=gC (u:=.dK []) (fs':=(aX "holds" (.ref p6) (aX "upbeat" .bI (aX "bars" (.ref p4) (aX "staffs" (.ref p3) (aX "instruments" (.ref p2) (aX "players" (.ref p1) []))))))) a5 n6;generalize upd (upd H5 p6 (.dK [])) a (.ins C dx (aX "holds" (.ref p6) (aX "upbeat" .bI (aX "bars" (.ref p4) (aX "staffs" (.ref p3) (aX "instruments" (.ref p2) (aX "players" (.ref p1) [])))))))=H6 at a6 q6 k6 ⊢;refine fun p7 n7=>⟨_,rfl,a,C,dx,_,rfl,(by rw[aE (fun z=>by rw[<-z,a6] at n7;cases n7)];exact a6),F.cls,F.aF,(by show 6<1000;decide),?_⟩
  obtain⟨a7,q7,k7⟩:=gC (u:=.dT []) (fs':=(aX "notes" (.ref p7) (aX "holds" (.ref p6) (aX "upbeat" .bI (aX "bars" (.ref p4) (aX "staffs" (.ref p3) (aX "instruments" (.ref p2) (aX "players" (.ref p1) [])))))))) a6 n7;generalize upd (upd H6 p7 (.dT [])) a (.ins C dx (aX "notes" (.ref p7) (aX "holds" (.ref p6) (aX "upbeat" .bI (aX "bars" (.ref p4) (aX "staffs" (.ref p3) (aX "instruments" (.ref p2) (aX "players" (.ref p1) []))))))))=H7 at a7 q7 k7 ⊢;refine⟨by show 0<=sizeLine;omega,fun p8 n8=>⟨_,rfl,a,C,dx,_,rfl,(by rw[aE (fun z=>by rw[<-z,a7] at n8;cases n8)];exact a7),F.cls,F.repeats,(by show 7<1000;decide),?_⟩⟩;obtain⟨a8,q8,k8⟩:=gC (u:=.lst []) (fs':=(aX "repeats" (.ref p8) (aX "notes" (.ref p7) (aX "holds" (.ref p6) (aX "upbeat" .bI (aX "bars" (.ref p4) (aX "staffs" (.ref p3) (aX "instruments" (.ref p2) (aX "players" (.ref p1) []))))))))) a7 n8;generalize upd (upd H7 p8 (.lst [])) a (.ins C dx (aX "repeats" (.ref p8) (aX "notes" (.ref p7) (aX "holds" (.ref p6) (aX "upbeat" .bI (aX "bars" (.ref p4) (aX "staffs" (.ref p3) (aX "instruments" (.ref p2) (aX "players" (.ref p1) [])))))))))=H8 at a8 q8 k8 ⊢;refine⟨_,rfl,a,C,dx,_,rfl,a8,F.cls,F.ck,(by show 8<1000;decide),?_⟩;obtain⟨a9,k9⟩:=C2 (H:=H8) (a:=a) (C:=C) (dx:=dx) (fs':=(aX "jump" .bI (aX "repeats" (.ref p8) (aX "notes" (.ref p7) (aX "holds" (.ref p6) (aX "upbeat" .bI (aX "bars" (.ref p4) (aX "staffs" (.ref p3) (aX "instruments" (.ref p2) (aX "players" (.ref p1) []))))))))));generalize upd H8 a (.ins C dx (aX "jump" .bI (aX "repeats" (.ref p8) (aX "notes" (.ref p7) (aX "holds" (.ref p6) (aX "upbeat" .bI (aX "bars" (.ref p4) (aX "staffs" (.ref p3) (aX "instruments" (.ref p2) (aX "players" (.ref p1) []))))))))))=H9 at a9 k9 ⊢;have e1:p1≠a:=fun z=>by rw[z,ha] at n1;cases n1
  have g1:=k9 _ _ (k8 _ _ (k7 _ _ (k6 _ _ (k5 _ _ (k4 _ _ (k3 _ _ (k2 _ _ (q1) e1) e1) e1) e1) e1) e1) e1) e1;have e2:p2≠a:=fun z=>by rw[z,a1] at n2;cases n2
  have g2:=k9 _ _ (k8 _ _ (k7 _ _ (k6 _ _ (k5 _ _ (k4 _ _ (k3 _ _ (q2) e2) e2) e2) e2) e2) e2) e2;have e3:p3≠a:=fun z=>by rw[z,a2] at n3;cases n3
  have g3:=k9 _ _ (k8 _ _ (k7 _ _ (k6 _ _ (k5 _ _ (k4 _ _ (q3) e3) e3) e3) e3) e3) e3;have e4:p4≠a:=fun z=>by rw[z,a3] at n4;cases n4
  have g4:=k9 _ _ (k8 _ _ (k7 _ _ (k6 _ _ (k5 _ _ (q4) e4) e4) e4) e4) e4;have e6:p6≠a:=fun z=>by rw[z,a5] at n6;cases n6
  have g6:=k9 _ _ (k8 _ _ (k7 _ _ (q6) e6) e6) e6;have e7:p7≠a:=fun z=>by rw[z,a6] at n7;cases n7
  have g7:=k9 _ _ (k8 _ _ (q7) e7) e7;have e8:p8≠a:=fun z=>by rw[z,a7] at n8;cases n8
  have g8:=k9 _ _ (q8) e8;have kH:∀b v,H b=some v->b≠a->H9 b=some v:=fun b v hb ne=>k9 _ _ (k8 _ _ (k7 _ _ (k6 _ _ (k5 _ _ (k4 _ _ (k3 _ _ (k2 _ _ (k1 _ _ hb ne) ne) ne) ne) ne) ne) ne) ne) ne;have f1:H p1=none:=n1;have f2:H p2=none:=by
   cases q:H p2 with
   | none=>rfl
   | some v=>have z:=q;rw[show H1 p2=some v from k1 _ _ z e2] at n2;cases n2
  have f3:H p3=none:=by
   cases q:H p3 with
   | none=>rfl
   | some v=>have z:=q;rw[show H2 p3=some v from k2 _ _ (k1 _ _ z e3) e3] at n3;cases n3
  have f4:H p4=none:=by
   cases q:H p4 with
   | none=>rfl
   | some v=>have z:=q;rw[show H3 p4=some v from k3 _ _ (k2 _ _ (k1 _ _ z e4) e4) e4] at n4;cases n4
  have f6:H p6=none:=by
   cases q:H p6 with
   | none=>rfl
   | some v=>have z:=q;rw[show H5 p6=some v from k5 _ _ (k4 _ _ (k3 _ _ (k2 _ _ (k1 _ _ z e6) e6) e6) e6) e6] at n6;cases n6
  have f7:H p7=none:=by
   cases q:H p7 with
   | none=>rfl
   | some v=>have z:=q;rw[show H6 p7=some v from k6 _ _ (k5 _ _ (k4 _ _ (k3 _ _ (k2 _ _ (k1 _ _ z e7) e7) e7) e7) e7) e7] at n7;cases n7
  have f8:H p8=none:=by
   cases q:H p8 with
   | none=>rfl
   | some v=>have z:=q;rw[show H7 p8=some v from k7 _ _ (k6 _ _ (k5 _ _ (k4 _ _ (k3 _ _ (k2 _ _ (k1 _ _ z e8) e8) e8) e8) e8) e8) e8] at n8;cases n8
  have d14:p1≠p4:=fun z=>by have h:=k3 _ _ (k2 _ _ (q1) e1) e1;rw[z,n4] at h;cases h
  have d18:p1≠p8:=fun z=>by have h:=k7 _ _ (k6 _ _ (k5 _ _ (k4 _ _ (k3 _ _ (k2 _ _ (q1) e1) e1) e1) e1) e1) e1;rw[z,n8] at h;cases h
  have d48:p4≠p8:=fun z=>by have h:=k7 _ _ (k6 _ _ (k5 _ _ (q4) e4) e4) e4;rw[z,n8] at h;cases h
  have d23:p2≠p3:=fun z=>by have h:=q2;rw[z,n3] at h;cases h
  have d26:p2≠p6:=fun z=>by have h:=k5 _ _ (k4 _ _ (k3 _ _ (q2) e2) e2) e2;rw[z,n6] at h;cases h
  have d36:p3≠p6:=fun z=>by have h:=k5 _ _ (k4 _ _ (q3) e3) e3;rw[z,n6] at h;cases h
  refine kk H9 ⟨dx,p1,p2,p3,p4,p6,p7,p8,[],[]⟩ ⟨⟨.bI,.bI,a9,d8,d8⟩,g1,⟨[],g2,cK⟩,⟨[],g3,cK⟩,⟨[],g4,cK⟩,⟨g6,rfl⟩,⟨g7,rfl⟩,⟨[],g8,cK⟩,?_,?_⟩ kH fun x hx=>?_
  ·show [p1,p4,p8].Nodup
   simp[d14,d18,d48]
  ·show [p2,p3,p6].Nodup
   simp[d23,d26,d36]
  ·have hx':x∈[a,p1,p2,p3,p4,p6,p7,p8]:=by simpa[own] using hx
   simp only[zC,zD,or_false] at hx';rcases hx' with rfl | rfl | rfl | rfl | rfl | rfl | rfl | rfl
   ·exact .inl rfl
   ·exact .inr f1
   ·exact .inr f2
   ·exact .inr f3
   ·exact .inr f4
   ·exact .inr f6
   ·exact .inr f7
   ·exact .inr f8
inductive RT:List Str->List Told->Prop where
 | nil:RT [] []
 | blank {r:Str} {rs:List Str} {ts:List Told}:r.length<=1000000->words r=[]->RT rs ts->RT (r::rs) ts
 | row {r:Str} {t:Told} {rs:List Str} {ts:List Told}:r.length<=1000000->words r=wordsOf t->P6 t->(wordsOf t).length<=1000000->(∀y∈wordsOf t,y.length<=600)->RT rs ts->RT (r::rs) (t::ts)
def Runs:cG->List Told->cG->Prop
 | S,[],S'=>S=S'
 | S,t::r,S'=>fault S t=none/\Rw S t/\rH S/\vk S/\Runs (bJ S t) r S'
def KI (t:Told):∃ws,wordsOf t=qF t::ws:=by cases t <;> exact⟨_,rfl⟩
inductive Bz (C:Addr) (vs:List V) (H:Hp) (Q:VK) (E:XK):Prop
 | mk (t:Str) (ts:List Told) (S:cG) (_:vs=[.str t]) (_:t.length+2<=sizeLine) (_:RT (Txt.split t "\n") ts) (_:Runs {} ts S) (_:∀a o H',bW C H' a S o->au H H'->(∀x∈own a o,H x=none)->Q (.ref a) H')
theorem KA {H0 H H':Hp} {v:V} (s:au H H'):∀{t:Option Told},gK H0 H v t->gK H0 H' v t
 | none,h=>h
 | some (.bE _),h=>h
 | some (.cN _ _ _),h=>Is.mono s h
 | some (.cw _ _),h=>Is.mono s h
 | some (.bar _),h=>Is.mono s h
 | some (.aG _),h=>Is.mono s h
 | some (.holds _ _ _),h=>Is.mono s h
 | some (.aF _ _ _),⟨a,q,vs,h1,h2,h3,h4,h5⟩=>⟨a,q,vs,h1,s _ _ h2,s _ _ h3,h4.mono s,h5⟩
 | some (.rep _),h=>Is.mono s h
 | some (.ck _),h=>Is.mono s h
def dN:aD ["text","score","place","row","words","told","word"] ["text"] (ao sj):=dB
def BS (B:Dk P w K T) (F:Cf K T.mm):cY P w base 8 T.qP (Bz T.mm):=by
 nomatch T.qP,dN
 obtain⟨t,ts,S,rfl,tl,rt,run,kk⟩:=h;have sl:=yB;refine⟨_,(ag (bU 1 dN.nd (M5 T.Px (B0 T F) (hr.mono ∅) rfl T.Ol T.Br.b .nil J1))
  (ag (cy PassesOwn.never rfl (xt (by rfl) T.ka (ah (b7 yF yJ yI jD (pv 0) (ah aK af)) af)) (d4 (n:=2) rfl (aL (jP 2 dN.nd) (aL (jP 3 dN.nd) df)))
  (ag (bU 4 dN.nd (bM (Gr T) hr T.words_of (ah (pv 3) af)))
   (aj (aI (ptr fq (eK aC T.bA (ah (pv 4) af)) ae)
   (ag (bU 5 dN.nd (bM (Gu T B) hr T.Aa (ah (pv 4) af)))
    (ag (bU 6 dN.nd (bM (Gy T B F) hr T.AG (ah (pv 1) (ah (fO (pv 4) ae) (ah (pv 5) af)))))
    (ag (aI (bB (gN (pv 6)))
    (aj Gg)
    ax)
    (aj (bK (bM (IF T F) hr T.Fd (ah (pv 1) (ah (fO (pv 4) ae) (ah (pv 5) af)))))))))
   ax))))
  (aj (aq (pv 1))))),?_⟩
 ac_rfl;intro a dx na ndx ne;refine⟨a,dx,rfl,ay,fun H1 o sc1 k1 fr1=>⟨rfl,?_⟩⟩;have s1:au H H1:=fun b u hb=>k1 b u (by rw[aE (fun z=>by rw[z,na] at hb;cases hb),aE (fun z=>by rw[z,ndx] at hb;cases hb)];exact hb) (fun z=>by rw[z,na] at hb;cases hb);have f1:∀x∈own a o,H x=none:=fun x hx=>by
  rcases fr1 x hx with z | z
  ·rw[z];exact na
  ·cases q:H x with
   | none=>rfl
   | some u=>
    rw[aE (fun y=>by rw[y,na] at q;cases q),aE (fun y=>by rw[y,ndx] at q;cases q),q] at z;cases z
 exists tl,fun l nl=>?_;have s2:au H1 (upd H1 l (.lst ((Txt.split t "\n").map V.str))):=aS nl;have h2:upd H1 l (.lst ((Txt.split t "\n").map V.str)) l=some (.lst ((Txt.split t "\n").map V.str)):=ay;generalize upd H1 l (.lst ((Txt.split t "\n").map V.str))=H2 at s2 h2 ⊢;generalize hrows:Txt.split t "\n"= rows at rt h2;exists l,_,rfl,aH.of h2,?_;refine tL (K:=K) (a:=l) (xs:=rows.map V.str) (fun i σ H'=>∃ts' S' o',RT (rows.drop i) ts'/\Runs S' ts' S/\bW T.mm H' a S' o'/\H' l=some (.lst (rows.map V.str))/\l∉own a o'/\au H H'/\(∀x∈own a o',H x=none)/\∃u2 u3 u4 u5 u6,σ=[some (.str t),some (.ref a),u2,u3,u4,u5,u6])
  ⟨ts,{},o,rt,run,sc1.mono s2,h2,Ef sc1 nl,s1.trans s2,f1,none,none,none,none,none,rfl⟩ (fun i σ H' _ h=>by obtain⟨_,_,_,_,_,_,h,_⟩:=h;exact aH.of h) ?_ ?_
 ·intro i x σ H3 p H4 hx hh s34 hp4
  refine cT fun N kN0 kR0 _ _=>?_;obtain⟨ts',S',o',rt',run',sc3,hl3,nl3,s3,f3,u2,u3,u4,u5,u6,rfl⟩:=hh;rw[zJ] at hx;cases qr:rows[i]? with
  | none=>rw[qr] at hx;cases hx
  | some r=>
  rw[qr] at hx;simp only[Option.map_some,Option.some.injEq] at hx;subst hx;have ed:rows.drop i=r::rows.drop (i+1):=by
   have hi:=(zw.mp qr).1;rw[List.drop_eq_getElem_cons hi];have:=(zw.mp qr).2;rw[this]
  rw[ed] at rt';have s4:=s3.trans s34;have sc4:=sc3.mono s34;cases rt' with
  | blank rl rw0 rt''=>
   refine⟨p,_,rfl,dA.of hp4,rfl,?_⟩;refine⟨_,_,rfl,⟨_,_,rfl,⟨rfl,?_⟩⟩⟩;exists rl,fun p5 H5 s5 h5=>?_;rw[rw0] at h5;exists p5,_,rfl,.inl (aH.of h5),?_;left;have s05:=s4.trans s5;exact⟨ts',S',o',rt'',run',sc4.mono s5,s5 _ _ (s34 _ _ hl3),nl3,s05,f3,_,_,_,_,_,rfl⟩
  | row rl rw0 tok wl ws6 rt''=>
   rename_i t' ts'';obtain⟨fn,fit,hd,sz,run''⟩:=run';obtain⟨ws,ew⟩:=KI t';refine⟨p,_,rfl,dA.of hp4,rfl,?_⟩;refine⟨_,_,rfl,⟨_,_,rfl,⟨rfl,?_⟩⟩⟩;exists rl,fun p5 H5 s5 h5=>?_;rw[rw0] at h5;have h5':=h5;rw[ew] at h5;have sc5:=sc4.mono s5;have hl5:=s5 _ _ (s34 _ _ hl3);exists p5,_,rfl,.inl (aH.of h5),?_;rw[za,zt];left;refine b9 (ze nofun) ?_;left;have wl':ws.length<=999999:=by rw[ew,zt] at wl;omega
   refine⟨p5,qF t',ws,rfl,aH.of h5,wl',by rw[<-ew];exact ws6,fun v H6 s6 tv=>?_⟩;rw[<-ew,IA tok] at tv;have sc6:=sc5.mono s6;exists p5,_,0,_,rfl,rfl,aH.of (s6 _ _ h5),bx (j:=0) rfl,?_;exists a,S',o',qF t',v,H5,some t',rfl,sc6,tv,fun t2 e2=>by cases e2;exact⟨rfl,fit⟩,fun H7 s7=>?_
   rw[show NK S' (some t')=fault S' t' from rfl,fn];exists p5,_,0,_,rfl,rfl,aH.of (s7 _ _ (s6 _ _ h5)),bx (j:=0) rfl,?_;exists a,S',o',v,H5,t',rfl,sc5,s6.trans s7,KA s7 tv,fn,hd,sz,fun H8 o8 sc8 el8 fr8=>?_;have s07:=((s4.trans s5).trans s6).trans s7;left;refine⟨ts'',bJ S' t',o8,rt'',run'',sc8,el8 _ _ nl3 (s7 _ _ (s6 _ _ hl5)),fun z=>?_,fun b u hb=>el8 _ _ (fun z=>by rw[f3 b z] at hb;cases hb) (s07 _ _ hb),fun x hx=>?_,_,_,_,_,_,rfl⟩
   ·rcases fr8 l z with y | y
    ·exact nl3 y
    ·rw[hl5] at y;cases y
   ·rcases fr8 x hx with y | y
    ·exact f3 x y
    ·exact(s4.trans s5).back y
 ·rintro σ H3 ⟨ts',S',o',rt',run',sc3,hl3,nl3,s3,f3,u2,u3,u4,u5,u6,rfl⟩
  rw[za,List.drop_length] at rt';cases rt';have es:S'=S:=run';subst es;change kk a o' H3 sc3 s3 f3
inductive wj (C:Addr) (vs:List V) (H:Hp) (Q:VK) (E:XK):Prop
 | mk (a:Addr) (S:cG) (o:Ow) (n:Str) (_:vs=[.ref a,.str n]) (_:bW C H a S o) (_:n∈S.players) (_:Q .bI H)
def wA:aD ["score","player"] ["score","player"] (ao oy):=dB
def wI {C:Addr} (F:Cf K C):cY P w base 1 T.mj (wj C):=by
 nomatch T.mj,wA
 obtain⟨a,S,o,n,rfl,sc,hn,kk⟩:=h;obtain⟨ub,jm,ho,hub,hjm⟩:=sc.obj;refine⟨_,(aj (aI (iR d5 (pv 1) (bF (pv 0) rfl) (by with_unfolding_all rfl))
  (aj Gg)
  ax)),?_⟩
 ac_rfl;exists a,C,o.dx,_,_,rfl,ho,F.cls,F.players,rfl,?_;refine⟨o.pl,_,rfl,.inl (aH.of sc.pl),rfl,gD _,?_⟩;show∃k,V.bl (!Fx (.str n) (S.players.map V.str))=.bl k/\_;rw[jE,ze hn];change kk
inductive vn (C:Addr) (vs:List V) (H:Hp) (Q:VK) (E:XK):Prop
 | mk (a:Addr) (S:cG) (o:Ow) (n:Str) (b:Int) (_:vs=[.ref a,.str n,.int b]) (_:bW C H a S o) (_:∀H',au H H'->Q (.bl (!decide ((b,n)∈S.aF.map (·.1)))) H')
def F1:aD ["score","player","bar"] ["score","player","bar"] (ao yU):=dB
def vN {C:Addr} (F:Cf K C):cY P w base 1 T.tH (vn C):=by
 nomatch T.tH,F1
 obtain⟨a,S,o,n,b,rfl,sc,kk⟩:=h;obtain⟨ub,jm,ho,hub,hjm⟩:=sc.obj;have nl:(o.ns.map V.ref).length=(S.aF.map (·.1)).length:=by rw[za,za,lj sc.no.2,za]
 have em:(S.aF.map fun x=>kN x.1)=(S.aF.map (·.1)).map kN:=by rw[zA];rfl
 refine⟨_,(aj (aq (qU (o9 (iK hr) (bj (ah (pv 2) (ah (pv 1) af))) (bF (pv 0) rfl))))),?_⟩;ac_rfl;exists bZ,?_;intros p2 H2 s2 h2;exists a,C,o.dx,_,_,rfl,s2 _ _ ho,F.cls,F.aF,rfl,?_;refine⟨o.no,_,rfl,.inr ⟨_,kN (b,n),p2,.inl (s2 _ _ sc.no.1),rfl,h2,rfl⟩,?_⟩;rw[em,xJ (b,n) nl];exact kk _ s2
inductive BB (C:Addr) (vs:List V) (H:Hp) (Q:VK) (E:XK):Prop
 | mk (a:Addr) (S:cG) (o:Ow) (b:Int) (_:vs=[.ref a,.int b]) (_:bW C H a S o) (_:S.players.length<=1000) (_:∀D H',au H H'->H' D=some (.lst ((S.players.filter fun n=>decide ((b,n)∈S.aF.map (·.1))).map V.str))->Q (.ref D) H')
def BJ:aD ["score","bar"] ["score","bar"] (ao sA):=dB
def BW {C:Addr} (F:Cf K C):cY P w base 2 T.qT (BB C):=by
 nomatch T.qT,BJ
 obtain⟨a,S,o,b,rfl,sc,pl,kk⟩:=h;have sl:=yB;obtain⟨ub,jm,ho,hub,hjm⟩:=sc.obj;refine⟨_,(aj (aq (nA (ts:=["player"]) (ys:=["score","bar"]) (js:=[0,1]) (g:=(bO 0)) (tc:=(Mp (tB (fX (vn C) [] E0 (bC (aV 1) (bC (aV 0) (bC (aV 2) dZ))))))) (te:=(aV 0)) (aZ (bF (pv 0) rfl)) (fU 0) (gf (eJ (cD (bM (vN T F) hr T.tH (ah (pv 1) (ah (pv 0) (ah (pv 2) af))))))) (pv 0)))),?_⟩;ac_rfl;exists a,C,o.dx,_,_,rfl,ho,F.cls,F.players,rfl,?_;exists⟨_,aH.of sc.pl⟩,?_;refine A1 (rest:=[some (.ref a),some (.int b)]) (fun n=>decide ((b,n)∈S.aF.map (·.1))) nofun (aH.of sc.pl) ⟨none,rfl⟩ ?_ ?_
 ·intro n H1 R hn s1 hR
  exists a,S,o,n,b,rfl,sc.mono s1,fun H2 s2=>?_;refine⟨_,rfl,?_⟩;show R (!!_) H2;rw[Bool.not_not];exact hR _ s2
 ·intro D H1 s1 _ h1
  exact kk D H1 s1 h1
inductive DQ (C:Addr) (vs:List V) (H:Hp) (Q:VK) (E:XK):Prop
 | mk (a q:Addr) (S:cG) (o:Ow) (bs:List Int) (_:vs=[.ref a,.ref q]) (_:bW C H a S o) (_:H q=some (.lst (bs.map V.int))) (_:S.players.length<=1000) (_:∀v H',au H H'->Q v H')
def lN:aD ["score","silent","bar","others"] ["score","silent"] (ao vH):=dB
def Eo {C:Addr} (F:Cf K C):cY P w base 3 T.u9 (DQ C):=by
 nomatch T.u9,lN
 obtain⟨a,q,S,o,bs,rfl,sc,hq,pl,kk⟩:=h;refine⟨_,(ag (cy PassesOwn.never rfl (QN (by rfl) T.II (ah (pv 1) af)) (jP 2 lN.nd)
  (ag (bU 3 lN.nd (bM (BW T F) hr T.qT (ah (pv 0) (ah (pv 2) af))))
   (aj (aI (ptr fq (eK aC T.bA (ah (pv 3) af)) ae)
   (aj (aq (bj (ah (pv 2) (ah (fO (pv 3) ae) af)))))
   ax))))
  (aj (aq aQ))),?_⟩
 ac_rfl;exists q,_,rfl,aH.of hq,?_;refine O9 (K:=K) (a:=q) (xs:=bs.map V.int) (fun i σ H'=>au H H'/\∃(w2 w3:Option V),σ=[some (.ref a),some (.ref q),w2,w3]) ⟨au.refl _,none,none,rfl⟩ (fun i σ H' _ h=>aH.of (h.1 _ _ hq)) ?_ ?_
 ·intro i x σ H1 hi hx hh
  refine cT fun N kN0 kR0 _ _=>?_;obtain⟨s1,w2,w3,rfl⟩:=hh;rw[zJ] at hx;cases qr:bs[(bs.map V.int).length-1-i]? with
  | none=>rw[qr] at hx;cases hx
  | some b=>
  rw[qr] at hx;simp only[Option.map_some,Option.some.injEq] at hx;subst hx;exists a,S,o,b,rfl,sc.mono s1,pl,fun D H2 s2 h2=>?_;exists D,_,rfl,.inl (aH.of h2),?_;rw[za];generalize S.players.filter _=l at h2;left;cases l with
  | nil=>
   refine cq (zd (by simp)) ?_;change⟨s1.trans s2,_,_,rfl⟩
  | cons y l=>
   refine b9 (ze (by rw[zt];omega)) ?_;exists D,_,_,_,rfl,rfl,aH.of h2,bx (j:=0) rfl,?_;exists bZ,?_;intros p3 H3 s3 h3;change kk _ _ ((s1.trans s2).trans s3)
 ·rintro σ H1 ⟨s1,w2,w3,rfl⟩
  change kk _ _ s1
inductive Ik (K:yA) (C:Addr) (vs:List V) (H:Hp) (Q:VK) (E:XK):Prop
 | mk (a:Addr) (S:cG) (o:Ow) (n:Str) (q:Int) (_:vs=[.ref a,.str n,.int q]) (_:bW C H a S o) (_:n∈S.players) (_:S.players.length<=1000) (_:S.aM.length<=1000) (_:∀D us H',au H H'->H D=none->H' D=some (.lst us)->RL (iM H') (eE (lz S n q) 0 S.aM.length) us->Q (.ref D) H')
def jq:aD ["score","player","quiet","found","silent","bar"] ["score","player","quiet"] (ao CK):=dB
def Ar {C:Addr} (F:Cf K C):cY P w base 4 T.entries (Ik K C):=by
 nomatch T.entries,jq
 obtain⟨a,S,o,n,q,rfl,sc,hn,pl,bl,kk⟩:=h;have sl:=yB;obtain⟨ub,jm,ho,hub,hjm⟩:=sc.obj;obtain⟨bv,hbv,ilb⟩:=sc.ba;refine⟨_,(ag (bK (bM (wI T F) hr T.mj (ah (pv 0) (ah (pv 1) af))))
  (ag (bU 3 jq.nd (bq af))
  (ag (bU 4 jq.nd (bq af))
  (ag (cy PassesOwn.never rfl (cH (by rfl) T.dg (ah (eK aC T.bA (ah (bF (pv 0) rfl) af)) af)) (jP 5 jq.nd)
  (aj (aI (cD (bM (vN T F) hr T.tH (ah (pv 0) (ah (pv 1) (ah (pv 5) af)))))
   (aj (bK (b7 yC yE yD bw (pv 4) (ah (pv 5) af))))
   (ag (aI (ptr Aj (eK aC T.bA (ah (pv 4) af)) (pv 2))
    (aj (bK (b7 yC yE yD bw (pv 3) (ah (bj (ah (pv 5) (ah (bM (Eo T F) hr T.u9 (ah (pv 0) (ah (pv 4) af))) af))) af))))
    ax)
    (aj (bU 4 jq.nd (bq af)))))))
  (aj (aq (pv 3))))))),?_⟩
 ac_rfl;exists a,S,o,n,rfl,sc,hn,?_;exists by show 0<=sizeLine;omega,?_
 intro D nD;have s1:au H (upd H D (.lst [])):=aS nD;have h1:upd H D (.lst []) D=some (.lst []):=ay;generalize upd H D (.lst [])=H1 at s1 h1 ⊢;exists by show 0<=sizeLine;omega,?_
 intro E2 nE;have s2:au H1 (upd H1 E2 (.lst [])):=aS nE;have h2:upd H1 E2 (.lst []) E2=some (.lst []):=ay;generalize upd H1 E2 (.lst [])=H2 at s2 h2 ⊢;have s02:=s1.trans s2;exists a,C,o.dx,_,_,rfl,s02 _ _ ho,F.cls,F.aM,rfl,?_;exists o.ba,bv,rfl,.inl (aH.of (s02 _ _ hbv)),?_;rw[aT ilb];exists by omega,nofun,?_
 rw[show((S.aM.length:Int)).toNat=S.aM.length from by omega];refine fj (fun i σ H'=>∃(us:List V) (bs:List Int) (e:Addr) (w5:Option V),σ=[some (.ref a),some (.str n),some (.int q),some (.ref D),some (.ref e),w5]/\au H H'/\H' D=some (.lst us)/\H' e=some (.lst (bs.map V.int))/\H e=none/\D≠e/\bs.length=pK (fun j=>decide ((j,n)∈S.aF.map (·.1))) i/\RL (iM H') (eE (lz S n q) 0 i) us)
  ⟨[],[],E2,none,rfl,s02,s2 _ _ h1,h2,s1.back nE,(fun z=>by rw[<-z,h1] at nE;cases nE),rfl,rfl⟩ ?_ ?_
 ·intro i σ H3 hi hh
  refine cT fun N kN0 kR0 _ _=>?_;obtain⟨us,bs,e,w5,rfl,s3,h3,he,ne,de,bl3,rl3⟩:=hh;have ul:=rl3.len;have fl:=pB (f:=lz S n q) (lo:=0) (n:=i);have rle:=DZ (fun j=>decide ((j,n)∈S.aF.map (·.1))) i;exists a,S,o,n,_,rfl,sc.mono s3,fun H4 s4=>?_;have s04:=s3.trans s4;have h34:=s4 _ _ h3;have he4:=s4 _ _ he;rw[Int.zero_add];cases c1:decide (((i:Int),n)∈S.aF.map (·.1)) with
  | false=>
   exists .inl ⟨rfl,_,aH.of he4⟩,?_;exists e,_,_,rfl,rfl,he4,by rw[za];omega,?_
   left;refine⟨us,bs++[(i:Int)],e,_,rfl,bT ne s04,by rw[aE de];exact h34,by rw[ay,zj];rfl,ne,de,?_,?_⟩
   ·rw[zg,bl3]
    show _=pK _ (i+1);rw[pK,if_neg (by rw[c1];simp)];rfl
   ·rw[jF,show lz S n q i=false from by unfold lz;rw[c1];rfl,if_neg (by simp),zU]
    exact rl3.imp fun x v z=>(z.mono s4).upd he4
  | true=>
   exists e,_,rfl,.inl (aH.of he4),?_;rw[za,bl3];left;have ee:lz S n q i=decide (q<=(pK (fun j=>decide ((j,n)∈S.aF.map (·.1))) i:Int)):=by unfold lz;rw[c1,Bool.true_and,Int.toNat_natCast]
   have r0:pK (fun j=>decide ((j,n)∈S.aF.map (·.1))) (i+1)=0:=by rw[pK,if_pos c1]
   refine join (fun σ H'=>∃(us:List V) (w5:Option V),σ=[some (.ref a),some (.str n),some (.int q),some (.ref D),some (.ref e),w5]/\au H H'/\H' D=some (.lst us)/\RL (iM H') (eE (lz S n q) 0 (i+1)) us) ?_ ?_ ?_
   ·intro N hN c2
    exists .inl ⟨rfl,_,aH.of h34⟩,?_;exists a,e,S,o,bs,rfl,sc.mono s04,he4,pl,fun v H5 s5=>?_;exists bZ,?_;intros p6 H6 s6 h6;have s46:=s5.trans s6;have h36:=s46 _ _ h34;refine⟨D,us,_,rfl,rfl,h36,nofun,?_⟩;left;refine hN _ _ ⟨_,_,rfl,bT nD (s04.trans s46),ay,?_⟩;rw[jF,ee,if_pos c2];exact RL.snoc (iM.upd h36 ⟨p6,v,rfl,h6⟩) (rl3.imp fun x v z=>((z.mono s4).mono s46).upd h36)
   ·intro N hN c2
    left;refine hN _ _ ⟨us,_,rfl,s04,h34,?_⟩;rw[jF,ee,if_neg (by rw[c2];simp),zU];exact rl3.imp fun x v z=>z.mono s4
   ·rintro σ H5 ⟨us,w5,rfl,s5,h5,rl5⟩
    exists by show 0<=sizeLine;omega,?_
    intro E6 nE6;have s6:au H5 (upd H5 E6 (.lst [])):=aS nE6;have h6:upd H5 E6 (.lst []) E6=some (.lst []):=ay;generalize upd H5 E6 (.lst [])=H6 at s6 h6 ⊢;change⟨us,[],E6,_,rfl,s5.trans s6,s6 _ _ h5,h6,s5.back nE6,(fun z=>by rw[<-z,h5] at nE6;cases nE6),r0.symm,rl5.imp fun x v z=>z.mono s6⟩
 ·rintro σ H3 ⟨us,bs,e,w5,rfl,s3,h3,he,ne,de,bl3,rl3⟩
  change kk D us H3 s3 nD h3 rl3
theorem Runs.app:∀{a b:List Told} {S S1 S2:cG},Runs S a S1->Runs S1 b S2->Runs S (a++b) S2
 | [],_,_,_,_,h,k=>by
  have e:_=_:=h;subst e;exact k
 | _::_,_,_,_,_,⟨h1,h2,h3,h4,h5⟩,k=>⟨h1,h2,h3,h4,Runs.app h5 k⟩
theorem sI:∀{l:List Str} {S:cG},(S.players++l).Nodup->(S.players++l).length<=12->rH S->vk S->Runs S (l.map .bE) {S with players:=S.players++l}
 | [],S,_,_,_,_=>by
  show S=_;rw[zU]
 | n::r,S,nd,hl,hd,sz=>by
  have nd':=nd;rw[zR] at nd';rw[zg,zt] at hl;refine⟨?_,trivial,hd,sz,?_⟩
  ·unfold fault
   dsimp only;rw[if_neg (fun z=>nd'.2.2 n z n zp rfl),if_neg nofun]
  ·have ih:=sI (l:=r) (S:=bJ S (.bE n)) (by show(S.players++[n]++r).Nodup;rw[zE];exact nd) (by show(S.players++[n]++r).length<=12;simp only[zg,zt,List.length_nil];omega) hd ⟨by show(S.players++[n]).length<=1000000;rw[zg];simp;omega,sz.2⟩
   have e:({bJ S (.bE n) with players:=(bJ S (.bE n)).players++r}:cG)={S with players:=S.players++n::r}:=by
    show({S with players:=S.players++[n]++r}:cG)=_;rw[zE];rfl
   rw[e] at ih;exact ih
theorem y3:∀{l:List (Str×(Int×Int)×(Int×Int))} {S:cG},((S.ak++l).map (·.1)).Nodup->(S.ak++l).length<=12->rH S->vk S->Runs S (l.map fun x=>.cN x.1 x.2.1 x.2.2) {S with ak:=S.ak++l}
 | [],S,_,_,_,_=>by
  show S=_;rw[zU]
 | n::r,S,nd,hl,hd,sz=>by
  have nd':=nd;rw[zj,zR] at nd';rw[zg,zt] at hl;refine⟨?_,trivial,hd,sz,?_⟩
  ·unfold fault
   dsimp only;rw[if_neg (fun z=>nd'.2.2 n.1 z n.1 (by rw[zh];exact zp) rfl),if_neg nofun]
  ·have ih:=y3 (l:=r) (S:=bJ S (.cN n.1 n.2.1 n.2.2)) (by show((S.ak++[n]++r).map _).Nodup;rw[zE];exact nd) (by show(S.ak++[n]++r).length<=12;simp only[zg,zt,List.length_nil];omega) hd ⟨sz.1,by show(S.ak++[n]).length<=1000000;rw[zg];simp;omega,sz.2.2⟩
   have e:({bJ S (.cN n.1 n.2.1 n.2.2) with ak:=(bJ S (.cN n.1 n.2.1 n.2.2)).ak++r}:cG)={S with ak:=S.ak++n::r}:=by
    show({S with ak:=S.ak++[n]++r}:cG)=_;rw[zE];rfl
   rw[e] at ih;exact ih
theorem CP:∀{l:List Sc.L4} {S:cG},(S.aM++l).length<=200->rH S->vk S->Runs S (l.map .bar) {S with aM:=S.aM++l}
 | [],S,_,_,_=>by
  show S=_;rw[zU]
 | n::r,S,hl,hd,sz=>by
  rw[zg,zt] at hl;refine⟨?_,trivial,hd,sz,?_⟩
  ·unfold fault
   dsimp only;rw[if_neg nofun]
  ·have ih:=CP (l:=r) (S:=bJ S (.bar n)) (by show(S.aM++[n]++r).length<=200;simp only[zg,zt,List.length_nil];omega) hd ⟨sz.1,sz.2.1,sz.2.2.1,by show(S.aM++[n]).length<=1000000;rw[zg];simp;omega,sz.2.2.2.2⟩
   have e:({bJ S (.bar n) with aM:=(bJ S (.bar n)).aM++r}:cG)={S with aM:=S.aM++n::r}:=by
    show({S with aM:=S.aM++[n]++r}:cG)=_;rw[zE];rfl
   rw[e] at ih;exact ih
theorem yZ:∀{l:List ((Int×Str)×List Item)} {S:cG},((S.aF++l).map (·.1)).Nodup->(S.aF++l).length<=1000000->Qa S->(∀x∈l,0<=x.1.1/\x.1.1<S.aM.length/\x.1.2∈S.players/\x.2.length<=40/\(∀it∈x.2,Og it.2)/\ko x.2=S.len x.1.1.toNat)->rH S->vk S->Runs S (l.map fun x=>.aF x.1.1 x.1.2 x.2) {S with aF:=S.aF++l}
 | [],S,_,_,_,_,_,_=>by
  show S=_;rw[zU]
 | n::r,S,nd,hl,lu,hx,hd,sz=>by
  have nd':=nd;rw[zj,zR] at nd';rw[zg,zt] at hl;obtain⟨b0,b1,pin,il,iok,isum⟩:=hx n zp;refine⟨?_,⟨b0,nofun,iok,lu⟩,hd,sz,?_⟩
  ·unfold fault
   dsimp only;rw[if_neg (fun z=>nd'.2.2 n.1 z n.1 (by rw[zh];exact zp) rfl),if_neg (fun z=>z pin),if_neg,if_neg (fun z=>z isum),if_neg nofun];intro z;apply z;unfold cG.has;simp[b1]
  ·have ih:=yZ (l:=r) (S:=bJ S (.aF n.1.1 n.1.2 n.2)) (by show((S.aF++[n]++r).map _).Nodup;rw[zE];exact nd) (by show(S.aF++[n]++r).length<=1000000;simp only[zg,zt,List.length_nil];omega) lu (fun x h=>hx x (zm _ h)) hd ⟨sz.1,sz.2.1,sz.2.2.1,sz.2.2.2.1,by show(S.aF++[n]).length<=1000000;rw[zg];simp;omega,sz.2.2.2.2.2⟩
   have e:({bJ S (.aF n.1.1 n.1.2 n.2) with aF:=(bJ S (.aF n.1.1 n.1.2 n.2)).aF++r}:cG)={S with aF:=S.aF++n::r}:=by
    show({S with aF:=S.aF++[n]++r}:cG)=_;rw[zE];rfl
   rw[e] at ih;exact ih
def F6 {S:cG} {u:Int×Int} (hn:S.aG=none) (hb:S.aM.length≠0) (hs:u.1*(S.aR 0).2<(S.aR 0).1*u.2) (no:S.aF=[]) (zu:Bv 8999 u) (lu:Qa S) (hd:rH S) (sz:vk S):Runs S [.aG u] {S with aG:=some u}:=by
 refine⟨?_,⟨zu,lu,by rw[no];exact yf _⟩,hd,sz,rfl⟩;unfold fault;dsimp only;rw[if_neg (by rw[hn];simp),if_neg hb,if_neg (fun z=>z hs),if_neg (by rw[no];simp)]
theorem vK:∀{l:List (Str×List Str)} {S:cG},((S.aJ++l).map (·.1)).Nodup->((S.aJ++l).map (·.2)).flatten.Nodup->(∀x∈l,∀p∈x.2,p∈S.players)->(∀x∈l,x.2.length<=1000)->(S.aJ++l).length<=1000000->rH S->vk S->Runs S (l.map fun x=>.cw x.1 x.2) {S with aJ:=S.aJ++l}
 | [],S,_,_,_,_,_,_,_=>by
  show S=_;rw[zU]
 | n::r,S,nd,fd,pin,pl,hl,hd,sz=>by
  have nd':=nd;have fd':=fd;rw[zj,zR] at nd';rw[zj,List.flatten_append,zh,z9,zR] at fd';rw[zg,zt] at hl;refine⟨?_,pl n zp,hd,sz,?_⟩
  ·unfold fault
   dsimp only;have pn:n.2.Nodup:=(zR.mp fd'.2.1).1;have p2:¬(S.aJ.any fun q=>n.2.any fun p=>decide (p∈q.2))=true:=fun z=>by
    obtain⟨q,hq,z⟩:=yn.mp z;obtain⟨p,hp,z⟩:=yn.mp z;exact fd'.2.2 p (List.mem_flatten.mpr ⟨q.2,zO (f:=fun x:Str×List Str=>x.2) hq,yd z⟩) p (zI _ hp) rfl
   have p3:¬(n.2.any fun p=>!decide (p∈S.players))=true:=fun z=>by
    obtain⟨p,hp,z⟩:=yn.mp z;rw[ze (pin n zp p hp)] at z;cases z
   rw[if_neg (fun z=>nd'.2.2 n.1 z n.1 (by rw[zh];exact zp) rfl),if_neg (fun z=>z pn),if_neg p2,if_neg p3]
  ·have ih:=vK (l:=r) (S:=bJ S (.cw n.1 n.2)) (by show((S.aJ++[n]++r).map _).Nodup;rw[zE];exact nd) (by show((S.aJ++[n]++r).map _).flatten.Nodup;rw[zE];exact fd) (fun x h=>pin x (zm _ h)) (fun x h=>pl x (zm _ h)) (by show(S.aJ++[n]++r).length<=1000000;simp only[zg,zt,List.length_nil];omega) hd ⟨sz.1,sz.2.1,by show(S.aJ++[n]).length<=1000000;rw[zg];simp;omega,sz.2.2.2⟩
   have e:({bJ S (.cw n.1 n.2) with aJ:=(bJ S (.cw n.1 n.2)).aJ++r}:cG)={S with aJ:=S.aJ++n::r}:=by
    show({S with aJ:=S.aJ++[n]++r}:cG)=_;rw[zE];rfl
   rw[e] at ih;exact ih
def Nl {base:List (Str×List (Int×Str))} {p:Str} (h:p∉base.map (·.1)):base.lookup p=none:=by
 induction base with
 | nil=>rfl
 | cons x r ih=>
  rw[zh,zC,not_or] at h;rw[yp,show(p == x.1)=false from by simp;exact h.1];exact ih h.2
def K6 {base:List (Str×List (Int×Str))} {p:Str} {acc:List (Int×Str)} (h:p∉base.map (·.1)):(base++[(p,acc)]).lookup p=some acc:=by
 induction base with
 | nil=>rw[List.nil_append,yp,beq_self_eq_true]
 | cons x r ih=>
  rw[zh,zC,not_or] at h;rw[List.cons_append,yp,show(p == x.1)=false from by simp;exact h.1];exact ih h.2
def N3 {base:List (Str×List (Int×Str))} {p:Str} {acc:List (Int×Str)} {e:Int×Str} (h:p∉base.map (·.1)):fm (base++[(p,acc)]) p e=base++[(p,acc++[e])]:=by
 unfold fm;rw[if_pos (by rw[zj];exact zH _ (zy.mpr rfl)),zj];have er:(base.map fun q:Str×List (Int×Str)=>if q.1=p then(q.1,q.2++[e]) else q)=base:=by
  conv=>rhs;rw[<-List.map_id base]
  refine List.map_congr_left fun q hq=>?_;rw[if_neg (fun z=>h (by rw[<-z];exact zO (f:=fun x:Str×List (Int×Str)=>x.1) hq))];rfl
 rw[er];simp
def C5 {S:cG} {p:Str} {acc:List (Int×Str)} {h:Int×Str} (hl:(S.holds.lookup p).getD []=acc) (asc:∀a∈acc,a.1<h.1) (al:acc.length<20) (hp:p∈S.players) (hb:h.1<S.aM.length) (hi:h.2∈S.ak.map (·.1)):fault S (.holds p h.1 h.2)=none:=by
 unfold fault;dsimp only;rw[hl];have c1:¬(match acc.getLast? with | some q=>decide (h.1<=q.1) | none=>false)=true:=by
  cases q:acc.getLast? with
  | none=>simp
  | some x=>
   have:=asc x (List.mem_of_getLast? q);simp;exact this
 rw[if_neg (by
  cases q:acc.getLast? with
  | none=>simp
  | some x=>
   have:=asc x (List.mem_of_getLast? q);simp;exact this),if_neg (fun z=>z hp),if_neg (fun z=>z hi),if_neg (fun z=>z (by unfold cG.has;simp[hb])),if_neg nofun]
theorem F7 {p:Str} {base:List (Str×List (Int×Str))} (nb:p∉base.map (·.1)) (nd:(base.map (·.1)).Nodup) (bl:base.length<=999999) (bb:∀q∈base,q.2.length<=1000000):∀{row acc:List (Int×Str)} {S:cG},S.holds=base++[(p,acc)]->((acc++row).map (·.1)).Pairwise (·<·)->(acc++row).length<=20->p∈S.players->
  (∀h∈row,h.1<S.aM.length/\h.2∈S.ak.map (·.1))->vk S->Runs S (row.map fun h=>.holds p h.1 h.2) {S with holds:=base++[(p,acc++row)]}
 | [],acc,S,eS,_,_,_,_,_=>by
  show S=_;rw[zU,<-eS]
 | h::r,acc,S,eS,asc,al,hp,hx,sz=>by
  obtain⟨hb,hi⟩:=hx h zp;have asc':=asc;rw[zj,zT] at asc';rw[zg,zt] at al;have hd:rH S:=by
   refine⟨?_,?_,?_⟩
   ·rw[eS,zj,zR]
    exact⟨nd,by simp,fun x hx y hy e=>by simp at hy;subst hy;subst e;exact nb hx⟩
   ·rw[eS,zg];simp;omega
   ·intro q hq
    rw[eS] at hq;rcases zF.mp hq with z | z
    ·exact bb q z
    ·rw[zy.mp z];show acc.length<=1000000;omega
  refine⟨C5 (acc:=acc) (by rw[eS,K6 nb];rfl) (fun a ha=>asc'.2.2 a.1 (zO (f:=fun x:Int×Str=>x.1) ha) h.1 (by rw[zh];exact zp)) nofun hp hb hi,trivial,hd,sz,?_⟩;have ih:=F7 nb nd bl bb (row:=r) (acc:=acc++[h]) (S:=bJ S (.holds p h.1 h.2)) (by show fm S.holds p (h.1,h.2)=_;rw[eS,N3 nb]) (by rw[zE];exact asc) (by simp only[zg,zt,List.length_nil];omega) hp (fun x hx'=>hx x (zm _ hx')) sz;have e:({bJ S (.holds p h.1 h.2) with holds:=base++[(p,acc++[h]++r)]}:cG)={S with holds:=base++[(p,acc++h::r)]}:=by
   show({S with holds:=base++[(p,acc++[h]++r)]}:cG)=_;rw[zE];rfl
  rw[e] at ih;exact ih
theorem y4:∀{l:List (Str×List (Int×Str))} {S:cG},((S.holds++l).map (·.1)).Nodup->(S.holds++l).length<=999999->(∀x∈l,x.2≠[]/\x.2.length<=20/\(x.2.map (·.1)).Pairwise (·<·)/\x.1∈S.players/\∀h∈x.2,h.1<S.aM.length/\h.2∈S.ak.map (·.1))->rH S->vk S->
  Runs S (l.map fun x=>x.2.map fun h=>Told.holds x.1 h.1 h.2).flatten {S with holds:=S.holds++l}
 | [],S,_,_,_,_,_=>by
  show S=_;rw[zU]
 | x::r,S,nd,hl,hx,hd,sz=>by
  obtain⟨ne,xl,asc,hp,hh⟩:=hx x zp;obtain⟨h,t,et⟩:=List.exists_cons_of_ne_nil ne;have nd':=nd;rw[zj,zR] at nd';have nb:x.1∉S.holds.map (·.1):=fun z=>nd'.2.2 x.1 z x.1 (by rw[zh];exact zp) rfl;rw[zg,zt] at hl;rw[zh,z9];refine Runs.app (S1:={S with holds:=S.holds++[x]}) ?_ ?_
  ·rw[et] at xl asc hh ⊢
   obtain⟨hb,hi⟩:=hh h zp;refine⟨C5 (acc:=[]) (by rw[Nl nb];rfl) (by simp) (by simp) hp hb hi,trivial,hd,sz,?_⟩;have ea:bJ S (.holds x.1 h.1 h.2)={S with holds:=S.holds++[(x.1,[h])]}:=by
    show({S with holds:=fm S.holds x.1 (h.1,h.2)}:cG)=_;unfold fm;rw[if_neg nb]
   rw[ea];have rr:=F7 (p:=x.1) nb hd.1 nofun hd.2.2 (row:=t) (acc:=[h]) (S:={S with holds:=S.holds++[(x.1,[h])]}) rfl asc xl hp (fun y hy=>hh y (zm _ hy)) sz;have ex:x=(x.1,[h]++t):=by rw[List.singleton_append,<-et]
   have e2:({({S with holds:=S.holds++[(x.1,[h])]}:cG) with holds:=S.holds++[(x.1,[h]++t)]}:cG)={S with holds:=S.holds++[x]}:=by rw[<-ex]
   rw[e2] at rr;exact rr
  ·have ih:=y4 (l:=r) (S:={S with holds:=S.holds++[x]}) (by show((S.holds++[x]++r).map _).Nodup;rw[zE];exact nd) (by show(S.holds++[x]++r).length<=999999;simp only[zg,zt,List.length_nil];omega) (fun y hy=>hx y (zm _ hy)) ?_ sz
   ·have e:({({S with holds:=S.holds++[x]}:cG) with holds:=S.holds++[x]++r}:cG)={S with holds:=S.holds++x::r}:=by rw[zE];rfl
    exact e▸ih
   ·refine⟨?_,?_,?_⟩
    ·show((S.holds++[x]).map _).Nodup
     have:=List.Nodup.sublist (List.Sublist.map (fun x:Str×List (Int×Str)=>x.1) (List.Sublist.append (List.Sublist.refl S.holds) (List.singleton_sublist.mpr zp))) nd;exact this
    ·show(S.holds++[x]).length<=1000000
     rw[zg];simp;omega
    ·intro q hq
     have hq':q∈S.holds++[x]:=hq;rcases zF.mp hq' with z | z
     ·exact hd.2.2 q z
     ·rw[zy.mp z];omega
def xG (n:Nat):List Rep->List Rep->Prop
 | _,[]=>True
 | rs,r::l=>(∀b∈[r.first,r.last]++r.ends.map (·.1),b<(n:Int))/\lQ rs r=true/\(Ih r.ends<64/\r.ends.length<=1000/\-1000000<=r.times/\r.times<=1000000)/\xG n (rs++[r]) l
def NC {S:cG} {bs:List Int} (h:∀b∈bs,b<(S.aM.length:Int)):S.has bs=true:=yo.mpr fun b hb=>ze (h b hb)
theorem CO:∀{l:List Rep} {S:cG},S.ck=none->xG S.aM.length S.repeats l->(S.repeats++l).length<=20->rH S->vk S->Runs S (l.map .rep) {S with repeats:=S.repeats++l}
 | [],S,_,_,_,_,_=>by
  show S=_;rw[zU]
 | r::l,S,nj,⟨h1,h2,h3,h4⟩,hl,hd,sz=>by
  rw[zg,zt] at hl;refine⟨?_,h3,hd,sz,?_⟩
  ·unfold fault
   dsimp only;rw[if_neg (fun z=>z (NC h1)),if_neg (by rw[nj];simp),if_neg (fun z=>z h2),if_neg nofun]
  ·have ih:=CO (l:=l) (S:=bJ S (.rep r)) nj h4 (by show(S.repeats++[r]++l).length<=20;simp only[zg,zt,List.length_nil];omega) hd ⟨sz.1,sz.2.1,sz.2.2.1,sz.2.2.2.1,sz.2.2.2.2.1,by show(S.repeats++[r]).length<=1000000;rw[zg];simp;omega⟩
   have e:({bJ S (.rep r) with repeats:=(bJ S (.rep r)).repeats++l}:cG)={S with repeats:=S.repeats++r::l}:=by
    show({S with repeats:=S.repeats++[r]++l}:cG)=_;rw[zE];rfl
   rw[e] at ih;exact ih
def KN {S:cG} {j:Jump} (nj:S.ck=none) (hb:∀b∈[j.xy,j.Bu,j.dE]++j.gH.toList,b<(S.aM.length:Int)) (hf:hX S.repeats j=true) (ro:Fp S) (hd:rH S) (sz:vk S):Runs S [.ck j] {S with ck:=some j}:=by
 refine⟨?_,ro,hd,sz,rfl⟩;unfold fault;dsimp only;rw[if_neg (by rw[nj];simp),if_neg (fun z=>z (NC hb)),if_neg (fun z=>z hf)]
structure UC (S:cG):Prop where
 pn:S.players.Nodup
 pl:S.players.length<=12
 UR:(S.ak.map (·.1)).Nodup
 il:S.ak.length<=12
 sn:(S.aJ.map (·.1)).Nodup
 sf:(S.aJ.map (·.2)).flatten.Nodup
 sp:∀x∈S.aJ,∀p∈x.2,p∈S.players
 sl:∀x∈S.aJ,x.2.length<=1000
 sc:S.aJ.length<=1000000
 bl:S.aM.length<=200
 lu:Qa S
 up:∀u,S.aG=some u->S.aM.length≠0/\u.1*(S.aR 0).2<(S.aR 0).1*u.2/\Bv 8999 u
 hn:(S.holds.map (·.1)).Nodup
 hl:S.holds.length<=999999
 hx:∀x∈S.holds,x.2≠[]/\x.2.length<=20/\(x.2.map (·.1)).Pairwise (·<·)/\x.1∈S.players/\∀h∈x.2,h.1<S.aM.length/\h.2∈S.ak.map (·.1)
 nn:(S.aF.map (·.1)).Nodup
 nl:S.aF.length<=1000000
 nx:∀x∈S.aF,0<=x.1.1/\x.1.1<S.aM.length/\x.1.2∈S.players/\x.2.length<=40/\(∀it∈x.2,Og it.2)/\ko x.2=S.len x.1.1.toNat
 rf:xG S.aM.length [] S.repeats
 rl:S.repeats.length<=20
 ro:Fp S
 ju:∀j,S.ck=some j->(∀b∈[j.xy,j.Bu,j.dE]++j.gH.toList,b<(S.aM.length:Int))/\hX S.repeats j=true
def MF {S:cG} (V:UC S):Runs {} (eW S) S:=by
 have hd0:∀T:cG,T.holds=[]->rH T:=fun T e=>by
  refine⟨by rw[e];exact List.nodup_nil,by rw[e];exact yf _,fun q hq=>by rw[e] at hq;cases hq⟩
 have hdS:∀T:cG,T.holds=S.holds->rH T:=fun T e=>by
  refine⟨by rw[e];exact V.hn,by rw[e];have:=V.hl;omega,fun q hq=>?_⟩;rw[e] at hq;have:=(V.hx q hq).2.1;omega
 have b1:=V.pl;have b2:=V.il;have b3:=V.sc;have b4:=V.bl;have b5:=V.nl;have b6:=V.rl;have szP:∀T:cG,(T.players=[]\/T.players=S.players)->(T.ak=[]\/T.ak=S.ak)->(T.aJ=[]\/T.aJ=S.aJ)->(T.aM=[]\/T.aM=S.aM)->(T.aF=[]\/T.aF=S.aF)->(T.repeats=[]\/T.repeats=S.repeats)->vk T:=fun T q1 q2 q3 q4 q5 q6=>by
  refine⟨?_,?_,?_,?_,?_,?_⟩
  ·rcases q1 with e | e <;> rw[e] <;> first | exact yf _ | omega
  ·rcases q2 with e | e <;> rw[e] <;> first | exact yf _ | omega
  ·rcases q3 with e | e <;> rw[e] <;> first | exact yf _ | omega
  ·rcases q4 with e | e <;> rw[e] <;> first | exact yf _ | omega
  ·rcases q5 with e | e <;> rw[e] <;> first | exact yf _ | omega
  ·rcases q6 with e | e <;> rw[e] <;> first | exact yf _ | omega
 have r1:=sI (l:=S.players) (S:={}) V.pn b1 (hd0 _ rfl) (szP _ (.inl rfl) (.inl rfl) (.inl rfl) (.inl rfl) (.inl rfl) (.inl rfl));have r2:=y3 (l:=S.ak) (S:={players:=S.players}) V.UR b2 (hd0 _ rfl) (szP _ (.inr rfl) (.inl rfl) (.inl rfl) (.inl rfl) (.inl rfl) (.inl rfl));have r3:=vK (l:=S.aJ) (S:={players:=S.players,ak:=S.ak}) V.sn V.sf V.sp V.sl b3 (hd0 _ rfl) (szP _ (.inr rfl) (.inr rfl) (.inl rfl) (.inl rfl) (.inl rfl) (.inl rfl));have r4:=CP (l:=S.aM) (S:={players:=S.players,ak:=S.ak,aJ:=S.aJ}) b4 (hd0 _ rfl) (szP _ (.inr rfl) (.inr rfl) (.inr rfl) (.inl rfl) (.inl rfl) (.inl rfl));have r5:Runs {players:=S.players,ak:=S.ak,aJ:=S.aJ,aM:=S.aM} (S.aG.toList.map .aG) {players:=S.players,ak:=S.ak,aJ:=S.aJ,aM:=S.aM,aG:=S.aG}:=by
  cases q:S.aG with
  | none=>exact rfl
  | some u=>
   obtain⟨u1,u2,u3⟩:=V.up u q;exact F6 (S:={players:=S.players,ak:=S.ak,aJ:=S.aJ,aM:=S.aM}) rfl u1 u2 rfl u3 V.lu (hd0 _ rfl) (szP _ (.inr rfl) (.inr rfl) (.inr rfl) (.inr rfl) (.inl rfl) (.inl rfl))
 have r6:=y4 (l:=S.holds) (S:={players:=S.players,ak:=S.ak,aJ:=S.aJ,aM:=S.aM,aG:=S.aG}) V.hn V.hl V.hx (hd0 _ rfl) (szP _ (.inr rfl) (.inr rfl) (.inr rfl) (.inr rfl) (.inl rfl) (.inl rfl));have r7:=yZ (l:=S.aF) (S:={players:=S.players,ak:=S.ak,aJ:=S.aJ,aM:=S.aM,aG:=S.aG,holds:=S.holds}) V.nn b5 V.lu V.nx (hdS _ rfl) (szP _ (.inr rfl) (.inr rfl) (.inr rfl) (.inr rfl) (.inl rfl) (.inl rfl));have r8:=CO (l:=S.repeats) (S:={players:=S.players,ak:=S.ak,aJ:=S.aJ,aM:=S.aM,aG:=S.aG,holds:=S.holds,aF:=S.aF}) rfl V.rf b6 (hdS _ rfl) (szP _ (.inr rfl) (.inr rfl) (.inr rfl) (.inr rfl) (.inr rfl) (.inl rfl));have r9:Runs {players:=S.players,ak:=S.ak,aJ:=S.aJ,aM:=S.aM,aG:=S.aG,holds:=S.holds,aF:=S.aF,repeats:=S.repeats} (S.ck.toList.map .ck) S:=by
  obtain⟨s1,s2,s3,s4,s5,s6,s7,s8,s9⟩:=S;cases s9 with
  | none=>exact rfl
  | some j=>
   obtain⟨j1,j2⟩:=V.ju j rfl;exact KN (S:={players:=s1,ak:=s2,aJ:=s3,aM:=s4,aG:=s5,holds:=s6,aF:=s7,repeats:=s8}) rfl j1 j2 V.ro (hdS _ rfl) (szP _ (.inr rfl) (.inr rfl) (.inr rfl) (.inr rfl) (.inr rfl) (.inr rfl))
 exact Runs.app (Runs.app (Runs.app (Runs.app (Runs.app (Runs.app (Runs.app r1 r2) r3) r4) r5) r6) r7) (Runs.app r8 r9)
inductive wq (K:yA) (vs:List V) (H:Hp) (Q:VK) (E:XK):Prop
 | mk (a:Addr) (ns:List Int) (k:Int) (_:vs=[.ref a,.int k]) (_:aH K H a (ns.map V.int)) (_:0<=k) (_:ns.length<=1000) (_:∀c:Int,Q (.int c) H)
def wB:aD ["_law_script","_law_k"] ["_law_script","_law_k"] (ao oE):=dB
def bG:cY P w base 1 T.bS (wq K):=by
 nomatch T.bS,wB
 obtain⟨a,ns,k,rfl,hS,h0,hl,kk⟩:=h;refine⟨_,(ag (aI (ptr fo (pv 1) (eK aC T.bA (ah (pv 0) af)))
  (aj (aq (fO (pv 0) (pv 1))))
  ax)
  (aj (aq ae))),?_⟩
 exists a,_,rfl,.inl hS,?_;left;refine wO (fun c1=>?_) (fun c1=>?_)
 ·have c2:=yd c1
  rw[za] at c2;change⟨a,_,_,_,rfl,rfl,hS,N0 h0 c2,kk _⟩
 ·left
  exact kk _
inductive uw (vs:List V) (H:Hp) (Q:VK) (E:XK):Prop
 | mk (c m:Int) (_:vs=[.int c,.int m]) (_:0<=c) (_:c<1099511627776) (_:0<=m) (_:m<=12) (_:∀(ns:List Str) p H',ns.length=m.toNat->Bs ns->au H H'->H' p=some (.lst (ns.map V.str))->Q (.ref p) H')
def dq:aD ["_law_cell","_law_many","_law_letters","_law_first","_law_size","_law_place","_law_stem"] ["_law_cell","_law_many"] (ao mS):=dB
def fg:cY P w base 1 T.eI uw:=by
 nomatch T.eI,dq
 obtain⟨c,m,rfl,c0,c1,m0,m1,kk⟩:=h;have sl:=yB;refine⟨_,(ag (bU 2 dq.nd aK)
  (ag (bU 3 dq.nd (ar aP (ar aU (pv 0) ae) ae))
  (ag (aI (PW.pt (cZ (ptr dj (ar aP (pv 0) ae) ae) (cO (ptr fo (pv 1) ae))))
  (aj (aq (nA (ts:=["_law_k"]) (ys:=["_law_many","_law_letters","_law_first"]) (js:=[1,2,3]) (te:=(fu PU (fu OJ (aV 2) (aV 3)) (fu (wC fun i j=>.int (i-j)) (aV 1) (aV 0)))) (cH (by rfl) T.dg (aa (pv 1) af)) (fU 0) bg (ar OX (Ae Ex (pv 2) (pv 3) (fun _ _=>rfl)) (ar gA (pv 1) (pv 0))))))
  ax)
  (ag (bU 4 dq.nd (ar aP (ar aU (pv 0) ae) ae))
  (ag (bU 5 dq.nd (ar aP (ar aU (pv 0) ae) (ar aY (pv 4) ae)))
  (ag (bU 6 dq.nd (b7 yF yH yG gQ aK (aa (nA (ts:=["_law_k"]) (ys:=["_law_cell","_law_letters"]) (js:=[0,2]) (te:=(fu OJ (fu (fun x y H Q=>∃i j,x=.str i/\y=.str j/\i.length+j.length<=sizeLine/\Q (.str (i++j)) H) (aV 2) (tC (.str "0123456789"))) (fu (rI (fun _ j=>0<j) fun i j=>.int (i%j)) (fu (wC fun i j=>.int (i+j)) (fu (rI RB fun i j=>.int (i/j)) (aV 1) (tC (.int (16224)))) (fu (rI LV fun i j=>.int (i*j)) (tC (.int (7))) (aV 0))) (tC (.int (36)))))) (cH (by rfl) T.dg (aa (pv 4) af)) (fU 0) bg (Ae Ex (ar bX (pv 2) aK) (ar aP (ar aY (ar aU (pv 1) ae) (ar d6 ae (pv 0))) ae) (fun _ _=>rfl))) af)))
  (aj (aq (nA (ts:=["_law_k"]) (ys:=["_law_letters","_law_first","_law_place","_law_stem"]) (js:=[2,3,5,6]) (te:=(fu (fun x y H Q=>∃i j,x=.str i/\y=.str j/\i.length+j.length<=sizeLine/\Q (.str (i++j)) H) (fu (fun x y H Q=>∃i j,x=.str i/\y=.str j/\i.length+j.length<=sizeLine/\Q (.str (i++j)) H) (TU QI (aV 4) DE (Mn (aV 3))) (fu OJ (aV 1) (fu (rI (fun _ j=>0<j) fun i j=>.int (i%j)) (fu (wC fun i j=>.int (i+j)) (aV 2) (fu (rI LV fun i j=>.int (i*j)) (tC (.int (5))) (aV 0))) (tC (.int (26)))))) (TU QI (aV 4) (Mn (aV 3)) DE))) (cH (by rfl) T.dg (aa (pv 1) af)) (fU 0) bg (ar bX (ar bX (dJ Ip (pv 4) eQ (eP (pv 3))) (Ae Ex (pv 1) (ar aP (ar aY (pv 2) (ar d6 ae (pv 0))) ae) (fun _ _=>rfl))) (dJ Ip (pv 4) (eP (pv 3)) eQ))))))))))),?_⟩
 ac_rfl;left
 by_cases q:c%4=0
 ·refine b9 (by show decide (V.int (c%4)=V.int 0)=true;rw[q];rfl) ?_
  left;refine b9 (ze nofun) ?_;exists by omega,nofun,?_
  have f0:0<=c/4%26:=zv _ ∅;have f1:c/4%26<26:=zr _ ∅;refine mi (fun k=>.str (qO ⟨#[97+(c/4%26).toNat]⟩ (m.toNat-k))) (fun σ=>∃v,σ=[v,some (.int m),some (.str lets),some (.int (c/4%26))]) nofun ⟨none,rfl⟩ ?_ ?_
  ·rintro k σ H4 R hk s4 ⟨_,rfl⟩ r
   exists lets,_,_,rfl,rfl,(by show 26<=sizeLine;omega),J3 f0 f1,?_;exists by omega,nofun,(by show 1<=1000;decide),?_
   refine r _ _ _ (au.refl _) ?_ ⟨_,rfl⟩;rw[show(m-(0+(k:Int))).toNat=m.toNat-k from by omega];exact eL
  ·intro D vs H4 s4 _ hD il
   have e:(List.range m.toNat).map (fun k=>Dt.str (qO ⟨#[97+(c/4%26).toNat]⟩ (m.toNat-k)))=((List.range m.toNat).map fun k=>qO ⟨#[97+(c/4%26).toNat]⟩ (m.toNat-k)).map Dt.str:=by rw[zA];rfl
   rw[e] at il;rw[dM il] at hD;exact kk _ D H4 (by rw[za,zQ]) (K3 nofun (Nr f0 f1)) s4 hD
 ·refine cq (by show decide (V.int (c%4)=V.int 0)=false;exact zd fun z=>q (V.int.inj z)) ?_
  have f0:0<=c/4%26:=zv _ ∅;have f1:c/4%26<26:=zr _ ∅;have z0:0<=c/104%12:=zv _ ∅;have z1:c/104%12<12:=zr _ ∅;have y0:0<=c/1248%(c/104%12+1):=zv _ nofun;have y1:c/1248%(c/104%12+1)<c/104%12+1:=zr _ nofun;have x0:0<=c/16224:=zV c0 ∅;have x1:c/16224<=c:=zW _ c0;exists by show 0<c/104%12+1;omega,?_
  exists by omega,nofun,?_
  refine mi (fun k=>.str ⟨#[OA ((c/16224+7*(0+(k:Nat)))%36)]⟩) (fun σ=>∃v,σ=[v,some (.int c),some (.str lets)]) nofun ⟨none,rfl⟩ ?_ ?_
  ·rintro k σ H4 R hk s4 ⟨_,rfl⟩ r
   exists by show 26+10<=sizeLine;omega,?_
   left;have w0:0<=(c/16224+7*(0+(k:Int)))%36:=zv _ ∅;have w1:(c/16224+7*(0+(k:Int)))%36<36:=zr _ ∅;refine⟨lets ++"0123456789",_,_,rfl,rfl,by show 36<=sizeLine;omega,(MC w0 w1).1,?_⟩;exact r _ _ _ (au.refl _) eL ⟨_,rfl⟩
  ·intro D vs H4 s4 _ hD il
   have e:(List.range (c/104%12).toNat).map (fun k:Nat=>Dt.str ⟨#[OA ((c/16224+7*(0+(k:Nat)))%36)]⟩)=(nT c (c/104%12).toNat).map Dt.str:=by unfold nT;rw[zA];rfl
   rw[e] at il;rw[dM il] at hD;refine⟨"",D,nT c (c/104%12).toNat,rfl,rfl,aH.of hD,by rw[Mw];omega,?_⟩;exists by omega,nofun,?_
   have sln:=My c (c/104%12).toNat;have ssg:=Mx (c:=c) (n:=(c/104%12).toNat);generalize hst:Str.join "" (nT c (c/104%12).toNat)=stem at sln ssg;obtain⟨pn,hpn⟩:∃n:Nat,c/1248%(c/104%12+1)=(n:Int):=⟨(c/1248%(c/104%12+1)).toNat,nofun⟩
   obtain⟨fn,hfn⟩:∃n:Nat,c/4%26=(n:Int):=⟨(c/4%26).toNat,nofun⟩
   have pb:pn<=stem.length:=nofun
   have l1:(Txt.slice stem none (some (pn:Int))).length<=11:=by
    rw[<-show _=(Txt.slice stem none (some (pn:Int))).length from Array.length_toList,FZ stem pb,zP];omega
   have l2:(Txt.slice stem (some (pn:Int)) none).length<=11:=by
    rw[<-show _=(Txt.slice stem (some (pn:Int)) none).length from Array.length_toList,qG stem pb,List.length_drop,show stem.cps.toList.length=stem.length from Array.length_toList];omega
   refine mi (fun k=>.str (Txt.slice stem none (some (pn:Int))++⟨#[97+(fn+5*k)%26]⟩++Txt.slice stem (some (pn:Int)) none)) (fun σ=>∃v,σ=[v,some (.str lets),some (.int (fn:Int)),some (.int (pn:Int)),some (.str stem)]) nofun ⟨none,by rw[<-hpn,<-hfn];rfl⟩ ?_ ?_
   ·rintro k σ H5 R hk s5 ⟨_,rfl⟩ r
    exists by omega,?_
    left;have w0:0<=((fn:Int)+5*(0+(k:Int)))%26:=zv _ ∅;have w1:((fn:Int)+5*(0+(k:Int)))%26<26:=zr _ ∅;have we:(((fn:Int)+5*(0+(k:Int)))%26).toNat=(fn+5*k)%26:=nofun
    refine⟨lets,_,_,rfl,rfl,by show 26<=sizeLine;omega,J3 w0 w1,?_⟩;rw[we];have l3:(⟨#[97+(fn+5*k)%26]⟩:Str).length=1:=rfl;refine⟨_,_,rfl,rfl,nofun,?_⟩;exists by omega,?_
    refine⟨_,_,rfl,rfl,by rw[len_app];omega,?_⟩;exact r _ _ _ (au.refl _) eL ⟨_,rfl⟩
   ·intro D2 vs2 H5 s5 _ hD2 il2
    have e:(List.range m.toNat).map (fun k=>Dt.str (Txt.slice stem none (some (pn:Int))++⟨#[97+(fn+5*k)%26]⟩++Txt.slice stem (some (pn:Int)) none))=((List.range m.toNat).map fun k=>Txt.slice stem none (some (pn:Int))++⟨#[97+(fn+5*k)%26]⟩++Txt.slice stem (some (pn:Int)) none).map Dt.str:=by rw[zA];rfl
    rw[e] at il2;rw[dM il2] at hD2;exact kk _ D2 H5 (by rw[za,zQ]) (IH nofun pb ssg nofun) (s4.trans s5) hD2
def um:Sp:=fun vs H Q _=>∃(m:Int),vs=[.int m]/\0<=m/\∀q p H',N6 q->au H H'->H' p=some (mD q)->Q (.ref p) H'
def gz:aD ["_law_m","_law_f","_law_high"] ["_law_m"] (ao mP):=dB
def uI:cY P w base 1 T.kM um:=by
 nomatch T.kM,gz
 obtain⟨m,rfl,m0,kk⟩:=h;have a:=zv m (b:=41) ∅;have b:=zr m (b:=41) ∅;have c:=zv (m/41) (b:=14) ∅;have d:=zr (m/41) (b:=14) ∅;refine⟨_,(ag (bU 1 gz.nd (ar gA (ar aP (pv 0) ae) ae))
  (ag (bU 2 gz.nd (ar d6 (ar gA (ar aP (ar aU (pv 0) ae) ae) ae) ae))
  (aj (aq (bj (aa (pv 1) (aa (ar aY (ar aP (ar d6 ae (pv 1)) ae) (pv 2)) af))))))),?_⟩
 ac_rfl;exists bZ,?_;intros p1 H1 s1 h1;change kk _ _ _ (KY m) s1 h1
inductive ux (vs:List V) (H:Hp) (Q:VK) (E:XK):Prop
 | mk (m:Int) (x:Int×Int) (q:Addr) (_:vs=[.int m,.ref q]) (_:H q=some (mD x)) (_:0<=m) (_:m<1099511627776) (_:LQ x) (_:∀(its:List Item) p us H',Ft its x->au H H'->H p=none->H' p=some (.lst us)->aB H' (its.map fb) us->Q (.ref p) H')
def dr:aD ["_law_m","_law_length","_law_many","_law_weights","_law_items","_law_j","_law_each"] ["_law_m","_law_length"] (ao mT):=dB
def uL:cY P w base 2 T.kQ ux:=by
 nomatch T.kQ,dr
 obtain⟨m,x,q,rfl,hq,m0,m1,xok,kk⟩:=h;have sl:=yB;have a:=zv m (b:=6) ∅;have b:=zr m (b:=6) ∅;obtain⟨n,hn⟩:∃n:Nat,1+m%6=(n:Int):=⟨(1+m%6).toNat,nofun⟩
 refine⟨_,(ag (bU 2 dr.nd (ar aY ae (ar aP (pv 0) ae)))
  (ag (LX (i:=3) (ts:=["_law_j"]) (ys:=["_law_m"]) (js:=[0]) (te:=(fu (wC fun i j=>.int (i+j)) (tC (.int (1))) (fu (rI (fun _ j=>0<j) fun i j=>.int (i%j)) (fu (rI RB fun i j=>.int (i/j)) (aV 1) (fu (wC fun i j=>.int (i+j)) (tC (.int (7))) (fu (rI LV fun i j=>.int (i*j)) (tC (.int (5))) (aV 0)))) (tC (.int (4)))))) (cH (by rfl) T.dg (aa (pv 2) af)) (fU 0) bg (ar aY ae (ar aP (ar aU (pv 1) (ar aY ae (ar d6 ae (pv 0)))) ae)) dr.nd)
  (ag (bU 4 dr.nd (bq af))
  (ag (cy PassesOwn.never rfl (cH (by rfl) T.dg (aa (pv 2) af)) (jP 5 dr.nd)
  (ag (bU 6 dr.nd (bM (gg T) hr T.fR (aa (ar d6 (bV (pv 1) ae) (fO (pv 3) (pv 5))) (aa (ar d6 (bV (pv 1) ae) (eK (Lx rfl) T.Sg (aa (pv 3) af))) af))))
   (aj (aI (PW.pt (cZ (ptr lg (pv 5) (ar aP (ar aU (pv 0) ae) (pv 2))) (cO (ptr dj (ar QW (ar QV (ar aU (pv 0) ae) (pv 5)) ae) ae))))
   (aj (bK (b7 yC yE yD bw (pv 4) (aa (bj (aa aQ (aa (pv 6) af))) af))))
   (aj (bK (b7 yC yE yD bw (pv 4) (aa (bj (aa (bM (uI T) hr T.kM (aa (ar aU (pv 0) (ar aY ae (ar d6 ae (pv 5)))) af)) (aa (pv 6) af))) af))))))))
  (aj (aq (pv 4))))))),?_⟩
 ac_rfl;exists by omega,nofun,?_
 rw[show(1+m%6).toNat=n from by omega];refine mi (fun j=>.int (1+m/(7+5*(0+(j:Nat)))%4)) (fun σ=>∃v,σ=[v,some (.int m)]) nofun ⟨none,rfl⟩ ?_ ?_
 ·rintro j σ H1 R hj s1 ⟨_,rfl⟩ r
  exists⟨nofun,nofun⟩,?_;change r _ _ _ (au.refl _) cL ⟨_,rfl⟩
 ·intro D0 vs0 H1 s1 _ hD0 il0
  have e:(List.range n).map (fun j:Nat=>Dt.int (1+m/(7+5*(0+(j:Nat)))%4))=(uc m n).map Dt.int:=by unfold uc;rw[zA];rfl
  rw[e] at il0;rw[eR il0] at hD0;exists by show 0<=sizeLine;omega,?_
  intro D nD;have s2:au H1 (upd H1 D (.lst [])):=aS nD;have h2:upd H1 D (.lst []) D=some (.lst []):=ay;generalize upd H1 D (.lst [])=H2 at s2 h2 ⊢;have nDH:H D=none:=s1.back nD;exists by omega,nofun,?_
  rw[show(1+m%6).toNat=n from by omega];obtain⟨xr,x1,x2,x3⟩:=id xok;obtain⟨_,xp,_⟩:=xr.pos;have wl:=Oi m n;have wb:=Mu (l:=uc m n) fun w hw=>HY hw;have W0:0<(uc m n).sum:=nofun
  have W2:(uc m n).sum<=24:=nofun
  have j0a:0<=m/4%(n:Int):=zv _ nofun;have j0b:m/4%(n:Int)<n:=zr _ nofun;refine fj (fun i σ H'=>∃(its:List Item) (us:List V) (v5 v6:Option V),σ=[some (.int m),some (.ref q),some (.int (1+m%6)),some (.ref D0),some (.ref D),v5,v6]/\au H1 H'/\H' D=some (.lst us)/\aB H' (its.map fb) us/\its.length=i/\(∀it∈its,LS it)/\
   ko its=red (x.1*((uc m n).take i).sum) (x.2*(uc m n).sum)/\(m/4%(n:Int)<i->its.all (fun it=>it.1.isNone)=false)) ⟨[],[],none,none,rfl,s2,h2,cK,rfl,by simp,Mt xp W0,fun z=>by exfalso;simp at z;omega⟩ ?_ ?_
  ·intro i σ H3 hi hh
   refine cT fun N kN0 kR0 _ _=>?_;obtain⟨its,us,v5,v6,rfl,s3,h3,il3,il,iok,isum,ino⟩:=hh;have hq3:=s3 _ _ (s1 _ _ hq);have hD3:=s3 _ _ hD0;have hwi:(uc m n)[i]?=some ((uc m n)[i]'nofun):=zb nofun;obtain⟨w1,w2⟩:=HY (zB hwi);generalize (uc m n)[i]'nofun=wi at hwi w1 w2;left;refine⟨D0,_,_,_,rfl,rfl,aH.of hD3,(by rw[Int.zero_add];exact bx (by rw[zJ,hwi];rfl)),?_⟩;exists .inl ⟨nofun,nofun⟩,?_;exists D0,_,rfl,aH.of hD3,fun w hw=>by have:=HY hw;omega,nofun,?_
   exists .inl ⟨nofun,nofun⟩,?_;have lk:=Nm xok w1 w2 W0 W2;have b1:0<x.2*(uc m n).sum:=Int.mul_pos xp W0;have b2:x.2*(uc m n).sum<=160*24:=Int.mul_le_mul x3 W2 nofun ∅;have t0:0<=x.1*wi:=Int.mul_nonneg nofun nofun;refine⟨_,_,rfl,t0,b1,(du (n:=12) nofun nofun).mono ∅,fun p6 H6 s6 h6=>?_⟩;exists by show 0<1+m%6;omega,?_
   left;have nD6:H6 D=some (.lst us):=s6 _ _ h3;have il6:=il3.mono s6;have e6:(uc m n).take (i+1)=(uc m n).take i++[wi]:=dH hwi;have ps:∀it:Item,it.2=red (x.1*wi) (x.2*(uc m n).sum)->ko (its++[it])=red (x.1*((uc m n).take (i+1)).sum) (x.2*(uc m n).sum):=fun it e=>by
    rw[e6,List.sum_append];have:[wi].sum=wi:=by simp
    rw[this];exact Ms xp W0 isum e
   refine eG ((!decide (V.int (0+(i:Int))=V.int (m/4%(1+m%6))))&&decide (V.int (Builtin.bitAnd (m/16/2^(0+(i:Int)).toNat) 1)=V.int 1)) ?_ ?_ ?_
   ·intro c Z hz
    rw[c,Bool.true_and] at hz;exists by show 0<=0+(i:Int);omega,?_
    change hz
   ·intro c;rw[c,Bool.false_and]
   ·cases qv:((!decide (V.int (0+(i:Int))=V.int (m/4%(1+m%6))))&&decide (V.int (Builtin.bitAnd (m/16/2^(0+(i:Int)).toNat) 1)=V.int 1)) with
    | true=>
     have ne:(i:Int)≠m/4%(n:Int):=fun z=>by
      rw[Int.zero_add,z,hn] at qv;simp at qv
     exists .inl ⟨rfl,_,aH.of nD6⟩,?_;exists bZ,?_;intros p7 H7 s7 h7;refine⟨D,us,_,rfl,rfl,s7 _ _ nD6,(by have:=aT il3;omega),?_⟩;left;have nt:cS (H7 D):=by rw[s7 _ _ nD6];exact fun _ z=>by cases z
     have it7:Is H7 (fb (none,red (x.1*wi) (x.2*(uc m n).sum))) (.ref p7):=cE h7 (aN d8 (aN (iW (s7 _ _ h6)) cK));refine⟨its++[(none,red (x.1*wi) (x.2*(uc m n).sum))],_,_,_,rfl,bT nD ((s3.trans s6).trans s7),ay,?_,by rw[zg,il];rfl,fun it hit=>?_,ps _ rfl,fun z=>?_⟩
     ·rw[zj]
      exact cX (Is.upd nt it7) (aB.upd nt (il6.mono s7))
     ·rcases zF.mp hit with y | y
      ·exact iok it y
      ·rw[zy.mp y];exact⟨lk,fun q z=>by cases z⟩
     ·rw[List.all_append,ino nofun,Bool.false_and]
    | false=>
     exists .inl ⟨rfl,_,aH.of nD6⟩,?_;exists⟨nofun,nofun⟩,?_;exists zV m0 nofun,fun pq p8 H8 pok s8 h8=>?_;exists bZ,?_;intros p7 H7 s7 h7;have s67:=s8.trans s7;refine⟨D,us,_,rfl,rfl,s67 _ _ nD6,by have:=aT il3;omega,?_⟩;left;have nt:cS (H7 D):=by rw[s67 _ _ nD6];exact fun _ z=>by cases z
     have it7:Is H7 (fb (some pq,red (x.1*wi) (x.2*(uc m n).sum))) (.ref p7):=cE h7 (aN (iW (s7 _ _ h8)) (aN (iW (s67 _ _ h6)) cK));refine⟨its++[(some pq,red (x.1*wi) (x.2*(uc m n).sum))],_,_,_,rfl,bT nD ((s3.trans s6).trans s67),ay,?_,by rw[zg,il];rfl,fun it hit=>?_,ps _ rfl,fun z=>?_⟩
     ·rw[zj]
      exact cX (Is.upd nt it7) (aB.upd nt (il6.mono s67))
     ·rcases zF.mp hit with y | y
      ·exact iok it y
      ·rw[zy.mp y];exact⟨lk,fun q z=>by cases z;exact pok⟩
     ·rw[List.all_append];simp
  ·rintro σ H3 ⟨its,us,v5,v6,rfl,s3,h3,il3,il,iok,isum,ino⟩
   left;refine kk its D us H3 ⟨nofun,iok,?_,ino j0b⟩ (s1.trans s3) nDH h3 il3;rw[isum,show(uc m n).take n=uc m n from List.take_of_length_le nofun,KG xr W0]
noncomputable def IP:List (Int×Int):=[(4,4),(3,4),(6,8),(2,2),(5,16),(7,8),(1,32),(12,1)]
def LW (b:Sc.L4):Prop:=b.aR∈IP/\-7<=b.key/\b.key<=7/\(∀n∈b.marks,gs n)/\b.marks.length<=2
inductive wt (vs:List V) (H:Hp) (Q:VK) (E:XK):Prop
 | mk (c n:Int) (_:vs=[.int c,.int n]) (_:0<=n) (_:n<=200) (_:∀(bs:List Sc.L4) p us H',bs.length=n.toNat->(∀b∈bs,LW b)->au H H'->H p=none->H' p=some (.lst us)->aB H' (bs.map lD) us->Q (.ref p) H')
def b8:aD ["_law_cell","_law_many","_law_bars","_law_k","_law_m","_law_metre","_law_key","_law_marks"] ["_law_cell","_law_many"] (ao oF):=dB
def wM:cY P w base 2 T.mC wt:=by
 nomatch T.mC,b8
 obtain⟨c,n,rfl,n0,n1,kk⟩:=h;have sl:=yB;refine⟨_,(ag (bU 2 b8.nd (bq af))
  (ag (cy PassesOwn.never rfl (cH (by rfl) T.dg (aa (pv 1) af)) (jP 3 b8.nd)
  (zf (zc (zS (bU 4 b8.nd (bM (bR T) hr T.cB (aa (pv 0) (aa (ar aY (pv 3) ae) af)))))
   (zc (Ub 5 b8.nd (OQ IP (ar aP (pv 4) ae) (fun _ _=>rfl)))
   (zc (zS (bU 6 b8.nd (ar gA (ar aP (ar aU (pv 4) ae) ae) ae)))
   (zc (zS (aI (PW.pt (cZ (ptr fq (pv 3) ae) (cO (ptr fq (ar aP (ar aU (pv 4) ae) ae) ae))))
   (aj (bU 5 b8.nd (bV (fO (pv 2) (sT lH ae)) ae)))
   ax))
   (zc (zS (aI (PW.pt (cZ (ptr fq (pv 3) ae) (cO (ptr fq (ar aP (ar aU (pv 4) ae) ae) ae))))
   (aj (bU 6 b8.nd (bV (fO (pv 2) (sT lH ae)) ae)))
   ax))
   (zc (zS (bU 7 b8.nd (nJ cP T.gP (aa (bM (fg T) hr T.eI (aa (ar aU (pv 4) ae) (aa (fO (bq (aa ae (aa ae (aa ae (aa ae (aa ae (aa ae (aa ae af)))))))) (ar aP (ar aU (pv 4) ae) ae)) af))) af))))
   (zo (zS (bK (b7 yC yE yD bw (pv 2) (aa (bj (aa (pv 5) (aa (pv 6) (aa (pv 7) af)))) af)))))))))))))
  (aj (aq (pv 2))))),?_⟩
 ac_rfl;exists by show 0<=sizeLine;omega,?_
 intro D nD;have s2:au H (upd H D (.lst [])):=aS nD;have h2:upd H D (.lst []) D=some (.lst []):=ay;generalize upd H D (.lst [])=H2 at s2 h2 ⊢;exists by omega,nofun,?_
 refine fj (fun i σ H'=>∃(bs:List Sc.L4) (us:List V),Lo [some (.int c),some (.int n),some (.ref D)] 5 σ/\au H H'/\H' D=some (.lst us)/\aB H' (bs.map lD) us/\bs.length=i/\∀b∈bs,LW b)
  ⟨[],[],Lo.of rfl rfl,s2,h2,cK,rfl,by simp⟩ ?_ ?_
 ·intro i σ H3 hi hh
  refine cT fun N kN0 kR0 _ _=>?_;obtain⟨bs,us,⟨e,rfl⟩,s3,h3,il3,bl,bok⟩:=hh;exists c,_,rfl,nofun,nofun,?_;have m0:0<=mixed c (0+(i:Int)+20):=zv _ ∅;have m1:mixed c (0+(i:Int)+20)<2147483399:=zr _ ∅;generalize mixed c (0+(i:Int)+20)=m at m0 m1;have a0:0<=m%8:=zv _ ∅;have a1:m%8<8:=zr _ ∅;have b0:0<=m/8%15:=zv _ ∅;have b1:m/8%15<15:=zr _ ∅;left;intro D4 vs4 H4 s4 h4 il4;left;obtain⟨j,hj⟩:∃j:Nat,m%8=(j:Int):=⟨(m%8).toNat,nofun⟩
  have vl4:=aT il4;have jl:j<vs4.length:=by rw[vl4];show j<8;omega
  obtain⟨mx,hmx,imx⟩:=dY (d:=dL) il4 (i:=j) (zb jl);generalize hmv:vs4[j]=mv at imx;have h3':=s4 _ _ h3;have il3':=il3.mono s4;refine⟨D4,vs4,m%8,mv,rfl,rfl,aH.of h4,(by rw[hj];exact bx (by rw[<-hmv];exact zb jl)),?_⟩;left;have lastB:0<(i:Int)->∃b a mt q,us[us.length-1]?=some (.ref a)/\H4 a=some (.tup [mt,.int b.key,.ref q])/\Is H4 (dL b.aR) mt/\b∈bs:=fun ip=>by
   have ul:=aT il3';obtain⟨b,hb,ib⟩:=dY il3' (i:=us.length-1) (zb nofun);obtain⟨a,mt,q,ea,ha,hm,_⟩:=xw ib;exact⟨b,a,mt,q,by rw[<-ea];exact zb nofun,ha,hm,zB hb⟩
  refine eG (decide (0<0+(i:Int))&&decide (0<m/120%4)) ?_ ?_ ?_
  ·intro c1 Z hz
   rw[c1,Bool.true_and] at hz;change hz
  ·intro c1;rw[c1,Bool.false_and]
  refine join (fun σ H'=>H'=H4/\∃mv x,σ=[some (.int c),some (.int n),some (.ref D),some (.int (0+(i:Int))),some (.int m),some mv,some (.int (m/8%15-7)),e 4]/\Is H4 (dL x) mv/\x∈IP) (fun N hN c1=>?_) (fun N hN c1=>?_) ?_
  ·have ip:0<(i:Int):=by simp at c1;omega
   obtain⟨b,a,mt,q,hl,ha,hm,hb⟩:=lastB ip;exists D,us,-1,_,rfl,rfl,aH.of h3',tT hl,?_;change hN _ _ ⟨rfl,mt,b.aR,rfl,hm,(bok b hb).1⟩
  ·left
   exact hN _ _ ⟨rfl,mv,mx,rfl,imx,zB hmx⟩
  clear imx hmv;rintro σ5 H5 ⟨e5,mv,x,rfl,imv,hx⟩;rw[e5];clear e5 H5;left;refine eG (decide (0<0+(i:Int))&&decide (0<m/480%5)) ?_ ?_ ?_
  ·intro c1 Z hz
   rw[c1,Bool.true_and] at hz;change hz
  ·intro c1;rw[c1,Bool.false_and]
  refine join (fun σ H'=>H'=H4/\∃k:Int,σ=[some (.int c),some (.int n),some (.ref D),some (.int (0+(i:Int))),some (.int m),some mv,some (.int k),e 4]/\-7<=k/\k<=7) (fun N hN c1=>?_) (fun N hN c1=>?_) ?_
  ·have ip:0<(i:Int):=by simp at c1;omega
   obtain⟨b,a,mt,q,hl,ha,hm,hb⟩:=lastB ip;exists D,us,-1,_,rfl,rfl,aH.of h3',tT hl,?_;change hN _ _ ⟨rfl,b.key,rfl,(bok b hb).2.1,(bok b hb).2.2.1⟩
  ·left
   exact hN _ _ ⟨rfl,m/8%15-7,rfl,nofun,nofun⟩
  rintro σ5 H5 ⟨e5,k,rfl,k0,k1⟩;rw[e5];clear e5 H5;exists by show 7<=sizeLine;omega,?_
  intros p6 H6 s6 h6;have g0:0<=m/33600%7:=zv _ ∅;have g1:m/33600%7<7:=zr _ ∅;obtain⟨jj,hjj⟩:∃j:Nat,m/33600%7=(j:Int):=⟨(m/33600%7).toNat,nofun⟩
  obtain⟨z,hz,z0,z1⟩:∃z:Int,[V.int 0,V.int 0,V.int 0,V.int 0,V.int 0,V.int 1,V.int 2][jj]?=some (.int z)/\0<=z/\z<=2:=by
   have:jj<7:=nofun
   match jj,this with
   | 0,_=>exact⟨0,rfl,∅,∅⟩
   | 1,_=>exact⟨0,rfl,∅,∅⟩
   | 2,_=>exact⟨0,rfl,∅,∅⟩
   | 3,_=>exact⟨0,rfl,∅,∅⟩
   | 4,_=>exact⟨0,rfl,∅,∅⟩
   | 5,_=>exact⟨1,rfl,∅,∅⟩
   | 6,_=>exact⟨2,rfl,∅,∅⟩
  exists p6,_,m/33600%7,.int z,rfl,rfl,aH.of h6,(by rw[hjj];exact bx hz),?_;left;refine⟨_,z,rfl,zV m0 ∅,?_,z0,nofun,fun ns p7 H7 nl nok s7 h7=>?_⟩
  ·have:=zW (a:=m) 2400 m0;omega
  left;refine⟨p7,_,rfl,.inl ⟨aH.of h7,?_⟩⟩;intros p8 H8 s8 h8;have s48:=(s6.trans s7).trans s8;have h38:=s48 _ _ h3';exists .inl ⟨rfl,_,aH.of h38⟩,?_;exists nY,?_;intros p9 H9 s9 h9;refine⟨D,us,_,rfl,rfl,s9 _ _ h38,(by have:=aT il3;omega),?_⟩;left;have s49:=s48.trans s9;have nt:cS (H9 D):=by rw[s9 _ _ h38];exact fun _ z=>by cases z
  have ib:Is H9 (lD ⟨x,k,ns⟩) (.ref p9):=cE h9 (aN (imv.mono s49) (aN cL (aN (cE (s9 _ _ h8) (Ay ns)) cK)));refine⟨bs++[⟨x,k,ns⟩],_,Lo.of rfl rfl,bT nD ((s3.trans s4).trans s49),ay,?_,by rw[zg,bl];rfl,fun b hb=>?_⟩
  ·rw[zj]
   exact cX (Is.upd nt ib) (aB.upd nt (il3'.mono s49))
  ·rcases zF.mp hb with y | y
   ·exact bok b y
   ·rw[zy.mp y]
    exact⟨hx,k0,k1,nok.1,by show ns.length<=2;omega⟩
 ·rintro σ H3 ⟨bs,us,⟨e,rfl⟩,s3,h3,il3,bl,bok⟩
  change kk bs D us H3 bl bok s3 nD h3 il3
inductive rS (vs:List V) (H:Hp) (Q:VK) (E:XK):Prop
 | mk (bl:Addr) (us:List V) (S:cG) (ub:V) (b:Nat) (_:vs=[.ref bl,ub,.int b]) (_:H bl=some (.lst us)) (_:aB H (S.aM.map lD) us) (_:Is H (dO dL S.aG) ub) (_:b<S.aM.length) (_:(∀x∈S.aM,LW x)) (_:∀p H',au H H'->H' p=some (mD (S.len b))->Q (.ref p) H')
def l6 {x:Int×Int} (h:x∈IP):1<=x.1/\x.1<=12/\x.2∈Cn/\1<=x.2/\x.2<=32:=by
 unfold IP at h;simp only[zC,zD,or_false] at h;rcases h with rfl | rfl | rfl | rfl | rfl | rfl | rfl | rfl <;> decide
def rY:aD ["_law_bars","_law_upbeat","_law_bar"] ["_law_bars","_law_upbeat","_law_bar"] (ao kX):=dB
def tf:cY P w base 2 T.jL rS:=by
 nomatch T.jL,rY
 obtain⟨bl,us,S,ub,b,rfl,hbl,il,iu,hb,bok,kk⟩:=h;have ul:=aT il;obtain⟨x,hx,ix⟩:=dY il (i:=b) (zb nofun);obtain⟨a1,mv,q,ev,h1,im,_⟩:=xw ix;obtain⟨m1,m2,m3,m4,m5⟩:=l6 (bok x (zB hx)).1;have em:S.aR b=red x.aR.1 x.aR.2:=by unfold cG.aR;rw[hx]
 cases fw (o:=some x.aR) im with
 | ref hm=>
 rename_i am;refine⟨_,(ag (aI (PW.pt (cZ (ptr dj (pv 2) ae) (cO (bB (gN (pv 1))))))
  (aj (aq (pv 1)))
  ax)
  (aj (aq (bM (gg T) hr T.fR (aa (bV (bV (fO (pv 0) (pv 2)) ae) ae) (aa (bV (bV (fO (pv 0) (pv 2)) ae) ae) af)))))),?_⟩
 ac_rfl;left;have nz:∀H1,Is H1 (dO dL S.aG) ub->(!decide (ub=V.bI))=S.aG.isSome:=fun H1 z=>by
  cases q:S.aG with
  | none=>rw[q] at z;unfold dO Is at z;rw[z];rfl
  | some u=>
   rw[q] at z;cases fw (o:=some u) z with
   | ref hu=>rfl
 refine eG (decide (V.int (b:Int)=V.int 0)&&S.aG.isSome) ?_ ?_ ?_
 ·intro c Z hz
  rw[c,Bool.true_and,<-nz H iu] at hz;change hz
 ·intro c;rw[c,Bool.false_and]
 ·cases qv:(decide (V.int (b:Int)=V.int 0)&&S.aG.isSome) with
  | true=>
   rw[zN] at qv;have b0:b=0:=by have:=V.int.inj (yd qv.1);omega
   cases q:S.aG with
   | none=>rw[q] at qv;cases qv.2
   | some u=>
    rw[q] at iu;cases fw (o:=some u) iu with
    | ref hu=>
     left;refine kk _ _ (au.refl _) ?_;unfold cG.len;rw[q];simp only[b0,if_true];exact hu
  | false=>
   have el:S.len b=S.aR b:=by
    unfold cG.len;cases q:S.aG with
    | none=>rfl
    | some u=>
     rw[q] at qv;have:b≠0:=fun z=>by rw[z] at qv;simp at qv
     simp only[if_neg this]
   rw[el,em] at kk;left;refine⟨bl,us,b,_,rfl,rfl,aH.of hbl,bx (zb nofun),?_⟩;rw[ev];left;refine⟨bl,us,b,_,rfl,rfl,aH.of hbl,bx (zb nofun),?_⟩;rw[ev];change⟨_,_,rfl,nofun,nofun,(du (n:=10) nofun nofun).mono ∅,kk⟩
inductive uy (vs:List V) (H:Hp) (Q:VK) (E:XK):Prop
 | mk (c many:Int) (pp ip:Addr) (ps:List Str) (ins:List (Str×(Int×Int)×(Int×Int))) (iv:List V) (_:vs=[.int c,.ref pp,.ref ip,.int many]) (_:H pp=some (.lst (ps.map V.str))) (_:H ip=some (.lst iv)) (_:aB H (ins.map eM) iv) (_:ps.length<=100) (_:ins.length<=100) (_:many<=200) (_:∀(hs:List (Str×List (Int×Str))) D us H',List.Sublist (hs.map (·.1)) ps->(∀x∈hs,Kn (ins.map (·.1)) many x.2)->au H H'->H' D=some (.lst us)->RL (jO D H') hs us->Q (.ref D) H')
def K9 {H:Hp} {x:Str×(Int×Int)×(Int×Int)} {v:V} (h:Is H (eM x) v):∃a t l,v=.ref a/\H a=some (.tup [.str x.1,t,l]):=by
 unfold eM Is at h;obtain⟨a,vs,rfl,ha,hl⟩:=h;unfold aB at hl;obtain⟨v1,r1,rfl,h1,hl⟩:=hl;unfold aB at hl;obtain⟨v2,r2,rfl,h2,hl⟩:=hl;unfold aB at hl;obtain⟨v3,r3,rfl,h3,hl⟩:=hl;unfold aB at hl;subst hl;unfold Is at h1;subst h1;exact⟨a,v2,v3,rfl,ha⟩
def bH:aD ["_law_cell","_law_players","_law_instruments","_law_many","_law_holds","_law_k","_law_player","_law_row","_law_bar","_law_j","_law_m"] ["_law_cell","_law_players","_law_instruments","_law_many"] (ao mU):=dB
def uM:cY P w base 2 T.kR uy:=by
 nomatch T.kR,bH
 obtain⟨c,many,pp,ip,ps,ins,iv,rfl,hpp,hip,ili,pl,il0,my,kk⟩:=h;have sl:=yB;have ivl:=aT ili;refine⟨_,(ag (bU 4 bH.nd (bq af))
  (ag (cy PassesOwn.never rfl (xt (by rfl) T.ka (aa (pv 1) af)) (d4 (n:=2) rfl (aL (jP 5 bH.nd) (aL (jP 6 bH.nd) df)))
  (ag (bU 7 bH.nd (bq af))
   (ag (bU 8 bH.nd ae)
   (ag (cy PassesOwn.never rfl (cH (by rfl) T.dg (aa ae af)) (jP 9 bH.nd)
   (ag (bU 10 bH.nd (bM (bR T) hr T.cB (aa (pv 0) (aa (ar aY (ar aY (ar d6 ae (pv 5)) (pv 9)) ae) af))))
    (ag (bU 8 bH.nd (ar aY (pv 8) (ar aP (pv 10) ae)))
    (ag (aI (PW.pt (cZ (ptr fo (pv 8) (pv 3)) (cZ (ptr fq (eK aC T.bA (aa (pv 2) af)) ae) (cO (ptr fq (ar aP (ar aU (pv 10) ae) ae) ae)))))
    (aj (bK (b7 yC yE yD bw (pv 7) (aa (bj (aa (pv 8) (aa (bV (fO (pv 2) (ar aP (ar aU (pv 10) ae) (eK aC T.bA (aa (pv 2) af)))) ae) af))) af))))
    ax)
    (aj (bU 8 bH.nd (ar aY (pv 8) ae)))))))
   (aj (aI (ptr (qW hr.units) (pv 7) (bq af))
   (aj (bK (b7 yC yE yD bw (pv 4) (aa (bj (aa (pv 6) (aa (pv 7) af))) af))))
   ax))))))
  (aj (aq (pv 4))))),?_⟩
 ac_rfl;exists by show 0<=sizeLine;omega,?_
 intro D nD;have s2:au H (upd H D (.lst [])):=aS nD;have h2:upd H D (.lst []) D=some (.lst []):=ay;generalize upd H D (.lst [])=H2 at s2 h2 ⊢;exists pp,_,rfl,aH.of (s2 _ _ hpp),?_;refine tL (K:=K) (a:=pp) (xs:=ps.map V.str) (fun i σ H'=>∃(hs:List (Str×List (Int×Str))) (us:List V),Lo [some (.int c),some (.ref pp),some (.ref ip),some (.int many),some (.ref D)] 6 σ/\au H H'/\H' D=some (.lst us)/\RL (jO D H') hs us/\List.Sublist (hs.map (·.1)) (ps.take i)/\(∀x∈hs,Kn (ins.map (·.1)) many x.2)/\hs.length<=i)
  ⟨[],[],Lo.of rfl rfl,s2,h2,rfl,List.nil_sublist _,by simp,zk _⟩ (fun i σ H' _ h=>by obtain⟨_,_,_,z,_⟩:=h;exact aH.of (z _ _ hpp)) ?_ ?_
 ·intro i x σ H3 p H4 hx hh s34 hp4
  refine cT fun N kN0 kR0 _ _=>?_;obtain⟨hs,us,⟨e,rfl⟩,s3,h3,rl3,sub,rok,hl⟩:=hh;rw[zJ] at hx;cases qr:ps[i]? with
  | none=>rw[qr] at hx;cases hx
  | some pn=>
  rw[qr] at hx;simp only[Option.map_some,Option.some.injEq] at hx;subst hx;refine⟨p,_,rfl,dA.of hp4,rfl,?_⟩;refine⟨_,_,rfl,⟨_,_,rfl,⟨rfl,?_⟩⟩⟩;exists by show 0<=sizeLine;omega,?_
  intro R nR;have s5:au H4 (upd H4 R (.lst [])):=aS nR;have h5:upd H4 R (.lst []) R=some (.lst []):=ay;generalize upd H4 R (.lst [])=H5 at s5 h5 ⊢;exists by decide,(by decide),?_
  refine fj (fun j σ H'=>∃(row:List (Int×Str)) (ws:List V) (bar:Int) (v9 va:Option V),σ=[some (.int c),some (.ref pp),some (.ref ip),some (.int many),some (.ref D),some (.int (i:Int)),some (.str pn),some (.ref R),some (.int bar),v9,va]/\au H4 H'/\H' R=some (.lst ws)/\aB H' (row.map Kg) ws/\0<=bar/\row.length<=j/\(row.map (·.1)).Pairwise (·<·)/\
   ∀h∈row,0<=h.1/\h.1<many/\h.2∈ins.map (·.1)/\h.1<bar) ⟨[],[],0,e 4,e 5,rfl,s5,h5,cK,∅,by simp,by simp,by simp⟩ ?_ ?_
  ·intro j σ H6 hj hh
   refine cT fun N kN1 kR1 _ _=>?_;obtain⟨row,ws,bar,v9,va,rfl,s6,h6,il6,b0,rl,asc,rin⟩:=hh;have s06:=(s3.trans s34).trans s6;left;have ib:i<ps.length:=(zw.mp qr).1;refine⟨c,_,rfl,nofun,nofun,?_⟩;have m0:0<=mixed c (7*(i:Int)+(0+(j:Int))+60):=zv _ ∅;have m1:mixed c (7*(i:Int)+(0+(j:Int))+60)<2147483399:=zr _ ∅;generalize mixed c (7*(i:Int)+(0+(j:Int))+60)=m at m0 m1;have a0:0<=m%5:=zv _ ∅;left;have hip6:=s06 _ _ hip;refine eG (decide (bar+m%5<many)&&(decide (0<(ins.length:Int))&&decide (0<m/5%3))) ?_ ?_ ?_
   ·intro c1 Z hz
    rw[c1,Bool.true_and] at hz;exists ip,iv,rfl,.inl (aH.of hip6),?_;rw[ivl];left;refine eG (decide (0<(ins.length:Int))&&decide (0<m/5%3)) ?_ ?_ hz
    ·intro c2 Z hz
     rw[c2,Bool.true_and] at hz;change hz
    ·intro c2;rw[c2,Bool.false_and]
   ·intro c1;rw[c1,Bool.false_and]
   refine join (fun σ H'=>∃(row:List (Int×Str)) (ws:List V),σ=[some (.int c),some (.ref pp),some (.ref ip),some (.int many),some (.ref D),some (.int (i:Int)),some (.str pn),some (.ref R),some (.int (bar+m%5)),some (.int (0+(j:Int))),some (.int m)]/\au H4 H'/\H' R=some (.lst ws)/\aB H' (row.map Kg) ws/\row.length<=j+1/\(row.map (·.1)).Pairwise (·<·)/\
    ∀h∈row,0<=h.1/\h.1<many/\h.2∈ins.map (·.1)/\h.1<bar+m%5+1) (fun N hN c1=>?_) (fun N hN c1=>?_) ?_
   ·simp only[zN,decide_eq_true_eq] at c1
    obtain⟨c1,c2,c3⟩:=c1;have d0:0<=m/15%(ins.length:Int):=zv _ nofun;have d1:m/15%(ins.length:Int)<ins.length:=zr _ nofun;obtain⟨jj,hjj⟩:∃jj:Nat,m/15%(ins.length:Int)=(jj:Int):=⟨(m/15%(ins.length:Int)).toNat,nofun⟩
    obtain⟨nx,hnx,inx⟩:=dY (d:=eM) (ili.mono s06) (i:=jj) (zb nofun);obtain⟨ai,ti,li,ea,hai⟩:=K9 inx;exists .inl ⟨rfl,_,aH.of h6⟩,?_;exists ip,iv,rfl,.inl (aH.of hip6),?_;rw[ivl];exists by show 0<(ins.length:Int);omega,?_
    refine⟨ip,iv,_,_,rfl,rfl,aH.of hip6,(by rw[hjj];exact bx (zb nofun)),?_⟩;rw[ea];exists bZ,?_;intros p7 H7 s7 h7;refine⟨R,ws,_,rfl,rfl,s7 _ _ h6,(by have:=aT il6;omega),?_⟩;left;have nt:cS (H7 R):=by rw[s7 _ _ h6];exact fun _ z=>by cases z
    refine hN _ _ ⟨row++[(bar+m%5,nx.1)],_,rfl,bT nR (s6.trans s7),ay,?_,by rw[zg];simp;omega,?_,fun h hh=>?_⟩
    ·rw[zj]
     exact cX (Is.upd nt (cE h7 (aN cL (aN eL cK)))) (aB.upd nt (il6.mono s7))
    ·rw[zj,zT]
     refine⟨asc,by simp,fun x hx y hy=>?_⟩;obtain⟨h',hh',rfl⟩:=zG.mp hx;have ey:y=bar+m%5:=by simpa using hy
     have:=(rin h' hh').2.2.2;omega
    ·rcases zF.mp hh with z | z
     ·have:=rin h z
      exact⟨this.1,this.2.1,this.2.2.1,nofun⟩
     ·rw[zy.mp z]
      exact⟨by show 0<=bar+m%5;omega,c1,zO (f:=fun x:Str×(Int×Int)×(Int×Int)=>x.1) (zB hnx),by show bar+m%5<bar+m%5+1;omega⟩
   ·left
    refine hN _ _ ⟨row,ws,rfl,s6,h6,il6,nofun,asc,fun h hh=>?_⟩;have:=rin h hh;exact⟨this.1,this.2.1,this.2.2.1,nofun⟩
   rintro σ7 H7 ⟨row,ws,rfl,s7,h7,il7,rl7,asc7,rin7⟩;change⟨row,ws,bar+m%5+1,_,_,rfl,s7,h7,il7,nofun,rl7,asc7,rin7⟩
  ·rintro σ H6 ⟨row,ws,bar,v9,va,rfl,s6,h6,il6,b0,rl,asc,rin⟩
   have s06:=(s3.trans s34).trans s6;have h36:=s6 _ _ (s34 _ _ h3);have rl6:RL (jO D H6) hs us:=rl3.imp fun x v z=>(z.mono s34).mono s6;have ne:R≠D:=fun z=>by rw[z,s34 _ _ h3] at nR;cases nR
   have ib:i<ps.length:=(zw.mp qr).1;have tk:ps.take (i+1)=ps.take i++[pn]:=dH qr;exists by show 0<=sizeLine;omega,?_
   intros p7 H7 s7 h7;refine⟨R,p7,ws,[],rfl,rfl,.inl ⟨aH.of (s7 _ _ h6),aH.of h7⟩,.inr (.inl rfl),?_⟩;have wr:=aT il6;have s07:=s06.trans s7
   by_cases e:ws=[]
   ·rw[ze e]
    left;refine⟨hs,us,Lo.of rfl rfl,s07,s7 _ _ h36,rl6.imp fun x v z=>z.mono s7,?_,rok,nofun⟩;rw[tk];exact sub.trans (List.sublist_append_left _ _)
   ·rw[zd e]
    have rne:row≠[]:=fun z=>e (by rw[z] at wr;exact yr.mp wr);exists .inl ⟨rfl,_,aH.of (s7 _ _ h36)⟩,?_;exists bZ,?_;intros p8 H8 s8 h8;have s78:=s7.trans s8;have h38:=s78 _ _ h36;refine⟨D,us,_,rfl,rfl,h38,by have:=rl3.len;omega,?_⟩;left;refine⟨hs++[(pn,row)],_,Lo.of rfl rfl,bT nD (s06.trans s78),ay,?_,?_,fun x hx=>?_,by rw[zg];simp;omega⟩
    ·refine RL.snoc ?_ (rl6.imp fun x v z=>(z.mono s78).upd h38)
     exact jO.upd h38 ⟨p8,R,ws,rfl,h8,s78 _ _ h6,il6.mono s78,ne⟩
    ·rw[zj,tk]
     exact sub.append (List.Sublist.refl _)
    ·rcases zF.mp hx with z | z
     ·exact rok x z
     ·rw[zy.mp z]
      exact⟨rne,rl,asc,fun h hh=>⟨(rin h hh).1,(rin h hh).2.1,(rin h hh).2.2.1⟩⟩
 ·rintro σ H3 ⟨hs,us,⟨e,rfl⟩,s3,h3,rl3,sub,rok,hl⟩
  rw[za,zM] at sub;change kk hs D us H3 sub rok s3 h3 rl3
def Fs (S:cG) (ns:List ((Int×Str)×List Item)):Prop:=(ns.map (·.1)).Nodup/\∀x∈ns,0<=x.1.1/\x.1.1<S.aM.length/\x.1.2∈S.players/\Ft x.2 (S.len x.1.1.toNat)
inductive uq (vs:List V) (H:Hp) (Q:VK) (E:XK):Prop
 | mk (c:Int) (pp bl:Addr) (S:cG) (bv:List V) (ub:V) (_:vs=[.int c,.ref pp,.ref bl,ub]) (_:H pp=some (.lst (S.players.map V.str))) (_:H bl=some (.lst bv)) (_:aB H (S.aM.map lD) bv) (_:Is H (dO dL S.aG) ub) (_:S.players.length<=9) (_:S.players.Nodup) (_:S.aM.length<=200) (_:(∀x∈S.aM,LW x)) (_:(∀b:Nat,b<S.aM.length->LQ (S.len b))) (_:∀(ns:List ((Int×Str)×List Item)) D us H',Fs S ns->ns.length<=9*S.aM.length->au H H'->H' D=some (.lst us)->RL (iE D H') ns us->Q (.ref D) H')
def cj:aD ["_law_cell","_law_players","_law_bars","_law_upbeat","_law_notes","_law_bar","_law_k","_law_player","_law_m","_law_often","_law_run"] ["_law_cell","_law_players","_law_bars","_law_upbeat"] (ao mR):=dB
def uK:cY P w base 3 T.kP uq:=by
 nomatch T.kP,cj
 obtain⟨c,pp,bl,S,bv,ub,rfl,hpp,hbl,ilb,iub,pl,pnd,bl2,bok,lok,kk⟩:=h;have sl:=yB;have bvl:=aT ilb;refine⟨_,(ag (bU 4 cj.nd (bq af))
  (ag (cy PassesOwn.never rfl (cH (by rfl) T.dg (aa (eK aC T.bA (aa (pv 2) af)) af)) (jP 5 cj.nd)
  (aj (cy PassesOwn.never rfl (xt (by rfl) T.ka (aa (pv 1) af)) (d4 (n:=2) rfl (aL (jP 6 cj.nd) (aL (jP 7 cj.nd) df)))
   (ag (bU 8 cj.nd (bM (bR T) hr T.cB (aa (pv 0) (aa (ar aY (ar aY (ar d6 ae (pv 6)) (pv 5)) ae) af))))
    (ag (bU 9 cj.nd (ar aP (bM (bR T) hr T.cB (aa (pv 0) (aa (ar aY (pv 6) ae) af))) ae))
    (ag (bU 10 cj.nd (ar aP (bM (bR T) hr T.cB (aa (pv 0) (aa (ar aY (ar aY (ar d6 ae (pv 6)) (ar aU (pv 5) ae)) ae) af))) ae))
    (aj (aI (PW.pt (cZ (ptr iI (ar aP (pv 8) ae) (pv 9)) (cO (ptr fq (pv 10) ae))))
    (aj (bK (b7 yC yE yD bw (pv 4) (aa (bj (aa (pv 5) (aa (pv 7) (aa (bM (uL T) hr T.kQ (aa (ar aU (pv 8) ae) (aa (bM (tf T) hr T.jL (aa (pv 2) (aa (pv 3) (aa (pv 5) af)))) af))) af)))) af))))
    ax))))))))
  (aj (aq (pv 4))))),?_⟩
 ac_rfl;exists by show 0<=sizeLine;omega,?_
 intro D nD;have s2:au H (upd H D (.lst [])):=aS nD;have h2:upd H D (.lst []) D=some (.lst []):=ay;generalize upd H D (.lst [])=H2 at s2 h2 ⊢;exists bl,bv,rfl,.inl (aH.of (s2 _ _ hbl)),?_;rw[bvl];exists by omega,nofun,?_
 rw[show((S.aM.length:Int)).toNat=S.aM.length from by omega];refine fj (fun i σ H'=>∃(ns:List ((Int×Str)×List Item)) (us:List V),Lo [some (.int c),some (.ref pp),some (.ref bl),some ub,some (.ref D)] 6 σ/\au H H'/\H' D=some (.lst us)/\RL (iE D H') ns us/\Fs S ns/\(∀x∈ns,x.1.1<i)/\ns.length<=9*i)
  ⟨[],[],Lo.of rfl rfl,s2,h2,rfl,⟨by simp,by simp⟩,by simp,by simp⟩ ?_ ?_
 ·intro i σ H3 hi hh
  refine cT fun N kN0 kR0 _ _=>?_;obtain⟨ns,us,⟨e,rfl⟩,s3,h3,rl3,nok,nlt,nl⟩:=hh;exists pp,_,rfl,aH.of (s3 _ _ hpp),?_;refine tL (K:=K) (a:=pp) (xs:=S.players.map V.str) (fun j σ H'=>∃(ns:List ((Int×Str)×List Item)) (us:List V),Lo [some (.int c),some (.ref pp),some (.ref bl),some ub,some (.ref D),some (.int (0+(i:Int)))] 5 σ/\au H H'/\H' D=some (.lst us)/\RL (iE D H') ns us/\Fs S ns/\(∀x∈ns,x.1.1<i\/(x.1.1=i/\x.1.2∈S.players.take j))/\ns.length<=9*i+j)
   ⟨ns,us,Lo.of rfl rfl,s3,h3,rl3,nok,fun x hx=>.inl (nlt x hx),nofun⟩ (fun i σ H' _ h=>by obtain⟨_,_,_,z,_⟩:=h;exact aH.of (z _ _ hpp)) ?_ ?_
  ·intro j x σ H4 p H5 hx hh s45 hp5
   refine cT fun N kN1 kR1 _ _=>?_;obtain⟨ns,us,⟨e,rfl⟩,s4,h4,rl4,nok,nlt,nl⟩:=hh;rw[zJ] at hx;cases qr:S.players[j]? with
   | none=>rw[qr] at hx;cases hx
   | some pn=>
   rw[qr] at hx;simp only[Option.map_some,Option.some.injEq] at hx;subst hx;have jb:j<S.players.length:=(zw.mp qr).1;have s05:=s4.trans s45;have h45:=s45 _ _ h4;have rl5:RL (iE D H5) ns us:=rl4.imp fun x v z=>z.mono s45;have tk:S.players.take (j+1)=S.players.take j++[pn]:=dH qr;refine⟨p,_,rfl,dA.of hp5,rfl,?_⟩;refine⟨_,_,rfl,⟨_,_,rfl,⟨rfl,?_⟩⟩⟩;exists c,_,rfl,nofun,nofun,?_;have m0:0<=mixed c (97*(j:Int)+(0+(i:Int))+100):=zv _ ∅;have m1:mixed c (97*(j:Int)+(0+(i:Int))+100)<2147483399:=zr _ ∅;generalize mixed c (97*(j:Int)+(0+(i:Int))+100)=m at m0 m1;exists c,_,rfl,nofun,nofun,?_;left;refine⟨c,_,rfl,?_,?_,?_⟩
   ·have:=zV (a:=0+(i:Int)) (b:=4) nofun ∅;omega
   ·have:=zW (a:=0+(i:Int)) 4 nofun;omega
   generalize mixed c (31*(j:Int)+(0+(i:Int))/4+400)=m3;generalize mixed c ((j:Int)+90)=m2;left;refine eG (decide (m%6<=m2%5)&&decide (0<m3%3)) ?_ ?_ ?_
   ·intro c1 Z hz
    rw[c1,Bool.true_and] at hz;change hz
   ·intro c1;rw[c1,Bool.false_and]
   cases qv:(decide (m%6<=m2%5)&&decide (0<m3%3)) with
   | true=>
    exists .inl ⟨rfl,_,aH.of h45⟩,?_;exists bl,bv,S,ub,i,(by simp),s05 _ _ hbl,ilb.mono s05,iub.mono s05,hi,bok,fun p6 H6 s6 h6=>?_;refine⟨_,_,p6,rfl,h6,zV m0 ∅,?_,lok i hi,fun its p7 ws H7 iok s7 n7 h7 il7=>?_⟩
    ·have:=zW (a:=m) 6 m0;omega
    have s57:=s6.trans s7;have ne:p7≠D:=fun z=>by rw[z,s6 _ _ h45] at n7;cases n7
    exists nY,?_;intros p8 H8 s8 h8;have s58:=s57.trans s8;have h48:=s58 _ _ h45;refine⟨D,us,_,rfl,rfl,h48,by have:=rl4.len;omega,?_⟩;left;have fr:((0+(i:Int),pn):Int×Str)∉ns.map (·.1):=fun z=>by
     obtain⟨y,hy,ey⟩:=zG.mp z;rcases nlt y hy with q | ⟨_,q2⟩
     ·rw[ey] at q;dsimp only at q;omega
     ·rw[ey] at q2
      dsimp only at q2;have nd:=List.Nodup.sublist (List.take_sublist (j+1) S.players) pnd;rw[tk,zR] at nd;exact nd.2.2 pn q2 pn (zy.mpr rfl) rfl
    refine⟨ns++[((0+(i:Int),pn),its)],_,Lo.of rfl rfl,bT nD (s05.trans s58),ay,?_,⟨?_,fun x hx=>?_⟩,fun x hx=>?_,by rw[zg];simp;omega⟩
    ·refine RL.snoc ?_ (rl5.imp fun x v z=>(z.mono s58).upd h48)
     exact iE.upd h48 ⟨p8,p7,ws,rfl,h8,s8 _ _ h7,il7.mono s8,ne⟩
    ·rw[zj,zR]
     exact⟨nok.1,by simp,fun x hx y hy e=>by
      have:y=(0+(i:Int),pn):=by simpa using hy
      rw[<-e] at this;exact fr (this▸hx)⟩
    ·rcases zF.mp hx with z | z
     ·exact nok.2 x z
     ·rw[zy.mp z]
      refine⟨by show 0<=0+(i:Int);omega,by show 0+(i:Int)<S.aM.length;omega,zB qr,?_⟩;show Ft its (S.len (0+(i:Int)).toNat);rw[show(0+(i:Int)).toNat=i from by omega];exact iok
    ·rcases zF.mp hx with z | z
     ·rcases nlt x z with q | ⟨q1,q2⟩
      ·exact .inl q
      ·exact .inr ⟨q1,by rw[tk];exact zI _ q2⟩
     ·rw[zy.mp z]
      exact .inr ⟨by show 0+(i:Int)=i;omega,by rw[tk];exact zH _ (zy.mpr rfl)⟩
   | false=>
    left;refine⟨ns,us,Lo.of rfl rfl,s05,h45,rl5,nok,fun x hx=>?_,nofun⟩;rcases nlt x hx with z | ⟨z1,z2⟩
    ·exact .inl z
    ·exact .inr ⟨z1,by rw[tk];exact zI _ z2⟩
  ·rintro σ H4 ⟨ns,us,⟨e,rfl⟩,s4,h4,rl4,nok,nlt,nl⟩
   rw[za] at nlt nl;left;refine⟨ns,us,Lo.of rfl rfl,s4,h4,rl4,nok,fun x hx=>?_,nofun⟩;rcases nlt x hx with z | ⟨z1,z2⟩
   ·omega
   ·omega
 ·rintro σ H3 ⟨ns,us,⟨e,rfl⟩,s3,h3,rl3,nok,nlt,nl⟩
  change kk ns D us H3 nok nofun s3 h3 rl3
def SR (ins:List (Str×(Int×Int)×(Int×Int))):Prop:=ins.length<=3/\Bs (ins.map (·.1))/\∀x∈ins,N6 x.2.1/\-12<=x.2.1.1/\x.2.1.1<=12/\Lm.Rd x.2.2/\x.2.2.1<10000/\x.2.2.2<10000
def Ig (n:Int):N6 (n%25-12,7*(n%25-12)%12+12*(n/25%5-2))/\-12<=n%25-12/\n%25-12<=12:=by
 have a:=zv n (b:=25) ∅;have b:=zr n (b:=25) ∅;have c:=zv (n/25) (b:=5) ∅;have d:=zr (n/25) (b:=5) ∅;unfold N6;dsimp only;omega
def lL:Sp:=fun vs H Q _=>∃(c:Int),vs=[.int c]/\∀(ins:List (Str×(Int×Int)×(Int×Int))) D us H',SR ins->au H H'->H' D=some (.lst us)->aB H' (ins.map eM) us->Q (.ref D) H'
def bo:aD ["_law_cell","_law_m","_law_instruments","_law_k","_law_name","_law_n","_law_df","_law_turn"] ["_law_cell"] (ao gw):=dB
def lZ:cY P w base 2 T.fA lL:=by
 nomatch T.fA,bo
 obtain⟨c,rfl,kk⟩:=h;have sl:=yB;refine⟨_,(ag (bU 1 bo.nd (bM (bR T) hr T.cB (aa (pv 0) (aa ae af))))
  (ag (bU 2 bo.nd (bq af))
  (ag (cy PassesOwn.never rfl (xt (by rfl) T.ka (aa (bM (fg T) hr T.eI (aa (ar aU (pv 1) ae) (aa (ar aP (pv 1) ae) af))) af)) (d4 (n:=2) rfl (aL (jP 3 bo.nd) (aL (jP 4 bo.nd) df)))
  (ag (bU 5 bo.nd (bM (bR T) hr T.cB (aa (pv 0) (aa (ar aY (pv 3) ae) af))))
   (ag (bU 6 bo.nd (ar gA (ar aP (pv 5) ae) ae))
   (ag (bU 7 bo.nd (bj (aa (pv 6) (aa (ar aY (ar aP (ar d6 ae (pv 6)) ae) (ar d6 ae (ar gA (ar aP (ar aU (pv 5) ae) ae) ae))) af))))
   (aj (bK (b7 yC yE yD bw (pv 2) (aa (bj (aa (pv 4) (aa (pv 7) (aa (bM (gg T) hr T.fR (aa (ar aP (ar aU (pv 5) ae) ae) (aa (fO (bq (aa ae (aa ae (aa ae (aa ae (aa ae af)))))) (ar aP (ar aU (pv 5) ae) ae)) af))) af)))) af))))))))
  (aj (aq (pv 2)))))),?_⟩
 ac_rfl;exists c,8,rfl,nofun,nofun,?_;have m0:0<=mixed c 8:=zv _ ∅;have m1:mixed c 8<2147483399:=zr _ ∅;generalize mixed c 8=m at m0 m1;have a0:0<=m%4:=zv _ ∅;have a1:m%4<4:=zr _ ∅;exists by show 0<=sizeLine;omega,?_
 intro D nD;have s2:au H (upd H D (.lst [])):=aS nD;have h2:upd H D (.lst []) D=some (.lst []):=ay;generalize upd H D (.lst [])=H2 at s2 h2 ⊢;left;refine⟨_,_,rfl,zV m0 ∅,?_,a0,nofun,fun nms pn H3 nl nok s3 h3=>?_⟩
 ·have:=zW (a:=m) 4 m0;omega
 exists pn,_,rfl,aH.of h3,?_;have nl3:nms.length<=3:=nofun
 refine tL (K:=K) (a:=pn) (xs:=nms.map V.str) (fun i σ H'=>∃(ins:List (Str×(Int×Int)×(Int×Int))) (us:List V),Lo [some (.int c),some (.int m),some (.ref D)] 5 σ/\au H H'/\H' pn=some (.lst (nms.map V.str))/\H' D=some (.lst us)/\aB H' (ins.map eM) us/\ins.map (·.1)=nms.take i/\
  ∀x∈ins,N6 x.2.1/\-12<=x.2.1.1/\x.2.1.1<=12/\Lm.Rd x.2.2/\x.2.2.1<10000/\x.2.2.2<10000)
  ⟨[],[],Lo.of rfl rfl,s2.trans s3,h3,s3 _ _ h2,cK,rfl,by simp⟩ (fun i σ H' _ h=>by obtain⟨_,_,_,_,z,_⟩:=h;exact aH.of z) ?_ ?_
 ·intro i x σ H4 p H5 hx hh s45 hp5
  refine cT fun N kN0 kR0 _ _=>?_;obtain⟨ins,us,⟨e,rfl⟩,s4,hpn4,h4,il4,ek,iok⟩:=hh;rw[zJ] at hx;cases qr:nms[i]? with
  | none=>rw[qr] at hx;cases hx
  | some nm=>
  rw[qr] at hx;simp only[Option.map_some,Option.some.injEq] at hx;subst hx;have ib:i<nms.length:=(zw.mp qr).1;have h45:=s45 _ _ h4;have tk:nms.take (i+1)=nms.take i++[nm]:=dH qr;have nepn:pn≠D:=fun z=>by
   have q:=h3;rw[z,s3 _ _ h2] at q;have e:([]:List V)=nms.map V.str:=HO.lst.inj (yj q);have:nms.length=0:=by rw[<-za (f:=V.str),<-e];rfl
   omega
  refine⟨p,_,rfl,dA.of hp5,rfl,?_⟩;refine⟨_,_,rfl,⟨_,_,rfl,⟨rfl,?_⟩⟩⟩;exists c,_,rfl,nofun,nofun,?_;have n0:0<=mixed c ((i:Int)+530):=zv _ ∅;have n1:mixed c ((i:Int)+530)<2147483399:=zr _ ∅;generalize mixed c ((i:Int)+530)=n at n0 n1;exists bZ,?_;intros p6 H6 s6 h6;have h46:=s6 _ _ h45;exists .inl ⟨rfl,_,aH.of h46⟩,?_;exists by show 5<=sizeLine;omega,?_
  intros p7 H7 s7 h7;have g0:0<=n/1125%5:=zv _ ∅;have g1:n/1125%5<5:=zr _ ∅;have t0:0<=n/125%9:=zv _ ∅;have t1:n/125%9<9:=zr _ ∅;obtain⟨jj,hjj⟩:∃j:Nat,n/1125%5=(j:Int):=⟨(n/1125%5).toNat,nofun⟩
  obtain⟨z,hz,z0,z1⟩:∃z:Int,[V.int 1,V.int 2,V.int 4,V.int 8,V.int 3][jj]?=some (.int z)/\0<z/\z<=8:=by
   have:jj<5:=nofun
   match jj,this with
   | 0,_=>exact⟨1,rfl,∅,∅⟩
   | 1,_=>exact⟨2,rfl,∅,∅⟩
   | 2,_=>exact⟨4,rfl,∅,∅⟩
   | 3,_=>exact⟨8,rfl,∅,∅⟩
   | 4,_=>exact⟨3,rfl,∅,∅⟩
  exists p7,_,n/1125%5,.int z,rfl,rfl,aH.of h7,(by rw[hjj];exact bx hz),?_;exists _,_,rfl,t0,z0,(du (n:=10) nofun nofun).mono ∅,fun p8 H8 s8 h8=>?_;exists nY,?_;intros p9 H9 s9 h9;have s59:=((s6.trans s7).trans s8).trans s9;have h49:=s59 _ _ h45;refine⟨D,us,_,rfl,rfl,h49,?_,?_⟩
  ·have e1:=aT il4
   have e2:ins.length=(nms.take i).length:=by rw[<-ek,za]
   rw[zP] at e2;omega
  left;have nt:cS (H9 D):=by rw[h49];exact fun _ z=>by cases z
  have rb:=lR (t:=n/125%9) z0;have rle:=y9 (t:=n/125%9) (b:=z) t0;obtain⟨td1,td2,td3⟩:=Ig n;have ix:Is H9 (eM (nm,(n%25-12,7*(n%25-12)%12+12*(n/25%5-2)),red (n/125%9) z)) (.ref p9):=cE h9 (aN eL (aN (iW (((s7.trans s8).trans s9) _ _ h6)) (aN (iW (s9 _ _ h8)) cK)));refine⟨ins++[(nm,(n%25-12,7*(n%25-12)%12+12*(n/25%5-2)),red (n/125%9) z)],_,Lo.of rfl rfl,bT nD ((s4.trans s45).trans s59),by rw[aE nepn];exact s59 _ _ (s45 _ _ hpn4),ay,?_,?_,fun x hx=>?_⟩
  ·rw[zj]
   exact cX (Is.upd nt ix) (aB.upd nt ((il4.mono s45).mono s59))
  ·rw[zj,ek,tk];rfl
  ·rcases zF.mp hx with y | y
   ·exact iok x y
   ·rw[zy.mp y]
    obtain⟨_,_,_,_,_,r5⟩:=rb;exact⟨td1,td2,td3,Lm.Rd.of t0 z0,by show(red (n/125%9) z).1<10000;omega,by show(red (n/125%9) z).2<10000;omega⟩
 ·rintro σ H4 ⟨ins,us,⟨e,rfl⟩,s4,hpn4,h4,il4,ek,iok⟩
  rw[za,zM] at ek;change kk ins D us H4 ⟨by rw[<-za (f:=fun x:Str×(Int×Int)×(Int×Int)=>x.1),ek];exact nl3,by rw[ek];exact nok,iok⟩ s4 h4 il4
inductive pH (vs:List V) (H:Hp) (Q:VK) (E:XK):Prop
 | mk (q:Addr) (x:Int×Int) (_:vs=[.ref q]) (_:H q=some (mD x)) (_:0<=x.1) (_:x.1<10000) (_:0<x.2) (_:x.2<10000) (_:Q (.str (iV x)) H)
def pJ:aD ["_law_length"] ["_law_length"] (ao jy):=dB
def dU:cY P w base 1 T.dt pH:=by
 nomatch T.dt,pJ
 obtain⟨q,x,rfl,hq,x1,x2,x3,x4,kk⟩:=h;have sl:=yB;have a:=bz (n:=x.1) nofun x2;have b:=bz (n:=x.2) nofun x4;have na:=bN (n:=x.1) nofun x2;have nb:=bN (n:=x.2) nofun x4;have l1:("/": Str).length=1:=rfl;refine⟨_,(ag (aI (ptr dj (bV (pv 0) ae) ae)
  (aj (aq (nJ aW T.fG (aa (bV (pv 0) ae) af))))
  ax)
  (aj (aq (ar bX (ar bX (nJ aW T.fG (aa (bV (pv 0) ae) af)) aK) (nJ aW T.fG (aa (bV (pv 0) ae) af)))))),?_⟩
 ac_rfl;left
 by_cases c:x.2=1
 ·refine b9 (by rw[c];rfl) ?_
  exists na,?_;left;unfold iV at kk;rw[if_pos c] at kk;exact kk
 ·refine cq (zd fun z=>c (V.int.inj z)) ?_
  unfold iV at kk;rw[if_neg c] at kk;exists na,?_;exists by show(dec x.1).length+_<=_;omega,?_
  exists nb,?_;exists by show(dec x.1 ++"/").length+(dec x.2).length<=_;rw[len_app];omega,?_
  exact kk
inductive jS (vs:List V) (H:Hp) (Q:VK) (E:XK):Prop
 | mk (v:V) (it:Item) (_:vs=[v]) (_:Is H (fb it) v) (_:LS it) (_:Q (.str (rg it)) H)
def Np {H:Hp} {it:Item} {v:V} (h:Is H (fb it) v):∃a q b,v=.ref a/\H a=some (.tup [q,.ref b])/\Is H (dO dL it.1) q/\H b=some (mD it.2):=by
 unfold fb Is at h;obtain⟨a,vs,rfl,ha,hl⟩:=h;unfold aB at hl;obtain⟨v1,r1,rfl,h1,hl⟩:=hl;unfold aB at hl;obtain⟨v2,r2,rfl,h2,hl⟩:=hl;unfold aB at hl;subst hl;cases fw (o:=some it.2) h2 with
 | ref hb=>exact⟨a,v1,_,rfl,ha,h1,hb⟩
def rZ:aD ["_law_item"] ["_law_item"] (ao kY):=dB
def tm:cY P w base 2 T.jM jS:=by
 nomatch T.jM,rZ
 obtain⟨v,⟨o,x⟩,rfl,iv,iok,kk⟩:=h;have sl:=yB;obtain⟨a,q,b,rfl,ha,iq,hb⟩:=Np iv;obtain⟨⟨hr',h1,h2,h3⟩,hq⟩:=id iok;obtain⟨_,p2,_⟩:=hr'.pos;have lx:=lh (x:=x) (by have:=h1;dsimp only at this;omega) h2 (by have:=p2;dsimp only at this;omega) h3;dsimp only at h1 h2 h3 p2 hq hb iq;refine⟨_,(ag (aI (bB (cI (bV (pv 0) ae)))
  (aj (aq (ar bX aK (bM (dU T) hr T.dt (aa (bV (pv 0) ae) af)))))
  ax)
  (aj (aq (ar bX (ar bX (ar bX (ar bX (nJ aW T.fG (aa (bV (bV (pv 0) ae) ae) af)) aK) (nJ aW T.fG (aa (bV (bV (pv 0) ae) ae) af))) aK) (bM (dU T) hr T.dt (aa (bV (pv 0) ae) af)))))),?_⟩
 ac_rfl;left;cases o with
 | none=>
  unfold dO Is at iq;subst iq;exists b,x,rfl,hb,nofun,h2,p2,h3,?_;have l2:("r:": Str).length=2:=rfl;refine⟨_,_,rfl,rfl,nofun,?_⟩;exact kk
 | some pq=>
  obtain⟨q1,q2,q3,q4,_⟩:=hq pq rfl;have la:=bz (n:=pq.1) nofun nofun;have lb:=bz (n:=pq.2) nofun nofun;have na:=bN (n:=pq.1) nofun nofun;have nb:=bN (n:=pq.2) nofun nofun;cases fw (o:=some pq) iq with
  | ref hpq=>
   have l1:(":": Str).length=1:=rfl;exists na,?_;exists by show(dec pq.1).length+_<=_;omega,?_
   exists nb,?_;exists by show(dec pq.1 ++":").length+(dec pq.2).length<=_;rw[len_app];omega,?_
   exists by show(dec pq.1 ++":" ++ dec pq.2).length+_<=_;rw[len_app,len_app];omega,?_
   exists b,x,rfl,hb,nofun,h2,p2,h3,?_;refine⟨_,_,rfl,rfl,by show(dec pq.1 ++":" ++ dec pq.2 ++":").length+_<=_;rw[len_app,len_app,len_app];omega,?_⟩;exact kk
inductive iG (vs:List V) (H:Hp) (Q:VK) (E:XK):Prop
 | mk (v:V) (r:Rep) (_:vs=[v]) (_:Is H (jQ r) v) (_:LO r) (_:∀H',au H H'->Q (.str (rowOf (.rep r))) H')
noncomputable def w4 (r:Rep):List Str:=["repeat",dec r.first,dec r.last,dec r.times]
def dQ:aD ["_law_repeat","_law_words","_law_begin","_law_passes"] ["_law_repeat"] (ao jx):=dB
def pM:cY P w base 1 T.gJ iG:=by
 nomatch T.gJ,dQ
 obtain⟨v,r,rfl,iv,⟨⟨f1,f2,f3,f4,f5⟩,el,pl⟩,kk⟩:=h;have sl:=yB;obtain⟨a,ep,rfl,ha,ie⟩:=gd iv;obtain⟨ep',evs,e0,hep,ile⟩:∃ep' evs,V.ref ep=.ref ep'/\H ep'=some (.tup evs)/\aB H (r.ends.map nH) evs:=by unfold Is at ie;exact ie
 cases e0;have evl:=aT ile;have n1:=bN (n:=r.first) (by have:=f1.1;omega) (by have:=f1.2;omega);have n2:=bN (n:=r.last) (by have:=f2.1;omega) (by have:=f2.2;omega);have n3:=bN (n:=r.times) nofun nofun;refine⟨_,(ag (bU 1 dQ.nd (bq (aa aK (aa (nJ aW T.fG (aa (bV (pv 0) ae) af)) (aa (nJ aW T.fG (aa (bV (pv 0) ae) af)) (aa (nJ aW T.fG (aa (bV (pv 0) ae) af)) af))))))
  (ag (cy PassesOwn.never rfl (kB (bV (pv 0) ae)) (d4 (n:=2) rfl (aL (jP 2 dQ.nd) (aL (jP 3 dQ.nd) df)))
  (aj (bK (b7 yC yE yD bw (pv 1) (aa (ar bX (ar bX (nJ aW T.fG (aa (pv 2) af)) aK) (b7 yF yH yG gQ aK (aa (nA (ts:=["_law_one"]) (ys:=[]) (js:=[]) (te:=(JQ R9 (bC (aV 0) dZ))) (kB (pv 3)) (fU 0) bg (nJ aW T.fG (aa (pv 0) af))) af))) af)))))
  (aj (aq (b7 yF yH yG gQ aK (aa (pv 1) af)))))),?_⟩
 ac_rfl;exists n1,?_;exists n2,?_;exists n3,?_;exists by show 4<=sizeLine;omega,?_
 intro W nW;generalize hU:upd H W _=H2;have s2:au H H2:=by rw[<-hU];exact aS nW
 have h2:H2 W=some (.lst ((w4 r).map V.str)):=by rw[<-hU];exact ay
 clear hU;have ha2:=s2 _ _ ha;exists⟨_,dA.of (s2 _ _ hep)⟩,?_;refine J9 (K:=K) (a:=ep) (xs:=evs) (fun i σ H'=>∃(v2 v3:Option V),σ=[some (.ref a),some (.ref W),v2,v3]/\au H H'/\H' W=some (.lst ((w4 r++(r.ends.take i).map pO).map V.str))) ⟨none,none,rfl,s2,by rw[List.take_zero,ym,zU];exact h2⟩ (fun i σ H' _ h=>by obtain⟨_,_,_,z,_⟩:=h;exact dA.of (z _ _ hep)) ?_ ?_
 ·intro i x σ H3 hx hh
  refine cT fun N kN0 kR0 _ _=>?_;obtain⟨v2,v3,rfl,s3,h3⟩:=hh;obtain⟨e,he,ie⟩:=dY ile hx;obtain⟨b,q,rfl,hb,hq⟩:=uV ie;have eo:=f5 e (zB he);have pe:=pl e (zB he);have hb3:=s3 _ _ hb;have tk:r.ends.take (i+1)=r.ends.take i++[e]:=dH he;have ib:i<r.ends.length:=(zw.mp he).1;have nb:=bN (n:=e.1) (by have:=eo.1;omega) (by have:=eo.2.1;omega);have lb:=bz (n:=e.1) (by have:=eo.1;omega) (by have:=eo.2.1;omega);refine⟨b,_,rfl,dA.of hb3,rfl,?_⟩;refine⟨_,_,rfl,⟨_,_,rfl,⟨rfl,?_⟩⟩⟩;exists .inl ⟨rfl,_,aH.of h3⟩,?_;exists nb,?_;exists by show(dec e.1).length+(":": Str).length<=_;have:(":": Str).length=1:=rfl;omega,?_
  exists⟨_,dA.of (s3 _ _ hq)⟩,?_;refine gG (enc:=V.int) (ws:=e.2) (fun z=>.str (dec z)) (fun σ=>∃v,σ=[v]) nofun (s3 _ _ hq) ⟨none,rfl⟩ ?_ ?_
  ·rintro z σ H4 R hz s4 ⟨_,rfl⟩ rr
   have:=eo.2.2.2 z hz;exists bN nofun nofun,?_;exact rr _ _ _ (au.refl _) eL ⟨_,rfl⟩
  ·intro D vs H4 s4 hD il
   have e1:e.2.map (fun z=>Dt.str (dec z))=(e.2.map dec).map Dt.str:=by rw[zA];rfl
   rw[e1] at il;rw[dM il] at hD;have l5:∀z∈e.2.map dec,z.length<=5:=fun z hz=>by
    obtain⟨p,hp,rfl⟩:=zG.mp hz;have:=eo.2.2.2 p hp;exact bz nofun nofun
   have l9:(e.2.map dec).length<=9:=by rw[za];exact pe
   have sb:=qB (sep:=",") l5;have jb:=Ax (sep:=",") l5;have mb:(e.2.map dec).length*(5+(",": Str).length)<=9*(5+1):=Nat.mul_le_mul l9 (zk _);refine⟨",",D,_,rfl,rfl,aH.of hD,zL sb (zL mb nofun),?_⟩;refine⟨_,_,rfl,rfl,?_,?_⟩
   ·show(dec e.1 ++":").length+(Str.join "," (e.2.map dec)).length<=sizeLine
    rw[len_app];have:(":": Str).length=1:=rfl;omega
   have h34:=s4 _ _ h3;have s04:=s3.trans s4;left;refine⟨W,_,_,rfl,rfl,h34,?_,?_⟩
   ·rw[za,zg,za,zP]
    show 4+_<_;omega
   exists _,_,rfl,bT nW s04,?_;have ew:(w4 r++(r.ends.take (i+1)).map pO).map V.str=(w4 r++(r.ends.take i).map pO).map V.str++[V.str (pO e)]:=by
    rw[tk,zj (f:=pO),<-zE,zj (f:=V.str)];rfl
   rw[ay,ew];rfl
 ·rintro σ H3 ⟨v2,v3,rfl,s3,h3⟩
  rw[evl,zM] at h3;left;have ll:∀z∈w4 r++r.ends.map pO,z.length<=60:=fun z hz=>by
   rcases zF.mp hz with y | y
   ·unfold w4 at y
    simp only[zC,zD,or_false] at y;rcases y with rfl | rfl | rfl | rfl
    ·decide
    ·have:=bz (n:=r.first) (by have:=f1.1;omega) (by have:=f1.2;omega);omega
    ·have:=bz (n:=r.last) (by have:=f2.1;omega) (by have:=f2.2;omega);omega
    ·have:=bz (n:=r.times) nofun nofun;omega
   ·obtain⟨e,he,rfl⟩:=zG.mp y
    exact G0 (f5 e he) (pl e he)
  have sb:=qB (sep:=" ") ll;refine⟨" ",W,_,rfl,rfl,aH.of h3,?_,?_⟩
  ·have l4:(w4 r++r.ends.map pO).length<=13:=by rw[zg,za];show 4+_<=13;omega
   exact zL sb (zL (Nat.mul_le_mul l4 (zk _)) (by show 13*(60+1)<=sizeLine;omega))
  exact kk _ s3
def UB {c:Bool} {T1 T2:VK->Prop} {Z:VK} {H:Hp} (v:V) (h1:c=true->∀Z:VK,Z v H->T1 Z) (h2:c=false->∀Z:VK,Z v H->T2 Z) (hz:Z v H):if c=true then T1 Z else T2 Z:=by
 cases c with
 | true=>rw[if_pos rfl];exact h1 rfl Z hz
 | false=>rw[if_neg (by simp)];exact h2 rfl Z hz
def SO (j:Jump):Prop:=P6 (.ck j)
noncomputable def AE (S:cG):List Told:=S.repeats.map .rep++S.ck.toList.map .ck
inductive rT (vs:List V) (H:Hp) (Q:VK) (E:XK):Prop
 | mk (p:Addr) (S:cG) (_:vs=[.ref p]) (_:ua H p S) (_:(∀r∈S.repeats,LO r)) (_:S.repeats.length<=1000) (_:(∀j,S.ck=some j->SO j)) (_:∀D H',au H H'->H D=none->H' D=some (.lst (((AE S).map rowOf).map V.str))->Q (.ref D) H')
def Nw {H:Hp} {j:Jump} {v:V} (h:Is H (jH j) v):∃a c,v=.ref a/\H a=some (.tup [.int j.xy,.int j.Bu,.int j.dE,c])/\Is H (dO .int j.gH) c:=by
 unfold jH Is at h;obtain⟨a,vs,rfl,ha,hl⟩:=h;unfold aB at hl;obtain⟨v1,r1,rfl,h1,hl⟩:=hl;unfold aB at hl;obtain⟨v2,r2,rfl,h2,hl⟩:=hl;unfold aB at hl;obtain⟨v3,r3,rfl,h3,hl⟩:=hl;unfold aB at hl;obtain⟨v4,r4,rfl,h4,hl⟩:=hl;unfold aB at hl;subst hl;unfold Is at h1 h2 h3;subst h1 h2 h3;exact⟨a,v4,rfl,ha,h4⟩
theorem hV {H:Hp} {α:Type} {d:α->Dt}:∀{xs:List α} {vs:List V},aB H (xs.map d) vs->∃ps:List (α×V),ps.map (·.1)=xs/\ps.map (·.2)=vs/\∀z∈ps,Is H (d z.1) z.2
 | [],_,h=>⟨[],rfl,by unfold aB at h;rw[h];rfl,by simp⟩
 | x::xs,_,h=>by
  rw[zh] at h;unfold aB at h;obtain⟨v,r,rfl,h1,h2⟩:=h;obtain⟨ps,e1,e2,e3⟩:=hV h2;refine⟨(x,v)::ps,by rw[zh,e1],by rw[zh,e2],fun z hz=>?_⟩;rcases zC.mp hz with rfl | hz
  ·exact h1
  ·exact e3 z hz
def gc:aD ["_law_s","_law_rows","_law_coda"] ["_law_s"] (ao kZ):=dB
def tq:cY P w base 2 T.jN rT:=by
 nomatch T.jN,gc
 obtain⟨p,S,rfl,la,rok,rl3,jok,kk⟩:=h;have sl:=yB;obtain⟨pl,il,sl',bl,hl,nl,rl,ub,jm,iv,sv,bv,hv,nv,rv,h1,h2,h3,h4,h5,h6,h7,h8,⟨h9,ilr⟩,hj⟩:=la.at';obtain⟨ps,e1,e2,e3⟩:=hV ilr;have pln:ps.length=S.repeats.length:=by rw[<-e1,za]
 refine⟨_,(ag (LX (i:=1) (ts:=["_law_repeat"]) (ys:=[]) (js:=[]) (te:=(fX iG [] E0 (bC (aV 0) dZ))) (aZ (bV (pv 0) ae)) (fU 0) bg (bM (pM T) hr T.gJ (aa (pv 0) af)) gc.nd)
  (ag (aI (bB (gN (bV (pv 0) ae)))
  (ag (bU 2 gc.nd (Gi (bB (cI (bV (bV (pv 0) ae) ae))) aK (nJ aW T.fG (aa (bV (bV (pv 0) ae) ae) af))))
   (aj (bK (b7 yC yE yD bw (pv 1) (aa (b7 yF yH yG gQ aK (aa (bq (aa aK (aa (nJ aW T.fG (aa (bV (bV (pv 0) ae) ae) af)) (aa (nJ aW T.fG (aa (bV (bV (pv 0) ae) ae) af)) (aa (nJ aW T.fG (aa (bV (bV (pv 0) ae) ae) af)) (aa (pv 2) af)))))) af)) af)))))
  ax)
  (aj (aq (pv 1))))),?_⟩
 ac_rfl;exists⟨_,aH.of h9⟩,?_;refine cW (enc:=fun q:Rep×V=>q.2) (ws:=ps) (fun q=>.str (rowOf (.rep q.1))) (fun σ=>∃v,σ=[v]) nofun (by rw[e2];exact aH.of h9) ⟨none,rfl⟩ ?_ ?_
 ·rintro z σ H1 R hz s1 ⟨_,rfl⟩ rr
  have zin:z.1∈S.repeats:=by rw[<-e1];exact zO hz
  change⟨z.2,z.1,rfl,(e3 z hz).mono s1,rok _ zin,fun H2 s2=>rr _ _ _ s2 eL ⟨_,rfl⟩⟩
 ·intro D vs H1 s1 nD hD ilD
  have ee:ps.map (fun q:Rep×V=>Dt.str (rowOf (.rep q.1)))=((S.repeats.map Told.rep).map rowOf).map Dt.str:=by rw[<-e1,zA,zA,zA];rfl
  rw[ee] at ilD;rw[dM ilD] at hD;have h11:=s1 _ _ h1;left;cases q:S.ck with
  | none=>
   rw[q] at hj;unfold dO Is at hj;subst hj;left;refine kk D H1 s1 nD ?_;unfold AE;rw[q,hD];simp
  | some j=>
   rw[q] at hj;obtain⟨ja,jc,rfl,hja,ijc⟩:=Nw hj;obtain⟨j1,j2,j3,j4⟩:=jok j q;have hja1:=s1 _ _ hja;have n1:=bN (n:=j.xy) (by have:=j1.1;omega) (by have:=j1.2;omega);have n2:=bN (n:=j.Bu) (by have:=j2.1;omega) (by have:=j2.2;omega);have n3:=bN (n:=j.dE) (by have:=j3.1;omega) (by have:=j3.2;omega);have cl:(ctxt j.gH).length<=5:=by
    unfold ctxt;cases qc:j.gH with
    | none=>decide
    | some m=>have:=j4 m qc;exact bz (by have:=this.1;omega) (by have:=this.2;omega)
   left;refine UB (H:=H1) (.str (ctxt j.gH)) ?_ ?_ ?_
   ·intro c Z hz
    have e:jc=.bI:=yd c;cases qc:j.gH with
    | none=>rw[qc] at hz;change hz
    | some m=>rw[qc] at ijc;unfold dO Is at ijc;rw[ijc] at e;cases e
   ·intro c Z hz
    cases qc:j.gH with
    | none=>rw[qc] at ijc;unfold dO Is at ijc;rw[ijc] at c;simp at c
    | some m=>
     rw[qc] at ijc hz;unfold dO Is at ijc;subst ijc;change⟨bN (by have:=(j4 m qc).1;omega) (by have:=(j4 m qc).2;omega),hz⟩
   exists .inl ⟨rfl,_,aH.of hD⟩,?_;exists n1,?_;exists n2,?_;exists n3,?_;exists by show 5<=sizeLine;omega,?_
   intros p5 H5 s5 h5;have ll:∀z∈Sc.wordsOf (.ck j),z.length<=5:=fun z hz=>by
    simp only[Sc.wordsOf,zC,zD,or_false] at hz;rcases hz with rfl | rfl | rfl | rfl | rfl
    ·decide
    ·exact bz (by have:=j1.1;omega) (by have:=j1.2;omega)
    ·exact bz (by have:=j2.1;omega) (by have:=j2.2;omega)
    ·exact bz (by have:=j3.1;omega) (by have:=j3.2;omega)
    ·exact cl
   have sb:=qB (sep:=" ") ll;refine⟨" ",p5,Sc.wordsOf (.ck j),rfl,rfl,aH.of h5,zL sb (by show 5*(5+1)<=sizeLine;omega),?_⟩;exists D,_,_,rfl,rfl,s5 _ _ hD,by rw[za,za,za];omega,?_
   left;refine kk D _ (bT nD (s1.trans s5)) nD ?_;unfold AE;rw[ay,q,zj,zj];rfl
def O3 {H:Hp} {x:Str×(Int×Int)×(Int×Int)} {v:V} (h:Is H (eM x) v):∃a t l,v=.ref a/\H a=some (.tup [.str x.1,t,l])/\Is H (dL x.2.1) t/\Is H (dL x.2.2) l:=by
 unfold eM Is at h;obtain⟨a,vs,rfl,ha,hl⟩:=h;unfold aB at hl;obtain⟨v1,r1,rfl,h1,hl⟩:=hl;unfold aB at hl;obtain⟨v2,r2,rfl,h2,hl⟩:=hl;unfold aB at hl;obtain⟨v3,r3,rfl,h3,hl⟩:=hl;unfold aB at hl;subst hl;unfold Is at h1;subst h1;exact⟨a,v2,v3,rfl,ha,h2,h3⟩
def K5 {H:Hp} {x:Str×List Str} {v:V} (h:Is H (gF x) v):∃a q,v=.ref a/\H a=some (.tup [.str x.1,.ref q])/\H q=some (.tup (x.2.map V.str)):=by
 unfold gF Is at h;obtain⟨a,vs,rfl,ha,hl⟩:=h;unfold aB at hl;obtain⟨v1,r1,rfl,h1,hl⟩:=hl;unfold aB at hl;obtain⟨v2,r2,rfl,h2,hl⟩:=hl;unfold aB at hl;subst hl;unfold Is at h1;subst h1;unfold nh Is at h2;obtain⟨q,us,rfl,hq,hl⟩:=h2;rw[dM hl] at hq;exact⟨a,q,rfl,ha,hq⟩
def Q2 {H:Hp} {x:Int×Str} {v:V} (h:Is H (Kg x) v):∃a,v=.ref a/\H a=some (.tup [.int x.1,.str x.2]):=by
 unfold Kg Is at h;obtain⟨a,vs,rfl,ha,hl⟩:=h;unfold aB at hl;obtain⟨v1,r1,rfl,h1,hl⟩:=hl;unfold aB at hl;obtain⟨v2,r2,rfl,h2,hl⟩:=hl;unfold aB at hl;subst hl;unfold Is at h1 h2;subst h1 h2;exact⟨a,rfl,ha⟩
def TD (t:Told):Prop:=P6 t/\(Sc.wordsOf t).length<=100/\∀w∈Sc.wordsOf t,w.length<=100
def xN {t:Told} (h:TD t):((Sc.wordsOf t).map (fun z:Str=>z.length+(" ": Str).length)).sum<=sizeLine:=by
 have sl:=yB;have a:=qB (sep:=" ") h.2.2;have b:(Sc.wordsOf t).length*(100+(" ": Str).length)<=100*(100+(" ": Str).length):=Nat.mul_le_mul h.2.1 (zk _);exact zL a (zL b (by show 100*(100+1)<=sizeLine;omega))
def IB (n:Str):("player ": Str)++n=rowOf (.bE n):=rfl
noncomputable def rws (ts:List Told):List V:=(ts.map rowOf).map V.str
def lP (a b:List Told):rws (a++b)=rws a++rws b:=by unfold rws;rw[zj,zj]
def lO (a:List Told):(rws a).length=a.length:=by unfold rws;rw[za,za]
inductive qD (vs:List V) (H:Hp) (Q:VK) (E:XK):Prop
 | mk (p:Addr) (S:cG) (_:vs=[.ref p]) (_:ua H p S) (_:(∀t∈eW S,TD t)) (_:(eW S).length<=1000000) (_:(∀r∈S.repeats,LO r)) (_:S.repeats.length<=1000) (_:∀D H',au H H'->H D=none->H' D=some (.lst (rws (eW S)))->Q (.ref D) H')
def aO:aD ["_law_s","_law_rows","_law_name","_law_turn","_law_time","_law_metre","_law_key","_law_marks","_law_player","_law_row","_law_bar","_law_items"] ["_law_s"] (ao jW):=dB
def qZ:cY P w base 3 T.iC qD:=by
 nomatch T.iC,aO
 obtain⟨p,S,rfl,la,tok,tl,rok,rln3,kk⟩:=h;have sl:=yB;obtain⟨pl,il,st,bl,hl,nl,rl,ub,jm,iv,sv,bv,hv,nv,rv,h1,h2,⟨h3,ili⟩,⟨h4,ils⟩,⟨h5,ilb⟩,h6,⟨h7,rlh⟩,⟨h8,rln⟩,_,_⟩:=la.at';have mem:∀a b c:List Told,eW S=a++b++c->∀t∈b,TD t:=fun a b c e t ht=>tok t (by rw[e];simp[ht]);have tlen:∀a b:List Told,eW S=a++b->a.length<=1000000:=fun a b e=>by rw[e,zg] at tl;omega
 obtain⟨fl,fli,fls,flb,fln⟩:S.players.length<=1000000/\S.players.length+S.ak.length<=1000000/\S.players.length+S.ak.length+S.aJ.length<=1000000/\S.players.length+S.ak.length+S.aJ.length+S.aM.length<=1000000/\S.aF.length<=1000000:=by
  unfold eW at tl;simp only[zg,za] at tl;omega
 refine⟨_,(ag (LX (i:=1) (ts:=["_law_name"]) (ys:=[]) (js:=[]) (te:=(fu (fun x y H Q=>∃i j,x=.str i/\y=.str j/\i.length+j.length<=sizeLine/\Q (.str (i++j)) H) (tC (.str "player ")) (aV 0))) (aZ (bV (pv 0) ae)) (fU 0) bg (ar bX aK (pv 0)) aO.nd)
  (ag (cy PassesOwn.never rfl (aZ (bV (pv 0) ae)) (d4 (n:=3) rfl (aL (jP 2 aO.nd) (aL (jP 3 aO.nd) (aL (jP 4 aO.nd) df))))
  (aj (bK (b7 yC yE yD bw (pv 1) (aa (b7 yF yH yG gQ aK (aa (bq (aa aK (aa (pv 2) (aa (nJ aW T.fG (aa (bV (pv 3) ae) af)) (aa (nJ aW T.fG (aa (bV (pv 3) ae) af)) (aa (bM (dU T) hr T.dt (aa (pv 4) af)) af)))))) af)) af)))))
  (ag (bU 1 aO.nd (ar gO (pv 1) (nA (ts:=["_law_name","_law_players"]) (ys:=[]) (js:=[]) (g:=(EB K 2 (fH (bO 0) (fH (bO 1) EC)))) (te:=(S8 K "str" (rJoin K) (tC (.str " ")) (bC (fu (PV K) (FN (bC (tC (.str "staff")) (bC (aV 0) dZ))) (JQ (Sa K) (bC (aV 1) dZ))) dZ))) (aZ (bV (pv 0) ae)) (d4 (n:=2) rfl (aL (fU 0) (aL (fU 1) df))) bg (b7 yF yH yG gQ aK (aa (ar gO (bq (aa aK (aa (pv 0) af))) (nJ iY T.ra (aa (pv 1) af))) af)))))
  (ag (cy PassesOwn.never rfl (aZ (bV (pv 0) ae)) (d4 (n:=3) rfl (aL (jP 5 aO.nd) (aL (jP 6 aO.nd) (aL (jP 7 aO.nd) df))))
  (aj (bK (b7 yC yE yD bw (pv 1) (aa (b7 yF yH yG gQ aK (aa (ar gO (bq (aa aK (aa (ar bX (ar bX (nJ aW T.fG (aa (bV (pv 5) ae) af)) aK) (nJ aW T.fG (aa (bV (pv 5) ae) af))) (aa (nJ aW T.fG (aa (pv 6) af)) af)))) (nJ iY T.ra (aa (pv 7) af))) af)) af)))))
  (ag (aI (bB (gN (bV (pv 0) ae)))
  (aj (bK (b7 yC yE yD bw (pv 1) (aa (ar bX aK (bM (dU T) hr T.dt (aa (bV (pv 0) ae) af))) af))))
  ax)
  (ag (cy PassesOwn.never rfl (aZ (bV (pv 0) ae)) (d4 (n:=2) rfl (aL (jP 8 aO.nd) (aL (jP 9 aO.nd) df)))
  (aj (bU 1 aO.nd (ar gO (pv 1) (nA (ts:=["_law_bar","_law_name"]) (ys:=["_law_player"]) (js:=[8]) (g:=(EB K 2 (fH (bO 0) (fH (bO 1) EC)))) (te:=(S8 K "str" (rJoin K) (tC (.str " ")) (bC (FN (bC (tC (.str "holds")) (bC (aV 2) (bC (JQ R9 (bC (aV 0) dZ)) (bC (aV 1) dZ))))) dZ))) (aZ (pv 9)) (d4 (n:=2) rfl (aL (fU 0) (aL (fU 1) df))) bg (b7 yF yH yG gQ aK (aa (bq (aa aK (aa (pv 2) (aa (nJ aW T.fG (aa (pv 0) af)) (aa (pv 1) af))))) af)))))))
  (ag (cy PassesOwn.never rfl (aZ (bV (pv 0) ae)) (d4 (n:=3) rfl (aL (jP 10 aO.nd) (aL (jP 8 aO.nd) (aL (jP 11 aO.nd) df))))
  (aj (bK (b7 yC yE yD bw (pv 1) (aa (b7 yF yH yG gQ aK (aa (ar gO (bq (aa aK (aa (nJ aW T.fG (aa (pv 10) af)) (aa (pv 8) af)))) (nA (ts:=["_law_item"]) (ys:=[]) (js:=[]) (te:=(fX jS [] E0 (bC (aV 0) dZ))) (aZ (pv 11)) (fU 0) bg (bM (tm T) hr T.jM (aa (pv 0) af)))) af)) af)))))
  (aj (aq (ar gO (pv 1) (bM (tq T) hr T.jN (aa (pv 0) af)))))))))))),?_⟩
 ac_rfl;exists⟨_,aH.of h2⟩,?_;refine cW (enc:=V.str) (ws:=S.players) (fun n=>.str (rowOf (.bE n))) (fun σ=>∃v,σ=[v]) nofun (aH.of h2) ⟨none,rfl⟩ ?_ ?_
 ·rintro z σ H1 R hz s1 ⟨_,rfl⟩ rr
  have tz:TD (.bE z):=tok _ (by unfold eW;simp[hz]);left;refine⟨?_,?_⟩
  ·have l7:("player ": Str).length=7:=rfl
   have:=tz.2.2 z (by simp[Sc.wordsOf]);omega
  exact rr _ _ _ (au.refl _) (by rw[IB];exact eL) ⟨_,rfl⟩
 ·intro D vs H1 s1 nD hD ilD
  have ee:S.players.map (fun n=>Dt.str (rowOf (.bE n)))=((S.players.map Told.bE).map rowOf).map Dt.str:=by rw[zA,zA];rfl
  rw[ee] at ilD;rw[dM ilD] at hD;have h11:=s1 _ _ h1;exists⟨_,aH.of (s1 _ _ h3)⟩,?_;refine eD (K:=K) (a:=il) (xs:=iv) (fun i σ H'=>Lo [some (.ref p),some (.ref D)] 10 σ/\au H H'/\H' D=some (.lst (rws (S.players.map .bE++(S.ak.take i).map fun x=>.cN x.1 x.2.1 x.2.2)))) ⟨Lo.of rfl rfl,s1,by rw[List.take_zero,ym,zU];exact hD⟩ (fun i σ H' _ h=>by obtain⟨_,z,_⟩:=h;exact aH.of (z _ _ h3)) ?_ ?_
  ·intro i x σ H2 hx hh
   refine cT fun N kN0 kR0 _ _=>?_;obtain⟨⟨e,rfl⟩,s2,hD2⟩:=hh;obtain⟨n,hn,ix⟩:=dY (d:=eM) ili hx;obtain⟨a1,t1,l1,rfl,ha1,it,iL⟩:=O3 ix;cases fw (o:=some n.2.1) it with
   | ref ht=>
   cases fw (o:=some n.2.2) iL with
   | ref hL=>
   have tn:TD (.cN n.1 n.2.1 n.2.2):=tok _ (by unfold eW;simp only[zF,zG];exact .inl (.inl (.inl (.inl (.inl (.inl (.inr ⟨n,zB hn,rfl⟩)))))));refine⟨a1,_,rfl,dA.of (s2 _ _ ha1),rfl,?_⟩;refine⟨_,_,rfl,⟨_,_,rfl,⟨_,_,rfl,⟨rfl,?_⟩⟩⟩⟩;rename_i bt bL;have ht2:=s2 _ _ ht;have hL2:=s2 _ _ hL;obtain⟨t1,t2,t3,t4,t5,t6,t7⟩:=tn.1;obtain⟨c1,c2,c3,c4,_⟩:=t2;obtain⟨r1,r2,_⟩:=t5.pos;exists .inl ⟨rfl,_,aH.of hD2⟩,?_;exists bN nofun nofun,?_;exists bN nofun nofun,?_;exists _,n.2.2,rfl,hL2,r1,t6,r2,t7,?_;exists by show 5<=sizeLine;omega,?_
   intros p5 H5 s5 h5;refine⟨" ",p5,Sc.wordsOf (.cN n.1 n.2.1 n.2.2),rfl,rfl,aH.of h5,xN tn,?_⟩;left;refine⟨D,_,_,rfl,rfl,s5 _ _ hD2,?_,?_⟩
   ·rw[lO,zg,za,za,zP];omega
   exists Lo.of rfl rfl,bT nD (s2.trans s5),?_;rw[ay,dH hn,zj,<-zE];exact congrArg (fun l=>some (HO.lst l)) (lP _ [Told.cN n.1 n.2.1 n.2.2]).symm
  ·rintro σ H2 ⟨⟨e,rfl⟩,s2,hD2⟩
   rw[aT ili,zM] at hD2;have h12:=s2 _ _ h1;obtain⟨ps,e1,e2,e3⟩:=hV ils;have pln:ps.length=S.aJ.length:=by rw[<-e1,za]
   exists⟨_,aH.of (s2 _ _ h4)⟩,?_;refine cW (enc:=fun q:(Str×List Str)×V=>q.2) (ws:=ps) (fun q=>.str (rowOf (.cw q.1.1 q.1.2))) (fun σ=>∃v u,σ=[v,u]) nofun (by rw[e2];exact aH.of (s2 _ _ h4)) ⟨none,none,rfl⟩ ?_ ?_
   ·rintro z σ H3 R hz s3 ⟨_,_,rfl⟩ rr
    have zin:z.1∈S.aJ:=by rw[<-e1];exact zO hz
    have tz:TD (.cw z.1.1 z.1.2):=tok _ (by unfold eW;simp only[zF,zG];exact .inl (.inl (.inl (.inl (.inl (.inr ⟨z.1,zin,rfl⟩))))));obtain⟨a3,q3,ea,ha3,hq3⟩:=K5 (e3 z hz);have s03:=s2.trans s3;rw[ea];refine⟨a3,_,rfl,dA.of (s03 _ _ ha3),rfl,?_⟩;refine⟨_,_,rfl,⟨_,_,rfl,⟨rfl,?_⟩⟩⟩;exists by show 2<=sizeLine;omega,?_
    intros p5 H5 s5 h5;exists q3,_,rfl,.inr (dA.of (s5 _ _ (s03 _ _ hq3))),?_;intros p6 H6 s6 h6;have zl:z.1.2.length<=98:=by have:=tz.2.1;simp only[Sc.wordsOf,zt] at this;omega
    refine⟨p5,p6,_,_,rfl,rfl,aH.of (s6 _ _ h5),aH.of h6,by rw[za];show 2+_<=_;omega,?_⟩;intros p7 H7 s7 h7;refine⟨" ",p7,Sc.wordsOf (.cw z.1.1 z.1.2),rfl,rfl,aH.of h7,xN tz,?_⟩;exact rr _ _ _ ((s5.trans s6).trans s7) eL ⟨_,_,rfl⟩
   ·intro D3 vs3 H3 s3 nD3 hD3 il3
    have ee3:ps.map (fun q:(Str×List Str)×V=>Dt.str (rowOf (.cw q.1.1 q.1.2)))=((S.aJ.map fun x=>Told.cw x.1 x.2).map rowOf).map Dt.str:=by rw[<-e1,zA,zA,zA];rfl
    rw[ee3] at il3;rw[dM il3] at hD3;refine⟨D,D3,_,_,rfl,rfl,aH.of (s3 _ _ hD2),aH.of hD3,?_,?_⟩
    ·rw[lO,zg,za,za,za,za,za];omega
    intro D4 n4;generalize hU:upd H3 D4 _=H4;have s4:au H3 H4:=by rw[<-hU];exact aS n4
    have hD4:H4 D4=some (.lst (rws (S.players.map .bE++(S.ak.map fun x=>.cN x.1 x.2.1 x.2.2)++S.aJ.map fun x=>.cw x.1 x.2))):=by
     rw[<-hU,ay];exact congrArg (fun l=>some (HO.lst l)) (lP _ _).symm
    clear hU;have nD4:H D4=none:=(s2.trans s3).back n4;have s04:=(s2.trans s3).trans s4;clear hD2 hD3 il3 hD ilD nD nD3;have h14:=s04 _ _ h1;exists⟨_,aH.of (s04 _ _ h5)⟩,?_;refine eD (K:=K) (a:=bl) (xs:=bv) (fun i σ H'=>Lo [some (.ref p),some (.ref D4)] 10 σ/\au H H'/\H' D4=some (.lst (rws (S.players.map .bE++(S.ak.map fun x=>.cN x.1 x.2.1 x.2.2)++(S.aJ.map fun x=>.cw x.1 x.2)++(S.aM.take i).map .bar)))) ⟨⟨e,rfl⟩,s04,by rw[List.take_zero,ym,zU];exact hD4⟩ (fun i σ H' _ h=>by obtain⟨_,z,_⟩:=h;exact aH.of (z _ _ h5)) ?_ ?_
    ·intro i x σ H5 hx hh
     refine cT fun N kN1 kR1 _ _=>?_;obtain⟨⟨e,rfl⟩,s5,hD5⟩:=hh;obtain⟨b,hb,ib⟩:=dY (d:=lD) ilb hx;obtain⟨a1,mv,q1,rfl,ha1,im,hq1⟩:=xw ib;cases fw (o:=some b.aR) im with
     | ref hm=>
     rename_i am;have tb:TD (.bar b):=tok _ (by unfold eW;simp only[zF,zG];exact .inl (.inl (.inl (.inl (.inr ⟨b,zB hb,rfl⟩)))));have hm5:=s5 _ _ hm;refine⟨a1,_,rfl,dA.of (s5 _ _ ha1),rfl,?_⟩;refine⟨_,_,rfl,⟨_,_,rfl,⟨_,_,rfl,⟨rfl,?_⟩⟩⟩⟩;obtain⟨t1,t2,t3,t4,t5,t6⟩:=tb.1;have bb:0<=b.aR.2/\b.aR.2<1000:=by unfold Cn at t3;simp at t3;omega
     have la1:=bz (n:=b.aR.1) nofun nofun;have la2:=bz (n:=b.aR.2) nofun nofun;have l1:("/": Str).length=1:=rfl;exists .inl ⟨rfl,_,aH.of hD5⟩,?_;exists bN nofun nofun,?_;exists by show(dec b.aR.1).length+_<=_;omega,?_
     exists bN nofun nofun,?_;exists by show(dec b.aR.1 ++"/").length+(dec b.aR.2).length<=_;rw[len_app];omega,?_
     exists bN nofun nofun,?_;exists by show 3<=sizeLine;omega,?_
     intros p6 H6 s6 h6;exists q1,_,rfl,.inr (dA.of (s6 _ _ (s5 _ _ hq1))),?_;intros p7 H7 s7 h7;have ml:b.marks.length<=97:=by have:=tb.2.1;simp only[Sc.wordsOf,zt] at this;omega
     refine⟨p6,p7,_,_,rfl,rfl,aH.of (s7 _ _ h6),aH.of h7,by rw[za];show 3+_<=_;omega,?_⟩;intros p8 H8 s8 h8;refine⟨" ",p8,Sc.wordsOf (.bar b),rfl,rfl,aH.of h8,xN tb,?_⟩;have s58:=(s6.trans s7).trans s8;left;refine⟨D4,_,_,rfl,rfl,s58 _ _ hD5,?_,?_⟩
     ·rw[lO];simp only[zg,za,zP];omega
     exists Lo.of rfl rfl,bT nD4 (s5.trans s58),?_;rw[ay,dH hb,zj,<-zE];exact congrArg (fun l=>some (HO.lst l)) (lP _ [Told.bar b]).symm
    ·rintro σ H5 ⟨⟨e,rfl⟩,s5,hD5⟩
     rw[aT ilb,zM] at hD5;obtain⟨B,hB⟩:∃B,B=S.players.map Told.bE++(S.ak.map fun x=>Told.cN x.1 x.2.1 x.2.2)++(S.aJ.map fun x=>Told.cw x.1 x.2)++S.aM.map Told.bar:=⟨_,rfl⟩
     have tB:eW S=B++S.aG.toList.map .aG++(S.holds.map fun x=>x.2.map fun h=>Told.holds x.1 h.1 h.2).flatten++(S.aF.map fun x=>.aF x.1.1 x.1.2 x.2)++AE S:=by rw[hB];rfl
     rw[<-hB] at hD5;have h15:=s5 _ _ h1;left;refine join (fun σ H'=>Lo [some (.ref p),some (.ref D4)] 10 σ/\au H H'/\H' D4=some (.lst (rws (B++S.aG.toList.map .aG)))) (fun N hN c1=>?_) (fun N hN c1=>?_) ?_
     ·cases qu:S.aG with
      | none=>
       rw[qu] at h6;unfold dO Is at h6;rw[h6] at c1;simp at c1
      | some u=>
       rw[qu] at h6;cases fw (o:=some u) h6 with
       | ref hu=>
       have tu:TD (.aG u):=tok _ (by rw[tB,qu];simp);obtain⟨u1,u2,u3,u4⟩:=tu.1;obtain⟨_,r2,_⟩:=u1.pos;have lu:=lh (x:=u) nofun u3 nofun u4;have bl5:B.length<=1000000:=tlen B _ (by rw[tB,zE,zE,zE]);exists .inl ⟨rfl,_,aH.of hD5⟩,?_;exists _,u,rfl,s5 _ _ hu,nofun,u3,r2,u4,?_;have l7:("upbeat ": Str).length=7:=rfl;refine⟨_,_,rfl,rfl,nofun,?_⟩;exists D4,_,_,rfl,rfl,hD5,by rw[lO];omega,?_
       left;refine hN _ _ ⟨Lo.of rfl rfl,bT nD4 s5,?_⟩;rw[ay,qu];exact congrArg (fun l=>some (HO.lst l)) (lP B [Told.aG u]).symm
     ·have qu:S.aG=none:=by
       cases qu:S.aG with
       | none=>rfl
       | some u=>
        rw[qu] at h6;cases fw (o:=some u) h6 with
        | ref hu=>simp at c1
      left;refine hN _ _ ⟨Lo.of rfl rfl,s5,?_⟩;rw[qu];show H5 D4=some (.lst (rws (B++[])));rw[zU];exact hD5
     rintro σ6 H6 ⟨⟨e,rfl⟩,s6,hD6⟩;have h16:=s6 _ _ h1;exists⟨_,aH.of (s6 _ _ h7)⟩,?_;refine eD (K:=K) (a:=hl) (xs:=hv) (fun i σ H'=>∃(D:Addr),Lo [some (.ref p),some (.ref D)] 10 σ/\au H H'/\H D=none/\H' D=some (.lst (rws (B++S.aG.toList.map .aG++((S.holds.take i).map fun x=>x.2.map fun h=>Told.holds x.1 h.1 h.2).flatten)))) ⟨D4,⟨e,rfl⟩,s6,nD4,by rw[List.take_zero,ym,List.flatten_nil,zU];exact hD6⟩ (fun i σ H' _ h=>by obtain⟨_,_,z,_⟩:=h;exact aH.of (z _ _ h7)) ?_ ?_
     ·intro i x σ H7 hx hh
      refine cT fun N kN2 kR2 _ _=>?_;obtain⟨D7,⟨e,rfl⟩,s7,nD7,hD7⟩:=hh;obtain⟨y,hy,a7,r7,us7,rfl,ha7,hr7,il7,_⟩:=rlh.at hx;obtain⟨qs,f1,f2,f3⟩:=hV il7;have ty:∀h∈y.2,TD (.holds y.1 h.1 h.2):=fun h hh=>tok _ (by
       rw[tB];refine zI _ (zI _ (zH _ ?_));exact List.mem_flatten.mpr ⟨_,zO (zB hy),zO hh⟩)
      have tke:((S.holds.take (i+1)).map fun x=>x.2.map fun h=>Told.holds x.1 h.1 h.2).flatten=((S.holds.take i).map fun x=>x.2.map fun h=>Told.holds x.1 h.1 h.2).flatten++y.2.map fun h=>Told.holds y.1 h.1 h.2:=by
       rw[dH hy,zj,List.flatten_append];simp
      have lenB:(B++S.aG.toList.map Told.aG++((S.holds.take (i+1)).map fun x=>x.2.map fun h=>Told.holds x.1 h.1 h.2).flatten).length<=1000000:=by
       refine tlen _ (((S.holds.drop (i+1)).map fun x=>x.2.map fun h=>Told.holds x.1 h.1 h.2).flatten++(S.aF.map fun x=>.aF x.1.1 x.1.2 x.2)++AE S) ?_;rw[tB]
       conv=>lhs;rw[<-zY (i+1) S.holds,zj,List.flatten_append]
       simp only[zE]
      rw[tke] at lenB;simp only[zg,za] at lenB;refine⟨a7,_,rfl,dA.of (s7 _ _ ha7),rfl,?_⟩;refine⟨_,_,rfl,⟨_,_,rfl,⟨rfl,?_⟩⟩⟩;exists⟨_,aH.of (s7 _ _ hr7)⟩,?_;have ql:qs.length=y.2.length:=by rw[<-f1,za]
      refine cW (enc:=fun q:(Int×Str)×V=>q.2) (ws:=qs) (fun q=>.str (rowOf (.holds y.1 q.1.1 q.1.2))) (fun σ=>∃v u,σ=[v,u,some (.str y.1)]) nofun (by rw[f2];exact aH.of (s7 _ _ hr7)) ⟨none,none,rfl⟩ ?_ ?_
      ·rintro z σ H8 R hz s8 ⟨_,_,rfl⟩ rr
       have zin:z.1∈y.2:=by rw[<-f1];exact zO hz
       have tz:=ty z.1 zin;obtain⟨a8,ea,ha8⟩:=Q2 (f3 z hz);have s08:=s7.trans s8;obtain⟨b1,b2⟩:=tz.1.2.1;rw[ea];refine⟨a8,_,rfl,dA.of (s08 _ _ ha8),rfl,?_⟩;refine⟨_,_,rfl,⟨_,_,rfl,⟨rfl,?_⟩⟩⟩;exists bN nofun nofun,?_;exists by show 4<=sizeLine;omega,?_
       intros p9 H9 s9 h9;refine⟨" ",p9,Sc.wordsOf (.holds y.1 z.1.1 z.1.2),rfl,rfl,aH.of h9,xN tz,?_⟩;exact rr _ _ _ s9 eL ⟨_,_,rfl⟩
      ·intro D8 vs8 H8 s8 _ hD8 il8
       have ee8:qs.map (fun q:(Int×Str)×V=>Dt.str (rowOf (.holds y.1 q.1.1 q.1.2)))=((y.2.map fun h=>Told.holds y.1 h.1 h.2).map rowOf).map Dt.str:=by rw[<-f1,zA,zA,zA];rfl
       rw[ee8] at il8;rw[dM il8] at hD8;refine⟨D7,D8,_,_,rfl,rfl,aH.of (s8 _ _ hD7),aH.of hD8,?_,?_⟩
       ·rw[lO];simp only[zg,za];omega
       intro D9 n9;generalize hU:upd H8 D9 _=H9;have s9:au H8 H9:=by rw[<-hU];exact aS n9
       exists D9,Lo.of rfl rfl,(s7.trans s8).trans s9,(s7.trans s8).back n9,?_;rw[<-hU,ay,tke,<-zE];exact congrArg (fun l=>some (HO.lst l)) (lP _ _).symm
     ·rintro σ H7 ⟨D7,⟨e,rfl⟩,s7,nD7,hD7⟩
      rw[rlh.len,zM] at hD7;obtain⟨B2,hB2⟩:∃B2,B2=B++S.aG.toList.map Told.aG++(S.holds.map fun x=>x.2.map fun h=>Told.holds x.1 h.1 h.2).flatten:=⟨_,rfl⟩
      rw[<-hB2] at hD7 tB;have h17:=s7 _ _ h1;exists⟨_,aH.of (s7 _ _ h8)⟩,?_;refine eD (K:=K) (a:=nl) (xs:=nv) (fun i σ H'=>Lo [some (.ref p),some (.ref D7)] 10 σ/\au H H'/\H' D7=some (.lst (rws (B2++(S.aF.take i).map fun x=>.aF x.1.1 x.1.2 x.2)))) ⟨⟨e,rfl⟩,s7,by rw[List.take_zero,ym,zU];exact hD7⟩ (fun i σ H' _ h=>by obtain⟨_,z,_⟩:=h;exact aH.of (z _ _ h8)) ?_ ?_
      ·intro i x σ H8 hx hh
       refine cT fun N kN3 kR3 _ _=>?_;obtain⟨⟨e,rfl⟩,s8,hD8⟩:=hh;obtain⟨y,hy,a7,r7,us7,rfl,ha7,hr7,il7,_⟩:=rln.at hx;obtain⟨qs,f1,f2,f3⟩:=hV il7;have tz:TD (.aF y.1.1 y.1.2 y.2):=tok _ (by rw[tB];simp only[zF,zG];exact .inl (.inr ⟨y,zB hy,rfl⟩));obtain⟨⟨b1,b2⟩,b3,b4,_⟩:=tz.1;have yl:y.2.length<=97:=by have:=tz.2.1;simp only[Sc.wordsOf,zt,za] at this;omega
       have ql:qs.length=y.2.length:=by rw[<-f1,za]
       have ib:i<S.aF.length:=(zw.mp hy).1;have lenB:B2.length+S.aF.length<=1000000:=by
        have:=tlen (B2++S.aF.map fun x=>.aF x.1.1 x.1.2 x.2) (AE S) tB
        simpa[zg,za] using this
       refine⟨a7,_,rfl,dA.of (s8 _ _ ha7),rfl,?_⟩;refine⟨_,_,rfl,⟨_,_,rfl,⟨_,_,rfl,⟨rfl,?_⟩⟩⟩⟩;exists .inl ⟨rfl,_,aH.of hD8⟩,?_;exists bN nofun nofun,?_;exists by show 3<=sizeLine;omega,?_
       intros p9 H9 s9 h9;have s09:=s8.trans s9;exists⟨_,aH.of (s09 _ _ hr7)⟩,?_;refine cW (enc:=fun q:Item×V=>q.2) (ws:=qs) (fun q=>.str (rg q.1)) (fun σ=>∃v,σ=[v]) nofun (by rw[f2];exact aH.of (s09 _ _ hr7)) ⟨none,rfl⟩ ?_ ?_
       ·rintro z σ Ha R hz sa ⟨_,rfl⟩ rr
        have zin:z.1∈y.2:=by rw[<-f1];exact zO hz
        change⟨z.2,z.1,rfl,((f3 z hz).mono s09).mono sa,b4 _ zin,rr _ _ _ (au.refl _) eL ⟨_,rfl⟩⟩
       ·intro Da vsa Ha sa _ hDa ila
        have eea:qs.map (fun q:Item×V=>Dt.str (rg q.1))=(y.2.map rg).map Dt.str:=by rw[<-f1,zA,zA];rfl
        rw[eea] at ila;rw[dM ila] at hDa;refine⟨p9,Da,_,_,rfl,rfl,aH.of (sa _ _ h9),aH.of hDa,by rw[za,za];show 3+_<=_;omega,?_⟩;intros pb Hb sb hb;refine⟨" ",pb,Sc.wordsOf (.aF y.1.1 y.1.2 y.2),rfl,rfl,aH.of hb,xN tz,?_⟩;have s8b:=(s9.trans sa).trans sb;left;refine⟨D7,_,_,rfl,rfl,s8b _ _ hD8,?_,?_⟩
        ·rw[lO];simp only[zg,za,zP];omega
        exists Lo.of rfl rfl,bT nD7 (s8.trans s8b),?_;rw[ay,dH hy,zj,<-zE];exact congrArg (fun l=>some (HO.lst l)) (lP _ [Told.aF y.1.1 y.1.2 y.2]).symm
      ·rintro σ H8 ⟨⟨e,rfl⟩,s8,hD8⟩
       rw[rln.len,zM] at hD8;exists p,S,rfl,la.mono s8,rok,rln3,fun j hj=>(tok (.ck j) (by rw[tB];unfold AE;rw[hj];simp)).1,fun D9 H9 s9 _ h9=>?_;refine⟨D7,D9,_,_,rfl,rfl,aH.of (s9 _ _ hD8),aH.of h9,?_,?_⟩
       ·have:=tl
        rw[tB] at this;simp only[zg,za] at this;rw[lO];simp only[zg,za];omega
       intro Dx nx;generalize hU:upd H9 Dx _=Hx;have sx:au H9 Hx:=by rw[<-hU];exact aS nx
       refine kk Dx Hx ((s8.trans s9).trans sx) ((s8.trans s9).back nx) ?_;rw[<-hU,ay,tB];exact congrArg (fun l=>some (HO.lst l)) (lP _ _).symm
def Mj {t:Told} (h:TD t):(rowOf t).length<=10100:=by
 have a:=Ax (sep:=" ") h.2.2;have b:(Sc.wordsOf t).length*(100+(" ": Str).length)<=100*(100+(" ": Str).length):=Nat.mul_le_mul h.2.1 (zk _);exact zL a (zL b (by show 100*(100+1)<=10100;decide))
inductive qC (vs:List V) (H:Hp) (Q:VK) (E:XK):Prop
 | mk (p:Addr) (S:cG) (_:vs=[.ref p]) (_:ua H p S) (_:(∀t∈eW S,TD t)) (_:(eW S).length<=1000) (_:(∀r∈S.repeats,LO r)) (_:S.repeats.length<=1000) (_:∀H',au H H'->Q (.str (Str.join "\n" ((eW S).map rowOf))) H')
def FJ {ts:List Told} (h:∀t∈ts,TD t) (hl:ts.length<=1000):((ts.map rowOf).map (fun z:Str=>z.length+("\n": Str).length)).sum<=1000*10101:=by
 have a:=qB (sep:="\n") (k:=10100) (zs:=ts.map rowOf) fun z hz=>by
  obtain⟨t,ht,rfl⟩:=zG.mp hz;exact Mj (h t ht)
 rw[za] at a;have b:ts.length*(10100+("\n": Str).length)<=1000*(10100+("\n": Str).length):=Nat.mul_le_mul hl (zk _);exact zL a (zL b (by show 1000*(10100+1)<=1000*10101;decide))
def qK:aD ["_law_s"] ["_law_s"] (ao jV):=dB
def qY:cY P w base 4 T.iB qC:=by
 nomatch T.iB,qK
 obtain⟨p,S,rfl,la,tok,tl,rok,rl,kk⟩:=h;have sl:=yB;refine⟨_,(aj (aq (b7 yF yH yG gQ aK (aa (bM (qZ T) hr T.iC (aa (pv 0) af)) af)))),?_⟩;ac_rfl;exists p,S,rfl,la,tok,nofun,rok,rl,fun D H1 s1 _ h1=>?_;refine⟨"\n",D,(eW S).map rowOf,rfl,rfl,aH.of h1,zL (FJ tok tl) nofun,?_⟩;exact kk _ s1
theorem JX:∀{ts:List Told},(∀t∈ts,TD t)->RT (ts.map rowOf) ts
 | [],_=>.nil
 | t::r,h=>by
  have ht:=h t zp;exact .row (zL (Mj ht) ∅) (KP ht.1) ht.1 (zL ht.2.1 ∅) (fun y hy=>zL (ht.2.2 y hy) ∅) (JX fun x hx=>h x (zm _ hx))
def OD {ts:List Told} (ne:ts≠[]) (h:∀t∈ts,TD t):RT (Txt.split (Str.join "\n" (ts.map rowOf)) "\n") ts:=by
 rw[show Txt.split (Str.join "\n" (ts.map rowOf)) "\n"= ts.map rowOf from gy (c:=10) (by simpa using ne) fun z hz=>by
  obtain⟨t,ht,rfl⟩:=zG.mp hz;exact MJ (h t ht).1]
 exact JX h
def text_len {ts:List Told} (h:∀t∈ts,TD t) (hl:ts.length<=1000):(Str.join "\n" (ts.map rowOf)).length+2<=sizeLine:=by
 have sl:=yB;have a:=join_le "\n" (ts.map rowOf);have b:=FJ h hl;omega
def Fo (ps:List Str) (sts:List (Str×List Str)):Prop:=sts.length<=2/\Bs (sts.map (·.1))/\(sts.map (·.2)).flatten.Nodup/\∀x∈sts,x.2≠[]/\x.2.length<=ps.length/\∀p∈x.2,p∈ps
inductive rR (vs:List V) (H:Hp) (Q:VK) (E:XK):Prop
 | mk (c:Int) (pp:Addr) (ps:List Str) (_:vs=[.int c,.ref pp]) (_:H pp=some (.lst (ps.map V.str))) (_:ps.Nodup) (_:ps.length<=12) (_:∀(sts:List (Str×List Str)) D us H',Fo ps sts->au H H'->H' D=some (.lst us)->aB H' (sts.map gF) us->Q (.ref D) H')
theorem xH {H:Hp}:∀{nms:List Str} {rows:List (List Str)} {rv us:List V},nms.length=rows.length->RL (fun o v=>∃r,v=V.ref r/\H r=some (.tup (o.map V.str))) rows rv->Pairs H (nms.map V.str) rv us nms.length->aB H ((nms.zip rows).map gF) us
 | [],[],_,us,_,_,p=>by
  have:us=[]:=yr.mp p.1;rw[this];exact cK
 | n::ns,o::ot,_,us,hl,⟨v,rv,rfl,⟨r,ev,hr⟩,rl⟩,p=>by
  subst ev;cases us with
  | nil=>have:=p.1;simp at this
  | cons u us=>
   obtain⟨q,e1,e2⟩:=p.2 0 (.str n) (.ref r) (by simp) rfl rfl;simp at e1;subst e1;refine aN (cE e2 (aN eL (aN (cE hr (Ay o)) cK))) (xH (by simpa using hl) rl ⟨by have:=p.1;simpa using this,fun j x y hj hx hy=>?_⟩);obtain⟨q',f1,f2⟩:=p.2 (j+1) x y (by simp;omega) (by simpa using hx) (by simpa using hy);exact⟨q',by simpa using f1,f2⟩
 | [],_::_,_,_,hl,_,_=>by simp at hl
 | _::_,[],_,_,hl,_,_=>by simp at hl
theorem JK {α β:Type}:∀{a:List α} {b:List β},a.length=b.length->(a.zip b).map (·.1)=a
 | [],[],_=>rfl
 | x::xs,y::ys,h=>by rw[List.zip_cons_cons,zh,JK (by simpa using h)]
 | [],_::_,h=>by simp at h
 | _::_,[],h=>by simp at h
theorem Dw {α β:Type}:∀{a:List α} {b:List β},a.length=b.length->(a.zip b).map (·.2)=b
 | [],[],_=>rfl
 | x::xs,y::ys,h=>by rw[List.zip_cons_cons,zh,Dw (by simpa using h)]
 | [],_::_,h=>by simp at h
 | _::_,[],h=>by simp at h
noncomputable def two (o1 o2:List Str):List (List Str):=(if o1=[] then [] else [o1])++(if o2=[] then [] else [o2])
noncomputable def Bw (o1 o2:List Str) (r1 r2:Addr):List V:=(if o1=[] then [] else [.ref r1])++(if o2=[] then [] else [.ref r2])
noncomputable def TR (o1 o2:List Str) (r1 r2:Addr):Nat->List V
 | 0=>[]
 | 1=>if o1=[] then [] else [.ref r1]
 | _=>Bw o1 o2 r1 r2
def Me (o1 o2:List Str):(two o1 o2).flatten=o1++o2:=by
 unfold two
 by_cases h1:o1=[] <;> by_cases h2:o2=[] <;> simp[h1,h2]
def Qk {o1 o2 o:List Str} (h:o∈two o1 o2):o≠[]/\(o=o1\/o=o2):=by
 unfold two at h;rcases zF.mp h with h | h
 ·by_cases h1:o1=[]
  ·rw[if_pos h1] at h;cases h
  ·rw[if_neg h1] at h;rw[zy.mp h];exact⟨h1,.inl rfl⟩
 ·by_cases h1:o2=[]
  ·rw[if_pos h1] at h;cases h
  ·rw[if_neg h1] at h;rw[zy.mp h];exact⟨h1,.inr rfl⟩
def Qj {H:Hp} {o1 o2:List Str} {r1 r2:Addr} (h1:H r1=some (.tup (o1.map V.str))) (h2:H r2=some (.tup (o2.map V.str))):RL (fun o v=>∃r,v=V.ref r/\H r=some (.tup (o.map V.str))) (two o1 o2) (Bw o1 o2 r1 r2):=by
 unfold two Bw
 by_cases e1:o1=[] <;> by_cases e2:o2=[]
 ·rw[if_pos e1,if_pos e2,if_pos e1,if_pos e2];exact rfl
 ·rw[if_pos e1,if_neg e2,if_pos e1,if_neg e2];exact⟨_,_,rfl,⟨_,rfl,h2⟩,rfl⟩
 ·rw[if_neg e1,if_pos e2,if_neg e1,if_pos e2];exact⟨_,_,rfl,⟨_,rfl,h1⟩,rfl⟩
 ·rw[if_neg e1,if_neg e2,if_neg e1,if_neg e2];exact⟨_,_,rfl,⟨_,rfl,h1⟩,_,_,rfl,⟨_,rfl,h2⟩,rfl⟩
def JP (o1 o2:List Str):(two o1 o2).length<=2:=by
 unfold two
 by_cases h1:o1=[] <;> by_cases h2:o2=[] <;> simp[h1,h2]
def KH {ps o1 o2:List Str} {nms:List Str} (pn:ps.Nodup) (hs:(o1++o2).Nodup) (hi:∀p∈o1++o2,p∈ps) (hl:(o1++o2).length<=ps.length) (nl:nms.length=(two o1 o2).length) (nok:Bs nms):Fo ps (nms.zip (two o1 o2)):=by
 refine⟨?_,by rw[JK nl];exact nok,by rw[Dw nl,Me];exact hs,fun x hx=>?_⟩
 ·rw[List.length_zip,nl,Nat.min_self];exact JP o1 o2
 ·have hm:x.2∈two o1 o2:=by
   have:=zO (f:=fun y:Str×List Str=>y.2) hx;rw[Dw nl] at this;exact this
  obtain⟨ne,e⟩:=Qk hm;rw[zg] at hl;rcases e with e | e <;> rw[e]
  ·exact⟨e▸ne,nofun,fun p hp=>hi p (zI _ hp)⟩
  ·exact⟨e▸ne,nofun,fun p hp=>hi p (zH _ hp)⟩
def cx:aD ["_law_cell","_law_players","_law_m","_law_order","_law_alone","_law_cut","_law_rows"] ["_law_cell","_law_players"] (ao kW):=dB
def sZ:cY P w base 2 T.jK rR:=by
 nomatch T.jK,cx
 obtain⟨c,pp,ps,rfl,hpp,pn,pl,kk⟩:=h;have sl:=yB;refine⟨_,(ag (bU 2 cx.nd (bM (bR T) hr T.cB (aa (pv 0) (aa ae af))))
  (ag (aI (ptr dj (ar aP (pv 2) ae) ae)
  (aj (aq (bq af)))
  ax)
  (ag (bU 3 cx.nd (nJ iY T.ra (aa (pv 1) af)))
  (ag (aI (ptr dj (ar aP (ar aU (pv 2) ae) ae) ae)
  (aj (bK (QS yC PySem.F.slot_list_reverse PySem.F.type_list_reverse IJ (pv 3))))
  ax)
  (ag (bU 4 cx.nd (ar aP (ar aU (pv 2) ae) (ar aY (eK aC T.bA (aa (pv 3) af)) ae)))
  (ag (bU 3 cx.nd (ar gO (dJ gL (pv 3) eQ (eP (pv 4))) (dJ gL (pv 3) (eP (ar aY (pv 4) ae)) eQ)))
  (ag (bU 5 cx.nd (ar aP (ar aU (pv 2) ae) (ar aY (eK aC T.bA (aa (pv 3) af)) ae)))
  (ag (LX (i:=6) (ts:=["_law_row"]) (ys:=[]) (js:=[]) (g:=(bO 0)) (tc:=(nO (fu (QJ K) (aV 0) (DD dZ)))) (te:=(aV 0)) (aZ (bq (aa (nJ cP T.gP (aa (dJ gL (pv 3) eQ (eP (pv 5))) af)) (aa (nJ cP T.gP (aa (dJ gL (pv 3) (eP (pv 5)) eQ) af)) af)))) (fU 0) (gf (ptr (qW hr.units) (pv 0) (bj af))) (pv 0) cx.nd)
  (aj (aq (M6 rfl (by rfl) T.ra (by rfl) T.Nh (aa (bM (fg T) hr T.eI (aa (ar aU (pv 2) ae) (aa (eK aC T.bA (aa (pv 6) af)) af))) (aa (pv 6) af))))))))))))),?_⟩
 ac_rfl;exists c,9,rfl,nofun,nofun,?_;have m0:0<=mixed c 9:=zv _ ∅;have m1:mixed c 9<2147483399:=zr _ ∅;generalize mixed c 9=m at m0 m1;left
 by_cases c0:m%4=0
 ·refine b9 (ze (congrArg V.int c0)) ?_
  exists by show 0<=sizeLine;omega,fun D nD=>?_
  exact kk [] D [] _ ⟨∅,⟨by simp,by simp⟩,by simp,by simp⟩ (aS nD) ay cK
 refine cq (zd fun z=>c0 (V.int.inj z)) ?_;exists pp,_,rfl,.inl (aH.of hpp),fun D nD=>?_;have s1:au H (upd H D (.lst (ps.map V.str))):=aS nD;have h1:upd H D (.lst (ps.map V.str)) D=some (.lst (ps.map V.str)):=ay;generalize upd H D (.lst (ps.map V.str))=H1 at s1 h1 ⊢;left;refine join (fun σ H'=>∃od:List Str,σ=[some (.int c),some (.ref pp),some (.int m),some (.ref D),none,none,none]/\au H H'/\H' D=some (.lst (od.map V.str))/\od.Perm ps) (fun N hN c1=>?_) (fun N hN c1=>?_) ?_
 ·left
  refine⟨.inl ⟨rfl,_,aH.of h1⟩,D,_,rfl,rfl,h1,?_⟩;change hN _ _ ⟨ps.reverse,rfl,bT nD s1,by rw[ay,List.map_reverse],ps.reverse_perm⟩
 ·left
  exact hN _ _ ⟨ps,rfl,s1,h1,List.Perm.refl _⟩
 clear s1 h1 H1;rintro σ1 H1 ⟨od,rfl,s1,h1,pm⟩;have ol:=pm.length_eq;exists D,_,rfl,.inl (aH.of h1),?_;rw[za];exists by show 0<(od.length:Int)+2;omega,?_
 have a0:0<=m/5%((od.length:Int)+2):=zv _ nofun;obtain⟨al,hal⟩:∃j:Nat,m/5%((od.length:Int)+2)=(j:Int):=⟨(m/5%((od.length:Int)+2)).toNat,nofun⟩
 exists D,_,rfl,aH.of h1,fun p2 n2=>?_;generalize hU2:upd H1 p2 _=H2;have s2:au H1 H2:=au.kC hU2 n2;have h2:H2 p2=some (.lst ((od.take al).map V.str)):=(kJ hU2).trans (congrArg (fun z=>some (HO.lst z)) (by show kI (od.map V.str) none (some (m/5%((od.length:Int)+2)))=_;rw[hal,EX,List.map_take]));clear hU2;exists D,_,rfl,aH.of (s2 _ _ h1),fun p3 n3=>?_;generalize hU3:upd H2 p3 _=H3;have s3:au H2 H3:=au.kC hU3 n3;have h3:H3 p3=some (.lst ((od.drop (al+1)).map V.str)):=(kJ hU3).trans (congrArg (fun z=>some (HO.lst z)) (by
  show kI (od.map V.str) (some (m/5%((od.length:Int)+2)+1)) none=_;rw[hal,show((al:Int)+1)=((al+1:Nat):Int) by omega,fQ,List.map_drop]))
 clear hU3;left;refine⟨p2,p3,_,_,rfl,rfl,aH.of (s3 _ _ h2),aH.of h3,?_,fun p4 n4=>?_⟩
 ·rw[za,za,zP,List.length_drop];omega
 generalize hU4:upd H3 p4 _=H4;have s4:au H3 H4:=au.kC hU4 n4;obtain⟨o0,eo0⟩:∃o0:List Str,o0=od.take al++od.drop (al+1):=⟨_,rfl⟩
 have h4:H4 p4=some (.lst (o0.map V.str)):=(kJ hU4).trans (by rw[eo0,zj]);clear hU4;have sub:o0.Sublist od:=by
  rw[eo0]
  conv=>rhs;rw[<-zY al od]
  exact List.Sublist.append (List.Sublist.refl _) (by rw[List.drop_add_one_eq_tail_drop];exact List.tail_sublist _)
 have o0n:o0.Nodup:=sub.nodup (pm.nodup_iff.mpr pn);have o0l:o0.length<=ps.length:=by have:=sub.length_le;omega
 have o0i:∀p∈o0,p∈ps:=fun p hp=>pm.mem_iff.mp (sub.subset hp);have s04:=s1.trans (s2.trans (s3.trans s4));clear s1 s2 s3 s4 h1 h2 h3 sub eo0 hal a0 n2 n3 n4 ol pm;exists p4,_,rfl,.inl (aH.of h4),?_;rw[za];exists by show 0<(o0.length:Int)+1;omega,?_
 have a0:0<=m/8%((o0.length:Int)+1):=zv _ nofun;obtain⟨al,hal⟩:∃j:Nat,m/8%((o0.length:Int)+1)=(j:Int):=⟨(m/8%((o0.length:Int)+1)).toNat,nofun⟩
 exists p4,_,rfl,aH.of h4,fun p5 n5=>?_;generalize hU5:upd H4 p5 _=H5;have s5:au H4 H5:=au.kC hU5 n5;have h5:H5 p5=some (.lst ((o0.take al).map V.str)):=(kJ hU5).trans (congrArg (fun z=>some (HO.lst z)) (by show kI (o0.map V.str) none (some (m/8%((o0.length:Int)+1)))=_;rw[hal,EX,List.map_take]));clear hU5;left;refine⟨p5,_,rfl,.inl ⟨aH.of h5,?_⟩⟩;intros p6 H6 s6 h6;exists p4,_,rfl,aH.of (s6 _ _ (s5 _ _ h4)),fun p7 n7=>?_;generalize hU7:upd H6 p7 _=H7;have s7:au H6 H7:=au.kC hU7 n7;have h7:H7 p7=some (.lst ((o0.drop al).map V.str)):=(kJ hU7).trans (congrArg (fun z=>some (HO.lst z)) (by show kI (o0.map V.str) (some (m/8%((o0.length:Int)+1))) none=_;rw[hal,fQ,List.map_drop]));clear hU7;left;refine⟨p7,_,rfl,.inl ⟨aH.of h7,?_⟩⟩;intros p8 H8 s8 h8;exists by show 2<=sizeLine;omega,?_
 intros p9 H9 s9 h9;exists⟨_,aH.of h9⟩,?_;have s49:=s5.trans (s6.trans (s7.trans (s8.trans s9)));have h69:H9 p6=some (.tup ((o0.take al).map V.str)):=s9 _ _ (s8 _ _ (s7 _ _ h6));have h89:H9 p8=some (.tup ((o0.drop al).map V.str)):=s9 _ _ h8;have fl:(o0.take al++o0.drop al)=o0:=zY al o0;generalize o0.take al=o1 at h69 fl;generalize o0.drop al=o2 at h89 fl;have s09:=s04.trans s49;clear s04 s49 s5 s6 s7 s8 s9 h5 h6 h7 h8;have tst:∀(o:List Str) (r:Addr) (H':Hp) (R:Bool->Hp->Prop),H' r=some (.tup (o.map V.str))->(∀H'',au H' H''->R (!decide (o=[])) H'')->nO (fu (QJ K) (aV 0) (DD dZ)) [some (.ref r)] H' R:=fun o r H' R hr hR=>by
  exists by show 0<=sizeLine;omega,?_
  intros pa Ha sa ha;refine⟨r,pa,_,_,rfl,rfl,.inr ⟨dA.of (sa _ _ hr),dA.of ha⟩,.inr (.inl rfl),?_⟩;have e:decide (o.map V.str=[])=decide (o=[]):=by simp
  rw[e];exact⟨_,rfl,hR _ sa⟩
 refine oR 2 (TR o1 o2 p6 p8) (fun i σ H'=>(∃v,σ=[v])/\au H9 H') ?_ nofun rfl ⟨⟨_,rfl⟩,au.refl _⟩ ?_ ?_ ?_ ?_
 ·intro i hi
  match i,hi with
  | 0,_=>exact zk _
  | 1,_=>show(if o1=[] then([]:List V) else [.ref p6]).length<=1;by_cases e:o1=[] <;> simp[e]
  | 2,_=>show(Bw o1 o2 p6 p8).length<=2;unfold Bw;by_cases e:o1=[] <;> by_cases e2:o2=[] <;> simp[e,e2]
 ·rintro i σ H' hi ⟨_,sm⟩
  exact C6 (aH.of (sm _ _ h9)) hi
 ·rintro σ H' ⟨_,sm⟩
  exact⟨_,aH.of (sm _ _ h9),zk _⟩
 ·rintro i x σ H' H'' hi ⟨⟨v,rfl⟩,sm⟩ ⟨rfl,hy⟩
  have hx:=hy _ (aH.of (sm _ _ h9))
  match i,hi with
  | 0,_=>
   have ex:V.ref p6=x:=yj hx;subst ex;refine tst o1 p6 _ _ (sm _ _ h69) fun H3 s3=>?_
   by_cases e:o1=[]
   ·rw[ze e]
    exact HV.skip nofun (by show(if o1=[] then([]:List V) else [.ref p6])=[];rw[if_pos e]) ⟨⟨_,rfl⟩,sm.trans s3⟩
   ·rw[zd e]
    change HV.push nofun (by show(if o1=[] then([]:List V) else [.ref p6])=[]++[.ref p6];rw[if_neg e];rfl) ⟨⟨_,rfl⟩,sm.trans s3⟩
  | 1,_=>
   have ex:V.ref p8=x:=yj hx;subst ex;refine tst o2 p8 _ _ (sm _ _ h89) fun H3 s3=>?_
   by_cases e:o2=[]
   ·rw[ze e]
    exact HV.skip nofun (by show Bw o1 o2 p6 p8=(if o1=[] then([]:List V) else [.ref p6]);unfold Bw;rw[if_pos e,zU]) ⟨⟨_,rfl⟩,sm.trans s3⟩
   ·rw[zd e]
    change HV.push nofun (by show Bw o1 o2 p6 p8=(if o1=[] then([]:List V) else [.ref p6])++[.ref p8];unfold Bw;rw[if_neg e]) ⟨⟨_,rfl⟩,sm.trans s3⟩
 ·rintro σ H' ⟨_,sm⟩ D5 n5'
  generalize hU:upd H' D5 _=H5;have s5:au H9 H5:=sm.trans (au.kC hU n5');have hD5:H5 D5=some (.lst (Bw o1 o2 p6 p8)):=kJ hU;clear hU;have rl5:=Qj (s5 _ _ h69) (s5 _ _ h89);have tl:=rl5.len;have t2:=JP o1 o2;exists D5,_,rfl,.inl (aH.of hD5),?_;rw[tl];left;refine⟨_,_,rfl,zV m0 ∅,?_,nofun,nofun,fun nms pn2 H6 nl nok s6 h6=>?_⟩
  ·have:=zW (a:=m) 80 m0;omega
  left;have nl':nms.length=(two o1 o2).length:=by rw[nl];omega
  refine⟨false,false,pn2,D5,_,_,rfl,aH.of h6,aH.of (s6 _ _ hD5),by rw[za,tl];exact nl',fun l H7 us s7 n7 h7 pr=>?_⟩;rw[za] at pr;refine kk (nms.zip (two o1 o2)) l us H7 (KH pn (by rw[fl];exact o0n) (by rw[fl];exact o0i) (by rw[fl];exact o0l) nl' nok) (((s09.trans s5).trans s6).trans s7) h7 (xH nl' ?_ pr);exact rl5.imp fun o v ⟨r,e1,e2⟩=>⟨r,e1,s7 _ _ (s6 _ _ e2)⟩
inductive wo (vs:List V) (H:Hp) (Q:VK) (E:XK):Prop
 | mk (m first last times:Int) (_:vs=[.int m,.int first,.int last,.int times]) (_:0<=m) (_:m<1099511627776) (_:0<=first) (_:first<=last) (_:last<=200) (_:2<=times) (_:times<=9) (_:∀(es:List Sc.End) v H',Kq first last times es->au H H'->Is H' (.tup (es.map nH)) v->Q v H')
def JJ (first last:Int) (bs:List Int):Prop:=bs≠[]/\bs.Pairwise (·<·)/\∀b∈bs,first<=b/\b<=last
def NZ {first last:Int} {bs:List Int} (h:JJ first last bs):∃b,(bs.map V.int)[(bs.map V.int).length-1]?=some (.int b)/\first<=b/\b<=last/\∀x∈bs,x<=b:=by
 obtain⟨ne,asc,hin⟩:=h;have e:=List.dropLast_concat_getLast ne;have hm:=List.getLast_mem ne;refine⟨bs.getLast ne,?_,(hin _ hm).1,(hin _ hm).2,fun x hx=>?_⟩
 ·rw[za,zJ,List.getLast_eq_getElem,zb (by have:=yq.mpr ne;omega)];rfl
 ·rw[<-e] at hx asc
  rw[zT] at asc;rcases zF.mp hx with z | z
  ·exact Int.le_of_lt (asc.2.2 x z _ (zy.mpr rfl))
  ·rw[zy.mp z];exact Int.le_refl _
def NY {first last b c:Int} {bs:List Int} (h:JJ first last bs) (hb:∀x∈bs,x<=b) (h1:first<=b) (h2:b<c) (h3:c<=last):JJ first last (bs++[c]):=by
 obtain⟨ne,asc,hin⟩:=h;refine⟨by simp,?_,fun x hx=>?_⟩
 ·rw[zT]
  refine⟨asc,by simp,fun x hx y hy=>?_⟩;have ey:y=c:=by simpa using hy
  have:=hb x hx;omega
 ·rcases zF.mp hx with z | z
  ·exact hin x z
  ·have ey:x=c:=by simpa using z
   omega
noncomputable def nu (m:Int) (n k:Nat):Nat:=if k<n then(k+(m/90).toNat)%n else(m/((k:Int)+7)%(n:Int)).toNat
def eA:aD ["_law_m","_law_first","_law_last","_law_times","_law_begins","_law_passes","_law_k","_law_spot"] ["_law_m","_law_first","_law_last","_law_times"] (ao oC):=dB
def wL:cY P w base 1 T.mB wo:=by
 nomatch T.mB,eA
 obtain⟨m,first,last,times,rfl,m0,m1,f0,fl,l1,t0,t1,kk⟩:=h;have sl:=yB;refine⟨_,(ag (aI (PW.pt (eO (ptr dj (pv 2) (pv 1)) (dC (ptr dj (ar aP (pv 0) ae) ae))))
  (aj (aq (bj af)))
  ax)
  (ag (bU 4 eA.nd (bq (aa (ar aY (pv 1) (ar aP (ar aU (pv 0) ae) (ar aY (ar gA (pv 2) (pv 1)) ae))) af)))
  (ag (sQ PassesOwn.never (PW.pt (cZ (ptr fo (eK aC T.bA (aa (pv 4) af)) (pv 3)) (cZ (ptr fo (fO (pv 4) (sT lH ae)) (pv 2)) (cO (ptr fq (ar aP (ar aU (pv 0) (ar aY (ar d6 ae (eK aC T.bA (aa (pv 4) af))) ae)) ae) ae)))))
  (aj (bK (b7 yC yE yD bw (pv 4) (aa (eK (Lz rfl) T.Si (aa (pv 2) (aa (ar aY (ar aY (fO (pv 4) (sT lH ae)) ae) (ar aP (ar aU (pv 0) (ar aY (eK aC T.bA (aa (pv 4) af)) ae)) ae)) af))) af)))))
  (ag (LX (i:=5) (ts:=["_law_begin"]) (ys:=[]) (js:=[]) (te:=(FN dZ)) (aZ (pv 4)) (fU 0) bg (bq af) eA.nd)
  (ag (cy PassesOwn.never rfl (cH (by rfl) T.dg (aa (pv 3) af)) (jP 6 eA.nd)
  (ag (bU 7 eA.nd (Gi (ptr fo (pv 6) (eK aC T.bA (aa (pv 4) af))) (ar aP (ar aY (pv 6) (ar aU (pv 0) ae)) (eK aC T.bA (aa (pv 4) af))) (ar aP (ar aU (pv 0) (ar aY (pv 6) ae)) (eK aC T.bA (aa (pv 4) af)))))
   (aj (bK (b7 yC yE yD bw (fO (pv 5) (pv 7)) (aa (ar aY (pv 6) ae) af))))))
  (aj (aq (nJ cP T.gP (aa (nA (ts:=["_law_begin","_law_some"]) (ys:=[]) (js:=[]) (g:=(EB K 2 (fH (bO 0) (fH (bO 1) EC)))) (te:=(DD (bC (aV 0) (bC (JQ (QK K) (bC (aV 1) dZ)) dZ)))) (M1 (by rfl) T.Nh (aa (pv 4) (aa (pv 5) af))) (d4 (n:=2) rfl (aL (fU 0) (aL (fU 1) df))) bg (bj (aa (pv 0) (aa (nJ cP T.gP (aa (pv 1) af)) af)))) af))))))))),?_⟩
 ac_rfl;left;have none_:∀(Hq:Hp),au H Hq->(∀p,Hq p=none->Q (.ref p) (upd Hq p (.tup []))):=fun Hq sq p n=>kk [] (.ref p) _ Li (sq.trans (aS n)) (cE ay cK);refine J2 (decide (V.int last=V.int first)||decide (V.int (m%3)=V.int 0)) ?_ ?_ ?_
 ·intro c1 Z hz
  rw[c1,Bool.false_or] at hz;change hz
 ·intro c1;rw[c1,Bool.true_or]
 cases qv:(decide (V.int last=V.int first)||decide (V.int (m%3)=V.int 0)) with
 | true=>
  change⟨by show 0<=sizeLine;omega,none_ H (au.refl _)⟩
 | false=>
 exists by show 0<last-first+1;omega,?_
 have a0:0<=m/3%(last-first+1):=zv _ nofun;have a1:m/3%(last-first+1)<last-first+1:=zr _ nofun;exists by show 1<=sizeLine;omega,fun B nB=>?_
 generalize hU1:upd H B _=H1;have s1:au H H1:=au.kC hU1 nB;have h1:H1 B=some (.lst ([first+m/3%(last-first+1)].map V.int)):=kJ hU1;have b1:JJ first last [first+m/3%(last-first+1)]:=by
  refine⟨by simp,by simp,fun b hb=>?_⟩;have:b=first+m/3%(last-first+1):=by simpa using hb
  omega
 clear hU1;left;refine CA (fun n σ H'=>∃bs:List Int,n=9-bs.length/\σ=[some (.int m),some (.int first),some (.int last),some (.int times),some (.ref B),none,none,none]/\au H H'/\H' B=some (.lst (bs.map V.int))/\JJ first last bs/\(bs.length:Int)<=times)
  (fun σ H'=>∃bs:List Int,σ=[some (.int m),some (.int first),some (.int last),some (.int times),some (.ref B),none,none,none]/\au H H'/\H' B=some (.lst (bs.map V.int))/\JJ first last bs/\(bs.length:Int)<=times)
  ⟨_,_,rfl,rfl,s1,h1,b1,by show(1:Int)<=times;omega⟩ ?_ ?_
 ·rintro n σ H2 ⟨bs,rfl,rfl,s2,h2,b2,bl⟩ N hN
  obtain⟨lb,hlb,lb0,lb1,lbx⟩:=NZ b2;have out:=hN _ _ ⟨bs,rfl,s2,h2,b2,bl⟩;exists B,_,rfl,.inl (aH.of h2),?_;rw[za];left;have q0:0<=m/(7*(bs.length:Int)+5)%4:=zv _ ∅;refine eG (decide ((bs.length:Int)<times)&&(decide (lb<last)&&decide (0<m/(7*(bs.length:Int)+5)%4))) ?_ ?_ ?_
  ·intro c1 Z hz
   rw[c1,Bool.true_and] at hz;exists B,_,-1,_,rfl,rfl,aH.of h2,tT hlb,?_;left;refine eG (decide (lb<last)&&decide (0<m/(7*(bs.length:Int)+5)%4)) ?_ ?_ hz
   ·intro c2 Z hz
    rw[c2,Bool.true_and] at hz;exists B,_,rfl,.inl (aH.of h2),?_;rw[za];exists⟨by show 0<7*(bs.length:Int)+5;omega,by show 7*(bs.length:Int)+5<1073741824;omega⟩,?_;change hz
   ·intro c2;rw[c2,Bool.false_and]
  ·intro c1;rw[c1,Bool.false_and]
  cases qw:(decide ((bs.length:Int)<times)&&(decide (lb<last)&&decide (0<m/(7*(bs.length:Int)+5)%4))) with
  | false=>exact cq rfl out
  | true=>
   simp only[zN,decide_eq_true_eq] at qw;obtain⟨c1,c2,c3⟩:=qw;refine b9 rfl ⟨fun σ H'=>∃bs':List Int,bs'.length=bs.length+1/\σ=[some (.int m),some (.int first),some (.int last),some (.int times),some (.ref B),none,none,none]/\au H H'/\H' B=some (.lst (bs'.map V.int))/\JJ first last bs'/\(bs'.length:Int)<=times,?_,?_⟩
   ·rintro σ' H' ⟨bs',e1,e2,e3,e4,e5,e6⟩
    exact⟨9-bs'.length,nofun,bs',rfl,e2,e3,e4,e5,e6⟩
   exists .inl ⟨rfl,_,aH.of h2⟩,?_;exists B,_,-1,_,rfl,rfl,aH.of h2,tT hlb,?_;exists B,_,rfl,.inl (aH.of h2),?_;rw[za];exists⟨by show 0<(bs.length:Int)+11;omega,by show(bs.length:Int)+11<1073741824;omega⟩,?_;left;have r0:0<=m/((bs.length:Int)+11)%3:=zv _ ∅;refine⟨_,_,rfl,?_⟩;exists B,_,_,rfl,rfl,h2,by rw[za];omega,?_
   left;refine⟨bs++[if lb+1+m/((bs.length:Int)+11)%3<last then lb+1+m/((bs.length:Int)+11)%3 else last],by rw[zg];rfl,rfl,bT nB s2,by rw[ay,zj];rfl,NY b2 lbx lb0 ?_ ?_,by rw[zg];show((bs.length+1:Nat):Int)<=times;omega⟩
   ·split <;> omega
   ·split <;> omega
 ·clear s1 h1 b1
  rintro σ1 H1 ⟨bs,rfl,s1,h1,b1,bl⟩;have bp:0<bs.length:=yq.mpr b1.1;exists⟨_,aH.of h1⟩,?_;refine EY (by rw[za];omega) (aH.of h1) ⟨none,rfl⟩ fun D qs H2 s2 nD h2 nd nDq ql hq=>?_;rw[za] at ql;exists by omega,nofun,?_
  have neB:∀q∈qs,q≠B:=fun q hq' e=>by
   have:=(hq q hq').1;rw[e,h1] at this;cases this
  have tn:((times.toNat:Nat):Int)=times:=nofun
  refine fj (fun k σ H'=>∃(v6 v7:Option V),σ=[some (.int m),some (.int first),some (.int last),some (.int times),some (.ref B),some (.ref D),v6,v7]/\au H H'/\H' B=some (.lst (bs.map V.int))/\H' D=some (.lst (qs.map V.ref))/\∀(i:Nat) (q:Addr),qs[i]?=some q->H' q=some (.lst ((cQ (nu m bs.length) k i).map V.int)))
   ⟨none,none,rfl,s1.trans s2,s2 _ _ h1,h2,fun i q e=>(hq q (zB e)).2⟩ ?_ ?_
  ·intro k σ H3 hk hh
   refine cT fun N kN0 kR0 _ _=>?_;obtain⟨v6,v7,rfl,s3,hB3,hD3,hq3⟩:=hh;left;have m90:0<=m/90:=zV m0 ∅;have sl0:nu m bs.length k<bs.length:=by
    unfold nu;split
    ·exact Nat.mod_lt _ bp
    ·have:=zr (m/((k:Int)+7)) (b:=(bs.length:Int)) nofun
     have:=zv (m/((k:Int)+7)) (b:=(bs.length:Int)) nofun;omega
   refine⟨B,_,rfl,.inl (aH.of hB3),?_⟩;rw[za];left;refine UB (H:=H3) (.int ((nu m bs.length k:Nat):Int)) ?_ ?_ ?_
   ·intro c1 Z hz
    have c1':k<bs.length:=by have:=yd c1;omega
    have e:((nu m bs.length k:Nat):Int)=(0+(k:Int)+m/90)%(bs.length:Int):=by
     unfold nu;rw[if_pos c1',Int.natCast_emod,Int.natCast_add,Int.toNat_of_nonneg m90,Int.zero_add]
    rw[e] at hz;exists B,_,rfl,.inl (aH.of hB3),?_;rw[za];change⟨by show 0<(bs.length:Int);omega,hz⟩
   ·intro c1 Z hz
    have c1':¬k<bs.length:=by have:=of_decide_eq_false c1;omega
    have e:((nu m bs.length k:Nat):Int)=m/(0+(k:Int)+7)%(bs.length:Int):=by
     unfold nu;rw[if_neg c1',Int.zero_add,Int.toNat_of_nonneg (zv _ nofun)]
    rw[e] at hz;exists⟨by show 0<0+(k:Int)+7;omega,by show 0+(k:Int)+7<1073741824;omega⟩,?_;exists B,_,rfl,.inl (aH.of hB3),?_;rw[za];change⟨by show 0<(bs.length:Int);omega,hz⟩
   left;have qe:qs[nu m bs.length k]?=some (qs[nu m bs.length k]'nofun):=zb nofun;generalize qs[nu m bs.length k]'nofun=q at qe;have qm:=zB qe;refine⟨D,_,_,.ref q,rfl,rfl,aH.of hD3,bx (by rw[zJ,qe];rfl),?_⟩;have hq3':=hq3 _ _ qe;refine⟨.inl ⟨rfl,_,aH.of hq3'⟩,?_⟩;exists q,_,_,rfl,rfl,hq3',by rw[za];have:=Ah (sp:=nu m bs.length) (i:=nu m bs.length k) (k:=k);omega,?_
   exists _,_,rfl,bT (s1.back (hq q qm).1) s3,by rw[aE (neB q qm).symm];exact hB3,by rw[aE (fun z=>nDq (by rw[z];exact qm))];exact hD3,fun i q' e=>?_
   by_cases ei:i=nu m bs.length k
   ·have:q'=q:=by rw[ei,qe] at e;exact(yj e).symm
    rw[this,ay,cQ,if_pos ei,zj,Int.zero_add,ei];rfl
   ·have nq:q'≠q:=fun z=>by
     rw[z] at e;exact ei (GG nd e qe)
    rw[aE nq,cQ,if_neg ei];exact hq3 i q' e
  ·rintro σ H3 ⟨v6,v7,rfl,s3,hB3,hD3,hq3⟩
   left;have eb:=uD V.int 0 bs;have eq:=uD V.ref 0 qs;rw[ql] at eq;refine⟨false,false,B,D,_,_,rfl,aH.of hB3,aH.of hD3,?_⟩;refine Jn (ws:=List.range bs.length) (e1:=fun i=>.int (bs.getD i 0)) (e2:=fun i=>.ref (qs.getD i 0)) (fun i=>nH (bs.getD i 0,cQ (nu m bs.length) times.toNat i)) (fun σ=>∃v w,σ=[v,w]) (by rw[zQ];omega) (by rw[eb];exact aH.of hB3) (by rw[eq];exact aH.of hD3) ⟨none,none,rfl⟩ ?_ ?_
   ·rintro i σ H4 p R hi s4 hp ⟨v,w',rfl⟩ rr
    have il:=List.mem_range.mp hi;have qe:qs[i]?=some (qs.getD i 0):=by rw[List.getD_eq_getElem?_getD,zb nofun];rfl
    have h5:=s4 _ _ (hq3 i _ qe);refine⟨p,_,rfl,dA.of hp,rfl,?_⟩;refine⟨_,_,rfl,⟨_,_,rfl,⟨rfl,?_⟩⟩⟩;left;refine⟨_,_,rfl,.inl ⟨aH.of h5,?_⟩⟩;intros p6 H6 s6 h6;exists bZ,?_;intros p7 H7 s7 h7;exact rr _ _ _ (s6.trans s7) (cE h7 (aN cL (aN (cE (s7 _ _ h6) tI) cK))) ⟨_,_,rfl⟩
   ·intro D5 vs5 H5 s5 _ h5 il5
    rw[Lj] at il5;left;refine⟨D5,_,rfl,.inl ⟨aH.of h5,?_⟩⟩;intros p6 H6 s6 h6;refine kk _ _ _ ?_ ((s3.trans s5).trans s6) (cE h6 (il5.mono s6));have:=Ja (first:=first) (last:=last) (t:=times.toNat) (bs:=bs) (sp:=nu m bs.length) nofun b1.1 b1.2.1 b1.2.2 ?_ ?_ nofun
    ·rw[tn] at this;exact this
    ·intro j hj
     unfold nu;split
     ·exact Nat.mod_lt _ bp
     ·have:=zr (m/((j:Int)+7)) (b:=(bs.length:Int)) nofun
      have:=zv (m/((j:Int)+7)) (b:=(bs.length:Int)) nofun;omega
    ·intro i hi
     obtain⟨j,hj,ej⟩:=Ov (c:=(m/90).toNat) hi;exact⟨j,nofun,by unfold nu;rw[if_pos hj];exact ej⟩
def Fq (many:Int) (r:Rep):Prop:=0<=r.first/\r.first<=r.last/\r.last<many/\2<=r.times/\r.times<=9/\Kq r.first r.last r.times r.ends
def Du (many:Int) (rs:List Rep):Prop:=rs.length<=4/\(∀r∈rs,Fq many r)/\rs.Pairwise fun a b=>a.last<b.first
inductive qE (vs:List V) (H:Hp) (Q:VK) (E:XK):Prop
 | mk (c many:Int) (_:vs=[.int c,.int many]) (_:many<=200) (_:∀(rs:List Rep) D us H',Du many rs->au H H'->H' D=some (.lst us)->aB H' (rs.map jQ) us->Q (.ref D) H')
def bD:aD ["_law_cell","_law_many","_law_repeats","_law_bar","_law_k","_law_m","_law_first","_law_last","_law_times"] ["_law_cell","_law_many"] (ao jX):=dB
def q9:cY P w base 2 T.iD qE:=by
 nomatch T.iD,bD
 obtain⟨c,many,rfl,my,kk⟩:=h;have sl:=yB;refine⟨_,(ag (bU 2 bD.nd (bq af))
  (ag (bU 3 bD.nd ae)
  (ag (cy PassesOwn.never rfl (cH (by rfl) T.dg (aa ae af)) (jP 4 bD.nd)
  (ag (bU 5 bD.nd (bM (bR T) hr T.cB (aa (pv 0) (aa (ar aY (pv 4) ae) af))))
   (ag (bU 6 bD.nd (ar aY (pv 3) (ar aP (pv 5) ae)))
   (ag (bU 7 bD.nd (ar aY (pv 6) (ar aP (ar aU (pv 5) ae) ae)))
   (aj (aI (PW.pt (cZ (ptr fo (pv 7) (pv 1)) (cO (ptr fq (ar aP (ar aU (pv 5) ae) ae) ae))))
   (ag (bU 8 bD.nd (ar aY ae (ar aP (ar aU (pv 5) ae) (fO (bq (aa ae (aa ae (aa ae af)))) (ar aP (ar aU (pv 5) ae) ae)))))
    (ag (bK (b7 yC yE yD bw (pv 2) (aa (bj (aa (pv 6) (aa (pv 7) (aa (pv 8) (aa (bM (wL T) hr T.mB (aa (ar aU (pv 5) ae) (aa (pv 6) (aa (pv 7) (aa (pv 8) af))))) af))))) af)))
    (aj (bU 3 bD.nd (ar aY (pv 7) ae)))))
   ax))))))
  (aj (aq (pv 2)))))),?_⟩
 ac_rfl;exists by show 0<=sizeLine;omega,?_
 intro D nD;have s2:au H (upd H D (.lst [])):=aS nD;have h2:upd H D (.lst []) D=some (.lst []):=ay;generalize upd H D (.lst [])=H2 at s2 h2 ⊢;exists by decide,(by decide),?_
 refine fj (fun i σ H'=>∃(rs:List Rep) (us:List V) (bar:Int),Lo [some (.int c),some (.int many),some (.ref D),some (.int bar)] 5 σ/\au H H'/\H' D=some (.lst us)/\aB H' (rs.map jQ) us/\rs.length<=i/\0<=bar/\(∀r∈rs,Fq many r/\r.last<bar)/\rs.Pairwise fun a b=>a.last<b.first)
  ⟨[],[],0,Lo.of rfl rfl,s2,h2,cK,zk _,∅,by simp,by simp⟩ ?_ ?_
 ·intro i σ H3 hi hh
  refine cT fun N kN0 kR0 _ _=>?_;obtain⟨rs,us,bar,⟨e,rfl⟩,s3,h3,il3,rl,b0,rok,asc⟩:=hh;exists c,_,rfl,nofun,nofun,?_;have m0:0<=mixed c (0+(i:Int)+500):=zv _ ∅;have m1:mixed c (0+(i:Int)+500)<2147483399:=zr _ ∅;generalize mixed c (0+(i:Int)+500)=m at m0 m1;have a0:0<=m%4:=zv _ ∅;have e0:0<=m/4%8:=zv _ ∅;left;refine eG (decide (bar+m%4+m/4%8<many)&&decide (0<m/32%4)) ?_ ?_ ?_
  ·intro c1 Z hz
   rw[c1,Bool.true_and] at hz;change hz
  ·intro c1;rw[c1,Bool.false_and]
  cases qw:(decide (bar+m%4+m/4%8<many)&&decide (0<m/32%4)) with
  | false=>
   change⟨rs,us,bar,Lo.of rfl rfl,s3,h3,il3,nofun,b0,rok,asc⟩
  | true=>
   simp only[zN,decide_eq_true_eq] at qw;obtain⟨c1,c2⟩:=qw;exists by show 3<=sizeLine;omega,?_
   intros p4 H4 s4 h4;have g0:0<=m/1024%3:=zv _ ∅;have g1:m/1024%3<3:=zr _ ∅;obtain⟨jj,hjj⟩:∃j:Nat,m/1024%3=(j:Int):=⟨(m/1024%3).toNat,nofun⟩
   obtain⟨z,hz,z0,z1⟩:∃z:Int,[V.int 2,V.int 3,V.int 8][jj]?=some (.int z)/\2<=z/\z<=8:=by
    have:jj<3:=nofun
    match jj,this with
    | 0,_=>exact⟨2,rfl,∅,∅⟩
    | 1,_=>exact⟨3,rfl,∅,∅⟩
    | 2,_=>exact⟨8,rfl,∅,∅⟩
   exists p4,_,m/1024%3,.int z,rfl,rfl,aH.of h4,(by rw[hjj];exact bx hz),?_;exists by show 0<z;omega,?_
   have t0:0<=m/128%z:=zv _ nofun;have t1:m/128%z<z:=zr _ nofun;exists .inl ⟨rfl,_,aH.of (s4 _ _ h3)⟩,?_;left;refine⟨_,_,_,_,rfl,zV m0 ∅,?_,nofun,nofun,nofun,nofun,nofun,fun es v H5 eok s5 h5=>?_⟩
   ·have:=zW (a:=m) 7 m0;omega
   exists by show 4<=sizeLine;omega,?_
   intros p6 H6 s6 h6;have s36:=s4.trans (s5.trans s6);have h36:=s36 _ _ h3;refine⟨D,us,_,rfl,rfl,h36,by have:=aT il3;omega,?_⟩;have nt:cS (H6 D):=by rw[h36];exact fun _ z=>by cases z
   have ix:Is H6 (jQ ⟨bar+m%4,bar+m%4+m/4%8,2+m/128%z,es⟩) (.ref p6):=cE h6 (aN cL (aN cL (aN cL (aN (h5.mono s6) cK))));left;refine⟨rs++[⟨bar+m%4,bar+m%4+m/4%8,2+m/128%z,es⟩],_,_,Lo.of rfl rfl,bT nD (s3.trans s36),ay,?_,by rw[zg];show rs.length+1<=i+1;omega,nofun,fun r hr=>?_,?_⟩
   ·rw[zj]
    exact cX (Is.upd nt ix) (aB.upd nt (il3.mono s36))
   ·rcases zF.mp hr with y | y
    ·have:=rok r y
     exact⟨this.1,nofun⟩
    ·rw[zy.mp y]
     exact⟨⟨by show 0<=bar+m%4;omega,by show bar+m%4<=bar+m%4+m/4%8;omega,c1,by show 2<=2+m/128%z;omega,by show 2+m/128%z<=9;omega,eok⟩,by show bar+m%4+m/4%8<bar+m%4+m/4%8+1;omega⟩
   ·rw[zT]
    refine⟨asc,by simp,fun a ha b hb=>?_⟩;have eb:b=⟨bar+m%4,bar+m%4+m/4%8,2+m/128%z,es⟩:=by simpa using hb
    rw[eb];have:=(rok a ha).2;show a.last<bar+m%4;omega
 ·rintro σ H3 ⟨rs,us,bar,⟨e,rfl⟩,s3,h3,il3,rl,b0,rok,asc⟩
  change kk rs D us H3 ⟨rl,fun r hr=>(rok r hr).1,asc⟩ s3 h3 il3
def P7 (H:Hp) (p:Addr) (rs:List Rep):Prop:=rs.length<=1000/\(∀r∈rs,r.ends.length<=1000)/\∃rv,H p=some (.lst rv)/\aB H (rs.map jQ) rv
theorem P7.mono {H H':Hp} (s:au H H') {p:Addr} {rs:List Rep} (h:P7 H p rs):P7 H' p rs:=by
 obtain⟨h1,h2,rv,h3,h4⟩:=h;exact⟨h1,h2,rv,s _ _ h3,h4.mono s⟩
inductive ic (vs:List V) (H:Hp) (Q:VK) (E:XK):Prop
 | mk (p:Addr) (rs:List Rep) (b:Int) (_:vs=[.ref p,.int b]) (_:P7 H p rs) (_:∀H',au H H'->Q (.bl (kc rs b)) H')
inductive ku (vs:List V) (H:Hp) (Q:VK) (E:XK):Prop
 | mk (p:Addr) (rs:List Rep) (b:Int) (_:vs=[.ref p,.int b]) (_:P7 H p rs) (_:∀H',au H H'->Q (.bl (e9 rs b)) H')
def BN:aD ["_law_repeats","_law_bar"] ["_law_repeats","_law_bar"] (ao sG):=dB
def qx:cY P w base 1 T.mw ku:=by
 nomatch T.mw,BN
 obtain⟨p,rs,b,rfl,⟨rl,el,rv,hp,il⟩,kk⟩:=h;have sl:=yB;obtain⟨ps,e1,e2,e3⟩:=hV il;have pln:ps.length=rs.length:=by rw[<-e1,za]
 refine⟨_,(aj (aq (eK (gI rfl) T.Au (aa (nA (ts:=["_law_first","_law_last","_law_times","_law_ends"]) (ys:=["_law_bar"]) (js:=[1]) (g:=(EB K 4 (fH (bO 0) (fH (bO 1) (fH (bO 2) (fH (bO 3) EC)))))) (te:=(xU (wC fun i j=>.bl (decide (i<j))) (wC fun i j=>.bl (decide (i<=j))) (aV 0) (aV 4) (aV 1))) (aZ (pv 0)) (d4 (n:=4) rfl (aL (fU 0) (aL (fU 1) (aL (fU 2) (aL (fU 3) df))))) bg (Gm fo iI (pv 0) (pv 4) (pv 1))) af)))),?_⟩;ac_rfl;exists⟨_,aH.of hp⟩,?_;refine cW (enc:=fun q:Rep×V=>q.2) (ws:=ps) (fun q=>.bl (decide (q.1.first<b)&&decide (b<=q.1.last))) (fun σ=>∃v1 v2 v3 v4,σ=[v1,v2,v3,v4,some (.int b)]) nofun (by rw[e2];exact aH.of hp) ⟨_,_,_,_,rfl⟩ ?_ ?_
 ·rintro z σ H1 R hz s1 ⟨v1,v2,v3,v4,rfl⟩ rr
  obtain⟨a,e,ev,ha,_⟩:=gd ((e3 z hz).mono s1);rw[ev];refine⟨a,_,rfl,dA.of ha,rfl,?_⟩;refine⟨_,_,rfl,⟨_,_,rfl,⟨_,_,rfl,⟨_,_,rfl,⟨rfl,?_⟩⟩⟩⟩⟩;left
  by_cases c:z.1.first<b
  ·refine b9 (ze c) ?_
   change rr _ _ _ (au.refl _) (by rw[ze c,Bool.true_and];unfold Is;rfl) ⟨_,_,_,_,rfl⟩
  ·refine cq (zd c) ?_
   exact rr _ _ _ (au.refl _) (by rw[zd c,Bool.false_and];unfold Is;rfl) ⟨_,_,_,_,rfl⟩
 ·intro D vs H1 s1 nD hD ilD
  have ee:ps.map (fun q:Rep×V=>Dt.bl (decide (q.1.first<b)&&decide (b<=q.1.last)))=(rs.map fun r=>decide (r.first<b)&&decide (b<=r.last)).map Dt.bl:=by rw[<-e1,zA,zA];rfl
  rw[ee] at ilD;rw[iA ilD] at hD;exists D,_,rfl,aH.of hD,?_;have:=kk _ s1;unfold e9 at this;rw[List.any_map];exact this
def dF:aD ["_law_repeats","_law_bar","_law_first","_law_last","_law_times","_law_ends","_law_mine"] ["_law_repeats","_law_bar"] (ao oz):=dB
def m8:cY P w base 1 T.i9 ic:=by
 nomatch T.i9,dF
 obtain⟨p,rs,b,rfl,⟨rl,el,rv,hp,il⟩,kk⟩:=h;have sl:=yB;have rvl:=aT il;refine⟨_,(ag (cy PassesOwn.never rfl (aZ (pv 0)) (d4 (n:=4) rfl (aL (jP 2 dF.nd) (aL (jP 3 dF.nd) (aL (jP 4 dF.nd) (aL (jP 5 dF.nd) df)))))
  (aj (aI (MV iI iI (pv 2) (pv 1) (pv 3))
   (ag (LX (i:=6) (ts:=["_law_begin","_law_passes"]) (ys:=["_law_bar"]) (js:=[1]) (g:=(EB K 2 (fH (bO 0) (fH (bO 1) EC)))) (tc:=(nO (fu (wC fun i j=>.bl (decide (i<=j))) (aV 0) (aV 2)))) (te:=(aV 1)) (kB (pv 5)) (d4 (n:=2) rfl (aL (fU 0) (aL (fU 1) df))) (gf (ptr iI (pv 0) (pv 2))) (pv 1) dF.nd)
    (aj (aq (M4 (dS (Eg hr.units) (pv 6) (bq af) (iw _)) (lX (dS pf (pv 4) (fO (pv 6) (sT lH ae)) (by with_unfolding_all rfl)))))))
   ax)))
  (aj (aq mW))),?_⟩
 ac_rfl;exists⟨_,aH.of hp⟩,?_;refine eD (K:=K) (a:=p) (xs:=rv) (fun i σ H'=>H'=H/\(∀r∈rs.take i,Fy r b=false)/\∃(v2 v3 v4 v5 v6:Option V),σ=[some (.ref p),some (.int b),v2,v3,v4,v5,v6]) ⟨rfl,by simp,none,none,none,none,none,rfl⟩ (fun i σ H' _ h=>by rw[h.1];exact aH.of hp) ?_ ?_
 ·rintro i x σ H1 hx ⟨rfl,no,v2,v3,v4,v5,v6,rfl⟩
  obtain⟨r,hr',ir⟩:=dY il hx;obtain⟨a,ep,rfl,ha,ie⟩:=gd ir;have rin:=zB hr';have nxt:Fy r b=false->∀y∈rs.take (i+1),Fy y b=false:=fun e y hy=>by
   rw[dH hr'] at hy;rcases zF.mp hy with z | z
   ·exact no y z
   ·rw[zy.mp z];exact e
  refine⟨a,_,rfl,dA.of ha,rfl,?_⟩;refine⟨_,_,rfl,⟨_,_,rfl,⟨_,_,rfl,⟨_,_,rfl,⟨rfl,?_⟩⟩⟩⟩⟩;left
  by_cases c1:r.first<=b
  ·refine b9 (ze c1) ?_
   left
   by_cases c2:b<=r.last
   ·refine b9 (ze c2) ?_
    left;obtain⟨ep',evs,e0,hep,ile⟩:∃ep' evs,V.ref ep=.ref ep'/\H1 ep'=some (.tup evs)/\aB H1 (r.ends.map nH) evs:=by unfold Is at ie;exact ie
    cases e0;obtain⟨ps,e1,e2,e3⟩:=hV ile;have pln:ps.length=r.ends.length:=by rw[<-e1,za]
    have elr:=el r rin;refine⟨⟨_,dA.of hep⟩,?_⟩;have hro:dR rs b=some r:=AF hr' (by rw[ze c1,ze c2];rfl) fun y hy=>no y hy;refine rB (ws:=ps) (enc:=fun q:Sc.End×V=>q.2) (fun q=>decide (q.1.1<=b)) (fun q=>vV q.1.2) (fun σ=>∃v w',σ=[v,w',some (.int b)]) nofun ⟨_,_,rfl⟩ (fun i H hi sm=>IW (je sm hep) (by rw[<-e2,za];exact hi)) (fun H sm=>⟨_,je sm hep,by rw[<-e2,za];exact zk _⟩) ?_ ?_ ?_
    ·rintro i x H H2 hi sm ⟨rfl,hy⟩
     have hx':=hy _ (je sm hep);rw[<-e2,zJ,zb hi] at hx';cases hx';exact⟨rfl,rfl⟩
    ·rintro z σ H2 R N hz s2 ⟨v,w',rfl⟩ rr nn
     obtain⟨a2,q2,ev,ha2,hq2⟩:=uV ((e3 z hz).mono s2);rw[ev];refine⟨a2,_,rfl,dA.of ha2,rfl,?_⟩;refine⟨_,_,rfl,⟨_,_,rfl,⟨rfl,?_⟩⟩⟩;left
     by_cases c3:z.1.1<=b
     ·refine b9 (ze c3) ?_
      change rr (ze c3) _ _ _ (au.refl _) (cE hq2 tI) ⟨_,_,rfl⟩
     ·refine cq (zd c3) ?_
      exact nn (zd c3) _ _ (au.refl _) ⟨_,_,rfl⟩
    ·intro D vs H2 s2 nD hD ilD
     have ee:(ps.filter fun q:Sc.End×V=>decide (q.1.1<=b)).map (fun q=>vV q.1.2)=((r.ends.filter fun e=>decide (e.1<=b)).map (·.2)).map vV:=by
      rw[<-e1,List.filter_map,zA,zA];rfl
     rw[ee] at ilD;have vl:=aT ilD;rw[za] at vl;exists by show 0<=sizeLine;omega,?_
     intros p3 H3 s3 h3;refine⟨D,p3,_,_,rfl,rfl,.inl ⟨aH.of (s3 _ _ hD),aH.of h3⟩,.inr (.inl rfl),?_⟩;have hlp:kc rs b=(match (r.ends.filter fun e=>decide (e.1<=b)).getLast? with | none=>true | some e=>decide (r.times∈e.2)):=by unfold kc;rw[hro];try rfl
     rw[hlp] at kk;clear hlp ee;generalize (r.ends.filter fun e=>decide (e.1<=b))=fs at kk ilD vl;have s13:=s2.trans s3
     by_cases e:vs=[]
     ·refine⟨_,rfl,b9 (ze e) ?_⟩
      have:fs=[]:=by
       rw[e] at vl;exact yr.mp vl.symm
      rw[this] at kk;exact kk _ s13
     ·refine⟨_,rfl,cq (zd e) ?_⟩
      have vp:0<vs.length:=yq.mpr e;obtain⟨ps5,hps5,i5⟩:=dY ilD (i:=vs.length-1) (zb nofun);rw[zJ] at hps5;cases qf:fs[vs.length-1]? with
      | none=>rw[qf] at hps5;cases hps5
      | some en=>
       rw[qf] at hps5;have e5:en.2=ps5:=yj hps5;subst e5;have gl:fs.getLast?=some en:=by rw[List.getLast?_eq_getElem?,<-vl];exact qf
       rw[gl] at kk;unfold vV Is at i5;obtain⟨a5,us5,ev5,ha5,il5⟩:=i5;rw[eR il5] at ha5;left;refine⟨D,vs,-1,_,rfl,rfl,aH.of (s3 _ _ hD),tT (zb nofun),?_⟩;rw[ev5];refine⟨a5,_,rfl,.inr (dA.of (s3 _ _ ha5)),rfl,by rw[List.all_map];exact yo.mpr fun x _=>rfl,?_⟩;show Q (.bl (Fx (.int r.times) (en.2.map V.int))) _;rw[xB];exact kk _ s13
   ·refine cq (zd c2) ?_
    change⟨nxt (by unfold Fy;rw[zd c2,Bool.and_false]),_,_,_,_,_,rfl⟩
  ·refine cq (zd c1) ?_
   change⟨nxt (by unfold Fy;rw[zd c1,Bool.false_and]),_,_,_,_,_,rfl⟩
 ·rintro σ H1 ⟨rfl,no,v2,v3,v4,v5,v6,rfl⟩
  left;have e:kc rs b=true:=by
   unfold kc;rw[show dR rs b=none from List.find?_eq_none.mpr fun y hy=>by
    have:=no y (by rw[rvl,zM];exact hy);unfold Fy at this;rw[this];simp]
  rw[e] at kk;exact kk _ (au.refl _)
def Du.apart {many:Int} {rs:List Rep} (h:Du many rs):Apart rs:=by
 refine⟨fun r hr=>?_,h.2.2⟩;obtain⟨h1,h2,h3,h4,h5,e1,e2,e3,e4,e5⟩:=h.2.1 r hr;exact⟨h2,e5,fun e he=>⟨(e3 e he).1,(e3 e he).2.1⟩⟩
inductive wk (vs:List V) (H:Hp) (Q:VK) (E:XK):Prop
 | mk (c many:Int) (p:Addr) (rs:List Rep) (_:vs=[.int c,.int many,.ref p]) (_:P7 H p rs) (_:Du many rs) (_:1<=many) (_:many<=200) (_:∀(jo:Option Jump) v H',(∀j,jo=some j->Py many rs j)->au H H'->Is H' (dO jH jo) v->Q v H')
def Kk {l:List Int} {j:Nat} (h:j<l.length):∃x,(l.map V.int)[j]?=some (.int x)/\x∈l:=⟨l[j],by rw[zJ,zb h];rfl,yk h⟩
def IM {m:Int} {l:List Int} (h:l≠[]):∃x,Ds (l.map V.int) (m%(l.length:Int))=some (.int x)/\x∈l:=by
 have hp:0<l.length:=yq.mpr h;have a0:=zv m (b:=(l.length:Int)) nofun;have a1:=zr m (b:=(l.length:Int)) nofun;obtain⟨j,hj⟩:∃j:Nat,m%(l.length:Int)=(j:Int):=⟨(m%(l.length:Int)).toNat,nofun⟩
 obtain⟨x,e1,e2⟩:=Kk (l:=l) (j:=j) nofun;exact⟨x,by rw[hj];exact bx e1,e2⟩
def HD (l:List Int):(l.map V.int).all nc=true:=by rw[List.all_map];exact yo.mpr fun _ _=>rfl
def bP:aD ["_law_cell","_law_many","_law_repeats","_law_m","_law_lasts","_law_inside","_law_ats","_law_at","_law_tos","_law_to","_law_untils","_law_codas"] ["_law_cell","_law_many","_law_repeats"] (ao oA):=dB
def wJ:cY P w base 2 T.mr wk:=by
 nomatch T.mr,bP
 obtain⟨c,many,p,rs,rfl,rsl,rd,mn1,mn2,kk⟩:=h;have sl:=yB;have ap:=rd.apart;obtain⟨rl,el,rv,hp,il⟩:=id rsl;obtain⟨ps,e1,e2,e3⟩:=hV il;have pln:ps.length=rs.length:=by rw[<-e1,za]
 refine⟨_,(ag (bU 3 bP.nd (bM (bR T) hr T.cB (aa (pv 0) (aa ae af))))
  (ag (bU 4 bP.nd (nA (ts:=["_law_first","_law_last","_law_times","_law_ends"]) (ys:=[]) (js:=[]) (g:=(EB K 4 (fH (bO 0) (fH (bO 1) (fH (bO 2) (fH (bO 3) EC)))))) (te:=(aV 1)) (aZ (pv 2)) (d4 (n:=4) rfl (aL (fU 0) (aL (fU 1) (aL (fU 2) (aL (fU 3) df))))) bg (pv 1)))
  (ag (bU 5 bP.nd (nA (ts:=["_law_bar"]) (ys:=["_law_repeats"]) (js:=[2]) (g:=(bO 0)) (tc:=(tB (JQ (Ua K) (bC (nP [none,some 0] (J7 K (aV 1)) (bO 0) uh (xU (wC fun i j=>.bl (decide (i<=j))) (wC fun i j=>.bl (decide (i<=j))) (fu (lU K) (aV 0) (tC (.int (0)))) (aV 1) (fu (lU K) (aV 0) (tC (.int (1)))))) dZ)))) (te:=(aV 0)) (cH (by rfl) T.dg (aa (pv 1) af)) (fU 0) (gf (cD (eK (gI rfl) T.Au (aa (nA (ts:=["_law_one"]) (ys:=["_law_bar"]) (js:=[0]) (te:=(xU (wC fun i j=>.bl (decide (i<=j))) (wC fun i j=>.bl (decide (i<=j))) (fu (lU K) (aV 0) (tC (.int (0)))) (aV 1) (fu (lU K) (aV 0) (tC (.int (1)))))) (aZ (pv 1)) (fU 0) bg (Gm iI iI (bV (pv 0) ae) (pv 1) (bV (pv 0) ae))) af)))) (pv 0)))
  (ag (LX (i:=6) (ts:=["_law_bar"]) (ys:=["_law_lasts","_law_inside"]) (js:=[4,5]) (g:=(bO 0)) (tc:=(TX (nO (fu (RD K false) (aV 0) (aV 1))) (nO (fu (RD K true) (aV 0) (aV 2))))) (te:=(aV 0)) (cH (by rfl) T.dg (aa (pv 1) af)) (fU 0) (gf (PW.pt (eO (iR pf (pv 0) (pv 1) (by with_unfolding_all rfl)) (dC (iR d5 (pv 0) (pv 2) (by with_unfolding_all rfl)))))) (pv 0) bP.nd)
  (ag (aI (PW.pt (eO (ptr dj (ar aP (ar aU (pv 3) ae) ae) ae) (dC (ptr (Eg hr.units) (pv 6) (bq af)))))
  (aj (aq aQ))
  ax)
  (ag (bU 7 bP.nd (fO (pv 6) (ar aP (ar aU (pv 3) ae) (eK aC T.bA (aa (pv 6) af)))))
  (ag (LX (i:=8) (ts:=["_law_bar"]) (ys:=["_law_repeats"]) (js:=[2]) (g:=(bO 0)) (tc:=(Mp (tB (fX ku [] E0 (bC (aV 1) (bC (aV 0) dZ)))))) (te:=(aV 0)) (cH (by rfl) T.dg (aa (ar aY (pv 7) ae) af)) (fU 0) (gf (eJ (cD (bM (qx T) hr T.mw (aa (pv 1) (aa (pv 0) af)))))) (pv 0) bP.nd)
  (ag (bU 9 bP.nd (fO (pv 8) (ar aP (ar aU (pv 3) ae) (eK aC T.bA (aa (pv 8) af)))))
  (ag (LX (i:=10) (ts:=["_law_bar"]) (ys:=["_law_repeats"]) (js:=[2]) (g:=(bO 0)) (tc:=(tB (fX ic [] E0 (bC (aV 1) (bC (aV 0) dZ))))) (te:=(aV 0)) (uF (by rfl) T.dg (aa (pv 9) (aa (ar aY (pv 7) ae) af))) (fU 0) (gf (cD (bM (m8 T) hr T.i9 (aa (pv 1) (aa (pv 0) af))))) (pv 0) bP.nd)
  (ag (LX (i:=11) (ts:=["_law_bar"]) (ys:=["_law_repeats"]) (js:=[2]) (g:=(bO 0)) (tc:=(QA (Mp (tB (fX ku [] E0 (bC (aV 1) (bC (aV 0) dZ))))) (tB (fX ic [] E0 (bC (aV 1) (bC (aV 0) dZ)))))) (te:=(aV 0)) (uF (by rfl) T.dg (aa (ar aY (pv 7) ae) (aa (pv 1) af))) (fU 0) (gf (PW.pt (cZ (eJ (cD (bM (qx T) hr T.mw (aa (pv 1) (aa (pv 0) af))))) (cO (cD (bM (m8 T) hr T.i9 (aa (pv 1) (aa (pv 0) af)))))))) (pv 0) bP.nd)
  (ag (aI (ptr (Eg hr.units) (pv 10) (bq af))
  (aj (aq aQ))
  ax)
  (aj (aq (bj (aa (pv 7) (aa (pv 9) (aa (fO (pv 10) (ar aP (ar aU (pv 3) ae) (eK aC T.bA (aa (pv 10) af)))) (aa (fO (ar gO (bq (aa aQ af)) (pv 11)) (ar aP (ar aU (pv 3) ae) (ar aY ae (eK aC T.bA (aa (pv 11) af))))) af)))))))))))))))))),?_⟩
 ac_rfl;exists c,520,rfl,nofun,nofun,?_;have m0:0<=mixed c 520:=zv _ ∅;generalize mixed c 520=m at m0;exists⟨_,aH.of hp⟩,?_;refine cW (enc:=fun q:Rep×V=>q.2) (ws:=ps) (fun q=>.int q.1.last) (fun σ=>∃v1 v2 v3 v4,σ=[v1,v2,v3,v4]) nofun (by rw[e2];exact aH.of hp) ⟨_,_,_,_,rfl⟩ ?_ ?_
 ·rintro z σ H1 R hz s1 ⟨v1,v2,v3,v4,rfl⟩ rr
  obtain⟨a,e,ev,ha,_⟩:=gd ((e3 z hz).mono s1);rw[ev];refine⟨a,_,rfl,dA.of ha,rfl,?_⟩;refine⟨_,_,rfl,⟨_,_,rfl,⟨_,_,rfl,⟨_,_,rfl,⟨rfl,?_⟩⟩⟩⟩⟩;change rr _ _ _ (au.refl _) cL ⟨_,_,_,_,rfl⟩
 intro D4 vs4 H4 s4 _ hD4 il4;have ee:ps.map (fun q:Rep×V=>Dt.int q.1.last)=(rs.map (·.last)).map Dt.int:=by rw[<-e1,zA,zA];rfl
 rw[ee] at il4;rw[eR il4] at hD4;clear ee il4;exists by omega,nofun,?_
 have mt:((many.toNat:Nat):Int)=many:=nofun
 refine jI (rest:=[some (.ref p)]) (fun b=>rs.any fun r=>Fy r b) nofun ⟨none,rfl⟩ ?_ ?_
 ·intro i H5 R i0 i1 s5 hR
  have s05:=s4.trans s5;exists⟨_,aH.of (s05 _ _ hp)⟩,?_;refine cW (enc:=fun q:Rep×V=>q.2) (ws:=ps) (fun q=>.bl (Fy q.1 i)) (fun σ=>∃v1,σ=[v1,some (.int i)]) nofun (by rw[e2];exact aH.of (s05 _ _ hp)) ⟨_,rfl⟩ ?_ ?_
  ·rintro z σ H6 R hz s6 ⟨v1,rfl⟩ rr
   obtain⟨a,e,ev,ha,_⟩:=gd ((e3 z hz).mono (s05.trans s6));rw[ev];left
   by_cases c1:z.1.first<=i
   ·refine b9 (ze c1) ?_
    change rr _ _ _ (au.refl _) (by unfold Fy;rw[ze c1,Bool.true_and];unfold Is;rfl) ⟨_,rfl⟩
   ·refine cq (zd c1) ?_
    exact rr _ _ _ (au.refl _) (by unfold Fy;rw[zd c1,Bool.false_and];unfold Is;rfl) ⟨_,rfl⟩
  ·intro D vs H6 s6 nD hD ilD
   have ee:ps.map (fun q:Rep×V=>Dt.bl (Fy q.1 i))=(rs.map fun r=>Fy r i).map Dt.bl:=by rw[<-e1,zA,zA];rfl
   rw[ee] at ilD;rw[iA ilD] at hD;exists D,_,rfl,aH.of hD,?_;rw[List.any_map];exact⟨_,rfl,hR _ s6⟩
 intro D5 H5 s5 _ hD5;have hD45:=s5 _ _ hD4;generalize hins:eE (fun b=>rs.any fun r=>Fy r b) 0 many.toNat=ins at hD5;exists by omega,nofun,?_
 refine jI (rest:=[some (.ref D4),some (.ref D5)]) (fun b=>decide (b∈rs.map (·.last))||!decide (b∈ins)) nofun ⟨none,rfl⟩ ?_ ?_
 ·intro i H6 R i0 i1 s6 hR
  exists D4,_,rfl,.inl (aH.of (s6 _ _ hD45)),rfl,HD _,?_;show∃k,V.bl (Fx (.int i) ((rs.map (·.last)).map V.int))=.bl k/\_;rw[xB];refine⟨_,rfl,?_⟩;refine J2 (decide (i∈rs.map (·.last))||!decide (i∈ins)) ?_ ?_ (hR _ (au.refl _))
  ·intro c1 Z hz
   rw[c1,Bool.false_or] at hz;exists D5,_,rfl,.inl (aH.of (s6 _ _ hD5)),rfl,HD _,?_;show∃k,V.bl (!Fx (.int i) (ins.map V.int))=.bl k/\_;rw[xB];exact⟨_,rfl,hz⟩
  ·intro c1;rw[c1,Bool.true_or]
 intro D6 H6 s6 _ hD6;have s06:=(s4.trans s5).trans s6;generalize hats:eE (fun b=>decide (b∈rs.map (·.last))||!decide (b∈ins)) 0 many.toNat=ats at hD6;left;have out:∀H',au H H'->Q .bI H':=fun H' s'=>kk none .bI H' (fun j z=>by cases z) s' (by unfold dO Is;rfl)
 by_cases c0:m/7%3=0
 ·refine b9 (ze (congrArg V.int c0)) ?_
  change out _ s06
 refine cq (zd fun z=>c0 (V.int.inj z)) ?_;exists by show 0<=sizeLine;omega,?_
 intros p7 H7 s7 h7;refine⟨D6,p7,_,_,rfl,rfl,.inl ⟨aH.of (s7 _ _ hD6),aH.of h7⟩,.inr (.inl rfl),?_⟩
 by_cases cn:ats=[]
 ·rw[cn]
  change out _ (s06.trans s7)
 have hn:decide (ats.map V.int=[])=false:=zd (by simpa using cn);rw[hn];have s07:=s06.trans s7;have hD67:=s7 _ _ hD6;left;obtain⟨at_,hat,atin⟩:=IM (m:=m/3) cn;have anp:0<ats.length:=yq.mpr cn;refine⟨D6,_,rfl,.inl (aH.of hD67),?_⟩;rw[za];exists by show 0<(ats.length:Int);omega,?_
 refine⟨D6,_,_,_,rfl,rfl,aH.of hD67,hat,?_⟩;rw[<-hats] at atin;obtain⟨a0,a1,a2⟩:=pA atin;have a1':at_<many:=nofun
 have aleave:(∃r∈rs,r.last=at_)\/(rs.any fun r=>Fy r at_)=false:=by
  rw[Bool.or_eq_true,decide_eq_true_eq] at a2;rcases a2 with z | z
  ·obtain⟨r,hr1,hr2⟩:=zG.mp z
   exact .inl ⟨r,hr1,hr2⟩
  ·right
   cases q:rs.any fun r=>Fy r at_ with
   | false=>rfl
   | true=>
    have:at_∈ins:=by rw[<-hins];exact GY a0 nofun q
    rw[ze this] at z;cases z
 clear hats atin hat;exists by show -2^62<=at_+1;omega,(by show at_+1<2^62;omega),?_
 have pt:∀H',au H7 H'->P7 H' p rs:=fun H' s'=>(rsl.mono s07).mono s';refine jI (rest:=[some (.ref p)]) (fun b=>!e9 rs b) (by show(at_+1).toNat<=sizeLine;omega) ⟨none,rfl⟩ ?_ ?_
 ·intro i H8 R i0 i1 s8 hR
  change⟨p,rs,i,rfl,pt _ s8,fun H' s'=>⟨_,rfl,hR _ s'⟩⟩
 intro D8 H8 s8 _ hD8;generalize htos:eE (fun b=>!e9 rs b) 0 (at_+1).toNat=tos at hD8;have tn:tos≠[]:=by
  rw[<-htos];refine List.ne_nil_of_mem (GY (x:=0) nofun nofun ?_);have:e9 rs 0=false:=by
   unfold e9;rw[List.any_eq_false];intro r hr';have:=(rd.2.1 r hr').1;rw[zd (show¬r.first<0 by omega)];simp
  rw[this];rfl
 obtain⟨to_,hto,toin⟩:=IM (m:=m/50) tn;have tnp:0<tos.length:=yq.mpr tn;exists D8,_,rfl,.inl (aH.of hD8),?_;rw[za];exists by show 0<(tos.length:Int);omega,?_
 refine⟨D8,_,_,_,rfl,rfl,aH.of hD8,hto,?_⟩;rw[<-htos] at toin;obtain⟨b0,b1,b2⟩:=pA toin;have b2':e9 rs to_=false:=by cases q:e9 rs to_ with
  | false=>rfl
  | true=>rw[q] at b2;cases b2
 clear htos toin hto tnp tn;exists _,_,rfl,⟨nofun,nofun,(by show -2^62<=at_+1;omega),by show at_+1<2^62;omega⟩,?_;refine jI (rest:=[some (.ref p)]) (fun b=>kc rs b) (by show(at_+1-to_).toNat<=sizeLine;omega) ⟨none,rfl⟩ ?_ ?_
 ·intro i H9 R i0 i1 s9 hR
  change⟨p,rs,i,rfl,pt _ (s8.trans s9),fun H' s'=>⟨_,rfl,hR _ s'⟩⟩
 intro D9 H9 s9 _ hD9;generalize hunt:eE (fun b=>kc rs b) to_ (at_+1-to_).toNat=unt at hD9;exists _,_,rfl,⟨by show -2^62<=at_+1;omega,(by show at_+1<2^62;omega),nofun,nofun⟩,?_;refine jI (rest:=[some (.ref p)]) (fun b=>!e9 rs b&&kc rs b) (by show(many-(at_+1)).toNat<=sizeLine;omega) ⟨none,rfl⟩ ?_ ?_
 ·intro i Ha R i0 i1 sa hR
  left;refine⟨p,rs,i,rfl,pt _ ((s8.trans s9).trans sa),fun H' s'=>⟨_,rfl,?_⟩⟩;cases q:e9 rs i with
  | true=>
   rw[q] at hR;exact cq rfl (hR _ s')
  | false=>
   rw[q] at hR;refine b9 rfl ?_;change⟨p,rs,i,rfl,(pt _ ((s8.trans s9).trans sa)).mono s',fun H'' s''=>⟨_,rfl,hR _ (s'.trans s'')⟩⟩
 intro Da Ha sa _ hDa;generalize hcod:eE (fun b=>!e9 rs b&&kc rs b) (at_+1) (many-(at_+1)).toNat=cod at hDa;have cl:cod.length<=200:=by
  have:=pB (f:=fun b=>!e9 rs b&&kc rs b) (lo:=at_+1) (n:=(many-(at_+1)).toNat);rw[hcod] at this;omega
 have s0a:=((s07.trans s8).trans s9).trans sa;exists by show 0<=sizeLine;omega,?_
 intros pb Hb sb hb;have hD9b:=sb _ _ (sa _ _ hD9);refine⟨D9,pb,_,_,rfl,rfl,.inl ⟨aH.of hD9b,aH.of hb⟩,.inr (.inl rfl),?_⟩
 by_cases un:unt=[]
 ·rw[un]
  change out _ (s0a.trans sb)
 have hn2:decide (unt.map V.int=[])=false:=zd (by simpa using un);rw[hn2];obtain⟨u_,hu,uin⟩:=IM (m:=m/500) un;have unp:0<unt.length:=yq.mpr un;rw[<-hunt] at uin;obtain⟨u0,u1,u2⟩:=pA uin;exists D9,_,rfl,.inl (aH.of hD9b),?_;rw[za];exists by show 0<(unt.length:Int);omega,?_
 refine⟨D9,_,_,_,rfl,rfl,aH.of hD9b,hu,?_⟩;exists by show 1<=sizeLine;omega,?_
 intros pc Hc sc hc;have hDac:=sc _ _ (sb _ _ hDa);exists pc,Da,_,_,rfl,rfl,aH.of hc,aH.of hDac,by rw[za];show 1+cod.length<=sizeLine;omega,?_
 intros pd Hd sd hd;exists Da,_,rfl,.inl (aH.of (sd _ _ hDac)),?_;rw[za];exists by show 0<1+(cod.length:Int);omega,?_
 have k0:0<=m/7%(1+(cod.length:Int)):=zv _ nofun;have k1:m/7%(1+(cod.length:Int))<1+(cod.length:Int):=zr _ nofun;obtain⟨kj,hkj⟩:∃j:Nat,m/7%(1+(cod.length:Int))=(j:Int):=⟨(m/7%(1+(cod.length:Int))).toNat,nofun⟩
 obtain⟨co,cv,hcv,icv,cok⟩:∃(co:Option Int) (cv:V),(V.bI::cod.map V.int)[kj]?=some cv/\(∀H',Is H' (dO Dt.int co) cv)/\∀x,co=some x->x∈cod:=by
  cases kj with
  | zero=>exact⟨none,.bI,rfl,fun H'=>by unfold dO Is;rfl,fun x z=>by cases z⟩
  | succ k=>
   obtain⟨x,f1,f2⟩:=Kk (l:=cod) (j:=k) nofun;exact⟨some x,.int x,by simpa using f1,fun H'=>by unfold dO Is;rfl,fun y z=>by cases z;exact f2⟩
 refine⟨pd,_,_,_,rfl,rfl,aH.of hd,(by rw[hkj];exact bx hcv),?_⟩;exists by show 4<=sizeLine;omega,?_
 intros pe He se he;refine kk (some ⟨at_,to_,u_,co⟩) _ _ (fun j z=>?_) ((((s0a.trans sb).trans sc).trans sd).trans se) (cE he (aN cL (aN cL (aN cL (aN (icv _) cK)))));cases z;refine Q9 ap a0 a1' aleave b0 nofun b2' u0 nofun u2 fun x hx=>?_;have xin:=cok x hx;rw[<-hcod] at xin;obtain⟨x0,x1,x2⟩:=pA xin;rw[zN] at x2;refine⟨nofun,nofun,?_,x2.2⟩;cases q:e9 rs x with
 | false=>rfl
 | true=>rw[q] at x2;cases x2.1
def Mc:∀x∈IP,∀z∈([2,3,5]:List Int),(red x.1 (x.2*z)).1*(red x.1 x.2).2<(red x.1 x.2).1*(red x.1 (x.2*z)).2:=by decide +kernel
structure Fu (most:Int) (S:cG):Prop where
 Sd:1<=S.players.length
 pl:S.players.length<=4
 pn:Bs S.players
 ins:SR S.ak
 st:Fo S.players S.aJ
 b1:1<=S.aM.length
 bl:(S.aM.length:Int)<=most
 bd:∀b∈S.aM,LW b
 up:∀u,S.aG=some u->∃x z,S.aM[0]?=some x/\z∈([2,3,5]:List Int)/\u=red x.aR.1 (x.aR.2*z)
 hs:List.Sublist (S.holds.map (·.1)) S.players
 hr:∀x∈S.holds,Kn (S.ak.map (·.1)) S.aM.length x.2
 no:Fs S S.aF
 nl:S.aF.length<=9*S.aM.length
 rp:Du S.aM.length S.repeats
 ju:∀j,S.ck=some j->Py S.aM.length S.repeats j
def G4 {aM:List Sc.L4} {upb:Option (Int×Int)} {S:cG} (eb:S.aM=aM) (eu:S.aG=upb) (bd:∀b∈aM,LW b) (up:∀u,upb=some u->∃x z,aM[0]?=some x/\z∈([2,3,5]:List Int)/\u=red x.aR.1 (x.aR.2*z)) (b:Nat) (hb:b<aM.length):LQ (S.len b):=by
 have hm:LQ (S.aR b):=by
  unfold cG.aR;rw[eb,zb hb];obtain⟨m1,m2,m3,m4,m5⟩:=l6 (bd _ (yk hb)).1;exact IT nofun nofun nofun nofun
 unfold cG.len;rw[eu];cases q:upb with
 | none=>exact hm
 | some u=>
  dsimp only;split
  ·obtain⟨x,z,e1,e2,e3⟩:=up u q
   obtain⟨m1,m2,m3,m4,m5⟩:=l6 (bd _ (zB e1)).1;rw[e3];have z1:2<=z/\z<=5:=by
    simp only[zC,zD,or_false] at e2;omega
   have p1:0<x.aR.2*z:=Int.mul_pos nofun nofun;have p2:x.aR.2*z<=32*5:=Int.mul_le_mul m5 z1.2 nofun ∅;exact IT nofun nofun p1 nofun
  ·exact hm
inductive uk (K:yA) (vs:List V) (H:Hp) (Q:VK) (E:XK):Prop
 | mk (a:Addr) (ns:List Int) (most:Int) (_:vs=[.ref a,.int most]) (_:aH K H a (ns.map V.int)) (_:ns.length<=1000) (_:1<=most) (_:most<=24) (_:∀S p H',Fu most S->au H H'->ua H' p S->Q (.ref p) H')
def bf:aD ["_law_script","_law_most","_law_m","_law_players","_law_instruments","_law_many","_law_bars","_law_upbeat","_law_holds","_law_notes","_law_repeats","_law_jump","_law_staffs"] ["_law_script","_law_most"] (ao mO):=dB
def uH:cY P w base 4 T.kL (uk K):=by
 nomatch T.kL,bf
 obtain⟨a,ns,most,rfl,hS,nl,mo1,mo2,kk⟩:=h;have sl:=yB;refine⟨_,(ag (bU 2 bf.nd (bM (bR T) hr T.cB (aa (bM (bG T) hr T.bS (aa (pv 0) (aa ae af))) (aa ae af))))
  (ag (bU 3 bf.nd (bM (fg T) hr T.eI (aa (ar aU (pv 2) ae) (aa (ar aY ae (ar aP (pv 2) ae)) af))))
  (ag (bU 4 bf.nd (bM (lZ T) hr T.fA (aa (bM (bG T) hr T.bS (aa (pv 0) (aa ae af))) af)))
  (ag (bU 5 bf.nd (ar aY ae (ar aP (bM (bR T) hr T.cB (aa (bM (bG T) hr T.bS (aa (pv 0) (aa ae af))) (aa ae af))) (pv 1))))
  (ag (bU 6 bf.nd (bM (wM T) hr T.mC (aa (bM (bG T) hr T.bS (aa (pv 0) (aa ae af))) (aa (pv 5) af))))
  (ag (bU 7 bf.nd aQ)
  (ag (aI (ptr dj (ar aP (ar aU (pv 2) ae) ae) ae)
  (aj (bU 7 bf.nd (bM (gg T) hr T.fR (aa (bV (bV (fO (pv 6) ae) ae) ae) (aa (ar d6 (bV (bV (fO (pv 6) ae) ae) ae) (fO (bq (aa ae (aa ae (aa ae af)))) (ar aP (ar aU (pv 2) ae) ae))) af)))))
  ax)
  (ag (bU 8 bf.nd (bM (uM T) hr T.kR (aa (bM (bG T) hr T.bS (aa (pv 0) (aa ae af))) (aa (pv 3) (aa (pv 4) (aa (pv 5) af))))))
  (ag (bU 9 bf.nd (bM (uK T) hr T.kP (aa (bM (bG T) hr T.bS (aa (pv 0) (aa ae af))) (aa (pv 3) (aa (pv 6) (aa (pv 7) af))))))
  (ag (bU 10 bf.nd (bM (q9 T) hr T.iD (aa (bM (bG T) hr T.bS (aa (pv 0) (aa ae af))) (aa (pv 5) af))))
  (ag (bU 11 bf.nd (bM (wJ T) hr T.mr (aa (bM (bG T) hr T.bS (aa (pv 0) (aa ae af))) (aa (pv 5) (aa (pv 10) af)))))
  (ag (bU 12 bf.nd (bM (sZ T) hr T.jK (aa (bM (bG T) hr T.bS (aa (pv 0) (aa ae af))) (aa (pv 3) af))))
  (aj (aq (bj (aa (pv 3) (aa (pv 4) (aa (pv 12) (aa (pv 6) (aa (pv 7) (aa (pv 8) (aa (pv 9) (aa (pv 10) (aa (pv 11) af)))))))))))))))))))))))),?_⟩
 ac_rfl;exists a,ns,0,rfl,hS,(by decide),nl,fun c0=>?_;exists c0,1,rfl,(by decide),(by decide),?_;have m0:0<=mixed c0 1:=zv _ ∅;have m1:mixed c0 1<2147483399:=zr _ ∅;generalize mixed c0 1=m at m0 m1;have a0:0<=m%4:=zv _ ∅;have a1:m%4<4:=zr _ ∅;left;refine⟨_,_,rfl,zV m0 ∅,?_,nofun,nofun,fun ps pp H1 pl pok s1 hpp=>?_⟩
 ·have:=zW (a:=m) 4 m0;omega
 have Sd:1<=ps.length/\ps.length<=4:=nofun
 exists a,ns,1,rfl,s1.seq hS,(by decide),nl,fun c1=>?_;left;intro ins ip iv H2 iok s2 hip ili;exists a,ns,2,rfl,(s1.trans s2).seq hS,(by decide),nl,fun c2=>?_;exists c2,2,rfl,(by decide),(by decide),?_;have n0:0<=mixed c2 2:=zv _ ∅;generalize mixed c2 2=n at n0;exists by show 0<most;omega,?_
 have d0:0<=n%most:=zv _ nofun;have d1:n%most<most:=zr _ nofun;exists a,ns,2,rfl,(s1.trans s2).seq hS,(by decide),nl,fun c3=>?_;exists c3,_,rfl,nofun,nofun,fun aM bp bv H3 bl bok s3 nb hbp ilb=>?_;have bl2:((aM.length:Nat):Int)=1+n%most:=nofun
 have bvl:=aT ilb;have s03:=(s1.trans s2).trans s3;have x0:aM[0]?=some (aM[0]'nofun):=zb nofun;generalize aM[0]'nofun=x at x0;obtain⟨y,hy,iy⟩:=dY ilb (i:=0) (zb nofun);have ey:y=x:=by rw[x0] at hy;exact(yj hy).symm
 subst ey;obtain⟨ab,mv,qb,ev,hab,imv,_⟩:=xw iy;have xin:y.aR∈IP:=(bok y (zB x0)).1;obtain⟨e1,e2,e3,e4,e5⟩:=l6 xin;have av:bv[0]?=some (.ref ab):=by rw[<-ev];exact zb nofun
 cases fw (o:=some y.aR) imv with
 | ref hmv=>
 rename_i am;left;refine join (fun σ H'=>au H3 H'/\∃(upb:Option (Int×Int)) (uv:V),σ=[some (.ref a),some (.int most),some (.int m),some (.ref pp),some (.ref ip),some (.int (1+n%most)),some (.ref bp),some uv,none,none,none,none,none]/\Is H' (dO dL upb) uv/\∀u,upb=some u->∃x z,aM[0]?=some x/\z∈([2,3,5]:List Int)/\u=red x.aR.1 (x.aR.2*z)) (fun N hN cc=>?_) (fun N hN cc=>?_) ?_
 ·left
  refine⟨bp,bv,0,_,rfl,rfl,aH.of hbp,bx av,?_⟩;exists bp,bv,0,_,rfl,rfl,aH.of hbp,bx av,?_;exists by show 3<=sizeLine;omega,?_
  intros p4 H4 s4 h4;have g0:0<=m/64%3:=zv _ ∅;have g1:m/64%3<3:=zr _ ∅;obtain⟨jj,hjj⟩:∃j:Nat,m/64%3=(j:Int):=⟨(m/64%3).toNat,nofun⟩
  obtain⟨z,hz,zi⟩:∃z:Int,[V.int 2,V.int 3,V.int 5][jj]?=some (.int z)/\z∈([2,3,5]:List Int):=by
   have:jj<3:=nofun
   match jj,this with
   | 0,_=>exact⟨2,rfl,∅⟩
   | 1,_=>exact⟨3,rfl,∅⟩
   | 2,_=>exact⟨5,rfl,∅⟩
  have z1:2<=z/\z<=5:=by
   simp only[zC,zD,or_false] at zi;omega
  exists p4,_,m/64%3,.int z,rfl,rfl,aH.of h4,(by rw[hjj];exact bx hz),?_;exists .inl ⟨nofun,nofun⟩,?_;have p1:0<y.aR.2*z:=Int.mul_pos nofun nofun;have p2:y.aR.2*z<=32*5:=Int.mul_le_mul e5 z1.2 nofun ∅;refine⟨_,_,rfl,nofun,p1,(du (n:=10) nofun nofun).mono ∅,fun p5 H5 s5 h5=>?_⟩;change hN _ _ ⟨s4.trans s5,some (red y.aR.1 (y.aR.2*z)),.ref p5,rfl,iW h5,fun u q=>by cases q;exact⟨y,z,x0,zi,rfl⟩⟩
 ·left
  exact hN _ _ ⟨au.refl _,none,.bI,rfl,by unfold dO Is;rfl,fun u z=>by cases z⟩
 rintro σ4 H4 ⟨s4,upb,uv,rfl,iuv,uok⟩;have s04:=s03.trans s4;exists a,ns,1,rfl,s04.seq hS,(by decide),nl,fun c5=>?_;left;have s14:=(s2.trans s3).trans s4;have s24:=s3.trans s4;refine⟨c5,_,pp,ip,ps,ins,iv,rfl,s14 _ _ hpp,s24 _ _ hip,ili.mono s24,nofun,by have:=iok.1;omega,nofun,fun hs hp hv H5 hsub hrow s5 hhp rlh=>?_⟩;have s05:=s04.trans s5;exists a,ns,3,rfl,s05.seq hS,(by decide),nl,fun c6=>?_;left;have s15:=s14.trans s5;have s25:=s24.trans s5;have s35:=s4.trans s5;refine⟨c6,pp,bp,{players:=ps,aM:=aM,aG:=upb},bv,uv,rfl,s15 _ _ hpp,s35 _ _ hbp,ilb.mono s35,iuv.mono s5,by show ps.length<=9;omega,pok.2,by show aM.length<=200;omega,bok,G4 rfl rfl bok uok,fun nts np nv H6 nok nlen s6 hnp rln=>?_⟩;have s06:=s05.trans s6;exists a,ns,4,rfl,s06.seq hS,(by decide),nl,fun c7=>?_;exists c7,_,rfl,nofun,fun rs rp rv H7 rok s7 hrp ilr=>?_;have s07:=s06.trans s7;exists a,ns,4,rfl,s07.seq hS,(by decide),nl,fun c8=>?_;left;have rsl:P7 H7 rp rs:=⟨by have:=rok.1;omega,fun r hr'=>by have:=(rok.2.1 r hr').2.2.2.2.2.2.1;omega,rv,hrp,ilr⟩
 refine⟨c8,_,rp,rs,rfl,rsl,rok,nofun,nofun,fun jo jv H8 jok s8 ij=>?_⟩;have s08:=s07.trans s8;exists a,ns,0,rfl,s08.seq hS,(by decide),nl,fun c9=>?_;left;have s18:=((s15.trans s6).trans s7).trans s8;refine⟨c9,pp,ps,rfl,s18 _ _ hpp,pok.2,nofun,fun sts sp sv H9 stok s9 hsp ils=>?_⟩;exists by show 9<=sizeLine;omega,?_
 intros pa Ha sa ha;have s9a:=sa;have s8a:=s9.trans sa;have s7a:=s8.trans s8a;have s6a:=s7.trans s7a;have s5a:=s6.trans s6a;have s4a:=s5.trans s5a;have s3a:=s4.trans s4a;have s2a:=s3.trans s3a;have s1a:=s2.trans s2a;refine kk ⟨ps,ins,sts,aM,upb,hs,nts,rs,jo⟩ pa Ha ?_ (s08.trans s8a) ?_
 ·exact⟨Sd.1,Sd.2,pok,iok,stok,by show 1<=aM.length;omega,by show(aM.length:Int)<=most;omega,bok,uok,hsub,fun x hx=>by show Kn (ins.map (·.1)) aM.length x.2;rw[bl2];exact hrow x hx,nok,nlen,by show Du aM.length rs;rw[bl2];exact rok,fun j hj=>by show Py aM.length rs j;rw[bl2];exact jok j hj⟩
 ·exact⟨pp,ip,sp,bp,hp,np,rp,uv,jv,iv,sv,bv,hv,nv,rv,ha,s1a _ _ hpp,⟨s2a _ _ hip,ili.mono s2a⟩,⟨s9a _ _ hsp,ils.mono s9a⟩,⟨s3a _ _ hbp,ilb.mono s3a⟩,iuv.mono s4a,⟨s5a _ _ hhp,rlh.imp fun x v z=>z.mono s5a⟩,⟨s6a _ _ hnp,rln.imp fun x v z=>z.mono s6a⟩,⟨s7a _ _ hrp,ilr.mono s7a⟩,ij.mono s8a⟩
def oK {n:Str} (h:gs n):n.length<=12:=by
 unfold gs cM at h;split at h
 ·cases h
 ·split at h
  ·cases h
  ·omega
def Hh {n:Int} (h:NB n):(dec n).length<=5:=bz (by have:=h.1;omega) (by have:=h.2;omega)
theorem FI:∀es:List Sc.End,Ih es=((es.map (·.2)).flatten).length
 | []=>rfl
 | e::r=>by rw[zh,z9,zg,<-FI r];rfl
theorem F9 {n:Nat} (hn:n<=999):∀{l rs:List Rep},(rs++l).Pairwise (fun a b=>a.last<b.first)->(∀r∈l,Fq n r)->xG n rs l
 | [],_,_,_=>trivial
 | r::l,rs,asc,ok=>by
  obtain⟨h1,h2,h3,h4,h5,e1,e2,e3,e4,e5⟩:=ok r zp;refine⟨fun b hb=>?_,?_,⟨by rw[FI];omega,nofun,nofun,nofun⟩,F9 hn (by rw[zE];exact asc) fun x hx=>ok x (zm _ hx)⟩
  ·rcases zF.mp hb with z | z
   ·simp only[zC,zD,or_false] at z
    rcases z with z | z <;> omega
   ·obtain⟨e,he,rfl⟩:=zG.mp z
    have:=(e3 e he).2.1;omega
  ·have fin:(decide (r.first<=r.last)&&gi r)=true:=by rw[ze h2];exact e1
   unfold lQ;cases q:rs.getLast? with
   | none=>exact fin
   | some p=>
    have:=(zT.mp asc).2.2 p (List.mem_of_getLast? q) r zp;dsimp only;rw[if_neg nofun];exact fin
def Pg {most:Int} {S:cG} (hm:most<=24) (D:Fu most S):UC S:=by
 have bl:=D.bl;have b1:=D.b1;have pl:=D.pl;obtain⟨i1,i2,i3⟩:=D.ins;obtain⟨t1,t2,t3,t4⟩:=D.st;have nl:=D.nl;obtain⟨r1,r2,r3⟩:=D.rp;have hl:=D.hs.length_le;rw[za] at hl;refine⟨D.pn.2,nofun,i2.2,nofun,t2.2,t3,fun x hx=>(t4 x hx).2.2,fun x hx=>by have:=(t4 x hx).2.1;omega,nofun,nofun,fun b hb=>?_,fun u hu=>?_,D.hs.nodup D.pn.2,nofun,fun x hx=>?_,D.no.1,nofun,fun x hx=>?_,F9 nofun (by rw[List.nil_append];exact r3) r2,nofun,fun r hr=>?_,fun j hj=>?_⟩
 ·obtain⟨m1,m2,m3,m4,m5⟩:=l6 (D.bd b hb).1
  exact⟨nofun,nofun,nofun,nofun⟩
 ·obtain⟨x,z,e1,e2,e3⟩:=D.up u hu
  have xin:=(D.bd x (zB e1)).1;obtain⟨m1,m2,m3,m4,m5⟩:=l6 xin;refine⟨nofun,?_,?_⟩
  ·unfold cG.aR
   rw[e1,e3];exact Mc x.aR xin z e2
  ·have z1:2<=z/\z<=5:=by
    simp only[zC,zD,or_false] at e2;omega
   have p1:0<x.aR.2*z:=Int.mul_pos nofun nofun;have p2:x.aR.2*z<=32*5:=Int.mul_le_mul m5 z1.2 nofun ∅;obtain⟨q1,q2,q3,q4⟩:=IT (t:=x.aR.1) (b:=x.aR.2*z) nofun nofun p1 nofun;obtain⟨_,q5,_⟩:=q1.pos;rw[e3];exact⟨(du (n:=10) nofun nofun).mono ∅,(du (n:=10) nofun nofun).mono ∅⟩
 ·obtain⟨h1,h2,h3,h4⟩:=D.hr x hx
  exact⟨h1,nofun,h3,D.hs.subset (zO (f:=fun y:Str×List (Int×Str)=>y.1) hx),fun h hh=>⟨(h4 h hh).2.1,(h4 h hh).2.2⟩⟩
 ·obtain⟨h1,h2,h3,h4,h5,h6,h7⟩:=D.no.2 x hx
  exact⟨h1,h2,h3,h4,fun it hit=>(h5 it hit).1,h6⟩
 ·have:=(r2 r hr).2.2.2.2.2.2.1
  omega
 ·obtain⟨j1,j2,j3,j4,j5⟩:=D.ju j hj
  refine⟨fun b hb=>?_,j1⟩;rcases zF.mp hb with z | z
  ·simp only[zC,zD,or_false] at z
   rcases z with z | z | z <;> omega
  ·cases q:j.gH with
   | none=>rw[q] at z;cases z
   | some c=>
    rw[q] at z;have:b=c:=by simpa using z
    have:=(j5 c q).2;omega
def De {many:Int} {r:Rep} (hm:many<=200) (h:Fq many r):LO r:=by
 obtain⟨h1,h2,h3,h4,h5,e1,e2,e3,e4,e5⟩:=h;exact⟨⟨⟨h1,nofun⟩,⟨nofun,nofun⟩,h4,h5,fun e he=>⟨by have:=(e3 e he).1;omega,by have:=(e3 e he).2.1;omega,(e3 e he).2.2.1,(e3 e he).2.2.2.2⟩⟩,e2,fun e he=>(e3 e he).2.2.2.1⟩
def NP {most:Int} {S:cG} (hm:most<=24) (D:Fu most S):∀t∈eW S,TD t:=by
 have bl:=D.bl;have b1:=D.b1;have pl:=D.pl;obtain⟨i1,i2,i3⟩:=D.ins;obtain⟨t1,t2,t3,t4⟩:=D.st;obtain⟨r1,r2,r3⟩:=D.rp;have pnm:∀p∈S.players,gs p:=D.pn.1;have inm:∀p∈S.ak.map (·.1),gs p:=i2.1;intro t ht;unfold eW at ht;simp only[zF] at ht;rcases ht with((((((ht | ht) | ht) | ht) | ht) | ht) | ht) | (ht | ht)
 ·obtain⟨n,hn,rfl⟩:=zG.mp ht
  refine⟨pnm n hn,by show 2<=100;decide,fun w hw=>?_⟩;simp only[Sc.wordsOf,zC,zD,or_false] at hw;rcases hw with rfl | rfl
  ·decide
  ·have:=oK (pnm _ hn);omega
 ·obtain⟨x,hx,rfl⟩:=zG.mp ht
  obtain⟨q1,q2,q3,q4,q5,q6⟩:=i3 x hx;have nx:=inm x.1 (zO (f:=fun y:Str×(Int×Int)×(Int×Int)=>y.1) hx);obtain⟨p1,p2,_⟩:=q4.pos;refine⟨⟨nx,q1,q2,q3,q4,q5,q6⟩,by show 5<=100;decide,fun w hw=>?_⟩;simp only[Sc.wordsOf,zC,zD,or_false] at hw;obtain⟨o1,o2,o3,o4,_⟩:=q1;rcases hw with rfl | rfl | rfl | rfl | rfl
  ·decide
  ·have:=oK nx;omega
  ·have:=bz (n:=x.2.1.1) nofun nofun;omega
  ·have:=bz (n:=x.2.1.2) nofun nofun;omega
  ·have:=lh (x:=x.2.2) nofun q5 nofun q6;omega
 ·obtain⟨x,hx,rfl⟩:=zG.mp ht
  obtain⟨q1,q2,q3⟩:=t4 x hx;have nx:=t2.1 x.1 (zO (f:=fun y:Str×List Str=>y.1) hx);refine⟨⟨nx,q1,fun p hp=>pnm p (q3 p hp)⟩,by show x.2.length+1+1<=100;omega,fun w hw=>?_⟩;simp only[Sc.wordsOf,zC] at hw;rcases hw with rfl | rfl | hw
  ·decide
  ·have:=oK nx;omega
  ·have:=oK (pnm w (q3 w hw));omega
 ·obtain⟨b,hb,rfl⟩:=zG.mp ht
  obtain⟨q1,q2,q3,q4,q5⟩:=D.bd b hb;obtain⟨m1,m2,m3,m4,m5⟩:=l6 q1;refine⟨⟨m1,nofun,m3,q2,q3,q4⟩,by show b.marks.length+1+1+1<=100;omega,fun w hw=>?_⟩;simp only[Sc.wordsOf,zC] at hw;rcases hw with rfl | rfl | rfl | hw
  ·decide
  ·have l1:=bz (n:=b.aR.1) nofun nofun
   have l2:=bz (n:=b.aR.2) nofun nofun;rw[len_app,len_app];have:("/": Str).length=1:=rfl;omega
  ·have:=bz (n:=b.key) nofun nofun;omega
  ·have:=oK (q4 w hw);omega
 ·obtain⟨u,hu,rfl⟩:=zG.mp ht
  have hu':S.aG=some u:=by
   cases q:S.aG with
   | none=>rw[q] at hu;cases hu
   | some v=>
    rw[q] at hu;have:u=v:=by simpa using hu
    rw[this]
  have ln:=G4 (S:=S) rfl rfl D.bd D.up 0 nofun;have el:S.len 0=u:=by unfold cG.len;rw[hu'];rfl
  rw[el] at ln;obtain⟨l1,l2,l3,l4⟩:=ln;obtain⟨p1,p2,_⟩:=l1.pos;refine⟨⟨l1,l2,nofun,nofun⟩,by show 2<=100;decide,fun w hw=>?_⟩;simp only[Sc.wordsOf,zC,zD,or_false] at hw;rcases hw with rfl | rfl
  ·decide
  ·have:=lh (x:=u) nofun nofun nofun nofun;omega
 ·obtain⟨l,hl,ht⟩:=List.mem_flatten.mp ht
  obtain⟨x,hx,rfl⟩:=zG.mp hl;obtain⟨h,hh,rfl⟩:=zG.mp ht;obtain⟨h1,h2,h3,h4⟩:=D.hr x hx;have np:=pnm x.1 (D.hs.subset (zO (f:=fun y:Str×List (Int×Str)=>y.1) hx));have nb:NB h.1:=⟨(h4 h hh).1,by have:=(h4 h hh).2.1;omega⟩
  have ni:=inm h.2 (h4 h hh).2.2;refine⟨⟨np,nb,ni⟩,by show 4<=100;decide,fun w hw=>?_⟩;simp only[Sc.wordsOf,zC,zD,or_false] at hw;rcases hw with rfl | rfl | rfl | rfl
  ·decide
  ·have:=oK np;omega
  ·have:=Hh nb;omega
  ·have:=oK ni;omega
 ·obtain⟨x,hx,rfl⟩:=zG.mp ht
  obtain⟨h1,h2,h3,h4,h5,h6,h7⟩:=D.no.2 x hx;have nb:NB x.1.1:=⟨h1,nofun⟩
  refine⟨⟨nb,pnm _ h3,h5,h7⟩,by show(x.2.map rg).length+1+1+1<=100;rw[za];omega,fun w hw=>?_⟩;simp only[Sc.wordsOf,zC] at hw;rcases hw with rfl | rfl | rfl | hw
  ·decide
  ·have:=Hh nb;omega
  ·have:=oK (pnm _ h3);omega
  ·obtain⟨it,hit,rfl⟩:=zG.mp hw
   have:=Lb (h5 it hit);omega
 ·obtain⟨r,hr,rfl⟩:=zG.mp ht
  obtain⟨⟨q1,q2,q3,q4,q5⟩,q6,q7⟩:=De nofun (r2 r hr);refine⟨⟨q1,q2,q3,q4,q5⟩,by show(r.ends.map pO).length+1+1+1+1<=100;rw[za];omega,fun w hw=>?_⟩;simp only[Sc.wordsOf,zC] at hw;rcases hw with rfl | rfl | rfl | rfl | hw
  ·decide
  ·have:=Hh q1;omega
  ·have:=Hh q2;omega
  ·have:=bz (n:=r.times) nofun nofun;omega
  ·obtain⟨e,he,rfl⟩:=zG.mp hw
   have:=G0 (q5 e he) (q7 e he);omega
 ·obtain⟨j,hj,rfl⟩:=zG.mp ht
  have hj':S.ck=some j:=by
   cases q:S.ck with
   | none=>rw[q] at hj;cases hj
   | some v=>
    rw[q] at hj;have:j=v:=by simpa using hj
    rw[this]
  obtain⟨j1,j2,j3,j4,j5⟩:=D.ju j hj';have n1:NB j.xy:=⟨j2.1,nofun⟩
  have n2:NB j.Bu:=⟨j3.1,nofun⟩
  have n3:NB j.dE:=⟨j4.1,nofun⟩
  have n4:∀c,j.gH=some c->NB c:=fun c hc=>⟨(j5 c hc).1,by have:=(j5 c hc).2;omega⟩
  refine⟨⟨n1,n2,n3,n4⟩,by show 5<=100;decide,fun w hw=>?_⟩;simp only[Sc.wordsOf,zC,zD,or_false] at hw;rcases hw with rfl | rfl | rfl | rfl | rfl
  ·decide
  ·have:=Hh n1;omega
  ·have:=Hh n2;omega
  ·have:=Hh n3;omega
  ·unfold ctxt
   cases q:j.gH with
   | none=>decide
   | some c=>have:=Hh (n4 c q);dsimp only;omega
theorem Ka {α:Type} {k:Nat}:∀{l:List (List α)},(∀x∈l,x.length<=k)->l.flatten.length<=k*l.length
 | [],_=>by simp
 | x::r,h=>by
  have ih:=Ka (l:=r) fun y hy=>h y (zm _ hy);have:=h x zp;rw[z9,zg,zt,Nat.mul_succ];omega
def Ll {most:Int} {S:cG} (hm:most<=24) (D:Fu most S):(eW S).length<=1000/\eW S≠[]:=by
 have bl:=D.bl;have b1:=D.b1;have pl:=D.pl;have Sd:=D.Sd;have i1:=D.ins.1;have t1:=D.st.1;have r1:=D.rp.1;have nl:=D.nl;have hl:=D.hs.length_le;rw[za] at hl;have f:=Ka (k:=4) (l:=S.holds.map fun x=>x.2.map fun h=>Told.holds x.1 h.1 h.2) fun y hy=>by
  obtain⟨x,hx,rfl⟩:=zG.mp hy;rw[za];exact(D.hr x hx).2.1
 rw[za] at f;have u:S.aG.toList.length<=1:=by cases S.aG <;> simp
 have j:S.ck.toList.length<=1:=by cases S.ck <;> simp
 refine⟨?_,fun z=>?_⟩
 ·unfold eW
  simp only[zg,za];omega
 ·have:=congrArg List.length z
  unfold eW at this;simp only[zg,za,List.length_nil] at this;omega
def Of (H:Hp) (d:Addr) (ks:List (Int×Str)):Prop:=∃kvs:List (List Key×V),H d=some (.dT kvs)/\kvs.length<=ks.length/\∀k,(dG kvs (kN k)).isSome=decide (k∈ks)
def Of.mono {H H':Hp} (s:au H H') {d:Addr} {ks:List (Int×Str)} (h:Of H d ks):Of H' d ks:=by
 obtain⟨kvs,h1,h2⟩:=h;exact⟨kvs,s _ _ h1,h2⟩
def Sm {k n:Int×Str} (e:k≠n):kN k≠kN n:=fun z=>e (by
 unfold kN at z;simp at z;exact Prod.ext z.1 z.2)
def Of.put {H:Hp} {d:Addr} {ks:List (Int×Str)} {kvs:List (List Key×V)} (n:Int×Str) (v:V) (h2:kvs.length<=ks.length) (h3:∀k,(dG kvs (kN k)).isSome=decide (k∈ks)):Of (L2.upd H d (.dT (putK kvs (kN n) v))) d (ks++[n]):=by
 refine⟨_,ay,?_,fun k=>?_⟩
 ·have:=oO kvs (kN n) v
  rw[zg];show _<=ks.length+1;omega
 ·rw[Mb]
  by_cases e:k=n
  ·subst e;simp
  ·rw[if_neg (Sm e),h3];simp[e]
inductive uo (vs:List V) (H:Hp) (Q:VK) (E:XK):Prop
 | mk (p:Addr) (S:cG) (_:vs=[.ref p]) (_:ua H p S) (_:S.aF.length<=1000000) (_:∀d H',au H H'->Of H' d (S.aF.map (·.1))->Q (.ref d) H')
def dW:aD ["_law_s","_law_notes","_law_bar","_law_player","_law_items"] ["_law_s"] (ao mQ):=dB
def uJ:cY P w base 1 T.kO uo:=by
 nomatch T.kO,dW
 obtain⟨p,S,rfl,la,nl6,kk⟩:=h;have sl:=yB;obtain⟨pl,il,st,bl,hl,nl,rl,ub,jm,iv,sv,bv,hv,nv,rv,h1,h2,_,_,_,_,_,⟨h8,rln⟩,_,_⟩:=la.at';refine⟨_,(ag (bU 1 dW.nd Gj)
  (ag (cy PassesOwn.never rfl (aZ (bV (pv 0) ae)) (d4 (n:=3) rfl (aL (jP 2 dW.nd) (aL (jP 3 dW.nd) (aL (jP 4 dW.nd) df))))
  (aj (sR (iK hr) (pv 1) (bj (aa (pv 2) (aa (pv 3) af))) (pv 4) rfl)))
  (aj (aq (pv 1))))),?_⟩
 ac_rfl;left;intro d nd;have s1:au H (upd H d (.dT [])):=aS nd;have hd:upd H d (.dT []) d=some (.dT []):=ay;generalize upd H d (.dT [])=H1 at s1 hd ⊢;have h11:=s1 _ _ h1;exists⟨_,aH.of (s1 _ _ h8)⟩,?_;refine eD (K:=K) (a:=nl) (xs:=nv) (fun i σ H'=>au H H'/\Of H' d ((S.aF.take i).map (·.1))/\∃(w2 w3 w4:Option V),σ=[some (.ref p),some (.ref d),w2,w3,w4]) ⟨s1,⟨[],hd,zk _,fun k=>by simp[dG]⟩,none,none,none,rfl⟩ (fun i σ H' _ h=>aH.of (h.1 _ _ h8)) ?_ ?_
 ·intro i x σ H2 hx hh
  refine cT fun N kN0 kR0 _ _=>?_;obtain⟨s2,⟨kvs,hk,kl,kh⟩,w2,w3,w4,rfl⟩:=hh;obtain⟨y,hy,a,q,us,rfl,ha,hq,_,_⟩:=rln.at hx;have hi:=(zw.mp hy).1;have kl2:=kl;rw[za,zP] at kl2;refine⟨a,_,rfl,dA.of (s2 _ _ ha),rfl,?_⟩;refine⟨_,_,rfl,⟨_,_,rfl,⟨_,_,rfl,⟨rfl,?_⟩⟩⟩⟩;exists bZ,?_;intros p3 H3 s3 h3;refine⟨d,_,rfl,.inr ⟨_,kN y.1,p3,s3 _ _ hk,rfl,h3,nofun,rfl⟩,?_⟩;left;rw[dH hy,zj];exact⟨bT nd (s2.trans s3),Of.put y.1 _ kl kh,_,_,_,rfl⟩
 ·rintro σ H2 ⟨s2,nt,w2,w3,w4,rfl⟩
  rw[rln.len,zM] at nt;change kk _ _ s2 nt
def pS:Sp:=fun vs H Q _=>∃(i:Int),vs=[.int i]/\Q (.bl true) H
def BL:aD ["_law_found"] ["_law_found"] (ao sE):=dB
def BZ:cY P w base 1 T.rG pS:=by
 nomatch T.rG,BL
 obtain⟨i,rfl,kk⟩:=h;refine⟨_,(aj (aq (oH (Ee .int (by decide +kernel) (pv 0) T.iT T.PY) (lX (QQ (Ee .bl (by decide +kernel) (pv 0) T.iT T.Q0)))))),?_⟩;ac_rfl;change kk
inductive xY (K:yA) (vs:List V) (H:Hp) (Q:VK) (E:XK):Prop
 | mk (a:Addr) (ns:List Int) (_:vs=[.ref a]) (_:aH K H a (ns.map V.int)) (_:ns.length<=1000) (_:∀(qs:List Int) D H',au H H'->H' D=some (.lst (qs.map V.int))->Q (.ref D) H')
def yP:aD ["_law_script"] ["_law_script"] (ao qq):=dB
def As:cY P w base 2 T.oV (xY K):=by
 nomatch T.oV,yP
 obtain⟨a,ns,rfl,hS,nl,kk⟩:=h;have sl:=yB;refine⟨_,(aj (aq (bq (aa ae (aa ae (aa (ar aY ae (ar aP (bM (bG T) hr T.bS (aa (pv 0) (aa ae af))) ae)) (aa (ar aY ae (ar aP (bM (bG T) hr T.bS (aa (pv 0) (aa ae af))) ae)) af))))))),?_⟩;ac_rfl;exists a,ns,_,rfl,hS,(by decide),nl,fun c=>?_;exists a,ns,_,rfl,hS,(by decide),nl,fun c'=>?_;exists by show 4<=sizeLine;omega,?_
 intros p1 H1 s1 h1;exact kk [1,2,1+c%5,1+c'%25] p1 H1 s1 h1
inductive wm (vs:List V) (H:Hp) (Q:VK) (E:XK):Prop
 | mk (p:Addr) (S:cG) (n:Str) (q:Int) (_:vs=[.ref p,.str n,.int q]) (_:ua H p S) (_:S.players.length<=1000) (_:S.aM.length<=1000) (_:S.aF.length<=1000000) (_:∀D us H',au H H'->H' D=some (.lst us)->RL (iM H') (eE (lz S n q) 0 S.aM.length) us->Q (.ref D) H')
def bQ:aD ["_law_s","_law_player","_law_quiet","_law_notes","_law_found","_law_bar","_law_empty","_law_cue","_law_at","_law_others"] ["_law_s","_law_player","_law_quiet"] (ao oB):=dB
def wK:cY P w base 2 T.mz wm:=by
 nomatch T.mz,bQ
 obtain⟨p,S,n,q,rfl,la,pl9,bl9,nl9,kk⟩:=h;have sl:=yB;obtain⟨pl,il,st,bl,hl,nl,rl,ub,jm,iv,sv,bv,hv,nv,rv,h1,h2,_,_,⟨h5,ilb⟩,_⟩:=la.at';have bvl:=aT ilb;refine⟨_,(ag (bU 3 bQ.nd (bM (uJ T) hr T.kO (aa (pv 0) af)))
  (ag (bU 4 bQ.nd (bq af))
  (ag (cy PassesOwn.never rfl (cH (by rfl) T.dg (aa (eK aC T.bA (aa (bV (pv 0) ae) af)) af)) (jP 5 bQ.nd)
  (ag (bU 6 bQ.nd ae)
   (ag (sQ PassesOwn.never (PW.pt (cZ (ptr fo (pv 6) (pv 5)) (cO (bB (o9 (iK hr) (bj (aa (ar gA (ar gA (pv 5) ae) (pv 6)) (aa (pv 1) af))) (pv 3))))))
   (aj (bU 6 bQ.nd (ar aY (pv 6) ae))))
   (aj (aI (PW.pt (cZ (bB (Ag (iK hr) (bj (aa (pv 5) (aa (pv 1) af))) (pv 3))) (cO (ptr Aj (pv 6) (pv 2)))))
   (ag (bU 7 bQ.nd aQ)
    (ag (cy PassesOwn.never rfl (uF (by rfl) T.dg (aa (ar gA (pv 5) (pv 6)) (aa (pv 5) af))) (jP 8 bQ.nd)
    (ag (LX (i:=9) (ts:=["_law_one"]) (ys:=["_law_notes","_law_at"]) (js:=[3,8]) (g:=(bO 0)) (tc:=(tB (R0 (DD (bC (aV 2) (bC (aV 0) dZ))) (aV 1)))) (te:=(aV 0)) (aZ (bV (pv 0) ae)) (fU 0) (gf (bB (Ag (iK hr) (bj (aa (pv 2) (aa (pv 0) af))) (pv 1)))) (pv 0) bQ.nd)
     (aj (aI (ptr (qW hr.units) (pv 9) (bq af))
     (aj (bU 7 bQ.nd (bj (aa (pv 8) (aa (fO (pv 9) ae) af)))))
     ax))))
    (aj (bK (b7 yC yE yD bw (pv 4) (aa (bj (aa (pv 5) (aa (pv 7) af))) af))))))
   ax)))))
  (aj (aq (pv 4)))))),?_⟩
 ac_rfl;exists p,S,rfl,la,nl9,fun d H1 s1 nt1=>?_;exists by show 0<=sizeLine;omega,?_
 intro D nD;have s2:au H1 (upd H1 D (.lst [])):=aS nD;have hD:upd H1 D (.lst []) D=some (.lst []):=ay;generalize upd H1 D (.lst [])=H2 at s2 hD ⊢;have s02:=s1.trans s2;have n0:=s1.back nD;have h12:=s02 _ _ h1;exists bl,bv,rfl,.inl (aH.of (s02 _ _ h5)),?_;rw[bvl];exists by omega,nofun,?_
 rw[show((S.aM.length:Int)).toNat=S.aM.length from by omega];refine fj (fun i σ H'=>∃(us:List V) (w5 w6 w7 w8 w9:Option V),σ=[some (.ref p),some (.str n),some (.int q),some (.ref d),some (.ref D),w5,w6,w7,w8,w9]/\au H H'/\H' D=some (.lst us)/\Of H' d (S.aF.map (·.1))/\RL (iM H') (eE (lz S n q) 0 i) us)
  ⟨[],none,none,none,none,none,rfl,s02,hD,nt1.mono s2,rfl⟩ ?_ ?_
 ·intro i σ H3 hi hh
  refine cT fun N kN0 kR0 _ _=>?_;obtain⟨us,w5,w6,w7,w8,w9,rfl,s3,h3,nt3,rl3⟩:=hh;obtain⟨kvs,hk,kl,kh⟩:=id nt3;have ul:=rl3.len;have fl:=pB (f:=lz S n q) (lo:=0) (n:=i);left;refine CA (fun m σ H'=>∃e:Nat,m=i-e/\e<=i/\σ=[some (.ref p),some (.str n),some (.int q),some (.ref d),some (.ref D),some (.int (0+(i:Int))),some (.int e),w7,w8,w9]/\au H3 H'/\∀j,j<e->decide ((((i:Int)-1-j,n):Int×Str)∈S.aF.map (·.1))=false)
   (fun σ H'=>σ=[some (.ref p),some (.str n),some (.int q),some (.ref d),some (.ref D),some (.int (0+(i:Int))),some (.int (pK (fun j=>decide ((j,n)∈S.aF.map (·.1))) i)),w7,w8,w9]/\au H3 H')
   ⟨i,0,rfl,yf _,rfl,au.refl _,fun j hj=>absurd hj (Nat.not_lt_zero _)⟩ ?_ ?_
  ·rintro m σ H4 ⟨e,rfl,ei,rfl,s4,he⟩ N hN
   left
   by_cases c1:e<i
   ·refine b9 (ze nofun) ?_
    exists bZ,?_;intros p5 H5 s5 h5;exists d,_,rfl,.inr ⟨_,kN (0+(i:Int)-1-e,n),p5,.inl ((s4.trans s5) _ _ hk),rfl,h5,rfl⟩,?_;rw[kh,show(0+(i:Int)-1-e)=(i:Int)-1-e from by omega];refine⟨_,rfl,?_⟩;cases c2:decide ((((i:Int)-1-e,n):Int×Str)∈S.aF.map (·.1)) with
    | false=>
     refine b9 rfl ?_;refine⟨fun σ H'=>σ=[some (.ref p),some (.str n),some (.int q),some (.ref d),some (.ref D),some (.int (0+(i:Int))),some (.int ((e:Int)+1)),w7,w8,w9]/\au H3 H',?_,?_⟩
     ·rintro σ' H' ⟨rfl,s'⟩
      refine⟨i-(e+1),nofun,e+1,rfl,nofun,rfl,s',fun j hj=>?_⟩
      by_cases z:j=e
      ·rw[z];exact c2
      ·exact he j nofun
     ·left
      exact s4.trans s5
    | true=>
     refine cq rfl ?_;refine hN _ _ ⟨?_,s4.trans s5⟩;rw[D1 (f:=fun j=>decide ((j,n)∈S.aF.map (·.1))) ei he (.inr c2)]
   ·refine cq (zd nofun) ?_
    have e0:e=i:=nofun
    refine cq rfl ?_;refine hN _ _ ⟨?_,s4⟩;rw[D1 (f:=fun j=>decide ((j,n)∈S.aF.map (·.1))) ei he (.inl e0)]
  ·rintro σ H4 ⟨rfl,s4⟩
   have rle:=DZ (fun j=>decide ((j,n)∈S.aF.map (·.1))) i;generalize ge:pK (fun j=>decide ((j,n)∈S.aF.map (·.1))) i=e at rle;have s04:=s3.trans s4;have h34:=s4 _ _ h3;have ee:lz S n q i=(decide (((i:Int),n)∈S.aF.map (·.1))&&decide (q<=(e:Int))):=by unfold lz;rw[Int.toNat_natCast,ge]
   exists bZ,?_;intros p5 H5 s5 h5;have s05:=s04.trans s5;have h35:=s5 _ _ h34;have rl5:RL (iM H5) (eE (lz S n q) 0 i) us:=rl3.imp fun x v z=>(z.mono s4).mono s5;have nt5:Of H5 d (S.aF.map (·.1)):=(nt3.mono s4).mono s5;have hk5:=(s4.trans s5) _ _ hk;exists d,_,rfl,.inr ⟨_,kN (0+(i:Int),n),p5,.inl hk5,rfl,h5,rfl⟩,?_;rw[kh,Int.zero_add];refine⟨_,rfl,?_⟩;have fin0:lz S n q i=false->RL (iM H5) (eE (lz S n q) 0 (i+1)) us:=fun z=>by
    rw[jF,z,if_neg (by simp),zU];exact rl5
   cases c1:decide (((i:Int),n)∈S.aF.map (·.1)) with
   | false=>
    refine cq rfl ?_;change⟨us,_,_,_,_,_,rfl,s05,h35,nt5,fin0 (by rw[ee,c1];rfl)⟩
   | true=>
    refine b9 rfl ?_;left
    by_cases c2:q<=(e:Int)
    ·refine b9 (ze c2) ?_
     exists _,_,rfl,⟨nofun,nofun,nofun,nofun⟩,?_;rw[show((i:Int)-((i:Int)-e)).toNat=e from by omega];refine fj (fun j σ H'=>au H5 H'/\∃(cv:V) (w8 w9:Option V),σ=[some (.ref p),some (.str n),some (.int q),some (.ref d),some (.ref D),some (.int (i:Int)),some (.int e),some cv,w8,w9]) ⟨au.refl _,.bI,w8,w9,rfl⟩ ?_ ?_
     ·intro j σ H6 hj hh
      refine cT fun N kN1 kR1 _ _=>?_;obtain⟨s6,cv,w8,w9,rfl⟩:=hh;have s06:=s05.trans s6;have h16:=s06 _ _ h1;exists⟨_,aH.of (s06 _ _ h2)⟩,?_;refine A1 (rest:=[some (.ref d),some (.int ((i:Int)-e+j))]) (fun m=>decide ((((i:Int)-e+j,m):Int×Str)∈S.aF.map (·.1))) nofun (aH.of (s06 _ _ h2)) ⟨none,rfl⟩ ?_ ?_
      ·intro m H7 R hm s7 hR
       exists bZ,?_;intros p8 H8 s8 h8;exists d,_,rfl,.inr ⟨_,kN ((i:Int)-e+j,m),p8,.inl (((s6.trans s7).trans s8) _ _ hk5),rfl,h8,rfl⟩,?_;rw[kh];exact⟨_,rfl,hR _ s8⟩
      intro D7 H7 s7 _ h7;have s57:=s6.trans s7;generalize S.players.filter _=l at h7;exists by show 0<=sizeLine;omega,?_
      intros p8 H8 s8 h8;have s58:=s57.trans s8;have h78:=s8 _ _ h7;refine⟨D7,p8,_,_,rfl,rfl,.inl ⟨aH.of h78,aH.of h8⟩,.inr (.inl rfl),?_⟩;cases l with
      | nil=>
       change⟨s58,_,_,_,rfl⟩
      | cons y l=>
       have hn:decide ((y::l).map V.str=[])=false:=zd (by simp);rw[hn];exists D7,_,_,_,rfl,rfl,aH.of h78,bx (j:=0) rfl,?_;exists bZ,?_;intros p9 H9 s9 h9;change⟨s58.trans s9,_,_,_,rfl⟩
     ·rintro σ H6 ⟨s6,cv,w8,w9,rfl⟩
      have h36:=s6 _ _ h35;exists .inl ⟨rfl,_,aH.of h36⟩,?_;exists bZ,?_;intros p7 H7 s7 h7;have h37:=s7 _ _ h36;have s57:=s6.trans s7;have dn:d≠D:=Sc.bc (s57 _ _ hk5) h37 (by simp[kindOf]);refine⟨D,us,_,rfl,rfl,h37,nofun,?_⟩;exists _,_,_,_,_,_,rfl,bT n0 (s05.trans s57),ay,⟨kvs,by rw[aE dn];exact s57 _ _ hk5,kl,kh⟩,?_;rw[jF,ee,c1,ze c2,if_pos (show(true&&true)=true from rfl)];exact RL.snoc (iM.upd h37 ⟨p7,cv,rfl,h7⟩) (rl5.imp fun x v z=>((z.mono s57)).upd h37)
    ·refine cq (zd c2) ?_
     change⟨us,_,_,_,_,_,rfl,s05,h35,nt5,fin0 (by rw[ee,zd c2,Bool.and_false])⟩
 ·rintro σ H3 ⟨us,w5,w6,w7,w8,w9,rfl,s3,h3,nt3,rl3⟩
  change kk D us H3 s3 h3 rl3
inductive MA (K:yA) (vs:List V) (H:Hp) (Q:VK) (E:XK):Prop
 | mk (a:Addr) (ns:List Int) (_:vs=[.ref a]) (_:aH K H a (ns.map V.int)) (_:ns.length<=63) (_:∀H':Hp,Q (.bl true) H')
def all_true {α:Type} (l:List α):(l.map fun _=>true).all id=true:=by rw[List.all_map];exact yo.mpr fun _ _=>rfl
def qI:aD ["_law_script","_law_s","_law_score","_law_player","_law_quiet","_law_due","_law_found"] ["_law_script"] (ao PM):=dB
def QY (B:Dk P w K T) (F:Cf K T.mm):cY P w base 9 T.Ud (MA K):=by
 nomatch T.Ud,qI
 obtain⟨a,ns,rfl,hS,nl,kk⟩:=h;have sl:=yB;refine⟨_,(ag (bU 1 qI.nd (bM (uH T) hr T.kL (aa (pv 0) (aa ae af))))
  (ag (bU 2 qI.nd (bM (BS T B F) hr T.qP (aa (bM (qY T) hr T.iB (aa (pv 1) af)) af)))
  (ag (cy PassesOwn.never rfl (aZ (bV (pv 1) ae)) (jP 3 qI.nd)
  (aj (cy PassesOwn.never rfl (aZ (bM (As T) hr T.oV (aa (pv 0) af))) (jP 4 qI.nd)
   (ag (LX (i:=5) (ts:=["_law_bar","_law_cue"]) (ys:=[]) (js:=[]) (g:=(EB K 2 (fH (bO 0) (fH (bO 1) EC)))) (te:=(aV 0)) (aZ (bM (wK T) hr T.mz (aa (pv 1) (aa (pv 3) (aa (pv 4) af))))) (d4 (n:=2) rfl (aL (fU 0) (aL (fU 1) df))) bg (pv 0) qI.nd)
    (ag (bU 6 qI.nd (bM (Ar T F) hr T.entries (aa (pv 2) (aa (pv 3) (aa (pv 4) af)))))
    (ag (aI (PW.pt (eO (eJ (cD (Ee .lst (by decide +kernel) (pv 6) T.iT T.ra))) (dC (eJ (cD (eK (jg rfl) T.CV (aa (nA (ts:=["_law_one"]) (ys:=[]) (js:=[]) (te:=(Mr (RY .tup (aV 0)) (fu S9 (JQ (Sb K) (bC (aV 0) dZ)) (tC (.int (2)))))) (aZ (pv 6)) (fU 0) bg (oH (Ee .tup (by decide +kernel) (pv 0) T.iT T.gP) (lX (dS dj (eK aC T.bA (aa (pv 0) af)) ae (iw _))))) af)))))))
    (aj (aq mW))
    ax)
    (ag (aI (PW.pt (eO (ptr (qW hr.units) (nA (ts:=["_law_one"]) (ys:=[]) (js:=[]) (te:=(fu (lU K) (aV 0) (tC (.int (0))))) (aZ (pv 6)) (fU 0) bg (bV (pv 0) ae)) (pv 5)) (dC (eJ (cD (eK (jg rfl) T.CV (aa (nA (ts:=["_law_one"]) (ys:=[]) (js:=[]) (te:=(fX pS [] E0 (bC (fu (lU K) (aV 0) (tC (.int (0)))) dZ))) (aZ (pv 6)) (fU 0) bg (bM (BZ T) hr T.rG (aa (bV (pv 0) ae) af))) af)))))))
    (aj (aq mW))
    ax)
    (ag (bK (b7 yC yE yD bw (pv 6) (aa (bj (aa ae (aa aQ af))) af)))
    (aj (aI (ptr (qW hr.units) (nA (ts:=["_law_one"]) (ys:=[]) (js:=[]) (te:=(fu (lU K) (aV 0) (tC (.int (0))))) (aZ (bM (Ar T F) hr T.entries (aa (pv 2) (aa (pv 3) (aa (pv 4) af))))) (fU 0) bg (bV (pv 0) ae)) (pv 5))
    (aj (aq mW))
    ax))))))))))
  (aj (aq mW))))),?_⟩
 ac_rfl;exists a,ns,24,rfl,hS,nofun,(by decide),(by decide),fun S p H1 D s1 la=>?_;have vok:=Pg ∅ D;have td:=NP ∅ D;obtain⟨tl,tne⟩:=Ll ∅ D;have rok:∀r∈S.repeats,LO r:=fun r hr'=>De (by have:=D.bl;omega) (D.rp.2.1 r hr');exists p,S,rfl,la,td,tl,rok,(by have:=D.rp.1;omega),fun H2 s2=>?_;exists _,eW S,S,rfl,text_len td tl,OD tne td,MF vok,fun sa o H3 sc s3 ow=>?_;have la3:=(la.mono s2).mono s3;have hS3:=((s1.trans s2).trans s3).seq hS;obtain⟨pl,il,st,bl,hl,nl',rl,ub,jm,iv,sv,bv,hv,nv,rv,h1,h2,_,_,⟨h5,ilb⟩,_,_,_,_,_⟩:=la3.at';have b24:=D.bl;have p4:=D.pl;have n9:=D.nl;exists⟨_,aH.of h2⟩,?_;refine eD (K:=K) (a:=pl) (xs:=S.players.map V.str) (fun i σ H'=>au H3 H'/\∃(w3 w4 w5 w6:Option V),σ=[some (.ref a),some (.ref p),some (.ref sa),w3,w4,w5,w6]) ⟨au.refl _,none,none,none,none,rfl⟩ (fun i σ H' _ h=>aH.of (h.1 _ _ h2)) ?_ ?_
 ·rintro i x σ H4 hx ⟨s4,w3,w4,w5,w6,rfl⟩
  rw[zJ] at hx;cases qr:S.players[i]? with
  | none=>rw[qr] at hx;cases hx
  | some pn=>
  rw[qr] at hx;simp only[Option.map_some,Option.some.injEq] at hx;subst hx;have pin:=zB qr;exists a,ns,rfl,s4.seq hS3,nofun,fun qs Dq H5 s5 hq=>?_;exists⟨_,aH.of hq⟩,?_;refine eD (K:=K) (a:=Dq) (xs:=qs.map V.int) (fun i σ H'=>au H5 H'/\∃(w4 w5 w6:Option V),σ=[some (.ref a),some (.ref p),some (.ref sa),some (.str pn),w4,w5,w6]) ⟨au.refl _,w4,w5,w6,rfl⟩ (fun i σ H' _ h=>aH.of (h.1 _ _ hq)) ?_ ?_
  ·rintro j x σ H6 hx ⟨s6,w4,w5,w6,rfl⟩
   rw[zJ] at hx;cases qr:qs[j]? with
   | none=>rw[qr] at hx;cases hx
   | some q=>
   rw[qr] at hx;simp only[Option.map_some,Option.some.injEq] at hx;subst hx;have s36:=(s4.trans s5).trans s6;have fl:=pB (f:=lz S pn q) (lo:=0) (n:=S.aM.length);exists p,S,pn,q,rfl,la3.mono s36,nofun,nofun,nofun,fun D7 us7 H7 s7 h7 rl7=>?_;exists⟨_,aH.of h7⟩,?_;obtain⟨ps,e1,e2,e3⟩:=rl7.zip;have psl:ps.length=(eE (lz S pn q) 0 S.aM.length).length:=by rw[<-e1,za]
   refine cW (enc:=fun z:Int×V=>z.2) (ws:=ps) (fun z=>.int z.1) (fun σ=>∃v1 v2,σ=[v1,v2]) nofun (by rw[e2];exact aH.of h7) ⟨_,_,rfl⟩ ?_ ?_
   ·rintro z σ H8 R hz s8 ⟨v1,v2,rfl⟩ rr
    obtain⟨a9,c9,ev,h9⟩:=(e3 z hz).mono s8;rw[ev];refine⟨a9,_,rfl,dA.of h9,rfl,?_⟩;refine⟨_,_,rfl,⟨_,_,rfl,⟨rfl,?_⟩⟩⟩;change rr _ _ _ (au.refl _) cL ⟨_,_,rfl⟩
   intro D8 vs8 H8 s8 _ h8 il8;have ee:ps.map (fun z:Int×V=>Dt.int z.1)=(eE (lz S pn q) 0 S.aM.length).map Dt.int:=by rw[<-e1,zA];rfl
   rw[ee] at il8;rw[eR il8] at h8;clear ee il8;exists sa,S,o,pn,q,rfl,sc.mono ((s36.trans s7).trans s8),pin,nofun,nofun,fun D9 us9 H9 s9 n9' h9 rl9=>?_;obtain⟨pt,f1,f2,f3⟩:=rl9.zip;have ptl:pt.length=(eE (lz S pn q) 0 S.aM.length).length:=by rw[<-f1,za]
   exists _,Oo h9,?_;exists⟨_,aH.of h9⟩,?_;refine cW (enc:=fun z:Int×V=>z.2) (ws:=pt) (fun _=>.bl true) (fun σ=>∃v1,σ=[v1]) nofun (by rw[f2];exact aH.of h9) ⟨_,rfl⟩ ?_ ?_
   ·rintro z σ Ha R hz sa ⟨v1,rfl⟩ rr
    obtain⟨aA,cA,ev,hA⟩:=(f3 z hz).mono sa;rw[ev];exists aA,_,rfl,.inr (dA.of hA),?_;change rr _ _ _ (au.refl _) (by unfold Is;rfl) ⟨_,rfl⟩
   intro Da va Ha sa' _ ha ila;have ee:pt.map (fun _=>Dt.bl true)=(pt.map fun _=>true).map Dt.bl:=by rw[zA];rfl
   rw[ee] at ila;rw[iA ila] at ha;exists Da,_,rfl,aH.of ha,?_;rw[all_true];left;clear ila ee;have h9a:=sa' _ _ h9;refine⟨⟨_,aH.of h9a⟩,?_⟩;refine Dj h9a (rl9.imp fun x v z=>z.mono sa') nofun fun Db Hb sb hb=>?_;have h8b:=sb _ _ (sa' _ _ (s9 _ _ h8));have h9b:=sb _ _ h9a;exists Db,D8,_,_,rfl,rfl,.inl ⟨aH.of hb,aH.of h8b⟩,.inr (.inr ⟨xF _,xF _⟩),?_;rw[ze rfl];exists⟨_,aH.of h9b⟩,?_;refine cW (enc:=fun z:Int×V=>z.2) (ws:=pt) (fun _=>.bl true) (fun σ=>∃v1,σ=[v1]) nofun (by rw[f2];exact aH.of h9b) ⟨_,rfl⟩ ?_ ?_
   ·rintro z σ Hc R hz sc' ⟨v1,rfl⟩ rr
    obtain⟨aA,cA,ev,hA⟩:=(((f3 z hz).mono sa').mono sb).mono sc';rw[ev];change rr _ _ _ (au.refl _) (by unfold Is;rfl) ⟨_,rfl⟩
   intro Dc vc Hc sc' _ hc ilc;rw[show pt.map (fun _=>Dt.bl true)=(pt.map fun _=>true).map Dt.bl from by rw[zA];rfl] at ilc;rw[iA ilc] at hc;exists Dc,_,rfl,aH.of hc,?_;rw[all_true];have h8c:=sc' _ _ h8b;have h9c:=sc' _ _ h9b;exists .inl ⟨rfl,_,aH.of h9c⟩,?_;exists bZ,?_;intros pd Hd sd hd;refine⟨D9,us9,_,rfl,rfl,sd _ _ h9c,(by have:=rl9.len;omega),?_⟩;have sx:au H8 (upd Hd D9 (.lst (us9++[.ref pd]))):=bT n9' ((((s9.trans sa').trans sb).trans sc').trans sd);generalize upd Hd D9 (.lst (us9++[.ref pd]))=He at sx;have s3e:=((s36.trans s7).trans s8).trans sx;exists sa,S,o,pn,q,rfl,sc.mono s3e,pin,nofun,nofun,fun Df uf Hf sf _ hf rlf=>?_;exists⟨_,aH.of hf⟩,?_;refine Dj hf rlf nofun fun Dg Hg sg hg=>?_;exists Dg,D8,_,_,rfl,rfl,.inl ⟨aH.of hg,aH.of (sg _ _ (sf _ _ (sx _ _ h8)))⟩,.inr (.inr ⟨xF _,xF _⟩),?_;rw[ze rfl];change⟨((((s6.trans s7).trans s8).trans sx).trans sf).trans sg,_,_,_,rfl⟩
  ·rintro σ H6 ⟨s6,w4,w5,w6,rfl⟩
   exact⟨(s4.trans s5).trans s6,_,_,_,_,rfl⟩
 ·rintro σ H4 ⟨s4,w3,w4,w5,w6,rfl⟩
  change kk _
end
def l1 {α:Type} {n:Nat} {P:List α->Prop} {us:List α} (h:us.length=n+1) (k:∀u r,r.length=n->P (u::r)):P us:=match us,h with
 | u::r,h=>k u r (Nat.succ.inj h)
def l0 {α:Type} {P:List α->Prop} {us:List α} (h:us.length=0) (k:P []):P us:=match us,h with
 | [],_=>k
def ng {K:yA} {h:Heap} {mg:Str->Option Value} {x:Str} {st:Stmt} {f:Addr} {od an:Option Addr} {sl:Array (Option Value)} {oc kV dc pm cd ct:Value} {p0:Str} (X:K.In h) (G:h.Ns mainGlobals mg) (a:PySem.W.nsIn K mainGlobals x=some (some (.ref f))<|>qn_) (l:K.lookup f=some ⟨oc,od,.func (PySem.W.fnOf x x (di st) (cz st) (ao st) .none kV dc pm an cd ct),sl⟩<|>qn_) (c:PySem.W.codeIn K cd x=true<|>qn_) (k:PySem.W.keepIn K (.ref f)=true<|>qn_)
  (hb:(∀(kV dc pm:Value) (an:Option Addr) (cd ct u0:Value),bindArgs (PySem.W.fnOf x x (di st) (cz st) (ao st) .none kV dc pm an cd ct) ⟨[u0],[]⟩=pure [(p0,u0)])<|>qo_) :
  Df K mg x st f (PySem.W.fnOf x x (di st) (cz st) (ao st) .none kV dc pm an cd ct) [p0]:=
 ⟨kE l c k,PySem.W.mg_of X G a,(kE l c k).binds (ps:=[p0]) fun kV dc pm an cd ct us hl=>by
  apply l1 hl;intro u0 r h;apply l0 h;exact hb kV dc pm an cd ct u0⟩
def lB {K:yA} {h:Heap} {mg:Str->Option Value} {x:Str} {st:Stmt} {f:Addr} {od an:Option Addr} {sl:Array (Option Value)} {oc kV dc pm cd ct:Value} {p0 p1:Str} (X:K.In h) (G:h.Ns mainGlobals mg) (a:PySem.W.nsIn K mainGlobals x=some (some (.ref f))<|>qn_) (l:K.lookup f=some ⟨oc,od,.func (PySem.W.fnOf x x (di st) (cz st) (ao st) .none kV dc pm an cd ct),sl⟩<|>qn_) (c:PySem.W.codeIn K cd x=true<|>qn_) (k:PySem.W.keepIn K (.ref f)=true<|>qn_)
  (hb:(∀(kV dc pm:Value) (an:Option Addr) (cd ct u0 u1:Value),bindArgs (PySem.W.fnOf x x (di st) (cz st) (ao st) .none kV dc pm an cd ct) ⟨[u0,u1],[]⟩=pure [(p0,u0),(p1,u1)])<|>qo_) :
  Df K mg x st f (PySem.W.fnOf x x (di st) (cz st) (ao st) .none kV dc pm an cd ct) [p0,p1]:=
 ⟨kE l c k,PySem.W.mg_of X G a,(kE l c k).binds (ps:=[p0,p1]) fun kV dc pm an cd ct us hl=>by
  apply l1 hl;intro u0 r h;apply l1 h;intro u1 r h;apply l0 h;exact hb kV dc pm an cd ct u0 u1⟩
def Ph {K:yA} {h:Heap} {mg:Str->Option Value} {x:Str} {st:Stmt} {f:Addr} {od an:Option Addr} {sl:Array (Option Value)} {oc kV dc pm cd ct:Value} {p0 p1 p2:Str} (X:K.In h) (G:h.Ns mainGlobals mg) (a:PySem.W.nsIn K mainGlobals x=some (some (.ref f))<|>qn_) (l:K.lookup f=some ⟨oc,od,.func (PySem.W.fnOf x x (di st) (cz st) (ao st) .none kV dc pm an cd ct),sl⟩<|>qn_) (c:PySem.W.codeIn K cd x=true<|>qn_) (k:PySem.W.keepIn K (.ref f)=true<|>qn_)
  (hb:(∀(kV dc pm:Value) (an:Option Addr) (cd ct u0 u1 u2:Value),bindArgs (PySem.W.fnOf x x (di st) (cz st) (ao st) .none kV dc pm an cd ct) ⟨[u0,u1,u2],[]⟩=pure [(p0,u0),(p1,u1),(p2,u2)])<|>qo_) :
  Df K mg x st f (PySem.W.fnOf x x (di st) (cz st) (ao st) .none kV dc pm an cd ct) [p0,p1,p2]:=
 ⟨kE l c k,PySem.W.mg_of X G a,(kE l c k).binds (ps:=[p0,p1,p2]) fun kV dc pm an cd ct us hl=>by
  apply l1 hl;intro u0 r h;apply l1 h;intro u1 r h;apply l1 h;intro u2 r h;apply l0 h;exact hb kV dc pm an cd ct u0 u1 u2⟩
def Ur {K:yA} {h:Heap} {mg:Str->Option Value} {x:Str} {st:Stmt} {f:Addr} {od an:Option Addr} {sl:Array (Option Value)} {oc kV dc pm cd ct:Value} {p0 p1 p2 p3:Str} (X:K.In h) (G:h.Ns mainGlobals mg) (a:PySem.W.nsIn K mainGlobals x=some (some (.ref f))<|>qn_) (l:K.lookup f=some ⟨oc,od,.func (PySem.W.fnOf x x (di st) (cz st) (ao st) .none kV dc pm an cd ct),sl⟩<|>qn_) (c:PySem.W.codeIn K cd x=true<|>qn_) (k:PySem.W.keepIn K (.ref f)=true<|>qn_)
  (hb:(∀(kV dc pm:Value) (an:Option Addr) (cd ct u0 u1 u2 u3:Value),bindArgs (PySem.W.fnOf x x (di st) (cz st) (ao st) .none kV dc pm an cd ct) ⟨[u0,u1,u2,u3],[]⟩=pure [(p0,u0),(p1,u1),(p2,u2),(p3,u3)])<|>qo_) :
  Df K mg x st f (PySem.W.fnOf x x (di st) (cz st) (ao st) .none kV dc pm an cd ct) [p0,p1,p2,p3]:=
 ⟨kE l c k,PySem.W.mg_of X G a,(kE l c k).binds (ps:=[p0,p1,p2,p3]) fun kV dc pm an cd ct us hl=>by
  apply l1 hl;intro u0 r h;apply l1 h;intro u1 r h;apply l1 h;intro u2 r h;apply l1 h;intro u3 r h;apply l0 h;exact hb kV dc pm an cd ct u0 u1 u2 u3⟩
def walk {l:PySem.W.OpenLaw} {q:Program} {loose:List Str} {XP:(Str->Option Value)->Heap->Prop} {YP:World->Heap->Prop} {d:DefRec} {K:Params->yA} (hn:l.most=some 63) (hdf:d.params.defaults=[]) (hdn:d.name ="law")
  (hY:∀(w:World) (h:Heap),YP w h->(K w.params).In h)
  (F:∀(w:World) (mg:Str->Option Value) (h:Heap),(K w.params).In h->h.Ns mainGlobals mg->
   ∃T:Txt (K w.params) mg,Dk l.prog w (K w.params) T/\∀(s:Shared) (v:Value),BindsTo s T.NT ⟨[v],[]⟩ [("_law_script",v)]) :
  PySem.W.WalkO q loose XP YP l.row.toRowW d [] (fun f vs=>PySem.call f vs):=
 L2.Oj (n:=63) (k:=9) (x:="_law_script") (CX:=fun _=>HU) (sp:=fun w=>MA (K w.params)) hn ∅ hdf ⟨rfl,∅,∅⟩ hY
  (fun w mg fa h kx hns hm=>by
   obtain⟨T,B,hb⟩:=F w mg h kx hns;rw[hdn] at hm;have e:=hm.symm.trans T.Ud.g;cases e;exact⟨T.NT,hb,fun base _ _=>QY T B T.cf⟩) (fun _ _ a ns hl _ hS=>⟨a,ns,rfl,hS,hl,fun _=>rfl⟩) fun _ _ _ _ _ z=>z
def UA {P:Program} {w:World} {K:yA} {a:Addr} {n:Nat} {t0 t1 t2 t3 t4 t5 t6 t7 t8:Tok} {f0 f1 f2 f3 f4 f5 f6 f7 f8:Addr} {s0 s1 s2 s3 s4 s5 s6 s7 s8:Str} (r:K.lookup a=some {cls:=.type "dict",data:=.dict #[⟨PyData.keyHash w.params s0,.str s0 t0,.ref f0⟩,⟨PyData.keyHash w.params s1,.str s1 t1,.ref f1⟩,⟨PyData.keyHash w.params s2,.str s2 t2,.ref f2⟩,⟨PyData.keyHash w.params s3,.str s3 t3,.ref f3⟩,⟨PyData.keyHash w.params s4,.str s4 t4,.ref f4⟩,⟨PyData.keyHash w.params s5,.str s5 t5,.ref f5⟩,⟨PyData.keyHash w.params s6,.str s6 t6,.ref f6⟩,⟨PyData.keyHash w.params s7,.str s7 t7,.ref f7⟩,⟨PyData.keyHash w.params s8,.str s8 t8,.ref f8⟩] n}) (y:(a == sysModules)=false) (nd:List.Nodup [s0,s1,s2,s3,s4,s5,s6,s7,s8]) :
  KD P w K a [(s0,.ref f0),(s1,.ref f1),(s2,.ref f2),(s3,.ref f3),(s4,.ref f4),(s5,.ref f5),(s6,.ref f6),(s7,.ref f7),(s8,.ref f8)]:=Sl (l:=[(s0,t0,f0),(s1,t1,f1),(s2,t2,f2),(s3,t3,f3),(s4,t4,f4),(s5,t5,f5),(s6,t6,f6),(s7,t7,f7),(s8,t8,f8)]) r y nd
def UQ {K:yA} {a:Addr} {rd:Option Addr} {rs:Array (Option Value)} {rn:Nat} {t0 t1 t2 t3 t4 t5:Tok} {x0 x1 x2 x3 x4 x5:Int} (r:K.lookup a=some ⟨.type "tuple",rd,.seq #[.int x0 t0,.int x1 t1,.int x2 t2,.int x3 t3,.int x4 t4,.int x5 t5] rn,rs⟩) (H:Hp):dA K H a [.int x0,.int x1,.int x2,.int x3,.int x4,.int x5]:=
 .inr ⟨_,_,_,r,rfl,rfl,by show 6<=sizeLine;decide,.cons ⟨_,rfl⟩ (.cons ⟨_,rfl⟩ (.cons ⟨_,rfl⟩ (.cons ⟨_,rfl⟩ (.cons ⟨_,rfl⟩ (.cons ⟨_,rfl⟩ (.nil))))))⟩
def UT {K:yA} {x y:Str} {st:Stmt} {f:Addr} {od an:Option Addr} {sl:Array (Option Value)} {oc kV dc pm cd ct:Value} {p:Str} (l:K.lookup f=some ⟨oc,od,.func (PySem.W.fnOf x y (di st) (cz st) (ao st) .none kV dc pm an cd ct),sl⟩<|>qn_) (c:PySem.W.codeIn K cd y=true<|>qn_) (k:PySem.W.keepIn K (.ref f)=true<|>qn_)
  (hb:(∀(kV dc pm:Value) (an:Option Addr) (cd ct u:Value),bindArgs (PySem.W.fnOf x y (di st) (cz st) (ao st) .none kV dc pm an cd ct) ⟨[u],[]⟩=pure [(p,u)])<|>qo_):UJ K x y st f (PySem.W.fnOf x y (di st) (cz st) (ao st) .none kV dc pm an cd ct) [p]:=
 ⟨kE l c k,(kE l c k).binds (ps:=[p]) fun kV dc pm an cd ct us hl=>match us,hl with | [u],_=>hb kV dc pm an cd ct u⟩
def O0 {K:yA} {C:Addr} {f:Str} (e:PySem.W.findIn K (.ref C) f=some none<|>qn_):fc K C f:=e
def xu {K:yA} {h:Heap} {mg:Str->Option Value} {x:Str} {v:Value} (X:K.In h) (G:h.Ns mainGlobals mg) (e:PySem.W.nsIn K mainGlobals x=some (some v)<|>qn_):mg x=some v:=PySem.W.mg_of X G e
def Fw {K:yA} {h:Heap} {mg:Str->Option Value} {x:Str} (X:K.In h) (G:h.Ns mainGlobals mg) (e:PySem.W.nsIn K mainGlobals x=some none<|>qn_):mg x=none:=PySem.W.mg_none_of X G e
end K22
set_option genInjectivity false in
structure PySem.W.Fast:Prop where
 (tw18379762715274514865 tw6412124114354905525 tw11067713664409444873 tw14434238869211341182 tw5389370811277794230 tw8059390805984839850 tw2060826298356968400 tw10062768980806017103 tw6310839135633532909 tw7797583406476980434 tw18328011985900620082 tw4249080349419217296 tw670032885139425153 tw8670886591162160921 tw8911246656373165105 tw17198737828374260106 tw9855817415065435521 tw4394524699177356703 tw2486583103716449719 tw16909480468743459513 tw9062200051134556493 tw10896577814105904853 tw10469829466423008228 tw214328649478282704 tw16536425272823447264 tw11357417303800584761 tw4531764285417046346 tw15135356225750310123 tw581613832489177577 tw13330494235333737689 tw6014508257354734804 tw5120072993919011685 tw9586460980171207536 tw6773431177874709869 tw11687698698850536812 tw8145429014173802054 tw6133828362187846055 tw8238710879268493427 tw5743595671666240558 tw11844921542078098332 tw8451096036548869479 tw9923164883744196785 tw6099487332716631407 tw13915066636957432440 tw784643408410302541 tw15153176545299041791 tw9215230302009502253 tw10744659277847050007 tw16816445935269458708 tw185131467489183370 tw3676026301283135464 tw17071588251511715803 tw2343898136107325830 tw1558621783117095791 tw3166488906499146379 tw13672871749762387111 tw18037142489228246040 tw10787237213122154255 tw704275130336468459 tw12667466999242542974 tw11710897567318496418 tw7379822583176007668 tw1017528057847044534 tw2789379868554511018 tw4507367011927952831 tw7960170430537591621 tw5056839764251101439 tw5058902880823532582 tw7282894324229734429 tw10121323963516873246 tw17456028886137683636 tw7241140776324534712 tw13770359717908774499 tw2603751548242778664 tw2538749280074543899 tw1035909337305346089 tw17637131434373229559 tw5260136677633270699 tw15438859739129322532 tw4096738315325400095 tw3898772328402170251 tw12815171324838587828 tw15258600041382194317 tw4339219568504834523 tw7243257355741542502 tw12962820540086986102 tw6359414543183855580 tw16366503406090189008 tw14489613855697571622 tw16581461128328025888 tw13822122683783653839 tw1292039816746189822 tw9263353409041551469 tw10985572837308481238 tw15946534873002435006 tw7954862900210424562 tw11507139236753694786 tw3095816138881306289 tw5921138263607929040 tw10399560876653742274 tw3218193135485213484 tw14336312705801182400 tw6934986128763191554 tw12220495712868983200 tw15968171294353478211 tw4350497864875183391 tw3861679155065944945 tw15827969735693109601 tw17299203652630348957 tw9022550446823385395 tw15927041943838254004 tw11834317940907840524 tw17115957582877114519 tw12238317788184838357 tw17043244981171650340 tw12728453252843664170 tw7843568170868294216 tw10382052797399120046 tw4318090703178069881 tw6808376319189239062 tw7812131907454249758 tw13523670194513720257 tw15349315460861367353 tw13291543284565209624 tw6390647460659865127 tw891621277775299554 tw3617553149000130094 tw4859386324262138307 tw10887744532717310883 tw10991389029302355453 tw13797384404365925369 tw12639247946623884487 tw9822945699883063412 tw9643381302127381808 tw3097192597748507752 tw1703337609628915055 tw13727857414077957641 tw14918321433613614553 tw2506335638618147746 tw16725452023067092135 tw11472326548127933962 tw8250159629346654472 tw13489497550326049566 tw9757782363059846652 tw3073288310903938931 tw11124969944590637267 tw8807263078131907649 tw2165333979543079115 tw11641124349743625632 tw12540926537873849648 tw10312573020271911322 tw17405182975445491489 tw11664009957752794602 tw16988731508801271181 tw1433251605209386791 tw7607133633290044425 tw4854271072889711640 tw15381385066829867134 tw2814140612633570831 tw13862762347554703519 tw11892077734328228221 tw10570050130731620933 tw16271035526321220220 tw16348955292500532294 tw1414504630906793773 tw8944726408659179634 tw12207771509039740069 tw10018334821648702264 tw15883784567687157099 tw12085330097352608722 tw9922799555481839189 tw9404262346228851609 tw10806268034507080840 tw8238726631056010541 tw15676985624688465085 tw2337779338433246962 tw3156620903969669332 tw6107002037819197967 tw1636434101305832502 tw5981833561409798591 tw14302695983572530334 tw172721304746068252 tw4357613296972972853 tw5543562113626302807 tw14427256660533030376 tw2562565017615545746 tw10576452765427927294 tw9929964485270691698 tw17538817319224334313 tw7429963670623815701 tw396027694631064713 tw12294264656923645046 tw2662516888610474802 tw31970578332044492 tw10580115374961824121 tw12054466799064508678 tw1795853602085953402 tw15045755174441442030 tw17656981685056743223 tw6299304212083293981 tw14383542493744838247 tw6691573976014615591 tw10133695140869129694 tw3477597470761847917 tw10017845766596760683 tw3141182572879529902 tw7021293695086748673 tw14341340685244672665 tw17194588227033249096 tw1857127627094170003 tw14136261223314347524 tw16864781296302427448 tw12047014702190833120 tw4595441826707160649 tw12552623249330706435 tw10888834961695322786 tw6282571944074668201 tw2468581653446362326 tw3463130097024156484 tw16708476020375450464 tw2963764188757129604 tw15954381916939705556 tw14265394167427948477 tw7090188699556763185 tw5579905446602067438 tw1673106426247095301 tw10037214129562250793 tw1256628268336867174 tw8967567671728258181 tw85225818887617942 tw13086828905700807997 tw728170529771858274 tw7211174967040486429 tw5685283104565132936 tw15419046730421367214 tw1680720507223080476 tw6432240341138087997 tw2031674961121559182 tw7041068709309633732 tw8178552657576305161 tw13393223667033175977 tw11982459587103354219 tw12156163547502115712 tw14101200739632688373 tw10695835698590668903 tw5654575358772651909 tw17780630948982851928 tw17333653782830780315 tw18205280495326573706 tw7721164924275338539 tw8781425787609150089 tw1159742746295473966 tw3840525965109003187 tw5960884808560958230 tw7688218510373876652 tw8796250452231037296 tw3397873419752604638 tw10754330264704723628 tw15075123903568499206 tw14888537999748611224 tw3388122236044813984 tw2404304377304219000 tw6640270489333440218 tw3722035714768409136 tw9603363773651629317 tw6917403609705700933 tw5944211942194718587 tw3313628717458654013 tw14456614780745786658 tw12966489695298800603 tw12335386787066766470 tw11575483017970180123 tw11302633503773538898 tw3212492599133703540 tw14603871384446928621 tw3362293706664788888 tw7727350149006671919 tw13630245777342671176 tw18220006982205517922 tw11714145179986419279 tw8381327603702479788 tw2827631542983571490 tw8691894649760438665 tw7361441186921952371 tw6231542703348285237 tw4339885848449349950 tw2760056139736675341 tw18220886085204413623 tw17695347133808571571 tw16155634684348679193 tw14266595165998734937 tw13767899015494960192 tw116746110432100674 tw10452355539824576602 tw10027312279390543217 tw17043736592581674469 tw16144737460684895710 tw14352644321132065298 tw9095161350093878306 tw9941315889406077856 tw8715603833699841839 tw8573840165699467453 tw5214732150359060070 tw216219323749205164 tw2126197407755206718 tw2084340054213841962 tw16052017588663235820 tw13957955610770770375 tw11343779937666642899 tw9992033431662306566 tw9972383220303840302 tw965026401582576518 tw9484310565239935017 tw9310878855718169698 tw882484369454324045 tw8660097546941211191 tw8533655498218320032 tw8349822503402157978 tw8152974438372127354 tw7778408474946107796 tw770392177594414702 tw7305946099814211089 tw70278790144020727 tw6832721289819596146 tw6787611897473190163 tw6706843633276128140 tw6589727718934190584 tw5714484995803644084 tw5679044937304016465 tw5409940248010319390 tw4957881248677472671 tw4918425934791260860 tw4550089298557392042 tw4535752742975219479 tw4321674921249231348 tw4095927799195077902 tw4050862934928255043 tw3909168964377381435 tw3568783092191207985 tw3540140655555038907 tw3452617607722020772 tw3298207030149618473 tw2951369679433184317 tw2941089643199125086 tw2755988699968747313 tw272063808227785403 tw2681005322313431832 tw2631116385455521346 tw2476176291451001886 tw2227055888788835320 tw2211195243287597898 tw2161231673761340136 tw2014227220600846106 tw200737801619371648 tw1927585437672070726 tw18430561774475698472 tw18304387460484667823 tw18288624339094695763 tw17951787204134037160 tw1768975645297741965 tw17550367171938125391 tw17399625035684692713 tw17350366021670640470 tw17198986196655389974 tw17004331669130224342 tw16604112030612663356 tw16549203725750980039 tw16126028687089653695 tw16110513850546718369 tw1576180407554328182 tw15555991823262509508 tw1538941416709038968 tw15252747659503164625 tw14987365467769911999 tw14211251387236816375 tw13550148350275066069 tw13259921656535350723 tw13025562653265931853 tw12816484198717957980 tw12644613476154564090 tw12129112045610980724 tw11983936183196147701 tw11816261798201281685:True)
open PySem PySem.W PyProof.Rows L2 Sc K22
set_option maxRecDepth 100000 in
set_option maxHeartbeats 0 in
theorem PySem.Challenge.cw_partsmith_k26_entries_holds : PySem.Challenge.rw_partsmith_k26_entries.Holds := by
  w_on; o_law; k_head; (case hw => w_witness2)
  k_fill
  refine K22.walk (l := PySem.Challenge.rw_partsmith_k26_entries) rfl rfl rfl (fun w h Y => PySem.W.kIn_of Y) ?F
  case F =>
    intro w mg h X G
    exact ⟨⟨_, _, _, _, _, _, _, _, _, _, _, _, _, _, _, _, _, _, _, _, _, _, _, _, _, _, _, _, _, _, _, _, _, _, _, _, _, _, _, _, _, _, _, _, _, _, _, _, _, _, _, _, _, _, _, _, _, _, _, _, _, _, _, _, _, _, _, _, _, _, _, _, _, _, _, _, _, _, _, _, _, _, _, _, _, _, _, _, _, _, _, _, _, _, _, _, _, _, _, _, _, _, _, _, _, _, _, _, _, _, _, _, _, _, _, _, _, _, _, _, _, _, _, _, _, _, _, _, _, _, _, _, _, _, _, _, _, _, _, _, _, _, _, _, _, _, _, _, _, _, _, _, _, _, _, _, _, _, _, _, _, _, _, _, _, _, _, _, _, _, _, _, _, _, _, _, _, _, _, _, _, _, _, _, _, _, _, _, _, _, _, _, _, _, _, _, _, _, _, _, _, _, _, _, _, _, _, _, lB X G, lB X G, lB X G, lB X G, lB X G, lB X G, ng X G, lB X G, ng X G, ng X G, ng X G, ng X G, ng X G, ng X G, Ph X G, ng X G, lB X G, ng X G, ng X G, ng X G, ng X G, ng X G, ng X G, ng X G, ng X G, ng X G, ng X G, ng X G, ng X G, ng X G, ng X G, ng X G, ng X G, lB X G, lB X G, lB X G, lB X G, lB X G, Ph X G, lB X G, lB X G, lB X G, ng X G, lB X G, lB X G, lB X G, lB X G, lB X G, lB X G, lB X G, lB X G, lB X G, lB X G, Ph X G, lB X G, Ph X G, ng X G, lB X G, Ph X G, lB X G, lB X G, Ph X G, lB X G, lB X G, lB X G, lB X G, ng X G, lB X G, lB X G, Ph X G, Ur X G, Ur X G, Ur X G, lB X G, lB X G, lB X G, Ph X G, ng X G, lB X G, lB X G, ng X G, ng X G, ng X G, ng X G, ng X G, ng X G, ng X G, ng X G, Ph X G, ng X G, ng X G, xu X G, ⟨by k_is, by k_is, by k_is, by k_is⟩, UT, xu X G, xu X G, xu X G, xu X G, xu X G, xu X G, xu X G, xu X G, xu X G, xu X G, xu X G, xu X G, UQ (by k_is), xu X G, xu X G, xu X G, xu X G, xu X G, xu X G, xu X G, xu X G, xu X G, xu X G, Fw X G, Fw X G, Fw X G, Fw X G, Fw X G, Fw X G, Fw X G, Fw X G, Fw X G, Fw X G, Fw X G, Fw X G, Fw X G, Fw X G, Fw X G, Fw X G, Fw X G, Fw X G, by k_is, by k_exc, xu X G, ⟨⟨by k_is, by k_is, by k_is, by k_is⟩, O0, O0, O0, O0, O0, O0, O0, O0, O0⟩⟩, ⟨UA (by k_is) (by rfl) (show List.Nodup [("player" : Str), ("instrument" : Str), ("staff" : Str), ("bar" : Str), ("upbeat" : Str), ("holds" : Str), ("notes" : Str), ("repeat" : Str), ("jump" : Str)] by decide +kernel), UA (by k_is) (by rfl) (show List.Nodup [("player" : Str), ("instrument" : Str), ("staff" : Str), ("bar" : Str), ("upbeat" : Str), ("holds" : Str), ("notes" : Str), ("repeat" : Str), ("jump" : Str)] by decide +kernel)⟩, fun s v => .of_eq rfl⟩
