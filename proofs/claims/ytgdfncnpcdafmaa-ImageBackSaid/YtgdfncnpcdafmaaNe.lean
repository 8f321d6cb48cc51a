import Derived.Test.YtgdfncnpcdafmaaKx
namespace Go.Proofs.Ytgdfncnpcdafmaa
set_option linter.unusedSimpArgs false
set_option linter.unusedVariables false
open Go.RowKit
def SayS (P:Program) (fid:FuncId→Option Nat) (s:Stmt) (st:St) (Q:AX→St→Prop):Prop:=∀ c fr0 fr w0 nt m a w ro,CodeS P fid nt c s→(ro=none∨rangeless c=true)→SInv P fid fr0 fr w0 nt m st a w →
 c.wpIn (FF ro) 0 P (fun ex a' w'=>∃ x st',Q x st'∧Post P fid fr0 fr w0 nt m st.lo (x,st') ex a' w') a w
def SayO (P:Program) (fid:FuncId→Option Nat) (l:List SOp) (st:St) (Q:St→Prop):Prop:=∀ (ops:Array Oper) (idx:List Nat) (fr0 fr:Nat→Prop) (w0:World) (nt:Nat) (m:Mem) (a:Act) (w:World) (ro:Option Nat) (QQ:Exit→Act→World→Prop),idx.length=l.length →
 (∀ (k i:Nat) (so:SOp),idx[k]? = some i→l[k]? = some so→∃ o,ops[i]? = some o∧csop P fid nt ops o=some so.base)→SInv P fid fr0 fr w0 nt m st a w →
 (∀ st' m' a' w',Q st'→Fwd fr st.lo m m'→st'.lo=st.lo→SInv P fid fr0 fr w0 nt m' st' a' w'→QQ .normal a' w')→wpOpsIn (FF ro) 0 P ops QQ idx a w
def RawOkN (P:Program) (fid:FuncId→Option Nat) (f:FuncId) (as:List AV) (hp:List Blk) (Q:AV→List Blk→Prop):Prop:=
 ∀ (fr:Nat→Prop) w0 m w (args:Array Value),m.P=P→m.cd=fid→HInv fr w0 m hp w []→CL m as (fun i=>args[i]?)→args.size=as.length →
  CallsIn Fence.wide 0 P f args w fun e w'=>∃ v hp' u m',Q v hp'∧e=.returned u∧Fwd fr hp.length m m'∧HInv fr w0 m' hp' w' []∧R m' w' v u []
def SayC (P:Program) (fid:FuncId→Option Nat) (k:Nat) (as:List AV) (hp:List Blk) (Q:AV→List Blk→Prop):Prop:=∀ f,fid f=some k→FnThere P f∧RawOkN P fid f as hp Q
section
variable {P:Program} {fid:FuncId→Option Nat} {T:Nat→Option Entry}
theorem SayS.mono {s:Stmt} {st:St} {Q Q':AX→St→Prop} (h:SayS P fid s st Q) (hq:∀ x st',Q x st'→Q' x st'):SayS P fid s st Q':=by
 intro c fr0 fr w0 nt m a w ro hc hro S
 refine wpIn_mono (h c fr0 fr w0 nt m a w ro hc hro S) ?_
 rintro ex a1 w1 ⟨x,st',h1,h2⟩
 exact ⟨x,st',hq _ _ h1,h2⟩
theorem SayO.mono {l:List SOp} {st:St} {Q Q':St→Prop} (h:SayO P fid l st Q) (hq:∀ st',Q st'→Q' st'):SayO P fid l st Q':=by
 intro ops idx fr0 fr w0 nt m a w ro QQ h1 h2 S h3
 exact h ops idx fr0 fr w0 nt m a w ro QQ h1 h2 S fun st' m' a' w' k=>h3 st' m' a' w' (hq _ k)
theorem SayC.mono {k:Nat} {as:List AV} {hp:List Blk} {Q Q':AV→List Blk→Prop} (h:SayC P fid k as hp Q) (hq:∀ v hp',Q v hp'→Q' v hp'):SayC P fid k as hp Q':=by
 intro f hf
 obtain ⟨h1,h2⟩:=h f hf
 refine ⟨h1,fun fr w0 m w args a1 a2 a3 a4 a5=>(h2 fr w0 m w args a1 a2 a3 a4 a5).mono ?_⟩
 rintro e w' ⟨v,hp',u,m',k1,k2⟩
 exact ⟨v,hp',u,m',hq _ _ k1,k2⟩
theorem S_det (G:Good P fid T) {s:Stmt} {st:St} {Q:AX→St→Prop} (h:Ev T s st Q):SayS P fid s st Q:=by
 obtain ⟨r,hr,hq⟩:=h
 obtain ⟨n,hn⟩:=run_some.1 hr
 have hs:=says G n _ _ hn
 intro c fr0 fr w0 nt m a w ro hc hro S
 refine wpIn_mono (hs c fr0 fr w0 nt m a w ro hc hro S) ?_
 intro ex a1 w1 h
 exact ⟨r.1,r.2,hq,h⟩
theorem roundsIn_le {F:Fence} {n:Nat} {P:Program} {c:Code} {Q:Exit→Act→World→Prop}:∀ {k l:Nat} {a:Act} {w:World},k≤l→Code.roundsIn F n P c Q k a w→Code.roundsIn F n P c Q l a w:=by
 intro k
 induction k with
 | zero=>intro l a w _ h;exact h.elim
 | succ k ih=>
  intro l a w hl h
  obtain ⟨l,rfl⟩:∃ l',l=l'+1:=⟨l - 1,by omega⟩
  rw [roundsIn_succ] at h ⊢
  refine wpIn_mono h ?_
  intro e a w h
  cases e<;>first | exact ih (by omega) h | exact h
end
end Go.Proofs.Ytgdfncnpcdafmaa
